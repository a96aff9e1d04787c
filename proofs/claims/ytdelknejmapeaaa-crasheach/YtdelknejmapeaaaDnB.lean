/-
  A disk with nothing armed, by data: what its calls come to; the contracts said so.
-/
import Derived.Test.YtdelknejmapeaaaDmC
import Derived.Test.YtdelknejmapeaaaDmD
namespace Go.Proofs.Ytdelknejmapeaaa.Dk
open Go.RowKit Go.Maps Go.Sort Go.Shelf Go.Proofs.Ytdelknejmapeaaa.Nm

/-- Up, nothing armed; the lasting directory, what pends, the files, how many operations. -/
structure Cm (S : DS) (M : Nat) (L2 : Dr) (PP : List Ch) (F : Nat → Fl) (c : Int) : Prop where
  up : S.up = true
  al : S.al = []
  most : S.most = (M : Int)
  l2 : S.l2 = L2
  P : S.P = PP
  F : S.F = F
  c7 : S.c7 = c
theorem Cm.dir {S : DS} {M : Nat} {L2 : Dr} {PP : List Ch} {F : Nat → Fl} {c : Int} (h : Cm S M L2 PP F c) : S.dir = runs L2 PP := by unfold DS.dir; rw [h.l2, h.P]
theorem Cm.find {S : DS} {M : Nat} {L2 : Dr} {PP : List Ch} {F : Nat → Fl} {c : Int} (h : Cm S M L2 PP F c) {s : ByteArray} {p : Nat} (hm : may s.data.toList = true) (hg : get (runs L2 PP) s.data.toList = some p) : S.find s = (some p, 0) := find_get h.up hm (by rw [h.dir]; exact hg)
theorem Cm.create {S : DS} {M : Nat} {L2 : Dr} {PP : List Ch} {F : Nat → Fl} {c : Int} (h : Cm S M L2 PP F c) {s : ByteArray} (hm : may s.data.toList = true) (hg : get (runs L2 PP) s.data.toList = none) (hl : (runs L2 PP).length < 256) (p : Nat) :
    (S.create s p).2 = 0 ∧ Cm (S.create s p).1 M L2 (PP ++ [.cr s p]) (upd F p ⟨[], [], 0⟩) (c + 1) := by
  have e : S.create s p = ({ (S.beg 0).str S.flt.2.1 with P := S.P ++ [.cr s p], F := upd S.F p ⟨[], [], 0⟩ }, 0) := by
    unfold DS.create
    rw [ref_up h.up hm, if_neg (by simp), h.dir, hg, if_neg (by simp), if_neg (by omega), flt_none h.al, if_neg (by decide)]
  rw [e, flt_none h.al]
  refine ⟨rfl, ⟨h.up, ?_, h.most, h.l2, ?_, ?_, ?_⟩⟩
  · show adel S.al _ = []; rw [h.al]; rfl
  · show S.P ++ _ = _; rw [h.P]
  · show upd S.F p _ = _; rw [h.F]
  · show S.c7 + 1 = _; rw [h.c7]
theorem Cm.append {S : DS} {M : Nat} {L2 : Dr} {PP : List Ch} {F : Nat → Fl} {c : Int} (h : Cm S M L2 PP F c) {s : ByteArray} {p : Nat} (hm : may s.data.toList = true) (hg : get (runs L2 PP) s.data.toList = some p) (D : List UInt8) (hD : sumL F (runs L2 PP) + D.length ≤ M) :
    (S.append s D).2.1 = (D.length : Int) ∧ (S.append s D).2.2 = 0 ∧ Cm (S.append s D).1 M L2 PP (upd F p (apF (F p) D)) (c + 1) := by
  have hn : S.apN D.length = D.length := by
    unfold DS.apN DS.room
    rw [flt_none h.al, if_neg (by decide), h.dir, h.F, h.most]
    omega
  have e : S.append s D = ({ (S.beg 1).str S.flt.2.1 with F := upd S.F p (apF (S.F p) (D.take (S.apN D.length))), c8 := S.c8 + (S.apN D.length : Int) }, (S.apN D.length : Int), if strF S.flt.2.1 ≠ 0 then strF S.flt.2.1 else if S.apN D.length < D.length then 21 else 0) := by
    unfold DS.append
    rw [h.find hm hg]
  rw [e, hn, flt_none h.al, List.take_length]
  refine ⟨rfl, ?_, ⟨h.up, ?_, h.most, h.l2, h.P, ?_, ?_⟩⟩
  · show (if strF 0 ≠ 0 then strF 0 else if D.length < D.length then 21 else 0) = 0
    rw [if_neg (by decide), if_neg (by omega)]
  · show adel S.al _ = []; rw [h.al]; rfl
  · show upd S.F p (apF (S.F p) D) = _; rw [h.F]
  · show S.c7 + 1 = _; rw [h.c7]
theorem Cm.sync {S : DS} {M : Nat} {L2 : Dr} {PP : List Ch} {F : Nat → Fl} {c : Int} (h : Cm S M L2 PP F c) {s : ByteArray} {p : Nat} (hm : may s.data.toList = true) (hg : get (runs L2 PP) s.data.toList = some p) :
    (S.sync s).2 = 0 ∧ Cm (S.sync s).1 M L2 PP (upd F p (syF (F p))) (c + 1) := by
  have e : S.sync s = ({ S.beg 2 with F := upd S.F p (syF (S.F p)) }, 0) := by
    unfold DS.sync
    rw [h.find hm hg]
    dsimp only
    rw [flt_none h.al, if_neg (by decide), if_neg (by decide)]
  rw [e]
  refine ⟨rfl, ⟨h.up, ?_, h.most, h.l2, h.P, ?_, ?_⟩⟩
  · show adel S.al _ = []; rw [h.al]; rfl
  · show upd S.F p (syF (S.F p)) = _; rw [h.F]
  · show S.c7 + 1 = _; rw [h.c7]
theorem Cm.rename {S : DS} {M : Nat} {L2 : Dr} {PP : List Ch} {F : Nat → Fl} {c : Int} (h : Cm S M L2 PP F c) {s t : ByteArray} {p : Nat} (hm : may s.data.toList = true) (hm2 : may t.data.toList = true) (hg : get (runs L2 PP) s.data.toList = some p) (hne : s ≠ t) :
    (S.rename s t).2 = 0 ∧ Cm (S.rename s t).1 M L2 (PP ++ [.rn s t]) F (c + 1) := by
  have hr : S.ref [s, t] = 0 := by unfold DS.ref; rw [h.up]; simp [hm, hm2]
  have e : S.rename s t = ({ S.hit 4 with P := S.P ++ [.rn s t] }, 0) := by
    unfold DS.rename
    rw [hr, if_neg (by simp), h.find hm hg, if_neg (by simp), flt_none h.al, if_neg (by decide), if_neg hne]
  rw [e, hit_none h.al]
  refine ⟨rfl, ⟨h.up, ?_, h.most, h.l2, ?_, h.F, ?_⟩⟩
  · show adel S.al _ = []; rw [h.al]; rfl
  · show S.P ++ _ = _; rw [h.P]
  · show S.c7 + 1 = _; rw [h.c7]
theorem Cm.syncDir {S : DS} {M : Nat} {L2 : Dr} {PP : List Ch} {F : Nat → Fl} {c : Int} (h : Cm S M L2 PP F c) : S.syncDir.2 = 0 ∧ Cm S.syncDir.1 M (runs L2 PP) [] F (c + 1) := by
  have hr : S.ref [] = 0 := by unfold DS.ref; rw [h.up]; rfl
  have e : S.syncDir = ({ S.hit 6 with l2 := S.dir, P := [] }, 0) := by
    unfold DS.syncDir
    rw [hr, if_neg (by simp), flt_none h.al, if_neg (by decide)]
  rw [e, hit_none h.al]
  refine ⟨rfl, ⟨h.up, ?_, h.most, h.dir, rfl, h.F, ?_⟩⟩
  · show adel S.al _ = []; rw [h.al]; rfl
  · show S.c7 + 1 = _; rw [h.c7]
theorem Cm.crash {S : DS} {M : Nat} {L2 : Dr} {PP : List Ch} {F : Nat → Fl} {c : Int} (h : Cm S M L2 PP F c) (d : Int) (ks : List Kep) : Cm (S.crash d ks) M (runs L2 (PP.take (wthn d PP.length))) [] (crashL (runs L2 (PP.take (wthn d PP.length))) (nms (runs L2 (PP.take (wthn d PP.length)))) ks F) c := by
  have hf : S.front d = runs L2 (PP.take (wthn d PP.length)) := by unfold DS.front; rw [h.l2, h.P]
  refine ⟨rfl, rfl, h.most, hf, rfl, ?_, h.c7⟩
  show crashL (S.front d) (nms (S.front d)) ks S.F = _
  rw [hf, h.F]
theorem Cm.size {S : DS} {M : Nat} {L2 : Dr} {PP : List Ch} {F : Nat → Fl} {c : Int} (h : Cm S M L2 PP F c) {s : ByteArray} {p : Nat} (hm : may s.data.toList = true) (hg : get (runs L2 PP) s.data.toList = some p) : S.size s = (((F p).by_.length : Int), 0) := by
  unfold DS.size
  rw [h.find hm hg]
  dsimp only
  rw [h.F]
theorem Cm.read {S : DS} {M : Nat} {L2 : Dr} {PP : List Ch} {F : Nat → Fl} {c : Int} (h : Cm S M L2 PP F c) {s : ByteArray} {p : Nat} (hm : may s.data.toList = true) (hg : get (runs L2 PP) s.data.toList = some p) (n : Nat) (hn : n ≤ (F p).by_.length) : S.read s 0 (n : Int) = ((F p).by_.take n, 0) := by
  unfold DS.read
  rw [h.find hm hg]
  dsimp only
  rw [h.F, if_pos (by omega)]
  simp
/-- A file that lasts whole stays as it is. -/
theorem crFl_whole (z : List UInt8) (k : Kep) : crFl ⟨z, z, 0⟩ k = ⟨z, z, 0⟩ := by
  have : crF ⟨z, z, 0⟩ k.1 k.2 = z := by
    unfold crF jnk
    simp [wthn, svd]
  unfold crFl
  rw [this]
theorem crashL_whole (l : Dr) (ns : List (List UInt8)) (ks : List Kep) (F : Nat → Fl) (h : ∀ s ∈ ns, ∀ p, get l s = some p → ∃ z, F p = ⟨z, z, 0⟩) : crashL l ns ks F = F := by
  induction ns generalizing ks with
  | nil => rfl
  | cons s r ih =>
    have e : crash1 F l s (ks.headD (0, [])) = F := by
      unfold crash1
      cases hg : get l s with
      | none => rfl
      | some p =>
        obtain ⟨z, hz⟩ := h s (by simp) p hg
        dsimp only
        rw [hz, crFl_whole]
        funext q
        unfold upd
        split
        · rename_i e; rw [e, hz]
        · rfl
    simp only [crashL]
    rw [e]
    exact ih _ fun t ht => h t (by simp [ht])
/-- A disk with nothing armed, in memory that was not there at w. -/
def CI (w q : World) (b M : Nat) (L2 : Dr) (PP : List Ch) (F : Nat → Fl) (c : Int) : Prop :=
  ∃ (S : DS) (O : Nat → Prop), DskE q b S O ∧ Cm S M L2 PP F c ∧ Below w.heap.size w q ∧ ∀ k, O k → w.heap.size ≤ k
theorem CI.below {w q q' : World} {b M : Nat} {L2 : Dr} {PP : List Ch} {F : Nat → Fl} {c : Int} (h : CI w q b M L2 PP F c) (hb : Below q.heap.size q q') : CI w q' b M L2 PP F c := by
  obtain ⟨S, O, hd, hm, hB, hl⟩ := h
  exact ⟨S, O, hd.below hb, hm, hB.trans (hb.mono hB.size), hl⟩
theorem CI.bel {w q : World} {b M : Nat} {L2 : Dr} {PP : List Ch} {F : Nat → Fl} {c : Int} (h : CI w q b M L2 PP F c) : Below w.heap.size w q := by
  obtain ⟨S, O, hd, hm, hB, hl⟩ := h
  exact hB
theorem ci_new {w : World} (q : World) (M : Nat) (hM : M ≤ 16777216) (hB : Below w.heap.size w q) : Calls Try.prog 26 #[.int .i64 (M : Int)] q fun e w' => ∃ b, e = .returned (.pointer (some ⟨b, 0, none⟩)) ∧ CI w w' b M [] [] noF 0 := by
  refine (new_dsk q (M : Int) (by omega) (by omega)).mono ?_
  rintro e w' ⟨b, O, rfl, hd, hb, hl⟩
  exact ⟨b, rfl, _, O, hd, ⟨rfl, rfl, rfl, rfl, rfl, rfl, rfl⟩, hB.trans (hb.mono hB.size), fun k hk => Nat.le_trans hB.size (hl k hk)⟩
theorem ci_create {w q : World} {b M : Nat} {L2 : Dr} {PP : List Ch} {F : Nat → Fl} {c : Int} (h : CI w q b M L2 PP F c) (hc : c < 800000000) (s : ByteArray) (hs : s.size ≤ 140737488355328) (hm : may s.data.toList = true) (hg : get (runs L2 PP) s.data.toList = none) (hl : (runs L2 PP).length < 256) :
    Calls Try.prog 11 #[.pointer (some ⟨b, 0, none⟩), .string s] q fun e w' => e = .returned (.int .i64 0) ∧ ∃ p, p ∉ L2.map (·.2) ++ PP.filterMap Ch.ptr ∧ CI w w' b M L2 (PP ++ [.cr s p]) (upd F p ⟨[], [], 0⟩) (c + 1) := by
  obtain ⟨S, O, hd, hC, hB, hlo⟩ := h
  refine (create_dsk hd s hs (by rw [hC.c7]; omega)).mono ?_
  rintro e w' ⟨p, _, hp, he, O', hd', hg'⟩
  obtain ⟨k1, k2⟩ := hC.create hm hg hl p
  rw [k1] at he
  refine ⟨he, p, ?_, _, O', hd', k2, hg'.under hlo (Nat.le_refl _) hB, hg'.low hB.size hlo⟩
  unfold DS.ps at hp
  rw [hC.l2, hC.P] at hp
  exact hp
theorem ci_append {w q : World} {b M : Nat} {L2 : Dr} {PP : List Ch} {F : Nat → Fl} {c : Int} (h : CI w q b M L2 PP F c) (hc : c < 800000000) (s : ByteArray) (hs : s.size ≤ maxLen) {p : Nat} (hm : may s.data.toList = true) (hg : get (runs L2 PP) s.data.toList = some p) (v : Value) (D : List UInt8) (hv : Sl w v D) (hD : sumL F (runs L2 PP) + D.length ≤ M) :
    Calls Try.prog 6 #[.pointer (some ⟨b, 0, none⟩), .string s, v] q fun e w' => e = .returned (.tuple #[.int .i64 (D.length : Int), .int .i64 0]) ∧ CI w w' b M L2 PP (upd F p (apF (F p) D)) (c + 1) := by
  obtain ⟨S, O, hd, hC, hB, hlo⟩ := h
  refine (append_dsk hd s hs v D (Below.sl hB hv) (soff_of hv hlo) (by rw [hC.c7]; omega)).mono ?_
  rintro e w' ⟨he, O', hd', hg'⟩
  obtain ⟨k1, k2, k3⟩ := hC.append hm hg D hD
  rw [k1, k2] at he
  exact ⟨he, _, O', hd', k3, hg'.under hlo (Nat.le_refl _) hB, hg'.low hB.size hlo⟩
theorem ci_sync {w q : World} {b M : Nat} {L2 : Dr} {PP : List Ch} {F : Nat → Fl} {c : Int} (h : CI w q b M L2 PP F c) (hc : c < 800000000) (s : ByteArray) (hs : s.size ≤ maxLen) {p : Nat} (hm : may s.data.toList = true) (hg : get (runs L2 PP) s.data.toList = some p) :
    Calls Try.prog 12 #[.pointer (some ⟨b, 0, none⟩), .string s] q fun e w' => e = .returned (.int .i64 0) ∧ CI w w' b M L2 PP (upd F p (syF (F p))) (c + 1) := by
  obtain ⟨S, O, hd, hC, hB, hlo⟩ := h
  obtain ⟨f, g, pd, am, VB, VL, hh⟩ := hd
  refine (syncF_any hh s hs (by rw [hC.c7]; omega)).mono ?_
  rintro e w' ⟨he, O', hd', hg'⟩
  obtain ⟨k1, k2⟩ := hC.sync hm hg
  rw [k1] at he
  exact ⟨he, _, O', hd', k2, hg'.under hlo (Nat.le_refl _) hB, hg'.low hB.size hlo⟩
theorem ci_rename {w q : World} {b M : Nat} {L2 : Dr} {PP : List Ch} {F : Nat → Fl} {c : Int} (h : CI w q b M L2 PP F c) (hc : c < 800000000) (s t : ByteArray) (hs : s.size ≤ 140737488355328) (ht : t.size ≤ 140737488355328) {p : Nat} (hm : may s.data.toList = true) (hm2 : may t.data.toList = true) (hg : get (runs L2 PP) s.data.toList = some p) (hne : s ≠ t) :
    Calls Try.prog 14 #[.pointer (some ⟨b, 0, none⟩), .string s, .string t] q fun e w' => e = .returned (.int .i64 0) ∧ CI w w' b M L2 (PP ++ [.rn s t]) F (c + 1) := by
  obtain ⟨S, O, hd, hC, hB, hlo⟩ := h
  refine (rename_dsk hd s t hs ht (by rw [hC.c7]; omega)).mono ?_
  rintro e w' ⟨he, O', hd', hg'⟩
  obtain ⟨k1, k2⟩ := hC.rename hm hm2 hg hne
  rw [k1] at he
  exact ⟨he, _, O', hd', k2, hg'.under hlo (Nat.le_refl _) hB, hg'.low hB.size hlo⟩
theorem ci_syncDir {w q : World} {b M : Nat} {L2 : Dr} {PP : List Ch} {F : Nat → Fl} {c : Int} (h : CI w q b M L2 PP F c) (hc : c < 800000000) :
    Calls Try.prog 16 #[.pointer (some ⟨b, 0, none⟩)] q fun e w' => e = .returned (.int .i64 0) ∧ CI w w' b M (runs L2 PP) [] F (c + 1) := by
  obtain ⟨S, O, hd, hC, hB, hlo⟩ := h
  refine (syncDir_dsk hd (by rw [hC.c7]; omega)).mono ?_
  rintro e w' ⟨he, O', hd', hg'⟩
  obtain ⟨k1, k2⟩ := hC.syncDir
  rw [k1] at he
  exact ⟨he, _, O', hd', k2, hg'.under hlo (Nat.le_refl _) hB, hg'.low hB.size hlo⟩
theorem ci_crash {w q : World} {b M : Nat} {L2 : Dr} {PP : List Ch} {F : Nat → Fl} {c : Int} (h : CI w q b M L2 PP F c) (hc : c < 800000000) (d : Int) (n0 : -9223372036854775808 ≤ d) (n1 : d ≤ 9223372036854775807) (v : Value) (ks : List Kep) (hk : Kp (fun k => k < w.heap.size) w v ks) :
    Calls Try.prog 10 #[.pointer (some ⟨b, 0, none⟩), .agg #[.int .i64 d, v]] q fun e w' => e = .returned (.tuple #[]) ∧ CI w w' b M (runs L2 (PP.take (wthn d PP.length))) [] (crashL (runs L2 (PP.take (wthn d PP.length))) (nms (runs L2 (PP.take (wthn d PP.length)))) ks F) c := by
  obtain ⟨S, O, hd, hC, hB, hlo⟩ := h
  have hk' : Kp (fun k => k < w.heap.size) q v ks := hk.but (X := fun k => ¬ k < w.heap.size) ⟨hB.os, hB.tape, hB.output, hB.size, fun k hk hx => hB.block k (by omega)⟩ (fun k hk c => c hk)
  refine (crash_dsk hd (by rw [hC.c7]; omega) d n0 n1 v _ ks hk' (fun k hk => ⟨fun c => by have := hlo k c; omega, Nat.lt_of_lt_of_le hk hB.size⟩)).mono ?_
  rintro e w' ⟨rfl, O', hd', hg'⟩
  exact ⟨rfl, _, O', hd', hC.crash d ks, hg'.under hlo (Nat.le_refl _) hB, hg'.low hB.size hlo⟩
theorem ci_size {w q : World} {b M : Nat} {L2 : Dr} {PP : List Ch} {F : Nat → Fl} {c : Int} (h : CI w q b M L2 PP F c) (s : ByteArray) (hs : s.size ≤ maxLen) {p : Nat} (hm : may s.data.toList = true) (hg : get (runs L2 PP) s.data.toList = some p) :
    Calls Try.prog 8 #[.pointer (some ⟨b, 0, none⟩), .string s] q fun e w' => e = .returned (.tuple #[.int .i64 ((F p).by_.length : Int), .int .i64 0]) ∧ Below q.heap.size q w' := by
  obtain ⟨S, O, hd, hC, hB, hlo⟩ := h
  have := size_dsk hd s hs
  rw [hC.size hm hg] at this
  exact this
theorem ci_read {w q : World} {b M : Nat} {L2 : Dr} {PP : List Ch} {F : Nat → Fl} {c : Int} (h : CI w q b M L2 PP F c) (s : ByteArray) (hs : s.size ≤ maxLen) {p : Nat} (hm : may s.data.toList = true) (hg : get (runs L2 PP) s.data.toList = some p) (n : Nat) (hn : n ≤ (F p).by_.length) :
    Calls Try.prog 7 #[.pointer (some ⟨b, 0, none⟩), .string s, .int .i64 0, .int .i64 (n : Int)] q fun e w' => ∃ v, e = .returned (.tuple #[v, .int .i64 0]) ∧ Ob q.heap.size w' v ((F p).by_.take n) ∧ Below q.heap.size q w' := by
  obtain ⟨S, O, hd, hC, hB, hlo⟩ := h
  have := read_dsk hd s hs 0 (n : Int)
  rw [hC.read hm hg n hn] at this
  exact this
/-- List. -/
def DS.list (S : DS) : List (List UInt8) × Int := if S.up then (nms S.dir, 0) else ([], 22)
set_option maxRecDepth 100000 in
theorem list_any {w : World} {b : Nat} {S : DS} {O : Nat → Prop} {f g : Nat} {pd : Value} {am : Option Nat} {VB VL : Nat → Value} (h : Dsk w b S O f g pd am VB VL) (hc : S.c7 < 1000000000) :
    Calls Try.prog 9 #[.pointer (some ⟨b, 0, none⟩)] w fun e w' => ∃ v, e = .returned (.tuple #[v, .int .i64 S.list.2]) ∧ w'.ownsRow w.heap.size 9 1 v S.list.1.length (S.list.1.map encStr) ∧ Below w.heap.size w w' := by
  have hr := refuse_any w _ _ (some (S.dc f g pd am)) [] h.dk.dp (row0 w) (by simp)
  rw [ref_dc] at hr
  obtain ⟨d1, _, _⟩ := dir_len h.ok hc
  have hN := names_any f S.dir w h.dk.mf (by omega)
  have c2 : w.cell? ⟨b, 2, none⟩ = some (.map (some f)) := h.dk.box.cells.2.2.1
  obtain ⟨R, hR⟩ : ∃ R, Hid (S.list = R) := ⟨_, rfl⟩
  rw [hR.out]
  cases hu : S.up with
  | true =>
    have e1 : S.ref [] = 0 := by unfold DS.ref; rw [hu]; rfl
    have e2 : Hid (R = (nms S.dir, 0)) := by show _ = _; rw [← hR.out]; unfold DS.list; rw [hu]; rfl
    rw [e1] at hr
    clear h
    go_enter Try.func9, Try.ntmps9
    go_wp2_with (first
      | (go_at_call 34; refine hr.mono ?_; rintro e w1 ⟨rfl, e1⟩; subst w1)
      | (go_at_call 35; refine hN.mono ?_; rintro e w2 ⟨v2, rfl, R2, _, B2⟩; replace R2 := hide R2; replace B2 := hide B2))
    go_ret2
    exact ⟨v2, by rw [e2.out]; rfl, by rw [e2.out]; exact R2.out, B2.out⟩
  | false =>
    have e1 : S.ref [] = 22 := by unfold DS.ref; rw [hu]; rfl
    have e2 : Hid (R = ([], 22)) := by show _ = _; rw [← hR.out]; unfold DS.list; rw [hu]; rfl
    rw [e1] at hr
    clear h
    go_enter Try.func9, Try.ntmps9
    go_wp2_with (go_at_call 34; refine hr.mono ?_; rintro e w1 ⟨rfl, e1⟩; subst w1)
    go_ret2
    exact ⟨_, by rw [e2.out]; rfl, by rw [e2.out]; exact World.ownsRow_nil _ _ _ _, Below.refl _ _⟩
theorem ci_list {w q : World} {b M : Nat} {L2 : Dr} {PP : List Ch} {F : Nat → Fl} {c : Int} (h : CI w q b M L2 PP F c) (hc : c < 800000000) :
    Calls Try.prog 9 #[.pointer (some ⟨b, 0, none⟩)] q fun e w' => ∃ ao ca, e = .returned (.tuple #[.slice ao (runs L2 PP).length ca, .int .i64 0]) ∧ (ca : Int) ≤ 9223372036854775807 ∧ Below q.heap.size q w' := by
  obtain ⟨S, O, hd, hC, hB, hlo⟩ := h
  obtain ⟨f, g, pd, am, VB, VL, hh⟩ := hd
  refine (list_any hh (by rw [hC.c7]; omega)).mono ?_
  rintro e w' ⟨v, rfl, hr, hb⟩
  have e1 : S.list = (nms (runs L2 PP), 0) := by unfold DS.list; rw [hC.up, hC.dir]; rfl
  rw [e1] at hr ⊢
  have hR := row_of_owns hr (by simp)
  obtain ⟨ao, ca, rfl, _, _, r4, _⟩ := hR
  rw [List.length_map, nms_len]
  exact ⟨ao, ca, rfl, by unfold maxLen at r4; omega, hb⟩
#print axioms ci_list
end Go.Proofs.Ytdelknejmapeaaa.Dk
