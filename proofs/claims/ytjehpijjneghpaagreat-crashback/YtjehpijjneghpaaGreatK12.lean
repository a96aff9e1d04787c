/-
  A disk with nothing armed, by data: what its calls come to; the contracts said so.
-/
import Derived.Test.YtjehpijjneghpaaGreatK11
import Derived.Test.YtjehpijjneghpaaGreatK01
import Derived.Deep.Strs
import Derived.Deep.Slices
namespace Go.Proofs.YtjehpijjneghpaaGreat.Dk
open Go.RowKit Go.Maps Go.Sort Go.Shelf Go.Proofs.YtjehpijjneghpaaGreat.Nm
structure Cm (S : DS) (M : Nat) (L2 : Dr) (PP : List Ch) (F : Nat → Fl) (c : Int) : Prop where
  up : S.up = true
  al : S.al = []
  most : S.most = (M : Int)
  l2 : S.l2 = L2
  P : S.P = PP
  F : S.F = F
  c7 : S.c7 = c
theorem Cm.dir {S : DS} {M : Nat} {L2 : Dr} {PP : List Ch} {F : Nat → Fl} {c : Int} (h : Cm S M L2 PP F c) : S.dir = runs L2 PP := by unfold DS.dir; rw [h.l2, h.P]
theorem Cm.find {S : DS} {M : Nat} {L2 : Dr} {PP : List Ch} {F : Nat → Fl} {c : Int} (h : Cm S M L2 PP F c) {s : ByteArray} {p : Nat} (hm : may s.data.toList = true) (hg : get (runs L2 PP) s.data.toList = some p) : S.find s = (some p, 0) := find_get h.up hm (by rw [h.dir]; exact hg)
theorem Cm.create {S : DS} {M : Nat} {L2 : Dr} {PP : List Ch} {F : Nat → Fl} {c : Int} (h : Cm S M L2 PP F c) {s : ByteArray} (hm : may s.data.toList = true) (hg : get (runs L2 PP) s.data.toList = none) (hl : (runs L2 PP).length < 256) (p : Nat) :
    (S.create s p).2 = 0 ∧ Cm (S.create s p).1 M L2 (PP ++ [.cr s p]) (upd F p ⟨[], [], 0⟩) (c + 1) := by
  have e : S.create s p = ({ (S.beg 0).str S.flt.2.1 with P := S.P ++ [.cr s p], F := upd S.F p ⟨[], [], 0⟩ }, 0) := by
    unfold DS.create
    rw [ref_up h.up hm, if_neg (by simp), h.dir, hg, if_neg (by simp), if_neg (by omega), flt_none h.al, if_neg (by decide)]
  rw [e, flt_none h.al]
  refine ⟨rfl, ⟨h.up, ?_, h.most, h.l2, ?_, ?_, ?_⟩⟩
  · show adel S.al _ = []; rw [h.al]; rfl
  · show S.P ++ _ = _; rw [h.P]
  · show upd S.F p _ = _; rw [h.F]
  · show S.c7 + 1 = _; rw [h.c7]
theorem Cm.append {S : DS} {M : Nat} {L2 : Dr} {PP : List Ch} {F : Nat → Fl} {c : Int} (h : Cm S M L2 PP F c) {s : ByteArray} {p : Nat} (hm : may s.data.toList = true) (hg : get (runs L2 PP) s.data.toList = some p) (D : List UInt8) (hD : sumL F (runs L2 PP) + D.length ≤ M) :
    (S.append s D).2.1 = (D.length : Int) ∧ (S.append s D).2.2 = 0 ∧ Cm (S.append s D).1 M L2 PP (upd F p (apF (F p) D)) (c + 1) := by
  have hn : S.apN D.length = D.length := by
    unfold DS.apN DS.room
    rw [flt_none h.al, if_neg (by decide), h.dir, h.F, h.most]
    omega
  have e : S.append s D = ({ (S.beg 1).str S.flt.2.1 with F := upd S.F p (apF (S.F p) (D.take (S.apN D.length))), c8 := S.c8 + (S.apN D.length : Int) }, (S.apN D.length : Int), if strF S.flt.2.1 ≠ 0 then strF S.flt.2.1 else if S.apN D.length < D.length then 21 else 0) := by
    unfold DS.append
    rw [h.find hm hg]
  rw [e, hn, flt_none h.al, List.take_length]
  refine ⟨rfl, ?_, ⟨h.up, ?_, h.most, h.l2, h.P, ?_, ?_⟩⟩
  · show (if strF 0 ≠ 0 then strF 0 else if D.length < D.length then 21 else 0) = 0
    rw [if_neg (by decide), if_neg (by omega)]
  · show adel S.al _ = []; rw [h.al]; rfl
  · show upd S.F p (apF (S.F p) D) = _; rw [h.F]
  · show S.c7 + 1 = _; rw [h.c7]
theorem Cm.syncDir {S : DS} {M : Nat} {L2 : Dr} {PP : List Ch} {F : Nat → Fl} {c : Int} (h : Cm S M L2 PP F c) : S.syncDir.2 = 0 ∧ Cm S.syncDir.1 M (runs L2 PP) [] F (c + 1) := by
  have hr : S.ref [] = 0 := by unfold DS.ref; rw [h.up]; rfl
  have e : S.syncDir = ({ S.hit 6 with l2 := S.dir, P := [] }, 0) := by
    unfold DS.syncDir
    rw [hr, if_neg (by simp), flt_none h.al, if_neg (by decide)]
  rw [e, hit_none h.al]
  refine ⟨rfl, ⟨h.up, ?_, h.most, h.dir, rfl, h.F, ?_⟩⟩
  · show adel S.al _ = []; rw [h.al]; rfl
  · show S.c7 + 1 = _; rw [h.c7]
theorem Cm.size {S : DS} {M : Nat} {L2 : Dr} {PP : List Ch} {F : Nat → Fl} {c : Int} (h : Cm S M L2 PP F c) {s : ByteArray} {p : Nat} (hm : may s.data.toList = true) (hg : get (runs L2 PP) s.data.toList = some p) : S.size s = (((F p).by_.length : Int), 0) := by
  unfold DS.size
  rw [h.find hm hg]
  dsimp only
  rw [h.F]
theorem Cm.read {S : DS} {M : Nat} {L2 : Dr} {PP : List Ch} {F : Nat → Fl} {c : Int} (h : Cm S M L2 PP F c) {s : ByteArray} {p : Nat} (hm : may s.data.toList = true) (hg : get (runs L2 PP) s.data.toList = some p) (n : Nat) (hn : n ≤ (F p).by_.length) : S.read s 0 (n : Int) = ((F p).by_.take n, 0) := by
  unfold DS.read
  rw [h.find hm hg]
  dsimp only
  rw [h.F, if_pos (by omega)]
  simp
def CI (w q : World) (b M : Nat) (L2 : Dr) (PP : List Ch) (F : Nat → Fl) (c : Int) : Prop :=
  ∃ (S : DS) (O : Nat → Prop), DskE q b S O ∧ Cm S M L2 PP F c ∧ Below w.heap.size w q ∧ ∀ k, O k → w.heap.size ≤ k
theorem CI.below {w q q' : World} {b M : Nat} {L2 : Dr} {PP : List Ch} {F : Nat → Fl} {c : Int} (h : CI w q b M L2 PP F c) (hb : Below q.heap.size q q') : CI w q' b M L2 PP F c := by
  obtain ⟨S, O, hd, hm, hB, hl⟩ := h
  exact ⟨S, O, hd.below hb, hm, hB.trans (hb.mono hB.size), hl⟩
theorem CI.bel {w q : World} {b M : Nat} {L2 : Dr} {PP : List Ch} {F : Nat → Fl} {c : Int} (h : CI w q b M L2 PP F c) : Below w.heap.size w q := by
  obtain ⟨S, O, hd, hm, hB, hl⟩ := h
  exact hB
theorem ci_new {w : World} (q : World) (M : Nat) (hM : M ≤ 16777216) (hB : Below w.heap.size w q) : Calls Tryz.prog 9 #[.int .i64 (M : Int)] q fun e w' => ∃ b, e = .returned (.pointer (some ⟨b, 0, none⟩)) ∧ CI w w' b M [] [] noF 0 := by
  refine (new_dsk q (M : Int) (by omega) (by omega)).mono ?_
  rintro e w' ⟨b, O, rfl, hd, hb, hl⟩
  exact ⟨b, rfl, _, O, hd, ⟨rfl, rfl, rfl, rfl, rfl, rfl, rfl⟩, hB.trans (hb.mono hB.size), fun k hk => Nat.le_trans hB.size (hl k hk)⟩
theorem ci_create {w q : World} {b M : Nat} {L2 : Dr} {PP : List Ch} {F : Nat → Fl} {c : Int} (h : CI w q b M L2 PP F c) (hc : c < 800000000) (s : ByteArray) (hs : s.size ≤ 140737488355328) (hm : may s.data.toList = true) (hg : get (runs L2 PP) s.data.toList = none) (hl : (runs L2 PP).length < 256) :
    Calls Tryz.prog 14 #[.pointer (some ⟨b, 0, none⟩), .string s] q fun e w' => e = .returned (.int .i64 0) ∧ ∃ p, p ∉ L2.map (·.2) ++ PP.filterMap Ch.ptr ∧ CI w w' b M L2 (PP ++ [.cr s p]) (upd F p ⟨[], [], 0⟩) (c + 1) := by
  obtain ⟨S, O, hd, hC, hB, hlo⟩ := h
  refine (create_dsk hd s hs (by rw [hC.c7]; omega)).mono ?_
  rintro e w' ⟨p, _, hp, he, O', hd', hg'⟩
  obtain ⟨k1, k2⟩ := hC.create hm hg hl p
  rw [k1] at he
  refine ⟨he, p, ?_, _, O', hd', k2, hg'.under hlo (Nat.le_refl _) hB, hg'.low hB.size hlo⟩
  unfold DS.ps at hp
  rw [hC.l2, hC.P] at hp
  exact hp
theorem ci_syncDir {w q : World} {b M : Nat} {L2 : Dr} {PP : List Ch} {F : Nat → Fl} {c : Int} (h : CI w q b M L2 PP F c) (hc : c < 800000000) :
    Calls Tryz.prog 15 #[.pointer (some ⟨b, 0, none⟩)] q fun e w' => e = .returned (.int .i64 0) ∧ CI w w' b M (runs L2 PP) [] F (c + 1) := by
  obtain ⟨S, O, hd, hC, hB, hlo⟩ := h
  refine (syncDir_dsk hd (by rw [hC.c7]; omega)).mono ?_
  rintro e w' ⟨he, O', hd', hg'⟩
  obtain ⟨k1, k2⟩ := hC.syncDir
  rw [k1] at he
  exact ⟨he, _, O', hd', k2, hg'.under hlo (Nat.le_refl _) hB, hg'.low hB.size hlo⟩
def DS.list (S : DS) : List (List UInt8) × Int := if S.up then (nms S.dir, 0) else ([], 22)
end Go.Proofs.YtjehpijjneghpaaGreat.Dk
namespace Go.Proofs.YtjehpijjneghpaaGreat.Dk
open Go.ChangeShapes Go.WideShapes Go.ChangeAt Go.RowKit Go.Deep
set_option maxRecDepth 100000
theorem cellsKeep : Tryz.prog.cellsOf 88 = 2 := by kernel_rfl
theorem cellsFate : Tryz.prog.cellsOf 34 = 2 := by kernel_rfl
theorem cellsFault : Tryz.prog.cellsOf 118 = 3 := by kernel_rfl
theorem cellsInt : Tryz.prog.cellsOf 3 = 1 := by kernel_rfl
theorem cellsI64 : Tryz.prog.cellsOf 2 = 1 := by kernel_rfl
theorem cellsBs : Tryz.prog.cellsOf 30 = 1 := by kernel_rfl
theorem cellsKeeps : Tryz.prog.cellsOf 32 = 1 := by kernel_rfl
theorem weightsAll_at {H : Type} {P : Program} {e : TypeId} : ∀ {ds : List (DataW H)} {i : Nat} {d : DataW H}, ds[i]? = some d → ∀ n ∈ d.weights P e, n ∈ DataW.weightsAll P e ds
  | [], i, d, h, _, _ => by simp at h
  | c :: r, 0, d, h, n, hn => by
    simp only [List.getElem?_cons_zero, Option.some.injEq] at h
    subst h
    simp only [DataW.weightsAll, List.mem_append]
    exact Or.inl hn
  | c :: r, i + 1, d, h, n, hn => by
    simp only [DataW.weightsAll, List.mem_append]
    exact Or.inr (weightsAll_at (i := i) (by simpa using h) n hn)
theorem sin_of {w : World} {v : Value} {l : List UInt8} (h : Sl w v l) : SIn (fun k => k < w.heap.size) v := by
  obtain ⟨ao, cap, rfl, _, _, _, h5⟩ := h
  intro b off n c e hn
  simp only [Value.slice.injEq] at e
  obtain ⟨rfl, rfl, _⟩ := e
  obtain ⟨b', off', e', hc⟩ := h5 0 hn
  simp only [Option.some.injEq, Addr.mk.injEq] at e'
  rw [e'.1]
  exact lt_of_cell hc
theorem open_keep {H : Type} {enc : TypeId × Value → H} {w : World} {base : Nat} {spare : Nat → Bool} {held : Bool} {fuel : Nat} {cs : List Value} {y : DataW H × List MemPlace}
    (h : DataW.trod enc Tryz.prog w base spare held fuel 88 cs = some y) (hwt : ∀ n ∈ y.1.weights Tryz.prog 88, n ≤ reachBytes) :
    ∃ (k : Kep) (v : Value), cs = [.int .i64 k.1, v] ∧ -9223372036854775808 ≤ k.1 ∧ k.1 ≤ 9223372036854775807 ∧ Sl w v k.2 ∧ k.2.length ≤ 140737488351232 := by
  obtain ⟨y0, y1, n, hy, hlen, h0, h1⟩ := trod_struct2 Tryz.underlying88 h
  rw [cellsKeep] at hlen
  obtain ⟨c0, c1, rfl⟩ : ∃ c0 c1, cs = [c0, c1] := by
    match cs, hlen with
    | [c0, c1], _ => exact ⟨c0, c1, rfl⟩
  simp only [cellsInt, cellsBs] at h0 h1
  obtain ⟨a0, e0, _, w0⟩ := DataW.trod_int Tryz.underlying3 h0
  simp at e0
  subst e0
  obtain ⟨l, hs, hd⟩ := open_bytes (v := c1) (by simpa using h1)
  have hl : l.length ≤ 140737488351232 := by
    rcases hd with ⟨_, rfl⟩ | ⟨elems, sp, e1, e2⟩
    · simp
    · have hm : (elems.length + sp.length) * Tryz.prog.bytesOf 5 ∈ y1.1.weights Tryz.prog 30 := by
        rw [e1]; simp [DataW.weights, Tryz.underlying30]
      have h4 : (elems.length + sp.length) * Tryz.prog.bytesOf 5 ≤ reachBytes := by
        refine hwt _ ?_
        rw [hy]
        simp only [DataW.weights, Tryz.underlying88]
        exact DataW.weights_mem_each (j := 1) (t := 30) (d := y1.1) rfl rfl _ hm
      rw [bytesU8] at h4
      simp only [reachBytes] at h4
      omega
  exact ⟨(a0, l), c1, rfl, (i64_bounds w0).1, (i64_bounds w0).2, hs, hl⟩
theorem open_keeps {H : Type} {enc : TypeId × Value → H} {w : World} {base : Nat} {spare : Nat → Bool} {held : Bool} {fuel : Nat} {v : Value} {x : DataW H × List MemPlace}
    (h : DataW.trod enc Tryz.prog w base spare held fuel 32 [v] = some x) (hwt : ∀ n ∈ x.1.weights Tryz.prog 32, n ≤ reachBytes) :
    ∃ ks : List Kep, Kp (fun k => k < w.heap.size) w v ks ∧ (∀ k ∈ ks, k.2.length ≤ 140737488351232) ∧ ks.length * 32 ≤ 140737488351232 := by
  rcases open_slice Tryz.underlying32 h with ⟨hcs, hx⟩ | ⟨a, len, cap, m, n, D, Pl, hcs, hb, hl, hm, hmm, hx, hel⟩
  · simp at hcs
    subst hcs hx
    exact ⟨[], ⟨none, 0, rfl, Nat.le_refl _, Nat.zero_le _, fun i hi => by simp at hi⟩, fun o ho => by simp at ho, by simp⟩
  · simp at hcs
    have hlm : len ≤ m := by split at hmm <;> omega
    have each : ∀ i, ∃ o : Kep, i < len → o.2.length ≤ 140737488351232 ∧ -9223372036854775808 ≤ o.1 ∧ o.1 ≤ 9223372036854775807 ∧ ∃ b off vj, a = ⟨b, off, none⟩ ∧ w.cell? ⟨b, off + i * 2, none⟩ = some (.int .i64 o.1) ∧ w.cell? ⟨b, off + i * 2 + 1, none⟩ = some vj ∧ Sl w vj o.2 := by
      intro i
      by_cases hi : i < len
      · obtain ⟨cs', h1, h2⟩ := hel i (by omega)
        obtain ⟨o1, o2, rfl, q1, q2, q3, q4⟩ := open_keep h2 (fun n hn => hwt n (by
          rw [hx]
          simp only [DataW.weights, Tryz.underlying32, List.mem_cons, List.mem_append]
          exact Or.inr (Or.inl (weightsAll_at (i := i) (d := D i) (by simp [hi]) n hn))))
        rw [cellsKeep] at h1
        obtain ⟨b, off, sp⟩ := a
        have hsp : sp = none := by
          obtain ⟨cs0, g1, g2⟩ := hel 0 (by omega)
          have g3 := (World.cells?_some g1).2.2 0 (by rw [cellsKeep]; omega)
          have g4 : cs0.length = 2 := by
            have := (World.cells?_some g1).2.1
            rw [cellsKeep] at this
            first | exact this | omega
          simp [Addr.add, g4] at g3
          exact World.cell?_spot g3
        subst hsp
        have hcell := (World.cells?_some h1).2.2
        rw [addr_add] at hcell
        have k0 := hcell 0 (by omega)
        have k1 := hcell 1 (by omega)
        rw [addr_add] at k0 k1
        exact ⟨o1, fun _ => ⟨q4, q1, q2, b, off, o2, rfl, by simpa using k0, by simpa using k1, q3⟩⟩
      · exact ⟨(0, []), fun h => absurd h hi⟩
    obtain ⟨O, hO⟩ : ∃ O : Nat → Kep, ∀ i, i < len → (O i).2.length ≤ 140737488351232 ∧ -9223372036854775808 ≤ (O i).1 ∧ (O i).1 ≤ 9223372036854775807 ∧ ∃ b off vj, a = ⟨b, off, none⟩ ∧ w.cell? ⟨b, off + i * 2, none⟩ = some (.int .i64 (O i).1) ∧ w.cell? ⟨b, off + i * 2 + 1, none⟩ = some vj ∧ Sl w vj (O i).2 := ⟨fun i => Classical.choose (each i), fun i => Classical.choose_spec (each i)⟩
    have hln : len * 32 ≤ 140737488351232 := by
      have hmem : (((List.range len).map D).length + ((List.range (m - len)).map fun j => D (len + j)).length) * Tryz.prog.bytesOf 88 ∈ x.1.weights Tryz.prog 32 := by
        rw [hx]; simp [DataW.weights, Tryz.underlying32]
      have h4 := hwt _ hmem
      have hbk : Tryz.prog.bytesOf 88 = 32 := by kernel_rfl
      rw [hbk] at h4
      simp only [List.length_map, List.length_range, reachBytes] at h4
      omega
    refine ⟨(List.range len).map O, ⟨some a, cap, by simp [hcs], by simp; omega, by omega, ?_⟩, ?_, by simpa using hln⟩
    · intro i hi
      simp at hi
      obtain ⟨_, n0, n1, b, off, vj, rfl, q1, q2, q3⟩ := hO i (by omega)
      exact ⟨b, off, vj, rfl, lt_of_cell q1, by simpa using q1, q2, by simpa using q3, sin_of q3, by simpa using n0, by simpa using n1⟩
    · intro o ho
      simp only [List.mem_map, List.mem_range] at ho
      obtain ⟨i, hi, rfl⟩ := ho
      exact (hO i (by omega)).1
theorem open_fate {H : Type} {enc : TypeId × Value → H} {w : World} {base : Nat} {spare : Nat → Bool} {held : Bool} {fuel : Nat} {cs : List Value} {y : DataW H × List MemPlace}
    (h : DataW.trod enc Tryz.prog w base spare held fuel 34 cs = some y) (hwt : ∀ n ∈ y.1.weights Tryz.prog 34, n ≤ reachBytes) :
    ∃ (d : Int) (v : Value) (ks : List Kep), cs = [.int .i64 d, v] ∧ -9223372036854775808 ≤ d ∧ d ≤ 9223372036854775807 ∧ Kp (fun k => k < w.heap.size) w v ks ∧ (∀ k ∈ ks, k.2.length ≤ 140737488351232) ∧ ks.length * 32 ≤ 140737488351232 := by
  obtain ⟨y0, y1, n, hy, hlen, h0, h1⟩ := trod_struct2 Tryz.underlying34 h
  rw [cellsFate] at hlen
  obtain ⟨c0, c1, rfl⟩ : ∃ c0 c1, cs = [c0, c1] := by
    match cs, hlen with
    | [c0, c1], _ => exact ⟨c0, c1, rfl⟩
  simp only [cellsInt, cellsKeeps] at h0 h1
  obtain ⟨a0, e0, _, w0⟩ := DataW.trod_int Tryz.underlying3 h0
  simp at e0
  subst e0
  obtain ⟨ks, hk, hl, hn⟩ := open_keeps (v := c1) (by simpa using h1) (fun n hn => hwt n (by
    rw [hy]
    simp only [DataW.weights, Tryz.underlying34]
    exact DataW.weights_mem_each (j := 1) (t := 32) (d := y1.1) rfl rfl _ hn))
  exact ⟨a0, c1, ks, rfl, (i64_bounds w0).1, (i64_bounds w0).2, hk, hl, hn⟩
end Go.Proofs.YtjehpijjneghpaaGreat.Dk
namespace Go.Proofs.YtjehpijjneghpaaGreat.Dk
open Go.ChangeShapes Go.WideShapes Go.ChangeAt Go.RowKit Go.Deep
set_option maxRecDepth 100000
theorem open_fault {H : Type} {enc : TypeId × Value → H} {w : World} {base : Nat} {spare : Nat → Bool} {held : Bool} {fuel : Nat} {cs : List Value} {y : DataW H × List MemPlace}
    (h : DataW.trod enc Tryz.prog w base spare held fuel 118 cs = some y) :
    ∃ t : Ft, cs = [.int .i64 t.1, .int .i64 t.2.1, .int .i64 t.2.2] := by
  obtain ⟨y0, y1, y2, n, _, hlen, h0, h1, h2⟩ := trod_struct3 Tryz.underlying118 h
  rw [cellsFault] at hlen
  obtain ⟨c0, c1, c2, rfl⟩ : ∃ c0 c1 c2, cs = [c0, c1, c2] := by
    match cs, hlen with
    | [c0, c1, c2], _ => exact ⟨c0, c1, c2, rfl⟩
  simp only [cellsI64, cellsInt] at h0 h1 h2
  obtain ⟨a0, e0, _, w0⟩ := DataW.trod_int Tryz.underlying2 h0
  obtain ⟨a1, e1, _, w1⟩ := DataW.trod_int Tryz.underlying3 h1
  obtain ⟨a2, e2, _, w2⟩ := DataW.trod_int Tryz.underlying3 h2
  simp at e0 e1 e2
  subst e0 e1 e2
  exact ⟨(a0, a1, a2), rfl⟩
theorem open_faults {H : Type} {enc : TypeId × Value → H} {w : World} {base : Nat} {spare : Nat → Bool} {held : Bool} {fuel : Nat} {v : Value} {x : DataW H × List MemPlace}
    (h : DataW.trod enc Tryz.prog w base spare held fuel 31 [v] = some x) (hwt : ∀ n ∈ x.1.weights Tryz.prog 31, n ≤ reachBytes) : ∃ fs : List Ft, Fts w v fs ∧ fs.length * 24 ≤ 140737488351232 := by
  rcases open_slice Tryz.underlying31 h with ⟨hcs, hx⟩ | ⟨a, len, cap, m, n, D, Pl, hcs, hb, hl, hm, hmm, hx, hel⟩
  · simp at hcs
    subst hcs hx
    exact ⟨[], ⟨none, 0, rfl, Nat.le_refl _, Nat.zero_le _, fun i hi => by simp at hi⟩, by simp⟩
  · simp at hcs
    have hlm : len ≤ m := by split at hmm <;> omega
    have each : ∀ i, ∃ o : Ft, i < len → ∃ b off, a = ⟨b, off, none⟩ ∧ w.cell? ⟨b, off + i * 3, none⟩ = some (.int .i64 o.1) ∧ w.cell? ⟨b, off + i * 3 + 1, none⟩ = some (.int .i64 o.2.1) ∧ w.cell? ⟨b, off + i * 3 + 2, none⟩ = some (.int .i64 o.2.2) := by
      intro i
      by_cases hi : i < len
      · obtain ⟨cs', h1, h2⟩ := hel i (by omega)
        obtain ⟨o1, rfl⟩ := open_fault h2
        rw [cellsFault] at h1
        obtain ⟨b, off, sp⟩ := a
        have hsp : sp = none := by
          obtain ⟨cs0, g1, g2⟩ := hel 0 (by omega)
          obtain ⟨_, rfl⟩ := open_fault g2
          rw [cellsFault] at g1
          have g3 := (World.cells?_some g1).2.2 0 (by omega)
          simp [Addr.add] at g3
          exact World.cell?_spot g3
        subst hsp
        have hcell := (World.cells?_some h1).2.2
        rw [addr_add] at hcell
        have k0 := hcell 0 (by omega)
        have k1 := hcell 1 (by omega)
        have k2 := hcell 2 (by omega)
        rw [addr_add] at k0 k1 k2
        exact ⟨o1, fun _ => ⟨b, off, rfl, by simpa using k0, by simpa using k1, by simpa using k2⟩⟩
      · exact ⟨(0, 0, 0), fun h => absurd h hi⟩
    obtain ⟨O, hO⟩ : ∃ O : Nat → Ft, ∀ i, i < len → ∃ b off, a = ⟨b, off, none⟩ ∧ w.cell? ⟨b, off + i * 3, none⟩ = some (.int .i64 (O i).1) ∧ w.cell? ⟨b, off + i * 3 + 1, none⟩ = some (.int .i64 (O i).2.1) ∧ w.cell? ⟨b, off + i * 3 + 2, none⟩ = some (.int .i64 (O i).2.2) := ⟨fun i => Classical.choose (each i), fun i => Classical.choose_spec (each i)⟩
    have hln : len * 24 ≤ 140737488351232 := by
      have hmem : (((List.range len).map D).length + ((List.range (m - len)).map fun j => D (len + j)).length) * Tryz.prog.bytesOf 118 ∈ x.1.weights Tryz.prog 31 := by
        rw [hx]; simp [DataW.weights, Tryz.underlying31]
      have h4 := hwt _ hmem
      have hbk : Tryz.prog.bytesOf 118 = 24 := by kernel_rfl
      rw [hbk] at h4
      simp only [List.length_map, List.length_range, reachBytes] at h4
      omega
    refine ⟨(List.range len).map O, ⟨some a, cap, by simp [hcs], by simp; omega, by omega, ?_⟩, by simpa using hln⟩
    intro i hi
    simp at hi
    obtain ⟨b, off, rfl, q1, q2, q3⟩ := hO i (by omega)
    exact ⟨b, off, rfl, by simpa using q1, by simpa using q2, by simpa using q3⟩
structure Dop where
  kind : Int
  sec : Bool
  nm : ByteArray
  tn : ByteArray
  vd : Value
  dat : List UInt8
  off : Int
  n : Int
  vf : Value
  fs : List Ft
  dir : Int
  vk : Value
  ks : List Kep
def Dop.cells (o : Dop) : List Value := [.int .i64 o.kind, .bool o.sec, .string o.nm, .string o.tn, o.vd, .int .i64 o.off, .int .i64 o.n, o.vf, .int .i64 o.dir, o.vk]
def i64In (n : Int) : Prop := -9223372036854775808 ≤ n ∧ n ≤ 9223372036854775807
structure DopOk (w : World) (o : Dop) : Prop where
  kind : i64In o.kind
  nm : o.nm.size ≤ 140737488351232
  tn : o.tn.size ≤ 140737488351232
  dat : Sl w o.vd o.dat
  datl : o.dat.length ≤ 140737488351232
  off : i64In o.off
  n : i64In o.n
  fs : Fts w o.vf o.fs
  fsl : o.fs.length * 24 ≤ 140737488351232
  dir : i64In o.dir
  ks : Kp (fun k => k < w.heap.size) w o.vk o.ks
  ksl : ∀ k ∈ o.ks, k.2.length ≤ 140737488351232
  ksn : o.ks.length * 32 ≤ 140737488351232
theorem cellsOp : Tryz.prog.cellsOf 36 = 10 := by kernel_rfl
theorem cellsOne : Tryz.prog.cellsOf 4 = 1 ∧ Tryz.prog.cellsOf 9 = 1 ∧ Tryz.prog.cellsOf 31 = 1 := ⟨by kernel_rfl, by kernel_rfl, by kernel_rfl⟩
theorem opFields : ∃ fs, Tryz.prog.underlying 36 = some (.struct fs) ∧ (fs.map fun f : Field => (f.type, f.offset)) = #[(3, 0), (4, 1), (9, 2), (9, 3), (30, 4), (3, 5), (3, 6), (31, 7), (34, 8)] := ⟨_, Tryz.underlying36, by kernel_rfl⟩
theorem open_dop {H : Type} {enc : TypeId × Value → H} {w : World} {base : Nat} {spare : Nat → Bool} {held : Bool} {fuel : Nat} {cs : List Value} {y : DataW H × List MemPlace}
    (h : DataW.trod enc Tryz.prog w base spare held fuel 36 cs = some y) (hwt : ∀ n ∈ y.1.weights Tryz.prog 36, n ≤ reachBytes) : ∃ o : Dop, cs = o.cells ∧ DopOk w o := by
  obtain ⟨fs, hfs, hmap⟩ := opFields
  obtain ⟨xs, m, hm, hxe, hlen, hxl, hel⟩ := DataW.trod_struct hfs h
  have hfsz : fs.size = 9 := by have := congrArg Array.size hmap; simpa using this
  have hpt : ∀ (i : Nat) (t : TypeId) (o : Nat), (fs.map fun f : Field => (f.type, f.offset))[i]? = some (t, o) → ∃ y, DataW.trod enc Tryz.prog w base spare held m t ((cs.drop o).take (Tryz.prog.cellsOf t)) = some y ∧ ∀ n ∈ y.1.weights Tryz.prog t, n ≤ reachBytes := by
    intro i t o hf
    rw [Array.getElem?_map] at hf
    obtain ⟨f, e1, e2⟩ := Option.map_eq_some_iff.1 hf
    simp only [Prod.mk.injEq] at e2
    obtain ⟨e2, e3⟩ := e2
    have hi : i < fs.size := (Array.getElem?_eq_some_iff.1 e1).1
    have hE := hel i f e1
    rw [e2, e3, List.getElem?_eq_getElem (by omega)] at hE
    refine ⟨_, hE, fun n hn => hwt n ?_⟩
    rw [hxe]
    simp only [DataW.weights, hfs]
    exact DataW.weights_mem_each (j := i) (t := t) (d := (xs[i]).1) (by rw [List.getElem?_map, Array.getElem?_toList, e1]; simp [e2]) (by rw [List.getElem?_map, List.getElem?_eq_getElem (by omega)]; rfl) n hn
  rw [hmap] at hpt
  rw [cellsOp] at hlen
  obtain ⟨c0, c1, c2, c3, c4, c5, c6, c7, c8, c9, rfl⟩ : ∃ c0 c1 c2 c3 c4 c5 c6 c7 c8 c9, cs = [c0, c1, c2, c3, c4, c5, c6, c7, c8, c9] := by
    match cs, hlen with
    | [c0, c1, c2, c3, c4, c5, c6, c7, c8, c9], _ => exact ⟨c0, c1, c2, c3, c4, c5, c6, c7, c8, c9, rfl⟩
  obtain ⟨y0, t0, _⟩ := hpt 0 _ _ rfl
  obtain ⟨y1, t1, _⟩ := hpt 1 _ _ rfl
  obtain ⟨y2, t2, u2⟩ := hpt 2 _ _ rfl
  obtain ⟨y3, t3, u3⟩ := hpt 3 _ _ rfl
  obtain ⟨y4, t4, u4⟩ := hpt 4 _ _ rfl
  obtain ⟨y5, t5, _⟩ := hpt 5 _ _ rfl
  obtain ⟨y6, t6, _⟩ := hpt 6 _ _ rfl
  obtain ⟨y7, t7, u7⟩ := hpt 7 _ _ rfl
  obtain ⟨y8, t8, u8⟩ := hpt 8 _ _ rfl
  obtain ⟨k1, k2, k3⟩ := cellsOne
  simp only [cellsInt, k1, k2, k3, cellsBs, cellsFate] at t0 t1 t2 t3 t4 t5 t6 t7 t8
  obtain ⟨a0, e0, _, w0⟩ := DataW.trod_int Tryz.underlying3 t0
  obtain ⟨a1, e1, _⟩ := DataW.trod_bool Tryz.underlying4 t1
  obtain ⟨a2, e2, x2, w2⟩ := DataW.trod_string Tryz.underlying9 t2
  obtain ⟨a3, e3, x3, w3⟩ := DataW.trod_string Tryz.underlying9 t3
  obtain ⟨a5, e5, _, w5⟩ := DataW.trod_int Tryz.underlying3 t5
  obtain ⟨a6, e6, _, w6⟩ := DataW.trod_int Tryz.underlying3 t6
  simp at e0 e1 e2 e3 e5 e6
  subst e0 e1 e2 e3 e5 e6
  have h2 : a2.size ≤ 140737488351232 := by
    have := u2 a2.data.toList.length (by rw [x2]; simp [DataW.weights])
    simp only [reachBytes] at this
    exact Nat.le_trans (Nat.le_of_eq rfl) (by simpa using this)
  have h3 : a3.size ≤ 140737488351232 := by
    have := u3 a3.data.toList.length (by rw [x3]; simp [DataW.weights])
    simp only [reachBytes] at this
    exact Nat.le_trans (Nat.le_of_eq rfl) (by simpa using this)
  obtain ⟨l4, s4, d4⟩ := open_bytes (v := c4) (by simpa using t4)
  have hl4 : l4.length ≤ 140737488351232 := by
    rcases d4 with ⟨_, rfl⟩ | ⟨elems, sp, g1, g2⟩
    · simp
    · have hm : (elems.length + sp.length) * Tryz.prog.bytesOf 5 ∈ y4.1.weights Tryz.prog 30 := by
        rw [g1]; simp [DataW.weights, Tryz.underlying30]
      have h4 := u4 _ hm
      rw [bytesU8] at h4
      simp only [reachBytes] at h4
      omega
  obtain ⟨f7, s7, n7⟩ := open_faults (v := c7) (by simpa using t7) u7
  obtain ⟨d8, v8, k8, e8, q1, q2, q3, q4, q5⟩ := open_fate (cs := [c8, c9]) (by simpa using t8) u8
  simp at e8
  obtain ⟨rfl, rfl⟩ := e8
  exact ⟨⟨a0, a1, a2, a3, c4, l4, a5, a6, c7, f7, d8, c9, k8⟩, rfl, ⟨i64_bounds w0, h2, h3, s4, hl4, i64_bounds w5, i64_bounds w6, s7, n7, ⟨q1, q2⟩, q3, q4, q5⟩⟩
def AtDops (w : World) (ao : Option Addr) (os : List Dop) : Prop :=
  ∀ i (h : i < os.length), ∃ b off, ao = some ⟨b, off, none⟩ ∧ ∀ j u, (os[i]).cells[j]? = some u → w.cell? ⟨b, off + i * 10 + j, none⟩ = some u
theorem open_dops {H : Type} {enc : TypeId × Value → H} {w : World} {base : Nat} {spare : Nat → Bool} {held : Bool} {fuel : Nat} {v : Value} {x : DataW H × List MemPlace}
    (h : DataW.trod enc Tryz.prog w base spare held fuel 22 [v] = some x) (hwt : ∀ n ∈ x.1.weights Tryz.prog 22, n ≤ reachBytes) :
    ∃ (os : List Dop) (ao : Option Addr) (cap : Nat), v = .slice ao os.length cap ∧ os.length ≤ cap ∧ cap ≤ maxLen ∧ AtDops w ao os ∧ (∀ o ∈ os, DopOk w o) := by
  rcases open_slice Tryz.underlying22 h with ⟨hcs, hx⟩ | ⟨a, len, cap, m, n, D, Pl, hcs, hb, hl, hm, hmm, hx, hel⟩
  · simp at hcs
    subst hcs hx
    exact ⟨[], none, 0, rfl, Nat.le_refl _, Nat.zero_le _, fun i hi => by simp at hi, fun o ho => by simp at ho⟩
  · simp at hcs
    have hlm : len ≤ m := by split at hmm <;> omega
    have each : ∀ i, ∃ o : Dop, i < len → DopOk w o ∧ ∃ b off, a = ⟨b, off, none⟩ ∧ ∀ j u, o.cells[j]? = some u → w.cell? ⟨b, off + i * 10 + j, none⟩ = some u := by
      intro i
      by_cases hi : i < len
      · obtain ⟨cs', h1, h2⟩ := hel i (by omega)
        obtain ⟨o, ho, hok⟩ := open_dop h2 (fun n hn => hwt n (by
          rw [hx]
          simp only [DataW.weights, Tryz.underlying22, List.mem_cons, List.mem_append]
          exact Or.inr (Or.inl (weightsAll_at (i := i) (d := D i) (by simp [hi]) n hn))))
        rw [cellsOp] at h1
        obtain ⟨b, off, sp⟩ := a
        have hsp : sp = none := by
          obtain ⟨cs0, g1, g2⟩ := hel 0 (by omega)
          have g3 := (World.cells?_some g1).2.2 0 (by rw [cellsOp]; omega)
          have g4 : cs0.length = 10 := by
            have := (World.cells?_some g1).2.1
            rw [cellsOp] at this
            first | exact this | omega
          simp [Addr.add, g4] at g3
          exact World.cell?_spot g3
        subst hsp
        have hcell := (World.cells?_some h1).2.2
        rw [addr_add] at hcell
        refine ⟨o, fun _ => ⟨hok, b, off, rfl, fun j u hu => ?_⟩⟩
        have hj : j < 10 := by
          have := (List.getElem?_eq_some_iff.1 hu).1
          simpa [Dop.cells] using this
        have k0 := hcell j (by omega)
        rw [addr_add] at k0
        rw [k0, ← hu]
        simp [ho]
      · exact ⟨⟨0, false, ⟨#[]⟩, ⟨#[]⟩, .slice none 0 0, [], 0, 0, .slice none 0 0, [], 0, .slice none 0 0, []⟩, fun h => absurd h hi⟩
    obtain ⟨O, hO⟩ : ∃ O : Nat → Dop, ∀ i, i < len → DopOk w (O i) ∧ ∃ b off, a = ⟨b, off, none⟩ ∧ ∀ j u, (O i).cells[j]? = some u → w.cell? ⟨b, off + i * 10 + j, none⟩ = some u := ⟨fun i => Classical.choose (each i), fun i => Classical.choose_spec (each i)⟩
    refine ⟨(List.range len).map O, some a, cap, by simp [hcs], by simp; omega, by omega, ?_, ?_⟩
    · intro i hi
      simp at hi
      obtain ⟨_, b, off, rfl, q1⟩ := hO i (by omega)
      exact ⟨b, off, rfl, fun j u hu => q1 j u (by simpa using hu)⟩
    · intro o ho
      simp only [List.mem_map, List.mem_range] at ho
      obtain ⟨i, hi, rfl⟩ := ho
      exact (hO i (by omega)).1
end Go.Proofs.YtjehpijjneghpaaGreat.Dk
namespace Go.Proofs.YtjehpijjneghpaaGreat.Dk
open Go.RowKit Go.Maps Go.Sort Go.Shelf Go.Proofs.YtjehpijjneghpaaGreat.Nm
theorem pending_dsk {w : World} {b : Nat} {S : DS} {O : Nat → Prop} (h : DskE w b S O) :
    Calls Tryz.prog 22 #[.pointer (some ⟨b, 0, none⟩)] w fun e w' => e = .returned (.int .i64 (S.P.length : Int)) ∧ w' = w := by
  obtain ⟨f, g, pd, am, VB, VL, h⟩ := h
  have c4 : w.cell? ⟨b, 4, none⟩ = some pd := h.dk.box.cells.2.2.2.2.1
  have hr := h.dk.pd.row
  obtain ⟨ao, ca, e, _, r3, r4, _⟩ := hr
  rw [List.length_map] at e r3
  have e' : pd = .slice ao S.P.length ca := e
  subst e'
  clear h
  go_enter Tryz.func22, Tryz.ntmps22
  go_wp2_with fail
  go_ret
  exact ⟨rfl, rfl⟩
end Go.Proofs.YtjehpijjneghpaaGreat.Dk
namespace Go.Proofs.YtjehpijjneghpaaGreat.Dk
open Go.RowKit Go.Maps Go.Sort Go.Shelf Go.Proofs.YtjehpijjneghpaaGreat.Nm
abbrev Fil2 := List (List UInt8 × List UInt8)
def fcells : Fil2 → List Value → List Value
  | l :: r, u :: us => encStr l.1 :: u :: fcells r us
  | _, _ => []
theorem fcells_snoc : ∀ (L : Fil2) (vs : List Value) (l : List UInt8 × List UInt8) (u : Value), vs.length = L.length → fcells (L ++ [l]) (vs ++ [u]) = fcells L vs ++ [encStr l.1, u]
  | [], [], l, u, _ => rfl
  | a :: r, b :: s, l, u, h => by
    simp only [List.cons_append, fcells]
    rw [fcells_snoc r s l u (by simpa using h)]
  | [], _ :: _, _, _, h => by simp at h
  | _ :: _, [], _, _, h => by simp at h
structure FlI (B : Nat) (w : World) (v : Value) (L : Fil2) (vs : List Value) : Prop where
  len : vs.length = L.length
  row : w.ownsRow B 61 2 v L.length (fcells L vs)
  ob : ∀ (i : Nat) (l : List UInt8 × List UInt8) (u : Value), vs[i]? = some u → L[i]? = some l → Ob B w u l.2
  ap : ∀ (i j : Nat) (u u' : Value), i ≠ j → vs[i]? = some u → vs[j]? = some u' → ∀ k, u.ownBlock = some k → u'.ownBlock ≠ some k
  no : ∀ (i : Nat) (u : Value), vs[i]? = some u → ∀ k, u.ownBlock = some k → v.ownBlock ≠ some k
theorem FlI.nil (B : Nat) (w : World) : FlI B w (.slice none 0 0) [] [] := ⟨rfl, World.ownsRow_nil _ _ _ _, fun i l u h => by simp at h, fun i j u u' _ h => by simp at h, fun i u h => by simp at h⟩
theorem row_but {B : Nat} {X : Nat → Prop} {A C : World} {T : TypeId} {n k : Nat} {v : Value} {xs : List Value} (h : A.ownsRow B T k v n xs) (hb : But X A C) (hx : ∀ j, v.ownBlock = some j → ¬ X j) : C.ownsRow B T k v n xs := by
  refine ⟨h.1, ?_⟩
  rcases h.2 with h | ⟨g, cap, cur, rfl, hg, hh, r⟩
  · exact .inl h
  · exact .inr ⟨g, cap, cur, rfl, hg, hb.at hh (hx g rfl), r⟩
theorem FlI.get {B : Nat} {w : World} {v : Value} {L : Fil2} {vs : List Value} (h : FlI B w v L vs) {i : Nat} {u : Value} (hu : vs[i]? = some u) : ∃ l, L[i]? = some l ∧ Ob B w u l.2 := by
  have hi : i < L.length := by rw [← h.len]; exact (List.getElem?_eq_some_iff.1 hu).1
  exact ⟨L[i], List.getElem?_eq_getElem hi, h.ob i _ u hu (List.getElem?_eq_getElem hi)⟩
theorem FlI.but {B : Nat} {X : Nat → Prop} {w w' : World} {v : Value} {L : Fil2} {vs : List Value} (h : FlI B w v L vs) (hb : But X w w') (hx : ∀ k, X k → k < B ∨ w.heap.size ≤ k) : FlI B w' v L vs := by
  have hv : ∀ j, v.ownBlock = some j → ¬ X j := fun j hj c => by
    obtain ⟨q1, q2⟩ := World.ownsRow.lt h.row j hj
    rcases hx j c with z | z <;> omega
  refine ⟨h.len, row_but h.row hb hv, fun i l u hu hl => (h.ob i l u hu hl).but hb (fun k hk c => ?_), h.ap, h.no⟩
  obtain ⟨q1, q2⟩ := (h.ob i l u hu hl).lt k hk
  rcases hx k c with z | z <;> omega
theorem FlI.below {B : Nat} {w w' : World} {v : Value} {L : Fil2} {vs : List Value} (h : FlI B w v L vs) (hb : Below w.heap.size w w') : FlI B w' v L vs := h.but (But.of_below hb fun _ => False) (fun _ c => c.elim)
theorem FlI.low {B C : Nat} {w : World} {v : Value} {L : Fil2} {vs : List Value} (h : FlI B w v L vs) (hb : C ≤ B) : FlI C w v L vs := ⟨h.len, ownsRow_base_a h.row hb, fun i l u hu hl => (h.ob i l u hu hl).low hb, h.ap, h.no⟩
theorem FlI.snoc {B : Nat} {w wc w' : World} {v v' : Value} {L : Fil2} {vs : List Value} {l : List UInt8 × List UInt8} {u : Value} (h : FlI B w v L vs) (hB : B ≤ w.heap.size) (hu : Ob w.heap.size wc u l.2) (hbc : Below w.heap.size w wc)
    (hr : w'.ownsRow B 61 2 v' (L.length + 1) (fcells L vs ++ [encStr l.1, u])) (hg : wc.grownBy w' v.ownBlock) (hv : v'.ownBlock = v.ownBlock ∨ ∃ k, v'.ownBlock = some k ∧ wc.heap.size ≤ k) : FlI B w' v' (L ++ [l]) (vs ++ [u]) := by
  have hGb := But.of_grownBy (X := fun k => v.ownBlock = some k) hg fun k e => e
  have h1 := h.below hbc
  have vlt : ∀ k, v.ownBlock = some k → k < w.heap.size := fun k hk => (World.ownsRow.lt h.row k hk).2
  have cases_u : ∀ i x, (vs ++ [u])[i]? = some x → (i < vs.length ∧ vs[i]? = some x) ∨ (i = vs.length ∧ x = u) := by
    intro i x hx
    rcases Nat.lt_or_ge i vs.length with q | q
    · rw [List.getElem?_append_left q] at hx; exact .inl ⟨q, hx⟩
    · rw [List.getElem?_append_right q] at hx
      have : i - vs.length < 1 := by
        have := (List.getElem?_eq_some_iff.1 hx).1
        simpa using this
      have e : i = vs.length := by omega
      subst e
      simp at hx
      exact .inr ⟨rfl, hx.symm⟩
  have blk : ∀ i x, (vs ++ [u])[i]? = some x → ∀ k, x.ownBlock = some k → (i < vs.length ∧ k < w.heap.size) ∨ (i = vs.length ∧ w.heap.size ≤ k ∧ k < wc.heap.size) := by
    intro i x hx k hk
    rcases cases_u i x hx with ⟨q, hx'⟩ | ⟨q, rfl⟩
    · obtain ⟨l', _, ho⟩ := h.get hx'
      exact .inl ⟨q, (ho.lt k hk).2⟩
    · exact .inr ⟨q, hu.lt k hk⟩
  refine ⟨by simp [h.len], ?_, ?_, ?_, ?_⟩
  · rw [fcells_snoc L vs l u h.len, List.length_append, List.length_singleton]; exact hr
  · intro i m x hx hm
    rcases cases_u i x hx with ⟨q, hx'⟩ | ⟨q, rfl⟩
    · rw [List.getElem?_append_left (by rw [← h.len]; exact q)] at hm
      exact (h1.ob i m x hx' hm).but hGb (fun k hk c => h.no i x hx' k hk c)
    · rw [q, List.getElem?_append_right (by rw [h.len]; exact Nat.le_refl _), h.len] at hm
      simp at hm
      subst hm
      refine (hu.low hB).but hGb (fun k hk c => ?_)
      have := (hu.lt k hk).1
      have := vlt k c
      omega
  · intro i j x y hij hx hy k hk c
    rcases cases_u i x hx with ⟨q, hx'⟩ | ⟨q, rfl⟩
    · rcases cases_u j y hy with ⟨q2, hy'⟩ | ⟨q2, rfl⟩
      · exact h.ap i j x y hij hx' hy' k hk c
      · obtain ⟨l', _, ho⟩ := h.get hx'
        have := (ho.lt k hk).2
        have := (hu.lt k c).1
        omega
    · rcases cases_u j y hy with ⟨q2, hy'⟩ | ⟨q2, rfl⟩
      · obtain ⟨l', _, ho⟩ := h.get hy'
        have := (ho.lt k c).2
        have := (hu.lt k hk).1
        omega
      · omega
  · intro i x hx k hk c
    rcases hv with e | ⟨k', e, hk'⟩
    · rw [e] at c
      rcases cases_u i x hx with ⟨q, hx'⟩ | ⟨q, rfl⟩
      · exact h.no i x hx' k hk c
      · have := (hu.lt k hk).1
        have := vlt k c
        omega
    · rw [e] at c
      simp at c
      have hz := hbc.size
      rcases blk i x hx k hk with ⟨_, z⟩ | ⟨_, _, z⟩ <;> omega
theorem infoFile : (Tryz.prog.info? 61).map (fun i => (i.zero, i.size, i.bytes)) = some (some (.agg #[.string ⟨#[]⟩, .slice none 0 0]), 2, 40) := by kernel_rfl
end Go.Proofs.YtjehpijjneghpaaGreat.Dk
