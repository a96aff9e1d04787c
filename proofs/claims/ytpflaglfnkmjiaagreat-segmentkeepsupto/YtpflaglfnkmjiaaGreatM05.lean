/-
  Crash: what it leaves, by data; a fate in memory; what holds between its rounds.
-/
import Derived.Test.YtpflaglfnkmjiaaGreatM04
import Derived.Laws.BytesArg
import Derived.Test.YtpflaglfnkmjiaaGreatM01
import Derived.Deep.Strs
import Derived.Deep.Slices
import Derived.Test.YtpflaglfnkmjiaaGreatM02
import Derived.Deep.LoopGhost
set_option maxRecDepth 100000
set_option maxHeartbeats 40000000
set_option linter.unusedVariables false
namespace Go.Proofs.YtpflaglfnkmjiaaGreat.Dk
open Go.RowKit Go.Maps Go.Sort Go.Shelf Go.Proofs.YtpflaglfnkmjiaaGreat.Nm
abbrev Kep := Int × List UInt8
def crFl (f : Fl) (k : Kep) : Fl := ⟨crF f k.1 k.2, crF f k.1 k.2, 0⟩
def crash1 (F : Nat → Fl) (l : Dr) (s : List UInt8) (k : Kep) : Nat → Fl := match get l s with | some p => upd F p (crFl (F p) k) | none => F
def crashL (l : Dr) : List (List UInt8) → List Kep → (Nat → Fl) → (Nat → Fl)
 | [], _, F => F
 | s :: r, ks, F => crashL l r ks.tail (crash1 F l s (ks.headD (0, [])))
theorem crashL_snoc (l : Dr) (A : List (List UInt8)) (s : List UInt8) (ks : List Kep) (F : Nat → Fl) : crashL l (A ++ [s]) ks F = crash1 (crashL l A ks F) l s (ks.getD A.length (0, [])) := by
 induction A generalizing ks F with
 | nil => cases ks <;> rfl
 | cons a r ih =>
  simp only [List.cons_append, crashL, ih, List.length_cons]
  congr 1
  cases ks with
  | nil => simp
  | cons k q => simp
def DS.crash (S : DS) (d : Int) (ks : List Kep) : DS := { S with up := true, l2 := S.front d, P := [], al := [], F := crashL (S.front d) (nms (S.front d)) ks S.F }
def SIn (Z : Nat → Prop) (v : Value) : Prop := ∀ b off n c, v = .slice (some ⟨b, off, none⟩) n c → 0 < n → Z b
def Kp (Z : Nat → Prop) (w : World) (v : Value) (ks : List Kep) : Prop :=
 ∃ ao cap, v = .slice ao ks.length cap ∧ ks.length ≤ cap ∧ cap ≤ maxLen ∧ ∀ i (h : i < ks.length), ∃ b off vj, ao = some ⟨b, off, none⟩ ∧ Z b ∧ w.cell? ⟨b, off + i * 2, none⟩ = some (.int .i64 ks[i].1) ∧ w.cell? ⟨b, off + i * 2 + 1, none⟩ = some vj ∧ Sl w vj ks[i].2 ∧ SIn Z vj ∧ -9223372036854775808 ≤ ks[i].1 ∧ ks[i].1 ≤ 9223372036854775807
theorem cell_but {X : Nat → Prop} {w w' : World} {b o : Nat} {u : Value} (h : w.cell? ⟨b, o, none⟩ = some u) (hb : But X w w') (hx : ¬ X b) : w'.cell? ⟨b, o, none⟩ = some u := by
 rw [← h]
 have := hb.block b (lt_of_cell h) hx
 unfold World.cell?
 dsimp only
 rw [this]
theorem Kp.but {Z X : Nat → Prop} {w w' : World} {v : Value} {ks : List Kep} (h : Kp Z w v ks) (hb : But X w w') (hx : ∀ k, Z k → ¬ X k) : Kp Z w' v ks := by
 obtain ⟨ao, cap, e, h1, h2, h3⟩ := h
 refine ⟨ao, cap, e, h1, h2, fun i hi => ?_⟩
 obtain ⟨b, off, vj, e1, z, c1, c2, sl, si, n0, n1⟩ := h3 i hi
 exact ⟨b, off, vj, e1, z, cell_but c1 hb (hx b z), cell_but c2 hb (hx b z), sl_but sl hb (fun b' o n c e z k => hx b' (si b' o n c e z) k), si, n0, n1⟩
theorem Kp.below {Z : Nat → Prop} {w w' : World} {v : Value} {ks : List Kep} (h : Kp Z w v ks) (hb : Below w.heap.size w w') : Kp Z w' v ks := h.but (But.of_below hb fun _ => False) fun _ _ c => c
structure CrI (w3 wr : World) (O : Nat → Prop) (b m : Nat) (cs : Array Value) (l : Dr) (ps : List Nat) (F : Nat → Fl) (VB VL : Nat → Value) : Prop where
 box : wr.heap[b]? = some (.cells cs TD (0, 0))
 mp : Mp wr m l
 fs : Fs wr (fun k => k = b ∨ k = m) ps F VB VL
 but : But O w3 wr
 own : ∀ p ∈ ps, ∀ k, FOwn p (VB p) (VL p) k → O k ∨ w3.heap.size ≤ k
 sz : ∀ p ∈ ps, (F p).by_.length ≤ 16777216
theorem CrI.below {w3 wr w' : World} {O : Nat → Prop} {b m : Nat} {cs : Array Value} {l : Dr} {ps : List Nat} {F : Nat → Fl} {VB VL : Nat → Value} (h : CrI w3 wr O b m cs l ps F VB VL) (hb : Below wr.heap.size wr w') : CrI w3 w' O b m cs l ps F VB VL :=
 ⟨(hb.block b (heap_lt h.box)).trans h.box, h.mp.heap (hb.block m h.mp.lt), h.fs.but (But.of_below hb fun _ => False) (fun _ _ _ _ c => c), h.but.trans (But.of_below hb _), h.own, h.sz⟩
theorem but_trans_new {w3 q w' : World} {O Y : Nat → Prop} (h : But O w3 q) (k : But Y q w') (hy : ∀ i, Y i → O i ∨ w3.heap.size ≤ i) : But O w3 w' :=
 ⟨k.os.trans h.os, k.tape.trans h.tape, k.output.trans h.output, Nat.le_trans h.size k.size, fun i hi hx => by
  rw [k.block i (Nat.lt_of_lt_of_le hi h.size) (fun c => ?_)]
  ·exact h.block i hi hx
  ·rcases hy i c with z | z
   ·exact hx z
   ·omega⟩
theorem CrI.step {w3 q w' : World} {O : Nat → Prop} {b m p : Nat} {cs : Array Value} {l : Dr} {ps : List Nat} {F : Nat → Fl} {VB VL : Nat → Value} {k : Kep} {vb vl : Value} (h : CrI w3 q O b m cs l ps F VB VL) (hp : p ∈ ps) (hf : FlAt w' p (crFl (F p) k) vb vl) (hb : But (fun k => k = p) q w') (ho : ∀ k, FOwn p vb vl k → k = p ∨ q.heap.size ≤ k) :
    CrI w3 w' O b m cs l ps (upd F p (crFl (F p) k)) (upd VB p vb) (upd VL p vl) := by
 have hbp : b ≠ p := fun e => h.fs.no p hp p (.inl rfl) (.inl e.symm)
 have hmp : m ≠ p := fun e => h.fs.no p hp p (.inl rfl) (.inr e.symm)
 refine ⟨hb.at h.box hbp, h.mp.but hb hmp, h.fs.one hp hf (hb.mono fun k _ e => .inl e) (fun k hk => ?_) ?_, but_trans_new h.but hb (fun i e => by rw [e]; exact h.own p hp p (.inl rfl)), fun r hr i hi => ?_, fun r hr => ?_⟩
 ·rcases ho k hk with e | e
  ·exact .inl (.inl e)
  ·exact .inr e
 ·rintro k (e | e)
  ·rw [e]; exact heap_lt h.box
  ·rw [e]; exact h.mp.lt
 ·by_cases e : r = p
  ·subst e
   rw [upd_same, upd_same] at hi
   rcases ho i hi with z | z
   ·rw [z]; exact h.own r hr r (.inl rfl)
   ·exact .inr (Nat.le_trans h.but.size z)
  ·rw [upd_ne _ _ e, upd_ne _ _ e] at hi
   exact h.own r hr i hi
 ·by_cases e : r = p
  ·subst e
   rw [upd_same]
   have := crF_len (F r) k.1 k.2 (h.fs.at_ r hr).le
   have := h.sz r hr
   show (crF (F r) k.1 k.2).length ≤ _
   omega
  ·rw [upd_ne _ _ e]
   exact h.sz r hr
theorem CrI.done {w w3 wr w' : World} {O : Nat → Prop} {b m m' : Nat} {S T : DS} {f g : Nat} {pd : Value} {am : Option Nat} {cs : Array Value} {l : Dr} {F : Nat → Fl} {VB VL : Nat → Value} (h0 : Dk w b (S.dc f g pd am) f g S.dir S.l2 S.P S.al) (hok : S.ok) (hlt : ∀ k, O k → k < w.heap.size) (hob : O b) (hw3 : Below w.heap.size w w3 ∨ But O w w3) (hz3 : w.heap.size ≤ w3.heap.size) (hm : w.heap.size ≤ m)
    (h : CrI w3 wr O b m cs l S.ps F VB VL) (hb : But (fun k => k = b) wr w') (hm' : wr.heap.size ≤ m') (hbx : Bx w' b (T.dc m m' (.slice none 0 0) none)) (mm : Mp w' m l) (mm' : Mp w' m' l)
    (e1 : T.most = S.most) (e2 : T.l2 = l) (e3 : T.P = []) (e4 : T.al = []) (e5 : T.c0 = S.c0 ∧ T.c1 = S.c1 ∧ T.c2 = S.c2 ∧ T.c3 = S.c3 ∧ T.c4 = S.c4 ∧ T.c5 = S.c5 ∧ T.c6 = S.c6 ∧ T.c7 = S.c7 ∧ T.c8 = S.c8) (e6 : T.F = F) (hl : (l.length : Int) ≤ S.c7) (hsub : ∀ p ∈ l.map (·.2), p ∈ S.ps) :
    ∃ O', DskE w' b T O' ∧ Sgo w w' O O' := by
 obtain ⟨q0, q1, q2, q3, q4, q5, q6, q7, q8⟩ := e5
 have hdir : T.dir = l := by unfold DS.dir; rw [e2, e3]; rfl
 have hps : ∀ p ∈ T.ps, p ∈ S.ps := by
  intro p hp
  unfold DS.ps at hp
  rw [e2, e3] at hp
  simp only [List.filterMap_nil, List.append_nil] at hp
  exact hsub p hp
 have hnb : ∀ p ∈ S.ps, ∀ k, FOwn p (VB p) (VL p) k → ¬ k = b := fun p hp k hk e => h.fs.no p hp k hk (.inl e)
 have W : But O w wr := by
  rcases hw3 with z | z
  ·exact but_trans_new (But.of_below z O) h.but (fun i e => .inl e)
  ·exact z.trans h.but
 have W' : But O w w' := W.trans (hb.mono fun k _ e => by rw [e]; exact hob)
 refine ⟨fun k => O k ∨ (w.heap.size ≤ k ∧ k < w'.heap.size), ⟨m, m', .slice none 0 0, none, VB, VL, ⟨?_, ?_, ?_, ?_, ?_, ?_⟩⟩, ⟨W', ?_⟩⟩
 ·rw [hdir, e2, e3, e4]
  refine ⟨hbx, rfl, rfl, mm, mm', ?_, Pd.nil _, (fun _ e => by cases e), fun _ => rfl, rfl, trivial, (by simp), ?_, ?_⟩
  ·have := h.mp.lt; omega
  ·show 0 ≤ T.c0 ∧ 0 ≤ T.c1 ∧ 0 ≤ T.c2 ∧ 0 ≤ T.c3 ∧ 0 ≤ T.c4 ∧ 0 ≤ T.c5 ∧ 0 ≤ T.c6 ∧ 0 ≤ T.c7
   rw [q0, q1, q2, q3, q4, q5, q6, q7]; exact h0.c0
  ·show T.c0 ≤ T.c7 ∧ T.c1 ≤ T.c7 ∧ T.c2 ≤ T.c7 ∧ T.c3 ≤ T.c7 ∧ T.c4 ≤ T.c7 ∧ T.c5 ≤ T.c7 ∧ T.c6 ≤ T.c7
   rw [q0, q1, q2, q3, q4, q5, q6, q7]; exact h0.c1
 ·rw [e6]
  have k1 := (h.fs.but hb hnb).sub hps
  refine ⟨k1.at_, k1.ap, fun p hp k hk c => ?_⟩
  rcases c with c | c | c | c | c
  ·exact k1.no p hp k hk (.inl c)
  ·simp only [DS.dc, Option.some.injEq] at c; exact k1.no p hp k hk (.inr c.symm)
  ·simp only [DS.dc, Option.some.injEq] at c
   have := (h.fs.at_ p (hps p hp)).lt k hk
   omega
  ·simp [DS.dc, Value.ownBlock] at c
  ·simp [DS.dc] at c
 ·intro k hk
  rcases hk with c | c | c | c | c
  ·rw [c]; exact .inl hob
  ·simp only [DS.dc, Option.some.injEq] at c; subst c; exact .inr ⟨hm, mm.lt⟩
  ·simp only [DS.dc, Option.some.injEq] at c; subst c; exact .inr ⟨Nat.le_trans W.size hm', mm'.lt⟩
  ·simp [DS.dc, Value.ownBlock] at c
  ·simp [DS.dc] at c
 ·intro p hp k hk
  rcases h.own p (hps p hp) k hk with z | z
  ·exact .inl z
  ·exact .inr ⟨Nat.le_trans hz3 z, Nat.lt_of_lt_of_le ((h.fs.at_ p (hps p hp)).lt k hk) hb.size⟩
 ·rintro k (z | z)
  ·exact Nat.lt_of_lt_of_le (hlt k z) W'.size
  ·exact z.2
 ·refine ⟨by rw [e1]; exact hok.most, fun p hp => by rw [e6]; exact h.sz p (hps p hp), by rw [e2, e3, q7]; simpa using hl, by rw [e4]; simp, by rw [q8, q7]; exact hok.by8⟩
 ·rintro k (z | z)
  ·exact .inl z
  ·exact .inr z.1
open Ix (wp_region_T wpAnyT wpAnyT_take wpAnyT_one wpAnyT_done vac)
theorem crashD_any {w : World} {b : Nat} {S : DS} {O : Nat → Prop} {f g : Nat} {pd : Value} {am : Option Nat} {VB0 VL0 : Nat → Value} (h : Dsk w b S O f g pd am VB0 VL0) (hc : S.c7 < 1000000000) (n : Int) (n0 : -9223372036854775808 ≤ n) (n1 : n ≤ 9223372036854775807) (v : Value) (Z : Nat → Prop) (ks : List Kep) (hk : Kp Z w v ks) (hZ : ∀ k, Z k → ¬ O k ∧ k < w.heap.size) :
    Calls Tryz.prog 17 #[.pointer (some ⟨b, 0, none⟩), .agg #[.int .i64 n, v]] w fun e w' => e = .returned (.tuple #[]) ∧ ∃ O', DskE w' b (S.crash n ks) O' ∧ Sgo w w' O O' := by
 have hB0 := hide (box_below w (.cells #[.int .i64 n, v] 43))
 have hN0 := hide (heap_alloc_new w (.cells #[.int .i64 n, v] 43))
 have hK0 := hide (hk.below hB0.out)
 obtain ⟨ak, ck, rfl, q1, q2, _⟩ := hk
 obtain ⟨w1, hw1⟩ : ∃ w1, Hid (w.alloc (.cells #[.int .i64 n, .slice ak ks.length ck] 43) = w1) := ⟨_, rfl⟩
 rw [hw1.out] at hB0 hN0 hK0
 have H := hide h
 have H1 := hide (h.below hB0.out)
 have hM := made_any w1 _ _ H1.out.dk.dp
 rw [show madeD (some (S.dc f g pd am)) = true from rfl] at hM
 have hD := dsk_directory H1.out hc n n0 n1
 have hlen := front_len h.ok hc n
 have hfl : Hid (∀ p s, get (S.front n) s = some p → p ∈ S.ps) := fun p s hp => mem_front hp
 have hfs : Hid (∀ p ∈ (S.front n).map (·.2), p ∈ S.ps) := fun p hp => DS.mem_front hp
 have hl7 : Hid (((S.front n).length : Int) ≤ S.c7) := by
  show _ ≤ _
  have h1 := h.ok.cnt
  have h2 := runs_len S.l2 (S.P.take (wthn n S.P.length))
  rw [List.length_take] at h2
  unfold DS.front
  omega
 have hE : Hid (S.crash n ks = { S with up := true, l2 := S.front n, P := [], al := [], F := crashL (S.front n) (nms (S.front n)) ks S.F }) := rfl
 rw [hE.out]
 clear hE
 generalize S.front n = l at *
 have hmem : Hid (∀ k (hk : k < (nms l).length), ∃ p, get l (nms l)[k] = some p) := fun k hk => nms_get (List.getElem_mem hk)
 have x0 : w1.cell? ⟨w.heap.size, 0, none⟩ = some (.int .i64 n) := by simp [World.cell?, hN0.out]
 have d2 : Hid (∀ q, Below w1.heap.size w1 q → q.heap[b]? = some (.cells (dcells (S.dc f g pd am)) TD (0, 0))) := fun q hq => (hq.block b (heap_lt H1.out.dk.box)).trans H1.out.dk.box
 clear h
 go_enter Tryz.func17, Tryz.ntmps17
 go_upto_region 1 with fail
 rw [hw1.out]
 go_upto_region 3 with (first
  | (go_at_call 63; refine hM.mono ?_; rintro e w2 ⟨rfl, e1⟩; subst w2)
  | (go_at_call 64; refine hD.mono ?_; rintro e w2 ⟨rfl, M2, B2⟩; replace M2 := hide M2; replace B2 := hide B2; have b2 := hide (d2.out _ B2.out); have y1 : w2.cell? ⟨b, 2, none⟩ = some (.map (some f)) := (by simp [World.cell?, b2.out, dcells, DS.dc]); have y2 : w2.frozen? ⟨b, 2, none⟩ = false := (by simp [World.frozen?, b2.out])))
 clear y1 y2 x0 hM hD d2
 generalize hm0 : w1.heap.size = m at *
 replace hm0 := hide hm0
 have b3 := hide (heap_setCell_same w2 b 2 _ _ (.map (some m)) b2.out)
 obtain ⟨cs, hcs⟩ : ∃ cs, Hid ((dcells (S.dc f g pd am)).setIfInBounds 2 (.map (some m)) = cs) := ⟨_, rfl⟩
 rw [hcs.out] at b3
 have g3 := hide (But.of_grownBy (X := fun k => k = b) (grown_setCell w2 b 2 (.map (some m))) fun k e => by cases e; rfl)
 have hOb : Hid (O b) := H.out.ow b (.inl rfl)
 have hOl : Hid (∀ k, O k → k < w.heap.size) := H.out.lt
 have z1 := hide hB0.out.size
 have z2 : Hid (m ≤ w2.heap.size) := by have := B2.out.size; rw [hm0.out] at this; exact this
 have W2 : Hid (Below w.heap.size w w2) := hB0.out.trans (by have := B2.out; exact this.mono (by rw [← hm0.out] ; exact hB0.out.size))
 have M3 : Hid (Mp (w2.setCell ⟨b, 2, none⟩ (.map (some m))) m l) := M2.out.but g3.out (fun e => M2.out.ne b2.out e.symm)
 have I3 : Hid (CrI (w2.setCell ⟨b, 2, none⟩ (.map (some m))) (w2.setCell ⟨b, 2, none⟩ (.map (some m))) O b m cs l S.ps S.F VB0 VL0) := by
  have D2 := H.out.below W2.out
  have hsz : w2.heap.size ≤ (w2.setCell ⟨b, 2, none⟩ (.map (some m))).heap.size := g3.out.size
  refine ⟨b3.out, M3.out, ?_, But.of_below (Below.refl _ _) _, fun p hp k hk => .inl (H.out.of p hp k hk), H.out.ok.sz⟩
  have F2 : Fs (w2.setCell ⟨b, 2, none⟩ (.map (some m))) (Own b (S.dc f g pd am)) S.ps S.F VB0 VL0 := D2.fs.but g3.out (fun p hp k hk e => D2.fs.no p hp k hk (.inl e))
  refine ⟨F2.at_, F2.ap, fun p hp k hk c => ?_⟩
  rcases c with e | e
  ·exact F2.no p hp k hk (.inl e)
  ·have q1 := H.out.fs.lt hp k hk
   have q2 := z1.out
   rw [hm0.out] at q2
   omega
 have W3 : Hid (But O w (w2.setCell ⟨b, 2, none⟩ (.map (some m)))) := (But.of_below W2.out _).trans (g3.out.mono fun k _ e => by rw [e]; exact hOb.out)
 have N3 : Hid ((w2.setCell ⟨b, 2, none⟩ (.map (some m))).heap[w.heap.size]? = some (.cells #[.int .i64 n, .slice ak ks.length ck] 43 (0, 0))) := g3.out.at ((B2.out.block _ (by have := heap_lt hN0.out; rw [hm0.out] at this; exact this)).trans hN0.out) (fun e => by have := hOl.out b hOb.out; omega)
 have K3 : Hid (Kp Z (w2.setCell ⟨b, 2, none⟩ (.map (some m))) (.slice ak ks.length ck) ks) := ((hK0.out.below (by rw [hm0.out]; exact B2.out)).but g3.out (fun k hk e => (hZ k hk).1 (by rw [e]; exact hOb.out)))
 have y2 : (w2.setCell ⟨b, 2, none⟩ (.map (some m))).cell? ⟨b, 2, none⟩ = some (.map (some m)) := by simp [World.cell?, b3.out, ← hcs.out, dcells]
 clear b2 M2 B2 hK0 hN0 hB0 g3 W2
 generalize (w2.setCell ⟨b, 2, none⟩ (.map (some m))) = w3' at *
 go_wp2_with (go_at_call 65; refine (names_any m l w3' M3.out hlen).mono ?_; rintro e w3 ⟨v2, rfl, R2, _, B3⟩; have R3 := row_of_owns R2 (by simp); have hlow : Hid (∀ k, v2.ownBlock = some k → w3'.heap.size ≤ k) := (fun k hk => (World.ownsRow.lt R2 k hk).1); replace B3 := hide B3; obtain ⟨ao, ca, rfl, r2, r3, r4, r5⟩ := R3; rw [List.length_map] at *; replace r5 := hide r5; clear r2 R2)
 obtain ⟨N, hN2⟩ : ∃ N, Hid ((nms l).length = N) := ⟨_, rfl⟩
 rw [hN2.out] at r3 hlow ⊢
 have hN3 : Hid (N ≤ 1000000000) := by show _ ≤ _; rw [← hN2.out, nms_len]; exact hlen
 have i4 : (ca : Int) ≤ 9223372036854775807 := by unfold maxLen at r4; omega
 have i5 : (ck : Int) ≤ 9223372036854775807 := by unfold maxLen at q2; omega
 have I4 : Hid (CrI w3 w3 O b m cs l S.ps (crashL l ((nms l).take 0) ks S.F) VB0 VL0) := by
  have q := I3.out.below B3.out
  exact ⟨q.box, q.mp, q.fs, But.of_below (Below.refl _ _) _, fun p hp k hk => .inl (H.out.of p hp k hk), q.sz⟩
 have N4 : Hid (w3.heap[w.heap.size]? = some (.cells #[.int .i64 n, .slice ak ks.length ck] 43 (0, 0))) := (B3.out.block _ (heap_lt N3.out)).trans N3.out
 have K4 := hide (K3.out.below B3.out)
 have W4 : Hid (But O w w3) := W3.out.trans (But.of_below B3.out _)
 have zz : Hid (w.heap.size ≤ w3'.heap.size) := W3.out.size
 have hZ' : Hid (∀ k, Z k → ¬ O k) := fun k hk => (hZ k hk).1
 have hcs2 : Hid (cs[2]? = some (.map (some m))) := by show _ = _; rw [← hcs.out]; rfl
 have hcz : Hid (cs.size = 15) := by show _ = _; rw [← hcs.out]; rfl
 clear y2 I3 N3 K3 M3 hlen r4 hZ W3 q2
 go_loopw [23] (fun i wr => ∃ k : Nat, i = .int .i64 k ∧ k ≤ N ∧ ∃ (Fk : Nat → Fl) (VB VL : Nat → Value), Hid (crashL l ((nms l).take k) ks S.F = Fk) ∧ Hid (CrI w3 wr O b m cs l S.ps Fk VB VL)) (fun i _ => N - (intOf i).toNat)
 case atStart => exact ⟨0, rfl, Nat.zero_le _, _, _, _, rfl, I4.out⟩
 case round =>
  obtain ⟨k, rfl, hk, Fk, VB, VL, hFk, hI⟩ := hrel
  by_cases hlt : k < N
  ·have i1 : (k : Int) < (N : Int) := by omega
   have hkl : k < (nms l).length := by rw [hN2.out]; exact hlt
   obtain ⟨p, hp⟩ := hmem.out k hkl
   obtain ⟨gb, off, rfl, hcl⟩ := r5.out k (by rw [List.length_map]; exact hkl)
   have hgb : ¬ O gb := fun c => by have q1 := hOl.out gb c; have q2 := hlow.out gb rfl; have q3 := zz.out; omega
   have hcell : wr.cell? ⟨gb, off + k, none⟩ = some (.string (bsOf (nms l)[k])) := by
    refine cell_but ?_ hI.out.but hgb
    rw [hcl, List.getElem_map]; rfl
   have hgp := hide hp
   have hps := hide (hfl.out p _ hp)
   have hsn : Hid ((nms l).take (k + 1) = (nms l).take k ++ [(nms l)[k]]) := List.take_succ_eq_append_getElem hkl
   have hlk : Hid (((nms l).take k).length = k) := by show _ = _; rw [List.length_take]; omega
   have hsz := hide (hI.out.mp.nlen (List.getElem_mem hkl))
   have Nr : Hid (wr.heap[w.heap.size]? = some (.cells #[.int .i64 n, .slice ak ks.length ck] 43 (0, 0))) := hI.out.but.at N4.out (fun c => Nat.lt_irrefl _ (hOl.out _ c))
   have Kr := hide (K4.out.but hI.out.but hZ'.out)
   clear hcl hp hgb
   generalize (nms l)[k] = s at *
   clear hkl
   have B5 := hide (box_below wr (.cells #[.int .i64 0, .slice none 0 0] 60))
   have N5 := hide (heap_alloc_new wr (.cells #[.int .i64 0, .slice none 0 0] 60))
   have x1 : (wr.alloc (.cells #[.int .i64 0, .slice none 0 0] 60)).cell? ⟨w.heap.size, 1, none⟩ = some (.slice ak ks.length ck) := by
    have : (wr.alloc (.cells #[.int .i64 0, .slice none 0 0] 60)).heap[w.heap.size]? = _ := (B5.out.block _ (heap_lt Nr.out)).trans Nr.out
    simp [World.cell?, this]
   by_cases hkk0 : k < ks.length
   ·have i6 : (k : Int) < (ks.length : Int) := by omega
    obtain ⟨ao', cap', ek, ek1, ek2, ek3⟩ := Kr.out
    simp only [Value.slice.injEq] at ek
    obtain ⟨eka, _, ekc⟩ := ek
    subst eka
    subst ekc
    obtain ⟨kb', ko, vj, rfl, zb, kc1, kc2, ksl, ksi, kn0, kn1⟩ := ek3 k hkk0
    have kc1' := ((B5.out.cell (p := ⟨kb', ko + k * 2, none⟩) (lt_of_cell kc1)).trans kc1)
    have kc2' := ((B5.out.cell (p := ⟨kb', ko + k * 2 + 1, none⟩) (lt_of_cell kc2)).trans kc2)
    have hn0 := hide kn0
    have hn1 := hide kn1
    have hkk : Hid (ks.getD k (0, []) = ((ks[k]).1, (ks[k]).2)) := by show _ = _; rw [List.getD_eq_getElem?_getD, List.getElem?_eq_getElem hkk0]; rfl
    have hvj0 := hide ksl
    obtain ⟨aj, cj, rfl, _⟩ := ksl
    clear ek3 kc1 kc2 ek1 ek2 Kr zb ksi kn0 kn1
    generalize ks[k] = kk at *
    obtain ⟨NJ, J⟩ := kk
    dsimp only at *
    clear hkk0
    go_upto_region 9 with fail
    clear kc1' kc2' hcell B5 N5 x1
    have B6 := hide (box_below wr (.cells #[.int .i64 NJ, .slice aj J.length cj] 60))
    have N6 := hide (heap_alloc_new wr (.cells #[.int .i64 NJ, .slice aj J.length cj] 60))
    generalize wr.alloc (.cells #[.int .i64 NJ, .slice aj J.length cj] 60) = w6 at *
    have g3 : w6.drew.cell? ⟨wr.heap.size, 0, none⟩ = some (.int .i64 NJ) := by show w6.cell? _ = _; simp [World.cell?, N6.out]
    have g4 : w6.drew.cell? ⟨wr.heap.size, 1, none⟩ = some (.slice aj J.length cj) := by show w6.cell? _ = _; simp [World.cell?, N6.out]
    have I6 := hide (hI.out.below B6.out)
    have g2 : w6.drew.cell? ⟨b, 2, none⟩ = some (.map (some m)) := by show w6.cell? _ = _; simp [World.cell?, I6.out.box, hcs2.out]
    have gL : ∀ q, Mp q m l → (Instr.lookup 80 (.map (some m)) (.string (bsOf s)) false).run Tryz.prog q = .ok (.pointer (some ⟨p, 0, none⟩)) q := fun q hq => hq.look (s := bsOf s) hsz.out hgp.out
    have hvj := hide (Below.sl B6.out hvj0.out)
    generalize wr.heap.size = kb at *
    have KC : Hid (∀ q : World, q = w6.drew → q.cell? ⟨b, 2, none⟩ = some (.map (some m)) ∧ (Instr.lookup 80 (.map (some m)) (.string (bsOf s)) false).run Tryz.prog q = .ok (.pointer (some ⟨p, 0, none⟩)) q ∧ q.cell? ⟨kb, 0, none⟩ = some (.int .i64 NJ) ∧ q.cell? ⟨kb, 1, none⟩ = some (.slice aj J.length cj)) := fun q hq => by subst hq; exact ⟨g2, gL w6.drew I6.out.mp, g3, g4⟩
    have KP : Hid (w6.drew = w6.drew) := rfl
    refine wp_region_T (fun q => q = w6.drew) 7 (by kernel_rfl) ?_
    have I7 := hide (I6.out.below (Below.refl _ w6).drew)
    have hCr := crash_any w6.drew p (Fk p) (VB p) (VL p) (.slice aj J.length cj) NJ J (I7.out.fs.at_ p hps.out) (Below.sl (Below.refl _ w6).drew hvj.out) hn0.out hn1.out
    generalize w6.drew = w7 at *
    refine Ix.tk 0 ⟨some 38, .move (.tmp 0), _, _, _, _⟩ (.pointer (some ⟨b, 0, none⟩)) [1,2,3,5,7] ?_ KP.out ?_
    ·intro wq hSw
     subst hSw
     obtain ⟨y2, y3, y4, y5⟩ := KC.out _ rfl
     go_simp
    (try simp only [zzp, zzb, zzc])
    refine Ix.tk 1 ⟨some 39, .nilCheck (.tmp 38), _, _, _, _⟩ (.pointer (some ⟨b, 0, none⟩)) [2,3,5,7] ?_ KP.out ?_
    ·intro wq hSw
     subst hSw
     obtain ⟨y2, y3, y4, y5⟩ := KC.out _ rfl
     go_simp
    (try simp only [zzp, zzb, zzc])
    refine Ix.tk 2 ⟨some 40, .fieldAddr 84 (.tmp 39) 2, _, _, _, _⟩ (.pointer (some ⟨b, 2, none⟩)) [3,5,7] ?_ KP.out ?_
    ·intro wq hSw
     subst hSw
     obtain ⟨y2, y3, y4, y5⟩ := KC.out _ rfl
     go_simp
    (try simp only [zzp, zzb, zzc])
    refine Ix.tk 3 ⟨some 41, .load 80 (.tmp 40), _, _, _, _⟩ (.map (some m)) [5,7] ?_ KP.out ?_
    ·intro wq hSw
     subst hSw
     obtain ⟨y2, y3, y4, y5⟩ := KC.out _ rfl
     go_simp
    (try simp only [zzp, zzb, zzc])
    refine Ix.tk 4 ⟨some 42, .move (.tmp 5), _, _, _, _⟩ (.string (bsOf s)) [5,7] ?_ KP.out ?_
    ·intro wq hSw
     subst hSw
     obtain ⟨y2, y3, y4, y5⟩ := KC.out _ rfl
     go_simp
    (try simp only [zzp, zzb, zzc])
    refine Ix.tk 5 ⟨some 43, .lookup 80 (.tmp 41) (.tmp 42) false, _, _, _, _⟩ (.pointer (some ⟨p, 0, none⟩)) [7] ?_ KP.out ?_
    ·intro wq hSw
     subst hSw
     obtain ⟨y2, y3, y4, y5⟩ := KC.out _ rfl
     go_simp
    (try simp only [zzp, zzb, zzc])
    refine Ix.tk 6 ⟨some 44, .load 60 (.tmp 6), _, _, _, _⟩ (.agg #[.int .i64 NJ, .slice aj J.length cj]) [7] ?_ KP.out ?_
    ·intro wq hSw
     subst hSw
     obtain ⟨y2, y3, y4, y5⟩ := KC.out _ rfl
     go_simp
    (try simp only [zzp, zzb, zzc])
    refine wpAnyT_one (i := 7) (o := ⟨some 45, .call { callee := .value (.func 66), args := #[.tmp 43, .tmp 44], argTypes := #[137, 60] }, _, _, _, _⟩) (by kernel_rfl) rfl (fun K hK => ?_)
    go_simp
    go_at_call 66
    refine hCr.mono ?_
    rintro e w8 ⟨rfl, vb', vl', F8, B8, O8⟩
    have I8 : Hid (CrI w3 w8 O b m cs l S.ps (upd Fk p (crFl (Fk p) (NJ, J))) (upd VB p vb') (upd VL p vl')) := I7.out.step (k := (NJ, J)) hps.out F8 B8 O8
    (try go_simp)
    refine hK.out _ _ (vac (by kernel_rfl)) ?_
    clear hK K F8 B8 O8 hCr KC
    refine wpAnyT_done (by kernel_rfl) ?_ _
    (try simp only [zzp, zzb, zzc])
    go_wp2_with fail
    go_roundw
    case rel =>
     refine ⟨k + 1, by go_num, by omega, _, _, _, ?_, I8.out⟩
     rw [hsn.out, crashL_snoc, hlk.out, hFk.out]
     unfold crash1
     rw [hgp.out, hkk.out]
     exact rfl
    case measure => simp [intOf]; omega
   ·have i6 : ¬ (k : Int) < (ks.length : Int) := by omega
    have hn0 : Hid (-9223372036854775808 ≤ (0 : Int)) := by show _ ≤ _; decide
    have hn1 : Hid ((0 : Int) ≤ 9223372036854775807) := by show _ ≤ _; decide
    have hkk : Hid (ks.getD k (0, []) = ((0 : Int), ([] : List UInt8))) := by show _ = _; rw [List.getD_eq_getElem?_getD, List.getElem?_eq_none (by omega)]; rfl
    go_upto_region 9 with fail
    clear hcell x1
    generalize wr.alloc (.cells #[.int .i64 0, .slice none 0 0] 60) = w6 at *
    have g3 : w6.drew.cell? ⟨wr.heap.size, 0, none⟩ = some (.int .i64 0) := by show w6.cell? _ = _; simp [World.cell?, N5.out]
    have g4 : w6.drew.cell? ⟨wr.heap.size, 1, none⟩ = some (.slice none 0 0) := by show w6.cell? _ = _; simp [World.cell?, N5.out]
    have I6 := hide (hI.out.below B5.out)
    have g2 : w6.drew.cell? ⟨b, 2, none⟩ = some (.map (some m)) := by show w6.cell? _ = _; simp [World.cell?, I6.out.box, hcs2.out]
    have gL : ∀ q, Mp q m l → (Instr.lookup 80 (.map (some m)) (.string (bsOf s)) false).run Tryz.prog q = .ok (.pointer (some ⟨p, 0, none⟩)) q := fun q hq => hq.look (s := bsOf s) hsz.out hgp.out
    have hvj : Hid (Sl w6 (.slice none 0 0) []) := (Ob.nil 0 w6).sl
    generalize wr.heap.size = kb at *
    have KC : Hid (∀ q : World, q = w6.drew → q.cell? ⟨b, 2, none⟩ = some (.map (some m)) ∧ (Instr.lookup 80 (.map (some m)) (.string (bsOf s)) false).run Tryz.prog q = .ok (.pointer (some ⟨p, 0, none⟩)) q ∧ q.cell? ⟨kb, 0, none⟩ = some (.int .i64 (0 : Int)) ∧ q.cell? ⟨kb, 1, none⟩ = some (.slice none 0 0)) := fun q hq => by subst hq; exact ⟨g2, gL w6.drew I6.out.mp, g3, g4⟩
    have KP : Hid (w6.drew = w6.drew) := rfl
    refine wp_region_T (fun q => q = w6.drew) 7 (by kernel_rfl) ?_
    have I7 := hide (I6.out.below (Below.refl _ w6).drew)
    have hCr := crash_any w6.drew p (Fk p) (VB p) (VL p) (.slice none 0 0) (0 : Int) ([] : List UInt8) (I7.out.fs.at_ p hps.out) (Below.sl (Below.refl _ w6).drew hvj.out) hn0.out hn1.out
    generalize w6.drew = w7 at *
    refine Ix.tk 0 ⟨some 38, .move (.tmp 0), _, _, _, _⟩ (.pointer (some ⟨b, 0, none⟩)) [1,2,3,5,7] ?_ KP.out ?_
    ·intro wq hSw
     subst hSw
     obtain ⟨y2, y3, y4, y5⟩ := KC.out _ rfl
     go_simp
    (try simp only [zzp, zzb, zzc])
    refine Ix.tk 1 ⟨some 39, .nilCheck (.tmp 38), _, _, _, _⟩ (.pointer (some ⟨b, 0, none⟩)) [2,3,5,7] ?_ KP.out ?_
    ·intro wq hSw
     subst hSw
     obtain ⟨y2, y3, y4, y5⟩ := KC.out _ rfl
     go_simp
    (try simp only [zzp, zzb, zzc])
    refine Ix.tk 2 ⟨some 40, .fieldAddr 84 (.tmp 39) 2, _, _, _, _⟩ (.pointer (some ⟨b, 2, none⟩)) [3,5,7] ?_ KP.out ?_
    ·intro wq hSw
     subst hSw
     obtain ⟨y2, y3, y4, y5⟩ := KC.out _ rfl
     go_simp
    (try simp only [zzp, zzb, zzc])
    refine Ix.tk 3 ⟨some 41, .load 80 (.tmp 40), _, _, _, _⟩ (.map (some m)) [5,7] ?_ KP.out ?_
    ·intro wq hSw
     subst hSw
     obtain ⟨y2, y3, y4, y5⟩ := KC.out _ rfl
     go_simp
    (try simp only [zzp, zzb, zzc])
    refine Ix.tk 4 ⟨some 42, .move (.tmp 5), _, _, _, _⟩ (.string (bsOf s)) [5,7] ?_ KP.out ?_
    ·intro wq hSw
     subst hSw
     obtain ⟨y2, y3, y4, y5⟩ := KC.out _ rfl
     go_simp
    (try simp only [zzp, zzb, zzc])
    refine Ix.tk 5 ⟨some 43, .lookup 80 (.tmp 41) (.tmp 42) false, _, _, _, _⟩ (.pointer (some ⟨p, 0, none⟩)) [7] ?_ KP.out ?_
    ·intro wq hSw
     subst hSw
     obtain ⟨y2, y3, y4, y5⟩ := KC.out _ rfl
     go_simp
    (try simp only [zzp, zzb, zzc])
    refine Ix.tk 6 ⟨some 44, .load 60 (.tmp 6), _, _, _, _⟩ (.agg #[.int .i64 (0 : Int), .slice none 0 0]) [7] ?_ KP.out ?_
    ·intro wq hSw
     subst hSw
     obtain ⟨y2, y3, y4, y5⟩ := KC.out _ rfl
     go_simp
    (try simp only [zzp, zzb, zzc])
    refine wpAnyT_one (i := 7) (o := ⟨some 45, .call { callee := .value (.func 66), args := #[.tmp 43, .tmp 44], argTypes := #[137, 60] }, _, _, _, _⟩) (by kernel_rfl) rfl (fun K hK => ?_)
    go_simp
    go_at_call 66
    refine hCr.mono ?_
    rintro e w8 ⟨rfl, vb', vl', F8, B8, O8⟩
    have I8 : Hid (CrI w3 w8 O b m cs l S.ps (upd Fk p (crFl (Fk p) ((0 : Int), ([] : List UInt8)))) (upd VB p vb') (upd VL p vl')) := I7.out.step (k := ((0 : Int), ([] : List UInt8))) hps.out F8 B8 O8
    (try go_simp)
    refine hK.out _ _ (vac (by kernel_rfl)) ?_
    clear hK K F8 B8 O8 hCr KC
    refine wpAnyT_done (by kernel_rfl) ?_ _
    (try simp only [zzp, zzb, zzc])
    go_wp2_with fail
    go_roundw
    case rel =>
     refine ⟨k + 1, by go_num, by omega, _, _, _, ?_, I8.out⟩
     rw [hsn.out, crashL_snoc, hlk.out, hFk.out]
     unfold crash1
     rw [hgp.out, hkk.out]
     exact rfl
    case measure => simp [intOf]; omega
  ·obtain rfl : k = N := by omega
   rw [List.take_of_length_le (by rw [hN2.out]; omega)] at hFk
   have hS := settle_any wr b m cs l hI.out.box hcz.out hcs2.out hI.out.mp
   go_wp2_with (go_at_call 55; refine hS.mono ?_; rintro e w9 ⟨rfl, m', hm', M9, b9, B9⟩; replace M9 := hide M9; replace B9 := hide B9; replace b9 := hide b9; replace hm' := hide hm'; have t1 : w9.cell? ⟨b, 5, none⟩ = some (cs.getD 5 undef) := (by have := hcz.out; simp [World.cell?, b9.out, this]); have t2 : w9.frozen? ⟨b, 5, none⟩ = false := (by simp [World.frozen?, b9.out]); have b10 := hide (heap_setCell_same w9 b 5 _ _ (.map none) b9.out); have t3 : (w9.setCell ⟨b, 5, none⟩ (.map none)).cell? ⟨b, 1, none⟩ = some (cs.getD 1 undef) := (by have := hcz.out; simp [World.cell?, b10.out, this]); have t4 : (w9.setCell ⟨b, 5, none⟩ (.map none)).frozen? ⟨b, 1, none⟩ = false := (by simp [World.frozen?, b10.out]))
   go_end0
   have b11 := heap_setCell_same _ b 1 _ _ (.bool true) b10.out
   have gg := (But.of_grownBy (X := fun k => k = b) (grown_setCell w9 b 5 (.map none)) fun k e => by cases e; rfl).trans (But.of_grownBy (X := fun k => k = b) (grown_setCell (w9.setCell ⟨b, 5, none⟩ (.map none)) b 1 (.bool true)) fun k e => by cases e; rfl)
   have hne : m ≠ b := fun e => hI.out.mp.ne hI.out.box e.symm
   have hne' : m' ≠ b := fun e => by have q1 := heap_lt hI.out.box; have q2 := hm'.out; omega
   have Mm : Mp w9 m l := hI.out.mp.but B9.out hne
   refine ⟨rfl, hI.out.done (T := { S with up := true, l2 := l, P := [], al := [], F := crashL l (nms l) ks S.F }) H.out.dk H.out.ok hOl.out hOb.out (.inr W4.out) W4.out.size (by have := z1.out; rw [hm0.out] at this; exact this) (B9.out.trans gg) hm'.out ?_ (Mm.but gg hne) (M9.out.but gg hne') rfl rfl rfl rfl ⟨rfl, rfl, rfl, rfl, rfl, rfl, rfl, rfl, rfl⟩ hFk.out hl7.out hfs.out⟩
   unfold Bx
   rw [b11, ← hcs.out]
   rfl
def noF : Nat → Fl := fun _ => ⟨[], [], 0⟩
def DS.new (most : Int) : DS := ⟨most, true, [], [], [], 0, 0, 0, 0, 0, 0, 0, 0, 0, noF⟩
theorem new_dsk (w : World) (most : Int) (h0 : 0 ≤ most) (h1 : most ≤ 16777216) :
    Calls Tryz.prog 7 #[.int .i64 most] w fun e w' => ∃ b O, e = .returned (.pointer (some ⟨b, 0, none⟩)) ∧ DskE w' b (DS.new most) O ∧ Below w.heap.size w w' ∧ (∀ k, O k → w.heap.size ≤ k) := by
 refine (new_any w most (by omega) (by omega)).mono ?_
 rintro e w' ⟨hB, ⟨hn, _⟩ | ⟨_, _, rfl, hb, m1, m2⟩⟩
 ·exact absurd ⟨h0, h1⟩ hn
 ·refine ⟨w.heap.size + 2, fun k => w.heap.size ≤ k ∧ k < w'.heap.size, rfl, ⟨w.heap.size, w.heap.size + 1, .slice none 0 0, none, fun _ => undef, fun _ => undef, ⟨?_, ⟨fun p hp => by simp [DS.ps, DS.new] at hp, fun p hp => by simp [DS.ps, DS.new] at hp, fun p hp => by simp [DS.ps, DS.new] at hp⟩, ?_, fun p hp => by simp [DS.ps, DS.new] at hp, fun k hk => hk.2, ?_⟩⟩, hB, fun k hk => hk.1⟩
  ·exact ⟨hb, rfl, rfl, m1, m2, by omega, Pd.nil _, (fun _ e => by cases e), fun _ => rfl, rfl, trivial, (by simp [DS.new]), ⟨Int.le_refl _, Int.le_refl _, Int.le_refl _, Int.le_refl _, Int.le_refl _, Int.le_refl _, Int.le_refl _, Int.le_refl _⟩, ⟨Int.le_refl _, Int.le_refl _, Int.le_refl _, Int.le_refl _, Int.le_refl _, Int.le_refl _, Int.le_refl _⟩⟩
  ·have z := heap_lt hb
   intro k hk
   rcases hk with c | c | c | c | c
   ·rw [c]; exact ⟨by omega, z⟩
   ·simp only [DS.dc, Option.some.injEq] at c; subst c; exact ⟨by omega, by omega⟩
   ·simp only [DS.dc, Option.some.injEq] at c; subst c; exact ⟨by omega, by omega⟩
   ·simp [DS.dc, Value.ownBlock] at c
   ·simp [DS.dc] at c
  ·exact ⟨⟨h0, h1⟩, fun p hp => by simp [DS.ps, DS.new] at hp, Int.le_refl _, (fun e he => by simp [DS.new] at he), ⟨Int.le_refl _, Int.le_refl _⟩⟩
theorem append_dsk {w : World} {b : Nat} {S : DS} {O : Nat → Prop} (h : DskE w b S O) (s : ByteArray) (hs : s.size ≤ maxLen) (v : Value) (D : List UInt8) (hv : Sl w v D) (ho : SOff O v) (hc : S.c7 < 900000000) :
    Calls Tryz.prog 49 #[.pointer (some ⟨b, 0, none⟩), .string s, v] w fun e w' => e = .returned (.tuple #[.int .i64 (S.append s D).2.1, .int .i64 (S.append s D).2.2]) ∧ ∃ O', DskE w' b (S.append s D).1 O' ∧ Sgo w w' O O' := by
 obtain ⟨f, g, pd, am, VB, VL, h⟩ := h
 exact append_any h s hs v D hv ho hc
theorem crash_dsk {w : World} {b : Nat} {S : DS} {O : Nat → Prop} (h : DskE w b S O) (hc : S.c7 < 1000000000) (n : Int) (n0 : -9223372036854775808 ≤ n) (n1 : n ≤ 9223372036854775807) (v : Value) (Z : Nat → Prop) (ks : List Kep) (hk : Kp Z w v ks) (hZ : ∀ k, Z k → ¬ O k ∧ k < w.heap.size) :
    Calls Tryz.prog 17 #[.pointer (some ⟨b, 0, none⟩), .agg #[.int .i64 n, v]] w fun e w' => e = .returned (.tuple #[]) ∧ ∃ O', DskE w' b (S.crash n ks) O' ∧ Sgo w w' O O' := by
 obtain ⟨f, g, pd, am, VB, VL, h⟩ := h
 exact crashD_any h hc n n0 n1 v Z ks hk hZ
theorem kp_one {w : World} {g : Nat} {N : Int} {vj : Value} {J : List UInt8} {T : TypeId} {z : Nat × Nat} {Z : Nat → Prop} (hh : w.heap[g]? = some (.cells #[.int .i64 N, vj] T z)) (hz : Z g) (hj : Sl w vj J) (hjz : SIn Z vj) (h0 : -9223372036854775808 ≤ N) (h1 : N ≤ 9223372036854775807) : Kp Z w (.slice (some ⟨g, 0, none⟩) 1 1) [(N, J)] := by
 refine ⟨some ⟨g, 0, none⟩, 1, rfl, Nat.le_refl _, by decide, fun i hi => ?_⟩
 obtain rfl : i = 0 := by simp at hi; omega
 refine ⟨g, 0, vj, rfl, hz, ?_, ?_, hj, hjz, h0, h1⟩
 ·simp [World.cell?, hh]
 ·simp [World.cell?, hh]
def spF (f : Fl) : Fl := ⟨f.by_, f.la, f.by_.length - f.la.length⟩
def DS.sync (S : DS) (s : ByteArray) : DS × Int :=
 match S.find s with
 | (none, e) => (S, e)
 | (some p, _) =>
  if S.flt.2.1 = 1 then ({ S.beg 2 with F := upd S.F p (spF (S.F p)) }, 20)
  else if S.flt.2.1 = 3 then ((S.beg 2).str 3, 22)
  else ({ S.beg 2 with F := upd S.F p (syF (S.F p)) }, 0)
theorem syncF_any {w : World} {b : Nat} {S : DS} {O : Nat → Prop} {f g : Nat} {pd : Value} {am : Option Nat} {VB VL : Nat → Value} (h : Dsk w b S O f g pd am VB VL) (s : ByteArray) (hs : s.size ≤ maxLen) (hc : S.c7 < 900000000) :
    Calls Tryz.prog 50 #[.pointer (some ⟨b, 0, none⟩), .string s] w (Does w b O (S.sync s)) := by
 have hF := dsk_find h s hs
 by_cases h0 : (S.find s).2 = 0
 ·obtain ⟨p, e, hg, hr, hp⟩ := find_ok h0
  rw [e] at hF
  simp only [Option.map_some] at hF
  have hR : Hid (S.sync s = if S.flt.2.1 = 1 then ({ S.beg 2 with F := upd S.F p (spF (S.F p)) }, 20) else if S.flt.2.1 = 3 then ((S.beg 2).str 3, 22) else ({ S.beg 2 with F := upd S.F p (syF (S.F p)) }, 0)) := by show _ = _; unfold DS.sync; rw [e]
  have hb : Hid (∀ u, Dsk u b S O f g pd am VB VL → _) := fun u hu => dsk_begin hu 2 (by omega) (by omega)
  have hft := h.ok.flt
  have hsz := hide (h.ok.sz p hp)
  have H := hide h
  obtain ⟨t, ht⟩ : ∃ t, Hid (S.flt = t) := ⟨_, rfl⟩
  rw [ht.out] at hb hft hR
  unfold fv at hb
  obtain ⟨ta, tk, tp⟩ := t
  dsimp only at hb hft hR
  clear h e hr h0 hg
  have hsp : Hid (∀ u, Dsk u b (S.beg 2) O f g pd am VB VL → Calls Tryz.prog 117 #[.pointer (some ⟨p, 0, none⟩)] u fun e w' => e = .returned (.tuple #[]) ∧ ∃ O', Dsk w' b { S.beg 2 with F := upd S.F p (spF (S.F p)) } O' f g pd am (upd VB p (VB p)) (upd VL p (VL p)) ∧ Sgo u w' O O' ∧ But (fun k => k = p) u w') := fun u hu => by
   refine (spoil_any u p (S.F p) (VB p) (VL p) (hu.fs.at_ p hp)).mono ?_
   rintro e w' ⟨rfl, hf, hB⟩
   obtain ⟨O', k1, k2⟩ := hu.one (t := spF (S.F p)) hp hf (hB.mono fun k _ e => .inl e) (fun k hk => .inl hk) hsz.out
   exact ⟨rfl, O', k1, k2, hB⟩
  have hsy : Hid (∀ u, Dsk u b (S.beg 2) O f g pd am VB VL → Calls Tryz.prog 118 #[.pointer (some ⟨p, 0, none⟩)] u fun e w' => e = .returned (.tuple #[]) ∧ ∃ O', DskE w' b { S.beg 2 with F := upd S.F p (syF (S.F p)) } O' ∧ Sgo u w' O O') := fun u hu => by
   refine (sync_any u p (S.F p) (VB p) (VL p) (hu.fs.at_ p hp)).mono ?_
   rintro e w' ⟨rfl, vl', hf, hB, ho⟩
   obtain ⟨O', k1, k2⟩ := hu.one (t := syF (S.F p)) hp hf hB ho hsz.out
   exact ⟨rfl, O', k1.e, k2⟩
  have hpO : Hid (O p) := H.out.of p hp p (.inl rfl)
  by_cases k1 : tk = 1
  ·subst k1
   have hR2 : Hid (S.sync s = ({ S.beg 2 with F := upd S.F p (spF (S.F p)) }, 20)) := by show _ = _; rw [hR.out, if_pos rfl]
   rw [hR2.out]
   clear hR hft hsy
   have hst : Hid (∀ u O' VB' VL', Dsk u b { S.beg 2 with F := upd S.F p (spF (S.F p)) } O' f g pd am VB' VL' → Calls Tryz.prog 53 #[.pointer (some ⟨b, 0, none⟩), .agg #[.int .i64 ta, .int .i64 1, .int .i64 tp]] u fun e w' => e = .returned (.int .i64 20) ∧ Dsk w' b { S.beg 2 with F := upd S.F p (spF (S.F p)) } O' f g pd am VB' VL' ∧ Sgo u w' O' O') := fun u O' VB' VL' hu => dsk_strikeR hu (ta, 1, tp) (by show (1 : Int) ≠ 4; decide)
   go_enter Tryz.func50, Tryz.ntmps50
   go_upto_region 5 with (first
    | (go_at_call 99; refine hF.mono ?_; rintro e w1 ⟨rfl, B1⟩; replace B1 := hide B1; have D1 := hide (H.out.below B1.out))
    | (go_at_call 54; refine (hb.out _ D1.out).mono ?_; rintro e w2 ⟨rfl, D2, G2⟩; replace D2 := hide D2; replace G2 := hide G2))
   have B3 := hide (box_below w2 (.cells #[.int .i64 ta, .int .i64 1, .int .i64 tp] 118))
   have N3 := hide (heap_alloc_new w2 (.cells #[.int .i64 ta, .int .i64 1, .int .i64 tp] 118))
   have D3 := hide (D2.out.below B3.out)
   have hne : Hid (¬ O w2.heap.size) := fun c => Nat.lt_irrefl _ (D2.out.lt _ c)
   have T3 := hide ((Sgo.of_below (O := O) B1.out).trans (G2.out.trans (Sgo.of_below B3.out)))
   generalize w2.alloc (.cells #[.int .i64 ta, .int .i64 1, .int .i64 tp] 118) = w3 at *
   obtain ⟨x0, x1, x2⟩ := cells3 N3.out
   go_wp2_with (first
    | (go_at_call 117; refine (hsp.out _ D3.out).mono ?_; rintro e w4 ⟨rfl, O4, D4, G4, U4⟩; replace D4 := hide D4; replace G4 := hide G4; have N4 := hide (U4.at N3.out (fun e => hne.out (by rw [e]; exact hpO.out))); clear U4; obtain ⟨y0, y1, y2⟩ := cells3 N4.out)
    | (go_at_call 53; refine (hst.out _ _ _ _ D4.out).mono ?_; rintro e w5 ⟨rfl, D5, G5⟩; replace D5 := hide D5; replace G5 := hide G5))
   go_ret
   exact ⟨rfl, O4, D5.out.e, T3.out.trans (G4.out.trans G5.out)⟩
  ·have k1' : (tk == 1) = false := by simpa using k1
   have k4' : (tk == 4) = false := by simp; omega
   by_cases k3 : tk = 3
   ·subst k3
    have hR2 : Hid (S.sync s = ((S.beg 2).str 3, 22)) := by show _ = _; rw [hR.out, if_neg (by decide), if_pos rfl]
    rw [hR2.out]
    clear hR hft hsy hsp
    have hst : Hid (∀ u, Dsk u b (S.beg 2) O f g pd am VB VL → Calls Tryz.prog 53 #[.pointer (some ⟨b, 0, none⟩), .agg #[.int .i64 ta, .int .i64 3, .int .i64 tp]] u fun e w' => e = .returned (.int .i64 22) ∧ Dsk w' b ((S.beg 2).str 3) O f g pd am VB VL ∧ Sgo u w' O O) := fun u hu => dsk_strikeR hu (ta, 3, tp) (by show (3 : Int) ≠ 4; decide)
    go_enter Tryz.func50, Tryz.ntmps50
    go_upto_region 5 with (first
     | (go_at_call 99; refine hF.mono ?_; rintro e w1 ⟨rfl, B1⟩; replace B1 := hide B1; have D1 := hide (H.out.below B1.out))
     | (go_at_call 54; refine (hb.out _ D1.out).mono ?_; rintro e w2 ⟨rfl, D2, G2⟩; replace D2 := hide D2; replace G2 := hide G2))
    have B3 := hide (box_below w2 (.cells #[.int .i64 ta, .int .i64 3, .int .i64 tp] 118))
    have N3 := hide (heap_alloc_new w2 (.cells #[.int .i64 ta, .int .i64 3, .int .i64 tp] 118))
    have D3 := hide (D2.out.below B3.out)
    have T3 := hide ((Sgo.of_below (O := O) B1.out).trans (G2.out.trans (Sgo.of_below B3.out)))
    generalize w2.alloc (.cells #[.int .i64 ta, .int .i64 3, .int .i64 tp] 118) = w3 at *
    obtain ⟨x0, x1, x2⟩ := cells3 N3.out
    go_wp2_with (go_at_call 53; refine (hst.out _ D3.out).mono ?_; rintro e w5 ⟨rfl, D5, G5⟩; replace D5 := hide D5; replace G5 := hide G5)
    go_ret
    exact ⟨rfl, O, D5.out.e, T3.out.trans G5.out⟩
   ·have hR2 : Hid (S.sync s = ({ S.beg 2 with F := upd S.F p (syF (S.F p)) }, 0)) := by show _ = _; rw [hR.out, if_neg k1, if_neg k3]
    rw [hR2.out]
    have hst : Hid (∀ u, Dsk u b (S.beg 2) O f g pd am VB VL → Calls Tryz.prog 53 #[.pointer (some ⟨b, 0, none⟩), .agg #[.int .i64 ta, .int .i64 tk, .int .i64 tp]] u fun e w' => e = .returned (.int .i64 0) ∧ Dsk w' b (S.beg 2) O f g pd am VB VL ∧ Sgo u w' O O) := fun u hu => by
     have := dsk_strikeR hu (ta, tk, tp) (by show tk ≠ 4; omega)
     have e1 : strR tk = 0 := by unfold strR strF; by_cases c : tk = 2 <;> simp [c, k1, k3]
     have e2 : (S.beg 2).str tk = S.beg 2 := by unfold DS.str; rw [if_neg k3]
     dsimp only at this
     rw [e1, e2] at this
     exact this
    clear hR hft hsp k1 k3
    go_enter Tryz.func50, Tryz.ntmps50
    go_upto_region 5 with (first
     | (go_at_call 99; refine hF.mono ?_; rintro e w1 ⟨rfl, B1⟩; replace B1 := hide B1; have D1 := hide (H.out.below B1.out))
     | (go_at_call 54; refine (hb.out _ D1.out).mono ?_; rintro e w2 ⟨rfl, D2, G2⟩; replace D2 := hide D2; replace G2 := hide G2))
    have B3 := hide (box_below w2 (.cells #[.int .i64 ta, .int .i64 tk, .int .i64 tp] 118))
    have N3 := hide (heap_alloc_new w2 (.cells #[.int .i64 ta, .int .i64 tk, .int .i64 tp] 118))
    have D3 := hide (D2.out.below B3.out)
    have T3 := hide ((Sgo.of_below (O := O) B1.out).trans (G2.out.trans (Sgo.of_below B3.out)))
    generalize w2.alloc (.cells #[.int .i64 ta, .int .i64 tk, .int .i64 tp] 118) = w3 at *
    obtain ⟨x0, x1, x2⟩ := cells3 N3.out
    go_wp2_with (first
     | (go_at_call 53; refine (hst.out _ D3.out).mono ?_; rintro e w5 ⟨rfl, D5, G5⟩; replace D5 := hide D5; replace G5 := hide G5)
     | (go_at_call 118; refine (hsy.out _ D5.out).mono ?_; rintro e w6 ⟨rfl, O6, D6, G6⟩; replace D6 := hide D6; replace G6 := hide G6))
    go_ret
    exact ⟨rfl, O6, D6.out, T3.out.trans (G5.out.trans G6.out)⟩
 ·have hR : Hid (S.sync s = (S, (S.find s).2)) := by
    show _ = _
    have q := find_no h0
    unfold DS.sync
    cases hq : S.find s with
    | mk a c => rw [hq] at q; dsimp only at q; subst q; rfl
  rw [hR.out]
  have q := find_no h0
  rw [q] at hF
  simp only [Option.map_none] at hF
  generalize (S.find s).2 = r at *
  have h0' : (r != 0) = true := by simpa using h0
  have H := hide h
  clear h h0 q hR
  go_enter Tryz.func50, Tryz.ntmps50
  go_wp2_with (go_at_call 99; refine hF.mono ?_; rintro e w1 ⟨rfl, B1⟩; replace B1 := hide B1)
  go_ret
  exact ⟨rfl, O, (H.out.below B1.out).e, Sgo.of_below B1.out⟩
theorem flt_none {S : DS} (h : S.al = []) : S.flt = zf := by unfold DS.flt; rw [h]; rfl
theorem hit_none {S : DS} (h : S.al = []) (j : Nat) : S.hit j = S.beg j := by
 unfold DS.hit DS.str
 rw [flt_none h]
 rfl
theorem ref_up {S : DS} (h : S.up = true) {s : ByteArray} (hm : may s.data.toList = true) : S.ref [s] = 0 := by
 unfold DS.ref
 rw [h]
 simp [hm]
theorem find_get {S : DS} (h : S.up = true) {s : ByteArray} (hm : may s.data.toList = true) {p : Nat} (hg : get S.dir s.data.toList = some p) : S.find s = (some p, 0) := by
 unfold DS.find
 rw [ref_up h hm, if_pos rfl, hg]
structure Cm (S : DS) (M : Nat) (L2 : Dr) (PP : List Ch) (F : Nat → Fl) (c : Int) : Prop where
 up : S.up = true
 al : S.al = []
 most : S.most = (M : Int)
 l2 : S.l2 = L2
 P : S.P = PP
 F : S.F = F
 c7 : S.c7 = c
theorem Cm.dir {S : DS} {M : Nat} {L2 : Dr} {PP : List Ch} {F : Nat → Fl} {c : Int} (h : Cm S M L2 PP F c) : S.dir = runs L2 PP := by unfold DS.dir; rw [h.l2, h.P]
theorem Cm.find {S : DS} {M : Nat} {L2 : Dr} {PP : List Ch} {F : Nat → Fl} {c : Int} (h : Cm S M L2 PP F c) {s : ByteArray} {p : Nat} (hm : may s.data.toList = true) (hg : get (runs L2 PP) s.data.toList = some p) : S.find s = (some p, 0) := find_get h.up hm (by rw [h.dir]; exact hg)
theorem Cm.create {S : DS} {M : Nat} {L2 : Dr} {PP : List Ch} {F : Nat → Fl} {c : Int} (h : Cm S M L2 PP F c) {s : ByteArray} (hm : may s.data.toList = true) (hg : get (runs L2 PP) s.data.toList = none) (hl : (runs L2 PP).length < 256) (p : Nat) :
    (S.create s p).2 = 0 ∧ Cm (S.create s p).1 M L2 (PP ++ [.cr s p]) (upd F p ⟨[], [], 0⟩) (c + 1) := by
 have e : S.create s p = ({ (S.beg 0).str S.flt.2.1 with P := S.P ++ [.cr s p], F := upd S.F p ⟨[], [], 0⟩ }, 0) := by
  unfold DS.create
  rw [ref_up h.up hm, if_neg (by simp), h.dir, hg, if_neg (by simp), if_neg (by omega), flt_none h.al, if_neg (by decide)]
 rw [e, flt_none h.al]
 refine ⟨rfl, ⟨h.up, ?_, h.most, h.l2, ?_, ?_, ?_⟩⟩
 ·show adel S.al _ = []; rw [h.al]; rfl
 ·show S.P ++ _ = _; rw [h.P]
 ·show upd S.F p _ = _; rw [h.F]
 ·show S.c7 + 1 = _; rw [h.c7]
theorem Cm.append {S : DS} {M : Nat} {L2 : Dr} {PP : List Ch} {F : Nat → Fl} {c : Int} (h : Cm S M L2 PP F c) {s : ByteArray} {p : Nat} (hm : may s.data.toList = true) (hg : get (runs L2 PP) s.data.toList = some p) (D : List UInt8) (hD : sumL F (runs L2 PP) + D.length ≤ M) :
    (S.append s D).2.1 = (D.length : Int) ∧ (S.append s D).2.2 = 0 ∧ Cm (S.append s D).1 M L2 PP (upd F p (apF (F p) D)) (c + 1) := by
 have hn : S.apN D.length = D.length := by
  unfold DS.apN DS.room
  rw [flt_none h.al, if_neg (by decide), h.dir, h.F, h.most]
  omega
 have e : S.append s D = ({ (S.beg 1).str S.flt.2.1 with F := upd S.F p (apF (S.F p) (D.take (S.apN D.length))), c8 := S.c8 + (S.apN D.length : Int) }, (S.apN D.length : Int), if strF S.flt.2.1 ≠ 0 then strF S.flt.2.1 else if S.apN D.length < D.length then 21 else 0) := by
  unfold DS.append
  rw [h.find hm hg]
 rw [e, hn, flt_none h.al, List.take_length]
 refine ⟨rfl, ?_, ⟨h.up, ?_, h.most, h.l2, h.P, ?_, ?_⟩⟩
 ·show (if strF 0 ≠ 0 then strF 0 else if D.length < D.length then 21 else 0) = 0
  rw [if_neg (by decide), if_neg (by omega)]
 ·show adel S.al _ = []; rw [h.al]; rfl
 ·show upd S.F p (apF (S.F p) D) = _; rw [h.F]
 ·show S.c7 + 1 = _; rw [h.c7]
theorem Cm.sync {S : DS} {M : Nat} {L2 : Dr} {PP : List Ch} {F : Nat → Fl} {c : Int} (h : Cm S M L2 PP F c) {s : ByteArray} {p : Nat} (hm : may s.data.toList = true) (hg : get (runs L2 PP) s.data.toList = some p) :
    (S.sync s).2 = 0 ∧ Cm (S.sync s).1 M L2 PP (upd F p (syF (F p))) (c + 1) := by
 have e : S.sync s = ({ S.beg 2 with F := upd S.F p (syF (S.F p)) }, 0) := by
  unfold DS.sync
  rw [h.find hm hg]
  dsimp only
  rw [flt_none h.al, if_neg (by decide), if_neg (by decide)]
 rw [e]
 refine ⟨rfl, ⟨h.up, ?_, h.most, h.l2, h.P, ?_, ?_⟩⟩
 ·show adel S.al _ = []; rw [h.al]; rfl
 ·show upd S.F p (syF (S.F p)) = _; rw [h.F]
 ·show S.c7 + 1 = _; rw [h.c7]
theorem Cm.syncDir {S : DS} {M : Nat} {L2 : Dr} {PP : List Ch} {F : Nat → Fl} {c : Int} (h : Cm S M L2 PP F c) : S.syncDir.2 = 0 ∧ Cm S.syncDir.1 M (runs L2 PP) [] F (c + 1) := by
 have hr : S.ref [] = 0 := by unfold DS.ref; rw [h.up]; rfl
 have e : S.syncDir = ({ S.hit 6 with l2 := S.dir, P := [] }, 0) := by
  unfold DS.syncDir
  rw [hr, if_neg (by simp), flt_none h.al, if_neg (by decide)]
 rw [e, hit_none h.al]
 refine ⟨rfl, ⟨h.up, ?_, h.most, h.dir, rfl, h.F, ?_⟩⟩
 ·show adel S.al _ = []; rw [h.al]; rfl
 ·show S.c7 + 1 = _; rw [h.c7]
theorem Cm.crash {S : DS} {M : Nat} {L2 : Dr} {PP : List Ch} {F : Nat → Fl} {c : Int} (h : Cm S M L2 PP F c) (d : Int) (ks : List Kep) : Cm (S.crash d ks) M (runs L2 (PP.take (wthn d PP.length))) [] (crashL (runs L2 (PP.take (wthn d PP.length))) (nms (runs L2 (PP.take (wthn d PP.length)))) ks F) c := by
 have hf : S.front d = runs L2 (PP.take (wthn d PP.length)) := by unfold DS.front; rw [h.l2, h.P]
 refine ⟨rfl, rfl, h.most, hf, rfl, ?_, h.c7⟩
 show crashL (S.front d) (nms (S.front d)) ks S.F = _
 rw [hf, h.F]
end Go.Proofs.YtpflaglfnkmjiaaGreat.Dk
namespace Go.Proofs.YtpflaglfnkmjiaaGreat.Dk
open Go.ChangeShapes Go.WideShapes Go.ChangeAt Go.RowKit Go.Deep
set_option maxRecDepth 100000
set_option maxRecDepth 100000
end Go.Proofs.YtpflaglfnkmjiaaGreat.Dk
namespace Go.Proofs.YtpflaglfnkmjiaaGreat.Dk
open Go.RowKit Go.Maps Go.Sort Go.Shelf Go.Proofs.YtpflaglfnkmjiaaGreat.Nm
def DS.cs (S : DS) : Array Value := #[.int .i64 S.c0, .int .i64 S.c1, .int .i64 S.c2, .int .i64 S.c3, .int .i64 S.c4, .int .i64 S.c5, .int .i64 S.c6, .int .i64 S.c7, .int .i64 S.c8]
theorem count_dsk {w : World} {b : Nat} {S : DS} {O : Nat → Prop} (h : DskE w b S O) :
    Calls Tryz.prog 21 #[.pointer (some ⟨b, 0, none⟩)] w fun e w' => e = .returned (.agg S.cs) ∧ Below w.heap.size w w' := by
 obtain ⟨f, g, pd, am, VB, VL, h⟩ := h
 have hb := h.dk.cells
 have hB := hide (box_below w (.cells S.cs 74))
 have hb1 : (w.alloc (.cells #[.int .i64 0, .int .i64 0, .int .i64 0, .int .i64 0, .int .i64 0, .int .i64 0, .int .i64 0, .int .i64 0, .int .i64 0] 74)).heap[b]? = some (.cells (dcells (S.dc f g pd am)) TD (0, 0)) := ((box_below w _).block b (heap_lt hb)).trans hb
 have x0 : (w.alloc (.cells #[.int .i64 0, .int .i64 0, .int .i64 0, .int .i64 0, .int .i64 0, .int .i64 0, .int .i64 0, .int .i64 0, .int .i64 0] 74)).cell? ⟨b, 6, none⟩ = some (.int .i64 S.c0) := by simp [World.cell?, hb1, dcells, DS.dc]
 have x1 : (w.alloc (.cells #[.int .i64 0, .int .i64 0, .int .i64 0, .int .i64 0, .int .i64 0, .int .i64 0, .int .i64 0, .int .i64 0, .int .i64 0] 74)).cell? ⟨b, 7, none⟩ = some (.int .i64 S.c1) := by simp [World.cell?, hb1, dcells, DS.dc]
 have x2 : (w.alloc (.cells #[.int .i64 0, .int .i64 0, .int .i64 0, .int .i64 0, .int .i64 0, .int .i64 0, .int .i64 0, .int .i64 0, .int .i64 0] 74)).cell? ⟨b, 8, none⟩ = some (.int .i64 S.c2) := by simp [World.cell?, hb1, dcells, DS.dc]
 have x3 : (w.alloc (.cells #[.int .i64 0, .int .i64 0, .int .i64 0, .int .i64 0, .int .i64 0, .int .i64 0, .int .i64 0, .int .i64 0, .int .i64 0] 74)).cell? ⟨b, 9, none⟩ = some (.int .i64 S.c3) := by simp [World.cell?, hb1, dcells, DS.dc]
 have x4 : (w.alloc (.cells #[.int .i64 0, .int .i64 0, .int .i64 0, .int .i64 0, .int .i64 0, .int .i64 0, .int .i64 0, .int .i64 0, .int .i64 0] 74)).cell? ⟨b, 10, none⟩ = some (.int .i64 S.c4) := by simp [World.cell?, hb1, dcells, DS.dc]
 have x5 : (w.alloc (.cells #[.int .i64 0, .int .i64 0, .int .i64 0, .int .i64 0, .int .i64 0, .int .i64 0, .int .i64 0, .int .i64 0, .int .i64 0] 74)).cell? ⟨b, 11, none⟩ = some (.int .i64 S.c5) := by simp [World.cell?, hb1, dcells, DS.dc]
 have x6 : (w.alloc (.cells #[.int .i64 0, .int .i64 0, .int .i64 0, .int .i64 0, .int .i64 0, .int .i64 0, .int .i64 0, .int .i64 0, .int .i64 0] 74)).cell? ⟨b, 12, none⟩ = some (.int .i64 S.c6) := by simp [World.cell?, hb1, dcells, DS.dc]
 have x7 : (w.alloc (.cells #[.int .i64 0, .int .i64 0, .int .i64 0, .int .i64 0, .int .i64 0, .int .i64 0, .int .i64 0, .int .i64 0, .int .i64 0] 74)).cell? ⟨b, 13, none⟩ = some (.int .i64 S.c7) := by simp [World.cell?, hb1, dcells, DS.dc]
 have x8 : (w.alloc (.cells #[.int .i64 0, .int .i64 0, .int .i64 0, .int .i64 0, .int .i64 0, .int .i64 0, .int .i64 0, .int .i64 0, .int .i64 0] 74)).cell? ⟨b, 14, none⟩ = some (.int .i64 S.c8) := by simp [World.cell?, hb1, dcells, DS.dc]
 clear hb1 hb h
 unfold DS.cs at hB ⊢
 go_enter Tryz.func21, Tryz.ntmps21
 go_wp2_with fail
 go_returns
 exact ⟨rfl, hB.out⟩
open Ix (wp_region_T wpAnyT wpAnyT_take wpAnyT_one wpAnyT_done vac)
theorem wpAnyT_pair {P : Program} {ops : Array Oper} {Q : Exit → Act → World → Prop} {md : Region.Mode} {S : World → Prop} {d : Nat} {i j : Nat} {oi oj : Oper} {fuel : Nat} {listed : Array Bool} {a : Act} {w : World} (G : Value → Value → World → Prop) (hij : i ≠ j) (hr : Region.ready md ops listed = [i, j]) (hoi : ops[i]? = some oi) (hoj : ops[j]? = some oj)
    (hri : Region.ready md ops (listed.setIfInBounds i true) = [j]) (hrj : Region.ready md ops (listed.setIfInBounds j true) = [i])
    (hcomm : ∀ vi vj, (a.put oj.dst vj).put oi.dst vi = (a.put oi.dst vi).put oj.dst vj)
    (hI : ∀ K' : Act → World → Prop, Shut (∀ vi w1, S w1 → (∀ K2 : Act → World → Prop, Shut (∀ vj w2, G vi vj w2 → K2 ((a.put oi.dst vi).put oj.dst vj) w2) → if Region.wanted oj (yielded ops (a.put oi.dst vi).tmps) = true then Oper.wp P oj (a.put oi.dst vi) w1 K2 Q else K2 ((a.put oi.dst vi).put oj.dst undef) w1) → K' (a.put oi.dst vi) w1) → if Region.wanted oi (yielded ops a.tmps) = true then Oper.wp P oi a w K' Q else K' (a.put oi.dst undef) w)
    (hJ : ∀ K' : Act → World → Prop, Shut (∀ vj w1, S w1 → (∀ K2 : Act → World → Prop, Shut (∀ vi w2, G vi vj w2 → K2 ((a.put oj.dst vj).put oi.dst vi) w2) → if Region.wanted oi (yielded ops (a.put oj.dst vj).tmps) = true then Oper.wp P oi (a.put oj.dst vj) w1 K2 Q else K2 ((a.put oj.dst vj).put oi.dst undef) w1) → K' (a.put oj.dst vj) w1) → if Region.wanted oj (yielded ops a.tmps) = true then Oper.wp P oj a w K' Q else K' (a.put oj.dst undef) w)
    (hG : ∀ vi vj w2, G vi vj w2 → S w2)
    (h : ∀ vi vj w2, G vi vj w2 → wpAnyT P md ops Q S d fuel ((listed.setIfInBounds i true).setIfInBounds j true) ((a.put oi.dst vi).put oj.dst vj) w2) :
    wpAnyT P md ops Q S d (fuel + 1 + 1) listed a w := by
 refine ⟨fun h0 => (by rw [h0] at hr; cases hr), fun k hk => ?_⟩
 rw [hr] at hk
 simp only [List.mem_cons, List.not_mem_nil, or_false] at hk
 rcases hk with rfl | rfl
 ·refine wpOp_step hoi (fun K' hK => hI K' (fun vi w1 hS hrest => hK _ w1 ⟨fun _ => hS, ?_⟩))
  refine wpAnyT_one hri hoj (fun K2 hK2 => hrest K2 (fun vj w2 hg => hK2 _ w2 (fun _ => hG vi vj w2 hg) (h vi vj w2 hg)))
 ·refine wpOp_step hoj (fun K' hK => hJ K' (fun vj w1 hS hrest => hK _ w1 ⟨fun _ => hS, ?_⟩))
  refine wpAnyT_one hrj hoi (fun K2 hK2 => hrest K2 (fun vi w2 hg => hK2 _ w2 (fun _ => hG vi vj w2 hg) ?_))
  rw [hcomm, Array.setIfInBounds_comm _ _ (Ne.symm hij)]
  exact h vi vj w2 hg
end Go.Proofs.YtpflaglfnkmjiaaGreat.Dk
namespace Go.Proofs.YtpflaglfnkmjiaaGreat.Sg
open Go.RowKit Go.Maps Go.Sort Go.Shelf Go.Proofs.YtpflaglfnkmjiaaGreat.Nm Go.Proofs.YtpflaglfnkmjiaaGreat.Dk
open Ix (wp_region_T wpAnyT wpAnyT_take wpAnyT_one wpAnyT_done vac)
theorem bs2 {w q q' : World} (h : Below w.heap.size w q) (h2 : Below q.heap.size q q') : Below w.heap.size w q' := h.trans (h2.mono h.size)
theorem tri {w : World} {g : Nat} {a b c : Value} {T : TypeId} {z : Nat × Nat} (h : w.heap[g]? = some (.cells #[a, b, c] T z)) : w.cell? ⟨g, 0, none⟩ = some a ∧ w.cell? ⟨g, 1, none⟩ = some b ∧ w.cell? ⟨g, 2, none⟩ = some c := ⟨by simp [World.cell?, h], by simp [World.cell?, h], by simp [World.cell?, h]⟩
structure SG where
 b : Nat
 file : ByteArray
 num : Int
 base : Int
 hs : Int
 next : Int
 size : Int
 seed : Int
 cond : Int
 x : Ix.X
 sd : Sr
def SG.cs (s : SG) (xb mb : Nat) : Array Value := #[.pointer (some ⟨s.b, 0, none⟩), .string s.file, .int .i64 s.num, .int .i64 s.base, .int .u32 s.hs, .int .i64 s.next, .int .i64 s.size, .int .u32 s.seed, .int .i64 s.cond, .pointer (some ⟨xb, 0, none⟩), .map (some mb)]
structure Seg (w : World) (sb : Nat) (s : SG) (xb mb : Nat) (v : Value) : Prop where
 box : w.heap[sb]? = some (.cells (s.cs xb mb) 130 (0, 0))
 ix : Ix.At Ix.TI w xb s.x v
 sm : Sm w mb s.sd
 ap : xb ≠ mb ∧ xb ≠ sb ∧ mb ≠ sb ∧ ∀ k, v.ownBlock = some k → k ≠ sb ∧ k ≠ xb ∧ k ≠ mb
theorem headed_any (w : World) (b : Nat) (s : ByteArray) (num base hs sum : Int) (hs2 : s.size ≤ 281474976710656) :
    Calls Tryz.prog 51 #[.pointer (some ⟨b, 0, none⟩), .string s, .agg #[.int .i64 num, .int .i64 base, .int .u32 hs], .int .u32 sum] w fun e w' => ∃ sb xb mb v, e = .returned (.pointer (some ⟨sb, 0, none⟩)) ∧ Seg w' sb ⟨b, s, num, base, hs, base, 32, sum, 0, ⟨1024, [], (0, 0)⟩, []⟩ xb mb v ∧ Below w.heap.size w w' ∧ (w.heap.size ≤ sb ∧ w.heap.size ≤ xb ∧ w.heap.size ≤ mb ∧ ∀ k, v.ownBlock = some k → w.heap.size ≤ k) := by
 replace hs2 := hide hs2
 have B1 := hide (box_below w (.cells #[.int .i64 num, .int .i64 base, .int .u32 hs] 38))
 have N1 := hide (heap_alloc_new w (.cells #[.int .i64 num, .int .i64 base, .int .u32 hs] 38))
 obtain ⟨w1, hw1⟩ : ∃ w1, Hid (w.alloc (.cells #[.int .i64 num, .int .i64 base, .int .u32 hs] 38) = w1) := ⟨_, rfl⟩
 obtain ⟨g6, hg6⟩ : ∃ g6, Hid (w.heap.size = g6) := ⟨_, rfl⟩
 rw [hw1.out] at B1 N1
 rw [hg6.out] at N1
 have hX := Ix.new_any w1 1024 (by omega) (by omega)
 go_enter Tryz.func51, Tryz.ntmps51
 go_upto_region 1 with fail
 rw [hw1.out, hg6.out]
 go_upto_region 2 with (first
  | (go_at_call 119; refine hX.mono ?_; rintro e w3 ⟨b3, ⟨c, _⟩ | ⟨_, _, xb, lx, rfl, X3⟩⟩; (exact absurd (show (1 : Int) ≤ 1024 ∧ (1024 : Int) ≤ 1048576 by decide) c); replace X3 := hide X3; replace b3 := hide b3; replace lx := hide lx)
  | fail)
 clear hX
 have N3 := hide ((b3.out.block _ (heap_lt N1.out)).trans N1.out)
 have B03 := hide (bs2 B1.out b3.out)
 have KP : Hid (w3.drew.heap[g6]? = some (.cells #[.int .i64 num, .int .i64 base, .int .u32 hs] 38 (0, 0))) := N3.out
 have GQ : Hid (Below w3.heap.size w3 w3.drew) := (Below.refl _ _).drew
 refine wp_region_T (fun q => q.heap[g6]? = some (.cells #[.int .i64 num, .int .i64 base, .int .u32 hs] 38 (0, 0))) 11 (by kernel_rfl) ?_
 generalize w3.drew = q at *
 refine Ix.tk 0 ⟨some 15, .move (.tmp 0), _, _, _, _⟩ (.pointer (some ⟨b, 0, none⟩)) [9,10,11] ?_ KP.out ?_
 ·intro wq hSw
  obtain ⟨y0, y1, y2⟩ := tri hSw
  go_simp
 (try simp only [zzp, zzb, zzc])
 refine Ix.tk 1 ⟨some 16, .move (.tmp 1), _, _, _, _⟩ (.string s) [2,9,10,11] ?_ KP.out ?_
 ·intro wq hSw
  obtain ⟨y0, y1, y2⟩ := tri hSw
  go_simp
 (try simp only [zzp, zzb, zzc])
 refine Ix.tk 3 ⟨some 18, .load 38 (.tmp 6), _, _, _, _⟩ (.agg #[.int .i64 num, .int .i64 base, .int .u32 hs]) [9,10,11] ?_ KP.out ?_
 ·intro wq hSw
  obtain ⟨y0, y1, y2⟩ := tri hSw
  go_simp
 (try simp only [zzp, zzb, zzc])
 refine Ix.tk 4 ⟨some 19, .fieldAddr 38 (.tmp 6) 1, _, _, _, _⟩ (.pointer (some ⟨g6, 1, none⟩)) [5,9,10,11] ?_ KP.out ?_
 ·intro wq hSw
  obtain ⟨y0, y1, y2⟩ := tri hSw
  go_simp
 (try simp only [zzp, zzb, zzc])
 refine Ix.tk 5 ⟨some 20, .load 2 (.tmp 19), _, _, _, _⟩ (.int .i64 base) [9,10,11] ?_ KP.out ?_
 ·intro wq hSw
  obtain ⟨y0, y1, y2⟩ := tri hSw
  go_simp
 (try simp only [zzp, zzb, zzc])
 refine Ix.tk 6 ⟨some 21, .move (.tmp 3), _, _, _, _⟩ (.int .u32 sum) [9,10,11] ?_ KP.out ?_
 ·intro wq hSw
  obtain ⟨y0, y1, y2⟩ := tri hSw
  go_simp
 (try simp only [zzp, zzb, zzc])
 refine Ix.tk 7 ⟨some 22, .move (.tmp 9), _, _, _, _⟩ (.pointer (some ⟨xb, 0, none⟩)) [9,10,11] ?_ KP.out ?_
 ·intro wq hSw
  obtain ⟨y0, y1, y2⟩ := tri hSw
  go_simp
 (try simp only [zzp, zzb, zzc])
 refine wpAnyT_pair (i := 2) (j := 8) (oi := ⟨some 17, .call { callee := .value (.func 101), args := #[.tmp 16], argTypes := #[9] }, _, _, _, _⟩) (oj := ⟨some 23, .makeMap 128 none, _, _, _, _⟩) (fun vi vj w2 => vi = .string s ∧ ∃ mb, vj = .map (some mb) ∧ q.heap.size ≤ mb ∧ Sm w2 mb [] ∧ Below q.heap.size q w2) (by decide) (by kernel_rfl) rfl rfl (by kernel_rfl) (by kernel_rfl) (fun _ _ => rfl) ?_ ?_ ?_ ?_
 ·intro K hK
  go_simp
  go_at_call 101
  refine (clone_str s q hs2.out).mono ?_
  rintro e w4 ⟨rfl, b4⟩
  (try go_simp)
  refine hK.out (.string s) _ ((b4.block _ (heap_lt KP.out)).trans KP.out) (fun K2 hK2 => ?_)
  clear hK K
  go_simp
  exact hK2.out (.map (some w4.heap.size)) _ ⟨rfl, w4.heap.size, rfl, b4.size, Sm.made w4, b4.alloc b4.size (.map #[] 0)⟩
 ·intro K hK
  go_simp
  have B4 : Below q.heap.size q (q.alloc (.map #[] 0)) := (Below.refl _ _).alloc (Nat.le_refl _) (.map #[] 0)
  refine hK.out (.map (some q.heap.size)) _ ((B4.block _ (heap_lt KP.out)).trans KP.out) (fun K2 hK2 => ?_)
  clear hK K
  have M1 := Sm.made q
  go_simp
  go_at_call 101
  refine (clone_str s _ hs2.out).mono ?_
  rintro e w4 ⟨rfl, b4⟩
  (try go_simp)
  exact hK2.out (.string s) _ ⟨rfl, q.heap.size, rfl, Nat.le_refl _, M1.heap (b4.block _ M1.lt), bs2 B4 b4⟩
 ·rintro vi vj w2 ⟨_, mb, _, _, _, hb⟩
  exact (hb.block _ (heap_lt KP.out)).trans KP.out
 rintro vi vj w4 ⟨rfl, mb, rfl, hmb, M4, b4⟩
 replace M4 := hide M4
 replace b4 := hide b4
 have K4 : Hid (w4.heap[g6]? = some (.cells #[.int .i64 num, .int .i64 base, .int .u32 hs] 38 (0, 0))) := (b4.out.block _ (heap_lt KP.out)).trans KP.out
 (try simp only [zzp, zzb, zzc])
 refine wpAnyT_one (i := 9) (o := ⟨some 24, .build 130 #[(0, .tmp 15), (1, .tmp 17), (2, .tmp 18), (3, .tmp 20), (4, .const (Value.int IntKind.i64 32)), (5, .tmp 21), (7, .tmp 22), (8, .tmp 23)], _, _, _, _⟩) (by kernel_rfl) rfl (fun K hK => ?_)
 go_simp
 refine hK.out _ _ (fun _ => K4.out) ?_
 clear hK K
 (try simp only [zzp, zzb, zzc])
 have B5 := hide (box_below w4 (.cells #[.pointer (some ⟨b, 0, none⟩), .string s, .int .i64 num, .int .i64 base, .int .u32 hs, .int .i64 base, .int .i64 32, .int .u32 sum, .int .i64 0, .pointer (some ⟨xb, 0, none⟩), .map (some mb)] 130))
 have N5 := hide (heap_alloc_new w4 (.cells #[.pointer (some ⟨b, 0, none⟩), .string s, .int .i64 num, .int .i64 base, .int .u32 hs, .int .i64 base, .int .i64 32, .int .u32 sum, .int .i64 0, .pointer (some ⟨xb, 0, none⟩), .map (some mb)] 130))
 have K5 : Hid ((w4.alloc (.cells #[.pointer (some ⟨b, 0, none⟩), .string s, .int .i64 num, .int .i64 base, .int .u32 hs, .int .i64 base, .int .i64 32, .int .u32 sum, .int .i64 0, .pointer (some ⟨xb, 0, none⟩), .map (some mb)] 130)).heap[g6]? = some (.cells #[.int .i64 num, .int .i64 base, .int .u32 hs] 38 (0, 0))) := (B5.out.block _ (heap_lt K4.out)).trans K4.out
 refine wpAnyT_one (i := 10) (o := ⟨some 25, .box 130 (.tmp 24), _, _, _, _⟩) (by kernel_rfl) rfl (fun K hK => ?_)
 go_simp
 refine hK.out _ _ (fun _ => K5.out) ?_
 clear hK K
 (try simp only [zzp, zzb, zzc])
 refine wpAnyT_one (i := 11) (o := ⟨some 8, .assign (.tmp 25), _, _, _, _⟩) (by kernel_rfl) rfl (fun K hK => ?_)
 go_simp
 refine hK.out _ _ (vac (by kernel_rfl)) ?_
 clear hK K
 (try simp only [zzp, zzb, zzc])
 refine wpAnyT_done (by kernel_rfl) ?_ _
 go_wp2_with fail
 go_ret
 have bq := bs2 GQ.out (bs2 b4.out B5.out)
 have xa := (X3.out.below bq)
 refine ⟨_, xb, mb, _, rfl, ⟨N5.out, xa, M4.out.heap (B5.out.block _ M4.out.lt), ?_⟩, ?_, ?_⟩
 ·have z1 := X3.out.lt xb (.inl rfl)
  have z2 := GQ.out.size
  have z3 := M4.out.lt
  refine ⟨by omega, by omega, by omega, fun k hk => by simp [Value.ownBlock] at hk⟩
 ·exact bs2 B03.out bq
 ·have z1 := GQ.out.size
  have z2 := B03.out.size
  have z3 := b4.out.size
  have z4 := B1.out.size
  have z5 := lx.out
  exact ⟨by omega, by omega, by omega, fun k hk => by simp [Value.ownBlock] at hk⟩
end Go.Proofs.YtpflaglfnkmjiaaGreat.Sg
namespace Go.Proofs.YtpflaglfnkmjiaaGreat.Ix
open Go.RowKit
def cmpF (a b : Int) : Int := if a < b then -1 else if b < a then 1 else 0
theorem nan_any (w : World) (a : Int) : Calls Tryz.prog 202 #[.int .i64 a] w fun e w' => e = .returned (.bool false) ∧ w' = w := by
 go_enter Tryz.func202, Tryz.ntmps202
 go_wp2_with fail
 go_ret
 exact ⟨by simp, rfl⟩
theorem compare_any (w : World) (a b : Int) : Calls Tryz.prog 186 #[.int .i64 a, .int .i64 b] w fun e w' => e = .returned (.int .i64 (cmpF a b)) ∧ w' = w := by
 go_enter Tryz.func186, Tryz.ntmps186
 go_wp2_with fail
 refine (nan_any _ _).mono ?_
 rintro e w1 ⟨rfl, rfl⟩
 go_wp2_with fail
 refine (nan_any _ _).mono ?_
 rintro e w1 ⟨rfl, rfl⟩
 by_cases h1 : a < b
 ·have hc : Hid (cmpF a b = -1) := by show _ = _; rw [cmpF, if_pos h1]
  go_wp2_with fail
  go_ret
  exact ⟨by rw [hc.out]; rfl, rfl⟩
 ·by_cases h2 : b < a
  ·have hc : Hid (cmpF a b = 1) := by show _ = _; rw [cmpF, if_neg h1, if_pos h2]
   go_wp2_with fail
   go_ret
   exact ⟨by rw [hc.out]; rfl, rfl⟩
  ·have hc : Hid (cmpF a b = 0) := by show _ = _; rw [cmpF, if_neg h1, if_neg h2]
   go_wp2_with fail
   go_ret
   exact ⟨by rw [hc.out]; rfl, rfl⟩
theorem clo_any (w : World) (a o n : Int) : Calls Tryz.prog 185 #[.agg #[.int .i64 a, .int .i64 o], .int .i64 n] w fun e w' => e = .returned (.int .i64 (cmpF a n)) ∧ Below w.heap.size w w' := by
 have hB := hide (box_below w (.cells #[.int .i64 a, .int .i64 o] 147))
 go_enter Tryz.func185, Tryz.ntmps185
 go_wp2_with fail
 refine (compare_any _ _ _).mono ?_
 rintro e w1 ⟨rfl, rfl⟩
 go_wp2_with fail
 go_ret
 exact ⟨rfl, hB.out⟩
def isAt (l : List (Int × Int)) (n : Int) : Bool := match l[cnt l n]? with
 | some e => decide (e.1 = n)
 | none => false
theorem cmpF_neg (a b : Int) : (cmpF a b < 0) = (a < b) := by
 unfold cmpF
 by_cases h : a < b
 ·simp [h]
 ·by_cases h2 : b < a <;> simp [h, h2]
theorem cmpF_zero (a b : Int) : (cmpF a b = 0) = (a = b) := by
 unfold cmpF
 by_cases h : a < b
 ·simp [h]; omega
 ·by_cases h2 : b < a
  ·simp [h, h2]; omega
  ·simp [h, h2]; omega
theorem bsf_any (w : World) (v : Value) (st : Nat) (l : List (Int × Int)) (n : Int) (hv : Ents w v l) (hs : Srt st l) :
    Calls Tryz.prog 184 #[v, .int .i64 n, .func (.func 185) #[] #[]] w fun e w' =>
     e = .returned (.tuple #[.int .i64 (cnt l n : Int), .bool (isAt l n)]) ∧ Below w.heap.size w w' := by
 by_cases hl : l = []
 ·subst hl
  obtain ⟨ao, ca, rfl, q1, q2⟩ := hv.form
  have hR : Hid ((cnt [] n : Int) = 0 ∧ isAt [] n = false) := ⟨rfl, rfl⟩
  clear hv
  simp only [List.length_nil]
  go_enter Tryz.func184, Tryz.ntmps184
  go_wp2_with fail
  go_loopw [9, 10] (fun s9 s10 wr => s9 = .int .i64 0 ∧ s10 = .int .i64 0 ∧ wr = w) (fun _ _ _ => 0)
  case atStart => exact ⟨rfl, rfl, rfl⟩
  case round =>
   obtain ⟨rfl, rfl, rfl⟩ := hrel
   go_wp2_with fail
   go_ret2
   exact ⟨by rw [hR.out.1, hR.out.2]; rfl, Below.refl _ _⟩
 ·obtain ⟨g, ca, rfl, hc, q1, q2, _⟩ := hv.at hl
  have HC := hide hc
  have HS := hide (cnt_split hs n)
  have hcl := cnt_le l n
  have hlen := hs.len
  have hR : Hid (∀ (hk : cnt l n < l.length), isAt l n = decide (l[cnt l n].1 = n)) := fun hk => by
   unfold isAt; rw [List.getElem?_eq_getElem hk]
  have hR2 : Hid (l.length ≤ cnt l n → isAt l n = false) := fun hk => by
   unfold isAt; rw [List.getElem?_eq_none hk]
  have SRT := hide hs
  obtain ⟨C, hC⟩ : ∃ C, Hid (cnt l n = C) := ⟨_, rfl⟩
  obtain ⟨N, hN⟩ : ∃ N, Hid (l.length = N) := ⟨_, rfl⟩
  obtain ⟨iz, hiz⟩ : ∃ iz, Hid (isAt l n = iz) := ⟨_, rfl⟩
  rw [hC.out] at hcl
  rw [hN.out] at q1 hlen hcl
  rw [hC.out, hN.out, hiz.out]
  clear hc hv hs hl
  go_enter Tryz.func184, Tryz.ntmps184
  go_wp2_with fail
  go_loopg [9, 10] N (fun kx s9 s10 wr => ∃ lo hi : Nat, s9 = .int .i64 (lo : Int) ∧ s10 = .int .i64 (hi : Int) ∧ lo ≤ C ∧ C ≤ hi ∧ hi ≤ N ∧ hi - lo ≤ kx ∧ Hid (Below w.heap.size w wr))
  case atStart => exact ⟨0, N, rfl, rfl, Nat.zero_le _, hcl, Nat.le_refl _, by omega, Below.refl _ _⟩
  case round =>
   obtain ⟨lo, hi, rfl, rfl, h1, h2, h3, h4, hB⟩ := hrel
   by_cases hlt : lo < hi
   ·have hm : (lo + hi) / 2 < l.length := by rw [hN.out]; omega
    obtain ⟨k0, k1⟩ := HC.out _ hm
    have gB := hB.out.cell (lt_of_cell k0)
    have gB1 := hB.out.cell (lt_of_cell k1)
    rw [k0] at gB
    rw [k1] at gB1
    have hL : Hid ((lo + hi) / 2 < C → l[(lo + hi) / 2].1 < n) := fun h => HS.out.1 _ hm (by rw [hC.out]; exact h)
    have hG : Hid (C ≤ (lo + hi) / 2 → n ≤ l[(lo + hi) / 2].1) := fun h => HS.out.2 _ hm (by rw [hC.out]; exact h)
    generalize l[(lo + hi) / 2] = en at *
    obtain ⟨e1, e2⟩ := en
    simp only at gB gB1 hL hG
    obtain ⟨M, hM⟩ : ∃ M, M = (lo + hi) / 2 := ⟨_, rfl⟩
    rw [← hM] at gB gB1 hL hG hm
    have hMi : ((lo : Int) + (hi : Int)) / 2 = (M : Int) := by omega
    have hMN : M < N := by omega
    have hM1 : lo ≤ M ∧ M < hi := by omega
    replace hM := hide hM
    replace hm := hide hm
    clear k0 k1
    have hcn := hide (cmpF_neg e1 n)
    go_wp2_with fail
    refine (clo_any _ _ _ _).mono ?_
    rintro e w2 ⟨rfl, b2⟩
    have hB2 := hide (keepF hB.out b2)
    clear b2 gB gB1
    by_cases hlt2 : e1 < n
    ·have hMC : M < C := by
       refine Classical.byContradiction fun c => ?_
       have := hG.out (by omega)
       omega
     rw [show cmpF e1 n = -1 by rw [cmpF, if_pos hlt2]]
     go_wp2_with fail
     go_roundg (hi - (M + 1))
     case measure => omega
     case rel => exact ⟨M + 1, hi, rfl, rfl, by omega, h2, h3, Nat.le_refl _, hB2.out⟩
    ·have hMC : C ≤ M := by
       refine Classical.byContradiction fun c => ?_
       have := hL.out (by omega)
       omega
     have hz : ¬ cmpF e1 n < 0 := by rw [cmpF_neg]; exact hlt2
     generalize cmpF e1 n = z at *
     go_wp2_with fail
     go_roundg (M - lo)
     case measure => omega
     case rel => exact ⟨lo, M, rfl, rfl, h1, hMC, by omega, Nat.le_refl _, hB2.out⟩
   ·obtain rfl : lo = C := by omega
    obtain rfl : hi = lo := by omega
    clear HS
    by_cases hin : hi < N
    ·have hm : hi < l.length := by rw [hN.out]; exact hin
     obtain ⟨k0, k1⟩ := HC.out _ hm
     have gB := hB.out.cell (lt_of_cell k0)
     have gB1 := hB.out.cell (lt_of_cell k1)
     rw [k0] at gB
     rw [k1] at gB1
     have hQ : Hid (iz = decide (l[hi].1 = n)) := by
      show _ = _
      rw [← hiz.out, hR.out (by rw [hC.out]; exact hm)]
      simp only [hC.out]
     generalize l[hi] = en at *
     obtain ⟨e1, e2⟩ := en
     simp only at gB gB1 hQ
     replace hm := hide hm
     have hcz := hide (cmpF_zero e1 n)
     clear k0 k1
     go_wp2_with fail
     refine (clo_any _ _ _ _).mono ?_
     rintro e w2 ⟨rfl, b2⟩
     have hB2 := hide (keepF hB.out b2)
     clear b2 gB gB1
     have hfin : Hid (iz = decide (cmpF e1 n = 0)) := by show _ = _; rw [hQ.out]; simp only [hcz.out]
     generalize cmpF e1 n = z at *
     go_wp2_with fail
     go_ret2
     exact ⟨by rw [hfin.out]; first | rfl | simp, hB2.out⟩
    ·have hfin : Hid (iz = false) := by show _ = _; rw [← hiz.out]; exact hR2.out (by rw [hC.out, hN.out]; omega)
     go_wp2_with fail
     go_ret2
     exact ⟨by rw [hfin.out]; rfl, hB.out⟩
theorem below_any (w : World) (b : Nat) (x : X) (v : Value) (n : Int) (h : At TI w b x v) (hk : Ok x) :
    Calls Tryz.prog 142 #[.pointer (some ⟨b, 0, none⟩), .int .i64 n] w fun e w' => e = .returned (.tuple #[.int .i64 (cnt x.l n : Int), .bool (isAt x.l n)]) ∧ Below w.heap.size w w' := by
 obtain ⟨c0, c1, _, _⟩ := h.cells
 obtain ⟨ao, ca, rfl, _, _⟩ := h.row.form
 have H := hide h
 have HK := hide hk
 clear h hk
 generalize hL : x.l.length = N at *
 replace hL := hide hL
 go_enter Tryz.func142, Tryz.ntmps142
 go_wp2_with fail
 refine (bsf_any _ _ x.st x.l n H.out.row HK.out.srt).mono ?_
 rintro e w1 ⟨rfl, hb⟩
 replace hb := hide hb
 go_wp2_with fail
 go_ret2
 exact ⟨rfl, hb.out⟩
def entv (e : Int × Int) : Value := .agg #[.int .i64 e.1, .int .i64 e.2]
def DoesFind (T : TypeId) (f : Nat) : Prop := ∀ (w : World) (b : Nat) (x : X) (v : Value) (n : Int), At T w b x v → Ok x → -9223372036854775808 ≤ n → n ≤ 9223372036854775807 →
 Calls Tryz.prog f #[.pointer (some ⟨b, 0, none⟩), .int .i64 n] w fun e w' => e = .returned (.tuple #[entv (findF x.l n).1, .bool (findF x.l n).2]) ∧ Below w.heap.size w w'
theorem find_prog {st : Nat} {l : List (Int × Int)} (h : Srt st l) (n : Int) :
    (∀ hk : cnt l n < l.length, isAt l n = true → findF l n = (l[cnt l n], true)) ∧ (isAt l n = false → ∀ hk : 0 < cnt l n, findF l n = (l[cnt l n - 1]'(by have := cnt_le l n; omega), true)) ∧ (isAt l n = false → cnt l n = 0 → findF l n = ((0, 0), false)) ∧ (isAt l n = true → cnt l n < l.length) := by
 obtain ⟨h1, h2⟩ := cnt_split h n
 have hc := cnt_le l n
 have key : ∀ hk : cnt l n < l.length, isAt l n = decide (l[cnt l n].1 = n) := fun hk => by unfold isAt; rw [List.getElem?_eq_getElem hk]
 refine ⟨fun hk hi => ?_, fun hi hk => ?_, fun hi hk => ?_, fun hi => ?_⟩
 ·rw [key hk] at hi
  have hi' : l[cnt l n].1 = n := of_decide_eq_true hi
  refine find_at hk (by omega) fun j hj hij => ?_
  have := (h.lt hk hj hij).1
  omega
 ·refine find_at (by omega) (by have := h1 (cnt l n - 1) (by omega) (by omega); omega) fun j hj hij => ?_
  have g := h2 j hj (by omega)
  have hk2 : cnt l n < l.length := by omega
  rw [key hk2] at hi
  have hi' : ¬ l[cnt l n].1 = n := of_decide_eq_false hi
  have g2 := h2 (cnt l n) hk2 (Nat.le_refl _)
  have g3 := h.le hk2 hj (by omega)
  omega
 ·refine find_no fun j hj => ?_
  have hk2 : cnt l n < l.length := by omega
  rw [key hk2] at hi
  have hi' : ¬ l[cnt l n].1 = n := of_decide_eq_false hi
  have g2 := h2 (cnt l n) hk2 (Nat.le_refl _)
  have g3 := h.le hk2 hj (by omega)
  omega
 ·refine Classical.byContradiction fun c => ?_
  have : isAt l n = false := by unfold isAt; rw [List.getElem?_eq_none (by omega)]
  rw [this] at hi; cases hi
theorem find_any : DoesFind TI 71 := by
 intro w b x v n h hk n0 n1
 obtain ⟨ao, ca, rfl, _, _⟩ := h.row.form
 obtain ⟨P1, P2, P3, P4⟩ := find_prog hk.srt n
 have H1 := hide (h.below (box_below w (.cells #[.int .i64 0, .int .i64 0] 147)))
 have HK := hide hk
 have hcl := cnt_le x.l n
 have hlen := hk.srt.len
 replace P1 := hide P1
 replace P2 := hide P2
 replace P3 := hide P3
 replace P4 := hide P4
 clear h hk
 go_enter Tryz.func71, Tryz.ntmps71
 go_wp2_with fail
 refine (below_any _ b x _ n H1.out HK.out).mono ?_
 rintro e w2 ⟨rfl, b2⟩
 have hh := b2.block w.heap.size (by simp)
 rw [heap_alloc_new] at hh
 have hB : Hid (Below w.heap.size w w2) := keepF (box_below _ _) b2
 have H2 := hide (H1.out.below b2)
 obtain ⟨x0, x1, y0, y1⟩ := two_cells hh
 replace hh := hide hh
 clear b2
 obtain ⟨d0, d1, _, _⟩ := H2.out.cells
 have fin : ∀ (tm : Array Value) (F : (Int × Int) × Bool), Hid (findF x.l n = F) → tm[4]? = some (.pointer (some ⟨w.heap.size, 0, none⟩)) → tm[5]? = some (.bool F.2) →
     bodyPost Tryz.prog Tryz.f71 (fun e w' => e = .returned (.tuple #[entv (findF x.l n).1, .bool (findF x.l n).2]) ∧ Below w.heap.size w w') .ret ⟨tm, []⟩ (put2 w2 w.heap.size (.int .i64 F.1.1) (.int .i64 F.1.2)) := by
  intro tm F hF t4 t5
  obtain ⟨k0, k1, _, _⟩ := two_cells (put2_heap hh.out (.int .i64 F.1.1) (.int .i64 F.1.2))
  refine bodyPost_ret (by simp [results, Tryz.results71, go_sem, k0, k1, t4, t5]; rfl) rfl ?_
  rw [hF.out]
  exact ⟨rfl, put2_below hB.out (Nat.le_refl _) _ _⟩
 replace fin := hide fin
 by_cases hi : isAt x.l n = true
 ·have hlt := P4.out hi
  have hF := hide (P1.out hlt hi)
  obtain ⟨g, ca', ev, hc, q1, q2, _⟩ := H2.out.row.at (fun c => by rw [c] at hlt; simp at hlt)
  simp only [Value.slice.injEq] at ev
  obtain ⟨rfl, _, rfl⟩ := ev
  obtain ⟨k0, k1⟩ := hc _ hlt
  rw [hi]
  clear hc P1 P2 P3 P4 hi
  generalize x.l[cnt x.l n] = en at *
  generalize cnt x.l n = C at *
  generalize hN : x.l.length = N at *
  replace hN := hide hN
  go_wp2_with fail
  exact fin.out _ (en, true) hF.out (by simp) (by simp)
 ·have hi' : isAt x.l n = false := by simpa using hi
  rw [hi']
  by_cases hz : cnt x.l n = 0
  ·have hF := hide (P3.out hi' hz)
   rw [hz]
   clear P1 P2 P3 P4 hi hi'
   go_wp2_with fail
   exact fin.out _ ((0, 0), false) hF.out (by simp) (by simp)
  ·obtain ⟨M, hM⟩ : ∃ M, cnt x.l n = M + 1 := ⟨cnt x.l n - 1, by omega⟩
   have hlt : M < x.l.length := by omega
   have hF : Hid (findF x.l n = (x.l[M], true)) := by
    show _ = _
    rw [P2.out hi' (by omega)]
    simp only [hM, Nat.add_sub_cancel]
   obtain ⟨g, ca', ev, hc, q1, q2, _⟩ := H2.out.row.at (fun c => by rw [c] at hlt; simp at hlt)
   simp only [Value.slice.injEq] at ev
   obtain ⟨rfl, _, rfl⟩ := ev
   obtain ⟨k0, k1⟩ := hc _ hlt
   rw [hM]
   rw [hM] at hcl
   clear hc P1 P2 P3 P4 hi hi' hz hM
   generalize x.l[M] = en at *
   generalize hN : x.l.length = N at *
   replace hN := hide hN
   have hw2 : IntKind.i64.wrap (M : Int) = (M : Int) := by rw [IntKind.wrap_i64]; omega
   go_wp2_with fail
   exact fin.out _ (en, true) hF.out (by simp) (by simp)
end Go.Proofs.YtpflaglfnkmjiaaGreat.Ix
