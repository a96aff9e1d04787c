/-
  Crash: what it leaves, by data; a fate in memory; what holds between its rounds.
-/
import Derived.Test.YtjehpijjneghpaaGreatL02
import Derived.Laws.BytesArg
import Derived.Test.YtjehpijjneghpaaGreatProg
import Derived.Test.YtjehpijjneghpaaGreatL01
import Derived.Deep.Strs
import Derived.Deep.Slices
set_option maxRecDepth 100000
set_option maxHeartbeats 40000000
set_option linter.unusedVariables false
namespace Go.Proofs.YtjehpijjneghpaaGreat.Dk
open Go.RowKit Go.Maps Go.Sort Go.Shelf Go.Proofs.YtjehpijjneghpaaGreat.Nm
abbrev Kep := Int × List UInt8
def crFl (f : Fl) (k : Kep) : Fl := ⟨crF f k.1 k.2, crF f k.1 k.2, 0⟩
def crash1 (F : Nat → Fl) (l : Dr) (s : List UInt8) (k : Kep) : Nat → Fl := match get l s with | some p => upd F p (crFl (F p) k) | none => F
def crashL (l : Dr) : List (List UInt8) → List Kep → (Nat → Fl) → (Nat → Fl)
 | [], _, F => F
 | s :: r, ks, F => crashL l r ks.tail (crash1 F l s (ks.headD (0, [])))
theorem crashL_snoc (l : Dr) (A : List (List UInt8)) (s : List UInt8) (ks : List Kep) (F : Nat → Fl) : crashL l (A ++ [s]) ks F = crash1 (crashL l A ks F) l s (ks.getD A.length (0, [])) := by
 induction A generalizing ks F with
 | nil => cases ks <;> rfl
 | cons a r ih =>
  simp only [List.cons_append, crashL, ih, List.length_cons]
  congr 1
  cases ks with
  | nil => simp
  | cons k q => simp
def DS.crash (S : DS) (d : Int) (ks : List Kep) : DS := { S with up := true, l2 := S.front d, P := [], al := [], F := crashL (S.front d) (nms (S.front d)) ks S.F }
def SIn (Z : Nat → Prop) (v : Value) : Prop := ∀ b off n c, v = .slice (some ⟨b, off, none⟩) n c → 0 < n → Z b
def Kp (Z : Nat → Prop) (w : World) (v : Value) (ks : List Kep) : Prop :=
 ∃ ao cap, v = .slice ao ks.length cap ∧ ks.length ≤ cap ∧ cap ≤ maxLen ∧ ∀ i (h : i < ks.length), ∃ b off vj, ao = some ⟨b, off, none⟩ ∧ Z b ∧ w.cell? ⟨b, off + i * 2, none⟩ = some (.int .i64 ks[i].1) ∧ w.cell? ⟨b, off + i * 2 + 1, none⟩ = some vj ∧ Sl w vj ks[i].2 ∧ SIn Z vj ∧ -9223372036854775808 ≤ ks[i].1 ∧ ks[i].1 ≤ 9223372036854775807
theorem cell_but {X : Nat → Prop} {w w' : World} {b o : Nat} {u : Value} (h : w.cell? ⟨b, o, none⟩ = some u) (hb : But X w w') (hx : ¬ X b) : w'.cell? ⟨b, o, none⟩ = some u := by
 rw [← h]
 have := hb.block b (lt_of_cell h) hx
 unfold World.cell?
 dsimp only
 rw [this]
theorem Kp.but {Z X : Nat → Prop} {w w' : World} {v : Value} {ks : List Kep} (h : Kp Z w v ks) (hb : But X w w') (hx : ∀ k, Z k → ¬ X k) : Kp Z w' v ks := by
 obtain ⟨ao, cap, e, h1, h2, h3⟩ := h
 refine ⟨ao, cap, e, h1, h2, fun i hi => ?_⟩
 obtain ⟨b, off, vj, e1, z, c1, c2, sl, si, n0, n1⟩ := h3 i hi
 exact ⟨b, off, vj, e1, z, cell_but c1 hb (hx b z), cell_but c2 hb (hx b z), sl_but sl hb (fun b' o n c e z k => hx b' (si b' o n c e z) k), si, n0, n1⟩
theorem Kp.below {Z : Nat → Prop} {w w' : World} {v : Value} {ks : List Kep} (h : Kp Z w v ks) (hb : Below w.heap.size w w') : Kp Z w' v ks := h.but (But.of_below hb fun _ => False) fun _ _ c => c
structure CrI (w3 wr : World) (O : Nat → Prop) (b m : Nat) (cs : Array Value) (l : Dr) (ps : List Nat) (F : Nat → Fl) (VB VL : Nat → Value) : Prop where
 box : wr.heap[b]? = some (.cells cs TD (0, 0))
 mp : Mp wr m l
 fs : Fs wr (fun k => k = b ∨ k = m) ps F VB VL
 but : But O w3 wr
 own : ∀ p ∈ ps, ∀ k, FOwn p (VB p) (VL p) k → O k ∨ w3.heap.size ≤ k
 sz : ∀ p ∈ ps, (F p).by_.length ≤ 16777216
theorem CrI.below {w3 wr w' : World} {O : Nat → Prop} {b m : Nat} {cs : Array Value} {l : Dr} {ps : List Nat} {F : Nat → Fl} {VB VL : Nat → Value} (h : CrI w3 wr O b m cs l ps F VB VL) (hb : Below wr.heap.size wr w') : CrI w3 w' O b m cs l ps F VB VL :=
 ⟨(hb.block b (heap_lt h.box)).trans h.box, h.mp.heap (hb.block m h.mp.lt), h.fs.but (But.of_below hb fun _ => False) (fun _ _ _ _ c => c), h.but.trans (But.of_below hb _), h.own, h.sz⟩
theorem but_trans_new {w3 q w' : World} {O Y : Nat → Prop} (h : But O w3 q) (k : But Y q w') (hy : ∀ i, Y i → O i ∨ w3.heap.size ≤ i) : But O w3 w' :=
 ⟨k.os.trans h.os, k.tape.trans h.tape, k.output.trans h.output, Nat.le_trans h.size k.size, fun i hi hx => by
  rw [k.block i (Nat.lt_of_lt_of_le hi h.size) (fun c => ?_)]
  ·exact h.block i hi hx
  ·rcases hy i c with z | z
   ·exact hx z
   ·omega⟩
theorem CrI.step {w3 q w' : World} {O : Nat → Prop} {b m p : Nat} {cs : Array Value} {l : Dr} {ps : List Nat} {F : Nat → Fl} {VB VL : Nat → Value} {k : Kep} {vb vl : Value} (h : CrI w3 q O b m cs l ps F VB VL) (hp : p ∈ ps) (hf : FlAt w' p (crFl (F p) k) vb vl) (hb : But (fun k => k = p) q w') (ho : ∀ k, FOwn p vb vl k → k = p ∨ q.heap.size ≤ k) :
    CrI w3 w' O b m cs l ps (upd F p (crFl (F p) k)) (upd VB p vb) (upd VL p vl) := by
 have hbp : b ≠ p := fun e => h.fs.no p hp p (.inl rfl) (.inl e.symm)
 have hmp : m ≠ p := fun e => h.fs.no p hp p (.inl rfl) (.inr e.symm)
 refine ⟨hb.at h.box hbp, h.mp.but hb hmp, h.fs.one hp hf (hb.mono fun k _ e => .inl e) (fun k hk => ?_) ?_, but_trans_new h.but hb (fun i e => by rw [e]; exact h.own p hp p (.inl rfl)), fun r hr i hi => ?_, fun r hr => ?_⟩
 ·rcases ho k hk with e | e
  ·exact .inl (.inl e)
  ·exact .inr e
 ·rintro k (e | e)
  ·rw [e]; exact heap_lt h.box
  ·rw [e]; exact h.mp.lt
 ·by_cases e : r = p
  ·subst e
   rw [upd_same, upd_same] at hi
   rcases ho i hi with z | z
   ·rw [z]; exact h.own r hr r (.inl rfl)
   ·exact .inr (Nat.le_trans h.but.size z)
  ·rw [upd_ne _ _ e, upd_ne _ _ e] at hi
   exact h.own r hr i hi
 ·by_cases e : r = p
  ·subst e
   rw [upd_same]
   have := crF_len (F r) k.1 k.2 (h.fs.at_ r hr).le
   have := h.sz r hr
   show (crF (F r) k.1 k.2).length ≤ _
   omega
  ·rw [upd_ne _ _ e]
   exact h.sz r hr
theorem CrI.done {w w3 wr w' : World} {O : Nat → Prop} {b m m' : Nat} {S T : DS} {f g : Nat} {pd : Value} {am : Option Nat} {cs : Array Value} {l : Dr} {F : Nat → Fl} {VB VL : Nat → Value} (h0 : Dk w b (S.dc f g pd am) f g S.dir S.l2 S.P S.al) (hok : S.ok) (hlt : ∀ k, O k → k < w.heap.size) (hob : O b) (hw3 : Below w.heap.size w w3 ∨ But O w w3) (hz3 : w.heap.size ≤ w3.heap.size) (hm : w.heap.size ≤ m)
    (h : CrI w3 wr O b m cs l S.ps F VB VL) (hb : But (fun k => k = b) wr w') (hm' : wr.heap.size ≤ m') (hbx : Bx w' b (T.dc m m' (.slice none 0 0) none)) (mm : Mp w' m l) (mm' : Mp w' m' l)
    (e1 : T.most = S.most) (e2 : T.l2 = l) (e3 : T.P = []) (e4 : T.al = []) (e5 : T.c0 = S.c0 ∧ T.c1 = S.c1 ∧ T.c2 = S.c2 ∧ T.c3 = S.c3 ∧ T.c4 = S.c4 ∧ T.c5 = S.c5 ∧ T.c6 = S.c6 ∧ T.c7 = S.c7 ∧ T.c8 = S.c8) (e6 : T.F = F) (hl : (l.length : Int) ≤ S.c7) (hsub : ∀ p ∈ l.map (·.2), p ∈ S.ps) :
    ∃ O', DskE w' b T O' ∧ Sgo w w' O O' := by
 obtain ⟨q0, q1, q2, q3, q4, q5, q6, q7, q8⟩ := e5
 have hdir : T.dir = l := by unfold DS.dir; rw [e2, e3]; rfl
 have hps : ∀ p ∈ T.ps, p ∈ S.ps := by
  intro p hp
  unfold DS.ps at hp
  rw [e2, e3] at hp
  simp only [List.filterMap_nil, List.append_nil] at hp
  exact hsub p hp
 have hnb : ∀ p ∈ S.ps, ∀ k, FOwn p (VB p) (VL p) k → ¬ k = b := fun p hp k hk e => h.fs.no p hp k hk (.inl e)
 have W : But O w wr := by
  rcases hw3 with z | z
  ·exact but_trans_new (But.of_below z O) h.but (fun i e => .inl e)
  ·exact z.trans h.but
 have W' : But O w w' := W.trans (hb.mono fun k _ e => by rw [e]; exact hob)
 refine ⟨fun k => O k ∨ (w.heap.size ≤ k ∧ k < w'.heap.size), ⟨m, m', .slice none 0 0, none, VB, VL, ⟨?_, ?_, ?_, ?_, ?_, ?_⟩⟩, ⟨W', ?_⟩⟩
 ·rw [hdir, e2, e3, e4]
  refine ⟨hbx, rfl, rfl, mm, mm', ?_, Pd.nil _, (fun _ e => by cases e), fun _ => rfl, rfl, trivial, (by simp), ?_, ?_⟩
  ·have := h.mp.lt; omega
  ·show 0 ≤ T.c0 ∧ 0 ≤ T.c1 ∧ 0 ≤ T.c2 ∧ 0 ≤ T.c3 ∧ 0 ≤ T.c4 ∧ 0 ≤ T.c5 ∧ 0 ≤ T.c6 ∧ 0 ≤ T.c7
   rw [q0, q1, q2, q3, q4, q5, q6, q7]; exact h0.c0
  ·show T.c0 ≤ T.c7 ∧ T.c1 ≤ T.c7 ∧ T.c2 ≤ T.c7 ∧ T.c3 ≤ T.c7 ∧ T.c4 ≤ T.c7 ∧ T.c5 ≤ T.c7 ∧ T.c6 ≤ T.c7
   rw [q0, q1, q2, q3, q4, q5, q6, q7]; exact h0.c1
 ·rw [e6]
  have k1 := (h.fs.but hb hnb).sub hps
  refine ⟨k1.at_, k1.ap, fun p hp k hk c => ?_⟩
  rcases c with c | c | c | c | c
  ·exact k1.no p hp k hk (.inl c)
  ·simp only [DS.dc, Option.some.injEq] at c; exact k1.no p hp k hk (.inr c.symm)
  ·simp only [DS.dc, Option.some.injEq] at c
   have := (h.fs.at_ p (hps p hp)).lt k hk
   omega
  ·simp [DS.dc, Value.ownBlock] at c
  ·simp [DS.dc] at c
 ·intro k hk
  rcases hk with c | c | c | c | c
  ·rw [c]; exact .inl hob
  ·simp only [DS.dc, Option.some.injEq] at c; subst c; exact .inr ⟨hm, mm.lt⟩
  ·simp only [DS.dc, Option.some.injEq] at c; subst c; exact .inr ⟨Nat.le_trans W.size hm', mm'.lt⟩
  ·simp [DS.dc, Value.ownBlock] at c
  ·simp [DS.dc] at c
 ·intro p hp k hk
  rcases h.own p (hps p hp) k hk with z | z
  ·exact .inl z
  ·exact .inr ⟨Nat.le_trans hz3 z, Nat.lt_of_lt_of_le ((h.fs.at_ p (hps p hp)).lt k hk) hb.size⟩
 ·rintro k (z | z)
  ·exact Nat.lt_of_lt_of_le (hlt k z) W'.size
  ·exact z.2
 ·refine ⟨by rw [e1]; exact hok.most, fun p hp => by rw [e6]; exact h.sz p (hps p hp), by rw [e2, e3, q7]; simpa using hl, by rw [e4]; simp, by rw [q8, q7]; exact hok.by8⟩
 ·rintro k (z | z)
  ·exact .inl z
  ·exact .inr z.1
open Ix (wp_region_T wpAnyT wpAnyT_take wpAnyT_one wpAnyT_done vac)
theorem crashD_any {w : World} {b : Nat} {S : DS} {O : Nat → Prop} {f g : Nat} {pd : Value} {am : Option Nat} {VB0 VL0 : Nat → Value} (h : Dsk w b S O f g pd am VB0 VL0) (hc : S.c7 < 1000000000) (n : Int) (n0 : -9223372036854775808 ≤ n) (n1 : n ≤ 9223372036854775807) (v : Value) (Z : Nat → Prop) (ks : List Kep) (hk : Kp Z w v ks) (hZ : ∀ k, Z k → ¬ O k ∧ k < w.heap.size) :
    Calls Tryz.prog 18 #[.pointer (some ⟨b, 0, none⟩), .agg #[.int .i64 n, v]] w fun e w' => e = .returned (.tuple #[]) ∧ ∃ O', DskE w' b (S.crash n ks) O' ∧ Sgo w w' O O' := by
 have hB0 := hide (box_below w (.cells #[.int .i64 n, v] 34))
 have hN0 := hide (heap_alloc_new w (.cells #[.int .i64 n, v] 34))
 have hK0 := hide (hk.below hB0.out)
 obtain ⟨ak, ck, rfl, q1, q2, _⟩ := hk
 obtain ⟨w1, hw1⟩ : ∃ w1, Hid (w.alloc (.cells #[.int .i64 n, .slice ak ks.length ck] 34) = w1) := ⟨_, rfl⟩
 rw [hw1.out] at hB0 hN0 hK0
 have H := hide h
 have H1 := hide (h.below hB0.out)
 have hM := made_any w1 _ _ H1.out.dk.dp
 rw [show madeD (some (S.dc f g pd am)) = true from rfl] at hM
 have hD := dsk_directory H1.out hc n n0 n1
 have hlen := front_len h.ok hc n
 have hfl : Hid (∀ p s, get (S.front n) s = some p → p ∈ S.ps) := fun p s hp => mem_front hp
 have hfs : Hid (∀ p ∈ (S.front n).map (·.2), p ∈ S.ps) := fun p hp => DS.mem_front hp
 have hl7 : Hid (((S.front n).length : Int) ≤ S.c7) := by
  show _ ≤ _
  have h1 := h.ok.cnt
  have h2 := runs_len S.l2 (S.P.take (wthn n S.P.length))
  rw [List.length_take] at h2
  unfold DS.front
  omega
 have hE : Hid (S.crash n ks = { S with up := true, l2 := S.front n, P := [], al := [], F := crashL (S.front n) (nms (S.front n)) ks S.F }) := rfl
 rw [hE.out]
 clear hE
 generalize S.front n = l at *
 have hmem : Hid (∀ k (hk : k < (nms l).length), ∃ p, get l (nms l)[k] = some p) := fun k hk => nms_get (List.getElem_mem hk)
 have x0 : w1.cell? ⟨w.heap.size, 0, none⟩ = some (.int .i64 n) := by simp [World.cell?, hN0.out]
 have d2 : Hid (∀ q, Below w1.heap.size w1 q → q.heap[b]? = some (.cells (dcells (S.dc f g pd am)) TD (0, 0))) := fun q hq => (hq.block b (heap_lt H1.out.dk.box)).trans H1.out.dk.box
 clear h
 go_enter Tryz.func18, Tryz.ntmps18
 go_upto_region 1 with fail
 rw [hw1.out]
 go_upto_region 3 with (first
  | (go_at_call 79; refine hM.mono ?_; rintro e w2 ⟨rfl, e1⟩; subst w2)
  | (go_at_call 80; refine hD.mono ?_; rintro e w2 ⟨rfl, M2, B2⟩; replace M2 := hide M2; replace B2 := hide B2; have b2 := hide (d2.out _ B2.out); have y1 : w2.cell? ⟨b, 2, none⟩ = some (.map (some f)) := (by simp [World.cell?, b2.out, dcells, DS.dc]); have y2 : w2.frozen? ⟨b, 2, none⟩ = false := (by simp [World.frozen?, b2.out])))
 clear y1 y2 x0 hM hD d2
 generalize hm0 : w1.heap.size = m at *
 replace hm0 := hide hm0
 have b3 := hide (heap_setCell_same w2 b 2 _ _ (.map (some m)) b2.out)
 obtain ⟨cs, hcs⟩ : ∃ cs, Hid ((dcells (S.dc f g pd am)).setIfInBounds 2 (.map (some m)) = cs) := ⟨_, rfl⟩
 rw [hcs.out] at b3
 have g3 := hide (But.of_grownBy (X := fun k => k = b) (grown_setCell w2 b 2 (.map (some m))) fun k e => by cases e; rfl)
 have hOb : Hid (O b) := H.out.ow b (.inl rfl)
 have hOl : Hid (∀ k, O k → k < w.heap.size) := H.out.lt
 have z1 := hide hB0.out.size
 have z2 : Hid (m ≤ w2.heap.size) := by have := B2.out.size; rw [hm0.out] at this; exact this
 have W2 : Hid (Below w.heap.size w w2) := hB0.out.trans (by have := B2.out; exact this.mono (by rw [← hm0.out] ; exact hB0.out.size))
 have M3 : Hid (Mp (w2.setCell ⟨b, 2, none⟩ (.map (some m))) m l) := M2.out.but g3.out (fun e => M2.out.ne b2.out e.symm)
 have I3 : Hid (CrI (w2.setCell ⟨b, 2, none⟩ (.map (some m))) (w2.setCell ⟨b, 2, none⟩ (.map (some m))) O b m cs l S.ps S.F VB0 VL0) := by
  have D2 := H.out.below W2.out
  have hsz : w2.heap.size ≤ (w2.setCell ⟨b, 2, none⟩ (.map (some m))).heap.size := g3.out.size
  refine ⟨b3.out, M3.out, ?_, But.of_below (Below.refl _ _) _, fun p hp k hk => .inl (H.out.of p hp k hk), H.out.ok.sz⟩
  have F2 : Fs (w2.setCell ⟨b, 2, none⟩ (.map (some m))) (Own b (S.dc f g pd am)) S.ps S.F VB0 VL0 := D2.fs.but g3.out (fun p hp k hk e => D2.fs.no p hp k hk (.inl e))
  refine ⟨F2.at_, F2.ap, fun p hp k hk c => ?_⟩
  rcases c with e | e
  ·exact F2.no p hp k hk (.inl e)
  ·have q1 := H.out.fs.lt hp k hk
   have q2 := z1.out
   rw [hm0.out] at q2
   omega
 have W3 : Hid (But O w (w2.setCell ⟨b, 2, none⟩ (.map (some m)))) := (But.of_below W2.out _).trans (g3.out.mono fun k _ e => by rw [e]; exact hOb.out)
 have N3 : Hid ((w2.setCell ⟨b, 2, none⟩ (.map (some m))).heap[w.heap.size]? = some (.cells #[.int .i64 n, .slice ak ks.length ck] 34 (0, 0))) := g3.out.at ((B2.out.block _ (by have := heap_lt hN0.out; rw [hm0.out] at this; exact this)).trans hN0.out) (fun e => by have := hOl.out b hOb.out; omega)
 have K3 : Hid (Kp Z (w2.setCell ⟨b, 2, none⟩ (.map (some m))) (.slice ak ks.length ck) ks) := ((hK0.out.below (by rw [hm0.out]; exact B2.out)).but g3.out (fun k hk e => (hZ k hk).1 (by rw [e]; exact hOb.out)))
 have y2 : (w2.setCell ⟨b, 2, none⟩ (.map (some m))).cell? ⟨b, 2, none⟩ = some (.map (some m)) := by simp [World.cell?, b3.out, ← hcs.out, dcells]
 clear b2 M2 B2 hK0 hN0 hB0 g3 W2
 generalize (w2.setCell ⟨b, 2, none⟩ (.map (some m))) = w3' at *
 go_wp2_with (go_at_call 81; refine (names_any m l w3' M3.out hlen).mono ?_; rintro e w3 ⟨v2, rfl, R2, _, B3⟩; have R3 := row_of_owns R2 (by simp); have hlow : Hid (∀ k, v2.ownBlock = some k → w3'.heap.size ≤ k) := (fun k hk => (World.ownsRow.lt R2 k hk).1); replace B3 := hide B3; obtain ⟨ao, ca, rfl, r2, r3, r4, r5⟩ := R3; rw [List.length_map] at *; replace r5 := hide r5; clear r2 R2)
 obtain ⟨N, hN2⟩ : ∃ N, Hid ((nms l).length = N) := ⟨_, rfl⟩
 rw [hN2.out] at r3 hlow ⊢
 have hN3 : Hid (N ≤ 1000000000) := by show _ ≤ _; rw [← hN2.out, nms_len]; exact hlen
 have i4 : (ca : Int) ≤ 9223372036854775807 := by unfold maxLen at r4; omega
 have i5 : (ck : Int) ≤ 9223372036854775807 := by unfold maxLen at q2; omega
 have I4 : Hid (CrI w3 w3 O b m cs l S.ps (crashL l ((nms l).take 0) ks S.F) VB0 VL0) := by
  have q := I3.out.below B3.out
  exact ⟨q.box, q.mp, q.fs, But.of_below (Below.refl _ _) _, fun p hp k hk => .inl (H.out.of p hp k hk), q.sz⟩
 have N4 : Hid (w3.heap[w.heap.size]? = some (.cells #[.int .i64 n, .slice ak ks.length ck] 34 (0, 0))) := (B3.out.block _ (heap_lt N3.out)).trans N3.out
 have K4 := hide (K3.out.below B3.out)
 have W4 : Hid (But O w w3) := W3.out.trans (But.of_below B3.out _)
 have zz : Hid (w.heap.size ≤ w3'.heap.size) := W3.out.size
 have hZ' : Hid (∀ k, Z k → ¬ O k) := fun k hk => (hZ k hk).1
 have hcs2 : Hid (cs[2]? = some (.map (some m))) := by show _ = _; rw [← hcs.out]; rfl
 have hcz : Hid (cs.size = 15) := by show _ = _; rw [← hcs.out]; rfl
 clear y2 I3 N3 K3 M3 hlen r4 hZ W3 q2
 go_loopw [23] (fun i wr => ∃ k : Nat, i = .int .i64 k ∧ k ≤ N ∧ ∃ (Fk : Nat → Fl) (VB VL : Nat → Value), Hid (crashL l ((nms l).take k) ks S.F = Fk) ∧ Hid (CrI w3 wr O b m cs l S.ps Fk VB VL)) (fun i _ => N - (intOf i).toNat)
 case atStart => exact ⟨0, rfl, Nat.zero_le _, _, _, _, rfl, I4.out⟩
 case round =>
  obtain ⟨k, rfl, hk, Fk, VB, VL, hFk, hI⟩ := hrel
  by_cases hlt : k < N
  ·have i1 : (k : Int) < (N : Int) := by omega
   have hkl : k < (nms l).length := by rw [hN2.out]; exact hlt
   obtain ⟨p, hp⟩ := hmem.out k hkl
   obtain ⟨gb, off, rfl, hcl⟩ := r5.out k (by rw [List.length_map]; exact hkl)
   have hgb : ¬ O gb := fun c => by have q1 := hOl.out gb c; have q2 := hlow.out gb rfl; have q3 := zz.out; omega
   have hcell : wr.cell? ⟨gb, off + k, none⟩ = some (.string (bsOf (nms l)[k])) := by
    refine cell_but ?_ hI.out.but hgb
    rw [hcl, List.getElem_map]; rfl
   have hgp := hide hp
   have hps := hide (hfl.out p _ hp)
   have hsn : Hid ((nms l).take (k + 1) = (nms l).take k ++ [(nms l)[k]]) := List.take_succ_eq_append_getElem hkl
   have hlk : Hid (((nms l).take k).length = k) := by show _ = _; rw [List.length_take]; omega
   have hsz := hide (hI.out.mp.nlen (List.getElem_mem hkl))
   have Nr : Hid (wr.heap[w.heap.size]? = some (.cells #[.int .i64 n, .slice ak ks.length ck] 34 (0, 0))) := hI.out.but.at N4.out (fun c => Nat.lt_irrefl _ (hOl.out _ c))
   have Kr := hide (K4.out.but hI.out.but hZ'.out)
   clear hcl hp hgb
   generalize (nms l)[k] = s at *
   clear hkl
   have B5 := hide (box_below wr (.cells #[.int .i64 0, .slice none 0 0] 88))
   have N5 := hide (heap_alloc_new wr (.cells #[.int .i64 0, .slice none 0 0] 88))
   have x1 : (wr.alloc (.cells #[.int .i64 0, .slice none 0 0] 88)).cell? ⟨w.heap.size, 1, none⟩ = some (.slice ak ks.length ck) := by
    have : (wr.alloc (.cells #[.int .i64 0, .slice none 0 0] 88)).heap[w.heap.size]? = _ := (B5.out.block _ (heap_lt Nr.out)).trans Nr.out
    simp [World.cell?, this]
   by_cases hkk0 : k < ks.length
   ·have i6 : (k : Int) < (ks.length : Int) := by omega
    obtain ⟨ao', cap', ek, ek1, ek2, ek3⟩ := Kr.out
    simp only [Value.slice.injEq] at ek
    obtain ⟨eka, _, ekc⟩ := ek
    subst eka
    subst ekc
    obtain ⟨kb', ko, vj, rfl, zb, kc1, kc2, ksl, ksi, kn0, kn1⟩ := ek3 k hkk0
    have kc1' := ((B5.out.cell (p := ⟨kb', ko + k * 2, none⟩) (lt_of_cell kc1)).trans kc1)
    have kc2' := ((B5.out.cell (p := ⟨kb', ko + k * 2 + 1, none⟩) (lt_of_cell kc2)).trans kc2)
    have hn0 := hide kn0
    have hn1 := hide kn1
    have hkk : Hid (ks.getD k (0, []) = ((ks[k]).1, (ks[k]).2)) := by show _ = _; rw [List.getD_eq_getElem?_getD, List.getElem?_eq_getElem hkk0]; rfl
    have hvj0 := hide ksl
    obtain ⟨aj, cj, rfl, _⟩ := ksl
    clear ek3 kc1 kc2 ek1 ek2 Kr zb ksi kn0 kn1
    generalize ks[k] = kk at *
    obtain ⟨NJ, J⟩ := kk
    dsimp only at *
    clear hkk0
    go_upto_region 9 with fail
    clear kc1' kc2' hcell B5 N5 x1
    have B6 := hide (box_below wr (.cells #[.int .i64 NJ, .slice aj J.length cj] 88))
    have N6 := hide (heap_alloc_new wr (.cells #[.int .i64 NJ, .slice aj J.length cj] 88))
    generalize wr.alloc (.cells #[.int .i64 NJ, .slice aj J.length cj] 88) = w6 at *
    have g3 : w6.drew.cell? ⟨wr.heap.size, 0, none⟩ = some (.int .i64 NJ) := by show w6.cell? _ = _; simp [World.cell?, N6.out]
    have g4 : w6.drew.cell? ⟨wr.heap.size, 1, none⟩ = some (.slice aj J.length cj) := by show w6.cell? _ = _; simp [World.cell?, N6.out]
    have I6 := hide (hI.out.below B6.out)
    have g2 : w6.drew.cell? ⟨b, 2, none⟩ = some (.map (some m)) := by show w6.cell? _ = _; simp [World.cell?, I6.out.box, hcs2.out]
    have gL : ∀ q, Mp q m l → (Instr.lookup 92 (.map (some m)) (.string (bsOf s)) false).run Tryz.prog q = .ok (.pointer (some ⟨p, 0, none⟩)) q := fun q hq => hq.look (s := bsOf s) hsz.out hgp.out
    have hvj := hide (Below.sl B6.out hvj0.out)
    generalize wr.heap.size = kb at *
    have KC : Hid (∀ q : World, q = w6.drew → q.cell? ⟨b, 2, none⟩ = some (.map (some m)) ∧ (Instr.lookup 92 (.map (some m)) (.string (bsOf s)) false).run Tryz.prog q = .ok (.pointer (some ⟨p, 0, none⟩)) q ∧ q.cell? ⟨kb, 0, none⟩ = some (.int .i64 NJ) ∧ q.cell? ⟨kb, 1, none⟩ = some (.slice aj J.length cj)) := fun q hq => by subst hq; exact ⟨g2, gL w6.drew I6.out.mp, g3, g4⟩
    have KP : Hid (w6.drew = w6.drew) := rfl
    refine wp_region_T (fun q => q = w6.drew) 7 (by kernel_rfl) ?_
    have I7 := hide (I6.out.below (Below.refl _ w6).drew)
    have hCr := crash_any w6.drew p (Fk p) (VB p) (VL p) (.slice aj J.length cj) NJ J (I7.out.fs.at_ p hps.out) (Below.sl (Below.refl _ w6).drew hvj.out) hn0.out hn1.out
    generalize w6.drew = w7 at *
    refine Ix.tk 0 ⟨some 38, .move (.tmp 0), _, _, _, _⟩ (.pointer (some ⟨b, 0, none⟩)) [1,2,3,5,7] ?_ KP.out ?_
    ·intro wq hSw
     subst hSw
     obtain ⟨y2, y3, y4, y5⟩ := KC.out _ rfl
     go_simp
    (try simp only [zzp, zzb, zzc])
    refine Ix.tk 1 ⟨some 39, .nilCheck (.tmp 38), _, _, _, _⟩ (.pointer (some ⟨b, 0, none⟩)) [2,3,5,7] ?_ KP.out ?_
    ·intro wq hSw
     subst hSw
     obtain ⟨y2, y3, y4, y5⟩ := KC.out _ rfl
     go_simp
    (try simp only [zzp, zzb, zzc])
    refine Ix.tk 2 ⟨some 40, .fieldAddr 98 (.tmp 39) 2, _, _, _, _⟩ (.pointer (some ⟨b, 2, none⟩)) [3,5,7] ?_ KP.out ?_
    ·intro wq hSw
     subst hSw
     obtain ⟨y2, y3, y4, y5⟩ := KC.out _ rfl
     go_simp
    (try simp only [zzp, zzb, zzc])
    refine Ix.tk 3 ⟨some 41, .load 92 (.tmp 40), _, _, _, _⟩ (.map (some m)) [5,7] ?_ KP.out ?_
    ·intro wq hSw
     subst hSw
     obtain ⟨y2, y3, y4, y5⟩ := KC.out _ rfl
     go_simp
    (try simp only [zzp, zzb, zzc])
    refine Ix.tk 4 ⟨some 42, .move (.tmp 5), _, _, _, _⟩ (.string (bsOf s)) [5,7] ?_ KP.out ?_
    ·intro wq hSw
     subst hSw
     obtain ⟨y2, y3, y4, y5⟩ := KC.out _ rfl
     go_simp
    (try simp only [zzp, zzb, zzc])
    refine Ix.tk 5 ⟨some 43, .lookup 92 (.tmp 41) (.tmp 42) false, _, _, _, _⟩ (.pointer (some ⟨p, 0, none⟩)) [7] ?_ KP.out ?_
    ·intro wq hSw
     subst hSw
     obtain ⟨y2, y3, y4, y5⟩ := KC.out _ rfl
     go_simp
    (try simp only [zzp, zzb, zzc])
    refine Ix.tk 6 ⟨some 44, .load 88 (.tmp 6), _, _, _, _⟩ (.agg #[.int .i64 NJ, .slice aj J.length cj]) [7] ?_ KP.out ?_
    ·intro wq hSw
     subst hSw
     obtain ⟨y2, y3, y4, y5⟩ := KC.out _ rfl
     go_simp
    (try simp only [zzp, zzb, zzc])
    refine wpAnyT_one (i := 7) (o := ⟨some 45, .call { callee := .value (.func 82), args := #[.tmp 43, .tmp 44], argTypes := #[114, 88] }, _, _, _, _⟩) (by kernel_rfl) rfl (fun K hK => ?_)
    go_simp
    go_at_call 82
    refine hCr.mono ?_
    rintro e w8 ⟨rfl, vb', vl', F8, B8, O8⟩
    have I8 : Hid (CrI w3 w8 O b m cs l S.ps (upd Fk p (crFl (Fk p) (NJ, J))) (upd VB p vb') (upd VL p vl')) := I7.out.step (k := (NJ, J)) hps.out F8 B8 O8
    (try go_simp)
    refine hK.out _ _ (vac (by kernel_rfl)) ?_
    clear hK K F8 B8 O8 hCr KC
    refine wpAnyT_done (by kernel_rfl) ?_ _
    (try simp only [zzp, zzb, zzc])
    go_wp2_with fail
    go_roundw
    case rel =>
     refine ⟨k + 1, by go_num, by omega, _, _, _, ?_, I8.out⟩
     rw [hsn.out, crashL_snoc, hlk.out, hFk.out]
     unfold crash1
     rw [hgp.out, hkk.out]
     exact rfl
    case measure => simp [intOf]; omega
   ·have i6 : ¬ (k : Int) < (ks.length : Int) := by omega
    have hn0 : Hid (-9223372036854775808 ≤ (0 : Int)) := by show _ ≤ _; decide
    have hn1 : Hid ((0 : Int) ≤ 9223372036854775807) := by show _ ≤ _; decide
    have hkk : Hid (ks.getD k (0, []) = ((0 : Int), ([] : List UInt8))) := by show _ = _; rw [List.getD_eq_getElem?_getD, List.getElem?_eq_none (by omega)]; rfl
    go_upto_region 9 with fail
    clear hcell x1
    generalize wr.alloc (.cells #[.int .i64 0, .slice none 0 0] 88) = w6 at *
    have g3 : w6.drew.cell? ⟨wr.heap.size, 0, none⟩ = some (.int .i64 0) := by show w6.cell? _ = _; simp [World.cell?, N5.out]
    have g4 : w6.drew.cell? ⟨wr.heap.size, 1, none⟩ = some (.slice none 0 0) := by show w6.cell? _ = _; simp [World.cell?, N5.out]
    have I6 := hide (hI.out.below B5.out)
    have g2 : w6.drew.cell? ⟨b, 2, none⟩ = some (.map (some m)) := by show w6.cell? _ = _; simp [World.cell?, I6.out.box, hcs2.out]
    have gL : ∀ q, Mp q m l → (Instr.lookup 92 (.map (some m)) (.string (bsOf s)) false).run Tryz.prog q = .ok (.pointer (some ⟨p, 0, none⟩)) q := fun q hq => hq.look (s := bsOf s) hsz.out hgp.out
    have hvj : Hid (Sl w6 (.slice none 0 0) []) := (Ob.nil 0 w6).sl
    generalize wr.heap.size = kb at *
    have KC : Hid (∀ q : World, q = w6.drew → q.cell? ⟨b, 2, none⟩ = some (.map (some m)) ∧ (Instr.lookup 92 (.map (some m)) (.string (bsOf s)) false).run Tryz.prog q = .ok (.pointer (some ⟨p, 0, none⟩)) q ∧ q.cell? ⟨kb, 0, none⟩ = some (.int .i64 (0 : Int)) ∧ q.cell? ⟨kb, 1, none⟩ = some (.slice none 0 0)) := fun q hq => by subst hq; exact ⟨g2, gL w6.drew I6.out.mp, g3, g4⟩
    have KP : Hid (w6.drew = w6.drew) := rfl
    refine wp_region_T (fun q => q = w6.drew) 7 (by kernel_rfl) ?_
    have I7 := hide (I6.out.below (Below.refl _ w6).drew)
    have hCr := crash_any w6.drew p (Fk p) (VB p) (VL p) (.slice none 0 0) (0 : Int) ([] : List UInt8) (I7.out.fs.at_ p hps.out) (Below.sl (Below.refl _ w6).drew hvj.out) hn0.out hn1.out
    generalize w6.drew = w7 at *
    refine Ix.tk 0 ⟨some 38, .move (.tmp 0), _, _, _, _⟩ (.pointer (some ⟨b, 0, none⟩)) [1,2,3,5,7] ?_ KP.out ?_
    ·intro wq hSw
     subst hSw
     obtain ⟨y2, y3, y4, y5⟩ := KC.out _ rfl
     go_simp
    (try simp only [zzp, zzb, zzc])
    refine Ix.tk 1 ⟨some 39, .nilCheck (.tmp 38), _, _, _, _⟩ (.pointer (some ⟨b, 0, none⟩)) [2,3,5,7] ?_ KP.out ?_
    ·intro wq hSw
     subst hSw
     obtain ⟨y2, y3, y4, y5⟩ := KC.out _ rfl
     go_simp
    (try simp only [zzp, zzb, zzc])
    refine Ix.tk 2 ⟨some 40, .fieldAddr 98 (.tmp 39) 2, _, _, _, _⟩ (.pointer (some ⟨b, 2, none⟩)) [3,5,7] ?_ KP.out ?_
    ·intro wq hSw
     subst hSw
     obtain ⟨y2, y3, y4, y5⟩ := KC.out _ rfl
     go_simp
    (try simp only [zzp, zzb, zzc])
    refine Ix.tk 3 ⟨some 41, .load 92 (.tmp 40), _, _, _, _⟩ (.map (some m)) [5,7] ?_ KP.out ?_
    ·intro wq hSw
     subst hSw
     obtain ⟨y2, y3, y4, y5⟩ := KC.out _ rfl
     go_simp
    (try simp only [zzp, zzb, zzc])
    refine Ix.tk 4 ⟨some 42, .move (.tmp 5), _, _, _, _⟩ (.string (bsOf s)) [5,7] ?_ KP.out ?_
    ·intro wq hSw
     subst hSw
     obtain ⟨y2, y3, y4, y5⟩ := KC.out _ rfl
     go_simp
    (try simp only [zzp, zzb, zzc])
    refine Ix.tk 5 ⟨some 43, .lookup 92 (.tmp 41) (.tmp 42) false, _, _, _, _⟩ (.pointer (some ⟨p, 0, none⟩)) [7] ?_ KP.out ?_
    ·intro wq hSw
     subst hSw
     obtain ⟨y2, y3, y4, y5⟩ := KC.out _ rfl
     go_simp
    (try simp only [zzp, zzb, zzc])
    refine Ix.tk 6 ⟨some 44, .load 88 (.tmp 6), _, _, _, _⟩ (.agg #[.int .i64 (0 : Int), .slice none 0 0]) [7] ?_ KP.out ?_
    ·intro wq hSw
     subst hSw
     obtain ⟨y2, y3, y4, y5⟩ := KC.out _ rfl
     go_simp
    (try simp only [zzp, zzb, zzc])
    refine wpAnyT_one (i := 7) (o := ⟨some 45, .call { callee := .value (.func 82), args := #[.tmp 43, .tmp 44], argTypes := #[114, 88] }, _, _, _, _⟩) (by kernel_rfl) rfl (fun K hK => ?_)
    go_simp
    go_at_call 82
    refine hCr.mono ?_
    rintro e w8 ⟨rfl, vb', vl', F8, B8, O8⟩
    have I8 : Hid (CrI w3 w8 O b m cs l S.ps (upd Fk p (crFl (Fk p) ((0 : Int), ([] : List UInt8)))) (upd VB p vb') (upd VL p vl')) := I7.out.step (k := ((0 : Int), ([] : List UInt8))) hps.out F8 B8 O8
    (try go_simp)
    refine hK.out _ _ (vac (by kernel_rfl)) ?_
    clear hK K F8 B8 O8 hCr KC
    refine wpAnyT_done (by kernel_rfl) ?_ _
    (try simp only [zzp, zzb, zzc])
    go_wp2_with fail
    go_roundw
    case rel =>
     refine ⟨k + 1, by go_num, by omega, _, _, _, ?_, I8.out⟩
     rw [hsn.out, crashL_snoc, hlk.out, hFk.out]
     unfold crash1
     rw [hgp.out, hkk.out]
     exact rfl
    case measure => simp [intOf]; omega
  ·obtain rfl : k = N := by omega
   rw [List.take_of_length_le (by rw [hN2.out]; omega)] at hFk
   have hS := settle_any wr b m cs l hI.out.box hcz.out hcs2.out hI.out.mp
   go_wp2_with (go_at_call 74; refine hS.mono ?_; rintro e w9 ⟨rfl, m', hm', M9, b9, B9⟩; replace M9 := hide M9; replace B9 := hide B9; replace b9 := hide b9; replace hm' := hide hm'; have t1 : w9.cell? ⟨b, 5, none⟩ = some (cs.getD 5 undef) := (by have := hcz.out; simp [World.cell?, b9.out, this]); have t2 : w9.frozen? ⟨b, 5, none⟩ = false := (by simp [World.frozen?, b9.out]); have b10 := hide (heap_setCell_same w9 b 5 _ _ (.map none) b9.out); have t3 : (w9.setCell ⟨b, 5, none⟩ (.map none)).cell? ⟨b, 1, none⟩ = some (cs.getD 1 undef) := (by have := hcz.out; simp [World.cell?, b10.out, this]); have t4 : (w9.setCell ⟨b, 5, none⟩ (.map none)).frozen? ⟨b, 1, none⟩ = false := (by simp [World.frozen?, b10.out]))
   go_end0
   have b11 := heap_setCell_same _ b 1 _ _ (.bool true) b10.out
   have gg := (But.of_grownBy (X := fun k => k = b) (grown_setCell w9 b 5 (.map none)) fun k e => by cases e; rfl).trans (But.of_grownBy (X := fun k => k = b) (grown_setCell (w9.setCell ⟨b, 5, none⟩ (.map none)) b 1 (.bool true)) fun k e => by cases e; rfl)
   have hne : m ≠ b := fun e => hI.out.mp.ne hI.out.box e.symm
   have hne' : m' ≠ b := fun e => by have q1 := heap_lt hI.out.box; have q2 := hm'.out; omega
   have Mm : Mp w9 m l := hI.out.mp.but B9.out hne
   refine ⟨rfl, hI.out.done (T := { S with up := true, l2 := l, P := [], al := [], F := crashL l (nms l) ks S.F }) H.out.dk H.out.ok hOl.out hOb.out (.inr W4.out) W4.out.size (by have := z1.out; rw [hm0.out] at this; exact this) (B9.out.trans gg) hm'.out ?_ (Mm.but gg hne) (M9.out.but gg hne') rfl rfl rfl rfl ⟨rfl, rfl, rfl, rfl, rfl, rfl, rfl, rfl, rfl⟩ hFk.out hl7.out hfs.out⟩
   unfold Bx
   rw [b11, ← hcs.out]
   rfl
def noF : Nat → Fl := fun _ => ⟨[], [], 0⟩
def DS.new (most : Int) : DS := ⟨most, true, [], [], [], 0, 0, 0, 0, 0, 0, 0, 0, 0, noF⟩
theorem new_dsk (w : World) (most : Int) (h0 : 0 ≤ most) (h1 : most ≤ 16777216) :
    Calls Tryz.prog 9 #[.int .i64 most] w fun e w' => ∃ b O, e = .returned (.pointer (some ⟨b, 0, none⟩)) ∧ DskE w' b (DS.new most) O ∧ Below w.heap.size w w' ∧ (∀ k, O k → w.heap.size ≤ k) := by
 refine (new_any w most (by omega) (by omega)).mono ?_
 rintro e w' ⟨hB, ⟨hn, _⟩ | ⟨_, _, rfl, hb, m1, m2⟩⟩
 ·exact absurd ⟨h0, h1⟩ hn
 ·refine ⟨w.heap.size + 2, fun k => w.heap.size ≤ k ∧ k < w'.heap.size, rfl, ⟨w.heap.size, w.heap.size + 1, .slice none 0 0, none, fun _ => undef, fun _ => undef, ⟨?_, ⟨fun p hp => by simp [DS.ps, DS.new] at hp, fun p hp => by simp [DS.ps, DS.new] at hp, fun p hp => by simp [DS.ps, DS.new] at hp⟩, ?_, fun p hp => by simp [DS.ps, DS.new] at hp, fun k hk => hk.2, ?_⟩⟩, hB, fun k hk => hk.1⟩
  ·exact ⟨hb, rfl, rfl, m1, m2, by omega, Pd.nil _, (fun _ e => by cases e), fun _ => rfl, rfl, trivial, (by simp [DS.new]), ⟨Int.le_refl _, Int.le_refl _, Int.le_refl _, Int.le_refl _, Int.le_refl _, Int.le_refl _, Int.le_refl _, Int.le_refl _⟩, ⟨Int.le_refl _, Int.le_refl _, Int.le_refl _, Int.le_refl _, Int.le_refl _, Int.le_refl _, Int.le_refl _⟩⟩
  ·have z := heap_lt hb
   intro k hk
   rcases hk with c | c | c | c | c
   ·rw [c]; exact ⟨by omega, z⟩
   ·simp only [DS.dc, Option.some.injEq] at c; subst c; exact ⟨by omega, by omega⟩
   ·simp only [DS.dc, Option.some.injEq] at c; subst c; exact ⟨by omega, by omega⟩
   ·simp [DS.dc, Value.ownBlock] at c
   ·simp [DS.dc] at c
  ·exact ⟨⟨h0, h1⟩, fun p hp => by simp [DS.ps, DS.new] at hp, Int.le_refl _, (fun e he => by simp [DS.new] at he), ⟨Int.le_refl _, Int.le_refl _⟩⟩
def sA : ByteArray := ⟨#[97]⟩
theorem upd_noF (p : Nat) : upd noF p ⟨[], [], 0⟩ = noF := by
 funext q
 unfold upd
 split <;> rfl
theorem nms_one (n : List UInt8) (p : Nat) : nms [(n, p)] = [n] := by simp [nms]
theorem up_dsk {w : World} {b : Nat} {S : DS} {O : Nat → Prop} (h : DskE w b S O) : Calls Tryz.prog 43 #[.pointer (some ⟨b, 0, none⟩)] w fun e w' => e = .returned (.bool S.up) ∧ w' = w := by
 obtain ⟨f, g, pd, am, VB, VL, h⟩ := h
 exact up_any w _ _ h.dk.dp
theorem append_dsk {w : World} {b : Nat} {S : DS} {O : Nat → Prop} (h : DskE w b S O) (s : ByteArray) (hs : s.size ≤ maxLen) (v : Value) (D : List UInt8) (hv : Sl w v D) (ho : SOff O v) (hc : S.c7 < 900000000) :
    Calls Tryz.prog 16 #[.pointer (some ⟨b, 0, none⟩), .string s, v] w fun e w' => e = .returned (.tuple #[.int .i64 (S.append s D).2.1, .int .i64 (S.append s D).2.2]) ∧ ∃ O', DskE w' b (S.append s D).1 O' ∧ Sgo w w' O O' := by
 obtain ⟨f, g, pd, am, VB, VL, h⟩ := h
 exact append_any h s hs v D hv ho hc
theorem tails_dsk {w : World} {b : Nat} {S : DS} {O : Nat → Prop} (h : DskE w b S O) (hc : S.c7 < 1000000000) (n : Int) (n0 : -9223372036854775808 ≤ n) (n1 : n ≤ 9223372036854775807) :
    Calls Tryz.prog 27 #[.pointer (some ⟨b, 0, none⟩), .int .i64 n] w fun e w' => ∃ v, e = .returned v ∧ Tl w.heap.size w' v (S.tails n) ∧ Below w.heap.size w w' := by
 obtain ⟨f, g, pd, am, VB, VL, h⟩ := h
 exact tails_any h hc n n0 n1
theorem crash_dsk {w : World} {b : Nat} {S : DS} {O : Nat → Prop} (h : DskE w b S O) (hc : S.c7 < 1000000000) (n : Int) (n0 : -9223372036854775808 ≤ n) (n1 : n ≤ 9223372036854775807) (v : Value) (Z : Nat → Prop) (ks : List Kep) (hk : Kp Z w v ks) (hZ : ∀ k, Z k → ¬ O k ∧ k < w.heap.size) :
    Calls Tryz.prog 18 #[.pointer (some ⟨b, 0, none⟩), .agg #[.int .i64 n, v]] w fun e w' => e = .returned (.tuple #[]) ∧ ∃ O', DskE w' b (S.crash n ks) O' ∧ Sgo w w' O O' := by
 obtain ⟨f, g, pd, am, VB, VL, h⟩ := h
 exact crashD_any h hc n n0 n1 v Z ks hk hZ
def spF (f : Fl) : Fl := ⟨f.by_, f.la, f.by_.length - f.la.length⟩
def DS.sync (S : DS) (s : ByteArray) : DS × Int :=
 match S.find s with
 | (none, e) => (S, e)
 | (some p, _) =>
  if S.flt.2.1 = 1 then ({ S.beg 2 with F := upd S.F p (spF (S.F p)) }, 20)
  else if S.flt.2.1 = 3 then ((S.beg 2).str 3, 22)
  else ({ S.beg 2 with F := upd S.F p (syF (S.F p)) }, 0)
theorem syncF_any {w : World} {b : Nat} {S : DS} {O : Nat → Prop} {f g : Nat} {pd : Value} {am : Option Nat} {VB VL : Nat → Value} (h : Dsk w b S O f g pd am VB VL) (s : ByteArray) (hs : s.size ≤ maxLen) (hc : S.c7 < 900000000) :
    Calls Tryz.prog 17 #[.pointer (some ⟨b, 0, none⟩), .string s] w (Does w b O (S.sync s)) := by
 have hF := dsk_find h s hs
 by_cases h0 : (S.find s).2 = 0
 ·obtain ⟨p, e, hg, hr, hp⟩ := find_ok h0
  rw [e] at hF
  simp only [Option.map_some] at hF
  have hR : Hid (S.sync s = if S.flt.2.1 = 1 then ({ S.beg 2 with F := upd S.F p (spF (S.F p)) }, 20) else if S.flt.2.1 = 3 then ((S.beg 2).str 3, 22) else ({ S.beg 2 with F := upd S.F p (syF (S.F p)) }, 0)) := by show _ = _; unfold DS.sync; rw [e]
  have hb : Hid (∀ u, Dsk u b S O f g pd am VB VL → _) := fun u hu => dsk_begin hu 2 (by omega) (by omega)
  have hft := h.ok.flt
  have hsz := hide (h.ok.sz p hp)
  have H := hide h
  obtain ⟨t, ht⟩ : ∃ t, Hid (S.flt = t) := ⟨_, rfl⟩
  rw [ht.out] at hb hft hR
  unfold fv at hb
  obtain ⟨ta, tk, tp⟩ := t
  dsimp only at hb hft hR
  clear h e hr h0 hg
  have hsp : Hid (∀ u, Dsk u b (S.beg 2) O f g pd am VB VL → Calls Tryz.prog 77 #[.pointer (some ⟨p, 0, none⟩)] u fun e w' => e = .returned (.tuple #[]) ∧ ∃ O', Dsk w' b { S.beg 2 with F := upd S.F p (spF (S.F p)) } O' f g pd am (upd VB p (VB p)) (upd VL p (VL p)) ∧ Sgo u w' O O' ∧ But (fun k => k = p) u w') := fun u hu => by
   refine (spoil_any u p (S.F p) (VB p) (VL p) (hu.fs.at_ p hp)).mono ?_
   rintro e w' ⟨rfl, hf, hB⟩
   obtain ⟨O', k1, k2⟩ := hu.one (t := spF (S.F p)) hp hf (hB.mono fun k _ e => .inl e) (fun k hk => .inl hk) hsz.out
   exact ⟨rfl, O', k1, k2, hB⟩
  have hsy : Hid (∀ u, Dsk u b (S.beg 2) O f g pd am VB VL → Calls Tryz.prog 78 #[.pointer (some ⟨p, 0, none⟩)] u fun e w' => e = .returned (.tuple #[]) ∧ ∃ O', DskE w' b { S.beg 2 with F := upd S.F p (syF (S.F p)) } O' ∧ Sgo u w' O O') := fun u hu => by
   refine (sync_any u p (S.F p) (VB p) (VL p) (hu.fs.at_ p hp)).mono ?_
   rintro e w' ⟨rfl, vl', hf, hB, ho⟩
   obtain ⟨O', k1, k2⟩ := hu.one (t := syF (S.F p)) hp hf hB ho hsz.out
   exact ⟨rfl, O', k1.e, k2⟩
  have hpO : Hid (O p) := H.out.of p hp p (.inl rfl)
  by_cases k1 : tk = 1
  ·subst k1
   have hR2 : Hid (S.sync s = ({ S.beg 2 with F := upd S.F p (spF (S.F p)) }, 20)) := by show _ = _; rw [hR.out, if_pos rfl]
   rw [hR2.out]
   clear hR hft hsy
   have hst : Hid (∀ u O' VB' VL', Dsk u b { S.beg 2 with F := upd S.F p (spF (S.F p)) } O' f g pd am VB' VL' → Calls Tryz.prog 73 #[.pointer (some ⟨b, 0, none⟩), .agg #[.int .i64 ta, .int .i64 1, .int .i64 tp]] u fun e w' => e = .returned (.int .i64 20) ∧ Dsk w' b { S.beg 2 with F := upd S.F p (spF (S.F p)) } O' f g pd am VB' VL' ∧ Sgo u w' O' O') := fun u O' VB' VL' hu => dsk_strikeR hu (ta, 1, tp) (by show (1 : Int) ≠ 4; decide)
   go_enter Tryz.func17, Tryz.ntmps17
   go_upto_region 5 with (first
    | (go_at_call 75; refine hF.mono ?_; rintro e w1 ⟨rfl, B1⟩; replace B1 := hide B1; have D1 := hide (H.out.below B1.out))
    | (go_at_call 70; refine (hb.out _ D1.out).mono ?_; rintro e w2 ⟨rfl, D2, G2⟩; replace D2 := hide D2; replace G2 := hide G2))
   have B3 := hide (box_below w2 (.cells #[.int .i64 ta, .int .i64 1, .int .i64 tp] 118))
   have N3 := hide (heap_alloc_new w2 (.cells #[.int .i64 ta, .int .i64 1, .int .i64 tp] 118))
   have D3 := hide (D2.out.below B3.out)
   have hne : Hid (¬ O w2.heap.size) := fun c => Nat.lt_irrefl _ (D2.out.lt _ c)
   have T3 := hide ((Sgo.of_below (O := O) B1.out).trans (G2.out.trans (Sgo.of_below B3.out)))
   generalize w2.alloc (.cells #[.int .i64 ta, .int .i64 1, .int .i64 tp] 118) = w3 at *
   obtain ⟨x0, x1, x2⟩ := cells3 N3.out
   go_wp2_with (first
    | (go_at_call 77; refine (hsp.out _ D3.out).mono ?_; rintro e w4 ⟨rfl, O4, D4, G4, U4⟩; replace D4 := hide D4; replace G4 := hide G4; have N4 := hide (U4.at N3.out (fun e => hne.out (by rw [e]; exact hpO.out))); clear U4; obtain ⟨y0, y1, y2⟩ := cells3 N4.out)
    | (go_at_call 73; refine (hst.out _ _ _ _ D4.out).mono ?_; rintro e w5 ⟨rfl, D5, G5⟩; replace D5 := hide D5; replace G5 := hide G5))
   go_ret
   exact ⟨rfl, O4, D5.out.e, T3.out.trans (G4.out.trans G5.out)⟩
  ·have k1' : (tk == 1) = false := by simpa using k1
   have k4' : (tk == 4) = false := by simp; omega
   by_cases k3 : tk = 3
   ·subst k3
    have hR2 : Hid (S.sync s = ((S.beg 2).str 3, 22)) := by show _ = _; rw [hR.out, if_neg (by decide), if_pos rfl]
    rw [hR2.out]
    clear hR hft hsy hsp
    have hst : Hid (∀ u, Dsk u b (S.beg 2) O f g pd am VB VL → Calls Tryz.prog 73 #[.pointer (some ⟨b, 0, none⟩), .agg #[.int .i64 ta, .int .i64 3, .int .i64 tp]] u fun e w' => e = .returned (.int .i64 22) ∧ Dsk w' b ((S.beg 2).str 3) O f g pd am VB VL ∧ Sgo u w' O O) := fun u hu => dsk_strikeR hu (ta, 3, tp) (by show (3 : Int) ≠ 4; decide)
    go_enter Tryz.func17, Tryz.ntmps17
    go_upto_region 5 with (first
     | (go_at_call 75; refine hF.mono ?_; rintro e w1 ⟨rfl, B1⟩; replace B1 := hide B1; have D1 := hide (H.out.below B1.out))
     | (go_at_call 70; refine (hb.out _ D1.out).mono ?_; rintro e w2 ⟨rfl, D2, G2⟩; replace D2 := hide D2; replace G2 := hide G2))
    have B3 := hide (box_below w2 (.cells #[.int .i64 ta, .int .i64 3, .int .i64 tp] 118))
    have N3 := hide (heap_alloc_new w2 (.cells #[.int .i64 ta, .int .i64 3, .int .i64 tp] 118))
    have D3 := hide (D2.out.below B3.out)
    have T3 := hide ((Sgo.of_below (O := O) B1.out).trans (G2.out.trans (Sgo.of_below B3.out)))
    generalize w2.alloc (.cells #[.int .i64 ta, .int .i64 3, .int .i64 tp] 118) = w3 at *
    obtain ⟨x0, x1, x2⟩ := cells3 N3.out
    go_wp2_with (go_at_call 73; refine (hst.out _ D3.out).mono ?_; rintro e w5 ⟨rfl, D5, G5⟩; replace D5 := hide D5; replace G5 := hide G5)
    go_ret
    exact ⟨rfl, O, D5.out.e, T3.out.trans G5.out⟩
   ·have hR2 : Hid (S.sync s = ({ S.beg 2 with F := upd S.F p (syF (S.F p)) }, 0)) := by show _ = _; rw [hR.out, if_neg k1, if_neg k3]
    rw [hR2.out]
    have hst : Hid (∀ u, Dsk u b (S.beg 2) O f g pd am VB VL → Calls Tryz.prog 73 #[.pointer (some ⟨b, 0, none⟩), .agg #[.int .i64 ta, .int .i64 tk, .int .i64 tp]] u fun e w' => e = .returned (.int .i64 0) ∧ Dsk w' b (S.beg 2) O f g pd am VB VL ∧ Sgo u w' O O) := fun u hu => by
     have := dsk_strikeR hu (ta, tk, tp) (by show tk ≠ 4; omega)
     have e1 : strR tk = 0 := by unfold strR strF; by_cases c : tk = 2 <;> simp [c, k1, k3]
     have e2 : (S.beg 2).str tk = S.beg 2 := by unfold DS.str; rw [if_neg k3]
     dsimp only at this
     rw [e1, e2] at this
     exact this
    clear hR hft hsp k1 k3
    go_enter Tryz.func17, Tryz.ntmps17
    go_upto_region 5 with (first
     | (go_at_call 75; refine hF.mono ?_; rintro e w1 ⟨rfl, B1⟩; replace B1 := hide B1; have D1 := hide (H.out.below B1.out))
     | (go_at_call 70; refine (hb.out _ D1.out).mono ?_; rintro e w2 ⟨rfl, D2, G2⟩; replace D2 := hide D2; replace G2 := hide G2))
    have B3 := hide (box_below w2 (.cells #[.int .i64 ta, .int .i64 tk, .int .i64 tp] 118))
    have N3 := hide (heap_alloc_new w2 (.cells #[.int .i64 ta, .int .i64 tk, .int .i64 tp] 118))
    have D3 := hide (D2.out.below B3.out)
    have T3 := hide ((Sgo.of_below (O := O) B1.out).trans (G2.out.trans (Sgo.of_below B3.out)))
    generalize w2.alloc (.cells #[.int .i64 ta, .int .i64 tk, .int .i64 tp] 118) = w3 at *
    obtain ⟨x0, x1, x2⟩ := cells3 N3.out
    go_wp2_with (first
     | (go_at_call 73; refine (hst.out _ D3.out).mono ?_; rintro e w5 ⟨rfl, D5, G5⟩; replace D5 := hide D5; replace G5 := hide G5)
     | (go_at_call 78; refine (hsy.out _ D5.out).mono ?_; rintro e w6 ⟨rfl, O6, D6, G6⟩; replace D6 := hide D6; replace G6 := hide G6))
    go_ret
    exact ⟨rfl, O6, D6.out, T3.out.trans (G5.out.trans G6.out)⟩
 ·have hR : Hid (S.sync s = (S, (S.find s).2)) := by
    show _ = _
    have q := find_no h0
    unfold DS.sync
    cases hq : S.find s with
    | mk a c => rw [hq] at q; dsimp only at q; subst q; rfl
  rw [hR.out]
  have q := find_no h0
  rw [q] at hF
  simp only [Option.map_none] at hF
  generalize (S.find s).2 = r at *
  have h0' : (r != 0) = true := by simpa using h0
  have H := hide h
  clear h h0 q hR
  go_enter Tryz.func17, Tryz.ntmps17
  go_wp2_with (go_at_call 75; refine hF.mono ?_; rintro e w1 ⟨rfl, B1⟩; replace B1 := hide B1)
  go_ret
  exact ⟨rfl, O, (H.out.below B1.out).e, Sgo.of_below B1.out⟩
def mayF (f : Ft) : Bool := decide (1 ≤ f.1) && decide (f.1 ≤ 4294967296) && decide (1 ≤ f.2.1) && decide (f.2.1 ≤ 4) && decide (0 ≤ f.2.2)
def armL (c : Int) : List Ft → Ar → Option Ar
 | [], l => some l
 | f :: r, l => if mayF f = true ∧ aget l (c + f.1) = none then armL c r (aput l (c + f.1) f) else none
theorem armL_snoc (c : Int) (A : List Ft) (f : Ft) (l : Ar) : armL c (A ++ [f]) l = match armL c A l with | none => none | some m => if mayF f = true ∧ aget m (c + f.1) = none then some (aput m (c + f.1) f) else none := by
 induction A generalizing l with
 | nil => rfl
 | cons a r ih =>
  simp only [List.cons_append, armL]
  split
  ·exact ih _
  ·rfl
theorem armL_none (c : Int) (A B : List Ft) (l : Ar) (h : armL c A l = none) : armL c (A ++ B) l = none := by
 induction A generalizing l with
 | nil => simp [armL] at h
 | cons a r ih =>
  simp only [List.cons_append, armL] at h ⊢
  split
  ·rename_i q
   rw [if_pos q] at h
   exact ih _ h
  ·rfl
def DS.arm (S : DS) (fs : List Ft) : DS × Int :=
 if 64 < fs.length then (S, 1)
 else match armL S.c7 fs [] with
  | none => (S, 1)
  | some l => ({ S with al := l }, 0)
theorem ains_mem {x e : Int × Ft} {l : Ar} (h : e ∈ ains x l) : e = x ∨ e ∈ l := by
 induction l with
 | nil => simp [ains] at h; exact .inl h
 | cons y r ih =>
  unfold ains at h
  split at h
  ·rcases List.mem_cons.1 h with q | q
   ·exact .inl q
   ·exact .inr q
  ·rcases List.mem_cons.1 h with q | q
   ·exact .inr (by rw [q]; simp)
   ·rcases ih q with z | z
    ·exact .inl z
    ·exact .inr (by simp [z])
theorem armL_mem {c : Int} : ∀ {fs : List Ft} {l m : Ar}, armL c fs l = some m → ∀ e ∈ m, e ∈ l ∨ (e.2 ∈ fs ∧ mayF e.2 = true) := by
 intro fs
 induction fs with
 | nil => intro l m h e he; simp [armL] at h; subst h; exact .inl he
 | cons f r ih =>
  intro l m h e he
  simp only [armL] at h
  split at h
  ·rename_i q
   rcases ih h e he with z | z
   ·rcases ains_mem z with y | y
    ·rw [y]; exact .inr ⟨by simp, q.1⟩
    ·exact .inl (List.mem_filter.1 y).1
   ·exact .inr ⟨by simp [z.1], z.2⟩
  ·cases h
theorem ains_len (x : Int × Ft) (l : Ar) : (ains x l).length = l.length + 1 := by
 induction l with
 | nil => rfl
 | cons y r ih => unfold ains; split <;> simp [ih]
theorem aput_len (l : Ar) (n : Int) (f : Ft) : (aput l n f).length ≤ l.length + 1 := by
 have : (adel l n).length ≤ l.length := List.length_filter_le _ _
 rw [aput, ains_len]
 omega
theorem armL_len {c : Int} : ∀ {fs : List Ft} {l m : Ar}, armL c fs l = some m → m.length ≤ l.length + fs.length := by
 intro fs
 induction fs with
 | nil => intro l m h; simp [armL] at h; subst h; simp
 | cons f r ih =>
  intro l m h
  simp only [armL] at h
  split at h
  ·have h1 := ih h
   have h2 := aput_len l (c + f.1) f
   simp only [List.length_cons]
   omega
  ·cases h
def Fts (w : World) (v : Value) (fs : List Ft) : Prop :=
 ∃ ao cap, v = .slice ao fs.length cap ∧ fs.length ≤ cap ∧ cap ≤ maxLen ∧ ∀ i (h : i < fs.length), ∃ b off, ao = some ⟨b, off, none⟩ ∧ w.cell? ⟨b, off + i * 3, none⟩ = some (.int .i64 fs[i].1) ∧ w.cell? ⟨b, off + i * 3 + 1, none⟩ = some (.int .i64 fs[i].2.1) ∧ w.cell? ⟨b, off + i * 3 + 2, none⟩ = some (.int .i64 fs[i].2.2)
theorem Fts.below {w w' : World} {v : Value} {fs : List Ft} (h : Fts w v fs) (hb : Below w.heap.size w w') : Fts w' v fs := by
 obtain ⟨ao, cap, e, h1, h2, h3⟩ := h
 refine ⟨ao, cap, e, h1, h2, fun i hi => ?_⟩
 obtain ⟨b, off, e1, c1, c2, c3⟩ := h3 i hi
 exact ⟨b, off, e1, by rw [hb.cell (lt_of_cell c1)]; exact c1, by rw [hb.cell (lt_of_cell c2)]; exact c2, by rw [hb.cell (lt_of_cell c3)]; exact c3⟩
theorem mayBefall_any (w : World) (f : Ft) : Calls Tryz.prog 102 #[.agg #[.int .i64 f.1, .int .i64 f.2.1, .int .i64 f.2.2]] w fun e w' => e = .returned (.bool (mayF f)) ∧ Below w.heap.size w w' := by
 obtain ⟨a, k, p⟩ := f
 dsimp only
 have hB := hide (box_below w (.cells #[.int .i64 a, .int .i64 k, .int .i64 p] 118))
 obtain ⟨E, hE⟩ : ∃ E, Hid (mayF (a, k, p) = E) := ⟨_, rfl⟩
 rw [hE.out]
 by_cases c1 : 1 ≤ a
 ·by_cases c2 : a ≤ 4294967296
  ·by_cases c3 : 1 ≤ k
   ·by_cases c4 : k ≤ 4
    ·by_cases c5 : 0 ≤ p
     ·have q : Hid (E = true) := by show _ = _; rw [← hE.out]; simp [mayF, c1, c2, c3, c4, c5]
      go_enter Tryz.func102, Tryz.ntmps102
      go_wp2_with fail
      go_ret
      exact ⟨by rw [q.out]; rfl, hB.out⟩
     ·have q : Hid (E = false) := by show _ = _; rw [← hE.out]; simp [mayF, c5]
      go_enter Tryz.func102, Tryz.ntmps102
      go_wp2_with fail
      go_ret
      exact ⟨by rw [q.out]; rfl, hB.out⟩
    ·have q : Hid (E = false) := by show _ = _; rw [← hE.out]; simp [mayF, c4]
     go_enter Tryz.func102, Tryz.ntmps102
     go_wp2_with fail
     go_ret
     exact ⟨by rw [q.out]; rfl, hB.out⟩
   ·have q : Hid (E = false) := by show _ = _; rw [← hE.out]; simp [mayF, c3]
    go_enter Tryz.func102, Tryz.ntmps102
    go_wp2_with fail
    go_ret
    exact ⟨by rw [q.out]; rfl, hB.out⟩
  ·have q : Hid (E = false) := by show _ = _; rw [← hE.out]; simp [mayF, c2]
   go_enter Tryz.func102, Tryz.ntmps102
   go_wp2_with fail
   go_ret
   exact ⟨by rw [q.out]; rfl, hB.out⟩
 ·have q : Hid (E = false) := by show _ = _; rw [← hE.out]; simp [mayF, c1]
  go_enter Tryz.func102, Tryz.ntmps102
  go_wp2_with fail
  go_ret
  exact ⟨by rw [q.out]; rfl, hB.out⟩
theorem Dsk.armed {w w1 : World} {b m : Nat} {S : DS} {O : Nat → Prop} {f g : Nat} {pd : Value} {am : Option Nat} {VB VL : Nat → Value} {l : Ar} (h : Dsk w b S O f g pd am VB VL) (hB : Below w.heap.size w w1) (hm : Am w1 m l) (hn : w.heap.size ≤ m) (hcl : ∀ e ∈ l, (1 ≤ e.2.2.1 ∧ e.2.2.1 ≤ 3) ∧ 0 ≤ e.2.2.2) :
    ∃ O', Dsk (w1.setCell ⟨b, 5, none⟩ (.map (some m))) b { S with al := l } O' f g pd (some m) VB VL ∧ Sgo w (w1.setCell ⟨b, 5, none⟩ (.map (some m))) O O' := by
 have h1 := h.below hB
 obtain ⟨n1, n2, n3, n4⟩ := h1.dk.noB
 have hG := But.of_grownBy (X := fun k => k = b) (grown_setCell w1 b 5 (.map (some m))) fun k e => by cases e; rfl
 have hbm : m ≠ b := fun e => hm.ne h1.dk.cells e.symm
 have hx := heap_setCell_same w1 b 5 _ _ (.map (some m)) h1.dk.cells
 have hOl : ∀ k, Own b (S.dc f g pd am) k → k < w.heap.size := fun k hk => h.lt k (h.ow k hk)
 refine ⟨fun k => O k ∨ (w.heap.size ≤ k ∧ k < (w1.setCell ⟨b, 5, none⟩ (.map (some m))).heap.size), ⟨⟨hx, rfl, rfl, h1.dk.mf.but hG n1, h1.dk.mg.but hG n2, h1.dk.fg, h1.dk.pd.but hG n4, ?_, (fun e => by cases e), h1.dk.run, h1.dk.can, h1.dk.ok, h1.dk.c0, h1.dk.c1⟩, ?_, ?_, ?_, ?_, ?_⟩, ?_⟩
 ·intro m' e
  simp only [DS.dc, Option.some.injEq] at e
  subst e
  refine ⟨hm.but hG hbm, fun e => ?_, fun e => ?_⟩
  ·have := hOl f (.inr (.inl rfl)); omega
  ·have := hOl g (.inr (.inr (.inl rfl))); omega
 ·have k1 := h1.fs.but hG (fun p hp k hk e => h1.fs.no p hp k hk (.inl e))
  refine ⟨k1.at_, k1.ap, fun p hp k hk c => ?_⟩
  have hk2 := h.fs.lt hp k hk
  rcases c with c | c | c | c | c
  ·exact k1.no p hp k hk (.inl c)
  ·exact k1.no p hp k hk (.inr (.inl c))
  ·exact k1.no p hp k hk (.inr (.inr (.inl c)))
  ·exact k1.no p hp k hk (.inr (.inr (.inr (.inl c))))
  ·simp only [DS.dc, Option.some.injEq] at c; omega
 ·intro k hk
  rcases hk with c | c | c | c | c
  ·exact .inl (h.ow k (.inl c))
  ·exact .inl (h.ow k (.inr (.inl c)))
  ·exact .inl (h.ow k (.inr (.inr (.inl c))))
  ·exact .inl (h.ow k (.inr (.inr (.inr (.inl c)))))
  ·simp only [DS.dc, Option.some.injEq] at c; subst c; exact .inr ⟨hn, Nat.lt_of_lt_of_le hm.lt hG.size⟩
 ·exact fun p hp k hk => .inl (h.of p hp k hk)
 ·rintro k (q | q)
  ·exact Nat.lt_of_lt_of_le (h1.lt k q) hG.size
  ·exact q.2
 ·exact ⟨h.ok.most, h.ok.sz, h.ok.cnt, hcl, h.ok.by8⟩
 ·refine ⟨(But.of_below hB _).trans (hG.mono fun k _ e => by rw [e]; exact h.ow b (.inl rfl)), ?_⟩
  rintro k (q | q)
  ·exact .inl q
  ·exact .inr q.1
theorem arm_any {w : World} {b : Nat} {S : DS} {O : Nat → Prop} {f g : Nat} {pd : Value} {am : Option Nat} {VB VL : Nat → Value} (h : Dsk w b S O f g pd am VB VL) (hc : S.c7 < 900000000) (v : Value) (fs : List Ft) (hv : Fts w v fs) (h4 : ∀ t ∈ fs, t.2.1 ≠ 4) :
    Calls Tryz.prog 59 #[.pointer (some ⟨b, 0, none⟩), v] w (Does w b O (S.arm fs)) := by
 have hM := made_any w _ _ h.dk.dp
 rw [show madeD (some (S.dc f g pd am)) = true from rfl] at hM
 have H := hide h
 obtain ⟨ao, ca, rfl, q1, q2, q3⟩ := hv
 have q2' : (ca : Int) ≤ 9223372036854775807 := by unfold maxLen at q2; omega
 replace q3 := hide q3
 obtain ⟨N, hN⟩ : ∃ N, Hid (fs.length = N) := ⟨_, rfl⟩
 rw [hN.out] at q1 ⊢
 have hc7 : Hid (∀ q, Below w.heap.size w q → q.cell? ⟨b, 13, none⟩ = some (.int .i64 S.c7)) := fun q hq => (H.out.below hq).dk.box.all.1
 have hc70 : 0 ≤ S.c7 := by have := h.dk.c0; exact this.2.2.2.2.2.2.2
 clear h
 by_cases c64 : 64 < N
 ·have hR : Hid (S.arm fs = (S, 1)) := by show _ = _; unfold DS.arm; rw [if_pos (by rw [hN.out]; exact c64)]
  rw [hR.out]
  have i1 : (64 : Int) < (N : Int) := by omega
  go_enter Tryz.func59, Tryz.ntmps59
  go_wp2_with (go_at_call 79; refine hM.mono ?_; rintro e w1 ⟨rfl, e1⟩; subst w1)
  go_ret
  exact ⟨rfl, O, H.out.e, Sgo.refl _ _⟩
 ·have i1 : ¬ (64 : Int) < (N : Int) := by omega
  have hmm := @run_makeMap Tryz.prog
  obtain ⟨m, hm0⟩ : ∃ m, Hid (w.heap.size = m) := ⟨_, rfl⟩
  have A0 : Hid (Am (w.alloc (.map #[] 0)) m []) := by show Am _ _ _; rw [← hm0.out]; exact Am.of (l := []) (World.ownsMap_made w _ _ _)
  have B0 := hide (box_below w (.map #[] 0))
  have h4' := hide h4
  clear h4
  go_enter Tryz.func59, Tryz.ntmps59
  go_wp2_with (go_at_call 79; refine hM.mono ?_; rintro e w1 ⟨rfl, e1⟩; subst w1)
  rw [hm0.out]
  clear hmm hM
  go_loopw [20] (fun i wr => ∃ k : Nat, i = .int .i64 k ∧ k ≤ N ∧ ∃ l : Ar, Hid (armL S.c7 (fs.take k) [] = some l) ∧ Hid (Am wr m l ∧ Below m w wr)) (fun i _ => N - (intOf i).toNat)
  case atStart => exact ⟨0, rfl, Nat.zero_le _, [], rfl, A0.out, by rw [← hm0.out]; exact B0.out⟩
  case round =>
   obtain ⟨k, rfl, hk, l, hl, hI⟩ := hrel
   by_cases hlt : k < N
   ·have i2 : (k : Int) < (N : Int) := by omega
    have hkl : k < fs.length := by rw [hN.out]; exact hlt
    obtain ⟨gb, off, rfl, f1, f2, f3⟩ := q3.out k hkl
    have hsn : Hid (fs.take (k + 1) = fs.take k ++ [fs[k]]) := List.take_succ_eq_append_getElem hkl
    have hdrop : Hid (fs = fs.take (k + 1) ++ fs.drop (k + 1)) := (List.take_append_drop _ _).symm
    have hll := armL_len hl.out
    rw [List.length_take] at hll
    simp only [List.length_nil, Nat.zero_add] at hll
    have Bw := hI.out.2
    rw [← hm0.out] at Bw
    have f1' := (Bw.cell (p := ⟨gb, off + k * 3, none⟩) (lt_of_cell f1)).trans f1
    have f2' := (Bw.cell (p := ⟨gb, off + k * 3 + 1, none⟩) (lt_of_cell f2)).trans f2
    have f3' := (Bw.cell (p := ⟨gb, off + k * 3 + 2, none⟩) (lt_of_cell f3)).trans f3
    replace Bw := hide Bw
    clear f1 f2 f3
    generalize fs[k] = t at *
    clear hkl
    obtain ⟨ta, tk, tp⟩ := t
    dsimp only at f1' f2' f3'
    obtain ⟨w1, hw1⟩ : ∃ w1, Hid (wr.alloc (.cells #[.int .i64 ta, .int .i64 tk, .int .i64 tp] 118) = w1) := ⟨_, rfl⟩
    have B1 : Hid (Below wr.heap.size wr w1) := by show Below _ _ _; rw [← hw1.out]; exact box_below wr _
    have N1 : Hid (w1.heap[wr.heap.size]? = some (.cells #[.int .i64 ta, .int .i64 tk, .int .i64 tp] 118 (0, 0))) := by show _ = _; rw [← hw1.out]; exact heap_alloc_new wr _
    have hMay := mayBefall_any w1 (ta, tk, tp)
    dsimp only at hMay
    have A1 : Hid (Am w1 m l) := hI.out.1.heap (B1.out.block m hI.out.1.lt)
    obtain ⟨x0, x1, x2⟩ := cells3 N1.out
    have zm : Hid (m < wr.heap.size) := hI.out.1.lt
    by_cases cm : mayF (ta, tk, tp) = true
    ·rw [cm] at hMay
     have ha1 : 1 ≤ ta ∧ ta ≤ 4294967296 := by simp [mayF] at cm; omega
     have hww : IntKind.i64.wrap (S.c7 + ta) = S.c7 + ta := by rw [IntKind.wrap_i64]; omega
     have k0 : -9223372036854775808 ≤ S.c7 + ta := by omega
     have k1 : S.c7 + ta ≤ 9223372036854775807 := by omega
     have hlook : Hid (∀ q, Am q m l → _) := fun q hq => hq.look_ok (n := S.c7 + ta) k0 k1
     unfold TA fv at hlook
     cases hg : aget l (S.c7 + ta) with
     | some u =>
      rw [hg] at hlook
      simp only [Option.getD_some, Option.isSome_some] at hlook
      obtain ⟨ua, uk, up⟩ := u
      dsimp only at hlook
      have hR : Hid (S.arm fs = (S, 1)) := by
       show _ = _
       unfold DS.arm
       rw [if_neg (by rw [hN.out]; omega)]
       have : armL S.c7 fs [] = none := by
        rw [hdrop.out]
        refine armL_none _ _ _ _ ?_
        rw [hsn.out, armL_snoc, hl.out]
        simp [hg]
       rw [this]
      rw [hR.out]
      go_upto_region 9 with fail
      rw [hw1.out]
      go_upto_region 11 with (go_at_call 102; refine hMay.mono ?_; rintro e w2 ⟨rfl, B2⟩; replace B2 := hide B2; have N2 : Hid (w2.heap[wr.heap.size]? = some (.cells #[.int .i64 ta, .int .i64 tk, .int .i64 tp] 118 (0, 0))) := (B2.out.block _ (heap_lt N1.out)).trans N1.out)
      obtain ⟨y0, y1, y2⟩ := cells3 N2.out
      have E2 : Hid (Below w.heap.size w w2) := Bw.out.trans ((B1.out.trans (B2.out.mono B1.out.size)).mono Bw.out.size)
      have y3 := hc7.out w2 E2.out
      go_quiet (fail)
      have A2 : Hid (Am (w2.drewN nq) m l) := A1.out.heap (B2.out.block m A1.out.lt)
      have hL2 := hlook.out _ A2.out
      have E3 : Hid (Below w.heap.size w (w2.drewN nq)) := E2.out.trans (Qt.below ⟨nq, rfl⟩ _)
      generalize w2.drewN nq = w3 at *
      clear y0 y1 y2 y3 x0 x1 x2 f1' f2' f3' hlook
      go_wp2_with fail
      go_ret
      have B4 := E3.out.trans ((box_below w3 (.cells #[.int .i64 ua, .int .i64 uk, .int .i64 up] 118)).mono E3.out.size)
      exact ⟨rfl, O, (H.out.below B4).e, Sgo.of_below B4⟩
     | none =>
      rw [hg] at hlook
      simp only [Option.getD_none, Option.isSome_none] at hlook
      unfold zf at hlook
      dsimp only at hlook
      have hl2 : Hid (armL S.c7 (fs.take (k + 1)) [] = some (aput l (S.c7 + ta) (ta, tk, tp))) := by
       show _ = _
       rw [hsn.out, armL_snoc, hl.out]
       simp [cm, hg]
      go_upto_region 9 with fail
      rw [hw1.out]
      go_upto_region 11 with (go_at_call 102; refine hMay.mono ?_; rintro e w2 ⟨rfl, B2⟩; replace B2 := hide B2; have N2 : Hid (w2.heap[wr.heap.size]? = some (.cells #[.int .i64 ta, .int .i64 tk, .int .i64 tp] 118 (0, 0))) := (B2.out.block _ (heap_lt N1.out)).trans N1.out)
      obtain ⟨y0, y1, y2⟩ := cells3 N2.out
      have E2 : Hid (Below w.heap.size w w2) := Bw.out.trans ((B1.out.trans (B2.out.mono B1.out.size)).mono Bw.out.size)
      have y3 := hc7.out w2 E2.out
      go_quiet (fail)
      have A2 : Hid (Am (w2.drewN nq) m l) := A1.out.heap (B2.out.block m A1.out.lt)
      have hL2 := hlook.out _ A2.out
      have E3 : Hid (Below w.heap.size w (w2.drewN nq)) := E2.out.trans (Qt.below ⟨nq, rfl⟩ _)
      replace N2 : Hid ((w2.drewN nq).heap[wr.heap.size]? = some (.cells #[.int .i64 ta, .int .i64 tk, .int .i64 tp] 118 (0, 0))) := N2.out
      generalize w2.drewN nq = w3 at *
      clear y0 y1 y2 y3 x0 x1 x2 f1' f2' f3' hlook
      obtain ⟨w4, hw4⟩ : ∃ w4, Hid (w3.alloc (.cells #[.int .i64 0, .int .i64 0, .int .i64 0] 118) = w4) := ⟨_, rfl⟩
      have B4 : Hid (Below w3.heap.size w3 w4) := by show Below _ _ _; rw [← hw4.out]; exact box_below w3 _
      have A4 : Hid (Am w4 m l) := A2.out.heap (B4.out.block m A2.out.lt)
      have N4 : Hid (w4.heap[wr.heap.size]? = some (.cells #[.int .i64 ta, .int .i64 tk, .int .i64 tp] 118 (0, 0))) := (B4.out.block _ (heap_lt N2.out)).trans N2.out
      obtain ⟨y0, y1, y2⟩ := cells3 N4.out
      obtain ⟨w5, hU, A5, T5⟩ := A4.out.store (n := S.c7 + ta) (f := (ta, tk, tp)) k0 k1 (by unfold maxLen; omega)
      unfold TA fv at hU
      dsimp only at hU
      replace A5 := hide A5
      replace T5 := hide T5
      go_upto_region 15 with fail
      rw [hw4.out]
      go_wp2_with fail
      go_roundw
      case rel =>
       refine ⟨k + 1, by go_num, by omega, _, hl2.out, A5.out, ?_⟩
       have E4 := E3.out.trans (B4.out.mono E3.out.size)
       rw [hm0.out] at E4
       have G5 := turned_but T5.out
       exact ⟨G5.os.trans E4.os, G5.tape.trans E4.tape, G5.output.trans E4.output, Nat.le_trans E4.size G5.size, fun j hj => (G5.block j (by have := E4.size; have := hm0.out; omega) (by omega)).trans (E4.block j hj)⟩
      case measure => simp [intOf]; omega
    ·have cm' : mayF (ta, tk, tp) = false := by simpa using cm
     rw [cm'] at hMay
     have hR : Hid (S.arm fs = (S, 1)) := by
      show _ = _
      unfold DS.arm
      rw [if_neg (by rw [hN.out]; omega)]
      have : armL S.c7 fs [] = none := by
       rw [hdrop.out]
       refine armL_none _ _ _ _ ?_
       rw [hsn.out, armL_snoc, hl.out]
       simp [cm']
      rw [this]
     rw [hR.out]
     go_upto_region 9 with fail
     rw [hw1.out]
     go_wp2_with (go_at_call 102; refine hMay.mono ?_; rintro e w2 ⟨rfl, B2⟩; replace B2 := hide B2)
     go_ret
     have E2 : Below w.heap.size w w2 := Bw.out.trans ((B1.out.trans (B2.out.mono B1.out.size)).mono Bw.out.size)
     exact ⟨rfl, O, (H.out.below E2).e, Sgo.of_below E2⟩
   ·obtain rfl : k = N := by omega
    rw [List.take_of_length_le (by rw [hN.out]; omega)] at hl
    have hR : Hid (S.arm fs = ({ S with al := l }, 0)) := by
     show _ = _
     unfold DS.arm
     rw [if_neg (by rw [hN.out]; omega), hl.out]
    rw [hR.out]
    have Bw := hI.out.2
    rw [← hm0.out] at Bw
    obtain ⟨O', D', G'⟩ := H.out.armed Bw hI.out.1 (by rw [hm0.out]; exact Nat.le_refl _) (fun e he => by
     rcases armL_mem hl.out e he with z | ⟨z1, z2⟩
     ·simp at z
     ·have := h4'.out _ z1
      simp [mayF] at z2
      omega)
    have hbx := (H.out.below Bw).dk.cells
    have t1 : wr.cell? ⟨b, 5, none⟩ = some (.map am) := (H.out.below Bw).dk.box.cells.2.2.2.2.2
    have t2 : wr.frozen? ⟨b, 5, none⟩ = false := by simp [World.frozen?, hbx]
    replace D' := hide D'
    replace G' := hide G'
    clear hbx
    go_wp2_with fail
    go_ret
    exact ⟨by rw [hR.out]; rfl, O', by rw [hR.out]; exact D'.out.e, G'.out⟩
theorem flt_none {S : DS} (h : S.al = []) : S.flt = zf := by unfold DS.flt; rw [h]; rfl
theorem hit_none {S : DS} (h : S.al = []) (j : Nat) : S.hit j = S.beg j := by
 unfold DS.hit DS.str
 rw [flt_none h]
 rfl
theorem ref_up {S : DS} (h : S.up = true) {s : ByteArray} (hm : may s.data.toList = true) : S.ref [s] = 0 := by
 unfold DS.ref
 rw [h]
 simp [hm]
theorem find_get {S : DS} (h : S.up = true) {s : ByteArray} (hm : may s.data.toList = true) {p : Nat} (hg : get S.dir s.data.toList = some p) : S.find s = (some p, 0) := by
 unfold DS.find
 rw [ref_up h hm, if_pos rfl, hg]
theorem may_a : may sA.data.toList = true := by decide
theorem get_one (n : List UInt8) (p : Nat) : get [(n, p)] n = some p := by simp [get]
end Go.Proofs.YtjehpijjneghpaaGreat.Dk
namespace Go.Proofs.YtjehpijjneghpaaGreat
open Go.RowKit
theorem eq_any (w : World) (ao bo : Option Addr) (l m : List UInt8) (ca cb : Nat) (hl : l.length ≤ maxLen) (hm : m.length ≤ maxLen) (ha : Rd w ao l) (hb : Rd w bo m) :
    Calls Tryz.prog 21 #[.slice ao l.length ca, .slice bo m.length cb] w fun e w' => e = .returned (.bool (decide (l = m))) ∧ Qt w w' := by
 unfold maxLen at hl hm
 by_cases hn : (l.length : Int) = (m.length : Int)
 ·have hn' : (((l.length : Nat) : Int) != ((m.length : Nat) : Int)) = false := by simp; omega
  have HN : Hid (l.length = m.length) := by show _ = _; omega
  clear hn
  go_enter Tryz.func21, Tryz.ntmps21
  go_wp2
  go_loopw [5] (fun i wr => ∃ k : Nat, k ≤ l.length ∧ i = .int .i64 k ∧ Qt w wr ∧ Hid (l.take k = m.take k)) (fun i _ => l.length - (intOf i).toNat)
  case atStart => exact ⟨0, Nat.zero_le _, rfl, Qt.refl _, by simp [Hid]⟩
  case round =>
   obtain ⟨k, hk, rfl, ⟨nq, rfl⟩, heq⟩ := hrel
   by_cases hlt : k < l.length
   ·obtain ⟨b1, o1, rfl, h1⟩ := ha.at (by omega)
    obtain ⟨b2, o2, rfl, h2⟩ := hb.at (by have := HN.out; omega)
    have hlt2 : k < m.length := by have := HN.out; omega
    have c1 := h1 k hlt
    have c2 := h2 k hlt2
    clear h1 h2
    cases hc : ((l[k].toNat : Int) != (m[k].toNat : Int))
    ·have HS : Hid (l.take (k + 1) = m.take (k + 1)) := by
       show _ = _
       rw [take_snoc l k hlt, take_snoc m k hlt2, heq.out, u8_eq hc]
     go_wp2
     go_quiet (fail)
     go_wp2
     go_roundw
     case rel => exact ⟨k + 1, by omega, by go_num, ⟨_, rfl⟩, HS⟩
     case measure => simp [intOf]; omega
    ·have HS : Hid (decide (l = m) = false) := by
       show _ = _
       exact decide_eq_false (ne_at k hlt hlt2 (u8_ne hc))
     go_wp2
     go_quiet (fail)
     go_wp2
     go_ret
     exact ⟨ret_bool (by rw [HS.out]), Qt.drewN ⟨_, rfl⟩ _⟩
   ·have HS : Hid (decide (l = m) = true) := by
      show _ = _
      exact decide_eq_true (take_eq_all HN.out k (by omega) heq.out)
    go_wp2
    go_ret
    exact ⟨ret_bool (by rw [HS.out]), ⟨_, rfl⟩⟩
 ·have hn' : (((l.length : Nat) : Int) != ((m.length : Nat) : Int)) = true := by simp; omega
  have HS : Hid (decide (l = m) = false) := by
   show _ = _
   exact decide_eq_false (by rintro rfl; exact hn rfl)
  clear hn
  go_enter Tryz.func21, Tryz.ntmps21
  go_wp2
  go_ret
  exact ⟨ret_bool (by rw [HS.out]), Qt.refl _⟩
end Go.Proofs.YtjehpijjneghpaaGreat
namespace Go.Proofs.YtjehpijjneghpaaGreat.Dk
open Go.RowKit Go.Maps Go.Sort Go.Shelf Go.Proofs.YtjehpijjneghpaaGreat.Nm
structure Cm (S : DS) (M : Nat) (L2 : Dr) (PP : List Ch) (F : Nat → Fl) (c : Int) : Prop where
 up : S.up = true
 al : S.al = []
 most : S.most = (M : Int)
 l2 : S.l2 = L2
 P : S.P = PP
 F : S.F = F
 c7 : S.c7 = c
theorem Cm.dir {S : DS} {M : Nat} {L2 : Dr} {PP : List Ch} {F : Nat → Fl} {c : Int} (h : Cm S M L2 PP F c) : S.dir = runs L2 PP := by unfold DS.dir; rw [h.l2, h.P]
theorem Cm.find {S : DS} {M : Nat} {L2 : Dr} {PP : List Ch} {F : Nat → Fl} {c : Int} (h : Cm S M L2 PP F c) {s : ByteArray} {p : Nat} (hm : may s.data.toList = true) (hg : get (runs L2 PP) s.data.toList = some p) : S.find s = (some p, 0) := find_get h.up hm (by rw [h.dir]; exact hg)
theorem Cm.create {S : DS} {M : Nat} {L2 : Dr} {PP : List Ch} {F : Nat → Fl} {c : Int} (h : Cm S M L2 PP F c) {s : ByteArray} (hm : may s.data.toList = true) (hg : get (runs L2 PP) s.data.toList = none) (hl : (runs L2 PP).length < 256) (p : Nat) :
    (S.create s p).2 = 0 ∧ Cm (S.create s p).1 M L2 (PP ++ [.cr s p]) (upd F p ⟨[], [], 0⟩) (c + 1) := by
 have e : S.create s p = ({ (S.beg 0).str S.flt.2.1 with P := S.P ++ [.cr s p], F := upd S.F p ⟨[], [], 0⟩ }, 0) := by
  unfold DS.create
  rw [ref_up h.up hm, if_neg (by simp), h.dir, hg, if_neg (by simp), if_neg (by omega), flt_none h.al, if_neg (by decide)]
 rw [e, flt_none h.al]
 refine ⟨rfl, ⟨h.up, ?_, h.most, h.l2, ?_, ?_, ?_⟩⟩
 ·show adel S.al _ = []; rw [h.al]; rfl
 ·show S.P ++ _ = _; rw [h.P]
 ·show upd S.F p _ = _; rw [h.F]
 ·show S.c7 + 1 = _; rw [h.c7]
theorem Cm.append {S : DS} {M : Nat} {L2 : Dr} {PP : List Ch} {F : Nat → Fl} {c : Int} (h : Cm S M L2 PP F c) {s : ByteArray} {p : Nat} (hm : may s.data.toList = true) (hg : get (runs L2 PP) s.data.toList = some p) (D : List UInt8) (hD : sumL F (runs L2 PP) + D.length ≤ M) :
    (S.append s D).2.1 = (D.length : Int) ∧ (S.append s D).2.2 = 0 ∧ Cm (S.append s D).1 M L2 PP (upd F p (apF (F p) D)) (c + 1) := by
 have hn : S.apN D.length = D.length := by
  unfold DS.apN DS.room
  rw [flt_none h.al, if_neg (by decide), h.dir, h.F, h.most]
  omega
 have e : S.append s D = ({ (S.beg 1).str S.flt.2.1 with F := upd S.F p (apF (S.F p) (D.take (S.apN D.length))), c8 := S.c8 + (S.apN D.length : Int) }, (S.apN D.length : Int), if strF S.flt.2.1 ≠ 0 then strF S.flt.2.1 else if S.apN D.length < D.length then 21 else 0) := by
  unfold DS.append
  rw [h.find hm hg]
 rw [e, hn, flt_none h.al, List.take_length]
 refine ⟨rfl, ?_, ⟨h.up, ?_, h.most, h.l2, h.P, ?_, ?_⟩⟩
 ·show (if strF 0 ≠ 0 then strF 0 else if D.length < D.length then 21 else 0) = 0
  rw [if_neg (by decide), if_neg (by omega)]
 ·show adel S.al _ = []; rw [h.al]; rfl
 ·show upd S.F p (apF (S.F p) D) = _; rw [h.F]
 ·show S.c7 + 1 = _; rw [h.c7]
theorem Cm.syncDir {S : DS} {M : Nat} {L2 : Dr} {PP : List Ch} {F : Nat → Fl} {c : Int} (h : Cm S M L2 PP F c) : S.syncDir.2 = 0 ∧ Cm S.syncDir.1 M (runs L2 PP) [] F (c + 1) := by
 have hr : S.ref [] = 0 := by unfold DS.ref; rw [h.up]; rfl
 have e : S.syncDir = ({ S.hit 6 with l2 := S.dir, P := [] }, 0) := by
  unfold DS.syncDir
  rw [hr, if_neg (by simp), flt_none h.al, if_neg (by decide)]
 rw [e, hit_none h.al]
 refine ⟨rfl, ⟨h.up, ?_, h.most, h.dir, rfl, h.F, ?_⟩⟩
 ·show adel S.al _ = []; rw [h.al]; rfl
 ·show S.c7 + 1 = _; rw [h.c7]
def CI (w q : World) (b M : Nat) (L2 : Dr) (PP : List Ch) (F : Nat → Fl) (c : Int) : Prop :=
 ∃ (S : DS) (O : Nat → Prop), DskE q b S O ∧ Cm S M L2 PP F c ∧ Below w.heap.size w q ∧ ∀ k, O k → w.heap.size ≤ k
theorem ci_new {w : World} (q : World) (M : Nat) (hM : M ≤ 16777216) (hB : Below w.heap.size w q) : Calls Tryz.prog 9 #[.int .i64 (M : Int)] q fun e w' => ∃ b, e = .returned (.pointer (some ⟨b, 0, none⟩)) ∧ CI w w' b M [] [] noF 0 := by
 refine (new_dsk q (M : Int) (by omega) (by omega)).mono ?_
 rintro e w' ⟨b, O, rfl, hd, hb, hl⟩
 exact ⟨b, rfl, _, O, hd, ⟨rfl, rfl, rfl, rfl, rfl, rfl, rfl⟩, hB.trans (hb.mono hB.size), fun k hk => Nat.le_trans hB.size (hl k hk)⟩
theorem ci_create {w q : World} {b M : Nat} {L2 : Dr} {PP : List Ch} {F : Nat → Fl} {c : Int} (h : CI w q b M L2 PP F c) (hc : c < 800000000) (s : ByteArray) (hs : s.size ≤ 140737488355328) (hm : may s.data.toList = true) (hg : get (runs L2 PP) s.data.toList = none) (hl : (runs L2 PP).length < 256) :
    Calls Tryz.prog 14 #[.pointer (some ⟨b, 0, none⟩), .string s] q fun e w' => e = .returned (.int .i64 0) ∧ ∃ p, p ∉ L2.map (·.2) ++ PP.filterMap Ch.ptr ∧ CI w w' b M L2 (PP ++ [.cr s p]) (upd F p ⟨[], [], 0⟩) (c + 1) := by
 obtain ⟨S, O, hd, hC, hB, hlo⟩ := h
 refine (create_dsk hd s hs (by rw [hC.c7]; omega)).mono ?_
 rintro e w' ⟨p, _, hp, he, O', hd', hg'⟩
 obtain ⟨k1, k2⟩ := hC.create hm hg hl p
 rw [k1] at he
 refine ⟨he, p, ?_, _, O', hd', k2, hg'.under hlo (Nat.le_refl _) hB, hg'.low hB.size hlo⟩
 unfold DS.ps at hp
 rw [hC.l2, hC.P] at hp
 exact hp
theorem ci_syncDir {w q : World} {b M : Nat} {L2 : Dr} {PP : List Ch} {F : Nat → Fl} {c : Int} (h : CI w q b M L2 PP F c) (hc : c < 800000000) :
    Calls Tryz.prog 15 #[.pointer (some ⟨b, 0, none⟩)] q fun e w' => e = .returned (.int .i64 0) ∧ CI w w' b M (runs L2 PP) [] F (c + 1) := by
 obtain ⟨S, O, hd, hC, hB, hlo⟩ := h
 refine (syncDir_dsk hd (by rw [hC.c7]; omega)).mono ?_
 rintro e w' ⟨he, O', hd', hg'⟩
 obtain ⟨k1, k2⟩ := hC.syncDir
 rw [k1] at he
 exact ⟨he, _, O', hd', k2, hg'.under hlo (Nat.le_refl _) hB, hg'.low hB.size hlo⟩
end Go.Proofs.YtjehpijjneghpaaGreat.Dk
namespace Go.Proofs.YtjehpijjneghpaaGreat.Dk
open Go.ChangeShapes Go.WideShapes Go.ChangeAt Go.RowKit Go.Deep
set_option maxRecDepth 100000
theorem cellsKeep : Tryz.prog.cellsOf 88 = 2 := by kernel_rfl
theorem cellsFate : Tryz.prog.cellsOf 34 = 2 := by kernel_rfl
theorem cellsFault : Tryz.prog.cellsOf 118 = 3 := by kernel_rfl
theorem cellsInt : Tryz.prog.cellsOf 3 = 1 := by kernel_rfl
theorem cellsI64 : Tryz.prog.cellsOf 2 = 1 := by kernel_rfl
theorem cellsBs : Tryz.prog.cellsOf 30 = 1 := by kernel_rfl
theorem cellsKeeps : Tryz.prog.cellsOf 32 = 1 := by kernel_rfl
theorem weightsAll_at {H : Type} {P : Program} {e : TypeId} : ∀ {ds : List (DataW H)} {i : Nat} {d : DataW H}, ds[i]? = some d → ∀ n ∈ d.weights P e, n ∈ DataW.weightsAll P e ds
 | [], i, d, h, _, _ => by simp at h
 | c :: r, 0, d, h, n, hn => by
  simp only [List.getElem?_cons_zero, Option.some.injEq] at h
  subst h
  simp only [DataW.weightsAll, List.mem_append]
  exact Or.inl hn
 | c :: r, i + 1, d, h, n, hn => by
  simp only [DataW.weightsAll, List.mem_append]
  exact Or.inr (weightsAll_at (i := i) (by simpa using h) n hn)
theorem sin_of {w : World} {v : Value} {l : List UInt8} (h : Sl w v l) : SIn (fun k => k < w.heap.size) v := by
 obtain ⟨ao, cap, rfl, _, _, _, h5⟩ := h
 intro b off n c e hn
 simp only [Value.slice.injEq] at e
 obtain ⟨rfl, rfl, _⟩ := e
 obtain ⟨b', off', e', hc⟩ := h5 0 hn
 simp only [Option.some.injEq, Addr.mk.injEq] at e'
 rw [e'.1]
 exact lt_of_cell hc
theorem open_keep {H : Type} {enc : TypeId × Value → H} {w : World} {base : Nat} {spare : Nat → Bool} {held : Bool} {fuel : Nat} {cs : List Value} {y : DataW H × List MemPlace}
    (h : DataW.trod enc Tryz.prog w base spare held fuel 88 cs = some y) (hwt : ∀ n ∈ y.1.weights Tryz.prog 88, n ≤ reachBytes) :
    ∃ (k : Kep) (v : Value), cs = [.int .i64 k.1, v] ∧ -9223372036854775808 ≤ k.1 ∧ k.1 ≤ 9223372036854775807 ∧ Sl w v k.2 ∧ k.2.length ≤ 140737488351232 := by
 obtain ⟨y0, y1, n, hy, hlen, h0, h1⟩ := trod_struct2 Tryz.underlying88 h
 rw [cellsKeep] at hlen
 obtain ⟨c0, c1, rfl⟩ : ∃ c0 c1, cs = [c0, c1] := by
  match cs, hlen with
  | [c0, c1], _ => exact ⟨c0, c1, rfl⟩
 simp only [cellsInt, cellsBs] at h0 h1
 obtain ⟨a0, e0, _, w0⟩ := DataW.trod_int Tryz.underlying3 h0
 simp at e0
 subst e0
 obtain ⟨l, hs, hd⟩ := open_bytes (v := c1) (by simpa using h1)
 have hl : l.length ≤ 140737488351232 := by
  rcases hd with ⟨_, rfl⟩ | ⟨elems, sp, e1, e2⟩
  ·simp
  ·have hm : (elems.length + sp.length) * Tryz.prog.bytesOf 5 ∈ y1.1.weights Tryz.prog 30 := by
     rw [e1]; simp [DataW.weights, Tryz.underlying30]
   have h4 : (elems.length + sp.length) * Tryz.prog.bytesOf 5 ≤ reachBytes := by
    refine hwt _ ?_
    rw [hy]
    simp only [DataW.weights, Tryz.underlying88]
    exact DataW.weights_mem_each (j := 1) (t := 30) (d := y1.1) rfl rfl _ hm
   rw [bytesU8] at h4
   simp only [reachBytes] at h4
   omega
 exact ⟨(a0, l), c1, rfl, (i64_bounds w0).1, (i64_bounds w0).2, hs, hl⟩
theorem open_keeps {H : Type} {enc : TypeId × Value → H} {w : World} {base : Nat} {spare : Nat → Bool} {held : Bool} {fuel : Nat} {v : Value} {x : DataW H × List MemPlace}
    (h : DataW.trod enc Tryz.prog w base spare held fuel 32 [v] = some x) (hwt : ∀ n ∈ x.1.weights Tryz.prog 32, n ≤ reachBytes) :
    ∃ ks : List Kep, Kp (fun k => k < w.heap.size) w v ks ∧ (∀ k ∈ ks, k.2.length ≤ 140737488351232) ∧ ks.length * 32 ≤ 140737488351232 := by
 rcases open_slice Tryz.underlying32 h with ⟨hcs, hx⟩ | ⟨a, len, cap, m, n, D, Pl, hcs, hb, hl, hm, hmm, hx, hel⟩
 ·simp at hcs
  subst hcs hx
  exact ⟨[], ⟨none, 0, rfl, Nat.le_refl _, Nat.zero_le _, fun i hi => by simp at hi⟩, fun o ho => by simp at ho, by simp⟩
 ·simp at hcs
  have hlm : len ≤ m := by split at hmm <;> omega
  have each : ∀ i, ∃ o : Kep, i < len → o.2.length ≤ 140737488351232 ∧ -9223372036854775808 ≤ o.1 ∧ o.1 ≤ 9223372036854775807 ∧ ∃ b off vj, a = ⟨b, off, none⟩ ∧ w.cell? ⟨b, off + i * 2, none⟩ = some (.int .i64 o.1) ∧ w.cell? ⟨b, off + i * 2 + 1, none⟩ = some vj ∧ Sl w vj o.2 := by
   intro i
   by_cases hi : i < len
   ·obtain ⟨cs', h1, h2⟩ := hel i (by omega)
    obtain ⟨o1, o2, rfl, q1, q2, q3, q4⟩ := open_keep h2 (fun n hn => hwt n (by
     rw [hx]
     simp only [DataW.weights, Tryz.underlying32, List.mem_cons, List.mem_append]
     exact Or.inr (Or.inl (weightsAll_at (i := i) (d := D i) (by simp [hi]) n hn))))
    rw [cellsKeep] at h1
    obtain ⟨b, off, sp⟩ := a
    have hsp : sp = none := by
     obtain ⟨cs0, g1, g2⟩ := hel 0 (by omega)
     have g3 := (World.cells?_some g1).2.2 0 (by rw [cellsKeep]; omega)
     have g4 : cs0.length = 2 := by
      have := (World.cells?_some g1).2.1
      rw [cellsKeep] at this
      first | exact this | omega
     simp [Addr.add, g4] at g3
     exact World.cell?_spot g3
    subst hsp
    have hcell := (World.cells?_some h1).2.2
    rw [addr_add] at hcell
    have k0 := hcell 0 (by omega)
    have k1 := hcell 1 (by omega)
    rw [addr_add] at k0 k1
    exact ⟨o1, fun _ => ⟨q4, q1, q2, b, off, o2, rfl, by simpa using k0, by simpa using k1, q3⟩⟩
   ·exact ⟨(0, []), fun h => absurd h hi⟩
  obtain ⟨O, hO⟩ : ∃ O : Nat → Kep, ∀ i, i < len → (O i).2.length ≤ 140737488351232 ∧ -9223372036854775808 ≤ (O i).1 ∧ (O i).1 ≤ 9223372036854775807 ∧ ∃ b off vj, a = ⟨b, off, none⟩ ∧ w.cell? ⟨b, off + i * 2, none⟩ = some (.int .i64 (O i).1) ∧ w.cell? ⟨b, off + i * 2 + 1, none⟩ = some vj ∧ Sl w vj (O i).2 := ⟨fun i => Classical.choose (each i), fun i => Classical.choose_spec (each i)⟩
  have hln : len * 32 ≤ 140737488351232 := by
   have hmem : (((List.range len).map D).length + ((List.range (m - len)).map fun j => D (len + j)).length) * Tryz.prog.bytesOf 88 ∈ x.1.weights Tryz.prog 32 := by
    rw [hx]; simp [DataW.weights, Tryz.underlying32]
   have h4 := hwt _ hmem
   have hbk : Tryz.prog.bytesOf 88 = 32 := by kernel_rfl
   rw [hbk] at h4
   simp only [List.length_map, List.length_range, reachBytes] at h4
   omega
  refine ⟨(List.range len).map O, ⟨some a, cap, by simp [hcs], by simp; omega, by omega, ?_⟩, ?_, by simpa using hln⟩
  ·intro i hi
   simp at hi
   obtain ⟨_, n0, n1, b, off, vj, rfl, q1, q2, q3⟩ := hO i (by omega)
   exact ⟨b, off, vj, rfl, lt_of_cell q1, by simpa using q1, q2, by simpa using q3, sin_of q3, by simpa using n0, by simpa using n1⟩
  ·intro o ho
   simp only [List.mem_map, List.mem_range] at ho
   obtain ⟨i, hi, rfl⟩ := ho
   exact (hO i (by omega)).1
theorem open_fate {H : Type} {enc : TypeId × Value → H} {w : World} {base : Nat} {spare : Nat → Bool} {held : Bool} {fuel : Nat} {cs : List Value} {y : DataW H × List MemPlace}
    (h : DataW.trod enc Tryz.prog w base spare held fuel 34 cs = some y) (hwt : ∀ n ∈ y.1.weights Tryz.prog 34, n ≤ reachBytes) :
    ∃ (d : Int) (v : Value) (ks : List Kep), cs = [.int .i64 d, v] ∧ -9223372036854775808 ≤ d ∧ d ≤ 9223372036854775807 ∧ Kp (fun k => k < w.heap.size) w v ks ∧ (∀ k ∈ ks, k.2.length ≤ 140737488351232) ∧ ks.length * 32 ≤ 140737488351232 := by
 obtain ⟨y0, y1, n, hy, hlen, h0, h1⟩ := trod_struct2 Tryz.underlying34 h
 rw [cellsFate] at hlen
 obtain ⟨c0, c1, rfl⟩ : ∃ c0 c1, cs = [c0, c1] := by
  match cs, hlen with
  | [c0, c1], _ => exact ⟨c0, c1, rfl⟩
 simp only [cellsInt, cellsKeeps] at h0 h1
 obtain ⟨a0, e0, _, w0⟩ := DataW.trod_int Tryz.underlying3 h0
 simp at e0
 subst e0
 obtain ⟨ks, hk, hl, hn⟩ := open_keeps (v := c1) (by simpa using h1) (fun n hn => hwt n (by
  rw [hy]
  simp only [DataW.weights, Tryz.underlying34]
  exact DataW.weights_mem_each (j := 1) (t := 32) (d := y1.1) rfl rfl _ hn))
 exact ⟨a0, c1, ks, rfl, (i64_bounds w0).1, (i64_bounds w0).2, hk, hl, hn⟩
set_option maxRecDepth 100000
theorem open_fault {H : Type} {enc : TypeId × Value → H} {w : World} {base : Nat} {spare : Nat → Bool} {held : Bool} {fuel : Nat} {cs : List Value} {y : DataW H × List MemPlace}
    (h : DataW.trod enc Tryz.prog w base spare held fuel 118 cs = some y) :
    ∃ t : Ft, cs = [.int .i64 t.1, .int .i64 t.2.1, .int .i64 t.2.2] := by
 obtain ⟨y0, y1, y2, n, _, hlen, h0, h1, h2⟩ := trod_struct3 Tryz.underlying118 h
 rw [cellsFault] at hlen
 obtain ⟨c0, c1, c2, rfl⟩ : ∃ c0 c1 c2, cs = [c0, c1, c2] := by
  match cs, hlen with
  | [c0, c1, c2], _ => exact ⟨c0, c1, c2, rfl⟩
 simp only [cellsI64, cellsInt] at h0 h1 h2
 obtain ⟨a0, e0, _, w0⟩ := DataW.trod_int Tryz.underlying2 h0
 obtain ⟨a1, e1, _, w1⟩ := DataW.trod_int Tryz.underlying3 h1
 obtain ⟨a2, e2, _, w2⟩ := DataW.trod_int Tryz.underlying3 h2
 simp at e0 e1 e2
 subst e0 e1 e2
 exact ⟨(a0, a1, a2), rfl⟩
theorem open_faults {H : Type} {enc : TypeId × Value → H} {w : World} {base : Nat} {spare : Nat → Bool} {held : Bool} {fuel : Nat} {v : Value} {x : DataW H × List MemPlace}
    (h : DataW.trod enc Tryz.prog w base spare held fuel 31 [v] = some x) (hwt : ∀ n ∈ x.1.weights Tryz.prog 31, n ≤ reachBytes) : ∃ fs : List Ft, Fts w v fs ∧ fs.length * 24 ≤ 140737488351232 := by
 rcases open_slice Tryz.underlying31 h with ⟨hcs, hx⟩ | ⟨a, len, cap, m, n, D, Pl, hcs, hb, hl, hm, hmm, hx, hel⟩
 ·simp at hcs
  subst hcs hx
  exact ⟨[], ⟨none, 0, rfl, Nat.le_refl _, Nat.zero_le _, fun i hi => by simp at hi⟩, by simp⟩
 ·simp at hcs
  have hlm : len ≤ m := by split at hmm <;> omega
  have each : ∀ i, ∃ o : Ft, i < len → ∃ b off, a = ⟨b, off, none⟩ ∧ w.cell? ⟨b, off + i * 3, none⟩ = some (.int .i64 o.1) ∧ w.cell? ⟨b, off + i * 3 + 1, none⟩ = some (.int .i64 o.2.1) ∧ w.cell? ⟨b, off + i * 3 + 2, none⟩ = some (.int .i64 o.2.2) := by
   intro i
   by_cases hi : i < len
   ·obtain ⟨cs', h1, h2⟩ := hel i (by omega)
    obtain ⟨o1, rfl⟩ := open_fault h2
    rw [cellsFault] at h1
    obtain ⟨b, off, sp⟩ := a
    have hsp : sp = none := by
     obtain ⟨cs0, g1, g2⟩ := hel 0 (by omega)
     obtain ⟨_, rfl⟩ := open_fault g2
     rw [cellsFault] at g1
     have g3 := (World.cells?_some g1).2.2 0 (by omega)
     simp [Addr.add] at g3
     exact World.cell?_spot g3
    subst hsp
    have hcell := (World.cells?_some h1).2.2
    rw [addr_add] at hcell
    have k0 := hcell 0 (by omega)
    have k1 := hcell 1 (by omega)
    have k2 := hcell 2 (by omega)
    rw [addr_add] at k0 k1 k2
    exact ⟨o1, fun _ => ⟨b, off, rfl, by simpa using k0, by simpa using k1, by simpa using k2⟩⟩
   ·exact ⟨(0, 0, 0), fun h => absurd h hi⟩
  obtain ⟨O, hO⟩ : ∃ O : Nat → Ft, ∀ i, i < len → ∃ b off, a = ⟨b, off, none⟩ ∧ w.cell? ⟨b, off + i * 3, none⟩ = some (.int .i64 (O i).1) ∧ w.cell? ⟨b, off + i * 3 + 1, none⟩ = some (.int .i64 (O i).2.1) ∧ w.cell? ⟨b, off + i * 3 + 2, none⟩ = some (.int .i64 (O i).2.2) := ⟨fun i => Classical.choose (each i), fun i => Classical.choose_spec (each i)⟩
  have hln : len * 24 ≤ 140737488351232 := by
   have hmem : (((List.range len).map D).length + ((List.range (m - len)).map fun j => D (len + j)).length) * Tryz.prog.bytesOf 118 ∈ x.1.weights Tryz.prog 31 := by
    rw [hx]; simp [DataW.weights, Tryz.underlying31]
   have h4 := hwt _ hmem
   have hbk : Tryz.prog.bytesOf 118 = 24 := by kernel_rfl
   rw [hbk] at h4
   simp only [List.length_map, List.length_range, reachBytes] at h4
   omega
  refine ⟨(List.range len).map O, ⟨some a, cap, by simp [hcs], by simp; omega, by omega, ?_⟩, by simpa using hln⟩
  intro i hi
  simp at hi
  obtain ⟨b, off, rfl, q1, q2, q3⟩ := hO i (by omega)
  exact ⟨b, off, rfl, by simpa using q1, by simpa using q2, by simpa using q3⟩
structure Dop where
 kind : Int
 sec : Bool
 nm : ByteArray
 tn : ByteArray
 vd : Value
 dat : List UInt8
 off : Int
 n : Int
 vf : Value
 fs : List Ft
 dir : Int
 vk : Value
 ks : List Kep
def Dop.cells (o : Dop) : List Value := [.int .i64 o.kind, .bool o.sec, .string o.nm, .string o.tn, o.vd, .int .i64 o.off, .int .i64 o.n, o.vf, .int .i64 o.dir, o.vk]
def i64In (n : Int) : Prop := -9223372036854775808 ≤ n ∧ n ≤ 9223372036854775807
structure DopOk (w : World) (o : Dop) : Prop where
 kind : i64In o.kind
 nm : o.nm.size ≤ 140737488351232
 tn : o.tn.size ≤ 140737488351232
 dat : Sl w o.vd o.dat
 datl : o.dat.length ≤ 140737488351232
 off : i64In o.off
 n : i64In o.n
 fs : Fts w o.vf o.fs
 fsl : o.fs.length * 24 ≤ 140737488351232
 dir : i64In o.dir
 ks : Kp (fun k => k < w.heap.size) w o.vk o.ks
 ksl : ∀ k ∈ o.ks, k.2.length ≤ 140737488351232
 ksn : o.ks.length * 32 ≤ 140737488351232
theorem cellsOp : Tryz.prog.cellsOf 36 = 10 := by kernel_rfl
theorem cellsOne : Tryz.prog.cellsOf 4 = 1 ∧ Tryz.prog.cellsOf 9 = 1 ∧ Tryz.prog.cellsOf 31 = 1 := ⟨by kernel_rfl, by kernel_rfl, by kernel_rfl⟩
theorem opFields : ∃ fs, Tryz.prog.underlying 36 = some (.struct fs) ∧ (fs.map fun f : Field => (f.type, f.offset)) = #[(3, 0), (4, 1), (9, 2), (9, 3), (30, 4), (3, 5), (3, 6), (31, 7), (34, 8)] := ⟨_, Tryz.underlying36, by kernel_rfl⟩
theorem open_dop {H : Type} {enc : TypeId × Value → H} {w : World} {base : Nat} {spare : Nat → Bool} {held : Bool} {fuel : Nat} {cs : List Value} {y : DataW H × List MemPlace}
    (h : DataW.trod enc Tryz.prog w base spare held fuel 36 cs = some y) (hwt : ∀ n ∈ y.1.weights Tryz.prog 36, n ≤ reachBytes) : ∃ o : Dop, cs = o.cells ∧ DopOk w o := by
 obtain ⟨fs, hfs, hmap⟩ := opFields
 obtain ⟨xs, m, hm, hxe, hlen, hxl, hel⟩ := DataW.trod_struct hfs h
 have hfsz : fs.size = 9 := by have := congrArg Array.size hmap; simpa using this
 have hpt : ∀ (i : Nat) (t : TypeId) (o : Nat), (fs.map fun f : Field => (f.type, f.offset))[i]? = some (t, o) → ∃ y, DataW.trod enc Tryz.prog w base spare held m t ((cs.drop o).take (Tryz.prog.cellsOf t)) = some y ∧ ∀ n ∈ y.1.weights Tryz.prog t, n ≤ reachBytes := by
  intro i t o hf
  rw [Array.getElem?_map] at hf
  obtain ⟨f, e1, e2⟩ := Option.map_eq_some_iff.1 hf
  simp only [Prod.mk.injEq] at e2
  obtain ⟨e2, e3⟩ := e2
  have hi : i < fs.size := (Array.getElem?_eq_some_iff.1 e1).1
  have hE := hel i f e1
  rw [e2, e3, List.getElem?_eq_getElem (by omega)] at hE
  refine ⟨_, hE, fun n hn => hwt n ?_⟩
  rw [hxe]
  simp only [DataW.weights, hfs]
  exact DataW.weights_mem_each (j := i) (t := t) (d := (xs[i]).1) (by rw [List.getElem?_map, Array.getElem?_toList, e1]; simp [e2]) (by rw [List.getElem?_map, List.getElem?_eq_getElem (by omega)]; rfl) n hn
 rw [hmap] at hpt
 rw [cellsOp] at hlen
 obtain ⟨c0, c1, c2, c3, c4, c5, c6, c7, c8, c9, rfl⟩ : ∃ c0 c1 c2 c3 c4 c5 c6 c7 c8 c9, cs = [c0, c1, c2, c3, c4, c5, c6, c7, c8, c9] := by
  match cs, hlen with
  | [c0, c1, c2, c3, c4, c5, c6, c7, c8, c9], _ => exact ⟨c0, c1, c2, c3, c4, c5, c6, c7, c8, c9, rfl⟩
 obtain ⟨y0, t0, _⟩ := hpt 0 _ _ rfl
 obtain ⟨y1, t1, _⟩ := hpt 1 _ _ rfl
 obtain ⟨y2, t2, u2⟩ := hpt 2 _ _ rfl
 obtain ⟨y3, t3, u3⟩ := hpt 3 _ _ rfl
 obtain ⟨y4, t4, u4⟩ := hpt 4 _ _ rfl
 obtain ⟨y5, t5, _⟩ := hpt 5 _ _ rfl
 obtain ⟨y6, t6, _⟩ := hpt 6 _ _ rfl
 obtain ⟨y7, t7, u7⟩ := hpt 7 _ _ rfl
 obtain ⟨y8, t8, u8⟩ := hpt 8 _ _ rfl
 obtain ⟨k1, k2, k3⟩ := cellsOne
 simp only [cellsInt, k1, k2, k3, cellsBs, cellsFate] at t0 t1 t2 t3 t4 t5 t6 t7 t8
 obtain ⟨a0, e0, _, w0⟩ := DataW.trod_int Tryz.underlying3 t0
 obtain ⟨a1, e1, _⟩ := DataW.trod_bool Tryz.underlying4 t1
 obtain ⟨a2, e2, x2, w2⟩ := DataW.trod_string Tryz.underlying9 t2
 obtain ⟨a3, e3, x3, w3⟩ := DataW.trod_string Tryz.underlying9 t3
 obtain ⟨a5, e5, _, w5⟩ := DataW.trod_int Tryz.underlying3 t5
 obtain ⟨a6, e6, _, w6⟩ := DataW.trod_int Tryz.underlying3 t6
 simp at e0 e1 e2 e3 e5 e6
 subst e0 e1 e2 e3 e5 e6
 have h2 : a2.size ≤ 140737488351232 := by
  have := u2 a2.data.toList.length (by rw [x2]; simp [DataW.weights])
  simp only [reachBytes] at this
  exact Nat.le_trans (Nat.le_of_eq rfl) (by simpa using this)
 have h3 : a3.size ≤ 140737488351232 := by
  have := u3 a3.data.toList.length (by rw [x3]; simp [DataW.weights])
  simp only [reachBytes] at this
  exact Nat.le_trans (Nat.le_of_eq rfl) (by simpa using this)
 obtain ⟨l4, s4, d4⟩ := open_bytes (v := c4) (by simpa using t4)
 have hl4 : l4.length ≤ 140737488351232 := by
  rcases d4 with ⟨_, rfl⟩ | ⟨elems, sp, g1, g2⟩
  ·simp
  ·have hm : (elems.length + sp.length) * Tryz.prog.bytesOf 5 ∈ y4.1.weights Tryz.prog 30 := by
     rw [g1]; simp [DataW.weights, Tryz.underlying30]
   have h4 := u4 _ hm
   rw [bytesU8] at h4
   simp only [reachBytes] at h4
   omega
 obtain ⟨f7, s7, n7⟩ := open_faults (v := c7) (by simpa using t7) u7
 obtain ⟨d8, v8, k8, e8, q1, q2, q3, q4, q5⟩ := open_fate (cs := [c8, c9]) (by simpa using t8) u8
 simp at e8
 obtain ⟨rfl, rfl⟩ := e8
 exact ⟨⟨a0, a1, a2, a3, c4, l4, a5, a6, c7, f7, d8, c9, k8⟩, rfl, ⟨i64_bounds w0, h2, h3, s4, hl4, i64_bounds w5, i64_bounds w6, s7, n7, ⟨q1, q2⟩, q3, q4, q5⟩⟩
def AtDops (w : World) (ao : Option Addr) (os : List Dop) : Prop :=
 ∀ i (h : i < os.length), ∃ b off, ao = some ⟨b, off, none⟩ ∧ ∀ j u, (os[i]).cells[j]? = some u → w.cell? ⟨b, off + i * 10 + j, none⟩ = some u
theorem open_dops {H : Type} {enc : TypeId × Value → H} {w : World} {base : Nat} {spare : Nat → Bool} {held : Bool} {fuel : Nat} {v : Value} {x : DataW H × List MemPlace}
    (h : DataW.trod enc Tryz.prog w base spare held fuel 22 [v] = some x) (hwt : ∀ n ∈ x.1.weights Tryz.prog 22, n ≤ reachBytes) :
    ∃ (os : List Dop) (ao : Option Addr) (cap : Nat), v = .slice ao os.length cap ∧ os.length ≤ cap ∧ cap ≤ maxLen ∧ AtDops w ao os ∧ (∀ o ∈ os, DopOk w o) := by
 rcases open_slice Tryz.underlying22 h with ⟨hcs, hx⟩ | ⟨a, len, cap, m, n, D, Pl, hcs, hb, hl, hm, hmm, hx, hel⟩
 ·simp at hcs
  subst hcs hx
  exact ⟨[], none, 0, rfl, Nat.le_refl _, Nat.zero_le _, fun i hi => by simp at hi, fun o ho => by simp at ho⟩
 ·simp at hcs
  have hlm : len ≤ m := by split at hmm <;> omega
  have each : ∀ i, ∃ o : Dop, i < len → DopOk w o ∧ ∃ b off, a = ⟨b, off, none⟩ ∧ ∀ j u, o.cells[j]? = some u → w.cell? ⟨b, off + i * 10 + j, none⟩ = some u := by
   intro i
   by_cases hi : i < len
   ·obtain ⟨cs', h1, h2⟩ := hel i (by omega)
    obtain ⟨o, ho, hok⟩ := open_dop h2 (fun n hn => hwt n (by
     rw [hx]
     simp only [DataW.weights, Tryz.underlying22, List.mem_cons, List.mem_append]
     exact Or.inr (Or.inl (weightsAll_at (i := i) (d := D i) (by simp [hi]) n hn))))
    rw [cellsOp] at h1
    obtain ⟨b, off, sp⟩ := a
    have hsp : sp = none := by
     obtain ⟨cs0, g1, g2⟩ := hel 0 (by omega)
     have g3 := (World.cells?_some g1).2.2 0 (by rw [cellsOp]; omega)
     have g4 : cs0.length = 10 := by
      have := (World.cells?_some g1).2.1
      rw [cellsOp] at this
      first | exact this | omega
     simp [Addr.add, g4] at g3
     exact World.cell?_spot g3
    subst hsp
    have hcell := (World.cells?_some h1).2.2
    rw [addr_add] at hcell
    refine ⟨o, fun _ => ⟨hok, b, off, rfl, fun j u hu => ?_⟩⟩
    have hj : j < 10 := by
     have := (List.getElem?_eq_some_iff.1 hu).1
     simpa [Dop.cells] using this
    have k0 := hcell j (by omega)
    rw [addr_add] at k0
    rw [k0, ← hu]
    simp [ho]
   ·exact ⟨⟨0, false, ⟨#[]⟩, ⟨#[]⟩, .slice none 0 0, [], 0, 0, .slice none 0 0, [], 0, .slice none 0 0, []⟩, fun h => absurd h hi⟩
  obtain ⟨O, hO⟩ : ∃ O : Nat → Dop, ∀ i, i < len → DopOk w (O i) ∧ ∃ b off, a = ⟨b, off, none⟩ ∧ ∀ j u, (O i).cells[j]? = some u → w.cell? ⟨b, off + i * 10 + j, none⟩ = some u := ⟨fun i => Classical.choose (each i), fun i => Classical.choose_spec (each i)⟩
  refine ⟨(List.range len).map O, some a, cap, by simp [hcs], by simp; omega, by omega, ?_, ?_⟩
  ·intro i hi
   simp at hi
   obtain ⟨_, b, off, rfl, q1⟩ := hO i (by omega)
   exact ⟨b, off, rfl, fun j u hu => q1 j u (by simpa using hu)⟩
  ·intro o ho
   simp only [List.mem_map, List.mem_range] at ho
   obtain ⟨i, hi, rfl⟩ := ho
   exact (hO i (by omega)).1
end Go.Proofs.YtjehpijjneghpaaGreat.Dk
namespace Go.Proofs.YtjehpijjneghpaaGreat.Dk
open Go.RowKit Go.Maps Go.Sort Go.Shelf Go.Proofs.YtjehpijjneghpaaGreat.Nm
def DS.cs (S : DS) : Array Value := #[.int .i64 S.c0, .int .i64 S.c1, .int .i64 S.c2, .int .i64 S.c3, .int .i64 S.c4, .int .i64 S.c5, .int .i64 S.c6, .int .i64 S.c7, .int .i64 S.c8]
theorem count_dsk {w : World} {b : Nat} {S : DS} {O : Nat → Prop} (h : DskE w b S O) :
    Calls Tryz.prog 65 #[.pointer (some ⟨b, 0, none⟩)] w fun e w' => e = .returned (.agg S.cs) ∧ Below w.heap.size w w' := by
 obtain ⟨f, g, pd, am, VB, VL, h⟩ := h
 have hb := h.dk.cells
 have hB := hide (box_below w (.cells S.cs 96))
 have hb1 : (w.alloc (.cells #[.int .i64 0, .int .i64 0, .int .i64 0, .int .i64 0, .int .i64 0, .int .i64 0, .int .i64 0, .int .i64 0, .int .i64 0] 96)).heap[b]? = some (.cells (dcells (S.dc f g pd am)) TD (0, 0)) := ((box_below w _).block b (heap_lt hb)).trans hb
 have x0 : (w.alloc (.cells #[.int .i64 0, .int .i64 0, .int .i64 0, .int .i64 0, .int .i64 0, .int .i64 0, .int .i64 0, .int .i64 0, .int .i64 0] 96)).cell? ⟨b, 6, none⟩ = some (.int .i64 S.c0) := by simp [World.cell?, hb1, dcells, DS.dc]
 have x1 : (w.alloc (.cells #[.int .i64 0, .int .i64 0, .int .i64 0, .int .i64 0, .int .i64 0, .int .i64 0, .int .i64 0, .int .i64 0, .int .i64 0] 96)).cell? ⟨b, 7, none⟩ = some (.int .i64 S.c1) := by simp [World.cell?, hb1, dcells, DS.dc]
 have x2 : (w.alloc (.cells #[.int .i64 0, .int .i64 0, .int .i64 0, .int .i64 0, .int .i64 0, .int .i64 0, .int .i64 0, .int .i64 0, .int .i64 0] 96)).cell? ⟨b, 8, none⟩ = some (.int .i64 S.c2) := by simp [World.cell?, hb1, dcells, DS.dc]
 have x3 : (w.alloc (.cells #[.int .i64 0, .int .i64 0, .int .i64 0, .int .i64 0, .int .i64 0, .int .i64 0, .int .i64 0, .int .i64 0, .int .i64 0] 96)).cell? ⟨b, 9, none⟩ = some (.int .i64 S.c3) := by simp [World.cell?, hb1, dcells, DS.dc]
 have x4 : (w.alloc (.cells #[.int .i64 0, .int .i64 0, .int .i64 0, .int .i64 0, .int .i64 0, .int .i64 0, .int .i64 0, .int .i64 0, .int .i64 0] 96)).cell? ⟨b, 10, none⟩ = some (.int .i64 S.c4) := by simp [World.cell?, hb1, dcells, DS.dc]
 have x5 : (w.alloc (.cells #[.int .i64 0, .int .i64 0, .int .i64 0, .int .i64 0, .int .i64 0, .int .i64 0, .int .i64 0, .int .i64 0, .int .i64 0] 96)).cell? ⟨b, 11, none⟩ = some (.int .i64 S.c5) := by simp [World.cell?, hb1, dcells, DS.dc]
 have x6 : (w.alloc (.cells #[.int .i64 0, .int .i64 0, .int .i64 0, .int .i64 0, .int .i64 0, .int .i64 0, .int .i64 0, .int .i64 0, .int .i64 0] 96)).cell? ⟨b, 12, none⟩ = some (.int .i64 S.c6) := by simp [World.cell?, hb1, dcells, DS.dc]
 have x7 : (w.alloc (.cells #[.int .i64 0, .int .i64 0, .int .i64 0, .int .i64 0, .int .i64 0, .int .i64 0, .int .i64 0, .int .i64 0, .int .i64 0] 96)).cell? ⟨b, 13, none⟩ = some (.int .i64 S.c7) := by simp [World.cell?, hb1, dcells, DS.dc]
 have x8 : (w.alloc (.cells #[.int .i64 0, .int .i64 0, .int .i64 0, .int .i64 0, .int .i64 0, .int .i64 0, .int .i64 0, .int .i64 0, .int .i64 0] 96)).cell? ⟨b, 14, none⟩ = some (.int .i64 S.c8) := by simp [World.cell?, hb1, dcells, DS.dc]
 clear hb1 hb h
 unfold DS.cs at hB ⊢
 go_enter Tryz.func65, Tryz.ntmps65
 go_wp2_with fail
 go_returns
 exact ⟨rfl, hB.out⟩
theorem pending_dsk {w : World} {b : Nat} {S : DS} {O : Nat → Prop} (h : DskE w b S O) :
    Calls Tryz.prog 22 #[.pointer (some ⟨b, 0, none⟩)] w fun e w' => e = .returned (.int .i64 (S.P.length : Int)) ∧ w' = w := by
 obtain ⟨f, g, pd, am, VB, VL, h⟩ := h
 have c4 : w.cell? ⟨b, 4, none⟩ = some pd := h.dk.box.cells.2.2.2.2.1
 have hr := h.dk.pd.row
 obtain ⟨ao, ca, e, _, r3, r4, _⟩ := hr
 rw [List.length_map] at e r3
 have e' : pd = .slice ao S.P.length ca := e
 subst e'
 clear h
 go_enter Tryz.func22, Tryz.ntmps22
 go_wp2_with fail
 go_ret
 exact ⟨rfl, rfl⟩
abbrev Fil2 := List (List UInt8 × List UInt8)
def fcells : Fil2 → List Value → List Value
 | l :: r, u :: us => encStr l.1 :: u :: fcells r us
 | _, _ => []
theorem fcells_snoc : ∀ (L : Fil2) (vs : List Value) (l : List UInt8 × List UInt8) (u : Value), vs.length = L.length → fcells (L ++ [l]) (vs ++ [u]) = fcells L vs ++ [encStr l.1, u]
 | [], [], l, u, _ => rfl
 | a :: r, b :: s, l, u, h => by
  simp only [List.cons_append, fcells]
  rw [fcells_snoc r s l u (by simpa using h)]
 | [], _ :: _, _, _, h => by simp at h
 | _ :: _, [], _, _, h => by simp at h
structure FlI (B : Nat) (w : World) (v : Value) (L : Fil2) (vs : List Value) : Prop where
 len : vs.length = L.length
 row : w.ownsRow B 61 2 v L.length (fcells L vs)
 ob : ∀ (i : Nat) (l : List UInt8 × List UInt8) (u : Value), vs[i]? = some u → L[i]? = some l → Ob B w u l.2
 ap : ∀ (i j : Nat) (u u' : Value), i ≠ j → vs[i]? = some u → vs[j]? = some u' → ∀ k, u.ownBlock = some k → u'.ownBlock ≠ some k
 no : ∀ (i : Nat) (u : Value), vs[i]? = some u → ∀ k, u.ownBlock = some k → v.ownBlock ≠ some k
theorem FlI.nil (B : Nat) (w : World) : FlI B w (.slice none 0 0) [] [] := ⟨rfl, World.ownsRow_nil _ _ _ _, fun i l u h => by simp at h, fun i j u u' _ h => by simp at h, fun i u h => by simp at h⟩
theorem row_but {B : Nat} {X : Nat → Prop} {A C : World} {T : TypeId} {n k : Nat} {v : Value} {xs : List Value} (h : A.ownsRow B T k v n xs) (hb : But X A C) (hx : ∀ j, v.ownBlock = some j → ¬ X j) : C.ownsRow B T k v n xs := by
 refine ⟨h.1, ?_⟩
 rcases h.2 with h | ⟨g, cap, cur, rfl, hg, hh, r⟩
 ·exact .inl h
 ·exact .inr ⟨g, cap, cur, rfl, hg, hb.at hh (hx g rfl), r⟩
theorem FlI.get {B : Nat} {w : World} {v : Value} {L : Fil2} {vs : List Value} (h : FlI B w v L vs) {i : Nat} {u : Value} (hu : vs[i]? = some u) : ∃ l, L[i]? = some l ∧ Ob B w u l.2 := by
 have hi : i < L.length := by rw [← h.len]; exact (List.getElem?_eq_some_iff.1 hu).1
 exact ⟨L[i], List.getElem?_eq_getElem hi, h.ob i _ u hu (List.getElem?_eq_getElem hi)⟩
theorem FlI.but {B : Nat} {X : Nat → Prop} {w w' : World} {v : Value} {L : Fil2} {vs : List Value} (h : FlI B w v L vs) (hb : But X w w') (hx : ∀ k, X k → k < B ∨ w.heap.size ≤ k) : FlI B w' v L vs := by
 have hv : ∀ j, v.ownBlock = some j → ¬ X j := fun j hj c => by
  obtain ⟨q1, q2⟩ := World.ownsRow.lt h.row j hj
  rcases hx j c with z | z <;> omega
 refine ⟨h.len, row_but h.row hb hv, fun i l u hu hl => (h.ob i l u hu hl).but hb (fun k hk c => ?_), h.ap, h.no⟩
 obtain ⟨q1, q2⟩ := (h.ob i l u hu hl).lt k hk
 rcases hx k c with z | z <;> omega
theorem FlI.below {B : Nat} {w w' : World} {v : Value} {L : Fil2} {vs : List Value} (h : FlI B w v L vs) (hb : Below w.heap.size w w') : FlI B w' v L vs := h.but (But.of_below hb fun _ => False) (fun _ c => c.elim)
theorem FlI.low {B C : Nat} {w : World} {v : Value} {L : Fil2} {vs : List Value} (h : FlI B w v L vs) (hb : C ≤ B) : FlI C w v L vs := ⟨h.len, ownsRow_base_a h.row hb, fun i l u hu hl => (h.ob i l u hu hl).low hb, h.ap, h.no⟩
theorem FlI.snoc {B : Nat} {w wc w' : World} {v v' : Value} {L : Fil2} {vs : List Value} {l : List UInt8 × List UInt8} {u : Value} (h : FlI B w v L vs) (hB : B ≤ w.heap.size) (hu : Ob w.heap.size wc u l.2) (hbc : Below w.heap.size w wc)
    (hr : w'.ownsRow B 61 2 v' (L.length + 1) (fcells L vs ++ [encStr l.1, u])) (hg : wc.grownBy w' v.ownBlock) (hv : v'.ownBlock = v.ownBlock ∨ ∃ k, v'.ownBlock = some k ∧ wc.heap.size ≤ k) : FlI B w' v' (L ++ [l]) (vs ++ [u]) := by
 have hGb := But.of_grownBy (X := fun k => v.ownBlock = some k) hg fun k e => e
 have h1 := h.below hbc
 have vlt : ∀ k, v.ownBlock = some k → k < w.heap.size := fun k hk => (World.ownsRow.lt h.row k hk).2
 have cases_u : ∀ i x, (vs ++ [u])[i]? = some x → (i < vs.length ∧ vs[i]? = some x) ∨ (i = vs.length ∧ x = u) := by
  intro i x hx
  rcases Nat.lt_or_ge i vs.length with q | q
  ·rw [List.getElem?_append_left q] at hx; exact .inl ⟨q, hx⟩
  ·rw [List.getElem?_append_right q] at hx
   have : i - vs.length < 1 := by
    have := (List.getElem?_eq_some_iff.1 hx).1
    simpa using this
   have e : i = vs.length := by omega
   subst e
   simp at hx
   exact .inr ⟨rfl, hx.symm⟩
 have blk : ∀ i x, (vs ++ [u])[i]? = some x → ∀ k, x.ownBlock = some k → (i < vs.length ∧ k < w.heap.size) ∨ (i = vs.length ∧ w.heap.size ≤ k ∧ k < wc.heap.size) := by
  intro i x hx k hk
  rcases cases_u i x hx with ⟨q, hx'⟩ | ⟨q, rfl⟩
  ·obtain ⟨l', _, ho⟩ := h.get hx'
   exact .inl ⟨q, (ho.lt k hk).2⟩
  ·exact .inr ⟨q, hu.lt k hk⟩
 refine ⟨by simp [h.len], ?_, ?_, ?_, ?_⟩
 ·rw [fcells_snoc L vs l u h.len, List.length_append, List.length_singleton]; exact hr
 ·intro i m x hx hm
  rcases cases_u i x hx with ⟨q, hx'⟩ | ⟨q, rfl⟩
  ·rw [List.getElem?_append_left (by rw [← h.len]; exact q)] at hm
   exact (h1.ob i m x hx' hm).but hGb (fun k hk c => h.no i x hx' k hk c)
  ·rw [q, List.getElem?_append_right (by rw [h.len]; exact Nat.le_refl _), h.len] at hm
   simp at hm
   subst hm
   refine (hu.low hB).but hGb (fun k hk c => ?_)
   have := (hu.lt k hk).1
   have := vlt k c
   omega
 ·intro i j x y hij hx hy k hk c
  rcases cases_u i x hx with ⟨q, hx'⟩ | ⟨q, rfl⟩
  ·rcases cases_u j y hy with ⟨q2, hy'⟩ | ⟨q2, rfl⟩
   ·exact h.ap i j x y hij hx' hy' k hk c
   ·obtain ⟨l', _, ho⟩ := h.get hx'
    have := (ho.lt k hk).2
    have := (hu.lt k c).1
    omega
  ·rcases cases_u j y hy with ⟨q2, hy'⟩ | ⟨q2, rfl⟩
   ·obtain ⟨l', _, ho⟩ := h.get hy'
    have := (ho.lt k c).2
    have := (hu.lt k hk).1
    omega
   ·omega
 ·intro i x hx k hk c
  rcases hv with e | ⟨k', e, hk'⟩
  ·rw [e] at c
   rcases cases_u i x hx with ⟨q, hx'⟩ | ⟨q, rfl⟩
   ·exact h.no i x hx' k hk c
   ·have := (hu.lt k hk).1
    have := vlt k c
    omega
  ·rw [e] at c
   simp at c
   have hz := hbc.size
   rcases blk i x hx k hk with ⟨_, z⟩ | ⟨_, _, z⟩ <;> omega
theorem infoFile : (Tryz.prog.info? 61).map (fun i => (i.zero, i.size, i.bytes)) = some (some (.agg #[.string ⟨#[]⟩, .slice none 0 0]), 2, 40) := by kernel_rfl
def flOf (G : Nat → List UInt8) (l : Dr) (n : List UInt8) : List UInt8 := match get l n with | some p => G p | none => []
def filesOf (G : Nat → List UInt8) (l : Dr) : Fil2 := (nms l).map fun s => (s, flOf G l s)
def DS.files (S : DS) : Fil2 := filesOf (fun p => (S.F p).by_) S.dir
def DS.lasts (S : DS) : Fil2 := filesOf (fun p => (S.F p).la) S.l2
theorem l2_mem {S : DS} {s : List UInt8} {p : Nat} (h : get S.l2 s = some p) : p ∈ S.ps := List.mem_append_left _ (List.mem_map.2 ⟨_, get_mem h, rfl⟩)
theorem files_any {w : World} {b : Nat} {S : DS} {O : Nat → Prop} {f g : Nat} {pd : Value} {am : Option Nat} {VB VL : Nat → Value} (h : Dsk w b S O f g pd am VB VL) (hc : S.c7 < 1000000000) :
    Calls Tryz.prog 23 #[.pointer (some ⟨b, 0, none⟩)] w fun e w' => ∃ v vs, e = .returned v ∧ FlI w.heap.size w' v S.files vs ∧ Below w.heap.size w w' := by
 have hM := made_any w _ _ h.dk.dp
 rw [show madeD (some (S.dc f g pd am)) = true from rfl] at hM
 have hlen := (dir_len h.ok hc).1
 have c2 : w.cell? ⟨b, 2, none⟩ = some (.map (some f)) := h.dk.box.cells.2.2.1
 have M1 := hide h.dk.mf
 have H := hide h
 have hfl : Hid (∀ p s, get S.dir s = some p → p ∈ S.ps) := fun p s hp => DS.mem_dir hp
 have hE : Hid (S.files = (nms S.dir).map fun s => (s, flOf (fun p => (S.F p).by_) S.dir s)) := rfl
 rw [hE.out]
 obtain ⟨l, hl⟩ : ∃ l, S.dir = l := ⟨_, rfl⟩
 rw [hl] at hlen M1 hfl ⊢
 have hN := hide (nms_len l)
 have hmem : Hid (∀ k (hk : k < (nms l).length), ∃ p, get l (nms l)[k] = some p) := fun k hk => nms_get (List.getElem_mem hk)
 obtain ⟨i0, hi, hz0, hz1, hz2⟩ := info_parts infoFile
 replace hi := hide hi
 clear h hE hl
 go_enter Tryz.func23, Tryz.ntmps23
 go_wp2_with (first
  | (go_at_call 79; refine hM.mono ?_; rintro e w1 ⟨rfl, e1⟩; subst w1)
  | (go_at_call 81; refine (names_any f l w M1.out (by omega)).mono ?_; rintro e w2 ⟨v2, rfl, R2, _, B2⟩; have R3 := row_of_owns R2 (by simp); replace B2 := hide B2; obtain ⟨ao, ca, rfl, r2, r3, r4, r5⟩ := R3; rw [List.length_map] at *; replace r5 := hide r5; clear r2 R2))
 obtain ⟨N, hN2⟩ : ∃ N, Hid ((nms l).length = N) := ⟨_, rfl⟩
 rw [hN2.out] at r3 ⊢
 have Q2 : Hid (∃ vs, FlI w2.heap.size w2 (.slice none 0 0) (((nms l).take 0).map fun s => (s, flOf (fun p => (S.F p).by_) l s)) vs ∧ Below w2.heap.size w2 w2) := ⟨[], FlI.nil _ _, Below.refl _ _⟩
 have hN3 : N ≤ 1000000000 := by rw [← hN2.out, hN.out]; omega
 have i4 : (ca : Int) ≤ 9223372036854775807 := by unfold maxLen at r4; omega
 have KW : Hid (∀ q, Below w2.heap.size w2 q → Below w.heap.size w q) := fun q hq => B2.out.trans (hq.mono B2.out.size)
 clear hM hlen r4
 replace hN3 := hide hN3
 go_loopw [3, 15] (fun v6 i wr => ∃ k : Nat, i = .int .i64 k ∧ k ≤ N ∧ Hid (∃ vs, FlI w2.heap.size wr v6 (((nms l).take k).map fun s => (s, flOf (fun p => (S.F p).by_) l s)) vs ∧ Below w2.heap.size w2 wr)) (fun _ i _ => N - (intOf i).toNat)
 case atStart => exact ⟨0, rfl, Nat.zero_le _, Q2.out⟩
 case round =>
  obtain ⟨k, rfl, hk, hQ⟩ := hrel
  obtain ⟨vs, O6, B6⟩ := hQ.out
  clear hQ
  by_cases hlt : k < N
  ·have i1 : (k : Int) < (N : Int) := by omega
   have hkl : k < (nms l).length := by rw [hN2.out]; exact hlt
   obtain ⟨p, hp⟩ := hmem.out k hkl
   obtain ⟨gb, off, rfl, hcl⟩ := r5.out k (by rw [List.length_map]; exact hkl)
   have hcell : wr.cell? ⟨gb, off + k, none⟩ = some (.string (bsOf (nms l)[k])) := by
    rw [B6.cell (p := ⟨gb, off + k, none⟩) (lt_of_cell hcl), hcl, List.getElem_map]; rfl
   have hB := KW.out wr B6
   have Mr : Mp wr f l := M1.out.heap (hB.block _ M1.out.lt)
   have d2 : wr.cell? ⟨b, 2, none⟩ = some (.map (some f)) := by rw [hB.cell (p := ⟨b, 2, none⟩) (lt_of_cell c2)]; exact c2
   have hL := Mr.look (s := bsOf (nms l)[k]) (Mr.nlen (List.getElem_mem hkl)) hp
   have hF := (H.out.below hB).fs.at_ p (hfl.out p _ hp)
   obtain ⟨x0, x1, _⟩ := cells3 hF.box
   have hz : (S.F p).by_.length ≤ 16777216 := by have q1 := H.out.ok.sz p (hfl.out p _ hp); have q2 := hF.le; omega
   obtain ⟨bo, bc, eb, _, _⟩ := hF.b.form
   have hS := hF.b.sl
   rw [eb] at x0 hS
   have hT := clone_bytes wr _ _ hS (by omega)
   have hTL : Hid (flOf (fun p => (S.F p).by_) l (nms l)[k] = (S.F p).by_) := by show _ = _; unfold flOf; rw [hp]
   have hsn : Hid (((nms l).take (k + 1)).map (fun s => (s, flOf (fun p => (S.F p).by_) l s)) = ((nms l).take k).map (fun s => (s, flOf (fun p => (S.F p).by_) l s)) ++ [((nms l)[k], (S.F p).by_)]) := by show _ = _; rw [List.take_succ_eq_append_getElem hkl, List.map_append, ← hTL.out]; rfl
   unfold TM at hL
   have hLl : Hid ((((nms l).take k).map (fun s => (s, flOf (fun p => (S.F p).by_) l s))).length = k) := by show _ = _; rw [List.length_map, List.length_take]; omega
   replace O6 := hide O6
   replace B6 := hide B6
   clear hcl Mr hB hp hTL hF x1 eb hS
   generalize ((nms l).take k).map (fun s => (s, flOf (fun p => (S.F p).by_) l s)) = L at *
   generalize (S.F p).by_ = bl at *
   generalize (nms l)[k] = s at *
   clear hkl hz
   go_wp2_with (first
    | (go_at_call 83; refine hT.mono ?_; rintro e w4 ⟨v4, rfl, U4, B4⟩; obtain ⟨uo, uc, rfl, _, _⟩ := U4.form; replace U4 := hide U4; replace B4 := hide B4; clear hL hT; have N5 := hide (heap_alloc_new w4 (.cells #[.string (bsOf s), .slice uo bl.length uc] 61)); have O5 : Hid (FlI w2.heap.size (w4.alloc (.cells #[.string (bsOf s), .slice uo bl.length uc] 61)) u3 L vs) := hide (O6.out.below (B4.out.trans ((box_below w4 (.cells #[.string (bsOf s), .slice uo bl.length uc] 61)).mono B4.out.size))))
    | (at_builtin; refine wpList_append_lies _ rfl (.tmp 19) (.tmp 32) 57 rfl w2.heap.size 61 i0 (.agg #[.string ⟨#[]⟩, .slice none 0 0]) 2 40 Tryz.underlying57 hi.out hz0 hz1 hz2 rfl (by decide) u3 L.length (fcells L vs) rfl O5.out.row ⟨w4.heap.size, 0, none⟩ 1 1 [.string (bsOf s), .slice uo bl.length uc] rfl rfl (two_new N5.out) (by simp [Value.oneCell']) (by decide) (by have := hLl.out; have := hN3.out; unfold maxLen; omega) (by have := hLl.out; have := hN3.out; omega) (by have q1 := B6.out.size; have q2 := B4.out.size; simp; omega) (w4.heap.size + 1) (by simp) ?_; intro g2 cap2 w5 ho5 hg5 hat hlt5; replace ho5 := hide ho5; replace hg5 := hide hg5; replace hat := hide hat)
    | fail)
   have Bc : Hid (Below wr.heap.size wr (w4.alloc (.cells #[.string (bsOf s), .slice uo bl.length uc] 61))) := B4.out.trans ((box_below w4 _).mono B4.out.size)
   go_roundw
   case rel =>
    refine ⟨k + 1, by go_num, by omega, vs ++ [.slice uo bl.length uc], ?_, ?_⟩
    ·rw [hsn.out]
     refine O6.out.snoc B6.out.size (U4.out.below (box_below w4 _)) Bc.out ho5.out hg5.out ?_
     rcases hat.out with e | e
     ·exact .inl (by rw [e]; rfl)
     ·exact .inr ⟨g2, rfl, by rw [e]; simp⟩
    ·refine Below.grown (B6.out.trans (Bc.out.mono B6.out.size)) hg5.out ?_ ?_
     ·have q1 := B6.out.size; have q2 := Bc.out.size; omega
     ·intro j hj
      exact (World.ownsRow.lt O5.out.row j hj).1
   case measure => simp [intOf]; omega
  ·obtain rfl : k = N := by omega
   rw [List.take_of_length_le (by rw [hN2.out]; omega)] at O6
   replace O6 := hide O6
   replace B6 := hide B6
   go_wp2_with fail
   go_ret
   refine ⟨_, vs, rfl, O6.out.low B2.out.size, KW.out _ B6.out⟩
theorem lasts_any {w : World} {b : Nat} {S : DS} {O : Nat → Prop} {f g : Nat} {pd : Value} {am : Option Nat} {VB VL : Nat → Value} (h : Dsk w b S O f g pd am VB VL) (hc : S.c7 < 1000000000) :
    Calls Tryz.prog 24 #[.pointer (some ⟨b, 0, none⟩)] w fun e w' => ∃ v vs, e = .returned v ∧ FlI w.heap.size w' v S.lasts vs ∧ Below w.heap.size w w' := by
 have hM := made_any w _ _ h.dk.dp
 rw [show madeD (some (S.dc f g pd am)) = true from rfl] at hM
 have hlen := (dir_len h.ok hc).2.2
 have c2 : w.cell? ⟨b, 3, none⟩ = some (.map (some g)) := h.dk.box.cells.2.2.2.1
 have M1 := hide h.dk.mg
 have H := hide h
 have hfl : Hid (∀ p s, get S.l2 s = some p → p ∈ S.ps) := fun p s hp => l2_mem hp
 have hE : Hid (S.lasts = (nms S.l2).map fun s => (s, flOf (fun p => (S.F p).la) S.l2 s)) := rfl
 rw [hE.out]
 obtain ⟨l, hl⟩ : ∃ l, S.l2 = l := ⟨_, rfl⟩
 rw [hl] at hlen M1 hfl ⊢
 have hN := hide (nms_len l)
 have hmem : Hid (∀ k (hk : k < (nms l).length), ∃ p, get l (nms l)[k] = some p) := fun k hk => nms_get (List.getElem_mem hk)
 obtain ⟨i0, hi, hz0, hz1, hz2⟩ := info_parts infoFile
 replace hi := hide hi
 clear h hE hl
 go_enter Tryz.func24, Tryz.ntmps24
 go_wp2_with (first
  | (go_at_call 79; refine hM.mono ?_; rintro e w1 ⟨rfl, e1⟩; subst w1)
  | (go_at_call 81; refine (names_any g l w M1.out (by omega)).mono ?_; rintro e w2 ⟨v2, rfl, R2, _, B2⟩; have R3 := row_of_owns R2 (by simp); replace B2 := hide B2; obtain ⟨ao, ca, rfl, r2, r3, r4, r5⟩ := R3; rw [List.length_map] at *; replace r5 := hide r5; clear r2 R2))
 obtain ⟨N, hN2⟩ : ∃ N, Hid ((nms l).length = N) := ⟨_, rfl⟩
 rw [hN2.out] at r3 ⊢
 have Q2 : Hid (∃ vs, FlI w2.heap.size w2 (.slice none 0 0) (((nms l).take 0).map fun s => (s, flOf (fun p => (S.F p).la) l s)) vs ∧ Below w2.heap.size w2 w2) := ⟨[], FlI.nil _ _, Below.refl _ _⟩
 have hN3 : N ≤ 1000000000 := by rw [← hN2.out, hN.out]; omega
 have i4 : (ca : Int) ≤ 9223372036854775807 := by unfold maxLen at r4; omega
 have KW : Hid (∀ q, Below w2.heap.size w2 q → Below w.heap.size w q) := fun q hq => B2.out.trans (hq.mono B2.out.size)
 clear hM hlen r4
 replace hN3 := hide hN3
 go_loopw [3, 15] (fun v6 i wr => ∃ k : Nat, i = .int .i64 k ∧ k ≤ N ∧ Hid (∃ vs, FlI w2.heap.size wr v6 (((nms l).take k).map fun s => (s, flOf (fun p => (S.F p).la) l s)) vs ∧ Below w2.heap.size w2 wr)) (fun _ i _ => N - (intOf i).toNat)
 case atStart => exact ⟨0, rfl, Nat.zero_le _, Q2.out⟩
 case round =>
  obtain ⟨k, rfl, hk, hQ⟩ := hrel
  obtain ⟨vs, O6, B6⟩ := hQ.out
  clear hQ
  by_cases hlt : k < N
  ·have i1 : (k : Int) < (N : Int) := by omega
   have hkl : k < (nms l).length := by rw [hN2.out]; exact hlt
   obtain ⟨p, hp⟩ := hmem.out k hkl
   obtain ⟨gb, off, rfl, hcl⟩ := r5.out k (by rw [List.length_map]; exact hkl)
   have hcell : wr.cell? ⟨gb, off + k, none⟩ = some (.string (bsOf (nms l)[k])) := by
    rw [B6.cell (p := ⟨gb, off + k, none⟩) (lt_of_cell hcl), hcl, List.getElem_map]; rfl
   have hB := KW.out wr B6
   have Mr : Mp wr g l := M1.out.heap (hB.block _ M1.out.lt)
   have d2 : wr.cell? ⟨b, 3, none⟩ = some (.map (some g)) := by rw [hB.cell (p := ⟨b, 3, none⟩) (lt_of_cell c2)]; exact c2
   have hL := Mr.look (s := bsOf (nms l)[k]) (Mr.nlen (List.getElem_mem hkl)) hp
   have hF := (H.out.below hB).fs.at_ p (hfl.out p _ hp)
   obtain ⟨x0, x1, _⟩ := cells3 hF.box
   have hz : (S.F p).la.length ≤ 16777216 := by have q1 := H.out.ok.sz p (hfl.out p _ hp); have q2 := hF.le; omega
   obtain ⟨bo, bc, eb, _, _⟩ := hF.l.form
   have hS := hF.l.sl
   rw [eb] at x1 hS
   have hT := clone_bytes wr _ _ hS (by omega)
   have hTL : Hid (flOf (fun p => (S.F p).la) l (nms l)[k] = (S.F p).la) := by show _ = _; unfold flOf; rw [hp]
   have hsn : Hid (((nms l).take (k + 1)).map (fun s => (s, flOf (fun p => (S.F p).la) l s)) = ((nms l).take k).map (fun s => (s, flOf (fun p => (S.F p).la) l s)) ++ [((nms l)[k], (S.F p).la)]) := by show _ = _; rw [List.take_succ_eq_append_getElem hkl, List.map_append, ← hTL.out]; rfl
   unfold TM at hL
   have hLl : Hid ((((nms l).take k).map (fun s => (s, flOf (fun p => (S.F p).la) l s))).length = k) := by show _ = _; rw [List.length_map, List.length_take]; omega
   replace O6 := hide O6
   replace B6 := hide B6
   clear hcl Mr hB hp hTL hF x0 eb hS
   generalize ((nms l).take k).map (fun s => (s, flOf (fun p => (S.F p).la) l s)) = L at *
   generalize (S.F p).la = bl at *
   generalize (nms l)[k] = s at *
   clear hkl hz
   go_wp2_with (first
    | (go_at_call 83; refine hT.mono ?_; rintro e w4 ⟨v4, rfl, U4, B4⟩; obtain ⟨uo, uc, rfl, _, _⟩ := U4.form; replace U4 := hide U4; replace B4 := hide B4; clear hL hT; have N5 := hide (heap_alloc_new w4 (.cells #[.string (bsOf s), .slice uo bl.length uc] 61)); have O5 : Hid (FlI w2.heap.size (w4.alloc (.cells #[.string (bsOf s), .slice uo bl.length uc] 61)) u3 L vs) := hide (O6.out.below (B4.out.trans ((box_below w4 (.cells #[.string (bsOf s), .slice uo bl.length uc] 61)).mono B4.out.size))))
    | (at_builtin; refine wpList_append_lies _ rfl (.tmp 19) (.tmp 32) 57 rfl w2.heap.size 61 i0 (.agg #[.string ⟨#[]⟩, .slice none 0 0]) 2 40 Tryz.underlying57 hi.out hz0 hz1 hz2 rfl (by decide) u3 L.length (fcells L vs) rfl O5.out.row ⟨w4.heap.size, 0, none⟩ 1 1 [.string (bsOf s), .slice uo bl.length uc] rfl rfl (two_new N5.out) (by simp [Value.oneCell']) (by decide) (by have := hLl.out; have := hN3.out; unfold maxLen; omega) (by have := hLl.out; have := hN3.out; omega) (by have q1 := B6.out.size; have q2 := B4.out.size; simp; omega) (w4.heap.size + 1) (by simp) ?_; intro g2 cap2 w5 ho5 hg5 hat hlt5; replace ho5 := hide ho5; replace hg5 := hide hg5; replace hat := hide hat)
    | fail)
   have Bc : Hid (Below wr.heap.size wr (w4.alloc (.cells #[.string (bsOf s), .slice uo bl.length uc] 61))) := B4.out.trans ((box_below w4 _).mono B4.out.size)
   go_roundw
   case rel =>
    refine ⟨k + 1, by go_num, by omega, vs ++ [.slice uo bl.length uc], ?_, ?_⟩
    ·rw [hsn.out]
     refine O6.out.snoc B6.out.size (U4.out.below (box_below w4 _)) Bc.out ho5.out hg5.out ?_
     rcases hat.out with e | e
     ·exact .inl (by rw [e]; rfl)
     ·exact .inr ⟨g2, rfl, by rw [e]; simp⟩
    ·refine Below.grown (B6.out.trans (Bc.out.mono B6.out.size)) hg5.out ?_ ?_
     ·have q1 := B6.out.size; have q2 := Bc.out.size; omega
     ·intro j hj
      exact (World.ownsRow.lt O5.out.row j hj).1
   case measure => simp [intOf]; omega
  ·obtain rfl : k = N := by omega
   rw [List.take_of_length_le (by rw [hN2.out]; omega)] at O6
   replace O6 := hide O6
   replace B6 := hide B6
   go_wp2_with fail
   go_ret
   refine ⟨_, vs, rfl, O6.out.low B2.out.size, KW.out _ B6.out⟩
open Ix (wp_region_T wpAnyT wpAnyT_take wpAnyT_one wpAnyT_done vac)
theorem Ob.take {B : Nat} {w : World} {ao : Option Addr} {n ca k : Nat} {L : List UInt8} (h : Ob B w (.slice ao n ca) L) (hk : k ≤ L.length) : Ob B w (.slice ao k ca) (L.take k) := by
 have hl : (L.take k).length = k := by rw [List.length_take]; omega
 rcases h.2 with ⟨e, e2⟩ | ⟨g, cap, cur, e, hg, hh, h1, h2, h3, h4⟩
 ·simp only [Value.slice.injEq] at e
  obtain ⟨rfl, rfl, rfl⟩ := e
  have : L = [] := List.length_eq_zero_iff.1 (by omega)
  subst this
  obtain rfl : k = 0 := by simpa using hk
  exact h
 ·simp only [Value.slice.injEq] at e
  obtain ⟨rfl, rfl, rfl⟩ := e
  refine ⟨by unfold bvals; rw [List.length_map, hl]; omega, .inr ⟨g, ca, cur, by rw [hl], hg, hh, by rw [hl]; omega, h2, h3, ?_⟩⟩
  rw [hl]
  have e : bvals (L.take k) = (bvals L).take k := by unfold bvals; rw [List.map_take]
  rw [e, ← h4, List.take_take]
  congr 1
  omega
theorem tail_raw (w : World) (p n m : Nat) (ao ao2 : Option Addr) (ca ca2 : Nat) (x : Value) (hb : w.heap[p]? = some (.cells #[.slice ao n ca, .slice ao2 m ca2, x] TFl (0, 0))) (hle : m ≤ n) (hsz : n ≤ 1099511627776) : Calls Tryz.prog 85 #[.pointer (some ⟨p, 0, none⟩)] w fun e w' => e = .returned (.int .i64 ((n - m : Nat) : Int)) ∧ ∃ n, w' = w.drewN n := by
 obtain ⟨x0, x1, _⟩ := cells3 hb
 clear hb
 have e1 : ((n - m : Nat) : Int) = (n : Int) - (m : Int) := by omega
 have e2 : IntKind.i64.wrap ((n : Int) - (m : Int)) = (n : Int) - (m : Int) := by rw [IntKind.wrap_i64]; omega
 rw [e1]
 clear e1
 go_enter Tryz.func85, Tryz.ntmps85
 go_upto_region 1 with fail
 go_quiet (fail)
 go_wp2_with fail
 go_ret
 exact ⟨rfl, _, rfl⟩
def cuF (f : Fl) (k : Nat) : Fl := ⟨f.by_.take k, f.la.take k, min f.sp (k - min f.la.length k)⟩
theorem cut_any (w : World) (p k : Nat) (f : Fl) (vb vl : Value) (h : FlAt w p f vb vl) (hk : k ≤ f.by_.length) :
    Calls Tryz.prog 101 #[.pointer (some ⟨p, 0, none⟩), .int .i64 (k : Int)] w fun e w' => e = .returned (.tuple #[]) ∧ ∃ vb' vl', FlAt w' p (cuF f k) vb' vl' ∧ But (fun k => k = p) w w' ∧ vb'.ownBlock = vb.ownBlock ∧ vl'.ownBlock = vl.ownBlock := by
 obtain ⟨ab, cb, rfl, z1, z2⟩ := h.b.form
 obtain ⟨al, cl, rfl, z3, z4⟩ := h.l.form
 have H := hide h
 obtain ⟨m, hm⟩ : ∃ m, Hid (min f.la.length k = m) := ⟨_, rfl⟩
 obtain ⟨s, hs⟩ : ∃ s, Hid (min f.sp (k - m) = s) := ⟨_, rfl⟩
 have hmin : min (f.la.length : Int) (k : Int) = (m : Int) := by have := hm.out; omega
 have hmin2 : min (f.sp : Int) ((k - m : Nat) : Int) = (s : Int) := by have := hs.out; omega
 have i2 : (k : Int) ≤ (cb : Int) := by omega
 have i3 : (m : Int) ≤ (cl : Int) := by have := hm.out; omega
 have hmk : Hid (m ≤ k ∧ m ≤ f.la.length ∧ k ≤ 1099511627776 ∧ k ≤ f.by_.length ∧ s ≤ k - m) := by have := hm.out; have := h.sz; have := hs.out; show _ ∧ _; omega
 obtain ⟨x0, x1, x2⟩ := cells3 h.box
 have fr := (frozen3 h.box).1
 have b1 : Hid ((w.setCell ⟨p, 0, none⟩ (.slice ab k cb)).heap[p]? = some (.cells #[.slice ab k cb, .slice al f.la.length cl, .int .i64 (f.sp : Int)] TFl (0, 0))) := by show _ = _; rw [heap_setCell_same _ _ _ _ _ _ h.box]; simp
 have g1 := hide (But.of_grownBy (X := fun k => k = p) (grown_setCell w p 0 (.slice ab k cb)) fun k e => by cases e; rfl)
 have KC : Hid (∀ q : World, q.heap[p]? = some (.cells #[.slice ab k cb, .slice al f.la.length cl, .int .i64 (f.sp : Int)] TFl (0, 0)) → q.cell? ⟨p, 1, none⟩ = some (.slice al f.la.length cl)) := fun q hq => (cells3 hq).2.1
 clear h hk z1 z2 z3 z4
 go_enter Tryz.func101, Tryz.ntmps101
 go_upto_region 1 with fail
 clear x0 x1 x2 fr
 generalize (w.setCell ⟨p, 0, none⟩ (.slice ab k cb)) = w1 at *
 refine wp_region_T (fun q => q.heap[p]? = some (.cells #[.slice ab k cb, .slice al f.la.length cl, .int .i64 (f.sp : Int)] TFl (0, 0))) 15 (by kernel_rfl) ?_
 have D1 : Hid (Below w1.heap.size w1 w1.drew) := (Below.refl _ _).drew
 have KP : Hid (w1.drew.heap[p]? = some (.cells #[.slice ab k cb, .slice al f.la.length cl, .int .i64 (f.sp : Int)] TFl (0, 0))) := (D1.out.block p (heap_lt b1.out)).trans b1.out
 have g2 : Hid (But (fun k => k = p) w w1.drew) := g1.out.trans (But.of_below D1.out _)
 clear D1 b1 g1
 generalize w1.drew = q at *
 refine Ix.tk 0 ⟨some 13, .move (.tmp 0), _, _, _, _⟩ (.pointer (some ⟨p, 0, none⟩)) [15] ?_ KP.out ?_
 ·intro wq hSw
  have y2 := KC.out wq hSw
  go_simp
 (try simp only [zzp, zzb, zzc])
 refine Ix.tk 1 ⟨some 14, .move (.tmp 0), _, _, _, _⟩ (.pointer (some ⟨p, 0, none⟩)) [15] ?_ KP.out ?_
 ·intro wq hSw
  have y2 := KC.out wq hSw
  go_simp
 (try simp only [zzp, zzb, zzc])
 refine Ix.tk 2 ⟨some 15, .nilCheck (.tmp 14), _, _, _, _⟩ (.pointer (some ⟨p, 0, none⟩)) [15] ?_ KP.out ?_
 ·intro wq hSw
  have y2 := KC.out wq hSw
  go_simp
 (try simp only [zzp, zzb, zzc])
 refine Ix.tk 3 ⟨some 16, .fieldAddr 124 (.tmp 15) 1, _, _, _, _⟩ (.pointer (some ⟨p, 1, none⟩)) [15] ?_ KP.out ?_
 ·intro wq hSw
  have y2 := KC.out wq hSw
  go_simp
 (try simp only [zzp, zzb, zzc])
 refine Ix.tk 4 ⟨some 17, .load 30 (.tmp 16), _, _, _, _⟩ (.slice al f.la.length cl) [15] ?_ KP.out ?_
 ·intro wq hSw
  have y2 := KC.out wq hSw
  go_simp
 (try simp only [zzp, zzb, zzc])
 refine Ix.tk 5 ⟨some 18, .move (.tmp 0), _, _, _, _⟩ (.pointer (some ⟨p, 0, none⟩)) [15] ?_ KP.out ?_
 ·intro wq hSw
  have y2 := KC.out wq hSw
  go_simp
 (try simp only [zzp, zzb, zzc])
 refine Ix.tk 6 ⟨some 19, .nilCheck (.tmp 18), _, _, _, _⟩ (.pointer (some ⟨p, 0, none⟩)) [15] ?_ KP.out ?_
 ·intro wq hSw
  have y2 := KC.out wq hSw
  go_simp
 (try simp only [zzp, zzb, zzc])
 refine Ix.tk 7 ⟨some 20, .fieldAddr 124 (.tmp 19) 1, _, _, _, _⟩ (.pointer (some ⟨p, 1, none⟩)) [15] ?_ KP.out ?_
 ·intro wq hSw
  have y2 := KC.out wq hSw
  go_simp
 (try simp only [zzp, zzb, zzc])
 refine Ix.tk 8 ⟨some 21, .load 30 (.tmp 20), _, _, _, _⟩ (.slice al f.la.length cl) [15] ?_ KP.out ?_
 ·intro wq hSw
  have y2 := KC.out wq hSw
  go_simp
 (try simp only [zzp, zzb, zzc])
 refine Ix.tk 9 ⟨some 22, .call { callee := .builtin .len, args := #[.tmp 21], argTypes := #[30] }, _, _, _, _⟩ (.int .i64 (f.la.length : Int)) [15] ?_ KP.out ?_
 ·intro wq hSw
  have y2 := KC.out wq hSw
  go_simp
 (try simp only [zzp, zzb, zzc])
 refine Ix.tk 10 ⟨some 23, .move (.tmp 1), _, _, _, _⟩ (.int .i64 (k : Int)) [15] ?_ KP.out ?_
 ·intro wq hSw
  have y2 := KC.out wq hSw
  go_simp
 (try simp only [zzp, zzb, zzc])
 refine Ix.tk 11 ⟨some 24, .call { callee := .builtin .min, args := #[.tmp 22, .tmp 23], argTypes := #[3, 3] }, _, _, _, _⟩ (.int .i64 (m : Int)) [15] ?_ KP.out ?_
 ·intro wq hSw
  have y2 := KC.out wq hSw
  go_simp
 (try simp only [zzp, zzb, zzc])
 refine Ix.tk 12 ⟨some 25, .slice 30 (.tmp 17) none (some (.tmp 24)) none, _, _, _, _⟩ (.slice al m cl) [15] ?_ KP.out ?_
 ·intro wq hSw
  have y2 := KC.out wq hSw
  go_simp
 (try simp only [zzp, zzb, zzc])
 refine Ix.tk 13 ⟨some 26, .nilCheck (.tmp 13), _, _, _, _⟩ (.pointer (some ⟨p, 0, none⟩)) [14,15] ?_ KP.out ?_
 ·intro wq hSw
  have y2 := KC.out wq hSw
  go_simp
 (try simp only [zzp, zzb, zzc])
 refine Ix.tk 14 ⟨some 27, .fieldAddr 124 (.tmp 26) 1, _, _, _, _⟩ (.pointer (some ⟨p, 1, none⟩)) [15] ?_ KP.out ?_
 ·intro wq hSw
  have y2 := KC.out wq hSw
  go_simp
 (try simp only [zzp, zzb, zzc])
 have d1 := (cells3 KP.out).2.1
 have d2 := (frozen3 KP.out).2.1
 refine wpAnyT_one (i := 15) (o := ⟨none, .store 30 (.tmp 27) (.tmp 25), _, _, _, _⟩) (by kernel_rfl) rfl (fun K hK => ?_)
 go_simp
 refine hK.out _ _ (vac (by kernel_rfl)) ?_
 clear hK K d1 d2 KC
 refine wpAnyT_done (by kernel_rfl) ?_ _
 have b3 : Hid ((q.setCell ⟨p, 1, none⟩ (.slice al m cl)).heap[p]? = some (.cells #[.slice ab k cb, .slice al m cl, .int .i64 (f.sp : Int)] TFl (0, 0))) := by show _ = _; rw [heap_setCell_same _ _ _ _ _ _ KP.out]; simp
 have g3 : Hid (But (fun k => k = p) w (q.setCell ⟨p, 1, none⟩ (.slice al m cl))) := g2.out.trans (But.of_grownBy (X := fun k => k = p) (grown_setCell q p 1 (.slice al m cl)) fun k e => by cases e; rfl)
 clear KP g2
 generalize (q.setCell ⟨p, 1, none⟩ (.slice al m cl)) = w3 at *
 have KC : Hid (∀ q : World, q.heap[p]? = some (.cells #[.slice ab k cb, .slice al m cl, .int .i64 (f.sp : Int)] TFl (0, 0)) → q.cell? ⟨p, 2, none⟩ = some (.int .i64 (f.sp : Int))) := fun q hq => (cells3 hq).2.2
 go_upto_region 2 with fail
 refine wp_region_T (fun q => q.heap[p]? = some (.cells #[.slice ab k cb, .slice al m cl, .int .i64 (f.sp : Int)] TFl (0, 0))) 10 (by kernel_rfl) ?_
 have D3 : Hid (Below w3.heap.size w3 w3.drew) := (Below.refl _ _).drew
 have KP : Hid (w3.drew.heap[p]? = some (.cells #[.slice ab k cb, .slice al m cl, .int .i64 (f.sp : Int)] TFl (0, 0))) := (D3.out.block p (heap_lt b3.out)).trans b3.out
 have g4 : Hid (But (fun k => k = p) w w3.drew) := g3.out.trans (But.of_below D3.out _)
 clear D3 b3 g3
 generalize w3.drew = q3 at *
 have hT := tail_raw q3 p k m ab al cb cl (.int .i64 (f.sp : Int)) KP.out hmk.out.1 hmk.out.2.2.1
 refine Ix.tk 0 ⟨some 28, .move (.tmp 0), _, _, _, _⟩ (.pointer (some ⟨p, 0, none⟩)) [10] ?_ KP.out ?_
 ·intro wq hSw
  have y2 := KC.out wq hSw
  go_simp
 (try simp only [zzp, zzb, zzc])
 refine Ix.tk 1 ⟨some 29, .move (.tmp 0), _, _, _, _⟩ (.pointer (some ⟨p, 0, none⟩)) [10] ?_ KP.out ?_
 ·intro wq hSw
  have y2 := KC.out wq hSw
  go_simp
 (try simp only [zzp, zzb, zzc])
 refine Ix.tk 2 ⟨some 30, .nilCheck (.tmp 29), _, _, _, _⟩ (.pointer (some ⟨p, 0, none⟩)) [10] ?_ KP.out ?_
 ·intro wq hSw
  have y2 := KC.out wq hSw
  go_simp
 (try simp only [zzp, zzb, zzc])
 refine Ix.tk 3 ⟨some 31, .fieldAddr 124 (.tmp 30) 2, _, _, _, _⟩ (.pointer (some ⟨p, 2, none⟩)) [10] ?_ KP.out ?_
 ·intro wq hSw
  have y2 := KC.out wq hSw
  go_simp
 (try simp only [zzp, zzb, zzc])
 refine Ix.tk 4 ⟨some 32, .load 3 (.tmp 31), _, _, _, _⟩ (.int .i64 (f.sp : Int)) [10] ?_ KP.out ?_
 ·intro wq hSw
  have y2 := KC.out wq hSw
  go_simp
 (try simp only [zzp, zzb, zzc])
 refine Ix.tk 5 ⟨some 33, .move (.tmp 0), _, _, _, _⟩ (.pointer (some ⟨p, 0, none⟩)) [10] ?_ KP.out ?_
 ·intro wq hSw
  have y2 := KC.out wq hSw
  go_simp
 (try simp only [zzp, zzb, zzc])
 refine wpAnyT_one (i := 6) (o := ⟨some 34, .call { callee := .value (.func 85), args := #[.tmp 33], argTypes := #[114] }, _, _, _, _⟩) (by kernel_rfl) rfl (fun K hK => ?_)
 go_simp
 go_at_call 85
 refine hT.mono ?_
 rintro e w5 ⟨rfl, nq, rfl⟩
 have B5 : Hid (Below q3.heap.size q3 (q3.drewN nq)) := Qt.below ⟨nq, rfl⟩ _
 have K5 : Hid ((q3.drewN nq).heap[p]? = some (.cells #[.slice ab k cb, .slice al m cl, .int .i64 (f.sp : Int)] TFl (0, 0))) := (B5.out.block p (heap_lt KP.out)).trans KP.out
 have g5 : Hid (But (fun k => k = p) w (q3.drewN nq)) := g4.out.trans (But.of_below B5.out _)
 (try go_simp)
 refine hK.out _ _ (fun _ => K5.out) ?_
 clear hK K hT B5 KP g4
 (try simp only [zzp, zzb, zzc])
 generalize q3.drewN nq = q5 at *
 refine Ix.tk 7 ⟨some 35, .call { callee := .builtin .min, args := #[.tmp 32, .tmp 34], argTypes := #[3, 3] }, _, _, _, _⟩ (.int .i64 (s : Int)) [10] ?_ K5.out ?_
 ·intro wq hSw
  have y2 := KC.out wq hSw
  go_simp
 (try simp only [zzp, zzb, zzc])
 refine Ix.tk 8 ⟨some 36, .nilCheck (.tmp 28), _, _, _, _⟩ (.pointer (some ⟨p, 0, none⟩)) [9,10] ?_ K5.out ?_
 ·intro wq hSw
  have y2 := KC.out wq hSw
  go_simp
 (try simp only [zzp, zzb, zzc])
 refine Ix.tk 9 ⟨some 37, .fieldAddr 124 (.tmp 36) 2, _, _, _, _⟩ (.pointer (some ⟨p, 2, none⟩)) [10] ?_ K5.out ?_
 ·intro wq hSw
  have y2 := KC.out wq hSw
  go_simp
 (try simp only [zzp, zzb, zzc])
 have d1 := (cells3 K5.out).2.2
 have d2 := (frozen3 K5.out).2.2
 refine wpAnyT_one (i := 10) (o := ⟨none, .store 3 (.tmp 37) (.tmp 35), _, _, _, _⟩) (by kernel_rfl) rfl (fun K hK => ?_)
 go_simp
 refine hK.out _ _ (vac (by kernel_rfl)) ?_
 clear hK K d1 d2 KC
 refine wpAnyT_done (by kernel_rfl) ?_ _
 have b6 : (q5.setCell ⟨p, 2, none⟩ (.int .i64 (s : Int))).heap[p]? = some (.cells #[.slice ab k cb, .slice al m cl, .int .i64 (s : Int)] TFl (0, 0)) := by rw [heap_setCell_same _ _ _ _ _ _ K5.out]; simp
 have g6 : But (fun k => k = p) w (q5.setCell ⟨p, 2, none⟩ (.int .i64 (s : Int))) := g5.out.trans (But.of_grownBy (X := fun k => k = p) (grown_setCell q5 p 2 (.int .i64 (s : Int))) fun k e => by cases e; rfl)
 replace b6 := hide b6
 replace g6 := hide g6
 clear K5 g5
 generalize (q5.setCell ⟨p, 2, none⟩ (.int .i64 (s : Int))) = w6 at *
 go_wp2_with fail
 go_end0
 have hq := hmk.out
 have ob := (H.out.b.but g6.out (fun j hj e => H.out.b.no H.out.box (by decide) (by rw [← e]; exact hj))).take (k := k) hq.2.2.2.1
 have ol := (H.out.l.but g6.out (fun j hj e => H.out.l.no H.out.box (by decide) (by rw [← e]; exact hj))).take (k := m) hq.2.1
 have e1 : f.la.take m = f.la.take k := by rw [← hm.out, Nat.min_comm, ← List.take_eq_take_min]
 refine ⟨rfl, .slice ab k cb, .slice al m cl, ?_, g6.out, ?_, ?_⟩
 ·refine ⟨?_, ob, ?_, fun j hj => (by cases ab <;> cases al <;> first | exact H.out.ne j hj | (intro c; cases c) | (cases hj)), ?_, ?_, ?_⟩
  ·have : ((cuF f k).sp : Int) = (s : Int) := by unfold cuF; rw [hm.out, hs.out]
   rw [this]; exact b6.out
  ·show Ob 0 w6 _ (f.la.take k)
   rw [← e1]; exact ol
  ·show (f.la.take k).length ≤ (f.by_.take k).length
   rw [List.length_take, List.length_take]; have := H.out.le; omega
  ·show min f.sp (k - min f.la.length k) ≤ (f.by_.take k).length - (f.la.take k).length
   rw [List.length_take, List.length_take]; omega
  ·show (f.by_.take k).length ≤ _
   rw [List.length_take]; omega
 ·cases ab <;> rfl
 ·cases al <;> rfl
def DS.cut (S : DS) (s : ByteArray) (n : Int) : DS × Int :=
 match S.find s with
 | (none, e) => (S, e)
 | (some p, _) =>
  if n < 0 ∨ ((S.F p).by_.length : Int) < n then (S, 8)
  else if strR S.flt.2.1 ≠ 0 then ((S.beg 3).str S.flt.2.1, strR S.flt.2.1)
  else ({ S.beg 3 with F := upd S.F p (cuF (S.F p) n.toNat) }, 0)
theorem strR_zero {k : Int} (h : strR k = 0) : k ≠ 3 := fun e => by subst e; revert h; decide
theorem cutD_any {w : World} {b : Nat} {S : DS} {O : Nat → Prop} {f g : Nat} {pd : Value} {am : Option Nat} {VB VL : Nat → Value} (h : Dsk w b S O f g pd am VB VL) (s : ByteArray) (hs : s.size ≤ maxLen) (n : Int) (n0 : -9223372036854775808 ≤ n) (n1 : n ≤ 9223372036854775807) (hc : S.c7 < 900000000) :
    Calls Tryz.prog 49 #[.pointer (some ⟨b, 0, none⟩), .string s, .int .i64 n] w (Does w b O (S.cut s n)) := by
 have hF := dsk_find h s hs
 by_cases h0 : (S.find s).2 = 0
 ·obtain ⟨p, e, hg, hr, hp⟩ := find_ok h0
  rw [e] at hF
  simp only [Option.map_some] at hF
  have hR : Hid (S.cut s n = if n < 0 ∨ ((S.F p).by_.length : Int) < n then (S, 8) else if strR S.flt.2.1 ≠ 0 then ((S.beg 3).str S.flt.2.1, strR S.flt.2.1) else ({ S.beg 3 with F := upd S.F p (cuF (S.F p) n.toNat) }, 0)) := by show _ = _; unfold DS.cut; rw [e]
  have hsz := hide (h.ok.sz p hp)
  have H := hide h
  have hlen : Hid (∀ u, Dsk u b S O f g pd am VB VL → ∃ ao ca, u.cell? ⟨p, 0, none⟩ = some (.slice ao (S.F p).by_.length ca)) := fun u hu => by
   have hf := hu.fs.at_ p hp
   obtain ⟨ao, ca, e, _, _⟩ := hf.b.form
   have := (cells3 hf.box).1
   rw [e] at this
   exact ⟨ao, ca, this⟩
  by_cases q1 : n < 0
  ·have hR2 : Hid (S.cut s n = (S, 8)) := by show _ = _; rw [hR.out, if_pos (.inl q1)]
   rw [hR2.out]
   clear h e hr h0 hg hR hR2
   go_enter Tryz.func49, Tryz.ntmps49
   go_wp2_with (go_at_call 75; refine hF.mono ?_; rintro e w1 ⟨rfl, B1⟩; replace B1 := hide B1)
   go_ret
   exact ⟨rfl, O, (H.out.below B1.out).e, Sgo.of_below B1.out⟩
  ·have q1' : 0 ≤ n := by omega
   by_cases q2 : ((S.F p).by_.length : Int) < n
   ·have hR2 : Hid (S.cut s n = (S, 8)) := by show _ = _; rw [hR.out, if_pos (.inr q2)]
    rw [hR2.out]
    clear h e hr h0 hg hR hR2
    go_enter Tryz.func49, Tryz.ntmps49
    go_wp2_with (go_at_call 75; refine hF.mono ?_; rintro e w1 ⟨rfl, B1⟩; replace B1 := hide B1; obtain ⟨ao, ca, x0⟩ := hlen.out _ (H.out.below B1.out))
    go_ret
    exact ⟨rfl, O, (H.out.below B1.out).e, Sgo.of_below B1.out⟩
   ·have q2' : n ≤ ((S.F p).by_.length : Int) := by omega
    obtain ⟨k, rfl⟩ : ∃ k : Nat, n = k := ⟨n.toNat, by omega⟩
    have hb : Hid (∀ u, Dsk u b S O f g pd am VB VL → _) := fun u hu => dsk_begin hu 3 (by omega) (by omega)
    have hft := h.ok.flt
    obtain ⟨t, ht⟩ : ∃ t, Hid (S.flt = t) := ⟨_, rfl⟩
    rw [ht.out] at hb hft hR
    have hst : Hid (∀ u, Dsk u b (S.beg 3) O f g pd am VB VL → _) := fun u hu => dsk_strikeR hu t (by omega)
    unfold fv at hb hst
    obtain ⟨ta, tk, tp⟩ := t
    dsimp only at hb hft hR hst
    have hcu : Hid (∀ u, Dsk u b (S.beg 3) O f g pd am VB VL → Calls Tryz.prog 101 #[.pointer (some ⟨p, 0, none⟩), .int .i64 (k : Int)] u fun e w' => e = .returned (.tuple #[]) ∧ ∃ O', DskE w' b { S.beg 3 with F := upd S.F p (cuF (S.F p) k) } O' ∧ Sgo u w' O O') := fun u hu => by
     refine (cut_any u p k (S.F p) (VB p) (VL p) (hu.fs.at_ p hp) (by omega)).mono ?_
     rintro e w' ⟨rfl, vb', vl', hf, hB, ob, ol⟩
     obtain ⟨O', k1, k2⟩ := hu.one (t := cuF (S.F p) k) hp hf (hB.mono fun k _ e => .inl e) (fun j hj => .inl (by unfold FOwn at hj ⊢; rw [ob, ol] at hj; exact hj)) (by have := hsz.out; show (List.take _ _).length ≤ _; rw [List.length_take]; omega)
     exact ⟨rfl, O', k1.e, k2⟩
    obtain ⟨r, hr0⟩ : ∃ r, strR tk = r := ⟨_, rfl⟩
    by_cases k1 : r = 0
    ·have hR2 : Hid (S.cut s k = ({ S.beg 3 with F := upd S.F p (cuF (S.F p) k) }, 0)) := by show _ = _; rw [hR.out, if_neg (by omega), if_neg (by rw [hr0]; simpa using k1)]; rfl
     rw [hR2.out]
     have e2 : (S.beg 3).str tk = S.beg 3 := by unfold DS.str; rw [if_neg (strR_zero (by rw [hr0]; exact k1))]
     rw [hr0, k1, e2] at hst
     clear h e hr h0 hg hR hR2 hft hr0 k1 e2
     go_enter Tryz.func49, Tryz.ntmps49
     go_wp2_with (first
      | (go_at_call 75; refine hF.mono ?_; rintro e w1 ⟨rfl, B1⟩; replace B1 := hide B1; have D1 := hide (H.out.below B1.out); obtain ⟨ao, ca, x0⟩ := hlen.out _ D1.out)
      | (go_at_call 70; refine (hb.out _ D1.out).mono ?_; rintro e w2 ⟨rfl, D2, G2⟩; replace D2 := hide D2; replace G2 := hide G2)
      | (go_at_call 73; refine (hst.out _ D2.out).mono ?_; rintro e w3 ⟨rfl, D3, G3⟩; replace D3 := hide D3; replace G3 := hide G3)
      | (go_at_call 101; refine (hcu.out _ D3.out).mono ?_; rintro e w4 ⟨rfl, O4, D4, G4⟩; replace D4 := hide D4; replace G4 := hide G4))
     go_ret
     exact ⟨rfl, O4, D4.out, (Sgo.of_below (O := O) B1.out).trans (G2.out.trans (G3.out.trans G4.out))⟩
    ·have hR2 : Hid (S.cut s k = ((S.beg 3).str tk, r)) := by show _ = _; rw [hR.out, if_neg (by omega), if_pos (by rw [hr0]; exact k1), hr0]
     rw [hR2.out]
     rw [hr0] at hst
     have h0' : (r != 0) = true := by simpa using k1
     clear h e hr h0 hg hR hR2 hft hr0 k1 hcu
     go_enter Tryz.func49, Tryz.ntmps49
     go_wp2_with (first
      | (go_at_call 75; refine hF.mono ?_; rintro e w1 ⟨rfl, B1⟩; replace B1 := hide B1; have D1 := hide (H.out.below B1.out); obtain ⟨ao, ca, x0⟩ := hlen.out _ D1.out)
      | (go_at_call 70; refine (hb.out _ D1.out).mono ?_; rintro e w2 ⟨rfl, D2, G2⟩; replace D2 := hide D2; replace G2 := hide G2)
      | (go_at_call 73; refine (hst.out _ D2.out).mono ?_; rintro e w3 ⟨rfl, D3, G3⟩; replace D3 := hide D3; replace G3 := hide G3))
     go_ret
     exact ⟨rfl, O, D3.out.e, (Sgo.of_below (O := O) B1.out).trans (G2.out.trans G3.out)⟩
 ·have hR : Hid (S.cut s n = (S, (S.find s).2)) := by
    show _ = _
    have q := find_no h0
    unfold DS.cut
    cases hq : S.find s with
    | mk a c => rw [hq] at q; dsimp only at q; subst q; rfl
  rw [hR.out]
  have q := find_no h0
  rw [q] at hF
  simp only [Option.map_none] at hF
  generalize (S.find s).2 = r at *
  have h0' : (r != 0) = true := by simpa using h0
  have H := hide h
  clear h h0 q hR
  go_enter Tryz.func49, Tryz.ntmps49
  go_wp2_with (go_at_call 75; refine hF.mono ?_; rintro e w1 ⟨rfl, B1⟩; replace B1 := hide B1)
  go_ret
  exact ⟨rfl, O, (H.out.below B1.out).e, Sgo.of_below B1.out⟩
structure FNew (B : Nat) (w : World) (p : Nat) (f : Fl) (vb vl : Value) : Prop where
 at_ : FlAt w p f vb vl
 lo : ∀ k, FOwn p vb vl k → B ≤ k
theorem copyF_any (w : World) (p : Nat) (f : Fl) (vb vl : Value) (h : FlAt w p f vb vl) :
    Calls Tryz.prog 94 #[.pointer (some ⟨p, 0, none⟩)] w fun e w' => ∃ p' vb' vl', e = .returned (.pointer (some ⟨p', 0, none⟩)) ∧ FNew w.heap.size w' p' f vb' vl' ∧ Below w.heap.size w w' := by
 obtain ⟨ab, cb, rfl, z1, z2⟩ := h.b.form
 obtain ⟨al, cl, rfl, z3, z4⟩ := h.l.form
 have H := hide h
 have hz := hide h.sz
 have hz2 := hide h.le
 have KC : Hid (∀ q : World, Below w.heap.size w q → q.cell? ⟨p, 0, none⟩ = some (.slice ab f.by_.length cb) ∧ q.cell? ⟨p, 1, none⟩ = some (.slice al f.la.length cl) ∧ q.cell? ⟨p, 2, none⟩ = some (.int .i64 (f.sp : Int))) := fun q hq => cells3 (H.out.below hq).box
 have hC1 : Hid (∀ q, Below w.heap.size w q → _) := fun q hq => clone_bytes q _ _ (H.out.below hq).b.sl (by have := hz.out; omega)
 have hC2 : Hid (∀ q, Below w.heap.size w q → _) := fun q hq => clone_bytes q _ _ (H.out.below hq).l.sl (by have := hz.out; have := hz2.out; omega)
 clear h z1 z2 z3 z4
 go_enter Tryz.func94, Tryz.ntmps94
 go_upto_region 1 with fail
 have KP : Hid (Below w.heap.size w w.drew) := (Below.refl _ _).drew
 refine wp_region_T (fun q => Below w.heap.size w q) 16 (by kernel_rfl) ?_
 generalize w.drew = q at *
 refine Ix.tk 0 ⟨some 3, .move (.tmp 0), _, _, _, _⟩ (.pointer (some ⟨p, 0, none⟩)) [1,2,3,4,14,15,16] ?_ KP.out ?_
 ·intro wq hSw
  obtain ⟨y1, y2, y3⟩ := KC.out wq hSw
  go_simp
 (try simp only [zzp, zzb, zzc])
 refine Ix.tk 1 ⟨some 4, .nilCheck (.tmp 3), _, _, _, _⟩ (.pointer (some ⟨p, 0, none⟩)) [2,3,4,14,15,16] ?_ KP.out ?_
 ·intro wq hSw
  obtain ⟨y1, y2, y3⟩ := KC.out wq hSw
  go_simp
 (try simp only [zzp, zzb, zzc])
 refine Ix.tk 2 ⟨some 5, .fieldAddr 124 (.tmp 4) 0, _, _, _, _⟩ (.pointer (some ⟨p, 0, none⟩)) [3,4,14,15,16] ?_ KP.out ?_
 ·intro wq hSw
  obtain ⟨y1, y2, y3⟩ := KC.out wq hSw
  go_simp
 (try simp only [zzp, zzb, zzc])
 refine Ix.tk 3 ⟨some 6, .load 30 (.tmp 5), _, _, _, _⟩ (.slice ab f.by_.length cb) [4,14,15,16] ?_ KP.out ?_
 ·intro wq hSw
  obtain ⟨y1, y2, y3⟩ := KC.out wq hSw
  go_simp
 (try simp only [zzp, zzb, zzc])
 refine Ix.tk 5 ⟨some 8, .move (.tmp 0), _, _, _, _⟩ (.pointer (some ⟨p, 0, none⟩)) [6,7,8,9,14,15,16] ?_ KP.out ?_
 ·intro wq hSw
  obtain ⟨y1, y2, y3⟩ := KC.out wq hSw
  go_simp
 (try simp only [zzp, zzb, zzc])
 refine Ix.tk 6 ⟨some 9, .nilCheck (.tmp 8), _, _, _, _⟩ (.pointer (some ⟨p, 0, none⟩)) [7,8,9,14,15,16] ?_ KP.out ?_
 ·intro wq hSw
  obtain ⟨y1, y2, y3⟩ := KC.out wq hSw
  go_simp
 (try simp only [zzp, zzb, zzc])
 refine Ix.tk 7 ⟨some 10, .fieldAddr 124 (.tmp 9) 1, _, _, _, _⟩ (.pointer (some ⟨p, 1, none⟩)) [8,9,14,15,16] ?_ KP.out ?_
 ·intro wq hSw
  obtain ⟨y1, y2, y3⟩ := KC.out wq hSw
  go_simp
 (try simp only [zzp, zzb, zzc])
 refine Ix.tk 8 ⟨some 11, .load 30 (.tmp 10), _, _, _, _⟩ (.slice al f.la.length cl) [9,14,15,16] ?_ KP.out ?_
 ·intro wq hSw
  obtain ⟨y1, y2, y3⟩ := KC.out wq hSw
  go_simp
 (try simp only [zzp, zzb, zzc])
 refine Ix.tk 10 ⟨some 13, .move (.tmp 0), _, _, _, _⟩ (.pointer (some ⟨p, 0, none⟩)) [11,12,13,14,15,16] ?_ KP.out ?_
 ·intro wq hSw
  obtain ⟨y1, y2, y3⟩ := KC.out wq hSw
  go_simp
 (try simp only [zzp, zzb, zzc])
 refine Ix.tk 11 ⟨some 14, .nilCheck (.tmp 13), _, _, _, _⟩ (.pointer (some ⟨p, 0, none⟩)) [12,13,14,15,16] ?_ KP.out ?_
 ·intro wq hSw
  obtain ⟨y1, y2, y3⟩ := KC.out wq hSw
  go_simp
 (try simp only [zzp, zzb, zzc])
 refine Ix.tk 12 ⟨some 15, .fieldAddr 124 (.tmp 14) 2, _, _, _, _⟩ (.pointer (some ⟨p, 2, none⟩)) [13,14,15,16] ?_ KP.out ?_
 ·intro wq hSw
  obtain ⟨y1, y2, y3⟩ := KC.out wq hSw
  go_simp
 (try simp only [zzp, zzb, zzc])
 refine Ix.tk 13 ⟨some 16, .load 3 (.tmp 15), _, _, _, _⟩ (.int .i64 (f.sp : Int)) [14,15,16] ?_ KP.out ?_
 ·intro wq hSw
  obtain ⟨y1, y2, y3⟩ := KC.out wq hSw
  go_simp
 (try simp only [zzp, zzb, zzc])
 refine wpAnyT_one (i := 4) (o := ⟨some 7, .call { callee := .value (.func 83), args := #[.tmp 6], argTypes := #[30] }, _, _, _, _⟩) (by kernel_rfl) rfl (fun K hK => ?_)
 go_simp
 go_at_call 83
 refine (hC1.out q KP.out).mono ?_
 rintro e w1 ⟨v1, rfl, O1, B1⟩
 obtain ⟨a1, c1, rfl, _, _⟩ := O1.form
 replace O1 := hide O1
 have U1 := hide B1
 replace B1 : Hid (Below w.heap.size w w1) := KP.out.trans (B1.mono KP.out.size)
 (try go_simp)
 refine hK.out _ _ (fun _ => B1.out) ?_
 clear hK K
 (try simp only [zzp, zzb, zzc])
 refine wpAnyT_one (i := 9) (o := ⟨some 12, .call { callee := .value (.func 83), args := #[.tmp 11], argTypes := #[30] }, _, _, _, _⟩) (by kernel_rfl) rfl (fun K hK => ?_)
 go_simp
 go_at_call 83
 refine (hC2.out w1 B1.out).mono ?_
 rintro e w2 ⟨v2, rfl, O2, B2⟩
 obtain ⟨a2, c2, rfl, _, _⟩ := O2.form
 replace O2 := hide O2
 have U2 := hide B2
 replace B2 : Hid (Below w.heap.size w w2) := B1.out.trans (B2.mono B1.out.size)
 (try go_simp)
 refine hK.out _ _ (fun _ => B2.out) ?_
 clear hK K
 (try simp only [zzp, zzb, zzc])
 refine Ix.tk 14 ⟨some 17, .build 124 #[(0, .tmp 7), (1, .tmp 12), (2, .tmp 16)], _, _, _, _⟩ (.agg #[.slice a1 f.by_.length c1, .slice a2 f.la.length c2, .int .i64 (f.sp : Int)]) [15,16] ?_ B2.out ?_
 ·intro wq hSw
  obtain ⟨y1, y2, y3⟩ := KC.out wq hSw
  go_simp
 (try simp only [zzp, zzb, zzc])
 refine wpAnyT_one (i := 15) (o := ⟨some 18, .box 124 (.tmp 17), _, _, _, _⟩) (by kernel_rfl) rfl (fun K hK => ?_)
 go_simp
 have B3 : Hid (Below w.heap.size w (w2.alloc (.cells #[.slice a1 f.by_.length c1, .slice a2 f.la.length c2, .int .i64 (f.sp : Int)] 124))) := B2.out.trans ((box_below w2 _).mono B2.out.size)
 refine hK.out _ _ (fun _ => B3.out) ?_
 clear hK K
 (try simp only [zzp, zzb, zzc])
 have N3 := hide (heap_alloc_new w2 (.cells #[.slice a1 f.by_.length c1, .slice a2 f.la.length c2, .int .i64 (f.sp : Int)] 124))
 have D3 := hide (box_below w2 (.cells #[.slice a1 f.by_.length c1, .slice a2 f.la.length c2, .int .i64 (f.sp : Int)] 124))
 have zw : Hid (w.heap.size ≤ w2.heap.size ∧ w.heap.size ≤ q.heap.size ∧ w.heap.size ≤ w1.heap.size) := ⟨B2.out.size, KP.out.size, B1.out.size⟩
 generalize hz2 : w2.heap.size = z2 at *
 generalize (w2.alloc (.cells #[.slice a1 f.by_.length c1, .slice a2 f.la.length c2, .int .i64 (f.sp : Int)] 124)) = w3 at *
 refine wpAnyT_one (i := 16) (o := ⟨some 2, .assign (.tmp 18), _, _, _, _⟩) (by kernel_rfl) rfl (fun K hK => ?_)
 go_simp
 refine hK.out _ _ (vac (by kernel_rfl)) ?_
 clear hK K
 (try simp only [zzp, zzb, zzc])
 refine wpAnyT_done (by kernel_rfl) ?_ _
 go_wp2_with fail
 go_ret
 have D3' : Below w2.heap.size w2 w3 := by rw [hz2]; exact D3.out
 have o1 : Ob q.heap.size w3 (.slice a1 f.by_.length c1) f.by_ := (O1.out.below U2.out).below D3'
 have o2 : Ob w1.heap.size w3 (.slice a2 f.la.length c2) f.la := O2.out.below D3'
 refine ⟨z2, _, _, rfl, ⟨⟨N3.out, o1.low (Nat.zero_le _), o2.low (Nat.zero_le _), ?_, H.out.le, H.out.sp, H.out.sz⟩, ?_⟩, B3.out⟩
 ·intro k hk c
  have q1 := (O1.out.lt k hk).2
  have q2 := (o2.lt k c).1
  omega
 ·have hzw := zw.out
  rintro k (e | e | e)
  ·omega
  ·have := (o1.lt k e).1; omega
  ·have := (o2.lt k e).1; omega
end Go.Proofs.YtjehpijjneghpaaGreat.Dk
