/-
  Tails.
-/
import Derived.Test.YtjehpijjneghpaaGreatK09
namespace Go.Proofs.YtjehpijjneghpaaGreat.Dk
open Go.RowKit Go.Maps Go.Sort Go.Shelf Go.Proofs.YtjehpijjneghpaaGreat.Nm
theorem dsk_directory {w : World} {b : Nat} {S : DS} {O : Nat → Prop} {f g : Nat} {pd : Value} {am : Option Nat} {VB VL : Nat → Value} (h : Dsk w b S O f g pd am VB VL) (hc : S.c7 < 1000000000) (n : Int) (n0 : -9223372036854775808 ≤ n) (n1 : n ≤ 9223372036854775807) :
    Calls Tryz.prog 80 #[.pointer (some ⟨b, 0, none⟩), .int .i64 n] w fun e w' => e = .returned (.map (some w.heap.size)) ∧ Mp w' w.heap.size (S.front n) ∧ Below w.heap.size w w' := by
  have hcn := h.ok.cnt
  exact directory_any w b g (dcells (S.dc f g pd am)) S.l2 S.P pd n h.dk.box rfl rfl h.dk.mg h.dk.pd.row h.dk.ok h.dk.can (by unfold maxLen; omega) n0 n1
theorem front_len {S : DS} (h : S.ok) (hc : S.c7 < 1000000000) (n : Int) : (S.front n).length ≤ 1000000000 := by
  have h1 := h.cnt
  have h2 := runs_len S.l2 (S.P.take (wthn n S.P.length))
  rw [List.length_take] at h2
  unfold DS.front
  omega
theorem mem_front {S : DS} {n : Int} {s : List UInt8} {p : Nat} (h : get (S.front n) s = some p) : p ∈ S.ps := DS.mem_front (List.mem_map.2 ⟨_, get_mem h, rfl⟩)
set_option maxRecDepth 100000 in
set_option maxHeartbeats 1000000 in
theorem tails_any {w : World} {b : Nat} {S : DS} {O : Nat → Prop} {f g : Nat} {pd : Value} {am : Option Nat} {VB VL : Nat → Value} (h : Dsk w b S O f g pd am VB VL) (hc : S.c7 < 1000000000) (n : Int) (n0 : -9223372036854775808 ≤ n) (n1 : n ≤ 9223372036854775807) :
    Calls Tryz.prog 27 #[.pointer (some ⟨b, 0, none⟩), .int .i64 n] w fun e w' => ∃ v, e = .returned v ∧ Tl w.heap.size w' v (S.tails n) ∧ Below w.heap.size w w' := by
  have hM := made_any w _ _ h.dk.dp
  rw [show madeD (some (S.dc f g pd am)) = true from rfl] at hM
  have hD := dsk_directory h hc n n0 n1
  have hlen := front_len h.ok hc n
  have H := hide h
  have hfl : Hid (∀ p s, get (S.front n) s = some p → p ∈ S.ps) := fun p s hp => mem_front hp
  have hE : Hid (S.tails n = (nms (S.front n)).map fun s => (s, tlOf S.F (S.front n) s)) := rfl
  rw [hE.out]
  generalize S.front n = l at *
  have hN := hide (nms_len l)
  have hmem : Hid (∀ k (hk : k < (nms l).length), ∃ p, get l (nms l)[k] = some p) := fun k hk => nms_get (List.getElem_mem hk)
  obtain ⟨i0, hi, hz0, hz1, hz2⟩ := info_parts infoTl
  replace hi := hide hi
  clear h hE
  go_enter Tryz.func27, Tryz.ntmps27
  go_wp2_with (first
    | (go_at_call 79; refine hM.mono ?_; rintro e w1 ⟨rfl, e1⟩; subst w1)
    | (go_at_call 80; refine hD.mono ?_; rintro e w1 ⟨rfl, M1, B1⟩; replace M1 := hide M1; replace B1 := hide B1)
    | (go_at_call 81; refine (names_any w.heap.size l w1 M1.out hlen).mono ?_; rintro e w2 ⟨v2, rfl, R2, _, B2⟩; have R3 := row_of_owns R2 (by simp); replace B2 := hide B2; obtain ⟨ao, ca, rfl, r2, r3, r4, r5⟩ := R3; rw [List.length_map] at *; replace r5 := hide r5; clear r2 R2))
  obtain ⟨N, hN2⟩ : ∃ N, Hid ((nms l).length = N) := ⟨_, rfl⟩
  rw [hN2.out] at r3 ⊢
  have Q2 : Hid (Tl w2.heap.size w2 (.slice none 0 0) (((nms l).take 0).map fun s => (s, tlOf S.F l s)) ∧ Below w2.heap.size w2 w2) := ⟨Tl.nil _ _, Below.refl _ _⟩
  have hN3 : N ≤ 1000000000 := by rw [← hN2.out, hN.out]; exact hlen
  have i4 : (ca : Int) ≤ 9223372036854775807 := by unfold maxLen at r4; omega
  have KW : Hid (∀ q, Below w2.heap.size w2 q → Below w1.heap.size w1 q ∧ Below w.heap.size w q) := fun q hq => ⟨B2.out.trans (hq.mono B2.out.size), B1.out.trans ((B2.out.trans (hq.mono B2.out.size)).mono B1.out.size)⟩
  clear hM hD hlen r4
  replace hN3 := hide hN3
  go_loopw [6, 18] (fun v6 i wr => ∃ k : Nat, i = .int .i64 k ∧ k ≤ N ∧ Hid (Tl w2.heap.size wr v6 (((nms l).take k).map fun s => (s, tlOf S.F l s)) ∧ Below w2.heap.size w2 wr)) (fun _ i _ => N - (intOf i).toNat)
  case atStart => exact ⟨0, rfl, Nat.zero_le _, Q2.out⟩
  case round =>
    obtain ⟨k, rfl, hk, hQ⟩ := hrel
    by_cases hlt : k < N
    · have i1 : (k : Int) < (N : Int) := by omega
      have hkl : k < (nms l).length := by rw [hN2.out]; exact hlt
      obtain ⟨p, hp⟩ := hmem.out k hkl
      obtain ⟨gb, off, rfl, hcl⟩ := r5.out k (by rw [List.length_map]; exact hkl)
      have hcell : wr.cell? ⟨gb, off + k, none⟩ = some (.string (bsOf (nms l)[k])) := by
        rw [hQ.out.2.cell (p := ⟨gb, off + k, none⟩) (lt_of_cell hcl), hcl, List.getElem_map]; rfl
      have hB := KW.out wr hQ.out.2
      have Mr : Mp wr w.heap.size l := M1.out.heap (hB.1.block _ M1.out.lt)
      have hL := Mr.look (s := bsOf (nms l)[k]) (Mr.nlen (List.getElem_mem hkl)) hp
      have hT := tail_any wr p _ _ _ ((H.out.below hB.2).fs.at_ p (hfl.out p _ hp))
      have hTL : Hid (tlOf S.F l (nms l)[k] = (S.F p).by_.length - (S.F p).la.length) := by show _ = _; unfold tlOf; rw [hp]
      rw [← hTL.out] at hT
      have hsn : Hid (((nms l).take (k + 1)).map (fun s => (s, tlOf S.F l s)) = ((nms l).take k).map (fun s => (s, tlOf S.F l s)) ++ [((nms l)[k], tlOf S.F l (nms l)[k])]) := by show _ = _; rw [List.take_succ_eq_append_getElem hkl, List.map_append]; rfl
      unfold TM at hL
      have hLl : Hid ((((nms l).take k).map (fun s => (s, tlOf S.F l s))).length = k) := by show _ = _; rw [List.length_map, List.length_take]; omega
      have O6 := hide hQ.out.1
      have B6 := hide hQ.out.2
      clear hcl Mr hB hp hTL hQ
      generalize ((nms l).take k).map (fun s => (s, tlOf S.F l s)) = L at *
      generalize tlOf S.F l (nms l)[k] = tn at *
      generalize (nms l)[k] = s at *
      clear hkl
      go_wp2_with (first
        | (go_at_call 85; refine hT.mono ?_; rintro e w4 ⟨rfl, nq, e4⟩; have B4 : Hid (Below wr.heap.size wr w4) := (by rw [e4]; exact Qt.below ⟨nq, rfl⟩ _); have O4 : Hid (Tl w2.heap.size w4 u6 L) := (by rw [e4]; exact O6.out); clear e4 hL hT; have N5 := hide (heap_alloc_new w4 (.cells #[.string (bsOf s), .int .i64 (tn : Int)] 68)); have O5 : Hid (Tl w2.heap.size (w4.alloc (.cells #[.string (bsOf s), .int .i64 (tn : Int)] 68)) u6 L) := hide (World.ownsRow.alloc O4.out _))
        | (at_builtin; refine wpList_append_lies _ rfl (.tmp 22) (.tmp 29) 65 rfl w2.heap.size 68 i0 (.agg #[.string ⟨#[]⟩, .int .i64 0]) 2 24 Tryz.underlying65 hi.out hz0 hz1 hz2 rfl (by decide) u6 L.length (tcells L) rfl O5.out ⟨w4.heap.size, 0, none⟩ 1 1 [.string (bsOf s), .int .i64 (tn : Int)] rfl rfl (two_new N5.out) (by simp [Value.oneCell']) (by decide) (by have := hLl.out; have := hN3.out; unfold maxLen; omega) (by have := hLl.out; have := hN3.out; omega) (by have q1 := B6.out.size; have q2 := B4.out.size; simp; omega) (w4.heap.size + 1) (by simp) ?_; intro g2 cap2 w5 ho5 hg5 hat hlt5; replace ho5 := hide ho5; replace hg5 := hide hg5)
        | fail)
      go_roundw
      case rel =>
        refine ⟨k + 1, by go_num, by omega, ?_, ?_⟩
        · rw [hsn.out]
          unfold Tl
          rw [List.length_append, tcells_snoc]
          exact ho5.out
        · refine Below.grown (B6.out.trans ((B4.out.trans ((box_below w4 (.cells #[.string (bsOf s), .int .i64 (tn : Int)] 68)).mono B4.out.size)).mono B6.out.size)) hg5.out ?_ ?_
          · have q1 := B6.out.size; have q2 := B4.out.size; simp; omega
          · intro j hj
            exact (World.ownsRow.lt O4.out j hj).1
      case measure => simp [intOf]; omega
    · obtain rfl : k = N := by omega
      rw [List.take_of_length_le (by rw [hN2.out]; omega)] at hQ
      go_wp2_with fail
      go_ret
      refine ⟨_, rfl, ownsRow_base_a hQ.out.1 (KW.out _ (Below.refl _ _)).2.size, (KW.out _ hQ.out.2).2⟩
end Go.Proofs.YtjehpijjneghpaaGreat.Dk
namespace Go.Proofs.YtjehpijjneghpaaGreat.Dk
open Go.RowKit Go.Maps Go.Sort Go.Shelf Go.Proofs.YtjehpijjneghpaaGreat.Nm
abbrev Kep := Int × List UInt8
def crFl (f : Fl) (k : Kep) : Fl := ⟨crF f k.1 k.2, crF f k.1 k.2, 0⟩
def crash1 (F : Nat → Fl) (l : Dr) (s : List UInt8) (k : Kep) : Nat → Fl := match get l s with | some p => upd F p (crFl (F p) k) | none => F
def crashL (l : Dr) : List (List UInt8) → List Kep → (Nat → Fl) → (Nat → Fl)
  | [], _, F => F
  | s :: r, ks, F => crashL l r ks.tail (crash1 F l s (ks.headD (0, [])))
theorem crashL_snoc (l : Dr) (A : List (List UInt8)) (s : List UInt8) (ks : List Kep) (F : Nat → Fl) : crashL l (A ++ [s]) ks F = crash1 (crashL l A ks F) l s (ks.getD A.length (0, [])) := by
  induction A generalizing ks F with
  | nil => cases ks <;> rfl
  | cons a r ih =>
    simp only [List.cons_append, crashL, ih, List.length_cons]
    congr 1
    cases ks with
    | nil => simp
    | cons k q => simp
def DS.crash (S : DS) (d : Int) (ks : List Kep) : DS := { S with up := true, l2 := S.front d, P := [], al := [], F := crashL (S.front d) (nms (S.front d)) ks S.F }
def SIn (Z : Nat → Prop) (v : Value) : Prop := ∀ b off n c, v = .slice (some ⟨b, off, none⟩) n c → 0 < n → Z b
def Kp (Z : Nat → Prop) (w : World) (v : Value) (ks : List Kep) : Prop :=
  ∃ ao cap, v = .slice ao ks.length cap ∧ ks.length ≤ cap ∧ cap ≤ maxLen ∧ ∀ i (h : i < ks.length), ∃ b off vj, ao = some ⟨b, off, none⟩ ∧ Z b ∧ w.cell? ⟨b, off + i * 2, none⟩ = some (.int .i64 ks[i].1) ∧ w.cell? ⟨b, off + i * 2 + 1, none⟩ = some vj ∧ Sl w vj ks[i].2 ∧ SIn Z vj ∧ -9223372036854775808 ≤ ks[i].1 ∧ ks[i].1 ≤ 9223372036854775807
theorem cell_but {X : Nat → Prop} {w w' : World} {b o : Nat} {u : Value} (h : w.cell? ⟨b, o, none⟩ = some u) (hb : But X w w') (hx : ¬ X b) : w'.cell? ⟨b, o, none⟩ = some u := by
  rw [← h]
  have := hb.block b (lt_of_cell h) hx
  unfold World.cell?
  dsimp only
  rw [this]
theorem Kp.but {Z X : Nat → Prop} {w w' : World} {v : Value} {ks : List Kep} (h : Kp Z w v ks) (hb : But X w w') (hx : ∀ k, Z k → ¬ X k) : Kp Z w' v ks := by
  obtain ⟨ao, cap, e, h1, h2, h3⟩ := h
  refine ⟨ao, cap, e, h1, h2, fun i hi => ?_⟩
  obtain ⟨b, off, vj, e1, z, c1, c2, sl, si, n0, n1⟩ := h3 i hi
  exact ⟨b, off, vj, e1, z, cell_but c1 hb (hx b z), cell_but c2 hb (hx b z), sl_but sl hb (fun b' o n c e z k => hx b' (si b' o n c e z) k), si, n0, n1⟩
theorem Kp.below {Z : Nat → Prop} {w w' : World} {v : Value} {ks : List Kep} (h : Kp Z w v ks) (hb : Below w.heap.size w w') : Kp Z w' v ks := h.but (But.of_below hb fun _ => False) fun _ _ c => c
structure CrI (w3 wr : World) (O : Nat → Prop) (b m : Nat) (cs : Array Value) (l : Dr) (ps : List Nat) (F : Nat → Fl) (VB VL : Nat → Value) : Prop where
  box : wr.heap[b]? = some (.cells cs TD (0, 0))
  mp : Mp wr m l
  fs : Fs wr (fun k => k = b ∨ k = m) ps F VB VL
  but : But O w3 wr
  own : ∀ p ∈ ps, ∀ k, FOwn p (VB p) (VL p) k → O k ∨ w3.heap.size ≤ k
  sz : ∀ p ∈ ps, (F p).by_.length ≤ 16777216
theorem CrI.below {w3 wr w' : World} {O : Nat → Prop} {b m : Nat} {cs : Array Value} {l : Dr} {ps : List Nat} {F : Nat → Fl} {VB VL : Nat → Value} (h : CrI w3 wr O b m cs l ps F VB VL) (hb : Below wr.heap.size wr w') : CrI w3 w' O b m cs l ps F VB VL :=
  ⟨(hb.block b (heap_lt h.box)).trans h.box, h.mp.heap (hb.block m h.mp.lt), h.fs.but (But.of_below hb fun _ => False) (fun _ _ _ _ c => c), h.but.trans (But.of_below hb _), h.own, h.sz⟩
theorem but_trans_new {w3 q w' : World} {O Y : Nat → Prop} (h : But O w3 q) (k : But Y q w') (hy : ∀ i, Y i → O i ∨ w3.heap.size ≤ i) : But O w3 w' :=
  ⟨k.os.trans h.os, k.tape.trans h.tape, k.output.trans h.output, Nat.le_trans h.size k.size, fun i hi hx => by
    rw [k.block i (Nat.lt_of_lt_of_le hi h.size) (fun c => ?_)]
    · exact h.block i hi hx
    · rcases hy i c with z | z
      · exact hx z
      · omega⟩
theorem CrI.step {w3 q w' : World} {O : Nat → Prop} {b m p : Nat} {cs : Array Value} {l : Dr} {ps : List Nat} {F : Nat → Fl} {VB VL : Nat → Value} {k : Kep} {vb vl : Value} (h : CrI w3 q O b m cs l ps F VB VL) (hp : p ∈ ps) (hf : FlAt w' p (crFl (F p) k) vb vl) (hb : But (fun k => k = p) q w') (ho : ∀ k, FOwn p vb vl k → k = p ∨ q.heap.size ≤ k) :
    CrI w3 w' O b m cs l ps (upd F p (crFl (F p) k)) (upd VB p vb) (upd VL p vl) := by
  have hbp : b ≠ p := fun e => h.fs.no p hp p (.inl rfl) (.inl e.symm)
  have hmp : m ≠ p := fun e => h.fs.no p hp p (.inl rfl) (.inr e.symm)
  refine ⟨hb.at h.box hbp, h.mp.but hb hmp, h.fs.one hp hf (hb.mono fun k _ e => .inl e) (fun k hk => ?_) ?_, but_trans_new h.but hb (fun i e => by rw [e]; exact h.own p hp p (.inl rfl)), fun r hr i hi => ?_, fun r hr => ?_⟩
  · rcases ho k hk with e | e
    · exact .inl (.inl e)
    · exact .inr e
  · rintro k (e | e)
    · rw [e]; exact heap_lt h.box
    · rw [e]; exact h.mp.lt
  · by_cases e : r = p
    · subst e
      rw [upd_same, upd_same] at hi
      rcases ho i hi with z | z
      · rw [z]; exact h.own r hr r (.inl rfl)
      · exact .inr (Nat.le_trans h.but.size z)
    · rw [upd_ne _ _ e, upd_ne _ _ e] at hi
      exact h.own r hr i hi
  · by_cases e : r = p
    · subst e
      rw [upd_same]
      have := crF_len (F r) k.1 k.2 (h.fs.at_ r hr).le
      have := h.sz r hr
      show (crF (F r) k.1 k.2).length ≤ _
      omega
    · rw [upd_ne _ _ e]
      exact h.sz r hr
theorem CrI.done {w w3 wr w' : World} {O : Nat → Prop} {b m m' : Nat} {S T : DS} {f g : Nat} {pd : Value} {am : Option Nat} {cs : Array Value} {l : Dr} {F : Nat → Fl} {VB VL : Nat → Value} (h0 : Dk w b (S.dc f g pd am) f g S.dir S.l2 S.P S.al) (hok : S.ok) (hlt : ∀ k, O k → k < w.heap.size) (hob : O b) (hw3 : Below w.heap.size w w3 ∨ But O w w3) (hz3 : w.heap.size ≤ w3.heap.size) (hm : w.heap.size ≤ m)
    (h : CrI w3 wr O b m cs l S.ps F VB VL) (hb : But (fun k => k = b) wr w') (hm' : wr.heap.size ≤ m') (hbx : Bx w' b (T.dc m m' (.slice none 0 0) none)) (mm : Mp w' m l) (mm' : Mp w' m' l)
    (e1 : T.most = S.most) (e2 : T.l2 = l) (e3 : T.P = []) (e4 : T.al = []) (e5 : T.c0 = S.c0 ∧ T.c1 = S.c1 ∧ T.c2 = S.c2 ∧ T.c3 = S.c3 ∧ T.c4 = S.c4 ∧ T.c5 = S.c5 ∧ T.c6 = S.c6 ∧ T.c7 = S.c7 ∧ T.c8 = S.c8) (e6 : T.F = F) (hl : (l.length : Int) ≤ S.c7) (hsub : ∀ p ∈ l.map (·.2), p ∈ S.ps) :
    ∃ O', DskE w' b T O' ∧ Sgo w w' O O' := by
  obtain ⟨q0, q1, q2, q3, q4, q5, q6, q7, q8⟩ := e5
  have hdir : T.dir = l := by unfold DS.dir; rw [e2, e3]; rfl
  have hps : ∀ p ∈ T.ps, p ∈ S.ps := by
    intro p hp
    unfold DS.ps at hp
    rw [e2, e3] at hp
    simp only [List.filterMap_nil, List.append_nil] at hp
    exact hsub p hp
  have hnb : ∀ p ∈ S.ps, ∀ k, FOwn p (VB p) (VL p) k → ¬ k = b := fun p hp k hk e => h.fs.no p hp k hk (.inl e)
  have W : But O w wr := by
    rcases hw3 with z | z
    · exact but_trans_new (But.of_below z O) h.but (fun i e => .inl e)
    · exact z.trans h.but
  have W' : But O w w' := W.trans (hb.mono fun k _ e => by rw [e]; exact hob)
  refine ⟨fun k => O k ∨ (w.heap.size ≤ k ∧ k < w'.heap.size), ⟨m, m', .slice none 0 0, none, VB, VL, ⟨?_, ?_, ?_, ?_, ?_, ?_⟩⟩, ⟨W', ?_⟩⟩
  · rw [hdir, e2, e3, e4]
    refine ⟨hbx, rfl, rfl, mm, mm', ?_, Pd.nil _, (fun _ e => by cases e), fun _ => rfl, rfl, trivial, (by simp), ?_, ?_⟩
    · have := h.mp.lt; omega
    · show 0 ≤ T.c0 ∧ 0 ≤ T.c1 ∧ 0 ≤ T.c2 ∧ 0 ≤ T.c3 ∧ 0 ≤ T.c4 ∧ 0 ≤ T.c5 ∧ 0 ≤ T.c6 ∧ 0 ≤ T.c7
      rw [q0, q1, q2, q3, q4, q5, q6, q7]; exact h0.c0
    · show T.c0 ≤ T.c7 ∧ T.c1 ≤ T.c7 ∧ T.c2 ≤ T.c7 ∧ T.c3 ≤ T.c7 ∧ T.c4 ≤ T.c7 ∧ T.c5 ≤ T.c7 ∧ T.c6 ≤ T.c7
      rw [q0, q1, q2, q3, q4, q5, q6, q7]; exact h0.c1
  · rw [e6]
    have k1 := (h.fs.but hb hnb).sub hps
    refine ⟨k1.at_, k1.ap, fun p hp k hk c => ?_⟩
    rcases c with c | c | c | c | c
    · exact k1.no p hp k hk (.inl c)
    · simp only [DS.dc, Option.some.injEq] at c; exact k1.no p hp k hk (.inr c.symm)
    · simp only [DS.dc, Option.some.injEq] at c
      have := (h.fs.at_ p (hps p hp)).lt k hk
      omega
    · simp [DS.dc, Value.ownBlock] at c
    · simp [DS.dc] at c
  · intro k hk
    rcases hk with c | c | c | c | c
    · rw [c]; exact .inl hob
    · simp only [DS.dc, Option.some.injEq] at c; subst c; exact .inr ⟨hm, mm.lt⟩
    · simp only [DS.dc, Option.some.injEq] at c; subst c; exact .inr ⟨Nat.le_trans W.size hm', mm'.lt⟩
    · simp [DS.dc, Value.ownBlock] at c
    · simp [DS.dc] at c
  · intro p hp k hk
    rcases h.own p (hps p hp) k hk with z | z
    · exact .inl z
    · exact .inr ⟨Nat.le_trans hz3 z, Nat.lt_of_lt_of_le ((h.fs.at_ p (hps p hp)).lt k hk) hb.size⟩
  · rintro k (z | z)
    · exact Nat.lt_of_lt_of_le (hlt k z) W'.size
    · exact z.2
  · refine ⟨by rw [e1]; exact hok.most, fun p hp => by rw [e6]; exact h.sz p (hps p hp), by rw [e2, e3, q7]; simpa using hl, by rw [e4]; simp, by rw [q8, q7]; exact hok.by8⟩
  · rintro k (z | z)
    · exact .inl z
    · exact .inr z.1
end Go.Proofs.YtjehpijjneghpaaGreat.Dk
namespace Go.Proofs.YtjehpijjneghpaaGreat.Dk
open Go.RowKit Go.Maps Go.Sort Go.Shelf Go.Proofs.YtjehpijjneghpaaGreat.Nm
open Ix (wp_region_T wpAnyT wpAnyT_take wpAnyT_one wpAnyT_done vac)
set_option maxRecDepth 100000 in
set_option maxHeartbeats 2000000 in
theorem crashD_any {w : World} {b : Nat} {S : DS} {O : Nat → Prop} {f g : Nat} {pd : Value} {am : Option Nat} {VB0 VL0 : Nat → Value} (h : Dsk w b S O f g pd am VB0 VL0) (hc : S.c7 < 1000000000) (n : Int) (n0 : -9223372036854775808 ≤ n) (n1 : n ≤ 9223372036854775807) (v : Value) (Z : Nat → Prop) (ks : List Kep) (hk : Kp Z w v ks) (hZ : ∀ k, Z k → ¬ O k ∧ k < w.heap.size) :
    Calls Tryz.prog 18 #[.pointer (some ⟨b, 0, none⟩), .agg #[.int .i64 n, v]] w fun e w' => e = .returned (.tuple #[]) ∧ ∃ O', DskE w' b (S.crash n ks) O' ∧ Sgo w w' O O' := by
  have hB0 := hide (box_below w (.cells #[.int .i64 n, v] 34))
  have hN0 := hide (heap_alloc_new w (.cells #[.int .i64 n, v] 34))
  have hK0 := hide (hk.below hB0.out)
  obtain ⟨ak, ck, rfl, q1, q2, _⟩ := hk
  obtain ⟨w1, hw1⟩ : ∃ w1, Hid (w.alloc (.cells #[.int .i64 n, .slice ak ks.length ck] 34) = w1) := ⟨_, rfl⟩
  rw [hw1.out] at hB0 hN0 hK0
  have H := hide h
  have H1 := hide (h.below hB0.out)
  have hM := made_any w1 _ _ H1.out.dk.dp
  rw [show madeD (some (S.dc f g pd am)) = true from rfl] at hM
  have hD := dsk_directory H1.out hc n n0 n1
  have hlen := front_len h.ok hc n
  have hfl : Hid (∀ p s, get (S.front n) s = some p → p ∈ S.ps) := fun p s hp => mem_front hp
  have hfs : Hid (∀ p ∈ (S.front n).map (·.2), p ∈ S.ps) := fun p hp => DS.mem_front hp
  have hl7 : Hid (((S.front n).length : Int) ≤ S.c7) := by
    show _ ≤ _
    have h1 := h.ok.cnt
    have h2 := runs_len S.l2 (S.P.take (wthn n S.P.length))
    rw [List.length_take] at h2
    unfold DS.front
    omega
  have hE : Hid (S.crash n ks = { S with up := true, l2 := S.front n, P := [], al := [], F := crashL (S.front n) (nms (S.front n)) ks S.F }) := rfl
  rw [hE.out]
  clear hE
  generalize S.front n = l at *
  have hmem : Hid (∀ k (hk : k < (nms l).length), ∃ p, get l (nms l)[k] = some p) := fun k hk => nms_get (List.getElem_mem hk)
  have x0 : w1.cell? ⟨w.heap.size, 0, none⟩ = some (.int .i64 n) := by simp [World.cell?, hN0.out]
  have d2 : Hid (∀ q, Below w1.heap.size w1 q → q.heap[b]? = some (.cells (dcells (S.dc f g pd am)) TD (0, 0))) := fun q hq => (hq.block b (heap_lt H1.out.dk.box)).trans H1.out.dk.box
  clear h
  go_enter Tryz.func18, Tryz.ntmps18
  go_upto_region 1 with fail
  rw [hw1.out]
  go_upto_region 3 with (first
    | (go_at_call 79; refine hM.mono ?_; rintro e w2 ⟨rfl, e1⟩; subst w2)
    | (go_at_call 80; refine hD.mono ?_; rintro e w2 ⟨rfl, M2, B2⟩; replace M2 := hide M2; replace B2 := hide B2; have b2 := hide (d2.out _ B2.out); have y1 : w2.cell? ⟨b, 2, none⟩ = some (.map (some f)) := (by simp [World.cell?, b2.out, dcells, DS.dc]); have y2 : w2.frozen? ⟨b, 2, none⟩ = false := (by simp [World.frozen?, b2.out])))
  clear y1 y2 x0 hM hD d2
  generalize hm0 : w1.heap.size = m at *
  replace hm0 := hide hm0
  have b3 := hide (heap_setCell_same w2 b 2 _ _ (.map (some m)) b2.out)
  obtain ⟨cs, hcs⟩ : ∃ cs, Hid ((dcells (S.dc f g pd am)).setIfInBounds 2 (.map (some m)) = cs) := ⟨_, rfl⟩
  rw [hcs.out] at b3
  have g3 := hide (But.of_grownBy (X := fun k => k = b) (grown_setCell w2 b 2 (.map (some m))) fun k e => by cases e; rfl)
  have hOb : Hid (O b) := H.out.ow b (.inl rfl)
  have hOl : Hid (∀ k, O k → k < w.heap.size) := H.out.lt
  have z1 := hide hB0.out.size
  have z2 : Hid (m ≤ w2.heap.size) := by have := B2.out.size; rw [hm0.out] at this; exact this
  have W2 : Hid (Below w.heap.size w w2) := hB0.out.trans (by have := B2.out; exact this.mono (by rw [← hm0.out] ; exact hB0.out.size))
  have M3 : Hid (Mp (w2.setCell ⟨b, 2, none⟩ (.map (some m))) m l) := M2.out.but g3.out (fun e => M2.out.ne b2.out e.symm)
  have I3 : Hid (CrI (w2.setCell ⟨b, 2, none⟩ (.map (some m))) (w2.setCell ⟨b, 2, none⟩ (.map (some m))) O b m cs l S.ps S.F VB0 VL0) := by
    have D2 := H.out.below W2.out
    have hsz : w2.heap.size ≤ (w2.setCell ⟨b, 2, none⟩ (.map (some m))).heap.size := g3.out.size
    refine ⟨b3.out, M3.out, ?_, But.of_below (Below.refl _ _) _, fun p hp k hk => .inl (H.out.of p hp k hk), H.out.ok.sz⟩
    have F2 : Fs (w2.setCell ⟨b, 2, none⟩ (.map (some m))) (Own b (S.dc f g pd am)) S.ps S.F VB0 VL0 := D2.fs.but g3.out (fun p hp k hk e => D2.fs.no p hp k hk (.inl e))
    refine ⟨F2.at_, F2.ap, fun p hp k hk c => ?_⟩
    rcases c with e | e
    · exact F2.no p hp k hk (.inl e)
    · have q1 := H.out.fs.lt hp k hk
      have q2 := z1.out
      rw [hm0.out] at q2
      omega
  have W3 : Hid (But O w (w2.setCell ⟨b, 2, none⟩ (.map (some m)))) := (But.of_below W2.out _).trans (g3.out.mono fun k _ e => by rw [e]; exact hOb.out)
  have N3 : Hid ((w2.setCell ⟨b, 2, none⟩ (.map (some m))).heap[w.heap.size]? = some (.cells #[.int .i64 n, .slice ak ks.length ck] 34 (0, 0))) := g3.out.at ((B2.out.block _ (by have := heap_lt hN0.out; rw [hm0.out] at this; exact this)).trans hN0.out) (fun e => by have := hOl.out b hOb.out; omega)
  have K3 : Hid (Kp Z (w2.setCell ⟨b, 2, none⟩ (.map (some m))) (.slice ak ks.length ck) ks) := ((hK0.out.below (by rw [hm0.out]; exact B2.out)).but g3.out (fun k hk e => (hZ k hk).1 (by rw [e]; exact hOb.out)))
  have y2 : (w2.setCell ⟨b, 2, none⟩ (.map (some m))).cell? ⟨b, 2, none⟩ = some (.map (some m)) := by simp [World.cell?, b3.out, ← hcs.out, dcells]
  clear b2 M2 B2 hK0 hN0 hB0 g3 W2
  generalize (w2.setCell ⟨b, 2, none⟩ (.map (some m))) = w3' at *
  go_wp2_with (go_at_call 81; refine (names_any m l w3' M3.out hlen).mono ?_; rintro e w3 ⟨v2, rfl, R2, _, B3⟩; have R3 := row_of_owns R2 (by simp); have hlow : Hid (∀ k, v2.ownBlock = some k → w3'.heap.size ≤ k) := (fun k hk => (World.ownsRow.lt R2 k hk).1); replace B3 := hide B3; obtain ⟨ao, ca, rfl, r2, r3, r4, r5⟩ := R3; rw [List.length_map] at *; replace r5 := hide r5; clear r2 R2)
  obtain ⟨N, hN2⟩ : ∃ N, Hid ((nms l).length = N) := ⟨_, rfl⟩
  rw [hN2.out] at r3 hlow ⊢
  have hN3 : Hid (N ≤ 1000000000) := by show _ ≤ _; rw [← hN2.out, nms_len]; exact hlen
  have i4 : (ca : Int) ≤ 9223372036854775807 := by unfold maxLen at r4; omega
  have i5 : (ck : Int) ≤ 9223372036854775807 := by unfold maxLen at q2; omega
  have I4 : Hid (CrI w3 w3 O b m cs l S.ps (crashL l ((nms l).take 0) ks S.F) VB0 VL0) := by
    have q := I3.out.below B3.out
    exact ⟨q.box, q.mp, q.fs, But.of_below (Below.refl _ _) _, fun p hp k hk => .inl (H.out.of p hp k hk), q.sz⟩
  have N4 : Hid (w3.heap[w.heap.size]? = some (.cells #[.int .i64 n, .slice ak ks.length ck] 34 (0, 0))) := (B3.out.block _ (heap_lt N3.out)).trans N3.out
  have K4 := hide (K3.out.below B3.out)
  have W4 : Hid (But O w w3) := W3.out.trans (But.of_below B3.out _)
  have zz : Hid (w.heap.size ≤ w3'.heap.size) := W3.out.size
  have hZ' : Hid (∀ k, Z k → ¬ O k) := fun k hk => (hZ k hk).1
  have hcs2 : Hid (cs[2]? = some (.map (some m))) := by show _ = _; rw [← hcs.out]; rfl
  have hcz : Hid (cs.size = 15) := by show _ = _; rw [← hcs.out]; rfl
  clear y2 I3 N3 K3 M3 hlen r4 hZ W3 q2
  go_loopw [23] (fun i wr => ∃ k : Nat, i = .int .i64 k ∧ k ≤ N ∧ ∃ (Fk : Nat → Fl) (VB VL : Nat → Value), Hid (crashL l ((nms l).take k) ks S.F = Fk) ∧ Hid (CrI w3 wr O b m cs l S.ps Fk VB VL)) (fun i _ => N - (intOf i).toNat)
  case atStart => exact ⟨0, rfl, Nat.zero_le _, _, _, _, rfl, I4.out⟩
  case round =>
    obtain ⟨k, rfl, hk, Fk, VB, VL, hFk, hI⟩ := hrel
    by_cases hlt : k < N
    · have i1 : (k : Int) < (N : Int) := by omega
      have hkl : k < (nms l).length := by rw [hN2.out]; exact hlt
      obtain ⟨p, hp⟩ := hmem.out k hkl
      obtain ⟨gb, off, rfl, hcl⟩ := r5.out k (by rw [List.length_map]; exact hkl)
      have hgb : ¬ O gb := fun c => by have q1 := hOl.out gb c; have q2 := hlow.out gb rfl; have q3 := zz.out; omega
      have hcell : wr.cell? ⟨gb, off + k, none⟩ = some (.string (bsOf (nms l)[k])) := by
        refine cell_but ?_ hI.out.but hgb
        rw [hcl, List.getElem_map]; rfl
      have hgp := hide hp
      have hps := hide (hfl.out p _ hp)
      have hsn : Hid ((nms l).take (k + 1) = (nms l).take k ++ [(nms l)[k]]) := List.take_succ_eq_append_getElem hkl
      have hlk : Hid (((nms l).take k).length = k) := by show _ = _; rw [List.length_take]; omega
      have hsz := hide (hI.out.mp.nlen (List.getElem_mem hkl))
      have Nr : Hid (wr.heap[w.heap.size]? = some (.cells #[.int .i64 n, .slice ak ks.length ck] 34 (0, 0))) := hI.out.but.at N4.out (fun c => Nat.lt_irrefl _ (hOl.out _ c))
      have Kr := hide (K4.out.but hI.out.but hZ'.out)
      clear hcl hp hgb
      generalize (nms l)[k] = s at *
      clear hkl
      have B5 := hide (box_below wr (.cells #[.int .i64 0, .slice none 0 0] 88))
      have N5 := hide (heap_alloc_new wr (.cells #[.int .i64 0, .slice none 0 0] 88))
      have x1 : (wr.alloc (.cells #[.int .i64 0, .slice none 0 0] 88)).cell? ⟨w.heap.size, 1, none⟩ = some (.slice ak ks.length ck) := by
        have : (wr.alloc (.cells #[.int .i64 0, .slice none 0 0] 88)).heap[w.heap.size]? = _ := (B5.out.block _ (heap_lt Nr.out)).trans Nr.out
        simp [World.cell?, this]
      by_cases hkk0 : k < ks.length
      · have i6 : (k : Int) < (ks.length : Int) := by omega
        obtain ⟨ao', cap', ek, ek1, ek2, ek3⟩ := Kr.out
        simp only [Value.slice.injEq] at ek
        obtain ⟨eka, _, ekc⟩ := ek
        subst eka
        subst ekc
        obtain ⟨kb', ko, vj, rfl, zb, kc1, kc2, ksl, ksi, kn0, kn1⟩ := ek3 k hkk0
        have kc1' := ((B5.out.cell (p := ⟨kb', ko + k * 2, none⟩) (lt_of_cell kc1)).trans kc1)
        have kc2' := ((B5.out.cell (p := ⟨kb', ko + k * 2 + 1, none⟩) (lt_of_cell kc2)).trans kc2)
        have hn0 := hide kn0
        have hn1 := hide kn1
        have hkk : Hid (ks.getD k (0, []) = ((ks[k]).1, (ks[k]).2)) := by show _ = _; rw [List.getD_eq_getElem?_getD, List.getElem?_eq_getElem hkk0]; rfl
        have hvj0 := hide ksl
        obtain ⟨aj, cj, rfl, _⟩ := ksl
        clear ek3 kc1 kc2 ek1 ek2 Kr zb ksi kn0 kn1
        generalize ks[k] = kk at *
        obtain ⟨NJ, J⟩ := kk
        dsimp only at *
        clear hkk0
        go_upto_region 9 with fail
        clear kc1' kc2' hcell B5 N5 x1
        have B6 := hide (box_below wr (.cells #[.int .i64 NJ, .slice aj J.length cj] 88))
        have N6 := hide (heap_alloc_new wr (.cells #[.int .i64 NJ, .slice aj J.length cj] 88))
        generalize wr.alloc (.cells #[.int .i64 NJ, .slice aj J.length cj] 88) = w6 at *
        have g3 : w6.drew.cell? ⟨wr.heap.size, 0, none⟩ = some (.int .i64 NJ) := by show w6.cell? _ = _; simp [World.cell?, N6.out]
        have g4 : w6.drew.cell? ⟨wr.heap.size, 1, none⟩ = some (.slice aj J.length cj) := by show w6.cell? _ = _; simp [World.cell?, N6.out]
        have I6 := hide (hI.out.below B6.out)
        have g2 : w6.drew.cell? ⟨b, 2, none⟩ = some (.map (some m)) := by show w6.cell? _ = _; simp [World.cell?, I6.out.box, hcs2.out]
        have gL : ∀ q, Mp q m l → (Instr.lookup 92 (.map (some m)) (.string (bsOf s)) false).run Tryz.prog q = .ok (.pointer (some ⟨p, 0, none⟩)) q := fun q hq => hq.look (s := bsOf s) hsz.out hgp.out
        have hvj := hide (Below.sl B6.out hvj0.out)
        generalize wr.heap.size = kb at *
        have KC : Hid (∀ q : World, q = w6.drew → q.cell? ⟨b, 2, none⟩ = some (.map (some m)) ∧ (Instr.lookup 92 (.map (some m)) (.string (bsOf s)) false).run Tryz.prog q = .ok (.pointer (some ⟨p, 0, none⟩)) q ∧ q.cell? ⟨kb, 0, none⟩ = some (.int .i64 NJ) ∧ q.cell? ⟨kb, 1, none⟩ = some (.slice aj J.length cj)) := fun q hq => by subst hq; exact ⟨g2, gL w6.drew I6.out.mp, g3, g4⟩
        have KP : Hid (w6.drew = w6.drew) := rfl
        refine wp_region_T (fun q => q = w6.drew) 7 (by kernel_rfl) ?_
        have I7 := hide (I6.out.below (Below.refl _ w6).drew)
        have hCr := crash_any w6.drew p (Fk p) (VB p) (VL p) (.slice aj J.length cj) NJ J (I7.out.fs.at_ p hps.out) (Below.sl (Below.refl _ w6).drew hvj.out) hn0.out hn1.out
        generalize w6.drew = w7 at *
        refine Ix.tk 0 ⟨some 38, .move (.tmp 0), 24, "directory.go:98", #[], none⟩ (.pointer (some ⟨b, 0, none⟩)) [1,2,3,5,7] ?_ KP.out ?_
        · intro wq hSw
          subst hSw
          obtain ⟨y2, y3, y4, y5⟩ := KC.out _ rfl
          go_simp
        (try simp only [Act.put, List.setIfInBounds_toArray, List.set_cons_zero, List.set_cons_succ])
        refine Ix.tk 1 ⟨some 39, .nilCheck (.tmp 38), 0, "directory.go:98", #[⟨0,.data⟩], none⟩ (.pointer (some ⟨b, 0, none⟩)) [2,3,5,7] ?_ KP.out ?_
        · intro wq hSw
          subst hSw
          obtain ⟨y2, y3, y4, y5⟩ := KC.out _ rfl
          go_simp
        (try simp only [Act.put, List.setIfInBounds_toArray, List.set_cons_zero, List.set_cons_succ])
        refine Ix.tk 2 ⟨some 40, .fieldAddr 98 (.tmp 39) 2, 0, "directory.go:98", #[⟨1,.data⟩], none⟩ (.pointer (some ⟨b, 2, none⟩)) [3,5,7] ?_ KP.out ?_
        · intro wq hSw
          subst hSw
          obtain ⟨y2, y3, y4, y5⟩ := KC.out _ rfl
          go_simp
        (try simp only [Act.put, List.setIfInBounds_toArray, List.set_cons_zero, List.set_cons_succ])
        refine Ix.tk 3 ⟨some 41, .load 92 (.tmp 40), 92, "directory.go:98", #[⟨2,.data⟩], none⟩ (.map (some m)) [5,7] ?_ KP.out ?_
        · intro wq hSw
          subst hSw
          obtain ⟨y2, y3, y4, y5⟩ := KC.out _ rfl
          go_simp
        (try simp only [Act.put, List.setIfInBounds_toArray, List.set_cons_zero, List.set_cons_succ])
        refine Ix.tk 4 ⟨some 42, .move (.tmp 5), 9, "directory.go:98", #[], none⟩ (.string (bsOf s)) [5,7] ?_ KP.out ?_
        · intro wq hSw
          subst hSw
          obtain ⟨y2, y3, y4, y5⟩ := KC.out _ rfl
          go_simp
        (try simp only [Act.put, List.setIfInBounds_toArray, List.set_cons_zero, List.set_cons_succ])
        refine Ix.tk 5 ⟨some 43, .lookup 92 (.tmp 41) (.tmp 42) false, 114, "directory.go:98", #[⟨3,.data⟩,⟨4,.data⟩], none⟩ (.pointer (some ⟨p, 0, none⟩)) [7] ?_ KP.out ?_
        · intro wq hSw
          subst hSw
          obtain ⟨y2, y3, y4, y5⟩ := KC.out _ rfl
          go_simp
        (try simp only [Act.put, List.setIfInBounds_toArray, List.set_cons_zero, List.set_cons_succ])
        refine Ix.tk 6 ⟨some 44, .load 88 (.tmp 6), 88, "directory.go:98", #[], none⟩ (.agg #[.int .i64 NJ, .slice aj J.length cj]) [7] ?_ KP.out ?_
        · intro wq hSw
          subst hSw
          obtain ⟨y2, y3, y4, y5⟩ := KC.out _ rfl
          go_simp
        (try simp only [Act.put, List.setIfInBounds_toArray, List.set_cons_zero, List.set_cons_succ])
        refine wpAnyT_one (i := 7) (o := ⟨some 45, .call { callee := .value (.func 82), args := #[.tmp 43, .tmp 44], argTypes := #[114, 88] }, 0, "directory.go:98", #[⟨5, .data⟩, ⟨6, .data⟩], none⟩) (by kernel_rfl) rfl (fun K hK => ?_)
        go_simp
        go_at_call 82
        refine hCr.mono ?_
        rintro e w8 ⟨rfl, vb', vl', F8, B8, O8⟩
        have I8 : Hid (CrI w3 w8 O b m cs l S.ps (upd Fk p (crFl (Fk p) (NJ, J))) (upd VB p vb') (upd VL p vl')) := I7.out.step (k := (NJ, J)) hps.out F8 B8 O8
        (try go_simp)
        refine hK.out _ _ (vac (by kernel_rfl)) ?_
        clear hK K F8 B8 O8 hCr KC
        refine wpAnyT_done (by kernel_rfl) ?_ _
        (try simp only [Act.put, List.setIfInBounds_toArray, List.set_cons_zero, List.set_cons_succ])
        go_wp2_with fail
        go_roundw
        case rel =>
          refine ⟨k + 1, by go_num, by omega, _, _, _, ?_, I8.out⟩
          rw [hsn.out, crashL_snoc, hlk.out, hFk.out]
          unfold crash1
          rw [hgp.out, hkk.out]
          exact rfl
        case measure => simp [intOf]; omega
      · have i6 : ¬ (k : Int) < (ks.length : Int) := by omega
        have hn0 : Hid (-9223372036854775808 ≤ (0 : Int)) := by show _ ≤ _; decide
        have hn1 : Hid ((0 : Int) ≤ 9223372036854775807) := by show _ ≤ _; decide
        have hkk : Hid (ks.getD k (0, []) = ((0 : Int), ([] : List UInt8))) := by show _ = _; rw [List.getD_eq_getElem?_getD, List.getElem?_eq_none (by omega)]; rfl
        go_upto_region 9 with fail
        clear hcell x1
        generalize wr.alloc (.cells #[.int .i64 0, .slice none 0 0] 88) = w6 at *
        have g3 : w6.drew.cell? ⟨wr.heap.size, 0, none⟩ = some (.int .i64 0) := by show w6.cell? _ = _; simp [World.cell?, N5.out]
        have g4 : w6.drew.cell? ⟨wr.heap.size, 1, none⟩ = some (.slice none 0 0) := by show w6.cell? _ = _; simp [World.cell?, N5.out]
        have I6 := hide (hI.out.below B5.out)
        have g2 : w6.drew.cell? ⟨b, 2, none⟩ = some (.map (some m)) := by show w6.cell? _ = _; simp [World.cell?, I6.out.box, hcs2.out]
        have gL : ∀ q, Mp q m l → (Instr.lookup 92 (.map (some m)) (.string (bsOf s)) false).run Tryz.prog q = .ok (.pointer (some ⟨p, 0, none⟩)) q := fun q hq => hq.look (s := bsOf s) hsz.out hgp.out
        have hvj : Hid (Sl w6 (.slice none 0 0) []) := (Ob.nil 0 w6).sl
        generalize wr.heap.size = kb at *
        have KC : Hid (∀ q : World, q = w6.drew → q.cell? ⟨b, 2, none⟩ = some (.map (some m)) ∧ (Instr.lookup 92 (.map (some m)) (.string (bsOf s)) false).run Tryz.prog q = .ok (.pointer (some ⟨p, 0, none⟩)) q ∧ q.cell? ⟨kb, 0, none⟩ = some (.int .i64 (0 : Int)) ∧ q.cell? ⟨kb, 1, none⟩ = some (.slice none 0 0)) := fun q hq => by subst hq; exact ⟨g2, gL w6.drew I6.out.mp, g3, g4⟩
        have KP : Hid (w6.drew = w6.drew) := rfl
        refine wp_region_T (fun q => q = w6.drew) 7 (by kernel_rfl) ?_
        have I7 := hide (I6.out.below (Below.refl _ w6).drew)
        have hCr := crash_any w6.drew p (Fk p) (VB p) (VL p) (.slice none 0 0) (0 : Int) ([] : List UInt8) (I7.out.fs.at_ p hps.out) (Below.sl (Below.refl _ w6).drew hvj.out) hn0.out hn1.out
        generalize w6.drew = w7 at *
        refine Ix.tk 0 ⟨some 38, .move (.tmp 0), 24, "directory.go:98", #[], none⟩ (.pointer (some ⟨b, 0, none⟩)) [1,2,3,5,7] ?_ KP.out ?_
        · intro wq hSw
          subst hSw
          obtain ⟨y2, y3, y4, y5⟩ := KC.out _ rfl
          go_simp
        (try simp only [Act.put, List.setIfInBounds_toArray, List.set_cons_zero, List.set_cons_succ])
        refine Ix.tk 1 ⟨some 39, .nilCheck (.tmp 38), 0, "directory.go:98", #[⟨0,.data⟩], none⟩ (.pointer (some ⟨b, 0, none⟩)) [2,3,5,7] ?_ KP.out ?_
        · intro wq hSw
          subst hSw
          obtain ⟨y2, y3, y4, y5⟩ := KC.out _ rfl
          go_simp
        (try simp only [Act.put, List.setIfInBounds_toArray, List.set_cons_zero, List.set_cons_succ])
        refine Ix.tk 2 ⟨some 40, .fieldAddr 98 (.tmp 39) 2, 0, "directory.go:98", #[⟨1,.data⟩], none⟩ (.pointer (some ⟨b, 2, none⟩)) [3,5,7] ?_ KP.out ?_
        · intro wq hSw
          subst hSw
          obtain ⟨y2, y3, y4, y5⟩ := KC.out _ rfl
          go_simp
        (try simp only [Act.put, List.setIfInBounds_toArray, List.set_cons_zero, List.set_cons_succ])
        refine Ix.tk 3 ⟨some 41, .load 92 (.tmp 40), 92, "directory.go:98", #[⟨2,.data⟩], none⟩ (.map (some m)) [5,7] ?_ KP.out ?_
        · intro wq hSw
          subst hSw
          obtain ⟨y2, y3, y4, y5⟩ := KC.out _ rfl
          go_simp
        (try simp only [Act.put, List.setIfInBounds_toArray, List.set_cons_zero, List.set_cons_succ])
        refine Ix.tk 4 ⟨some 42, .move (.tmp 5), 9, "directory.go:98", #[], none⟩ (.string (bsOf s)) [5,7] ?_ KP.out ?_
        · intro wq hSw
          subst hSw
          obtain ⟨y2, y3, y4, y5⟩ := KC.out _ rfl
          go_simp
        (try simp only [Act.put, List.setIfInBounds_toArray, List.set_cons_zero, List.set_cons_succ])
        refine Ix.tk 5 ⟨some 43, .lookup 92 (.tmp 41) (.tmp 42) false, 114, "directory.go:98", #[⟨3,.data⟩,⟨4,.data⟩], none⟩ (.pointer (some ⟨p, 0, none⟩)) [7] ?_ KP.out ?_
        · intro wq hSw
          subst hSw
          obtain ⟨y2, y3, y4, y5⟩ := KC.out _ rfl
          go_simp
        (try simp only [Act.put, List.setIfInBounds_toArray, List.set_cons_zero, List.set_cons_succ])
        refine Ix.tk 6 ⟨some 44, .load 88 (.tmp 6), 88, "directory.go:98", #[], none⟩ (.agg #[.int .i64 (0 : Int), .slice none 0 0]) [7] ?_ KP.out ?_
        · intro wq hSw
          subst hSw
          obtain ⟨y2, y3, y4, y5⟩ := KC.out _ rfl
          go_simp
        (try simp only [Act.put, List.setIfInBounds_toArray, List.set_cons_zero, List.set_cons_succ])
        refine wpAnyT_one (i := 7) (o := ⟨some 45, .call { callee := .value (.func 82), args := #[.tmp 43, .tmp 44], argTypes := #[114, 88] }, 0, "directory.go:98", #[⟨5, .data⟩, ⟨6, .data⟩], none⟩) (by kernel_rfl) rfl (fun K hK => ?_)
        go_simp
        go_at_call 82
        refine hCr.mono ?_
        rintro e w8 ⟨rfl, vb', vl', F8, B8, O8⟩
        have I8 : Hid (CrI w3 w8 O b m cs l S.ps (upd Fk p (crFl (Fk p) ((0 : Int), ([] : List UInt8)))) (upd VB p vb') (upd VL p vl')) := I7.out.step (k := ((0 : Int), ([] : List UInt8))) hps.out F8 B8 O8
        (try go_simp)
        refine hK.out _ _ (vac (by kernel_rfl)) ?_
        clear hK K F8 B8 O8 hCr KC
        refine wpAnyT_done (by kernel_rfl) ?_ _
        (try simp only [Act.put, List.setIfInBounds_toArray, List.set_cons_zero, List.set_cons_succ])
        go_wp2_with fail
        go_roundw
        case rel =>
          refine ⟨k + 1, by go_num, by omega, _, _, _, ?_, I8.out⟩
          rw [hsn.out, crashL_snoc, hlk.out, hFk.out]
          unfold crash1
          rw [hgp.out, hkk.out]
          exact rfl
        case measure => simp [intOf]; omega
    · obtain rfl : k = N := by omega
      rw [List.take_of_length_le (by rw [hN2.out]; omega)] at hFk
      have hS := settle_any wr b m cs l hI.out.box hcz.out hcs2.out hI.out.mp
      go_wp2_with (go_at_call 74; refine hS.mono ?_; rintro e w9 ⟨rfl, m', hm', M9, b9, B9⟩; replace M9 := hide M9; replace B9 := hide B9; replace b9 := hide b9; replace hm' := hide hm'; have t1 : w9.cell? ⟨b, 5, none⟩ = some (cs.getD 5 undef) := (by have := hcz.out; simp [World.cell?, b9.out, this]); have t2 : w9.frozen? ⟨b, 5, none⟩ = false := (by simp [World.frozen?, b9.out]); have b10 := hide (heap_setCell_same w9 b 5 _ _ (.map none) b9.out); have t3 : (w9.setCell ⟨b, 5, none⟩ (.map none)).cell? ⟨b, 1, none⟩ = some (cs.getD 1 undef) := (by have := hcz.out; simp [World.cell?, b10.out, this]); have t4 : (w9.setCell ⟨b, 5, none⟩ (.map none)).frozen? ⟨b, 1, none⟩ = false := (by simp [World.frozen?, b10.out]))
      go_end0
      have b11 := heap_setCell_same _ b 1 _ _ (.bool true) b10.out
      have gg := (But.of_grownBy (X := fun k => k = b) (grown_setCell w9 b 5 (.map none)) fun k e => by cases e; rfl).trans (But.of_grownBy (X := fun k => k = b) (grown_setCell (w9.setCell ⟨b, 5, none⟩ (.map none)) b 1 (.bool true)) fun k e => by cases e; rfl)
      have hne : m ≠ b := fun e => hI.out.mp.ne hI.out.box e.symm
      have hne' : m' ≠ b := fun e => by have q1 := heap_lt hI.out.box; have q2 := hm'.out; omega
      have Mm : Mp w9 m l := hI.out.mp.but B9.out hne
      refine ⟨rfl, hI.out.done (T := { S with up := true, l2 := l, P := [], al := [], F := crashL l (nms l) ks S.F }) H.out.dk H.out.ok hOl.out hOb.out (.inr W4.out) W4.out.size (by have := z1.out; rw [hm0.out] at this; exact this) (B9.out.trans gg) hm'.out ?_ (Mm.but gg hne) (M9.out.but gg hne') rfl rfl rfl rfl ⟨rfl, rfl, rfl, rfl, rfl, rfl, rfl, rfl, rfl⟩ hFk.out hl7.out hfs.out⟩
      unfold Bx
      rw [b11, ← hcs.out]
      rfl
end Go.Proofs.YtjehpijjneghpaaGreat.Dk
