/-
  Tails.
-/
import Derived.Test.YtdelknejmapeaaaDlI
namespace Go.Proofs.Ytdelknejmapeaaa.Dk
open Go.RowKit Go.Maps Go.Sort Go.Shelf Go.Proofs.Ytdelknejmapeaaa.Nm

theorem dsk_directory {w : World} {b : Nat} {S : DS} {O : Nat → Prop} {f g : Nat} {pd : Value} {am : Option Nat} {VB VL : Nat → Value} (h : Dsk w b S O f g pd am VB VL) (hc : S.c7 < 1000000000) (n : Int) (n0 : -9223372036854775808 ≤ n) (n1 : n ≤ 9223372036854775807) :
    Calls Try.prog 37 #[.pointer (some ⟨b, 0, none⟩), .int .i64 n] w fun e w' => e = .returned (.map (some w.heap.size)) ∧ Mp w' w.heap.size (S.front n) ∧ Below w.heap.size w w' := by
  have hcn := h.ok.cnt
  exact directory_any w b g (dcells (S.dc f g pd am)) S.l2 S.P pd n h.dk.box rfl rfl h.dk.mg h.dk.pd.row h.dk.ok h.dk.can (by unfold maxLen; omega) n0 n1
theorem front_len {S : DS} (h : S.ok) (hc : S.c7 < 1000000000) (n : Int) : (S.front n).length ≤ 1000000000 := by
  have h1 := h.cnt
  have h2 := runs_len S.l2 (S.P.take (wthn n S.P.length))
  rw [List.length_take] at h2
  unfold DS.front
  omega
theorem mem_front {S : DS} {n : Int} {s : List UInt8} {p : Nat} (h : get (S.front n) s = some p) : p ∈ S.ps := DS.mem_front (List.mem_map.2 ⟨_, get_mem h, rfl⟩)
set_option maxRecDepth 100000 in
set_option maxHeartbeats 1000000 in
theorem tails_any {w : World} {b : Nat} {S : DS} {O : Nat → Prop} {f g : Nat} {pd : Value} {am : Option Nat} {VB VL : Nat → Value} (h : Dsk w b S O f g pd am VB VL) (hc : S.c7 < 1000000000) (n : Int) (n0 : -9223372036854775808 ≤ n) (n1 : n ≤ 9223372036854775807) :
    Calls Try.prog 23 #[.pointer (some ⟨b, 0, none⟩), .int .i64 n] w fun e w' => ∃ v, e = .returned v ∧ Tl w.heap.size w' v (S.tails n) ∧ Below w.heap.size w w' := by
  have hM := made_any w _ _ h.dk.dp
  rw [show madeD (some (S.dc f g pd am)) = true from rfl] at hM
  have hD := dsk_directory h hc n n0 n1
  have hlen := front_len h.ok hc n
  have H := hide h
  have hfl : Hid (∀ p s, get (S.front n) s = some p → p ∈ S.ps) := fun p s hp => mem_front hp
  have hE : Hid (S.tails n = (nms (S.front n)).map fun s => (s, tlOf S.F (S.front n) s)) := rfl
  rw [hE.out]
  generalize S.front n = l at *
  have hN := hide (nms_len l)
  have hmem : Hid (∀ k (hk : k < (nms l).length), ∃ p, get l (nms l)[k] = some p) := fun k hk => nms_get (List.getElem_mem hk)
  obtain ⟨i0, hi, hz0, hz1, hz2⟩ := info_parts infoTl
  replace hi := hide hi
  clear h hE
  go_enter Try.func23, Try.ntmps23
  go_wp2_with (first
    | (go_at_call 36; refine hM.mono ?_; rintro e w1 ⟨rfl, e1⟩; subst w1)
    | (go_at_call 37; refine hD.mono ?_; rintro e w1 ⟨rfl, M1, B1⟩; replace M1 := hide M1; replace B1 := hide B1)
    | (go_at_call 35; refine (names_any w.heap.size l w1 M1.out hlen).mono ?_; rintro e w2 ⟨v2, rfl, R2, _, B2⟩; have R3 := row_of_owns R2 (by simp); replace B2 := hide B2; obtain ⟨ao, ca, rfl, r2, r3, r4, r5⟩ := R3; rw [List.length_map] at *; replace r5 := hide r5; clear r2 R2))
  obtain ⟨N, hN2⟩ : ∃ N, Hid ((nms l).length = N) := ⟨_, rfl⟩
  rw [hN2.out] at r3 ⊢
  have Q2 : Hid (Tl w2.heap.size w2 (.slice none 0 0) (((nms l).take 0).map fun s => (s, tlOf S.F l s)) ∧ Below w2.heap.size w2 w2) := ⟨Tl.nil _ _, Below.refl _ _⟩
  have hN3 : N ≤ 1000000000 := by rw [← hN2.out, hN.out]; exact hlen
  have i4 : (ca : Int) ≤ 9223372036854775807 := by unfold maxLen at r4; omega
  have KW : Hid (∀ q, Below w2.heap.size w2 q → Below w1.heap.size w1 q ∧ Below w.heap.size w q) := fun q hq => ⟨B2.out.trans (hq.mono B2.out.size), B1.out.trans ((B2.out.trans (hq.mono B2.out.size)).mono B1.out.size)⟩
  clear hM hD hlen r4
  replace hN3 := hide hN3
  go_loopw [6, 18] (fun v6 i wr => ∃ k : Nat, i = .int .i64 k ∧ k ≤ N ∧ Hid (Tl w2.heap.size wr v6 (((nms l).take k).map fun s => (s, tlOf S.F l s)) ∧ Below w2.heap.size w2 wr)) (fun _ i _ => N - (intOf i).toNat)
  case atStart => exact ⟨0, rfl, Nat.zero_le _, Q2.out⟩
  case round =>
    obtain ⟨k, rfl, hk, hQ⟩ := hrel
    by_cases hlt : k < N
    · have i1 : (k : Int) < (N : Int) := by omega
      have hkl : k < (nms l).length := by rw [hN2.out]; exact hlt
      obtain ⟨p, hp⟩ := hmem.out k hkl
      obtain ⟨gb, off, rfl, hcl⟩ := r5.out k (by rw [List.length_map]; exact hkl)
      have hcell : wr.cell? ⟨gb, off + k, none⟩ = some (.string (bsOf (nms l)[k])) := by
        rw [hQ.out.2.cell (p := ⟨gb, off + k, none⟩) (lt_of_cell hcl), hcl, List.getElem_map]; rfl
      have hB := KW.out wr hQ.out.2
      have Mr : Mp wr w.heap.size l := M1.out.heap (hB.1.block _ M1.out.lt)
      have hL := Mr.look (s := bsOf (nms l)[k]) (Mr.nlen (List.getElem_mem hkl)) hp
      have hT := tail_any wr p _ _ _ ((H.out.below hB.2).fs.at_ p (hfl.out p _ hp))
      have hTL : Hid (tlOf S.F l (nms l)[k] = (S.F p).by_.length - (S.F p).la.length) := by show _ = _; unfold tlOf; rw [hp]
      rw [← hTL.out] at hT
      have hsn : Hid (((nms l).take (k + 1)).map (fun s => (s, tlOf S.F l s)) = ((nms l).take k).map (fun s => (s, tlOf S.F l s)) ++ [((nms l)[k], tlOf S.F l (nms l)[k])]) := by show _ = _; rw [List.take_succ_eq_append_getElem hkl, List.map_append]; rfl
      unfold TM at hL
      have hLl : Hid ((((nms l).take k).map (fun s => (s, tlOf S.F l s))).length = k) := by show _ = _; rw [List.length_map, List.length_take]; omega
      have O6 := hide hQ.out.1
      have B6 := hide hQ.out.2
      clear hcl Mr hB hp hTL hQ
      generalize ((nms l).take k).map (fun s => (s, tlOf S.F l s)) = L at *
      generalize tlOf S.F l (nms l)[k] = tn at *
      generalize (nms l)[k] = s at *
      clear hkl
      go_wp2_with (first
        | (go_at_call 49; refine hT.mono ?_; rintro e w4 ⟨rfl, nq, e4⟩; have B4 : Hid (Below wr.heap.size wr w4) := (by rw [e4]; exact Qt.below ⟨nq, rfl⟩ _); have O4 : Hid (Tl w2.heap.size w4 u6 L) := (by rw [e4]; exact O6.out); clear e4 hL hT; have N5 := hide (heap_alloc_new w4 (.cells #[.string (bsOf s), .int .i64 (tn : Int)] 72)); have O5 : Hid (Tl w2.heap.size (w4.alloc (.cells #[.string (bsOf s), .int .i64 (tn : Int)] 72)) u6 L) := hide (World.ownsRow.alloc O4.out _))
        | (at_builtin; refine wpList_append_lies _ rfl (.tmp 22) (.tmp 29) 58 rfl w2.heap.size 72 i0 (.agg #[.string ⟨#[]⟩, .int .i64 0]) 2 24 Try.underlying58 hi.out hz0 hz1 hz2 rfl (by decide) u6 L.length (tcells L) rfl O5.out ⟨w4.heap.size, 0, none⟩ 1 1 [.string (bsOf s), .int .i64 (tn : Int)] rfl rfl (two_new N5.out) (by simp [Value.oneCell']) (by decide) (by have := hLl.out; have := hN3.out; unfold maxLen; omega) (by have := hLl.out; have := hN3.out; omega) (by have q1 := B6.out.size; have q2 := B4.out.size; simp; omega) (w4.heap.size + 1) (by simp) ?_; intro g2 cap2 w5 ho5 hg5 hat hlt5; replace ho5 := hide ho5; replace hg5 := hide hg5)
        | fail)
      go_roundw
      case rel =>
        refine ⟨k + 1, by go_num, by omega, ?_, ?_⟩
        · rw [hsn.out]
          unfold Tl
          rw [List.length_append, tcells_snoc]
          exact ho5.out
        · refine Below.grown (B6.out.trans ((B4.out.trans ((box_below w4 (.cells #[.string (bsOf s), .int .i64 (tn : Int)] 72)).mono B4.out.size)).mono B6.out.size)) hg5.out ?_ ?_
          · have q1 := B6.out.size; have q2 := B4.out.size; simp; omega
          · intro j hj
            exact (World.ownsRow.lt O4.out j hj).1
      case measure => simp [intOf]; omega
    · obtain rfl : k = N := by omega
      rw [List.take_of_length_le (by rw [hN2.out]; omega)] at hQ
      go_wp2_with fail
      go_ret
      refine ⟨_, rfl, ownsRow_base_a hQ.out.1 (KW.out _ (Below.refl _ _)).2.size, (KW.out _ hQ.out.2).2⟩
#print axioms tails_any
end Go.Proofs.Ytdelknejmapeaaa.Dk
