/-
  CatalogAts: the walk.
-/
import Derived.Test.YtcbmkoneiidhaaaCtP
namespace Go.Proofs.Ytcbmkoneiidhaaa.Ct
open Go.RowKit

theorem May.isAt {g f : Int} {l : List Sg} (h : May g f l) {n : Int} (hn : f ≤ n) : ∃ i, IsAt l n i := by
  have ex : ∀ m, m ≤ l.length → 1 ≤ m → (∀ j, m ≤ j → j < l.length → n < (sg l j).ba) → ∃ i, IsAt l n i := by
    intro m
    induction m with
    | zero => intro _ h1; omega
    | succ m ih =>
      intro h1 h2 h3
      by_cases c : (sg l m).ba ≤ n
      · exact ⟨m, by omega, c, fun j a b => h3 j (by omega) b⟩
      · by_cases z : m = 0
        · subst z
          have := h.be.1
          omega
        · exact ih (by omega) (by omega) fun j a b => by
            by_cases e : j = m
            · subst e; omega
            · exact h3 j (by omega) b
  exact ex l.length (Nat.le_refl _) h.n1 fun j a b => by omega
theorem IsAt.end {g f : Int} {l : List Sg} {n : Int} {i : Nat} (h : May g f l) (hi : IsAt l n i) (hl : i + 1 < l.length) : n < (sg l i).en := by
  have := hi.2.2 (i + 1) (by omega) hl
  obtain ⟨_, _, _, e⟩ := h.lk i hl
  omega
set_option maxRecDepth 20000 in
set_option maxHeartbeats 2000000 in
theorem ats_walk (w : World) (g fi : Int) (v : Value) (l : List Sg) (y : Int) (hv : Sgs w v l) (hg : g ≤ 9223372036854775807) (hf0 : -9223372036854775808 ≤ fi) (hf : fi ≤ 9223372036854775807) :
    Calls Try.prog 6 #[.agg #[.int .i64 g, .int .i64 fi, v], .int .i64 y] w fun e w' => e = .returned (.bool true) ∧ Below w.heap.size w w' := by
  obtain ⟨N, hN⟩ : ∃ N, Hid (l.length = N) := ⟨_, rfl⟩
  obtain ⟨ao, ca, rfl, q1, q2⟩ := hv.form
  rw [hN.out] at hv q1 ⊢
  have X0 := hide (box_below w (.cells #[.int .i64 g, .int .i64 fi, .slice ao N ca] 29))
  have Z0 := hide (heap_alloc_new w (.cells #[.int .i64 g, .int .i64 fi, .slice ao N ca] 29))
  have V0 := hide (hv.below X0.out)
  go_enter Try.func6, Try.ntmps6
  go_upto_region 1 with fail
  generalize w.alloc (.cells #[.int .i64 g, .int .i64 fi, .slice ao N ca] 29) = w1 at *
  go_wp2_with fail
  refine (begun_any w1).mono ?_
  rintro e w2 ⟨rfl, b2⟩
  have Z2 : Hid (w2.heap[w.heap.size]? = some (.cells #[.int .i64 g, .int .i64 fi, .slice ao N ca] 29 (0, 0))) := by show _ = _; rw [b2.block _ (heap_lt Z0.out)]; exact Z0.out
  have B2 := hide (keepF X0.out b2)
  have V2 := hide (V0.out.below b2)
  obtain ⟨c0, c1, c2⟩ := three_cells Z2.out
  have CM := hide (may_any w2 g fi _ l V2.out)
  clear b2 X0 Z0 V0 hv
  by_cases hm : ¬ May g fi l
  · rw [mayB_f hm] at CM
    go_wp2_with fail
    refine CM.out.mono ?_
    rintro e w3 ⟨rfl, b3⟩
    have Z3 : Hid (w3.heap[w.heap.size]? = some (.cells #[.int .i64 g, .int .i64 fi, .slice ao N ca] 29 (0, 0))) := by show _ = _; rw [b3.block _ (heap_lt Z2.out)]; exact Z2.out
    have B3 := hide (keepF B2.out b3)
    have V3 := hide (V2.out.below b3)
    clear b3 c0 c1 c2 CM B2 V2 Z2
    obtain ⟨c0, c1, c2⟩ := three_cells Z3.out
    go_wp2_with fail
    refine (at_any w3 g fi _ l y V3.out).mono ?_
    rintro e w4 ⟨rfl, b4⟩
    rw [atF_no (.inl hm)]
    have Z4 : Hid (w4.heap[w.heap.size]? = some (.cells #[.int .i64 g, .int .i64 fi, .slice ao N ca] 29 (0, 0))) := by show _ = _; rw [b4.block _ (heap_lt Z3.out)]; exact Z3.out
    have B4 := hide (keepF B3.out b4)
    have V4 := hide (V3.out.below b4)
    clear b4 c0 c1 c2 B3 V3 Z3
    obtain ⟨c0, c1, c2⟩ := three_cells Z4.out
    go_wp2_with fail
    refine (write_any w4 g fi _ l V4.out hg hf).mono ?_
    rintro e w5 ⟨vb, rfl, O5, b5⟩
    have hE : writeF g fi l = (4, []) := by unfold writeF; rw [if_neg hm]
    rw [hE] at O5 ⊢
    dsimp only at O5 ⊢
    obtain ⟨aob, cab, rfl⟩ := O5.form
    have B5 := hide (keepF B4.out b5)
    simp only [List.length_nil]
    clear O5 b5 hE hm
    go_wp2_with fail
    go_ret
    exact ⟨rfl, B5.out⟩
  replace hm := Classical.not_not.1 hm
  rw [mayB_t hm] at CM
  have HM := hide hm
  have hn1 := hm.n1
  have hn2 := hm.n2
  have hf1 := hm.f0
  rw [hN.out] at hn1 hn2
  go_wp2_with fail
  refine CM.out.mono ?_
  rintro e w3 ⟨rfl, b3⟩
  have Z3 : Hid (w3.heap[w.heap.size]? = some (.cells #[.int .i64 g, .int .i64 fi, .slice ao N ca] 29 (0, 0))) := by show _ = _; rw [b3.block _ (heap_lt Z2.out)]; exact Z2.out
  have B3 := hide (keepF B2.out b3)
  have V3 := hide (V2.out.below b3)
  clear b3 c0 c1 c2 CM B2 V2 Z2 hm
  obtain ⟨c0, c1, c2⟩ := three_cells Z3.out
  have h64 : ¬ (64 : Int) < (N : Int) := by omega
  by_cases y0 : y < 0
  · go_wp2_with fail
    go_ret
    exact ⟨rfl, B3.out⟩
  by_cases y1 : 1000 < y
  · go_wp2_with fail
    go_ret
    exact ⟨rfl, B3.out⟩
  obtain ⟨M, rfl⟩ : ∃ M, N = M + 1 := ⟨N - 1, by omega⟩
  obtain ⟨b, off, ca', e, _, _, hc⟩ := V3.out.at (by rw [hN.out]; omega)
  rw [hN.out] at e hc
  simp only [Value.slice.injEq, true_and] at e
  obtain ⟨rfl, rfl⟩ := e
  have HC := hide hc
  have hw0 : IntKind.i64.wrap (M : Int) = (M : Int) := by rw [IntKind.wrap_i64]; omega
  clear hc
  go_wp2_with fail
  go_loopw [10] (fun vi wr => ∃ i : Nat, i ≤ M + 1 ∧ vi = .int .i64 (i : Int) ∧ Hid (Below w3.heap.size w3 wr)) (fun vi _ => M + 1 - (intOf vi).toNat)
  case atStart => exact ⟨0, Nat.zero_le _, rfl, Below.refl _ _⟩
  case round =>
    obtain ⟨i, hi, rfl, hW⟩ := hrel
    have ZW : Hid (wr.heap[w.heap.size]? = some (.cells #[.int .i64 g, .int .i64 fi, .slice (some ⟨b, off, none⟩) (M + 1) ca] 29 (0, 0))) := by show _ = _; rw [hW.out.block _ (heap_lt Z3.out)]; exact Z3.out
    have VW := hide (V3.out.below hW.out)
    have BW := hide (keepF B3.out hW.out)
    clear c0 c1 c2
    obtain ⟨c0, c1, c2⟩ := three_cells ZW.out
    by_cases hlt : i ≤ M
    · obtain ⟨k0, k1, k2, k3, k4⟩ := (HC.out i (by omega)).below hW.out
      have hin := VW.out.1.sg i
      obtain ⟨m1, m2⟩ := HM.out.nmba (i := i) (by rw [hN.out]; omega)
      have hb2 := hin.b2
      clear hin m1
      generalize hs : sg l i = s at *
      obtain ⟨nm, ba, se, en, sz⟩ := s
      dsimp only at k0 k1 k2 k3 k4 m2 hb2
      clear hs
      have hlt' : (i : Int) ≤ (M : Int) := by omega
      have hlt2 : (i : Int) < (M : Int) + 1 := by omega
      by_cases hov : 9223372036854775807 < ba + y
      · have hwr : IntKind.i64.wrap (ba + y) = ba + y - 18446744073709551616 := by rw [IntKind.wrap_i64]; omega
        have hlt3 : ba + y - 18446744073709551616 < ba := by omega
        go_wp2_with fail
        go_ret
        exact ⟨rfl, BW.out⟩
      · have hwr : IntKind.i64.wrap (ba + y) = ba + y := by rw [IntKind.wrap_i64]; omega
        have hlt3 : ¬ ba + y < ba := by omega
        have CALL := hide (at_any wr g fi _ l (ba + y) VW.out)
        go_upto_region 16 with fail
        go_wp2_with fail
        refine CALL.out.mono ?_
        rintro e w5 ⟨rfl, b5⟩
        have Z5 : Hid (w5.heap[w.heap.size]? = some (.cells #[.int .i64 g, .int .i64 fi, .slice (some ⟨b, off, none⟩) (M + 1) ca] 29 (0, 0))) := by show _ = _; rw [b5.block _ (heap_lt ZW.out)]; exact ZW.out
        have W5 := hide (keepF hW.out b5)
        clear b5 c0 c1 c2 k0 k1 k2 k3 k4 CALL
        obtain ⟨c0, c1, c2⟩ := three_cells Z5.out
        by_cases hfn : fi ≤ ba + y
        · obtain ⟨t, ht⟩ := HM.out.isAt hfn
          rw [atF_at HM.out hfn ht]
          dsimp only
          have ht1 := ht.1
          have ht2 := ht.2.1
          have ht3 : Hid (t < M → ba + y < (sg l t).en) := fun c => ht.end HM.out (by rw [hN.out]; omega)
          rw [hN.out] at ht1
          obtain ⟨j0, j1, j2, j3, j4⟩ := (HC.out t ht1).below W5.out
          clear ht
          generalize sg l t = s at *
          obtain ⟨nm', ba', se', en', sz'⟩ := s
          dsimp only at j0 j1 j2 j3 j4 ht2 ht3
          have hti : (t : Int) < (M : Int) + 1 := by omega
          have hnb : ¬ ba + y < ba' := by omega
          by_cases htM : t < M
          · have htM' : (t : Int) < (M : Int) := by omega
            have hen : ¬ en' ≤ ba + y := by have := ht3.out htM; omega
            go_wp2_with fail
            go_roundw
            case rel => exact ⟨i + 1, by omega, by go_num, W5⟩
            case measure => simp [intOf]; omega
          · have htM' : ¬ (t : Int) < (M : Int) := by omega
            go_wp2_with fail
            go_roundw
            case rel => exact ⟨i + 1, by omega, by go_num, W5⟩
            case measure => simp [intOf]; omega
        · rw [atF_no (.inr (by omega))]
          dsimp only
          go_wp2_with fail
          go_roundw
          case rel => exact ⟨i + 1, by omega, by go_num, W5⟩
          case measure => simp [intOf]; omega
    · obtain rfl : i = M + 1 := by omega
      have hng : ¬ ((M : Int) + 1 ≤ (M : Int)) := by omega
      have hw1 : IntKind.i64.wrap (fi - 1) = fi - 1 := by rw [IntKind.wrap_i64]; omega
      have CALL := hide (at_any wr g fi _ l (fi - 1) VW.out)
      rw [atF_no (.inr (by omega))] at CALL
      go_wp2_with fail
      refine CALL.out.mono ?_
      rintro e w5 ⟨rfl, b5⟩
      have B5 := hide (keepF BW.out b5)
      clear b5 CALL
      go_wp2_with fail
      go_ret
      exact ⟨rfl, B5.out⟩
#print axioms ats_walk
end Go.Proofs.Ytcbmkoneiidhaaa.Ct
