/-
  At: the program's; copies of segments.
-/
import Derived.Test.YtdhjlongdfgejaaCtC
import Derived.Maps.AppendAt
import Derived.Deep.RegionHeld3
namespace Go.Proofs.Ytdhjlongdfgejaa.Ct
open Go.RowKit

/-- What At owes. -/
def DoesAt (f : Nat) : Prop := ∀ (w : World) (g fi : Int) (v : Value) (l : List Sg) (n : Int), Sgs w v l →
  Calls Try.prog f #[.agg #[.int .i64 g, .int .i64 fi, v], .int .i64 n] w fun e w' => e = .returned (.tuple #[.int .i64 ((atF g fi l n).1 : Int), .bool (atF g fi l n).2]) ∧ Below w.heap.size w w'
set_option maxHeartbeats 2000000 in
theorem at_any : DoesAt 11 := by
  intro w g fi v l n hv
  obtain ⟨N, hN⟩ : ∃ N, Hid (l.length = N) := ⟨_, rfl⟩
  obtain ⟨ao, ca, rfl, q1, q2⟩ := hv.form
  rw [hN.out] at hv q1 ⊢
  have hB := hide (box_below w (.cells #[.int .i64 g, .int .i64 fi, .slice ao N ca] 29))
  have CALL := hide (may_any _ g fi _ l (hv.below hB.out))
  have hbx := hide (heap_alloc_new w (.cells #[.int .i64 g, .int .i64 fi, .slice ao N ca] 29))
  by_cases hm : May g fi l
  · rw [mayB_t hm] at CALL
    have HM := hide hm
    obtain ⟨b, off, ca', e, _, _, hc⟩ := hv.at hm.n1
    rw [hN.out] at e hc
    simp only [Value.slice.injEq, true_and] at e
    obtain ⟨rfl, rfl⟩ := e
    have HC := hide hc
    have hn1 := hm.n1
    have hn2 := hm.n2
    rw [hN.out] at hn1 hn2
    clear hv hm hc
    by_cases h2 : n < fi
    · have hE := hide (atF_no (g := g) (l := l) (.inr h2))
      go_enter Try.func11, Try.ntmps11
      go_wp2_with fail
      refine CALL.out.mono ?_
      rintro e w2 ⟨rfl, b2⟩
      have B2 := hide (keepF hB.out b2)
      obtain ⟨_, c1, c2⟩ := three_cells (show w2.heap[w.heap.size]? = _ by rw [b2.block _ (heap_lt hbx.out)]; exact hbx.out)
      clear b2 CALL
      go_wp2_with fail
      go_ret2
      rw [hE.out]
      exact ⟨rfl, B2.out⟩
    · go_enter Try.func11, Try.ntmps11
      go_wp2_with fail
      refine CALL.out.mono ?_
      rintro e w2 ⟨rfl, b2⟩
      have B2 := hide (keepF hB.out b2)
      obtain ⟨_, c1, c2⟩ := three_cells (show w2.heap[w.heap.size]? = _ by rw [b2.block _ (heap_lt hbx.out)]; exact hbx.out)
      have HC2 : Hid (∀ i, i < N → SAt w2 b (off + i * 5) (sg l i)) := fun i hi => (HC.out i hi).below B2.out
      obtain ⟨M, rfl⟩ : ∃ M, N = M + 1 := ⟨N - 1, by omega⟩
      have hw0 : IntKind.i64.wrap (M : Int) = (M : Int) := by rw [IntKind.wrap_i64]; omega
      clear b2 CALL HC
      go_wp2_with fail
      generalize hq0 : w.heap.size = cb at *
      replace hq0 := hide hq0
      go_loopw [6] (fun vi wr => ∃ i : Nat, i ≤ M ∧ vi = .int .i64 (i : Int) ∧ wr = w2 ∧ Hid (∀ j, i < j → j < M + 1 → n < (sg l j).ba)) (fun vi _ => (intOf vi).toNat)
      case atStart => exact ⟨M, Nat.le_refl _, rfl, rfl, fun j h1 h2 => by omega⟩
      case round =>
        obtain ⟨i, hi, rfl, rfl, hJ⟩ := hrel
        obtain ⟨k0, k1, k2, k3, k4⟩ := HC2.out i (by omega)
        have hlt : (i : Int) < (M : Int) + 1 := by omega
        by_cases hb : n < (sg l i).ba
        · have hi0 : i ≠ 0 := by
            rintro rfl
            have := HM.out.be.1
            omega
          obtain ⟨j, rfl⟩ : ∃ j, i = j + 1 := ⟨i - 1, by omega⟩
          have hJ2 : Hid (∀ k, j < k → k < M + 1 → n < (sg l k).ba) := fun k h1 h2 => by
            by_cases e : k = j + 1
            · subst e; exact hb
            · exact hJ.out k (by omega) h2
          generalize sg l (j + 1) = s at *
          have hw1 : IntKind.i64.wrap (j : Int) = (j : Int) := by rw [IntKind.wrap_i64]; omega
          go_wp2_with fail
          go_roundw
          case rel => exact ⟨j, by omega, by first | go_num | rfl, by first | trivial | rfl, hJ2⟩
          case measure => simp [intOf]
        · have hE := hide (atF_at HM.out (by omega) (⟨by rw [hN.out]; omega, by omega, fun j h1 h2 => hJ.out j h1 (by rw [hN.out] at h2; exact h2)⟩ : IsAt l n i))
          generalize sg l i = s at *
          go_wp2_with fail
          go_ret2
          rw [hE.out]
          exact ⟨rfl, by rw [hq0.out]; exact B2.out⟩
  · rw [mayB_f hm] at CALL
    have hE := hide (atF_no (n := n) (.inl hm))
    clear hv hm
    go_enter Try.func11, Try.ntmps11
    go_wp2_with fail
    refine CALL.out.mono ?_
    rintro e w2 ⟨rfl, b2⟩
    have B2 := hide (keepF hB.out b2)
    clear b2 CALL
    go_wp2_with fail
    go_ret2
    rw [hE.out]
    exact ⟨rfl, B2.out⟩
#print axioms at_any
end Go.Proofs.Ytdhjlongdfgejaa.Ct
