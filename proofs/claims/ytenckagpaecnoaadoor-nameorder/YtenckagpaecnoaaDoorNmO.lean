/-
  The walk of NameOrder.
-/
import Derived.Test.YtenckagpaecnoaaDoorNmK
namespace Go.Proofs.YtenckagpaecnoaaDoor.Nm
open Go.RowKit
set_option maxRecDepth 100000
set_option linter.unusedVariables false

theorem segB_seg {n : Nat} (h1 : 1 ≤ n) (h2 : n < 9223372036854775808) : kindB (segL n) = 1 := by
  unfold kindB
  rw [numB_seg h2, if_pos (by omega)]
theorem seg_ne_cat (n : Nat) : segL n ≠ [99, 97, 116, 97, 108, 111, 103] := fun e => by
  have := congrArg List.length e
  rw [segL_len] at this
  simp at this
theorem seg_ne_next (n : Nat) : segL n ≠ [115, 101, 103, 109, 101, 110, 116, 45, 110, 101, 120, 116] := fun e => by
  have := congrArg List.length e
  rw [segL_len] at this
  simp at this
set_option maxHeartbeats 4000000 in
theorem norder_walk (a b : Int) (w : World) (ha : -9223372036854775808 ≤ a ∧ a ≤ 9223372036854775807) (hb : -9223372036854775808 ≤ b ∧ b ≤ 9223372036854775807) (hT : Tab16 w) :
    Calls Tryd.prog 4 #[.int .i64 a, .int .i64 b] w fun e w' => e = .returned (.bool true) ∧ Below w.heap.size w w' := by
  have hg := hide (begun8_any w hT)
  replace hT := hide hT
  by_cases h1 : a < 1 ∨ b < 1
  · have hs := hide (fun q (hq : Tab16 q) => segment_any q (min a b) (by omega) hq)
    rw [segV_small (by omega)] at hs
    clear ha hb
    by_cases ha1 : a < 1
    · clear h1
      go_enter Tryd.func4, Tryd.ntmps4
      go_wp2_with (first
          | (go_at_call 5; refine hg.out.mono ?_; rintro e w1 ⟨rfl, b1⟩; have B1 := hide b1; clear b1)
          | (go_at_call 12; refine (hs.out _ (hT.out.below B1.out)).mono ?_; rintro e w2 ⟨rfl, b2⟩; have B2 := hide (B1.out.trans (b2.mono B1.out.size)); clear b2))
      go_ret
      exact ⟨rfl, B2.out⟩
    · have hb1 : b < 1 := by omega
      clear h1
      go_enter Tryd.func4, Tryd.ntmps4
      go_wp2_with (first
          | (go_at_call 5; refine hg.out.mono ?_; rintro e w1 ⟨rfl, b1⟩; have B1 := hide b1; clear b1)
          | (go_at_call 12; refine (hs.out _ (hT.out.below B1.out)).mono ?_; rintro e w2 ⟨rfl, b2⟩; have B2 := hide (B1.out.trans (b2.mono B1.out.size)); clear b2))
      go_ret
      exact ⟨rfl, B2.out⟩
  · obtain ⟨x, rfl⟩ : ∃ x : Nat, a = (x : Int) := ⟨a.toNat, by omega⟩
    obtain ⟨y, rfl⟩ : ∃ y : Nat, b = (y : Int) := ⟨b.toNat, by omega⟩
    have hx1 : 1 ≤ x := by omega
    have hy1 : 1 ≤ y := by omega
    have hx2 : x < 9223372036854775808 := by omega
    have hy2 : y < 9223372036854775808 := by omega
    have hs := hide (fun q (hq : Tab16 q) => segment_any q (x : Int) (by omega) hq)
    rw [segV_big hx1] at hs
    have ht := hide (fun q (hq : Tab16 q) => segment_any q (y : Int) (by omega) hq)
    rw [segV_big hy1] at ht
    have hm := hide (fun q => may_any (bs (segL x)) q (by rw [bs_size, segL_len]; decide))
    rw [bs_list, may_seg] at hm
    have hk := hide (fun q => kind_any (bs (segL x)) q (by rw [bs_size, segL_len]; decide))
    rw [bs_list, segB_seg hx1 hx2] at hk
    have e1 : Op.bytesLess (bs (segL x)).toList (bs (segL y)).toList = decide ((x : Int) < (y : Int)) := by
      rw [less_eq, tl, tl, bs_list, bs_list, decide_eq_decide, segL_lt hx2 hy2]; omega
    have e2 : ((bs (segL x)).toList == (bs (segL y)).toList) = ((x : Int) == (y : Int)) := by
      rw [tl, tl, bs_list, bs_list, Bool.eq_iff_iff]
      simp only [beq_iff_eq]
      constructor
      · intro h; rw [segL_inj hx2 hy2 h]
      · intro h; rw [show x = y by omega]
    have e3 : ((bs (segL x)).size : Int) = 24 := by rw [bs_size, segL_len]; rfl
    have e4 : ((bs (segL x)).toList == [99, 97, 116, 97, 108, 111, 103]) = false := by rw [tl, bs_list]; simpa using seg_ne_cat x
    have e5 : ((bs (segL x)).toList == [115, 101, 103, 109, 101, 110, 116, 45, 110, 101, 120, 116]) = false := by rw [tl, bs_list]; simpa using seg_ne_next x
    have i1 : ¬ (x : Int) < 1 := by omega
    have i2 : ¬ (y : Int) < 1 := by omega
    clear ha hb h1 hx1 hy1 hx2 hy2
    go_enter Tryd.func4, Tryd.ntmps4
    go_wp2_with fail
    refine hg.out.mono ?_
    rintro e w1 ⟨rfl, b1⟩
    have T1 := hide (hT.out.below b1)
    replace b1 := hide b1
    clear hg hT
    go_wp2_with fail
    refine (hs.out _ T1.out).mono ?_
    rintro e w2 ⟨rfl, b2⟩
    have T2 := hide (T1.out.below b2)
    have B2 := hide (b1.out.trans (b2.mono b1.out.size))
    clear b2 b1 T1 hs
    go_wp2_with fail
    refine (ht.out _ T2.out).mono ?_
    rintro e w3 ⟨rfl, b3⟩
    have B3 := hide (B2.out.trans (b3.mono B2.out.size))
    clear b3 B2 T2 ht
    go_wp2_with (first
      | (go_at_call 8; refine (hm.out _).mono ?_; rintro e w' ⟨rfl, rfl⟩)
      | (go_at_call 10; refine (hk.out _).mono ?_; rintro e w' ⟨rfl, rfl⟩)
      | go_in)
    go_ret
    exact ⟨rfl, B3.out⟩
#print axioms norder_walk
end Go.Proofs.YtenckagpaecnoaaDoor.Nm
