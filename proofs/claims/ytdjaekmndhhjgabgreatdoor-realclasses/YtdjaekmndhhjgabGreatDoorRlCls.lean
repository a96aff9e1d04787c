/-
  The walk of RealClasses.
-/
import Derived.Test.YtdjaekmndhhjgabGreatDoorRlY
import Derived.Test.YtdjaekmndhhjgabGreatDoorRlF1
namespace Go.Proofs.YtdjaekmndhhjgabGreatDoor.Rl
open Go.RowKit
set_option maxRecDepth 100000

def negB2 (b : Nat) : Nat := if b < 9223372036854775808 then b + 9223372036854775808 else b - 9223372036854775808
theorem xor_top_low {b : Nat} (h : b < 2 ^ 63) : b ^^^ 2 ^ 63 = 2 ^ 63 * 1 + b := by
  apply Nat.eq_of_testBit_eq
  intro i
  rw [Nat.testBit_xor, Nat.testBit_two_pow, Nat.testBit_two_pow_mul_add 1 h]
  by_cases hi : i < 63
  · rw [if_pos hi]; simp [show ¬ 63 = i by omega]
  · rw [if_neg hi, Nat.testBit_lt_two_pow (Nat.lt_of_lt_of_le h (Nat.pow_le_pow_right Nat.two_pos (by omega : 63 ≤ i))), Bool.false_xor]
    by_cases he : i = 63
    · subst he; rfl
    · rw [decide_eq_false (by omega), Nat.testBit_lt_two_pow]
      exact Nat.one_lt_two_pow (by omega)
theorem neg_eq {b : Nat} (hb : b < 18446744073709551616) : Op.negFloat FloatKind.f64 b = negB2 b := by
  show b ^^^ 2 ^ 63 = _
  unfold negB2
  by_cases h : b < 9223372036854775808
  · rw [if_pos h, xor_top_low h]; omega
  · rw [if_neg h]
    have h1 : b - 9223372036854775808 < 2 ^ 63 := by omega
    have h2 := xor_top_low h1
    have h3 : b = (b - 9223372036854775808) ^^^ 2 ^ 63 := by rw [h2]; omega
    conv => lhs; rw [h3]
    rw [Nat.xor_assoc, Nat.xor_self, Nat.xor_zero]
theorem class_neg {b : Nat} (hb : b < 18446744073709551616) (hn : nanB b = false) : classB (negB2 b) = 11 - classB b := by
  have h0 : ¬ b % 9223372036854775808 > 9218868437227405312 := of_decide_eq_false hn
  unfold negB2
  by_cases h : b < 9223372036854775808
  · have hn2 : nanB (b + 9223372036854775808) = false := decide_eq_false (by omega)
    rw [if_pos h, classB, classB, hn, hn2, if_neg (by simp), if_neg (by omega), if_neg (by simp), if_pos h, Nat.add_sub_cancel]
    omega
  · have hn2 : nanB (b - 9223372036854775808) = false := decide_eq_false (by omega)
    rw [if_neg h, classB, classB, hn, hn2, if_neg (by simp), if_pos (by omega), if_neg (by simp), if_neg h]
    omega
theorem rank_mono {s t : Nat} (h : s ≤ t) : rankB s ≤ rankB t := by unfold rankB; (repeat' split) <;> omega
theorem class_mono {a b : Nat} (na : nanB a = false) (nb : nanB b = false) (h : keyB a ≤ keyB b) (ha : a < 18446744073709551616) (hb : b < 18446744073709551616) : classB a ≤ classB b := by
  unfold keyB at h
  rw [na, nb] at h
  simp only [Bool.false_eq_true, if_false] at h
  unfold classB
  rw [na, nb]
  simp only [Bool.false_eq_true, if_false]
  by_cases h1 : a < 9223372036854775808
  · rw [if_pos h1] at h ⊢
    by_cases h2 : b < 9223372036854775808
    · rw [if_pos h2] at h ⊢
      have := rank_mono (show a ≤ b by omega); omega
    · rw [if_neg h2] at h; omega
  · rw [if_neg h1] at h ⊢
    by_cases h2 : b < 9223372036854775808
    · rw [if_pos h2]
      have := rankB_mem b
      have := rankB_mem (a - 9223372036854775808)
      omega
    · rw [if_neg h2] at h ⊢
      have := rank_mono (show b - 9223372036854775808 ≤ a - 9223372036854775808 by omega); omega
theorem class_ge {b : Nat} (hn : nanB b = false) : 2 ≤ classB b ∧ classB b ≤ 9 := by
  unfold classB
  rw [hn]
  simp only [Bool.false_eq_true, if_false]
  have h1 := rankB_mem b
  have h2 := rankB_mem (b - 9223372036854775808)
  split <;> omega
theorem class_nan {b : Nat} (hn : nanB b = true) : classB b = 1 := by unfold classB; rw [hn]; rfl
theorem canon_nan {b : Nat} (hn : nanB b = true) : canonB b = 9221120237041090561 := by unfold canonB; rw [hn]; rfl
theorem canon_id {b : Nat} (hn : nanB b = false) : canonB b = b := by unfold canonB; rw [hn]; rfl
theorem neg_lt {b : Nat} (hb : b < 18446744073709551616) : negB2 b < 18446744073709551616 := by unfold negB2; split <;> omega
set_option maxHeartbeats 1000000 in
theorem classes_walk (W : World) (a b : Int) (hL : Laid W) (ha : 0 ≤ a ∧ a < 18446744073709551616) (hb : 0 ≤ b ∧ b < 18446744073709551616) :
    Calls Tryz.prog 4 #[.int .u64 a, .int .u64 b] W fun e w' => e = .returned (.bool true) ∧ Below W.heap.size W w' := by
  obtain ⟨a, rfl⟩ : ∃ k : Nat, a = (k : Int) := ⟨a.toNat, by omega⟩
  obtain ⟨b, rfl⟩ : ∃ k : Nat, b = (k : Int) := ⟨b.toNat, by omega⟩
  have ha' : Hid (a < 18446744073709551616) := by show _ < _; omega
  have hb' : Hid (b < 18446744073709551616) := by show _ < _; omega
  clear ha hb
  have k2 := of_run
  have k3 : Op.unary .neg (.float .f64 a) = pure (.float .f64 (negB2 a)) := by rw [← neg_eq ha'.out]; rfl
  have hng : Hid (negB2 a < 18446744073709551616) := neg_lt ha'.out
  obtain ⟨n, hn⟩ : ∃ n, Hid (classB a = n) := ⟨_, rfl⟩
  obtain ⟨m, hm⟩ : ∃ n, Hid (classB b = n) := ⟨_, rfl⟩
  go_enter Tryz.func4, Tryz.ntmps4
  go_wp2_with fail
  refine (begun_any _ hL).mono ?_
  rintro e w1 ⟨rfl, hb1⟩
  replace hb1 : Hid (Below W.heap.size W w1) := hb1
  clear hL
  go_wp2_with fail
  refine (class_any _ a ha'.out).mono ?_
  rintro e w2 ⟨rfl, rfl⟩
  rw [hn.out]
  go_wp2_with fail
  refine (class_any _ b hb'.out).mono ?_
  rintro e w2 ⟨rfl, rfl⟩
  rw [hm.out]
  go_wp2_with fail
  refine (mathIsNaN_any _ a ha'.out).mono ?_
  rintro e w2 ⟨rfl, rfl⟩
  cases hna : nanB a
  · have hn2 : 2 ≤ n ∧ n ≤ 9 := by rw [← hn.out]; exact class_ge hna
    have hcn : Hid (classB (negB2 a) = 11 - n) := by rw [← hn.out]; exact class_neg ha'.out hna
    have hcan : Hid (canonB a = a) := canon_id hna
    replace hna : Hid (nanB a = false) := hna
    go_wp2_with fail
    refine (class_any _ (negB2 a) hng.out).mono ?_
    rintro e w2 ⟨rfl, rfl⟩
    rw [hcn.out]
    go_wp2_with fail
    refine (canon_any _ a ha'.out).mono ?_
    rintro e w2 ⟨rfl, rfl⟩
    rw [hcan.out]
    go_wp2_with fail
    refine (bits_any _ a a).mono ?_
    rintro e w2 ⟨rfl, rfl⟩
    rw [decide_eq_true rfl]
    go_wp2_with fail
    refine (mathIsNaN_any _ b hb'.out).mono ?_
    rintro e w2 ⟨rfl, rfl⟩
    cases hnb : nanB b
    · go_wp2_with fail
      refine (compare_any _ a b ha'.out hb'.out).mono ?_
      rintro e w2 ⟨rfl, rfl⟩
      obtain ⟨c, hc⟩ : ∃ c, Hid (cmpB a b = c) := ⟨_, rfl⟩
      rw [hc.out]
      have hmono : Hid (c ≤ 0 → n ≤ m) := by
        show _ → _
        intro h
        rw [← hn.out, ← hm.out]
        refine class_mono hna.out hnb ?_ ha'.out hb'.out
        rw [← hc.out] at h
        unfold cmpB cmpZ at h
        (repeat' split at h) <;> omega
      clear k2 k3
      by_cases h0 : 0 < c
      · go_wp2
        go_ret
        exact ⟨by first | rfl | simp [h0], hb1.out⟩
      · have hnm : n ≤ m := hmono.out (by omega)
        go_wp2
        go_ret
        exact ⟨by first | rfl | simp [h0, hnm], hb1.out⟩
    · go_wp2
      go_ret
      exact ⟨rfl, hb1.out⟩
  · have hn2 : n = 1 := by rw [← hn.out]; exact class_nan hna
    have hcan : Hid (canonB a = 9221120237041090561) := canon_nan hna
    subst hn2
    go_wp2_with fail
    refine (canon_any _ a ha'.out).mono ?_
    rintro e w2 ⟨rfl, rfl⟩
    rw [hcan.out]
    go_wp2_with fail
    refine (bits_any _ _ _).mono ?_
    rintro e w2 ⟨rfl, rfl⟩
    go_wp2
    go_ret
    exact ⟨rfl, hb1.out⟩
#print axioms classes_walk
end Go.Proofs.YtdjaekmndhhjgabGreatDoor.Rl
