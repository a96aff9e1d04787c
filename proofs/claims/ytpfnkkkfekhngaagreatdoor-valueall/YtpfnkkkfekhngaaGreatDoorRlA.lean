/-
  Package real, number by number: what its functions of one and of two numbers answer, by the bits; the document's own answers are the same.
-/
import Derived.Test.YtpfnkkkfekhngaaGreatDoorGen
namespace Go.Proofs.YtpfnkkkfekhngaaGreatDoor.Rl
open Go.RowKit
set_option maxRecDepth 100000

theorem bits_run (b : Nat) (w : World) : (callFunc 47 #[.float .f64 b]).run Tryz.prog w = .ok (.value (.int .u64 b)) w := by
  rw [run_callFunc_extern Tryz.func47 (by kernel_rfl) (by kernel_rfl) (by kernel_rfl) (e := Extern.MathFloatBits.float64bits) (by kernel_rfl)]
  rfl
theorem of_run (n : Int) (w : World) : (callFunc 68 #[.int .u64 n]).run Tryz.prog w = .ok (.value (.float .f64 n.toNat)) w := by
  rw [run_callFunc_extern Tryz.func68 (by kernel_rfl) (by kernel_rfl) (by kernel_rfl) (e := Extern.MathFloatBits.float64frombits) (by kernel_rfl)]
  rfl

theorem ofInt64 (a : Nat) (ha : a < 18446744073709551616) : (BitVec.ofInt 64 (a : Int)).toNat = a := by
  rw [BitVec.ofInt_natCast, BitVec.toNat_ofNat]; exact Nat.mod_eq_of_lt (by omega)
theorem andNot_nat (a b : Nat) (ha : a < 18446744073709551616) (hb : b < 18446744073709551616) :
    bits .andNot .u64 (a : Int) (b : Int) = ((a &&& (18446744073709551615 - b) : Nat) : Int) := by
  have hx : a &&& (18446744073709551615 - b) < 2 ^ 64 := Nat.and_lt_two_pow _ (by omega)
  show IntKind.u64.wrap ((BitVec.ofInt 64 (a : Int) &&& ~~~ BitVec.ofInt 64 (b : Int)).toNat : Int) = _
  rw [BitVec.toNat_and, BitVec.toNat_not, ofInt64 a ha, ofInt64 b hb, IntKind.wrap_u64]
  have : 2 ^ 64 - 1 - b = 18446744073709551615 - b := by omega
  rw [this]; omega
theorem and_low (a : Nat) (k : Nat) : a &&& (2 ^ k - 1) = a % 2 ^ k := Nat.and_two_pow_sub_one_eq_mod a k
theorem andNot_top (b : Nat) (hb : b < 18446744073709551616) : bits .andNot .u64 (b : Int) 9223372036854775808 = ((b % 9223372036854775808 : Nat) : Int) := by
  have h := andNot_nat b 9223372036854775808 hb (by omega)
  rw [show 18446744073709551615 - 9223372036854775808 = 2 ^ 63 - 1 by omega, and_low] at h
  exact h
theorem and_mask (b : Nat) (hb : b < 18446744073709551616) : bits .and .u64 (b : Int) 9223372036854775807 = ((b % 9223372036854775808 : Nat) : Int) := by
  have h := bits_and_u64_nat b 9223372036854775807 hb (by omega)
  rw [show 9223372036854775807 = 2 ^ 63 - 1 by omega, and_low] at h
  exact h
theorem and_top (b : Nat) (hb : b < 18446744073709551616) : bits .and .u64 (b : Int) 9223372036854775808 = if b < 9223372036854775808 then 0 else 9223372036854775808 := by
  have h := bits_and_u64_nat b 9223372036854775808 hb (by omega)
  have e : b &&& 9223372036854775808 = if b < 9223372036854775808 then 0 else 9223372036854775808 := by
    rw [show 9223372036854775808 = 2 ^ 63 by omega]
    apply Nat.eq_of_testBit_eq
    intro i
    rw [Nat.testBit_and, Nat.testBit_two_pow]
    by_cases hi : 63 = i
    · subst hi
      by_cases hc : b < 2 ^ 63
      · rw [if_pos hc, Nat.testBit_lt_two_pow hc]; rfl
      · rw [if_neg hc]
        have : b.testBit 63 = true := by
          rw [Nat.testBit_eq_decide_div_mod_eq]; simp; omega
        rw [this]; rfl
    · rw [show decide (63 = i) = false by simpa using hi, Bool.and_false]
      split
      · rw [Nat.zero_testBit]
      · rw [Nat.testBit_two_pow]; simp [hi]
  rw [e] at h
  rw [show (9223372036854775808 : Int) = ((9223372036854775808 : Nat) : Int) by rfl, h]
  split <;> rfl
theorem or_top (b : Nat) (hb : b < 9223372036854775808) : bits .or .u64 (b : Int) 9223372036854775808 = ((b + 9223372036854775808 : Nat) : Int) := by
  have h := bits_or_u64_nat b 9223372036854775808 (by omega) (by omega)
  rw [Nat.or_comm, show 9223372036854775808 = 2 ^ 63 * 1 by omega, ← Nat.two_pow_add_eq_or_of_lt (by omega)] at h
  rw [show (9223372036854775808 : Int) = ((2 ^ 63 * 1 : Nat) : Int) by rfl, h]
  omega
theorem xor_all (b : Nat) (hb : b < 18446744073709551616) : bits .xor .u64 IntKind.u64.max (b : Int) = ((18446744073709551615 - b : Nat) : Int) := by
  show IntKind.u64.wrap ((BitVec.ofInt 64 18446744073709551615 ^^^ BitVec.ofInt 64 (b : Int)).toNat : Int) = _
  rw [show BitVec.ofInt 64 18446744073709551615 = BitVec.allOnes 64 by decide, BitVec.allOnes_xor, BitVec.toNat_not, ofInt64 b hb, IntKind.wrap_u64]
  omega

def nanB (b : Nat) : Bool := decide (b % 9223372036854775808 > 9218868437227405312)
def canonB (b : Nat) : Nat := if nanB b then 9221120237041090561 else b
def keyB (b : Nat) : Nat := if nanB b then 18446744073709551615 else if b < 9223372036854775808 then b + 9223372036854775808 else 18446744073709551615 - b
def rankB (m : Nat) : Int := if m = 0 then 0 else if m < 4503599627370496 then 1 else if m < 9218868437227405312 then 2 else 3
def classB (b : Nat) : Int := if nanB b then 1 else if b < 9223372036854775808 then 6 + rankB b else 5 - rankB (b - 9223372036854775808)
theorem keyB_lt {b : Nat} (hb : b < 18446744073709551616) : keyB b < 18446744073709551616 := by
  unfold keyB
  split
  · omega
  · split <;> omega

theorem isNaN_any (w : World) (b : Nat) (hb : b < 18446744073709551616) :
    Calls Tryz.prog 133 #[.float .f64 b] w fun e w' => e = .returned (.bool (nanB b)) ∧ w' = w := by
  have k1 := bits_run
  have k2 := andNot_top b hb
  go_enter Tryz.func133, Tryz.ntmps133
  go_wp2
  go_ret
  refine ⟨congrArg (fun x => Ending.returned (Value.bool x)) (?_ : decide _ = decide _), rfl⟩
  apply decide_eq_decide.2; omega
theorem refNaN_any (w : World) (b : Nat) (hb : b < 18446744073709551616) :
    Calls Tryz.prog 67 #[.float .f64 b] w fun e w' => e = .returned (.bool (nanB b)) ∧ w' = w := by
  have k1 := bits_run
  have k2 := and_mask b hb
  go_enter Tryz.func67, Tryz.ntmps67
  go_wp2
  go_ret
  refine ⟨congrArg (fun x => Ending.returned (Value.bool x)) (?_ : decide _ = decide _), rfl⟩
  apply decide_eq_decide.2; omega
theorem nan_any (w : World) :
    Calls Tryz.prog 73 #[] w fun e w' => e = .returned (.float .f64 9221120237041090561) ∧ w' = w := by
  have k2 := of_run
  go_enter Tryz.func73, Tryz.ntmps73
  go_wp2
  go_ret
  exact ⟨rfl, rfl⟩
theorem canon_any (w : World) (b : Nat) (hb : b < 18446744073709551616) :
    Calls Tryz.prog 132 #[.float .f64 b] w fun e w' => e = .returned (.float .f64 (canonB b)) ∧ w' = w := by
  go_enter Tryz.func132, Tryz.ntmps132
  go_wp2_with fail
  refine (isNaN_any _ b hb).mono ?_
  rintro e w1 ⟨rfl, rfl⟩
  cases hn : nanB b with
  | true =>
    go_wp2_with fail
    refine (nan_any _).mono ?_
    rintro e w2 ⟨rfl, rfl⟩
    go_wp2
    go_ret
    exact ⟨by rw [canonB, hn]; rfl, rfl⟩
  | false =>
    go_wp2
    go_ret
    exact ⟨by rw [canonB, hn]; rfl, rfl⟩
theorem refCanon_any (w : World) (b : Nat) (hb : b < 18446744073709551616) :
    Calls Tryz.prog 43 #[.float .f64 b] w fun e w' => e = .returned (.float .f64 (canonB b)) ∧ w' = w := by
  have k2 := of_run
  go_enter Tryz.func43, Tryz.ntmps43
  go_wp2_with fail
  refine (refNaN_any _ b hb).mono ?_
  rintro e w1 ⟨rfl, rfl⟩
  cases hn : nanB b with
  | true =>
    go_wp2
    go_ret
    exact ⟨by rw [canonB, hn]; rfl, rfl⟩
  | false =>
    go_wp2
    go_ret
    exact ⟨by rw [canonB, hn]; rfl, rfl⟩
theorem key_any (w : World) (b : Nat) (hb : b < 18446744073709551616) :
    Calls Tryz.prog 130 #[.float .f64 b] w fun e w' => e = .returned (.int .u64 (keyB b)) ∧ w' = w := by
  have k1 := bits_run
  have k2 := and_top b hb
  have k3 := xor_all b hb
  go_enter Tryz.func130, Tryz.ntmps130
  go_wp2_with fail
  refine (isNaN_any _ b hb).mono ?_
  rintro e w1 ⟨rfl, rfl⟩
  cases hn : nanB b with
  | true =>
    go_wp2
    go_ret
    exact ⟨by rw [keyB, hn]; rfl, rfl⟩
  | false =>
    by_cases hc : b < 9223372036854775808
    · rw [if_pos hc] at k2
      have k4 := or_top b hc
      go_wp2
      go_ret
      exact ⟨by rw [keyB, hn, if_pos hc]; rfl, rfl⟩
    · rw [if_neg hc] at k2
      go_wp2
      go_ret
      exact ⟨by rw [keyB, hn, if_neg hc]; rfl, rfl⟩
end Go.Proofs.YtpfnkkkfekhngaaGreatDoor.Rl
