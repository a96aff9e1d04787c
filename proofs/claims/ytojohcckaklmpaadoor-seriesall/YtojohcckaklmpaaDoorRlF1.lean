/-
  How Go's own less stands to the order of package real.
-/
import Derived.Test.YtojohcckaklmpaaDoorRlP
namespace Go.Proofs.YtojohcckaklmpaaDoor.Rl
open Go.RowKit
set_option maxRecDepth 100000

def sg (b : Nat) : Int := if b < 9223372036854775808 then (magB b : Int) else -(magB (b - 9223372036854775808) : Int)
theorem fmt_sign : Ieee.double.signWeight = 9223372036854775808 := by decide +kernel
theorem fmt_bin : Ieee.double.binade = 4503599627370496 := by decide +kernel
theorem fmt_inf : Ieee.double.infRung = 9218868437227405312 := by decide +kernel
theorem fmt_least : Ieee.double.leastPlace = -1074 := by decide +kernel
def sgnB (b : Nat) : Bool := b / 9223372036854775808 % 2 == 1
theorem read_nan {b : Nat} (h : nanB b = true) : ∃ t, Ieee.double.read b = .nan (sgnB b) t := by
  have h1 : b % 9223372036854775808 > 9218868437227405312 := of_decide_eq_true h
  unfold Ieee.Format.read
  rw [fmt_sign, fmt_bin, fmt_inf, fmt_least]
  simp only
  rw [if_neg (by omega), if_neg (by omega), if_neg (by omega)]
  exact ⟨_, rfl⟩
theorem read_inf {b : Nat} (h : b % 9223372036854775808 = 9218868437227405312) : Ieee.double.read b = .infinity (sgnB b) := by
  unfold Ieee.Format.read
  rw [fmt_sign, fmt_bin, fmt_inf, fmt_least]
  simp only
  rw [if_neg (by omega), if_neg (by omega), if_pos h]
  rfl
theorem read_fin {b : Nat} (h : b % 9223372036854775808 < 9218868437227405312) : ∃ m k : Nat, Ieee.double.read b = .number (sgnB b) m (-1074 + (k : Int)) ∧ m * 2 ^ k = magB (b % 9223372036854775808) := by
  unfold Ieee.Format.read magB
  rw [fmt_sign, fmt_bin, fmt_inf, fmt_least]
  simp only
  by_cases h1 : b % 9223372036854775808 < 4503599627370496
  · rw [if_pos h1, if_pos h1]
    exact ⟨_, 0, rfl, by simp⟩
  · rw [if_neg h1, if_neg h1, if_pos h]
    refine ⟨_, _, rfl, ?_⟩
    rw [Nat.add_comm]
theorem mag_mono {s t : Nat} (h : s < t) : magB s < magB t := by
  unfold magB
  by_cases h1 : s < 4503599627370496
  · rw [if_pos h1]
    by_cases h2 : t < 4503599627370496
    · rw [if_pos h2]; exact h
    · rw [if_neg h2]
      have : 1 ≤ 2 ^ (t / 4503599627370496 - 1) := Nat.two_pow_pos _
      exact Nat.lt_of_lt_of_le (by omega : s < (t % 4503599627370496 + 4503599627370496)) (Nat.le_mul_of_pos_right _ this)
  · rw [if_neg h1, if_neg (by omega)]
    by_cases he : s / 4503599627370496 = t / 4503599627370496
    · rw [he]
      exact Nat.mul_lt_mul_of_pos_right (by omega) (Nat.two_pow_pos _)
    · have h3 : s / 4503599627370496 < t / 4503599627370496 := by
        have : s / 4503599627370496 ≤ t / 4503599627370496 := Nat.div_le_div_right (by omega)
        omega
      have h4 : 2 ^ (s / 4503599627370496 - 1) * 2 ≤ 2 ^ (t / 4503599627370496 - 1) := by
        rw [← Nat.pow_succ]; exact Nat.pow_le_pow_right Nat.two_pos (by omega)
      have h5 : (s % 4503599627370496 + 4503599627370496) * 2 ^ (s / 4503599627370496 - 1) < 9007199254740992 * 2 ^ (s / 4503599627370496 - 1) := Nat.mul_lt_mul_of_pos_right (by omega) (Nat.two_pow_pos _)
      have h6 : 4503599627370496 * (2 ^ (s / 4503599627370496 - 1) * 2) ≤ 4503599627370496 * 2 ^ (t / 4503599627370496 - 1) := Nat.mul_le_mul_left _ h4
      have h7 : 4503599627370496 * 2 ^ (t / 4503599627370496 - 1) ≤ (t % 4503599627370496 + 4503599627370496) * 2 ^ (t / 4503599627370496 - 1) := Nat.mul_le_mul_right _ (by omega)
      omega
theorem mag_inj {s t : Nat} (h : magB s = magB t) : s = t := by
  rcases Nat.lt_trichotomy s t with h1 | h1 | h1
  · have := mag_mono h1; omega
  · exact h1
  · have := mag_mono h1; omega
theorem mag_zero : magB 0 = 0 := by decide
/-- Numbers that are less are ahead. -/
theorem sg_key {a b : Nat} (ha : a < 18446744073709551616) (hb : b < 18446744073709551616) (na : nanB a = false) (nb : nanB b = false) (h : sg a < sg b) : keyB a < keyB b := by
  unfold keyB
  rw [na, nb]
  simp only [Bool.false_eq_true, if_false]
  unfold sg at h
  by_cases h1 : a < 9223372036854775808
  · rw [if_pos h1] at h ⊢
    by_cases h2 : b < 9223372036854775808
    · rw [if_pos h2] at h ⊢
      rcases Nat.lt_trichotomy a b with h3 | h3 | h3
      · omega
      · subst h3; omega
      · have := mag_mono h3; omega
    · rw [if_neg h2] at h; omega
  · rw [if_neg h1] at h ⊢
    by_cases h2 : b < 9223372036854775808
    · rw [if_pos h2]; omega
    · rw [if_neg h2] at h ⊢
      rcases Nat.lt_trichotomy a b with h3 | h3 | h3
      · have := mag_mono (show a - 9223372036854775808 < b - 9223372036854775808 by omega); omega
      · subst h3; omega
      · omega
theorem mul_cmp (x y : Int) (p : Nat) (hp : 0 < p) : compare x y = compare (x * p) (y * p) := by
  have hp' : (0 : Int) < p := by omega
  rcases Int.lt_trichotomy x y with h | h | h
  · rw [Int.compare_eq_lt.2 h, Int.compare_eq_lt.2 (Int.mul_lt_mul_of_pos_right h hp')]
  · subst h; rw [Int.compare_eq_eq.2 rfl, Int.compare_eq_eq.2 rfl]
  · rw [Int.compare_eq_gt.2 h, Int.compare_eq_gt.2 (Int.mul_lt_mul_of_pos_right h hp')]
theorem sg_eq {b : Nat} (hb : b < 18446744073709551616) : sg b = if sgnB b then -(magB (b % 9223372036854775808) : Int) else (magB (b % 9223372036854775808) : Int) := by
  unfold sg sgnB
  by_cases h : b < 9223372036854775808
  · rw [if_pos h, show b / 9223372036854775808 % 2 = 0 by omega, show b % 9223372036854775808 = b by omega]; exact (if_neg (by decide)).symm
  · rw [if_neg h, show b / 9223372036854775808 % 2 = 1 by omega, show b % 9223372036854775808 = b - 9223372036854775808 by omega]; exact (if_pos (by decide)).symm
theorem signed_mul (s : Bool) (m h e : Nat) (he : e ≤ h) : Ieee.signed s m (h - e) * ((2 ^ e : Nat) : Int) = if s then -((m * 2 ^ h : Nat) : Int) else ((m * 2 ^ h : Nat) : Int) := by
  unfold Ieee.signed
  have e1 : m <<< (h - e) * 2 ^ e = m * 2 ^ h := by
    rw [Nat.shiftLeft_eq, Nat.mul_assoc, ← Nat.pow_add, Nat.sub_add_cancel he]
  cases s
  · simp only [Bool.false_eq_true, if_false]; rw [← e1]; simp
  · simp only [if_true]; rw [← e1, Int.neg_mul]; simp
theorem order_eq {a b : Nat} (ha : a < 18446744073709551616) (hb : b < 18446744073709551616) (na : nanB a = false) (nb : nanB b = false) : FloatKind.f64.format.order a b = some (compare (sg a) (sg b)) := by
  have ha1 : ¬ a % 9223372036854775808 > 9218868437227405312 := of_decide_eq_false na
  have hb1 : ¬ b % 9223372036854775808 > 9218868437227405312 := of_decide_eq_false nb
  show (Ieee.double.read a).order (Ieee.double.read b) = _
  rw [sg_eq ha, sg_eq hb]
  rcases Nat.lt_or_ge (a % 9223372036854775808) 9218868437227405312 with h1 | h1
  · obtain ⟨m, h, ea, em⟩ := read_fin h1
    rw [ea, ← em]
    rcases Nat.lt_or_ge (b % 9223372036854775808) 9218868437227405312 with h2 | h2
    · obtain ⟨n, k, eb, en⟩ := read_fin h2
      rw [eb, ← en]
      show some (compare _ _) = _
      rw [show ((-1074 + (h : Int)) - min (-1074 + (h : Int)) (-1074 + (k : Int))).toNat = h - min h k by omega,
        show ((-1074 + (k : Int)) - min (-1074 + (h : Int)) (-1074 + (k : Int))).toNat = k - min h k by omega,
        mul_cmp _ _ (2 ^ min h k) (Nat.two_pow_pos _), signed_mul _ _ _ _ (Nat.min_le_left _ _), signed_mul _ _ _ _ (Nat.min_le_right _ _)]
    · have h3 : b % 9223372036854775808 = 9218868437227405312 := by omega
      rw [read_inf h3, h3]
      show some (if sgnB b then _ else _) = _
      have hm := mag_mono h1
      rw [em]
      have h0 : (0 : Int) ≤ (magB (a % 9223372036854775808) : Int) := Int.natCast_nonneg _
      cases sgnB b <;> cases sgnB a <;> simp only [Bool.false_eq_true, if_false, if_true]
      · rw [Int.compare_eq_lt.2 (by omega)]
      · rw [Int.compare_eq_lt.2 (by omega)]
      · rw [Int.compare_eq_gt.2 (by omega)]
      · rw [Int.compare_eq_gt.2 (by omega)]
  · have h3 : a % 9223372036854775808 = 9218868437227405312 := by omega
    rw [read_inf h3, h3]
    rcases Nat.lt_or_ge (b % 9223372036854775808) 9218868437227405312 with h2 | h2
    · obtain ⟨n, k, eb, en⟩ := read_fin h2
      rw [eb, ← en]
      show some (if sgnB a then _ else _) = _
      have hm := mag_mono h2
      rw [en]
      have h0 : (0 : Int) ≤ (magB (b % 9223372036854775808) : Int) := Int.natCast_nonneg _
      cases sgnB b <;> cases sgnB a <;> simp only [Bool.false_eq_true, if_false, if_true]
      · rw [Int.compare_eq_gt.2 (by omega)]
      · rw [Int.compare_eq_lt.2 (by omega)]
      · rw [Int.compare_eq_gt.2 (by omega)]
      · rw [Int.compare_eq_lt.2 (by omega)]
    · have h4 : b % 9223372036854775808 = 9218868437227405312 := by omega
      rw [read_inf h4, h4]
      show some (compare _ _) = _
      have h0 : 0 < magB 9218868437227405312 := by have := mag_mono (show 0 < 9218868437227405312 by omega); rw [mag_zero] at this; exact this
      cases sgnB b <;> cases sgnB a <;> simp only [Bool.false_eq_true, if_false, if_true]
      · rw [Int.compare_eq_eq.2 rfl]; rfl
      · rw [Int.compare_eq_lt.2 (by omega)]; rfl
      · rw [Int.compare_eq_gt.2 (by omega)]; rfl
      · rw [Int.compare_eq_eq.2 rfl]; rfl
theorem order_nan {a b : Nat} (h : nanB a = true ∨ nanB b = true) : FloatKind.f64.format.order a b = none := by
  show (Ieee.double.read a).order (Ieee.double.read b) = _
  rcases h with h | h
  · obtain ⟨t, e⟩ := read_nan h
    rw [e]; rfl
  · obtain ⟨t, e⟩ := read_nan h
    rw [e]
    cases Ieee.double.read a <;> rfl
theorem order_self {a : Nat} (ha : a < 18446744073709551616) : (FloatKind.f64.format.order a a == some Ordering.eq) = !nanB a := by
  cases hn : nanB a
  · rw [order_eq ha ha hn hn, Int.compare_eq_eq.2 rfl]; rfl
  · rw [order_nan (Or.inl hn)]; rfl
theorem cmp_lt {a b : Nat} (h : keyB a < keyB b) : cmpB a b = -1 := by unfold cmpB cmpZ; rw [if_pos (by omega)]
theorem order_lt {a b : Nat} (ha : a < 18446744073709551616) (hb : b < 18446744073709551616) (h : FloatKind.f64.format.order a b = some Ordering.lt) : keyB a < keyB b := by
  by_cases hn : nanB a = true ∨ nanB b = true
  · rw [order_nan hn] at h; cases h
  · have na : nanB a = false := by cases h1 : nanB a; rfl; exact absurd (Or.inl h1) hn
    have nb : nanB b = false := by cases h1 : nanB b; rfl; exact absurd (Or.inr h1) hn
    rw [order_eq ha hb na nb] at h
    exact sg_key ha hb na nb (Int.compare_eq_lt.1 (Option.some.inj h))
theorem order_gt {a b : Nat} (ha : a < 18446744073709551616) (hb : b < 18446744073709551616) (h : FloatKind.f64.format.order a b = some Ordering.gt) : keyB b < keyB a := by
  by_cases hn : nanB a = true ∨ nanB b = true
  · rw [order_nan hn] at h; cases h
  · have na : nanB a = false := by cases h1 : nanB a; rfl; exact absurd (Or.inl h1) hn
    have nb : nanB b = false := by cases h1 : nanB b; rfl; exact absurd (Or.inr h1) hn
    rw [order_eq ha hb na nb] at h
    exact sg_key hb ha nb na (Int.compare_eq_gt.1 (Option.some.inj h))
theorem mathIsNaN_any (w : World) (b : Nat) (hb : b < 18446744073709551616) : Calls Tryd.prog 50 #[.float .f64 b] w fun e w' => e = .returned (.bool (nanB b)) ∧ w' = w := by
  have ho : Hid ((FloatKind.f64.format.order b b == some Ordering.eq) = !nanB b) := order_self hb
  clear hb
  go_enter Tryd.func50, Tryd.ntmps50
  go_wp2
  go_ret
  refine ⟨congrArg (fun x => Ending.returned (Value.bool x)) (?_ : (_ != _) = _), rfl⟩
  rw [bne, ho.out, Bool.not_not]
end Go.Proofs.YtojohcckaklmpaaDoor.Rl
