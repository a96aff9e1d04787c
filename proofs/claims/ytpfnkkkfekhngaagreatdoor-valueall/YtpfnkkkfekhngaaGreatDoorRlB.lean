/-
  Package real, number by number (on): classes, keys back, the order, the next one, how far apart; the document's own answers are the same.
-/
import Derived.Test.YtpfnkkkfekhngaaGreatDoorRlA
namespace Go.Proofs.YtpfnkkkfekhngaaGreatDoor.Rl
open Go.RowKit
set_option maxRecDepth 100000

theorem refKey_walk (w : World) (b : Nat) (B : Int) (hb : b < 18446744073709551616) (hn : nanB b = false)
    (k1 : ∀ w, (callFunc 47 #[.float .f64 b]).run Tryz.prog w = .ok (.value (.int .u64 B)) w) :
    Calls Tryz.prog 45 #[.float .f64 b] w fun e w' => e = .returned (.int .u64 (if 9223372036854775808 ≤ B then bits .xor .u64 IntKind.u64.max B else IntKind.u64.wrap (B + 9223372036854775808))) ∧ w' = w := by
  go_enter Tryz.func45, Tryz.ntmps45
  go_wp2_with fail
  refine (refNaN_any _ b hb).mono ?_
  rintro e w1 ⟨rfl, rfl⟩
  rw [hn]
  clear hn hb
  go_wp2
  all_goals (go_ret; refine ⟨congrArg (fun x => Ending.returned (Value.int .u64 x)) (?_ : (_ : Int) = _), rfl⟩; first | rfl | (split <;> first | rfl | omega))
theorem refKey_any (w : World) (b : Nat) (hb : b < 18446744073709551616) :
    Calls Tryz.prog 45 #[.float .f64 b] w fun e w' => e = .returned (.int .u64 (keyB b)) ∧ w' = w := by
  cases hn : nanB b
  · refine (refKey_walk w b (b : Int) hb hn (bits_run b)).mono ?_
    rintro e w1 ⟨rfl, rfl⟩
    refine ⟨congrArg (fun x => Ending.returned (Value.int .u64 x)) (?_ : (_ : Int) = _), rfl⟩
    rw [keyB, hn, xor_all b hb, IntKind.wrap_u64]
    simp only [Bool.false_eq_true, if_false]
    (repeat' split) <;> omega
  · have k1 := fun w => bits_run b w
    go_enter Tryz.func45, Tryz.ntmps45
    go_wp2_with fail
    refine (refNaN_any _ b hb).mono ?_
    rintro e w1 ⟨rfl, rfl⟩
    rw [hn]
    go_wp2
    go_ret
    exact ⟨by rw [keyB, hn]; rfl, rfl⟩

def rankZ (m : Int) : Int := if m = 0 then 0 else if m < 4503599627370496 then 1 else if m < 9218868437227405312 then 2 else 3
theorem rankB_Z (m : Nat) : rankB m = rankZ (m : Int) := by unfold rankB rankZ; (repeat' split) <;> omega
theorem rankB_mem (m : Nat) : 0 ≤ rankB m ∧ rankB m ≤ 3 := by unfold rankB; (repeat' split) <;> omega
def unkeyB (k : Nat) : Nat := if k = 18446744073709551615 then 9221120237041090561 else if k < 4503599627370495 ∨ 18442240474082181120 < k then 0 else if k < 9223372036854775808 then 18446744073709551615 - k else k - 9223372036854775808
def isKey (k : Nat) : Bool := decide (k = 18446744073709551615 ∨ ¬ (k < 4503599627370495 ∨ 18442240474082181120 < k))
def unkeyZ (k : Int) : Int := if k = 18446744073709551615 then 9221120237041090561 else if k < 4503599627370495 ∨ 18442240474082181120 < k then 0 else if bits .and .u64 k 9223372036854775808 = 0 then bits .xor .u64 IntKind.u64.max k else bits .andNot .u64 k 9223372036854775808
def isKeyZ (k : Int) : Bool := decide (k = 18446744073709551615 ∨ ¬ (k < 4503599627370495 ∨ 18442240474082181120 < k))
theorem ret_fb {a a' : Nat} {b b' : Bool} (h : a = a') (g : b = b') : Ending.returned (.tuple #[.float .f64 a, .bool b]) = .returned (.tuple #[.float .f64 a', .bool b']) := by rw [h, g]
theorem ret_nb {a a' : Int} {b b' : Bool} (h : a = a') (g : b = b') : Ending.returned (.tuple #[.int .u64 a, .bool b]) = .returned (.tuple #[.int .u64 a', .bool b']) := by rw [h, g]
theorem unkey_walk (w : World) (k : Int) :
    Calls Tryz.prog 71 #[.int .u64 k] w fun e w' => e = .returned (.tuple #[.float .f64 (unkeyZ k).toNat, .bool (isKeyZ k)]) ∧ w' = w := by
  have k2 := of_run
  go_enter Tryz.func71, Tryz.ntmps71
  go_wp2_with fail
  · refine (nan_any _).mono ?_
    rintro e w1 ⟨rfl, rfl⟩
    go_wp2
    go_ret2
    refine ⟨ret_fb ?_ ?_, rfl⟩ <;> (simp only [beq_iff_eq] at *; simp [unkeyZ, isKeyZ, *])
  all_goals (go_ret2; refine ⟨ret_fb ?_ ?_, rfl⟩ <;> ((try simp only [beq_iff_eq, beq_eq_false_iff_ne, ne_eq] at *); first | (unfold unkeyZ; (repeat' split) <;> first | rfl | omega) | (unfold isKeyZ; symm; first | (apply decide_eq_true; omega) | (apply decide_eq_false; omega))))
theorem unkeyZ_nat (k : Nat) (hk : k < 18446744073709551616) : (unkeyZ (k : Int)).toNat = unkeyB k := by
  unfold unkeyZ unkeyB
  rw [and_top k hk, xor_all k hk, andNot_top k hk]
  (repeat' split) <;> omega
theorem isKeyZ_nat (k : Nat) : isKeyZ (k : Int) = isKey k := by
  unfold isKeyZ isKey
  apply decide_eq_decide.2; omega
theorem unkey_any (w : World) (k : Nat) (hk : k < 18446744073709551616) :
    Calls Tryz.prog 71 #[.int .u64 k] w fun e w' => e = .returned (.tuple #[.float .f64 (unkeyB k), .bool (isKey k)]) ∧ w' = w := by
  rw [← unkeyZ_nat k hk, ← isKeyZ_nat k]
  exact unkey_walk w k
def unkeyZ' (k : Int) : Int := if k = 18446744073709551615 then 9221120237041090561 else if k < 4503599627370495 ∨ 18442240474082181120 < k then 0 else if k < 9223372036854775808 then bits .xor .u64 IntKind.u64.max k else k - 9223372036854775808
theorem refUnkey_walk (w : World) (k : Int) :
    Calls Tryz.prog 63 #[.int .u64 k] w fun e w' => e = .returned (.tuple #[.float .f64 (unkeyZ' k).toNat, .bool (isKeyZ k)]) ∧ w' = w := by
  have k2 := of_run
  go_enter Tryz.func63, Tryz.ntmps63
  go_wp2
  all_goals (go_ret2; refine ⟨ret_fb ?_ ?_, rfl⟩ <;> ((try simp only [beq_iff_eq, beq_eq_false_iff_ne, ne_eq] at *); first | (unfold unkeyZ'; (repeat' split) <;> first | rfl | omega) | (unfold isKeyZ; symm; first | (apply decide_eq_true; omega) | (apply decide_eq_false; omega))))
theorem refUnkey_any (w : World) (k : Nat) (hk : k < 18446744073709551616) :
    Calls Tryz.prog 63 #[.int .u64 k] w fun e w' => e = .returned (.tuple #[.float .f64 (unkeyB k), .bool (isKey k)]) ∧ w' = w := by
  have h : (unkeyZ' (k : Int)).toNat = unkeyB k := by
    unfold unkeyZ' unkeyB
    rw [xor_all k hk]
    (repeat' split) <;> omega
  rw [← h, ← isKeyZ_nat k]
  exact refUnkey_walk w k

def cmpZ (x y : Int) : Int := if x < y then -1 else if y < x then 1 else 0
theorem cmpNaN_any (w : World) (x : Int) : Calls Tryz.prog 135 #[.int .u64 x] w fun e w' => e = .returned (.bool false) ∧ w' = w := by
  go_enter Tryz.func135, Tryz.ntmps135
  go_wp2
  go_ret
  exact ⟨by simp, rfl⟩
theorem cmp_any (w : World) (x y : Int) : Calls Tryz.prog 134 #[.int .u64 x, .int .u64 y] w fun e w' => e = .returned (.int .i64 (cmpZ x y)) ∧ w' = w := by
  go_enter Tryz.func134, Tryz.ntmps134
  go_wp2_with fail
  refine (cmpNaN_any _ _).mono ?_
  rintro e w1 ⟨rfl, rfl⟩
  go_wp2_with fail
  refine (cmpNaN_any _ _).mono ?_
  rintro e w2 ⟨rfl, rfl⟩
  go_wp2
  all_goals (go_ret; refine ⟨congrArg (fun x => Ending.returned (Value.int .i64 x)) (?_ : (_ : Int) = _), rfl⟩; unfold cmpZ; (repeat' split) <;> first | rfl | omega)
def cmpB (a b : Nat) : Int := cmpZ (keyB a) (keyB b)
theorem compare_any (w : World) (a b : Nat) (ha : a < 18446744073709551616) (hb : b < 18446744073709551616) :
    Calls Tryz.prog 131 #[.float .f64 a, .float .f64 b] w fun e w' => e = .returned (.int .i64 (cmpB a b)) ∧ w' = w := by
  go_enter Tryz.func131, Tryz.ntmps131
  go_wp2_with fail
  refine (key_any _ a ha).mono ?_
  rintro e w1 ⟨rfl, rfl⟩
  go_wp2_with fail
  refine (key_any _ b hb).mono ?_
  rintro e w2 ⟨rfl, rfl⟩
  go_wp2_with fail
  refine (cmp_any _ _ _).mono ?_
  rintro e w3 ⟨rfl, rfl⟩
  go_wp2
  go_ret
  exact ⟨rfl, rfl⟩
theorem refCompare_any (w : World) (a b : Nat) (ha : a < 18446744073709551616) (hb : b < 18446744073709551616) :
    Calls Tryz.prog 50 #[.float .f64 a, .float .f64 b] w fun e w' => e = .returned (.int .i64 (cmpB a b)) ∧ w' = w := by
  have hc : Hid (cmpB a b = cmpZ (keyB a) (keyB b)) := rfl
  go_enter Tryz.func50, Tryz.ntmps50
  go_wp2_with fail
  refine (refKey_any _ a ha).mono ?_
  rintro e w1 ⟨rfl, rfl⟩
  go_wp2_with fail
  refine (refKey_any _ b hb).mono ?_
  rintro e w2 ⟨rfl, rfl⟩
  go_wp2_with fail
  · go_ret
    refine ⟨congrArg (fun x => Ending.returned (Value.int .i64 x)) (?_ : (_ : Int) = _), rfl⟩
    rw [hc.out]; unfold cmpZ; rw [if_pos (by omega)]
  · refine (refKey_any _ a ha).mono ?_
    rintro e w3 ⟨rfl, rfl⟩
    go_wp2_with fail
    refine (refKey_any _ b hb).mono ?_
    rintro e w4 ⟨rfl, rfl⟩
    go_wp2
    all_goals (go_ret; refine ⟨congrArg (fun x => Ending.returned (Value.int .i64 x)) (?_ : (_ : Int) = _), rfl⟩; rw [hc.out]; unfold cmpZ; (repeat' split) <;> first | rfl | omega)
def nextB (b : Nat) : Nat := if 18442240474082181120 ≤ keyB b then 9221120237041090561 else unkeyB (keyB b + 1)
theorem keyB_nan (b : Nat) (hb : b < 18446744073709551616) : keyB b = 18446744073709551615 ↔ nanB b = true := by
  unfold keyB nanB
  by_cases h : b % 9223372036854775808 > 9218868437227405312
  · simp [h]
  · simp only [decide_eq_true_eq, h, if_false]
    split <;> simp <;> omega
theorem unkey_nan (k : Nat) (hk : k ≤ 18442240474082181120) (hi : isKey k = true) : nanB (unkeyB k) = false := by
  unfold isKey at hi
  have := of_decide_eq_true hi
  unfold unkeyB nanB
  apply decide_eq_false
  (repeat' split) <;> omega
end Go.Proofs.YtpfnkkkfekhngaaGreatDoor.Rl
