/-
  Package real, number by number (on): classes, keys back, the order, the next one, how far apart; the document's own answers are the same.
-/
import Derived.Test.YtdjaekmndhhjgaaGreatDoorRlA
namespace Go.Proofs.YtdjaekmndhhjgaaGreatDoor.Rl
open Go.RowKit
set_option maxRecDepth 100000

theorem refKey_walk (w : World) (b : Nat) (B : Int) (hb : b < 18446744073709551616) (hn : nanB b = false)
    (k1 : ∀ w, (callFunc 46 #[.float .f64 b]).run Tryz.prog w = .ok (.value (.int .u64 B)) w) :
    Calls Tryz.prog 19 #[.float .f64 b] w fun e w' => e = .returned (.int .u64 (if 9223372036854775808 ≤ B then bits .xor .u64 IntKind.u64.max B else IntKind.u64.wrap (B + 9223372036854775808))) ∧ w' = w := by
  go_enter Tryz.func19, Tryz.ntmps19
  go_wp2_with fail
  refine (refNaN_any _ b hb).mono ?_
  rintro e w1 ⟨rfl, rfl⟩
  rw [hn]
  clear hn hb
  go_wp2
  all_goals (go_ret; refine ⟨congrArg (fun x => Ending.returned (Value.int .u64 x)) (?_ : (_ : Int) = _), rfl⟩; first | rfl | (split <;> first | rfl | omega))
theorem refKey_any (w : World) (b : Nat) (hb : b < 18446744073709551616) :
    Calls Tryz.prog 19 #[.float .f64 b] w fun e w' => e = .returned (.int .u64 (keyB b)) ∧ w' = w := by
  cases hn : nanB b
  · refine (refKey_walk w b (b : Int) hb hn (bits_run b)).mono ?_
    rintro e w1 ⟨rfl, rfl⟩
    refine ⟨congrArg (fun x => Ending.returned (Value.int .u64 x)) (?_ : (_ : Int) = _), rfl⟩
    rw [keyB, hn, xor_all b hb, IntKind.wrap_u64]
    simp only [Bool.false_eq_true, if_false]
    (repeat' split) <;> omega
  · have k1 := fun w => bits_run b w
    go_enter Tryz.func19, Tryz.ntmps19
    go_wp2_with fail
    refine (refNaN_any _ b hb).mono ?_
    rintro e w1 ⟨rfl, rfl⟩
    rw [hn]
    go_wp2
    go_ret
    exact ⟨by rw [keyB, hn]; rfl, rfl⟩

def rankZ (m : Int) : Int := if m = 0 then 0 else if m < 4503599627370496 then 1 else if m < 9218868437227405312 then 2 else 3
theorem rank_any (w : World) (m : Int) :
    Calls Tryz.prog 47 #[.int .u64 m] w fun e w' => e = .returned (.int .i64 (rankZ m)) ∧ w' = w := by
  go_enter Tryz.func47, Tryz.ntmps47
  go_wp2
  all_goals (go_ret; refine ⟨congrArg (fun x => Ending.returned (Value.int .i64 x)) (?_ : (_ : Int) = _), rfl⟩; unfold rankZ; (try simp only [beq_iff_eq, beq_eq_false_iff_ne, ne_eq] at *); (repeat' split) <;> omega)
theorem rankB_Z (m : Nat) : rankB m = rankZ (m : Int) := by unfold rankB rankZ; (repeat' split) <;> omega
theorem rankB_mem (m : Nat) : 0 ≤ rankB m ∧ rankB m ≤ 3 := by unfold rankB; (repeat' split) <;> omega
theorem class_any (w : World) (b : Nat) (hb : b < 18446744073709551616) :
    Calls Tryz.prog 13 #[.float .f64 b] w fun e w' => e = .returned (.int .i64 (classB b)) ∧ w' = w := by
  obtain ⟨B, hB⟩ : ∃ B : Int, Hid (B = b) := ⟨_, rfl⟩
  obtain ⟨M, hM⟩ : ∃ M : Int, Hid (M = ((b % 9223372036854775808 : Nat) : Int)) := ⟨_, rfl⟩
  have k1 := fun w => bits_run b w
  have k3 := andNot_top b hb
  rw [← hB.out] at k1 k3
  rw [← hM.out] at k3
  replace hb : Hid (b < 18446744073709551616) := hb
  by_cases hn : M > 9218868437227405312
  · go_enter Tryz.func13, Tryz.ntmps13
    go_wp2
    go_ret
    refine ⟨?_, rfl⟩
    have hM := hM.out
    rw [classB, if_pos (show nanB b = true from decide_eq_true (by omega))]; rfl
  · cases hc : (B == M)
    · obtain ⟨r, hr⟩ : ∃ r : Int, Hid (r = rankB (b % 9223372036854775808)) := ⟨_, rfl⟩
      have hr2 : 0 ≤ r ∧ r ≤ 3 := by have := rankB_mem (b % 9223372036854775808); have := hr.out; omega
      go_enter Tryz.func13, Tryz.ntmps13
      go_wp2_with fail
      refine (rank_any _ M).mono ?_
      rintro e w1 ⟨rfl, rfl⟩
      rw [show rankZ M = r by rw [hr.out, rankB_Z, hM.out]]
      go_wp2
      go_ret
      refine ⟨congrArg (fun x => Ending.returned (Value.int .i64 x)) (?_ : (_ : Int) = _), rfl⟩
      have hM := hM.out
      have hc : ¬ B = M := by simpa using hc
      have hB := hB.out
      have hb := hb.out
      have hr := hr.out
      rw [classB, if_neg (show ¬ nanB b = true from by unfold nanB; simp; omega), if_neg (by omega)]
      rw [show b % 9223372036854775808 = b - 9223372036854775808 by omega] at hr
      rw [← hr]
    · obtain ⟨r, hr⟩ : ∃ r : Int, Hid (r = rankB (b % 9223372036854775808)) := ⟨_, rfl⟩
      have hr2 : 0 ≤ r ∧ r ≤ 3 := by have := rankB_mem (b % 9223372036854775808); have := hr.out; omega
      go_enter Tryz.func13, Tryz.ntmps13
      go_wp2_with fail
      refine (rank_any _ M).mono ?_
      rintro e w1 ⟨rfl, rfl⟩
      rw [show rankZ M = r by rw [hr.out, rankB_Z, hM.out]]
      go_wp2
      go_ret
      refine ⟨congrArg (fun x => Ending.returned (Value.int .i64 x)) (?_ : (_ : Int) = _), rfl⟩
      have hM := hM.out
      have hc : B = M := by simpa using hc
      have hB := hB.out
      have hb := hb.out
      have hr := hr.out
      rw [classB, if_neg (show ¬ nanB b = true from by unfold nanB; simp; omega), if_pos (by omega)]
      rw [show b % 9223372036854775808 = b by omega] at hr
      rw [← hr]
theorem refClass_any (w : World) (b : Nat) (hb : b < 18446744073709551616) :
    Calls Tryz.prog 14 #[.float .f64 b] w fun e w' => e = .returned (.int .i64 (classB b)) ∧ w' = w := by
  obtain ⟨B, hB⟩ : ∃ B : Int, Hid (B = b) := ⟨_, rfl⟩
  obtain ⟨M, hM⟩ : ∃ M : Int, Hid (M = ((b % 9223372036854775808 : Nat) : Int)) := ⟨_, rfl⟩
  have k1 := fun w => bits_run b w
  have k3 := and_mask b hb
  rw [← hB.out] at k1 k3
  rw [← hM.out] at k3
  go_enter Tryz.func14, Tryz.ntmps14
  go_wp2_with fail
  refine (refNaN_any _ b hb).mono ?_
  rintro e w1 ⟨rfl, rfl⟩
  replace hb : Hid (b < 18446744073709551616) := hb
  obtain ⟨nb, hn⟩ : ∃ nb, Hid (nanB b = nb) := ⟨_, rfl⟩
  rw [hn.out]
  cases nb
  · go_wp2
    all_goals (go_ret; refine ⟨congrArg (fun x => Ending.returned (Value.int .i64 x)) (?_ : (_ : Int) = _), rfl⟩; have hb := hb.out; have hB := hB.out; have hn := hn.out; have hM := hM.out; rw [classB, hn]; unfold nanB at hn; simp only [Bool.false_eq_true, if_false]; unfold rankB; (try simp only [beq_iff_eq, beq_eq_false_iff_ne, ne_eq] at *); simp only [decide_eq_false_iff_not] at hn; (repeat' split) <;> omega)
  · go_wp2
    go_ret
    exact ⟨by rw [classB, hn.out]; rfl, rfl⟩
theorem bits_any (w : World) (a b : Nat) :
    Calls Tryz.prog 15 #[.float .f64 a, .float .f64 b] w fun e w' => e = .returned (.bool (decide (a = b))) ∧ w' = w := by
  have k1 := bits_run
  go_enter Tryz.func15, Tryz.ntmps15
  go_wp2
  go_ret
  refine ⟨congrArg (fun x => Ending.returned (Value.bool x)) (?_ : (_ : Bool) = _), rfl⟩
  show decide ((a : Int) = b) = _
  apply decide_eq_decide.2; omega

def unkeyB (k : Nat) : Nat := if k = 18446744073709551615 then 9221120237041090561 else if k < 4503599627370495 ∨ 18442240474082181120 < k then 0 else if k < 9223372036854775808 then 18446744073709551615 - k else k - 9223372036854775808
def isKey (k : Nat) : Bool := decide (k = 18446744073709551615 ∨ ¬ (k < 4503599627370495 ∨ 18442240474082181120 < k))
def unkeyZ (k : Int) : Int := if k = 18446744073709551615 then 9221120237041090561 else if k < 4503599627370495 ∨ 18442240474082181120 < k then 0 else if bits .and .u64 k 9223372036854775808 = 0 then bits .xor .u64 IntKind.u64.max k else bits .andNot .u64 k 9223372036854775808
def isKeyZ (k : Int) : Bool := decide (k = 18446744073709551615 ∨ ¬ (k < 4503599627370495 ∨ 18442240474082181120 < k))
theorem ret_fb {a a' : Nat} {b b' : Bool} (h : a = a') (g : b = b') : Ending.returned (.tuple #[.float .f64 a, .bool b]) = .returned (.tuple #[.float .f64 a', .bool b']) := by rw [h, g]
theorem ret_nb {a a' : Int} {b b' : Bool} (h : a = a') (g : b = b') : Ending.returned (.tuple #[.int .u64 a, .bool b]) = .returned (.tuple #[.int .u64 a', .bool b']) := by rw [h, g]
theorem unkey_walk (w : World) (k : Int) :
    Calls Tryz.prog 11 #[.int .u64 k] w fun e w' => e = .returned (.tuple #[.float .f64 (unkeyZ k).toNat, .bool (isKeyZ k)]) ∧ w' = w := by
  have k2 := of_run
  go_enter Tryz.func11, Tryz.ntmps11
  go_wp2_with fail
  · refine (nan_any _).mono ?_
    rintro e w1 ⟨rfl, rfl⟩
    go_wp2
    go_ret2
    refine ⟨ret_fb ?_ ?_, rfl⟩ <;> (simp only [beq_iff_eq] at *; simp [unkeyZ, isKeyZ, *])
  all_goals (go_ret2; refine ⟨ret_fb ?_ ?_, rfl⟩ <;> ((try simp only [beq_iff_eq, beq_eq_false_iff_ne, ne_eq] at *); first | (unfold unkeyZ; (repeat' split) <;> first | rfl | omega) | (unfold isKeyZ; symm; first | (apply decide_eq_true; omega) | (apply decide_eq_false; omega))))
theorem unkeyZ_nat (k : Nat) (hk : k < 18446744073709551616) : (unkeyZ (k : Int)).toNat = unkeyB k := by
  unfold unkeyZ unkeyB
  rw [and_top k hk, xor_all k hk, andNot_top k hk]
  (repeat' split) <;> omega
theorem isKeyZ_nat (k : Nat) : isKeyZ (k : Int) = isKey k := by
  unfold isKeyZ isKey
  apply decide_eq_decide.2; omega
theorem unkey_any (w : World) (k : Nat) (hk : k < 18446744073709551616) :
    Calls Tryz.prog 11 #[.int .u64 k] w fun e w' => e = .returned (.tuple #[.float .f64 (unkeyB k), .bool (isKey k)]) ∧ w' = w := by
  rw [← unkeyZ_nat k hk, ← isKeyZ_nat k]
  exact unkey_walk w k
def unkeyZ' (k : Int) : Int := if k = 18446744073709551615 then 9221120237041090561 else if k < 4503599627370495 ∨ 18442240474082181120 < k then 0 else if k < 9223372036854775808 then bits .xor .u64 IntKind.u64.max k else k - 9223372036854775808
theorem refUnkey_walk (w : World) (k : Int) :
    Calls Tryz.prog 12 #[.int .u64 k] w fun e w' => e = .returned (.tuple #[.float .f64 (unkeyZ' k).toNat, .bool (isKeyZ k)]) ∧ w' = w := by
  have k2 := of_run
  go_enter Tryz.func12, Tryz.ntmps12
  go_wp2
  all_goals (go_ret2; refine ⟨ret_fb ?_ ?_, rfl⟩ <;> ((try simp only [beq_iff_eq, beq_eq_false_iff_ne, ne_eq] at *); first | (unfold unkeyZ'; (repeat' split) <;> first | rfl | omega) | (unfold isKeyZ; symm; first | (apply decide_eq_true; omega) | (apply decide_eq_false; omega))))
theorem refUnkey_any (w : World) (k : Nat) (hk : k < 18446744073709551616) :
    Calls Tryz.prog 12 #[.int .u64 k] w fun e w' => e = .returned (.tuple #[.float .f64 (unkeyB k), .bool (isKey k)]) ∧ w' = w := by
  have h : (unkeyZ' (k : Int)).toNat = unkeyB k := by
    unfold unkeyZ' unkeyB
    rw [xor_all k hk]
    (repeat' split) <;> omega
  rw [← h, ← isKeyZ_nat k]
  exact refUnkey_walk w k

def cmpZ (x y : Int) : Int := if x < y then -1 else if y < x then 1 else 0
theorem cmpNaN_any (w : World) (x : Int) : Calls Tryz.prog 64 #[.int .u64 x] w fun e w' => e = .returned (.bool false) ∧ w' = w := by
  go_enter Tryz.func64, Tryz.ntmps64
  go_wp2
  go_ret
  exact ⟨by simp, rfl⟩
theorem cmp_any (w : World) (x y : Int) : Calls Tryz.prog 50 #[.int .u64 x, .int .u64 y] w fun e w' => e = .returned (.int .i64 (cmpZ x y)) ∧ w' = w := by
  go_enter Tryz.func50, Tryz.ntmps50
  go_wp2_with fail
  refine (cmpNaN_any _ _).mono ?_
  rintro e w1 ⟨rfl, rfl⟩
  go_wp2_with fail
  refine (cmpNaN_any _ _).mono ?_
  rintro e w2 ⟨rfl, rfl⟩
  go_wp2
  all_goals (go_ret; refine ⟨congrArg (fun x => Ending.returned (Value.int .i64 x)) (?_ : (_ : Int) = _), rfl⟩; unfold cmpZ; (repeat' split) <;> first | rfl | omega)
def cmpB (a b : Nat) : Int := cmpZ (keyB a) (keyB b)
theorem compare_any (w : World) (a b : Nat) (ha : a < 18446744073709551616) (hb : b < 18446744073709551616) :
    Calls Tryz.prog 24 #[.float .f64 a, .float .f64 b] w fun e w' => e = .returned (.int .i64 (cmpB a b)) ∧ w' = w := by
  go_enter Tryz.func24, Tryz.ntmps24
  go_wp2_with fail
  refine (key_any _ a ha).mono ?_
  rintro e w1 ⟨rfl, rfl⟩
  go_wp2_with fail
  refine (key_any _ b hb).mono ?_
  rintro e w2 ⟨rfl, rfl⟩
  go_wp2_with fail
  refine (cmp_any _ _ _).mono ?_
  rintro e w3 ⟨rfl, rfl⟩
  go_wp2
  go_ret
  exact ⟨rfl, rfl⟩
theorem same_any (w : World) (a b : Nat) (ha : a < 18446744073709551616) (hb : b < 18446744073709551616) :
    Calls Tryz.prog 26 #[.float .f64 a, .float .f64 b] w fun e w' => e = .returned (.bool (decide (keyB a = keyB b))) ∧ w' = w := by
  go_enter Tryz.func26, Tryz.ntmps26
  go_wp2_with fail
  refine (key_any _ a ha).mono ?_
  rintro e w1 ⟨rfl, rfl⟩
  go_wp2_with fail
  refine (key_any _ b hb).mono ?_
  rintro e w2 ⟨rfl, rfl⟩
  go_wp2
  go_ret
  refine ⟨congrArg (fun x => Ending.returned (Value.bool x)) (?_ : decide ((keyB a : Int) = keyB b) = _), rfl⟩
  apply decide_eq_decide.2; omega
theorem refCompare_any (w : World) (a b : Nat) (ha : a < 18446744073709551616) (hb : b < 18446744073709551616) :
    Calls Tryz.prog 25 #[.float .f64 a, .float .f64 b] w fun e w' => e = .returned (.int .i64 (cmpB a b)) ∧ w' = w := by
  have hc : Hid (cmpB a b = cmpZ (keyB a) (keyB b)) := rfl
  go_enter Tryz.func25, Tryz.ntmps25
  go_wp2_with fail
  refine (refKey_any _ a ha).mono ?_
  rintro e w1 ⟨rfl, rfl⟩
  go_wp2_with fail
  refine (refKey_any _ b hb).mono ?_
  rintro e w2 ⟨rfl, rfl⟩
  go_wp2_with fail
  · go_ret
    refine ⟨congrArg (fun x => Ending.returned (Value.int .i64 x)) (?_ : (_ : Int) = _), rfl⟩
    rw [hc.out]; unfold cmpZ; rw [if_pos (by omega)]
  · refine (refKey_any _ a ha).mono ?_
    rintro e w3 ⟨rfl, rfl⟩
    go_wp2_with fail
    refine (refKey_any _ b hb).mono ?_
    rintro e w4 ⟨rfl, rfl⟩
    go_wp2
    all_goals (go_ret; refine ⟨congrArg (fun x => Ending.returned (Value.int .i64 x)) (?_ : (_ : Int) = _), rfl⟩; rw [hc.out]; unfold cmpZ; (repeat' split) <;> first | rfl | omega)
theorem refSame_any (w : World) (a b : Nat) (ha : a < 18446744073709551616) (hb : b < 18446744073709551616) :
    Calls Tryz.prog 27 #[.float .f64 a, .float .f64 b] w fun e w' => e = .returned (.bool (decide (keyB a = keyB b))) ∧ w' = w := by
  go_enter Tryz.func27, Tryz.ntmps27
  go_wp2_with fail
  refine (refKey_any _ a ha).mono ?_
  rintro e w1 ⟨rfl, rfl⟩
  go_wp2_with fail
  refine (refKey_any _ b hb).mono ?_
  rintro e w2 ⟨rfl, rfl⟩
  go_wp2
  go_ret
  refine ⟨congrArg (fun x => Ending.returned (Value.bool x)) (?_ : decide ((keyB a : Int) = keyB b) = _), rfl⟩
  apply decide_eq_decide.2; omega

def nextB (b : Nat) : Nat := if 18442240474082181120 ≤ keyB b then 9221120237041090561 else unkeyB (keyB b + 1)
theorem next_any (w : World) (b : Nat) (hb : b < 18446744073709551616) :
    Calls Tryz.prog 20 #[.float .f64 b] w fun e w' => e = .returned (.float .f64 (nextB b)) ∧ w' = w := by
  have hlt := keyB_lt hb
  obtain ⟨n, hn⟩ : ∃ n, Hid (nextB b = n) := ⟨_, rfl⟩
  obtain ⟨K, hK⟩ : ∃ K : Int, Hid (K = keyB b) := ⟨_, rfl⟩
  rw [hn.out]
  by_cases hc : 18442240474082181120 ≤ K
  · go_enter Tryz.func20, Tryz.ntmps20
    go_wp2_with fail
    refine (key_any _ b hb).mono ?_
    rintro e w1 ⟨rfl, rfl⟩
    rw [← hK.out]
    clear hlt hb
    go_wp2_with fail
    refine (nan_any _).mono ?_
    rintro e w2 ⟨rfl, rfl⟩
    go_wp2
    go_ret
    refine ⟨?_, rfl⟩
    rw [← hn.out, nextB, if_pos (by have := hK.out; omega)]
    rfl
  · have hw : (K + 1) % 18446744073709551616 = K + 1 := by have := hK.out; omega
    have hw2 : IntKind.u64.wrap (K + 1) = K + 1 := by rw [IntKind.wrap_u64]; exact hw
    go_enter Tryz.func20, Tryz.ntmps20
    go_wp2_with fail
    refine (key_any _ b hb).mono ?_
    rintro e w1 ⟨rfl, rfl⟩
    rw [← hK.out]
    clear hb
    replace hlt : Hid (keyB b < 18446744073709551616) := hlt
    go_wp2_with fail
    rw [show K + 1 = ((keyB b + 1 : Nat) : Int) by have := hK.out; omega]
    refine (unkey_any _ _ (by have := hlt.out; have := hK.out; omega)).mono ?_
    rintro e w2 ⟨rfl, rfl⟩
    go_wp2
    go_ret
    refine ⟨?_, rfl⟩
    rw [← hn.out, nextB, if_neg (by have := hK.out; omega)]
    rfl

theorem keyB_nan (b : Nat) (hb : b < 18446744073709551616) : keyB b = 18446744073709551615 ↔ nanB b = true := by
  unfold keyB nanB
  by_cases h : b % 9223372036854775808 > 9218868437227405312
  · simp [h]
  · simp only [decide_eq_true_eq, h, if_false]
    split <;> simp <;> omega
theorem unkey_nan (k : Nat) (hk : k ≤ 18442240474082181120) (hi : isKey k = true) : nanB (unkeyB k) = false := by
  unfold isKey at hi
  have := of_decide_eq_true hi
  unfold unkeyB nanB
  apply decide_eq_false
  (repeat' split) <;> omega
theorem refNext_any (w : World) (b : Nat) (hb : b < 18446744073709551616) :
    Calls Tryz.prog 21 #[.float .f64 b] w fun e w' => e = .returned (.float .f64 (nextB b)) ∧ w' = w := by
  have hlt := keyB_lt hb
  have k2 := of_run
  obtain ⟨n, hn⟩ : ∃ n, Hid (nextB b = n) := ⟨_, rfl⟩
  obtain ⟨K, hK⟩ : ∃ K : Int, Hid (K = keyB b) := ⟨_, rfl⟩
  obtain ⟨Y, hY⟩ : ∃ Y : Nat, Hid (Y = (keyB b + 1) % 18446744073709551616) := ⟨_, rfl⟩
  have hw : IntKind.u64.wrap (K + 1) = (Y : Int) := by rw [IntKind.wrap_u64, hK.out, hY.out]; omega
  have hYl : Y < 18446744073709551616 := by have := hY.out; omega
  have hyl : unkeyB Y < 18446744073709551616 := by unfold unkeyB; (repeat' split) <;> omega
  rw [hn.out]
  replace hlt : Hid (keyB b < 18446744073709551616) := hlt
  have fin : Hid (nextB b = if nanB b || !isKey Y || nanB (unkeyB Y) then 9221120237041090561 else unkeyB Y) := by
    show _ = _
    have h1 := hlt.out
    have h2 := keyB_nan b hb
    have h3 := hY.out
    unfold nextB
    by_cases hc : 18442240474082181120 ≤ keyB b
    · rw [if_pos hc]
      by_cases hm : keyB b = 18446744073709551615
      · rw [h2.1 hm]; exact (if_pos (by simp)).symm
      · by_cases he : keyB b + 1 = 18446744073709551615
        · have : Y = 18446744073709551615 := by omega
          subst this; rw [show nanB (unkeyB 18446744073709551615) = true from by rw [unkeyB, if_pos rfl]; exact decide_eq_true (by omega)]; exact (if_pos (by simp)).symm
        · rw [show isKey Y = false by unfold isKey; apply decide_eq_false; omega]; exact (if_pos (by simp)).symm
    · rw [if_neg hc]
      have e : Y = keyB b + 1 := by omega
      have g : nanB b = false := by
        cases hq : nanB b
        · rfl
        · have := h2.2 hq; omega
      rw [g, ← e]
      cases hq : isKey Y
      · unfold isKey at hq
        have := of_decide_eq_false hq
        have hk : ¬ keyB b < 4503599627370495 := by
          unfold keyB; rw [g]; unfold nanB at g; have := of_decide_eq_false g
          simp only [Bool.false_eq_true, if_false]; split <;> omega
        omega
      · rw [unkey_nan Y (by omega) hq]; exact (if_neg (by simp)).symm
  go_enter Tryz.func21, Tryz.ntmps21
  go_wp2_with fail
  refine (refKey_any _ b hb).mono ?_
  rintro e w1 ⟨rfl, rfl⟩
  rw [← hK.out]
  go_wp2_with fail
  refine (refUnkey_any _ Y hYl).mono ?_
  rintro e w2 ⟨rfl, rfl⟩
  clear hw
  go_wp2_with fail
  refine (refNaN_any _ b hb).mono ?_
  rintro e w3 ⟨rfl, rfl⟩
  obtain ⟨n1, h1⟩ : ∃ n, Hid (nanB b = n) := ⟨_, rfl⟩
  obtain ⟨n2, h2⟩ : ∃ n, Hid (isKey Y = n) := ⟨_, rfl⟩
  rw [h1.out, h2.out]
  cases n1
  · cases n2
    · go_wp2
      go_ret
      refine ⟨congrArg (fun x => Ending.returned (Value.float .f64 x)) (?_ : (_ : Nat) = _), rfl⟩
      rw [← hn.out, fin.out, h1.out, h2.out]; exact (if_pos (by simp)).symm
    · go_wp2_with fail
      refine (refNaN_any _ (unkeyB Y) hyl).mono ?_
      rintro e w4 ⟨rfl, rfl⟩
      obtain ⟨n3, h3⟩ : ∃ n, Hid (nanB (unkeyB Y) = n) := ⟨_, rfl⟩
      rw [h3.out]
      cases n3 <;> go_wp2
      all_goals (go_ret; refine ⟨congrArg (fun x => Ending.returned (Value.float .f64 x)) (?_ : (_ : Nat) = _), rfl⟩; rw [← hn.out, fin.out, h1.out, h2.out, h3.out]; first | exact (if_neg (by simp)).symm | exact (if_pos (by simp)).symm)
  · go_wp2
    go_ret
    refine ⟨congrArg (fun x => Ending.returned (Value.float .f64 x)) (?_ : (_ : Nat) = _), rfl⟩
    rw [← hn.out, fin.out, h1.out]; exact (if_pos (by simp)).symm
end Go.Proofs.YtdjaekmndhhjgaaGreatDoor.Rl
