/-
  What crc.step, crc.times, crc.move do.
-/
import Derived.Test.YtmhbcpbppcihfaaProg
import Derived.Test.YtmhbcpbppcihfaaCrc0
namespace Go.Proofs.Ytmhbcpbppcihfaa.Crc
open Go.RowKit

theorem lt32 (c : R) : c.toNat < 4294967296 := c.isLt
theorem b_xor (a b : R) : bits .xor .u32 (a.toNat : Int) (b.toNat : Int) = ((a ^^^ b).toNat : Int) := by
  rw [u32_xor_nat _ _ (lt32 a) (lt32 b), BitVec.toNat_xor]
theorem b_and1 (c : R) : bits .and .u32 (c.toNat : Int) 1 = if c.getLsbD 0 then 1 else 0 := by
  rw [show (1 : Int) = ((1 : Nat) : Int) from rfl, u32_and_nat _ _ (lt32 c) (by decide), Nat.and_one_is_mod]
  have h : c.getLsbD 0 = decide (c.toNat % 2 = 1) := by rw [BitVec.getLsbD, Nat.testBit_zero]
  rw [h]
  by_cases h1 : c.toNat % 2 = 1
  · rw [h1]; rfl
  · rw [if_neg (by simpa using h1)]; omega

theorem half (c : R) : (c.toNat : Int) / (2 : Int) = ((c >>> 1).toNat : Int) := by
  rw [BitVec.toNat_ushiftRight, Nat.shiftRight_eq_div_pow]; omega
theorem xor_poly (c : R) : bits .xor .u32 ((c.toNat : Int) / 2) 2197175160 = (((c >>> 1) ^^^ poly).toNat : Int) := by
  rw [half, ← b_xor]; rfl

theorem step_any (w : World) (c : R) :
    Calls Try.prog 27 #[.int .u32 (c.toNat : Int)] w fun e w' => e = .returned (.int .u32 ((s1 c).toNat : Int)) ∧ w' = w := by
  have hlt := lt32 c
  have h1 := b_and1 c
  cases hb : c.getLsbD 0 with
  | true =>
    rw [hb, if_pos rfl] at h1
    go_enter Try.func27, Try.ntmps27
    go_wp2
    go_ret
    refine ⟨?_, rfl⟩
    rw [xor_poly, s1, hb]; rfl
  | false =>
    rw [hb] at h1
    simp only [Bool.false_eq_true, if_false] at h1
    go_enter Try.func27, Try.ntmps27
    go_wp2
    go_ret
    refine ⟨?_, rfl⟩
    rw [half, s1, hb]; rfl

theorem and_pow2 (n i : Nat) : n &&& 2 ^ i = if n.testBit i then 2 ^ i else 0 := by
  apply Nat.eq_of_testBit_eq
  intro j
  rw [Nat.testBit_and, Nat.testBit_two_pow]
  by_cases h : i = j
  · subst h; cases hb : n.testBit i <;> simp
  · cases hb : n.testBit i <;> simp [h]
theorem b_andbit (a : R) (k : Nat) (hk : k < 32) : bits .and .u32 (a.toNat : Int) ((2147483648 / 2 ^ k : Nat) : Int) = if a.getLsbD (31 - k) then ((2147483648 / 2 ^ k : Nat) : Int) else 0 := by
  have e : 2147483648 / 2 ^ k = 2 ^ (31 - k) := by rw [show 2147483648 = 2 ^ 31 from rfl, Nat.pow_div (by omega) (by omega)]
  have hb : 2 ^ (31 - k) ≤ 2 ^ 31 := Nat.pow_le_pow_right (by omega) (by omega)
  rw [e, u32_and_nat _ _ (lt32 a) (by omega), and_pow2, BitVec.getLsbD]
  cases a.toNat.testBit (31 - k) <;> rfl

set_option maxRecDepth 100000 in
set_option maxHeartbeats 400000 in
theorem times_any (w : World) (a b : R) :
    Calls Try.prog 28 #[.int .u32 (a.toNat : Int), .int .u32 (b.toNat : Int)] w fun e w' => e = .returned (.int .u32 ((mul a b 32).toNat : Int)) ∧ w' = w := by
  have hlt := lt32 a
  go_enter Try.func28, Try.ntmps28
  go_wp2
  go_loopw [1, 5, 6] (fun vb vp vt wr => ∃ (k bt : Nat), k ≤ 32 ∧ vb = .int .u32 ((st k b).toNat : Int) ∧ vp = .int .u32 ((mul a b k).toNat : Int) ∧ vt = .int .u32 (bt : Int) ∧ Hid (bt = 2147483648 / 2 ^ k) ∧ wr = w) (fun _ _ t _ => (intOf t).toNat)
  case atStart => exact ⟨0, 2147483648, by omega, rfl, rfl, rfl, rfl, rfl⟩
  case round =>
    obtain ⟨k, bt, hk, rfl, rfl, rfl, hbt, rfl⟩ := hrel
    by_cases h32 : k < 32
    · have hpos : 0 < bt := by
        rw [hbt.out, show 2147483648 = 2 ^ 31 from rfl, Nat.pow_div (by omega) (by omega)]
        exact Nat.pow_pos (by omega)
      have hle : bt < 4294967296 := by
        rw [hbt.out]
        exact Nat.lt_of_le_of_lt (Nat.div_le_self _ _) (by decide)
      have hand := b_andbit a k h32
      rw [← hbt.out] at hand
      have hnext : Hid (bt / 2 = 2147483648 / 2 ^ (k + 1)) := by show _ = _; rw [hbt.out, Nat.pow_succ, Nat.div_div_eq_div_mul]
      have hx := b_xor (mul a b k) (st k b)
      cases hb : a.getLsbD (31 - k) with
      | true =>
        rw [hb, if_pos rfl] at hand
        have hne : ((bt : Int) != 0) = true := by simp; omega
        have HM : Hid (mul a b k ^^^ st k b = mul a b (k + 1)) := by show _ = _; rw [mul, hb]; rfl
        rw [HM.out] at hx
        clear hb hbt
        go_wp2_with fail
        refine (step_any _ _).mono ?_
        rintro e w1 ⟨rfl, rfl⟩
        rw [← st_succ']
        go_wp2
        go_roundw
        case rel => exact ⟨k + 1, bt / 2, by omega, rfl, rfl, by go_num, hnext, by trivial⟩
        case measure => simp [intOf]; omega
      | false =>
        rw [hb] at hand
        simp only [Bool.false_eq_true, if_false] at hand
        have HM : Hid (mul a b k = mul a b (k + 1)) := by show _ = _; rw [mul, hb]; simp
        clear hb hbt hx
        go_wp2_with fail
        refine (step_any _ _).mono ?_
        rintro e w1 ⟨rfl, rfl⟩
        rw [← st_succ', HM.out]
        go_wp2
        go_roundw
        case rel => exact ⟨k + 1, bt / 2, by omega, rfl, rfl, by go_num, hnext, by trivial⟩
        case measure => simp [intOf]; omega
    · obtain rfl : k = 32 := by omega
      obtain rfl : bt = 0 := by rw [hbt.out]
      go_wp2
      go_ret
      exact ⟨rfl, rfl⟩

theorem oneByte : (8388608 : Int) = ((st (8 * 1) one).toNat : Int) := by decide +kernel

set_option maxRecDepth 100000 in
set_option maxHeartbeats 400000 in
theorem move_any (w : World) (c : R) (n : Nat) (hn : n ≤ 9223372036854775807) :
    Calls Try.prog 25 #[.int .u32 (c.toNat : Int), .int .i64 (n : Int)] w fun e w' => e = .returned (.int .u32 ((st (8 * n) c).toNat : Int)) ∧ w' = w := by
  go_enter Try.func25, Try.ntmps25
  go_wp2
  go_loopw [0, 1, 5] (fun vc vn vp wr => ∃ (d p m : Nat), vc = .int .u32 ((st (8 * d) c).toNat : Int) ∧ vn = .int .i64 (m : Int) ∧ vp = .int .u32 ((st (8 * p) one).toNat : Int) ∧ Hid (d + p * m = n) ∧ m ≤ 9223372036854775807 ∧ wr = w) (fun _ m _ _ => (intOf m).toNat)
  case atStart => exact ⟨0, 1, n, rfl, rfl, by rw [oneByte], by show _ = _; omega, hn, rfl⟩
  case round =>
    obtain ⟨d, p, m, rfl, rfl, rfl, hd, hm, rfl⟩ := hrel
    by_cases h0 : 0 < m
    · have HP : Hid (mul (st (8 * p) one) (st (8 * p) one) 32 = st (8 * (2 * p)) one) := by
        show _ = _
        rw [mul_pow, ← st_add, show 8 * (2 * p) = 8 * p + 8 * p by omega]
      by_cases h1 : m % 2 = 1
      · have h1' : (m : Int) % 2 = 1 := by omega
        have HC : Hid (mul (st (8 * d) c) (st (8 * p) one) 32 = st (8 * (d + p)) c) := by
          show _ = _
          rw [mul_pow, ← st_add, show 8 * (d + p) = 8 * p + 8 * d by omega]
        go_wp2_with fail
        refine (times_any _ _ _).mono ?_
        rintro e w1 ⟨rfl, rfl⟩
        rw [HC.out]
        go_wp2_with fail
        refine (times_any _ _ _).mono ?_
        rintro e w1 ⟨rfl, rfl⟩
        rw [HP.out]
        go_wp2
        go_roundw
        case rel =>
          refine ⟨d + p, 2 * p, m / 2, rfl, by go_num, rfl, ?_, by omega, by trivial⟩
          show _ = _
          rw [← hd.out]
          have : m = 2 * (m / 2) + 1 := by omega
          conv => rhs; rw [this, Nat.mul_add, ← Nat.mul_assoc, Nat.mul_comm p 2]
          omega
        case measure => simp [intOf]; omega
      · have h1' : (m : Int) % 2 = 0 := by omega
        go_wp2_with fail
        refine (times_any _ _ _).mono ?_
        rintro e w1 ⟨rfl, rfl⟩
        rw [HP.out]
        go_wp2
        go_roundw
        case rel =>
          refine ⟨d, 2 * p, m / 2, rfl, by go_num, rfl, ?_, by omega, by trivial⟩
          show _ = _
          rw [← hd.out]
          have : m = 2 * (m / 2) := by omega
          conv => rhs; rw [this, ← Nat.mul_assoc, Nat.mul_comm p 2]
        case measure => simp [intOf]; omega
    · obtain rfl : m = 0 := by omega
      have : d = n := by have := hd.out; omega
      subst this
      go_wp2
      go_ret
      exact ⟨rfl, rfl⟩
#print axioms move_any
end Go.Proofs.Ytmhbcpbppcihfaa.Crc
