/-
  What crc.step, crc.times, crc.move do.
-/
import Derived.Test.YtdhjlongdfgejaaProg
import Derived.Test.YtdhjlongdfgejaaCrc0
namespace Go.Proofs.Ytdhjlongdfgejaa.Crc
open Go.RowKit

theorem lt32 (c : R) : c.toNat < 4294967296 := c.isLt
theorem b_xor (a b : R) : bits .xor .u32 (a.toNat : Int) (b.toNat : Int) = ((a ^^^ b).toNat : Int) := by
  rw [u32_xor_nat _ _ (lt32 a) (lt32 b), BitVec.toNat_xor]
theorem b_and1 (c : R) : bits .and .u32 (c.toNat : Int) 1 = if c.getLsbD 0 then 1 else 0 := by
  rw [show (1 : Int) = ((1 : Nat) : Int) from rfl, u32_and_nat _ _ (lt32 c) (by decide), Nat.and_one_is_mod]
  have h : c.getLsbD 0 = decide (c.toNat % 2 = 1) := by rw [BitVec.getLsbD, Nat.testBit_zero]
  rw [h]
  by_cases h1 : c.toNat % 2 = 1
  · rw [h1]; rfl
  · rw [if_neg (by simpa using h1)]; omega

theorem half (c : R) : (c.toNat : Int) / (2 : Int) = ((c >>> 1).toNat : Int) := by
  rw [BitVec.toNat_ushiftRight, Nat.shiftRight_eq_div_pow]; omega
theorem xor_poly (c : R) : bits .xor .u32 ((c.toNat : Int) / 2) 2197175160 = (((c >>> 1) ^^^ poly).toNat : Int) := by
  rw [half, ← b_xor]; rfl

theorem step_any (w : World) (c : R) :
    Calls Try.prog 73 #[.int .u32 (c.toNat : Int)] w fun e w' => e = .returned (.int .u32 ((s1 c).toNat : Int)) ∧ w' = w := by
  have hlt := lt32 c
  have h1 := b_and1 c
  cases hb : c.getLsbD 0 with
  | true =>
    rw [hb, if_pos rfl] at h1
    go_enter Try.func73, Try.ntmps73
    go_wp2
    go_ret
    refine ⟨?_, rfl⟩
    rw [xor_poly, s1, hb]; rfl
  | false =>
    rw [hb] at h1
    simp only [Bool.false_eq_true, if_false] at h1
    go_enter Try.func73, Try.ntmps73
    go_wp2
    go_ret
    refine ⟨?_, rfl⟩
    rw [half, s1, hb]; rfl

theorem and_pow2 (n i : Nat) : n &&& 2 ^ i = if n.testBit i then 2 ^ i else 0 := by
  apply Nat.eq_of_testBit_eq
  intro j
  rw [Nat.testBit_and, Nat.testBit_two_pow]
  by_cases h : i = j
  · subst h; cases hb : n.testBit i <;> simp
  · cases hb : n.testBit i <;> simp [h]
theorem b_andbit (a : R) (k : Nat) (hk : k < 32) : bits .and .u32 (a.toNat : Int) ((2147483648 / 2 ^ k : Nat) : Int) = if a.getLsbD (31 - k) then ((2147483648 / 2 ^ k : Nat) : Int) else 0 := by
  have e : 2147483648 / 2 ^ k = 2 ^ (31 - k) := by rw [show 2147483648 = 2 ^ 31 from rfl, Nat.pow_div (by omega) (by omega)]
  have hb : 2 ^ (31 - k) ≤ 2 ^ 31 := Nat.pow_le_pow_right (by omega) (by omega)
  rw [e, u32_and_nat _ _ (lt32 a) (by omega), and_pow2, BitVec.getLsbD]
  cases a.toNat.testBit (31 - k) <;> rfl

theorem oneByte : (8388608 : Int) = ((st (8 * 1) one).toNat : Int) := by decide +kernel

end Go.Proofs.Ytdhjlongdfgejaa.Crc
