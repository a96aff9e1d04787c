/-
  What crc.Join, crc.Zeros, crc.Mask, crc.Bare do, and the document's own Mask and Bare.
-/
import Derived.Test.YtdhjlongdfgejaaCrcA
namespace Go.Proofs.Ytdhjlongdfgejaa.Crc
open Go.RowKit

def joinOf (a b : R) (n : Int) : R := if n < 0 then 0#32 else st (8 * n.toNat) a ^^^ b
def zerosOf (c : R) (n : Int) : R := if n < 0 then 0#32 else st (8 * n.toNat) (c ^^^ ones) ^^^ ones
theorem xor_ones (c : R) : bits .xor .u32 (c.toNat : Int) 4294967295 = ((c ^^^ ones).toNat : Int) := b_xor c ones

def rot (c : R) (k : Nat) : R := (c <<< k) ||| (c >>> (32 - k))
theorem b_or (a b : R) : bits .or .u32 (a.toNat : Int) (b.toNat : Int) = ((a ||| b).toNat : Int) := by
  rw [u32_or_nat _ _ (lt32 a) (lt32 b), BitVec.toNat_or]

theorem shl17 (c : R) : (c.toNat : Int) * (131072 : Int) % (4294967296 : Int) = ((c <<< 17).toNat : Int) := by
  rw [BitVec.toNat_shiftLeft, Nat.shiftLeft_eq]; omega
theorem shl15 (c : R) : (c.toNat : Int) * (32768 : Int) % (4294967296 : Int) = ((c <<< 15).toNat : Int) := by
  rw [BitVec.toNat_shiftLeft, Nat.shiftLeft_eq]; omega
theorem shr15 (c : R) : (c.toNat : Int) / (32768 : Int) = ((c >>> 15).toNat : Int) := by
  rw [BitVec.toNat_ushiftRight, Nat.shiftRight_eq_div_pow]; omega
theorem shr17 (c : R) : (c.toNat : Int) / (131072 : Int) = ((c >>> 17).toNat : Int) := by
  rw [BitVec.toNat_ushiftRight, Nat.shiftRight_eq_div_pow]; omega
theorem or17 (c : R) : bits BinOp.or IntKind.u32 ((c.toNat : Int) * 131072 % 4294967296) ((c.toNat : Int) / (32768 : Int)) = ((rot c 17).toNat : Int) := by
  rw [shl17, shr15, b_or]; rfl
theorem or15 (c : R) : bits BinOp.or IntKind.u32 ((c.toNat : Int) * 32768 % 4294967296) ((c.toNat : Int) / (131072 : Int)) = ((rot c 15).toNat : Int) := by
  rw [shl15, shr17, b_or]; rfl
theorem or17' (c : R) : bits BinOp.or IntKind.u32 ((c.toNat : Int) / (32768 : Int)) ((c.toNat : Int) * 131072 % 4294967296) = ((rot c 17).toNat : Int) := by
  rw [shl17, shr15, b_or, BitVec.or_comm]; rfl

def hidden : R := 0xa282ead8#32
def maskOf (c : R) : R := rot c 17 + hidden
def bareOf (c : R) : R := rot (c - hidden) 15
theorem add_hidden (c : R) : ((c.toNat : Int) + (2726488792 : Int)) % (4294967296 : Int) = ((c + hidden).toNat : Int) := by
  rw [BitVec.toNat_add]; show _ = (((c.toNat + 2726488792) % 4294967296 : Nat) : Int); omega
theorem sub_hidden (c : R) : ((c.toNat : Int) - (2726488792 : Int)) % (4294967296 : Int) = ((c - hidden).toNat : Int) := by
  rw [BitVec.toNat_sub]; show _ = (((4294967296 - 2726488792 + c.toNat) % 4294967296 : Nat) : Int); omega
theorem rot_rot (c : R) : rot (rot c 17) 15 = c := by
  apply BitVec.eq_of_getLsbD_eq
  intro i hi
  unfold rot
  simp only [BitVec.getLsbD_or, BitVec.getLsbD_shiftLeft, BitVec.getLsbD_ushiftRight]
  by_cases h : i < 15
  · have e4 : c.getLsbD (15 + (17 + i)) = false := BitVec.getLsbD_of_ge c _ (by omega)
    simp [h, hi, e4, show 17 + i < 32 by omega, show ¬ 17 + i < 17 by omega, show 17 + i - 17 = i by omega]
  · by_cases h2 : i - 15 < 17
    · have e3 : decide (17 + i < 32) = false := by simp; omega
      have e4 : c.getLsbD (15 + (17 + i)) = false := BitVec.getLsbD_of_ge c _ (by omega)
      simp [h, hi, h2, e3, e4, show 15 + (i - 15) = i by omega]
    · omega
theorem rot_rot' (c : R) : rot (rot c 15) 17 = c := by
  apply BitVec.eq_of_getLsbD_eq
  intro i hi
  unfold rot
  simp only [BitVec.getLsbD_or, BitVec.getLsbD_shiftLeft, BitVec.getLsbD_ushiftRight]
  by_cases h : i < 17
  · have e4 : c.getLsbD (17 + (15 + i)) = false := BitVec.getLsbD_of_ge c _ (by omega)
    simp [h, hi, e4, show 15 + i < 32 by omega, show ¬ 15 + i < 15 by omega, show 15 + i - 15 = i by omega]
  · have e3 : decide (15 + i < 32) = false := by simp; omega
    have e4 : c.getLsbD (17 + (15 + i)) = false := BitVec.getLsbD_of_ge c _ (by omega)
    simp [h, hi, e3, e4, show i - 17 < 15 by omega, show 17 + (i - 17) = i by omega]
theorem bare_mask (c : R) : bareOf (maskOf c) = c := by
  unfold bareOf maskOf
  rw [BitVec.add_sub_cancel, rot_rot]
theorem mask_bare (c : R) : maskOf (bareOf c) = c := by
  unfold bareOf maskOf
  rw [rot_rot', BitVec.sub_add_cancel]

end Go.Proofs.Ytdhjlongdfgejaa.Crc
