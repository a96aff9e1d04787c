/-
  The forms of package wire as plain functions on lists of bytes: the varint's form, and what it is worth.
-/
import Derived.Test.YtdelknejmapeaaaBase
namespace Go.Proofs.Ytdelknejmapeaaa

def encF : Nat → Nat → List UInt8
  | 0, _ => []
  | f + 1, n => if n < 128 then [UInt8.ofNat n] else UInt8.ofNat (n % 128 + 128) :: encF f (n / 128)
/-- The varint of n (below 2^64). -/
def enc (n : Nat) : List UInt8 := encF 10 n

theorem encF_more (f : Nat) : ∀ n, n < 128 ^ f → encF (f + 1) n = encF f n ∨ f = 0 := by
  induction f with
  | zero => intro n _; exact Or.inr rfl
  | succ f ih =>
    intro n hn
    left
    rw [encF]
    conv => rhs; rw [encF]
    by_cases h : n < 128
    · rw [if_pos h, if_pos h]
    · rw [if_neg h, if_neg h]
      have h2 : n / 128 < 128 ^ f := Nat.div_lt_of_lt_mul (by rw [Nat.pow_succ] at hn; omega)
      rcases ih _ h2 with e | e
      · rw [e]
      · subst e; simp at h2; omega

theorem enc_small {n : Nat} (h : n < 128) : enc n = [UInt8.ofNat n] := by
  show encF 10 n = _
  rw [encF, if_pos h]
theorem enc_big {n : Nat} (h : 128 ≤ n) (hn : n < 2 ^ 64) : enc n = UInt8.ofNat (n % 128 + 128) :: enc (n / 128) := by
  show encF 10 n = _ :: encF 10 (n / 128)
  rw [encF, if_neg (by omega)]
  congr 1
  rcases encF_more 9 (n / 128) (by omega) with e | e
  · exact e.symm
  · omega
theorem encF_len (f n : Nat) : (encF f n).length ≤ f := by
  induction f generalizing n with
  | zero => simp [encF]
  | succ f ih =>
    rw [encF]; split
    · simp
    · have := ih (n / 128); simp; omega
theorem enc_len (n : Nat) : (enc n).length ≤ 10 := encF_len 10 n
theorem enc_pos (n : Nat) : 1 ≤ (enc n).length := by
  show 1 ≤ (encF 10 n).length
  rw [encF]; split <;> simp

/-- A byte as the model holds it. -/
def bval (c : UInt8) : Value := .int .u8 (c.toNat : Int)
def bvals (l : List UInt8) : List Value := l.map bval
theorem bvals_append (l m : List UInt8) : bvals (l ++ m) = bvals l ++ bvals m := by simp [bvals]
theorem bvals_length (l : List UInt8) : (bvals l).length = l.length := by simp [bvals]

theorem or128_all : ∀ a : Fin 128, bits BinOp.or IntKind.u8 ((a.val : Nat) : Int) 128 = ((a.val + 128 : Nat) : Int) := by decide +kernel
theorem or128 (m : Nat) : bits BinOp.or IntKind.u8 ((m : Int) % 128) 128 = ((m % 128 + 128 : Nat) : Int) := by
  have h := or128_all ⟨m % 128, by omega⟩
  rw [← h]; congr 1
theorem u8_of (k : Nat) (h : k < 256) : Value.int .u8 (k : Int) = bval (UInt8.ofNat k) := by
  unfold bval
  rw [UInt8.toNat_ofNat_of_lt' (by simpa using h)]
theorem bval_big (m : Nat) : Value.int .u8 (bits BinOp.or IntKind.u8 ((m : Int) % 128) 128) = bval (UInt8.ofNat (m % 128 + 128)) := by
  rw [or128, u8_of _ (by omega)]
theorem bvals_one (l : List UInt8) (c : UInt8) : bvals l ++ [bval c] = bvals (l ++ [c]) := by simp [bvals]
end Go.Proofs.Ytdelknejmapeaaa
