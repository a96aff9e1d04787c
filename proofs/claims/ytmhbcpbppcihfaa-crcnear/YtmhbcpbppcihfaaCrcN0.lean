/-
  A bit turned in a list of bytes, and what that does to a register. No program is named here.
-/
import Derived.Test.YtmhbcpbppcihfaaCrc0
namespace Go.Proofs.Ytmhbcpbppcihfaa.Crc

/-- The list with bit p turned (bit p % 8 of byte p / 8). -/
def flip (l : List UInt8) (p : Nat) : List UInt8 := l.set (p / 8) (l.getD (p / 8) 0 ^^^ UInt8.ofNat (2 ^ (p % 8)))
theorem flip_length (l : List UInt8) (p : Nat) : (flip l p).length = l.length := by simp [flip]
theorem st_bit : ∀ k : Fin 32, st k.val (1#32 <<< k.val) = 1#32 := by decide +kernel
theorem st_bit_add (m k : Nat) (hk : k < 32) (hm : k ≤ m) : st m (1#32 <<< k) = st (m - k) 1#32 := by
  have := st_bit ⟨k, hk⟩
  conv => lhs; rw [show m = (m - k) + k by omega, st_add]
  rw [this]
theorem byte_bit : ∀ k : Fin 8, byte (UInt8.ofNat (2 ^ k.val)) = 1#32 <<< k.val := by decide +kernel
theorem byte_xor (a b : UInt8) : byte (a ^^^ b) = byte a ^^^ byte b := by
  apply BitVec.eq_of_toNat_eq
  have h1 : a.toNat < 2 ^ 32 := by have := a.toNat_lt; omega
  have h2 : b.toNat < 2 ^ 32 := by have := b.toNat_lt; omega
  rw [byte, byte, byte, BitVec.toNat_xor, BitVec.toNat_ofNat, BitVec.toNat_ofNat, BitVec.toNat_ofNat, UInt8.toNat_xor, Nat.mod_eq_of_lt h1, Nat.mod_eq_of_lt h2, Nat.mod_eq_of_lt (Nat.xor_lt_two_pow h1 h2)]
theorem feed_flip (l : List UInt8) : ∀ (x : R) (p : Nat), p < 8 * l.length → feed x (flip l p) = feed x l ^^^ st (8 * l.length - p) 1#32 := by
  induction l with
  | nil => intro x p h; simp at h
  | cons h l ih =>
    intro x p hp
    by_cases h8 : p < 8
    · have e : flip (h :: l) p = (h ^^^ UInt8.ofNat (2 ^ p)) :: l := by
        unfold flip
        rw [Nat.div_eq_of_lt h8, Nat.mod_eq_of_lt h8]; rfl
      rw [e]
      show feed (st 8 (x ^^^ byte (h ^^^ UInt8.ofNat (2 ^ p)))) l = _
      rw [byte_xor, byte_bit ⟨p, h8⟩, ← BitVec.xor_assoc, st_xor 8 (x ^^^ byte h), BitVec.xor_comm (st 8 (x ^^^ byte h)), feed_xor, BitVec.xor_comm]
      show feed (st 8 (x ^^^ byte h)) l ^^^ _ = feed (st 8 (x ^^^ byte h)) l ^^^ _
      congr 1
      show st (8 * l.length) (st 8 (1#32 <<< p)) = _
      rw [← st_add, st_bit_add _ p (by omega) (by omega), List.length_cons, show 8 * l.length + 8 - p = 8 * (l.length + 1) - p by omega]
    · have e : flip (h :: l) p = h :: flip l (p - 8) := by
        unfold flip
        rw [show p / 8 = (p - 8) / 8 + 1 by omega, show p % 8 = (p - 8) % 8 by omega]
        rfl
      rw [e]
      show feed (st 8 (x ^^^ byte h)) (flip l (p - 8)) = _
      simp only [List.length_cons] at hp ⊢
      rw [ih _ _ (by omega), show 8 * l.length - (p - 8) = 8 * (l.length + 1) - p by omega]
      rfl
/-- What the first k turned bits of t, from bit f on, do. -/
def turned (t : R) (N f k : Nat) : R := st (N - f) (pick (fun i => 1#32 <<< i) t k)
theorem turned_zero (t : R) (N f : Nat) : turned t N f 0 = 0#32 := st_zero _
theorem turned_one (t : R) (N f k : Nat) (hk : k < 32) (hf : f + 32 ≤ N) (h : t.getLsbD k = true) : turned t N f (k + 1) = turned t N f k ^^^ st (N - (f + k)) 1#32 := by
  unfold turned
  rw [pick, h, if_pos rfl, st_xor, st_bit_add _ k hk (by omega), show N - f - k = N - (f + k) by omega]
theorem turned_none (t : R) (N f k : Nat) (h : t.getLsbD k = false) : turned t N f (k + 1) = turned t N f k := by
  unfold turned
  rw [pick, h]; simp
theorem turned_ne (t : R) (N f : Nat) (h : t ≠ 0#32) : turned t N f 32 ≠ 0#32 := by
  unfold turned
  rw [pick_all]
  exact fun e => h (st_inj _ e)
theorem more_ne (b c : List UInt8) (d : R) (h : feed ones c = feed ones b ^^^ d) (hd : d ≠ 0#32) : more 0#32 b ≠ more 0#32 c := by
  unfold more
  rw [BitVec.zero_xor, h]
  intro e
  apply hd
  have := congrArg (fun x => feed ones b ^^^ (x ^^^ ones)) e
  simp only [BitVec.xor_assoc, BitVec.xor_self, BitVec.xor_zero] at this
  rw [← BitVec.xor_assoc, BitVec.xor_self, BitVec.zero_xor] at this
  exact this.symm
#print axioms more_ne
end Go.Proofs.Ytmhbcpbppcihfaa.Crc
