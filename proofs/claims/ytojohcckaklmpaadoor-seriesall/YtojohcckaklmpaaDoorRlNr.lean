/-
  The model's nearest number is the one that an exact sum is rounded to.
-/
import Derived.Test.YtojohcckaklmpaaDoorRlF1
namespace Go.Proofs.YtojohcckaklmpaaDoor.Rl
open Go.RowKit
set_option maxRecDepth 100000

theorem up_iff (V s : Nat) (hs : 1 ≤ s) : upB V s = decide (2 ^ s < 2 * (V % 2 ^ s) ∨ (2 ^ s = 2 * (V % 2 ^ s) ∧ V / 2 ^ s % 2 = 1)) := by
  obtain ⟨t, rfl⟩ : ∃ t, s = t + 1 := ⟨s - 1, by omega⟩
  unfold upB
  rw [Nat.add_sub_cancel]
  have hp : 0 < 2 ^ t := Nat.two_pow_pos t
  have e1 : V % 2 ^ (t + 1) = V % 2 ^ t + 2 ^ t * (V / 2 ^ t % 2) := by rw [Nat.pow_succ, Nat.mod_mul]
  have e2 : V % 2 ^ t < 2 ^ t := Nat.mod_lt _ hp
  rw [e1, Nat.pow_succ]
  generalize V / (2 ^ t * 2) % 2 = o
  generalize V % 2 ^ t = r at *
  have hb : V / 2 ^ t % 2 = 0 ∨ V / 2 ^ t % 2 = 1 := by omega
  generalize V / 2 ^ t % 2 = b at *
  generalize 2 ^ t = P at *
  rcases hb with rfl | rfl
  · rw [Nat.mul_zero, Nat.add_zero, decide_eq_false (by omega : ¬ (0 = 1)), Bool.false_and]
    rw [decide_eq_false (by omega)]
  · rw [Nat.mul_one, decide_eq_true rfl, Bool.true_and]
    rw [Bool.eq_iff_iff]
    simp only [Bool.or_eq_true, decide_eq_true_eq]
    omega
theorem log2_mul_pow (m p : Nat) (hm : m ≠ 0) : (m * 2 ^ p).log2 = m.log2 + p := by
  have h0 : m * 2 ^ p ≠ 0 := Nat.mul_ne_zero hm (Nat.pos_iff_ne_zero.1 (Nat.two_pow_pos p))
  rw [Nat.log2_eq_iff h0]
  have h1 := (Nat.log2_eq_iff hm).1 rfl
  refine ⟨?_, ?_⟩
  · rw [Nat.pow_add]; exact Nat.mul_le_mul_right _ h1.1
  · rw [show m.log2 + p + 1 = (m.log2 + 1) + p by omega, Nat.pow_add]; exact Nat.mul_lt_mul_of_pos_right h1.2 (Nat.two_pow_pos p)
theorem cut_zero (neg : Bool) (n : Nat) : Ieee.Toward.even.cut neg n 0 = n := by
  unfold Ieee.Toward.cut
  simp [Nat.mod_one]
theorem cut_some (neg : Bool) (n d : Nat) (hd : d ≤ n.log2 + 2) : Ieee.Toward.even.cut neg n d = n / 2 ^ d + (decide (2 ^ d < 2 * (n % 2 ^ d) ∨ (2 ^ d = 2 * (n % 2 ^ d) ∧ n / 2 ^ d % 2 = 1))).toNat := by
  unfold Ieee.Toward.cut
  simp only [Nat.min_eq_left hd, Nat.one_shiftLeft]
  congr 2
  rw [Bool.eq_iff_iff]
  simp
theorem round_zero : roundB 0 = 0 := by unfold roundB; rw [if_pos (by omega)]
theorem nearest_eq (neg : Bool) (m p : Nat) : Ieee.double.nearest neg m (-1074 + (p : Int)) = Ieee.double.word neg (roundB (m * 2 ^ p)) := by
  unfold Ieee.Format.nearest
  by_cases hm : m = 0
  · subst hm; rw [if_pos rfl, Nat.zero_mul, round_zero]
  · rw [if_neg hm, fmt_least, fmt_bin, fmt_inf]
    simp only
    obtain ⟨s, hs⟩ : ∃ s : Nat, s = m.log2 + p - 52 := ⟨_, rfl⟩
    have e1 : max (-1074 + (p : Int) + (m.log2 : Int) - (Ieee.double.fractionBits : Int)) (-1074) = -1074 + (s : Int) := by
      have : (Ieee.double.fractionBits : Int) = 52 := rfl
      rw [this]; omega
    rw [e1, show (-1074 + (p : Int) - (-1074 + (s : Int))).toNat = p - s by omega, show (-1074 + (s : Int) - (-1074 + (p : Int))).toNat = s - p by omega,
      show (-1074 + (s : Int) - -1074).toNat = s by omega]
    congr 1
    have hl := log2_mul_pow m p hm
    have hV0 : m * 2 ^ p ≠ 0 := Nat.mul_ne_zero hm (Nat.pos_iff_ne_zero.1 (Nat.two_pow_pos p))
    have hb := (Nat.log2_eq_iff hV0).1 rfl
    rw [hl] at hb
    by_cases hps : s ≤ p
    · rw [show s - p = 0 by omega, cut_zero, Nat.shiftLeft_eq]
      have e2 : m * 2 ^ p = m * 2 ^ (p - s) * 2 ^ s := by rw [Nat.mul_assoc, ← Nat.pow_add, Nat.sub_add_cancel hps]
      have e3 : m * 2 ^ p / 2 ^ s = m * 2 ^ (p - s) := by rw [e2, Nat.mul_div_cancel _ (Nat.two_pow_pos s)]
      have e4 : m * 2 ^ p % 2 ^ s = 0 := by rw [e2]; exact Nat.mul_mod_left _ _
      unfold roundB
      by_cases hlt : m * 2 ^ p < 9007199254740992
      · have hs0 : s = 0 := by
          have : m.log2 + p < 53 := by
            rcases Nat.lt_or_ge (m.log2 + p) 53 with h | h
            · exact h
            · have := pow_le2 53 _ h; omega
          omega
        rw [if_pos hlt]
        subst hs0
        simp only [Nat.zero_mul, Nat.zero_add, Nat.sub_zero]
        exact Nat.min_eq_left (by omega)
      · have hs1 : 1 ≤ s := by
          rcases Nat.lt_or_ge s 1 with h | h
          · exfalso
            have h2 : m.log2 + p + 1 ≤ 53 := by omega
            have := pow_le2 _ 53 h2
            omega
          · exact h
        have hf : ¬ (2 ^ s < 2 * 0 ∨ (2 ^ s = 2 * 0 ∧ m * 2 ^ (p - s) % 2 = 1)) := by have := Nat.two_pow_pos s; omega
        rw [if_neg hlt, hl, ← hs, up_iff _ _ hs1, e3, e4, decide_eq_false hf, Bool.toNat_false, Nat.add_zero]
    · have hs2 : s - p = m.log2 - 52 := by omega
      have hsp : s = (s - p) + p := by omega
      rw [show p - s = 0 by omega, Nat.shiftLeft_zero, cut_some _ _ _ (by omega)]
      have e3 : m * 2 ^ p / 2 ^ s = m / 2 ^ (s - p) := by rw [hsp, Nat.pow_add, Nat.mul_div_mul_right _ _ (Nat.two_pow_pos p), Nat.add_sub_cancel]
      have e4 : m * 2 ^ p % 2 ^ s = m % 2 ^ (s - p) * 2 ^ p := by rw [hsp, Nat.pow_add, Nat.mul_mod_mul_right, Nat.add_sub_cancel]
      have hs1 : 1 ≤ s := by omega
      have hlt : ¬ m * 2 ^ p < 9007199254740992 := by
        have h2 : 53 ≤ m.log2 + p := by omega
        have := pow_le2 53 _ h2
        omega
      unfold roundB
      rw [if_neg hlt, hl, ← hs, up_iff _ _ hs1, e3, e4]
      have e5 : 2 ^ s = 2 ^ (s - p) * 2 ^ p := by rw [← Nat.pow_add]; congr 1
      rw [e5, show 2 * (m % 2 ^ (s - p) * 2 ^ p) = (2 * (m % 2 ^ (s - p))) * 2 ^ p by rw [Nat.mul_assoc]]
      have h6 : ∀ a b : Nat, a * 2 ^ p < b * 2 ^ p ↔ a < b := fun a b => Nat.mul_lt_mul_right (Nat.two_pow_pos p)
      have h7 : ∀ a b : Nat, a * 2 ^ p = b * 2 ^ p ↔ a = b := fun a b => ⟨fun h => Nat.eq_of_mul_eq_mul_right (Nat.two_pow_pos p) h, fun h => by rw [h]⟩
      simp only [h6, h7]
      rw [Nat.add_assoc]
#print axioms nearest_eq
end Go.Proofs.YtojohcckaklmpaaDoor.Rl
