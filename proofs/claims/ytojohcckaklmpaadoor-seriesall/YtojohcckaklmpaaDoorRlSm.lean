/-
  What exact sums come to: of one number, of two, of whole numbers, of a list turned round, of a list with a number and its opposite.
-/
import Derived.Test.YtojohcckaklmpaaDoorRlNr
namespace Go.Proofs.YtojohcckaklmpaaDoor.Rl
open Go.RowKit
set_option maxRecDepth 100000

theorem round_exact (D h : Nat) (hD : D < 9007199254740992) (hh : h ≤ 2045) : magB (roundB (D * 2 ^ h)) = D * 2 ^ h := by
  unfold roundB
  by_cases hlt : D * 2 ^ h < 9007199254740992
  · rw [if_pos hlt]
    unfold magB
    by_cases h1 : D * 2 ^ h < 4503599627370496
    · rw [if_pos h1]
    · rw [if_neg h1, show D * 2 ^ h / 4503599627370496 - 1 = 0 by omega, Nat.pow_zero, Nat.mul_one]; omega
  · rw [if_neg hlt]
    have hD0 : D ≠ 0 := by rintro rfl; rw [Nat.zero_mul] at hlt; omega
    have hl := log2_mul_pow D h hD0
    have hV0 : D * 2 ^ h ≠ 0 := Nat.mul_ne_zero hD0 (Nat.pos_iff_ne_zero.1 (Nat.two_pow_pos h))
    have hb := (Nat.log2_eq_iff hV0).1 rfl
    have hbD := (Nat.log2_eq_iff hD0).1 rfl
    rw [hl] at hb
    have hd52 : D.log2 ≤ 52 := by
      rcases Nat.lt_or_ge 52 D.log2 with g | g
      · have := pow_le2 53 _ g; omega
      · exact g
    have h53 : 53 ≤ D.log2 + h := by
      rcases Nat.lt_or_ge (D.log2 + h) 53 with g | g
      · have := pow_le2 (D.log2 + h + 1) 53 (by omega); omega
      · exact g
    obtain ⟨s, hs⟩ : ∃ s, s = D.log2 + h - 52 := ⟨_, rfl⟩
    rw [hl, ← hs]
    have hsh : s ≤ h := by omega
    have e2 : D * 2 ^ h = D * 2 ^ (h - s) * 2 ^ s := by rw [Nat.mul_assoc, ← Nat.pow_add, Nat.sub_add_cancel hsh]
    have e3 : D * 2 ^ h / 2 ^ s = D * 2 ^ (h - s) := by rw [e2, Nat.mul_div_cancel _ (Nat.two_pow_pos s)]
    have e4 : D * 2 ^ h % 2 ^ s = 0 := by rw [e2]; exact Nat.mul_mod_left _ _
    have hf : ¬ (2 ^ s < 2 * 0 ∨ (2 ^ s = 2 * 0 ∧ D * 2 ^ (h - s) % 2 = 1)) := by have := Nat.two_pow_pos s; omega
    rw [up_iff _ _ (by omega), e3, e4, decide_eq_false hf, Bool.toNat_false, Nat.add_zero]
    have hq1 : 4503599627370496 ≤ D * 2 ^ (h - s) := by
      have g1 : 2 ^ (D.log2 + (h - s)) = 2 ^ 52 := by congr 1; omega
      have g2 : 2 ^ D.log2 * 2 ^ (h - s) ≤ D * 2 ^ (h - s) := Nat.mul_le_mul_right _ hbD.1
      rw [← Nat.pow_add, g1] at g2
      omega
    have hq2 : D * 2 ^ (h - s) < 9007199254740992 := by
      have g1 : 2 ^ (D.log2 + 1 + (h - s)) = 2 ^ 53 := by congr 1; omega
      have g2 : D * 2 ^ (h - s) < 2 ^ (D.log2 + 1) * 2 ^ (h - s) := Nat.mul_lt_mul_of_pos_right hbD.2 (Nat.two_pow_pos _)
      rw [← Nat.pow_add, g1] at g2
      omega
    rw [e2]
    generalize D * 2 ^ (h - s) = q at *
    rw [Nat.min_eq_left (by omega)]
    unfold magB
    rw [if_neg (by omega), show (s * 4503599627370496 + q) / 4503599627370496 - 1 = s by omega, show (s * 4503599627370496 + q) % 4503599627370496 + 4503599627370496 = q by omega]
theorem mag_form {s : Nat} (h : s < 9218868437227405312) : ∃ D k, magB s = D * 2 ^ k ∧ D < 9007199254740992 ∧ k ≤ 2045 := by
  unfold magB
  by_cases h1 : s < 4503599627370496
  · rw [if_pos h1]; exact ⟨s, 0, by simp, by omega, by omega⟩
  · rw [if_neg h1]; exact ⟨_, _, rfl, by omega, by omega⟩
theorem round_mag {s : Nat} (h : s < 9218868437227405312) : roundB (magB s) = s := by
  obtain ⟨D, k, e, h1, h2⟩ := mag_form h
  apply mag_inj
  rw [e]
  exact round_exact D k h1 h2
theorem pos_neg (b : Nat) : (posB b : Int) - negB b = sg b := by unfold posB negB sg; split <;> simp
theorem sums (xs : List Nat) : (posS xs : Int) - negS xs = (xs.map sg).sum := by
  induction xs with
  | nil => rfl
  | cons x r ih =>
    unfold posS negS at *
    simp only [List.map_cons, List.sum_cons]
    have := pos_neg x
    omega
/-- A sum by its sign and its size. -/
def signB (z : Int) : Nat := if z < 0 then 9223372036854775808 + roundB z.natAbs else roundB z.natAbs
theorem sumB_sg {xs : List Nat} (h : unsB xs = none) : sumB xs = signB (xs.map sg).sum := by
  have e := sums xs
  unfold sumB signB
  rw [h]
  simp only
  by_cases g : posS xs < negS xs
  · rw [if_pos g, if_pos (by omega)]; congr 2; omega
  · rw [if_neg g, if_neg (by omega)]; congr 1; omega
theorem cnt_perm {xs ys : List Nat} (h : xs.Perm ys) (c : Nat) : cnt xs c = cnt ys c := h.countP_eq _
theorem sumB_perm {xs ys : List Nat} (h : xs.Perm ys) : sumB xs = sumB ys := by
  have e : unsB xs = unsB ys := by unfold unsB; rw [cnt_perm h, cnt_perm h, cnt_perm h, cnt_perm h, h.length_eq]
  have e2 : posS xs = posS ys := (h.map posB).sum_nat
  have e3 : negS xs = negS ys := (h.map negB).sum_nat
  unfold sumB; rw [e, e2, e3]
#print axioms sumB_perm
end Go.Proofs.YtojohcckaklmpaaDoor.Rl
