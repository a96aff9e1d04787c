/-
  Exact sums of one number and of two, and Go's own.
-/
import Derived.Test.YtojohcckaklmpaaDoorRlSm
namespace Go.Proofs.YtojohcckaklmpaaDoor.Rl
open Go.RowKit
set_option maxRecDepth 100000

theorem cnt_cons (x : Nat) (r : List Nat) (c : Nat) : cnt (x :: r) c = (if classB x = (c : Int) then 1 else 0) + cnt r c := by
  unfold cnt
  rw [List.countP_cons]
  by_cases h : classB x = (c : Int)
  · simp [h]; omega
  · simp [h]
theorem cnt_nil (c : Nat) : cnt [] c = 0 := rfl
/-- What a number is: one of five. -/
theorem kinds {b : Nat} (hb : b < 18446744073709551616) :
    (nanB b = true ∧ classB b = 1) ∨ (b = 9218868437227405312 ∧ nanB b = false ∧ classB b = 9) ∨ (b = 18442240474082181120 ∧ nanB b = false ∧ classB b = 2) ∨
    (b = 9223372036854775808 ∧ nanB b = false ∧ classB b = 5) ∨ (b % 9223372036854775808 < 9218868437227405312 ∧ b ≠ 9223372036854775808 ∧ nanB b = false ∧ classB b ≠ 1 ∧ classB b ≠ 2 ∧ classB b ≠ 5 ∧ classB b ≠ 9) := by
  cases hn : nanB b
  · have h0 : ¬ b % 9223372036854775808 > 9218868437227405312 := of_decide_eq_false hn
    have hc : classB b = if b < 9223372036854775808 then 6 + rankB b else 5 - rankB (b - 9223372036854775808) := by unfold classB; rw [hn]; simp only [Bool.false_eq_true, if_false]
    by_cases h1 : b = 9218868437227405312
    · refine Or.inr (Or.inl ⟨h1, rfl, ?_⟩); subst h1; decide +kernel
    · by_cases h2 : b = 18442240474082181120
      · refine Or.inr (Or.inr (Or.inl ⟨h2, rfl, ?_⟩)); subst h2; decide +kernel
      · by_cases h3 : b = 9223372036854775808
        · refine Or.inr (Or.inr (Or.inr (Or.inl ⟨h3, rfl, ?_⟩))); subst h3; decide +kernel
        · refine Or.inr (Or.inr (Or.inr (Or.inr ⟨by omega, h3, rfl, ?_⟩)))
          rw [hc]
          unfold rankB
          by_cases hs : b < 9223372036854775808
          · rw [if_pos hs]; (repeat' split) <;> omega
          · rw [if_neg hs]; (repeat' split) <;> omega
  · exact Or.inl ⟨rfl, by unfold classB; rw [hn]; rfl⟩
theorem sg_mod {b : Nat} (hb : b < 18446744073709551616) (h3 : b ≠ 9223372036854775808) (hf : b % 9223372036854775808 < 9218868437227405312) : signB (sg b) = b := by
  unfold signB sg
  by_cases h : b < 9223372036854775808
  · rw [if_pos h, if_neg (by omega), Int.natAbs_natCast, round_mag (by omega)]
  · have hp : 0 < magB (b - 9223372036854775808) := by
      have := mag_mono (show 0 < b - 9223372036854775808 by omega); rw [mag_zero] at this; exact this
    rw [if_neg h, if_pos (by omega), Int.natAbs_neg, Int.natAbs_natCast, round_mag (by omega)]; omega
theorem uns_one {b : Nat} (h1 : classB b ≠ 1) (h2 : classB b ≠ 2) (h5 : classB b ≠ 5) (h9 : classB b ≠ 9) : unsB [b] = none := by
  unfold unsB
  simp only [cnt_cons, cnt_nil]
  rw [if_neg (by simp [h1, h9]), if_neg (by simp [h9]), if_neg (by simp [h2]), if_neg (by simp [h5])]
theorem sum_one {b : Nat} (hb : b < 18446744073709551616) : sumB [b] = canonB b := by
  rcases kinds hb with ⟨hn, hc⟩ | ⟨rfl, hn, hc⟩ | ⟨rfl, hn, hc⟩ | ⟨rfl, hn, hc⟩ | ⟨hf, h3, hn, h1, h2, h5, h9⟩
  · have e : unsB [b] = some 9221120237041090561 := by unfold unsB; simp only [cnt_cons, cnt_nil, hc]; rw [if_pos (by simp)]
    unfold sumB canonB; rw [e, hn]; rfl
  · decide +kernel
  · decide +kernel
  · decide +kernel
  · rw [sumB_sg (uns_one h1 h2 h5 h9), canonB, hn]
    simp only [List.map_cons, List.map_nil, List.sum_cons, List.sum_nil, Int.add_zero, Bool.false_eq_true, if_false]
    exact sg_mod hb h3 hf
theorem word_eq (neg : Bool) (r : Nat) : Ieee.double.word neg r = if neg then 9223372036854775808 + r else r := by unfold Ieee.Format.word; rw [fmt_sign]
theorem uns_two {a b : Nat} (a1 : classB a ≠ 1) (a2 : classB a ≠ 2) (a9 : classB a ≠ 9) (b1 : classB b ≠ 1) (b2 : classB b ≠ 2) (b9 : classB b ≠ 9) (h5 : ¬ (classB a = 5 ∧ classB b = 5)) : unsB [a, b] = none := by
  unfold unsB
  simp only [cnt_cons, cnt_nil]
  rw [if_neg (by simp [a1, a9, b1, b9]), if_neg (by simp [a9, b9]), if_neg (by simp [a2, b2]), if_neg]
  simp only [List.length_cons, List.length_nil]
  by_cases g1 : classB a = 5
  · have g2 : classB b ≠ 5 := fun e => h5 ⟨g1, e⟩
    simp [g1, g2]
  · by_cases g2 : classB b = 5 <;> simp [g1, g2]
theorem sg_zero_iff {b : Nat} (hb : b < 18446744073709551616) (hs : sgnB b = true) (h0 : sg b = 0) : b = 9223372036854775808 := by
  rw [sg_eq hb, hs, if_pos rfl] at h0
  have : magB (b % 9223372036854775808) = 0 := by omega
  have h1 : b % 9223372036854775808 = 0 := by
    rcases Nat.eq_zero_or_pos (b % 9223372036854775808) with h | h
    · exact h
    · have := mag_mono h; rw [mag_zero] at this; omega
  unfold sgnB at hs
  simp at hs
  omega
/-- Two finite numbers: Go's sum is the exact one, rounded once. -/
theorem add_fin {a b : Nat} (ha : a < 18446744073709551616) (hb : b < 18446744073709551616) (fa : a % 9223372036854775808 < 9218868437227405312) (fb : b % 9223372036854775808 < 9218868437227405312) :
    Ieee.double.add a b = some (if a = 9223372036854775808 ∧ b = 9223372036854775808 then 9223372036854775808 else signB (sg a + sg b)) := by
  unfold Ieee.Format.add
  obtain ⟨m, h, ea, em⟩ := read_fin fa
  obtain ⟨n, k, eb, en⟩ := read_fin fb
  rw [ea, eb]
  have hd : Ieee.Datum.sum (.number (sgnB a) m (-1074 + (h : Int))) (.number (sgnB b) n (-1074 + (k : Int))) =
      some (.number (if Ieee.signed (sgnB a) m (h - min h k) + Ieee.signed (sgnB b) n (k - min h k) = 0 then sgnB a && sgnB b else decide (Ieee.signed (sgnB a) m (h - min h k) + Ieee.signed (sgnB b) n (k - min h k) < 0))
        (Ieee.signed (sgnB a) m (h - min h k) + Ieee.signed (sgnB b) n (k - min h k)).natAbs (-1074 + ((min h k : Nat) : Int))) := by
    show some _ = some _
    rw [show min (-1074 + (h : Int)) (-1074 + (k : Int)) = -1074 + ((min h k : Nat) : Int) by omega]
    rw [show ((-1074 + (h : Int)) - (-1074 + ((min h k : Nat) : Int))).toNat = h - min h k by omega,
      show ((-1074 + (k : Int)) - (-1074 + ((min h k : Nat) : Int))).toNat = k - min h k by omega]
  rw [hd]
  have e1 := signed_mul (sgnB a) m h (min h k) (Nat.min_le_left _ _)
  have e2 := signed_mul (sgnB b) n k (min h k) (Nat.min_le_right _ _)
  rw [em, ← sg_eq ha] at e1
  rw [en, ← sg_eq hb] at e2
  obtain ⟨T, hT⟩ : ∃ T, T = Ieee.signed (sgnB a) m (h - min h k) + Ieee.signed (sgnB b) n (k - min h k) := ⟨_, rfl⟩
  rw [← hT]
  have hP : (0 : Int) < ((2 ^ min h k : Nat) : Int) := by have := Nat.two_pow_pos (min h k); omega
  have e3 : T * ((2 ^ min h k : Nat) : Int) = sg a + sg b := by rw [hT, Int.add_mul, e1, e2]
  show some (Ieee.double.nearest _ _ _) = _
  rw [nearest_eq, word_eq]
  have e4 : T.natAbs * 2 ^ min h k = (sg a + sg b).natAbs := by rw [← e3, Int.natAbs_mul, Int.natAbs_natCast]
  rw [e4]
  generalize ((2 ^ min h k : Nat) : Int) = P at *
  congr 1
  by_cases hz : T = 0
  · subst hz
    rw [Int.zero_mul] at e3
    rw [if_pos rfl, ← e3, Int.natAbs_zero, round_zero]
    by_cases hboth : a = 9223372036854775808 ∧ b = 9223372036854775808
    · rw [if_pos hboth, hboth.1, hboth.2]; decide +kernel
    · rw [if_neg hboth]
      have hne : (sgnB a && sgnB b) = false := by
        cases ha2 : sgnB a
        · rfl
        · cases hb2 : sgnB b
          · rfl
          · exfalso
            have g1 : sg a ≤ 0 := by rw [sg_eq ha, ha2, if_pos rfl]; omega
            have g2 : sg b ≤ 0 := by rw [sg_eq hb, hb2, if_pos rfl]; omega
            exact hboth ⟨sg_zero_iff ha ha2 (by omega), sg_zero_iff hb hb2 (by omega)⟩
      rw [hne, if_neg (by simp)]
      unfold signB
      rw [if_neg (by omega), Int.natAbs_zero, round_zero]
  · rw [if_neg hz]
    have hboth : ¬ (a = 9223372036854775808 ∧ b = 9223372036854775808) := by
      rintro ⟨rfl, rfl⟩
      have : sg 9223372036854775808 = 0 := by decide +kernel
      rw [this] at e3
      rcases Int.mul_eq_zero.1 (e3.trans (by omega)) with g | g <;> omega
    rw [if_neg hboth]
    unfold signB
    by_cases hneg : T < 0
    · have : sg a + sg b < 0 := by rw [← e3]; exact Int.mul_neg_of_neg_of_pos hneg hP
      rw [decide_eq_true hneg, if_pos rfl, if_pos this]
    · have : ¬ sg a + sg b < 0 := by
        have := Int.mul_nonneg (show 0 ≤ T by omega) (show 0 ≤ P by omega)
        omega
      rw [decide_eq_false hneg, if_neg (by simp), if_neg this]
#print axioms add_fin
end Go.Proofs.YtojohcckaklmpaaDoor.Rl
