/-
  Go's own sum of two numbers against the exact one.
-/
import Derived.Test.YtmmmpdfoigkljaaGreatDoorRlSn
namespace Go.Proofs.YtmmmpdfoigkljaaGreatDoor.Rl
open Go.RowKit
set_option maxRecDepth 100000

theorem cls5 {b : Nat} (hb : b < 18446744073709551616) (h : classB b = 5) : b = 9223372036854775808 := by
  rcases kinds hb with ⟨_, hc⟩ | ⟨_, _, hc⟩ | ⟨_, _, hc⟩ | ⟨h1, _⟩ | ⟨_, _, _, _, _, h5, _⟩
  · omega
  · omega
  · omega
  · exact h1
  · exact absurd h h5
theorem add_nanL {a : Nat} (h : nanB a = true) (b : Nat) : Ieee.double.add a b = none := by
  obtain ⟨t, e⟩ := read_nan h
  unfold Ieee.Format.add; rw [e]; rfl
theorem add_nanR {b : Nat} (h : nanB b = true) (a : Nat) : Ieee.double.add a b = none := by
  obtain ⟨t, e⟩ := read_nan h
  unfold Ieee.Format.add; rw [e]
  cases Ieee.double.read a <;> rfl
theorem sum_infP (n : Bool) (m : Nat) (e : Int) (s : Bool) : Ieee.Datum.sum (.infinity s) (.number n m e) = some (.infinity s) := rfl
theorem sum_infQ (n : Bool) (m : Nat) (e : Int) (s : Bool) : Ieee.Datum.sum (.number n m e) (.infinity s) = some (.infinity s) := rfl
theorem write_pos : Ieee.double.write (.infinity false) = 9218868437227405312 := by decide +kernel
theorem write_neg : Ieee.double.write (.infinity true) = 18442240474082181120 := by decide +kernel
theorem read_pos : Ieee.double.read 9218868437227405312 = .infinity false := read_inf (by omega)
theorem read_neg : Ieee.double.read 18442240474082181120 = .infinity true := read_inf (by omega)
theorem add_posL {b : Nat} (hf : b % 9223372036854775808 < 9218868437227405312) : Ieee.double.add 9218868437227405312 b = some 9218868437227405312 := by
  obtain ⟨n, k, eb, _⟩ := read_fin hf
  unfold Ieee.Format.add
  rw [eb, read_pos, sum_infP, Option.map_some, write_pos]
theorem add_posR {a : Nat} (hf : a % 9223372036854775808 < 9218868437227405312) : Ieee.double.add a 9218868437227405312 = some 9218868437227405312 := by
  obtain ⟨n, k, ea, _⟩ := read_fin hf
  unfold Ieee.Format.add
  rw [ea, read_pos, sum_infQ, Option.map_some, write_pos]
theorem add_negL {b : Nat} (hf : b % 9223372036854775808 < 9218868437227405312) : Ieee.double.add 18442240474082181120 b = some 18442240474082181120 := by
  obtain ⟨n, k, eb, _⟩ := read_fin hf
  unfold Ieee.Format.add
  rw [eb, read_neg, sum_infP, Option.map_some, write_neg]
theorem add_negR {a : Nat} (hf : a % 9223372036854775808 < 9218868437227405312) : Ieee.double.add a 18442240474082181120 = some 18442240474082181120 := by
  obtain ⟨n, k, ea, _⟩ := read_fin hf
  unfold Ieee.Format.add
  rw [ea, read_neg, sum_infQ, Option.map_some, write_neg]
theorem sum_two (a b : Nat) (c1 c9 c2 : Nat) (h1 : cnt [a, b] 1 = c1) (h9 : cnt [a, b] 9 = c9) (h2 : cnt [a, b] 2 = c2) :
    (0 < c1 ∨ (0 < c9 ∧ 0 < c2) → sumB [a, b] = 9221120237041090561) ∧ (c1 = 0 → 0 < c9 → c2 = 0 → sumB [a, b] = 9218868437227405312) ∧ (c1 = 0 → c9 = 0 → 0 < c2 → sumB [a, b] = 18442240474082181120) := by
  refine ⟨fun h => ?_, fun g1 g9 g2 => ?_, fun g1 g9 g2 => ?_⟩
  all_goals unfold sumB unsB; rw [h1, h9, h2]
  · rw [if_pos h]
  · rw [if_neg (by omega), if_pos g9]
  · rw [if_neg (by omega), if_neg (by omega), if_pos g2]
theorem cnt_two (a b c : Nat) : cnt [a, b] c = (if classB a = (c : Int) then 1 else 0) + (if classB b = (c : Int) then 1 else 0) := by
  rw [cnt_cons, cnt_cons, cnt_nil, Nat.add_zero]
theorem canon_pos : canonB 9218868437227405312 = 9218868437227405312 := by decide +kernel
theorem canon_neg : canonB 18442240474082181120 = 18442240474082181120 := by decide +kernel
theorem sum_nanL {a : Nat} (h : classB a = 1) (b : Nat) : sumB [a, b] = 9221120237041090561 := by
  refine (sum_two a b _ _ _ rfl rfl rfl).1 (Or.inl ?_)
  rw [cnt_two a b, if_pos (show classB a = ((1 : Nat) : Int) from h)]; omega
theorem sum_nanR {b : Nat} (h : classB b = 1) (a : Nat) : sumB [a, b] = 9221120237041090561 := by
  refine (sum_two a b _ _ _ rfl rfl rfl).1 (Or.inl ?_)
  rw [cnt_two a b, if_pos (show classB b = ((1 : Nat) : Int) from h)]; omega
/-- Two that are no NaN, one of them infinite. -/
theorem sum_inf {a b ca cb : Nat} (ea : classB a = (ca : Int)) (eb : classB b = (cb : Int)) (ha : ca ≠ 1) (hb : cb ≠ 1) :
    (((ca = 9 ∧ cb = 2) ∨ (ca = 2 ∧ cb = 9)) → sumB [a, b] = 9221120237041090561) ∧
    (((ca = 9 ∧ cb ≠ 2) ∨ (cb = 9 ∧ ca ≠ 2)) → sumB [a, b] = 9218868437227405312) ∧
    (((ca = 2 ∧ cb ≠ 9) ∨ (cb = 2 ∧ ca ≠ 9)) → sumB [a, b] = 18442240474082181120) := by
  have e : ∀ c : Nat, cnt [a, b] c = (if ca = c then 1 else 0) + (if cb = c then 1 else 0) := by
    intro c
    rw [cnt_two, ea, eb]
    simp only [Int.ofNat_inj]
  obtain ⟨t1, t2, t3⟩ := sum_two a b _ _ _ (e 1) (e 9) (e 2)
  rw [if_neg ha, if_neg hb] at t1 t2 t3
  refine ⟨fun h => t1 ?_, fun h => t2 rfl ?_ ?_, fun h => t3 rfl ?_ ?_⟩
  · rcases h with ⟨rfl, rfl⟩ | ⟨rfl, rfl⟩ <;> simp
  · rcases h with ⟨rfl, h⟩ | ⟨rfl, h⟩
    · rw [if_pos rfl]; omega
    · rw [if_pos rfl]; omega
  · rcases h with ⟨rfl, h⟩ | ⟨rfl, h⟩ <;> simp [h]
  · rcases h with ⟨rfl, h⟩ | ⟨rfl, h⟩ <;> simp [h]
  · rcases h with ⟨rfl, h⟩ | ⟨rfl, h⟩
    · rw [if_pos rfl]; omega
    · rw [if_pos rfl]; omega
theorem cls_nat (b : Nat) : ∃ c : Nat, classB b = (c : Int) := ⟨(classB b).toNat, by have := class_mem b; omega⟩
theorem sign_lt (z : Int) : signB z < 18446744073709551616 := by
  have h1 := round_lt z.natAbs
  unfold signB
  split <;> omega
theorem sign_canon (z : Int) : canonB (signB z) = signB z := by
  have h1 := round_lt z.natAbs
  have hn : nanB (signB z) = false := by
    unfold signB nanB
    apply decide_eq_false
    split <;> omega
  unfold canonB
  rw [hn, if_neg (by simp)]
theorem add_two {a b : Nat} (ha : a < 18446744073709551616) (hb : b < 18446744073709551616) (hfa : a % 9223372036854775808 < 9218868437227405312) (hfb : b % 9223372036854775808 < 9218868437227405312)
    (hca : classB a ≠ 1 ∧ classB a ≠ 2 ∧ classB a ≠ 9) (hcb : classB b ≠ 1 ∧ classB b ≠ 2 ∧ classB b ≠ 9) : ∃ r, Ieee.double.add a b = some r ∧ r < 18446744073709551616 ∧ canonB r = sumB [a, b] := by
  by_cases hz : a = 9223372036854775808 ∧ b = 9223372036854775808
  · refine ⟨9223372036854775808, ?_, by omega, ?_⟩
    · rw [add_fin ha hb hfa hfb, if_pos hz]
    · rw [hz.1, hz.2]; decide +kernel
  · refine ⟨signB (sg a + sg b), ?_, sign_lt _, ?_⟩
    · rw [add_fin ha hb hfa hfb, if_neg hz]
    · rw [sign_canon, sumB_sg (uns_two hca.1 hca.2.1 hca.2.2 hcb.1 hcb.2.1 hcb.2.2 (fun h => hz ⟨cls5 ha h.1, cls5 hb h.2⟩))]
      simp only [List.map_cons, List.map_nil, List.sum_cons, List.sum_nil, Int.add_zero]
/-- Go's sum of two, canonical, is the exact one. -/
theorem add_sum {a b : Nat} (ha : a < 18446744073709551616) (hb : b < 18446744073709551616) :
    (∃ r, Ieee.double.add a b = some r ∧ r < 18446744073709551616 ∧ canonB r = sumB [a, b]) ∨ (Ieee.double.add a b = none ∧ sumB [a, b] = 9221120237041090561) := by
  rcases kinds ha with ⟨na, ca⟩ | ⟨rfl, na, ca⟩ | ⟨rfl, na, ca⟩ | hka
  · exact Or.inr ⟨add_nanL na b, sum_nanL ca b⟩
  · rcases kinds hb with ⟨nb, cb⟩ | ⟨rfl, nb, cb⟩ | ⟨rfl, nb, cb⟩ | hkb
    · exact Or.inr ⟨add_nanR nb _, sum_nanR cb _⟩
    · exact Or.inl ⟨9218868437227405312, by decide +kernel, by omega, by rw [canon_pos]; exact ((sum_inf (ca := 9) (cb := 9) ca cb (by omega) (by omega)).2.1 (by omega)).symm⟩
    · exact Or.inr ⟨by decide +kernel, (sum_inf (ca := 9) (cb := 2) ca cb (by omega) (by omega)).1 (by omega)⟩
    · have hf : b % 9223372036854775808 < 9218868437227405312 := by rcases hkb with ⟨rfl, _⟩ | ⟨h, _⟩ <;> omega
      have hcb : classB b ≠ 1 ∧ classB b ≠ 2 ∧ classB b ≠ 9 := by rcases hkb with ⟨_, _, h⟩ | ⟨_, _, _, h1, h2, h5, h9⟩ <;> omega
      obtain ⟨cb, ecb⟩ := cls_nat b
      exact Or.inl ⟨_, add_posL hf, by omega, by rw [canon_pos]; exact ((sum_inf (ca := 9) (cb := cb) ca ecb (by omega) (by omega)).2.1 (by omega)).symm⟩
  · rcases kinds hb with ⟨nb, cb⟩ | ⟨rfl, nb, cb⟩ | ⟨rfl, nb, cb⟩ | hkb
    · exact Or.inr ⟨add_nanR nb _, sum_nanR cb _⟩
    · exact Or.inr ⟨by decide +kernel, (sum_inf (ca := 2) (cb := 9) ca cb (by omega) (by omega)).1 (by omega)⟩
    · exact Or.inl ⟨18442240474082181120, by decide +kernel, by omega, by rw [canon_neg]; exact ((sum_inf (ca := 2) (cb := 2) ca cb (by omega) (by omega)).2.2 (by omega)).symm⟩
    · have hf : b % 9223372036854775808 < 9218868437227405312 := by rcases hkb with ⟨rfl, _⟩ | ⟨h, _⟩ <;> omega
      have hcb : classB b ≠ 1 ∧ classB b ≠ 2 ∧ classB b ≠ 9 := by rcases hkb with ⟨_, _, h⟩ | ⟨_, _, _, h1, h2, h5, h9⟩ <;> omega
      obtain ⟨cb, ecb⟩ := cls_nat b
      exact Or.inl ⟨_, add_negL hf, by omega, by rw [canon_neg]; exact ((sum_inf (ca := 2) (cb := cb) ca ecb (by omega) (by omega)).2.2 (by omega)).symm⟩
  · have hfa : a % 9223372036854775808 < 9218868437227405312 := by rcases hka with ⟨rfl, _⟩ | ⟨h, _⟩ <;> omega
    have hca : classB a ≠ 1 ∧ classB a ≠ 2 ∧ classB a ≠ 9 := by rcases hka with ⟨_, _, h⟩ | ⟨_, _, _, h1, h2, h5, h9⟩ <;> omega
    rcases kinds hb with ⟨nb, cb⟩ | ⟨rfl, nb, cb⟩ | ⟨rfl, nb, cb⟩ | hkb
    · exact Or.inr ⟨add_nanR nb _, sum_nanR cb _⟩
    · obtain ⟨ca, eca⟩ := cls_nat a
      exact Or.inl ⟨_, add_posR hfa, by omega, by rw [canon_pos]; exact ((sum_inf (ca := ca) (cb := 9) eca cb (by omega) (by omega)).2.1 (by omega)).symm⟩
    · obtain ⟨ca, eca⟩ := cls_nat a
      exact Or.inl ⟨_, add_negR hfa, by omega, by rw [canon_neg]; exact ((sum_inf (ca := ca) (cb := 2) eca cb (by omega) (by omega)).2.2 (by omega)).symm⟩
    · have hfb : b % 9223372036854775808 < 9218868437227405312 := by rcases hkb with ⟨rfl, _⟩ | ⟨h, _⟩ <;> omega
      have hcb : classB b ≠ 1 ∧ classB b ≠ 2 ∧ classB b ≠ 9 := by rcases hkb with ⟨_, _, h⟩ | ⟨_, _, _, h1, h2, h5, h9⟩ <;> omega
      exact Or.inl (add_two ha hb hfa hfb hca hcb)
#print axioms add_sum
end Go.Proofs.YtmmmpdfoigkljaaGreatDoor.Rl
