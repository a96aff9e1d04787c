/-
  Exact sums: of a list with a number and its opposite beside; of whole numbers.
-/
import Derived.Test.YtmmmpdfoigkljaaGreatDoorRlSo
import Derived.Test.YtmmmpdfoigkljaaGreatDoorRwS
namespace Go.Proofs.YtmmmpdfoigkljaaGreatDoor.Rl
open Go.RowKit
set_option maxRecDepth 100000

theorem fin_cls {b : Nat} (hb : b < 18446744073709551616) (hf : b % 9223372036854775808 < 9218868437227405312) (h : b ≠ 9223372036854775808) : classB b ≠ 1 ∧ classB b ≠ 2 ∧ classB b ≠ 5 ∧ classB b ≠ 9 := by
  rcases kinds hb with ⟨hn, _⟩ | ⟨rfl, _⟩ | ⟨rfl, _⟩ | ⟨h1, _⟩ | ⟨_, _, _, h1, h2, h5, h9⟩
  · have : b % 9223372036854775808 > 9218868437227405312 := of_decide_eq_true hn
    omega
  · omega
  · omega
  · exact absurd h1 h
  · exact ⟨h1, h2, h5, h9⟩
theorem neg_facts {y : Nat} (hy : y < 18446744073709551616) : Op.negFloat .f64 y < 18446744073709551616 ∧ Op.negFloat .f64 y % 9223372036854775808 = y % 9223372036854775808 ∧ sg (Op.negFloat .f64 y) = - sg y := by
  rcases Nat.lt_or_ge y 9223372036854775808 with h | h
  · rw [neg_lt y h]
    refine ⟨by omega, by omega, ?_⟩
    unfold sg
    rw [if_neg (by omega), if_pos h, Nat.add_sub_cancel_left]
  · obtain ⟨m, rfl⟩ : ∃ m, y = 9223372036854775808 + m := ⟨y - 9223372036854775808, by omega⟩
    rw [neg_ge m (by omega)]
    refine ⟨by omega, by omega, ?_⟩
    unfold sg
    rw [if_pos (by omega), if_neg (by omega), Nat.add_sub_cancel_left, Int.neg_neg]
theorem cnt_more (y z : Nat) (xs : List Nat) (c : Nat) (h1 : classB y ≠ (c : Int)) (h2 : classB z ≠ (c : Int)) : cnt (y :: (xs ++ [z])) c = cnt xs c := by
  rw [cnt_cons, if_neg h1, cnt_snoc, if_neg h2]; omega
theorem cnt_lt {x : Nat} {xs : List Nat} (c : Nat) (hm : x ∈ xs) (h : classB x ≠ (c : Int)) : cnt xs c < xs.length := by
  unfold cnt
  exact Nat.lt_of_le_of_ne List.countP_le_length fun e => h (by simpa using List.countP_eq_length.1 e x hm)
theorem sum_more {y : Nat} {xs : List Nat} (hy : y < 18446744073709551616) (hf : y % 9223372036854775808 < 9218868437227405312) (h0 : y % 9223372036854775808 ≠ 0) {x : Nat} (hm : x ∈ xs) (hx : classB x ≠ 5) :
    sumB (y :: (xs ++ [Op.negFloat .f64 y])) = sumB xs := by
  obtain ⟨n1, n2, n3⟩ := neg_facts hy
  obtain ⟨a1, a2, a5, a9⟩ := fin_cls hy hf (by omega)
  obtain ⟨b1, b2, b5, b9⟩ := fin_cls n1 (by rw [n2]; exact hf) (by omega)
  have e1 := cnt_more y (Op.negFloat .f64 y) xs 1 a1 b1
  have e2 := cnt_more y (Op.negFloat .f64 y) xs 2 a2 b2
  have e5 := cnt_more y (Op.negFloat .f64 y) xs 5 a5 b5
  have e9 := cnt_more y (Op.negFloat .f64 y) xs 9 a9 b9
  have hl := cnt_lt (x := x) (xs := xs) 5 hm hx
  have hu : unsB (y :: (xs ++ [Op.negFloat .f64 y])) = unsB xs := by
    unfold unsB
    rw [e1, e2, e5, e9]
    have c1 : ¬ (0 < (y :: (xs ++ [Op.negFloat .f64 y])).length ∧ cnt xs 5 = (y :: (xs ++ [Op.negFloat .f64 y])).length) := by
      rintro ⟨_, h⟩
      rw [List.length_cons, List.length_append] at h
      omega
    rw [if_neg c1, if_neg (by omega : ¬ (0 < xs.length ∧ cnt xs 5 = xs.length))]
  cases h : unsB xs with
  | some u => unfold sumB; rw [hu, h]
  | none =>
    rw [sumB_sg h, sumB_sg (hu.trans h)]
    congr 1
    simp only [List.map_cons, List.map_append, List.map_nil, List.sum_cons, List.sum_append, List.sum_nil, n3]
    omega
theorem fint_eq (z : Int) (p : Nat) (hp : (-1074 : Int) + (p : Int) = 0) : floatOfInt .f64 z = signB (z * ((2 ^ p : Nat) : Int)) := by
  show Ieee.double.nearest (decide (z < 0)) z.natAbs 0 = _
  obtain ⟨d, hd⟩ : ∃ d, decide (z < 0) = d := ⟨_, rfl⟩
  rw [hd, ← hp, nearest_eq, word_eq, ← hd]
  have hP : (0 : Int) < ((2 ^ p : Nat) : Int) := by have := Nat.two_pow_pos p; omega
  have e : (z * ((2 ^ p : Nat) : Int)).natAbs = z.natAbs * 2 ^ p := by rw [Int.natAbs_mul, Int.natAbs_natCast]
  unfold signB
  rw [e]
  generalize ((2 ^ p : Nat) : Int) = P at *
  by_cases h : z < 0
  · rw [decide_eq_true h, if_pos rfl, if_pos (Int.mul_neg_of_neg_of_pos h hP)]
  · rw [decide_eq_false h, if_neg (by simp), if_neg (by have := Int.mul_nonneg (show 0 ≤ z by omega) (show 0 ≤ P by omega); omega)]
theorem mag_inf (e : Nat) (he : e = 2046) : magB 9218868437227405312 = 4503599627370496 * 2 ^ e := by
  have h1 : 9218868437227405312 % 4503599627370496 + 4503599627370496 = 4503599627370496 := by omega
  have h2 : 9218868437227405312 / 4503599627370496 - 1 = e := by omega
  unfold magB
  rw [if_neg (by omega), h1, h2]
theorem fint_facts (z : Int) (p : Nat) (hp : (-1074 : Int) + (p : Int) = 0) (hz : z.natAbs < 9007199254740992) :
    sg (floatOfInt .f64 z) = z * ((2 ^ p : Nat) : Int) ∧ floatOfInt .f64 z < 18446744073709551616 ∧ floatOfInt .f64 z % 9223372036854775808 < 9218868437227405312 ∧ floatOfInt .f64 z ≠ 9223372036854775808 := by
  have hm := round_exact z.natAbs p hz (by omega)
  have hl := round_lt (z.natAbs * 2 ^ p)
  have hP : (0 : Int) < ((2 ^ p : Nat) : Int) := by have := Nat.two_pow_pos p; omega
  have hlt : roundB (z.natAbs * 2 ^ p) < 9218868437227405312 := by
    rcases Nat.lt_or_ge (roundB (z.natAbs * 2 ^ p)) 9218868437227405312 with h | h
    · exact h
    · exfalso
      have e : roundB (z.natAbs * 2 ^ p) = 9218868437227405312 := by omega
      obtain ⟨q, hq⟩ : ∃ q, q = 2046 := ⟨2046, rfl⟩
      rw [e, mag_inf q hq] at hm
      have h1 := mulpow z.natAbs 53 p hz
      have h2 := pow_le2 (53 + p) q (by omega)
      have h3 : 2 ^ q ≤ 4503599627370496 * 2 ^ q := Nat.le_mul_of_pos_left _ (by omega)
      rw [hm] at h3
      exact Nat.lt_irrefl _ (Nat.lt_of_lt_of_le h1 (Nat.le_trans h2 h3))
  have e : (z * ((2 ^ p : Nat) : Int)).natAbs = z.natAbs * 2 ^ p := by rw [Int.natAbs_mul, Int.natAbs_natCast]
  rw [fint_eq z p hp]
  unfold signB
  rw [e]
  obtain ⟨r, hr⟩ : ∃ r, roundB (z.natAbs * 2 ^ p) = r := ⟨_, rfl⟩
  rw [hr] at hm hlt ⊢
  by_cases h : z < 0
  · have hneg : z * ((2 ^ p : Nat) : Int) < 0 := Int.mul_neg_of_neg_of_pos h hP
    rw [if_pos hneg]
    have hr0 : r ≠ 0 := by
      rintro rfl
      rw [mag_zero] at hm
      omega
    refine ⟨?_, by omega, by omega, by omega⟩
    unfold sg
    rw [if_neg (by omega), Nat.add_sub_cancel_left, hm]
    omega
  · have hneg : ¬ z * ((2 ^ p : Nat) : Int) < 0 := by have := Int.mul_nonneg (show 0 ≤ z by omega) (show 0 ≤ ((2 ^ p : Nat) : Int) by omega); omega
    rw [if_neg hneg]
    refine ⟨?_, by omega, by omega, by omega⟩
    unfold sg
    rw [if_pos (by omega), hm]
    omega
theorem uns_fin {xs : List Nat} (h : ∀ b ∈ xs, classB b ≠ 1 ∧ classB b ≠ 2 ∧ classB b ≠ 5 ∧ classB b ≠ 9) : unsB xs = none := by
  have z : ∀ c : Nat, (∀ b ∈ xs, classB b ≠ (c : Int)) → cnt xs c = 0 := fun c hc => by
    unfold cnt
    rw [List.countP_eq_zero]
    intro b hb
    simpa using hc b hb
  unfold unsB
  rw [z 1 (fun b hb => (h b hb).1), z 2 (fun b hb => (h b hb).2.1), z 5 (fun b hb => (h b hb).2.2.1), z 9 (fun b hb => (h b hb).2.2.2)]
  rw [if_neg (by omega), if_neg (by omega), if_neg (by omega), if_neg (by omega)]
theorem whole_map (zs : List Int) (p : Nat) (hp : (-1074 : Int) + (p : Int) = 0) (hz : ∀ z ∈ zs, z.natAbs < 9007199254740992) : ((zs.map (floatOfInt .f64)).map sg).sum = zs.sum * ((2 ^ p : Nat) : Int) := by
  induction zs with
  | nil => simp
  | cons z r ih =>
    simp only [List.map_cons, List.sum_cons]
    rw [ih (fun y hy => hz y (by simp [hy])), (fint_facts z p hp (hz z (by simp))).1, Int.add_mul]
theorem sum_whole (zs : List Int) (hz : ∀ z ∈ zs, z.natAbs < 9007199254740992) : sumB (zs.map (floatOfInt .f64)) = floatOfInt .f64 zs.sum := by
  obtain ⟨p, hp⟩ : ∃ p : Nat, (-1074 : Int) + (p : Int) = 0 := ⟨1074, by omega⟩
  have hu : unsB (zs.map (floatOfInt .f64)) = none := uns_fin fun b hb => by
    obtain ⟨z, hm, rfl⟩ := List.mem_map.1 hb
    obtain ⟨_, h1, h2, h3⟩ := fint_facts z p hp (hz z hm)
    exact fin_cls h1 h2 h3
  rw [sumB_sg hu, whole_map zs p hp hz, fint_eq _ p hp]
theorem sign_nan (z : Int) : nanB (signB z) = false := by
  have h1 := round_lt z.natAbs
  unfold signB nanB
  apply decide_eq_false
  split <;> omega
theorem fint_nan (z : Int) : nanB (floatOfInt .f64 z) = false ∧ floatOfInt .f64 z < 18446744073709551616 := by
  obtain ⟨p, hp⟩ : ∃ p : Nat, (-1074 : Int) + (p : Int) = 0 := ⟨1074, by omega⟩
  rw [fint_eq z p hp]
  exact ⟨sign_nan _, sign_lt _⟩
theorem order_fint (z : Int) : (FloatKind.f64.format.order (floatOfInt .f64 z) (floatOfInt .f64 z) != some Ordering.eq) = false := by
  obtain ⟨h1, h2⟩ := fint_nan z
  rw [bne, order_self h2, h1]; rfl
#print axioms sum_whole
end Go.Proofs.YtmmmpdfoigkljaaGreatDoor.Rl
