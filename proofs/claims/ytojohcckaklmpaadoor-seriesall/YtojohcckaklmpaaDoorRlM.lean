/-
  Package real's exact sums: single bits, what is left without the lowest bits, whether one of the lowest is set.
-/
import Derived.Test.YtojohcckaklmpaaDoorRlL
namespace Go.Proofs.YtojohcckaklmpaaDoor.Rl
open Go.RowKit
set_option maxRecDepth 100000

theorem val_div {ds : List Nat} (h : Ws ds) (i o : Nat) (hi : i < ds.length) : val ds / 2 ^ (64 * i + o) = (ds[i] + 18446744073709551616 * val (ds.drop (i + 1))) / 2 ^ o := by
  rw [val_split ds i hi]
  have hl := val_low h i (by omega)
  rw [words_pow] at *
  rw [Nat.pow_add, ← Nat.div_div_eq_div_mul, Nat.add_mul_div_left _ _ (Nat.two_pow_pos _), Nat.div_eq_of_lt hl, Nat.zero_add]
theorem word_div (x R o : Nat) (ho : o < 64) : (x + 18446744073709551616 * R) / 2 ^ o = x / 2 ^ o + 2 ^ (64 - o) * R := by
  have e : 18446744073709551616 * R = 2 ^ o * (2 ^ (64 - o) * R) := by
    rw [← Nat.mul_assoc, ← Nat.pow_add, show o + (64 - o) = 64 by omega]
  rw [e, Nat.add_mul_div_left _ _ (Nat.two_pow_pos _)]
theorem val_bit {ds : List Nat} (h : Ws ds) (i o : Nat) (hi : i < ds.length) (ho : o < 64) : val ds / 2 ^ (64 * i + o) % 2 = ds[i] / 2 ^ o % 2 := by
  rw [val_div h i o hi, word_div _ _ _ ho]
  obtain ⟨j, hj⟩ : ∃ j, 64 - o = j + 1 := ⟨63 - o, by omega⟩
  rw [hj, Nat.pow_succ, Nat.mul_comm (2 ^ j) 2, Nat.mul_assoc]
  omega
theorem val_from {ds : List Nat} (h : Ws ds) (i o : Nat) (hi : i < ds.length) (ho : o < 64) (hj : i + 1 < ds.length) (hlt : val ds / 2 ^ (64 * i + o) < 18446744073709551616) :
    val ds / 2 ^ (64 * i + o) = ds[i] / 2 ^ o + ds[i + 1] * 2 ^ (64 - o) % 18446744073709551616 := by
  rw [val_div h i o hi, word_div _ _ _ ho] at *
  have e1 : val (ds.drop (i + 1)) = ds[i + 1] + 18446744073709551616 * val (ds.drop (i + 2)) := by
    rw [List.drop_eq_getElem_cons hj, val]
  have hx := h.get i hi
  have h1 : ds[i] / 2 ^ o < 2 ^ (64 - o) := by
    apply Nat.div_lt_of_lt_mul
    rw [← Nat.pow_add, show o + (64 - o) = 64 by omega]; exact hx
  have h2 : 2 ^ (64 - o) * val (ds.drop (i + 1)) % 18446744073709551616 = 2 ^ (64 - o) * val (ds.drop (i + 1)) := Nat.mod_eq_of_lt (Nat.lt_of_le_of_lt (Nat.le_add_left _ _) hlt)
  rw [← h2, e1, Nat.mul_add, Nat.mul_comm (2 ^ (64 - o)) ds[i + 1], Nat.mul_left_comm, Nat.add_mul_mod_self_left]
theorem val_last {ds : List Nat} (h : Ws ds) (i o : Nat) (hi : i < ds.length) (hj : ds.length = i + 1) : val ds / 2 ^ (64 * i + o) = ds[i] / 2 ^ o := by
  rw [val_div h i o hi, List.drop_eq_nil_of_le (by omega), val]; rfl
theorem val_mod {ds : List Nat} (h : Ws ds) (i o : Nat) (hi : i < ds.length) (ho : o < 64) : val ds % 2 ^ (64 * i + o) = val (ds.take i) + 2 ^ (64 * i) * (ds[i] % 2 ^ o) := by
  rw [val_split ds i hi]
  have hl := val_low h i (by omega)
  rw [words_pow] at *
  have e : 18446744073709551616 * val (ds.drop (i + 1)) = 2 ^ o * (2 ^ (64 - o) * val (ds.drop (i + 1))) := by
    rw [← Nat.mul_assoc, ← Nat.pow_add, show o + (64 - o) = 64 by omega]
  rw [e, Nat.pow_add, Nat.mod_mul, Nat.add_mul_mod_self_left, Nat.mod_eq_of_lt hl, Nat.add_mul_div_left _ _ (Nat.two_pow_pos _), Nat.div_eq_of_lt hl, Nat.zero_add, Nat.add_mul_mod_self_left]
theorem val_eq_zero {ds : List Nat} (h : val ds = 0) : ∀ d ∈ ds, d = 0 := by
  induction ds with
  | nil => simp
  | cons d r ih =>
    rw [val] at h
    intro x hx
    rcases List.mem_cons.1 hx with rfl | hx
    · omega
    · exact ih (by omega) x hx
theorem or_words (a y k : Nat) (hk : k ≤ 64) (ha : a < 2 ^ k) : a ||| (y * 2 ^ k % 18446744073709551616) = a + y * 2 ^ k % 18446744073709551616 := by
  have e : y * 2 ^ k % 18446744073709551616 = 2 ^ k * (y % 2 ^ (64 - k)) := by
    have : 18446744073709551616 = 2 ^ k * 2 ^ (64 - k) := by rw [← Nat.pow_add, show k + (64 - k) = 64 by omega]
    rw [this, Nat.mul_comm y, Nat.mul_mod_mul_left]
  rw [e, Nat.or_comm, Nat.add_comm, Nat.two_pow_add_eq_or_of_lt ha]
theorem and_one (a : Nat) (ha : a < 18446744073709551616) : bits .and .u64 (a : Int) 1 = ((a % 2 : Nat) : Int) := by
  have h := bits_and_u64_nat a 1 ha (by omega)
  rw [Nat.and_one_is_mod] at h
  exact h
theorem bit_any (w : World) (b n : Nat) (ds : List Nat) (hu : Un w b ds) (hn : n < 2176) :
    Calls Tryd.prog 72 #[.pointer (some ⟨b, 0, none⟩), .int .i64 (n : Int)] w fun e w' => e = .returned (.bool (decide (val ds / 2 ^ n % 2 = 1))) ∧ Qt w w' := by
  obtain ⟨A, hA⟩ : ∃ A, Hid (A = n / 64) := ⟨_, rfl⟩
  obtain ⟨O, hO⟩ : ∃ O, Hid (O = n % 64) := ⟨_, rfl⟩
  have a1 : (n : Int).tdiv 64 = (A : Int) := by rw [hA.out, Int.tdiv_eq_ediv_of_nonneg (by omega)]; omega
  have a2 : (n : Int).tmod 64 = (O : Int) := by rw [hO.out, Int.tmod_eq_emod_of_nonneg (by omega)]; omega
  have a3 : (A : Int) < 34 := by have := hA.out; omega
  have a4 : (0 : Int) ≤ (A : Int) := by omega
  have a5 : (O : Int) < 64 := by have := hO.out; omega
  have a6 : (0 : Int) ≤ (O : Int) := by omega
  have hl := hu.1
  have hAl : A < ds.length := by omega
  have c1 := hu.cell A hAl
  obtain ⟨x, hx⟩ : ∃ x, Hid (ds[A] = x) := ⟨ds[A], rfl⟩
  rw [hx.out] at c1
  have fin : Hid (val ds / 2 ^ n % 2 = x / 2 ^ O % 2) := by
    have := val_bit hu.2.1 A O hAl (by omega)
    rw [show 64 * A + O = n by have := hA.out; have := hO.out; omega, hx.out] at this
    exact this
  have hxl : x < 18446744073709551616 := by rw [← hx.out]; exact hu.2.1.get A hAl
  obtain ⟨z, hz⟩ : ∃ z, Hid (z = x / 2 ^ O) := ⟨_, rfl⟩
  have a7 : (x : Int) / 2 ^ O = (z : Int) := by rw [hz.out]; simp
  have a8 := and_one z (by rw [hz.out]; exact Nat.lt_of_le_of_lt (Nat.div_le_self _ _) hxl)
  clear hu hxl
  go_enter Tryd.func72, Tryd.ntmps72
  go_wp2_with fail
  go_ret
  refine ⟨congrArg (fun x => Ending.returned (Value.bool x)) (?_ : _ = _), ⟨0, rfl⟩⟩
  rw [fin.out, ← hz.out]
  show (((z % 2 : Nat) : Int) == 1) = _
  rw [Bool.eq_iff_iff]
  simp
  omega
theorem from_any (w : World) (b n : Nat) (ds : List Nat) (hu : Un w b ds) (hn : n < 2176) (hlt : val ds / 2 ^ n < 18446744073709551616) :
    Calls Tryd.prog 71 #[.pointer (some ⟨b, 0, none⟩), .int .i64 (n : Int)] w fun e w' => e = .returned (.int .u64 ((val ds / 2 ^ n : Nat) : Int)) ∧ Qt w w' := by
  obtain ⟨A, hA⟩ : ∃ A, Hid (A = n / 64) := ⟨_, rfl⟩
  obtain ⟨O, hO⟩ : ∃ O, Hid (O = n % 64) := ⟨_, rfl⟩
  have a1 : (n : Int).tdiv 64 = (A : Int) := by rw [hA.out, Int.tdiv_eq_ediv_of_nonneg (by omega)]; omega
  have a2 : (n : Int).tmod 64 = (O : Int) := by rw [hO.out, Int.tmod_eq_emod_of_nonneg (by omega)]; omega
  have hAO : 64 * A + O = n := by have := hA.out; have := hO.out; omega
  have a3 : (A : Int) < 34 := by have := hA.out; omega
  have a4 : (0 : Int) ≤ (A : Int) := by omega
  have a5 : (O : Int) < 64 := by have := hO.out; omega
  have a6 : (0 : Int) ≤ (O : Int) := by omega
  have hl := hu.1
  have hAl : A < ds.length := by omega
  have c1 := hu.cell A hAl
  obtain ⟨x, hx⟩ : ∃ x, Hid (ds[A] = x) := ⟨ds[A], rfl⟩
  rw [hx.out] at c1
  have hxl : x < 18446744073709551616 := by rw [← hx.out]; exact hu.2.1.get A hAl
  obtain ⟨z, hz⟩ : ∃ z, Hid (z = x / 2 ^ O) := ⟨_, rfl⟩
  have a7 : (x : Int) / 2 ^ O = (z : Int) := by rw [hz.out]; simp
  replace hlt : Hid (val ds / 2 ^ n < 18446744073709551616) := hlt
  by_cases h33 : A = 33
  · have fin : Hid (val ds / 2 ^ n = z) := by
      show _ = _
      rw [← hAO, val_last hu.2.1 A O hAl (by omega), hx.out, hz.out]
    subst h33
    rw [fin.out]
    clear hu hxl hAO
    go_enter Tryd.func71, Tryd.ntmps71
    go_wp2_with fail
    go_ret
    exact ⟨rfl, ⟨0, rfl⟩⟩
  · have hAl2 : A + 1 < ds.length := by omega
    have c2 := hu.cell (A + 1) hAl2
    obtain ⟨y, hy⟩ : ∃ y, Hid (ds[A + 1] = y) := ⟨ds[A + 1], rfl⟩
    rw [hy.out] at c2
    have a9 : (A : Int) + 1 < 34 := by omega
    have a10 : (0 : Int) ≤ (A : Int) + 1 := by omega
    obtain ⟨v, hv⟩ : ∃ v, Hid (v = y * 2 ^ (64 - O) % 18446744073709551616) := ⟨_, rfl⟩
    have hv2 : IntKind.u64.wrap ((y : Int) * 2 ^ (64 - O)) = (v : Int) := by rw [IntKind.wrap_u64, hv.out]; simp
    have hz2 : z < 2 ^ (64 - O) := by
      rw [hz.out]
      apply Nat.div_lt_of_lt_mul
      rw [← Nat.pow_add, show O + (64 - O) = 64 by omega]; exact hxl
    have fin : Hid (val ds / 2 ^ n = z + v) := by
      show _ = _
      have := hlt.out
      rw [← hAO] at this ⊢
      rw [val_from hu.2.1 A O hAl (by omega) hAl2 this, hx.out, hy.out, hz.out, hv.out]
    have hor : bits .or .u64 (z : Int) (v : Int) = ((z + v : Nat) : Int) := by
      have h1 := hlt.out
      rw [fin.out] at h1
      rw [bits_or_u64_nat z v (by omega) (by omega)]
      have h2 := or_words z y (64 - O) (by omega) hz2
      rw [← hv.out] at h2
      rw [h2]
    rw [fin.out]
    clear hu hxl hz2 hAO
    go_enter Tryd.func71, Tryd.ntmps71
    go_wp2_with fail
    go_ret
    exact ⟨by go_num, ⟨0, rfl⟩⟩
theorem and_low_u64 (x O : Nat) (hx : x < 18446744073709551616) (hO : O < 64) : bits .and .u64 (x : Int) ((2 ^ O - 1 : Nat) : Int) = ((x % 2 ^ O : Nat) : Int) := by
  have h1 : 2 ^ O ≤ 2 ^ 63 := Nat.pow_le_pow_right (by decide) (by omega)
  have h := bits_and_u64_nat x (2 ^ O - 1) hx (by omega)
  rw [and_low] at h
  exact h
theorem anyBelow_any (w : World) (b n : Nat) (ds : List Nat) (hu : Un w b ds) (hn : n < 2176) :
    Calls Tryd.prog 73 #[.pointer (some ⟨b, 0, none⟩), .int .i64 (n : Int)] w fun e w' => e = .returned (.bool (decide (val ds % 2 ^ n ≠ 0))) ∧ Qt w w' := by
  obtain ⟨A, hA⟩ : ∃ A, Hid (A = n / 64) := ⟨_, rfl⟩
  obtain ⟨O, hO⟩ : ∃ O, Hid (O = n % 64) := ⟨_, rfl⟩
  have a1 : (n : Int).tdiv 64 = (A : Int) := by rw [hA.out, Int.tdiv_eq_ediv_of_nonneg (by omega)]; omega
  have a2 : (n : Int).tmod 64 = (O : Int) := by rw [hO.out, Int.tmod_eq_emod_of_nonneg (by omega)]; omega
  have hAO : Hid (64 * A + O = n) := by have := hA.out; have := hO.out; show _ = _; omega
  have a3 : (A : Int) < 34 := by have := hA.out; omega
  have a4 : (0 : Int) ≤ (A : Int) := by omega
  have a5 : (O : Int) < 64 := by have := hO.out; omega
  have a6 : (0 : Int) ≤ (O : Int) := by omega
  have hl := hu.1
  have hAl : A < ds.length := by omega
  have fin : Hid (val ds % 2 ^ n = val (ds.take A) + 2 ^ (64 * A) * (ds[A] % 2 ^ O)) := by
    show _ = _
    rw [← hAO.out]; exact val_mod hu.2.1 A O hAl (by omega)
  replace hu : Hid (Un w b ds) := hu
  have a12 : (A : Int) ≤ 34 := by omega
  go_enter Tryd.func73, Tryd.ntmps73
  go_wp2_with fail
  go_loopw [13] (fun v wr => ∃ i : Nat, i ≤ A ∧ v = .int .i64 (i : Int) ∧ Hid (∀ d ∈ ds.take i, d = 0) ∧ wr = w) (fun v _ => A - (intOf v).toNat)
  case atStart => exact ⟨0, by omega, rfl, by show ∀ d ∈ _, _; simp, rfl⟩
  case round =>
    obtain ⟨i, hi, rfl, hz, rfl⟩ := hrel
    by_cases hiA : i = A
    · have c1 := hu.out.cell A hAl
      obtain ⟨x, hx⟩ : ∃ x, Hid (ds[A] = x) := ⟨ds[A], rfl⟩
      rw [hx.out] at c1
      obtain ⟨P, hP⟩ : ∃ P : Nat, Hid (P = 2 ^ O) := ⟨2 ^ O, rfl⟩
      obtain ⟨Q, hQ⟩ : ∃ Q : Nat, Hid (Q = 2 ^ O - 1) := ⟨2 ^ O - 1, rfl⟩
      have hp0 : Hid (1 ≤ P ∧ P ≤ 9223372036854775808) := by
        rw [hP.out]
        exact ⟨Nat.two_pow_pos O, (Nat.pow_le_pow_right (by decide) (by omega) : 2 ^ O ≤ 2 ^ 63)⟩
      have p1 : IntKind.u64.wrap (1 * 2 ^ O) = (P : Int) := by
        have := hp0.out
        rw [Int.one_mul, show ((2 : Int) ^ O) = ((2 ^ O : Nat) : Int) by simp, ← hP.out, IntKind.wrap_u64]; omega
      have p2 : IntKind.u64.wrap (2 ^ O) = (P : Int) := by rw [← p1, Int.one_mul]
      have p3 : IntKind.u64.wrap ((P : Int) - 1) = (Q : Int) := by
        have := hp0.out
        rw [IntKind.wrap_u64, hQ.out, ← hP.out]; omega
      have hxl : x < 18446744073709551616 := by rw [← hx.out]; exact hu.out.2.1.get A hAl
      have p4 := and_low_u64 x O hxl (by omega)
      rw [← hQ.out] at p4
      obtain ⟨m, hm⟩ : ∃ m, Hid (m = x % 2 ^ O) := ⟨_, rfl⟩
      rw [← hm.out] at p4
      have hf2 : Hid (decide (val ds % 2 ^ n ≠ 0) = decide (m ≠ 0)) := by
        show _ = _
        rw [fin.out]
        subst hiA
        rw [val_zero hz.out, hx.out, ← hm.out]
        apply decide_eq_decide.2
        have : 0 < 2 ^ (64 * i) := Nat.two_pow_pos _
        constructor
        · intro h h0; rw [h0] at h; simp at h
        · intro h h0
          rcases Nat.mul_eq_zero.1 (by omega : 2 ^ (64 * i) * m = 0) with h1 | h1 <;> omega
      rw [hiA]
      clear hxl hiA hz
      go_wp2_with fail
      go_quiet (fail)
      go_wp2
      go_ret
      refine ⟨congrArg (fun x => Ending.returned (Value.bool x)) (?_ : _ = _), ⟨_, rfl⟩⟩
      rw [hf2.out]
      rw [Bool.eq_iff_iff]
      simp
    · have hil : i < ds.length := by omega
      have c1 := hu.out.cell i hil
      obtain ⟨x, hx⟩ : ∃ x, Hid (ds[i] = x) := ⟨ds[i], rfl⟩
      rw [hx.out] at c1
      have i1 : (i : Int) < (A : Int) := by omega
      have i2 : (0 : Int) ≤ (i : Int) := by omega
      by_cases hx0 : x = 0
      · subst hx0
        have hz2 : Hid (∀ d ∈ ds.take (i + 1), d = 0) := by
          show ∀ d ∈ _, _
          rw [List.take_succ_eq_append_getElem hil, hx.out]
          intro d hd
          rcases List.mem_append.1 hd with hd | hd
          · exact hz.out d hd
          · simpa using hd
        go_wp2_with fail
        go_roundw
        case rel => exact ⟨i + 1, by omega, by go_num, hz2.out, by trivial⟩
        case measure => simp [intOf]; omega
      · have hbeq : ((x : Int) == 0) = false := by simp; omega
        have hf2 : Hid (decide (val ds % 2 ^ n ≠ 0) = true) := by
          show _ = _
          apply decide_eq_true
          rw [fin.out]
          intro h0
          have h1 := val_eq_zero (ds := ds.take A) (by omega) ds[i] (by
            rw [List.mem_take_iff_getElem]
            exact ⟨i, by omega, rfl⟩)
          rw [hx.out] at h1
          exact hx0 h1
        go_wp2
        go_ret
        exact ⟨by rw [hf2.out]; rfl, ⟨0, rfl⟩⟩
end Go.Proofs.YtojohcckaklmpaaDoor.Rl
