/-
  How many bits a number has; package real's exact sums: how many bits one has, which bits it has, what is left of it without its lowest ones.
-/
import Derived.Test.YtojohcckaklmpaaDoorRlW
import Derived.Lib.BitFns
namespace Go.Proofs.YtojohcckaklmpaaDoor.Rl
open Go.RowKit
set_option maxRecDepth 100000

/-- n has k bits, from its highest one down. -/
def Len (n k : Nat) : Prop := n < 2 ^ k ∧ (k = 0 ∨ 2 ^ (k - 1) ≤ n)
theorem bitLen_len : ∀ (f x : Nat), x < 2 ^ f → Len x (Lib.bitLenAux f x)
  | 0, x, h => ⟨h, Or.inl rfl⟩
  | f + 1, x, h => by
    unfold Lib.bitLenAux
    by_cases h0 : x = 0
    · rw [if_pos h0, h0]; exact ⟨by decide, Or.inl rfl⟩
    · rw [if_neg h0]
      obtain ⟨h1, h2⟩ := bitLen_len f (x / 2) (by rw [Nat.pow_succ] at h; omega)
      rw [Nat.add_comm 1]
      generalize Lib.bitLenAux f (x / 2) = k at *
      refine ⟨by rw [Nat.pow_succ]; omega, Or.inr ?_⟩
      rw [Nat.add_sub_cancel]
      rcases h2 with rfl | h2
      · simp; omega
      · rcases Nat.eq_zero_or_pos k with rfl | hk
        · simp; omega
        · obtain ⟨j, rfl⟩ : ∃ j, k = j + 1 := ⟨k - 1, by omega⟩
          rw [Nat.add_sub_cancel] at h2
          rw [Nat.pow_succ]; omega
theorem leaf (X c k : Nat) (hX : X < 18446744073709551616) (hc : c = 2 ^ k) (hk : c ≤ X ∨ k = 0) (h8 : X / c < 256) : (k : Int) + Lib.len8 ((X / c : Nat) : Int) = (Lib.bitLen X : Int) ∧ Lib.bitLen X ≤ k + 8 := by
  have e := Lib.len8_eq ⟨X / c, h8⟩
  have l := Lib.bitLen_le8 ⟨X / c, h8⟩
  simp only at e l
  rw [e]
  subst hc
  rcases hk with hk | rfl
  · have := Lib.bitLen_shift k X hk (by omega)
    omega
  · simp at *
    omega
theorem leafW (X c k : Nat) (hX : X < 18446744073709551616) (hc : c = 2 ^ k) (hk : c ≤ X ∨ k = 0) (hk2 : k ≤ 56) (i : Nat) (hi : i < Lib.len8tab.size) (e : i = X / c) :
    wrap64 ((k : Int) + wrap64 ((Lib.len8tab[i]'hi).toNat : Int)) = (Lib.bitLen X : Int) := by
  have hs := Lib.len8tab_size
  subst e
  obtain ⟨h1, h2⟩ := leaf X c k hX hc hk (by omega)
  have h3 : Lib.len8 ((X / c : Nat) : Int) = ((Lib.len8tab[X / c]'hi).toNat : Int) := by
    unfold Lib.len8
    rw [Int.toNat_natCast, getElem?_pos Lib.len8tab (X / c) hi]; rfl
  rw [h3] at h1
  generalize (((Lib.len8tab[X / c]'hi).toNat : Nat) : Int) = z at *
  have hz : 0 ≤ z ∧ z ≤ 8 := by
    have l := Lib.bitLen_le8 ⟨X / c, by omega⟩
    have e := Lib.len8_eq ⟨X / c, by omega⟩
    simp only at l e
    rw [h3] at e
    omega
  unfold wrap64
  omega
theorem len64_any (w : World) (X : Nat) (hX : X < 18446744073709551616) : Calls Tryd.prog 64 #[.int .u64 (X : Int)] w fun e w' => e = .returned (.int .i64 (Lib.bitLen X : Int)) ∧ w' = w := by
  obtain ⟨x, hx⟩ : ∃ x : Int, Hid (x = X) := ⟨_, rfl⟩
  rw [← hx.out]
  have h0 : 0 ≤ x := by have := hx.out; omega
  have h1 : x ≤ 18446744073709551615 := by have := hx.out; omega
  replace hX : Hid (X < 18446744073709551616) := hX
  have hsz := Lib.len8tab_size
  go_enter Tryd.func64, Tryd.ntmps64
  go_wp2
  all_goals (go_ret; refine ⟨congrArg Ending.returned (congrArg (Value.int IntKind.i64) ?_), rfl⟩; have hX := hX.out; have hx := hx.out)
  · exact leafW X 72057594037927936 56 hX (by decide) (by omega) (by omega) _ _ (by omega)
  · exact leafW X 281474976710656 48 hX (by decide) (by omega) (by omega) _ _ (by omega)
  · exact leafW X 1099511627776 40 hX (by decide) (by omega) (by omega) _ _ (by omega)
  · exact leafW X 4294967296 32 hX (by decide) (by omega) (by omega) _ _ (by omega)
  · exact leafW X 16777216 24 hX (by decide) (by omega) (by omega) _ _ (by omega)
  · exact leafW X 65536 16 hX (by decide) (by omega) (by omega) _ _ (by omega)
  · exact leafW X 256 8 hX (by decide) (by omega) (by omega) _ _ (by omega)
  · have := leafW X 1 0 hX (by decide) (by omega) (by omega) x.toNat (by omega) (by omega)
    rw [Int.natCast_zero, Int.zero_add] at this
    exact this

theorem val_len {ds : List Nat} (h : Ws ds) (i : Nat) (hi : i < ds.length) (hz : ∀ d ∈ ds.drop (i + 1), d = 0) (k : Nat) (hk : Len ds[i] k) (h0 : ds[i] ≠ 0) : Len (val ds) (64 * i + k) := by
  rw [val_split ds i hi, val_zero hz, Nat.mul_zero, Nat.add_zero, words_pow]
  have hl := val_low h i (by omega)
  rw [words_pow] at hl
  obtain ⟨h1, h2⟩ := hk
  generalize val (ds.take i) = a at *
  have hk0 : k ≠ 0 := by rintro rfl; simp at h1; omega
  refine ⟨?_, Or.inr ?_⟩
  · rw [Nat.pow_add]
    have : 2 ^ (64 * i) * (ds[i] + 1) ≤ 2 ^ (64 * i) * 2 ^ k := Nat.mul_le_mul_left _ (by omega)
    rw [Nat.mul_succ] at this
    omega
  · rw [show 64 * i + k - 1 = 64 * i + (k - 1) by omega, Nat.pow_add]
    have : 2 ^ (64 * i) * 2 ^ (k - 1) ≤ 2 ^ (64 * i) * ds[i] := Nat.mul_le_mul_left _ (by rcases h2 with h2 | h2 <;> omega)
    omega
theorem length_any (w : World) (b : Nat) (ds : List Nat) (hu : Un w b ds) :
    Calls Tryd.prog 70 #[.pointer (some ⟨b, 0, none⟩)] w fun e w' => ∃ k : Nat, k ≤ 2176 ∧ Len (val ds) k ∧ e = .returned (.int .i64 (k : Int)) ∧ Qt w w' := by
  replace hu : Hid (Un w b ds) := hu
  go_enter Tryd.func70, Tryd.ntmps70
  go_wp2_with fail
  go_loopw [3] (fun v wr => ∃ k : Nat, k ≤ 34 ∧ v = .int .i64 ((k : Int) - 1) ∧ Hid (∀ d ∈ ds.drop k, d = 0) ∧ Qt w wr) (fun v _ => ((intOf v) + 1).toNat)
  case atStart => exact ⟨34, by omega, rfl, by show ∀ d ∈ _, _; rw [List.drop_eq_nil_of_le (by have := hu.out.1; omega)]; simp, ⟨0, rfl⟩⟩
  case round =>
    obtain ⟨k, hk, rfl, hz, hq⟩ := hrel
    replace hq : Hid (Qt w wr) := hq
    have hu' : Hid (Un wr b ds) := hu.out.below (Qt.below hq.out _)
    by_cases h0 : k = 0
    · subst h0
      have hfin : Hid (Len (val ds) 0) := by
        have : val ds = 0 := val_zero (by simpa using hz.out)
        show Len _ _
        rw [this]; exact ⟨by decide, Or.inl rfl⟩
      go_wp2
      go_ret
      exact ⟨0, by omega, hfin.out, rfl, hq.out⟩
    · obtain ⟨j, rfl⟩ : ∃ j, k = j + 1 := ⟨k - 1, by omega⟩
      have hl1 := hu.out.1
      have hjl : j < ds.length := by omega
      have c1 := hu'.out.cell j hjl
      obtain ⟨x, hx⟩ : ∃ x, Hid (ds[j] = x) := ⟨ds[j], rfl⟩
      rw [hx.out] at c1
      have hj : (j : Int) < 34 := by omega
      have hj0 : (0 : Int) ≤ (j : Int) := by omega
      have hj2 : ((j + 1 : Nat) : Int) - 1 = (j : Int) := by omega
      rw [hj2]
      clear h0
      by_cases hx0 : x = 0
      · subst hx0
        have hz2 : Hid (∀ d ∈ ds.drop j, d = 0) := by
          show ∀ d ∈ _, _
          rw [List.drop_eq_getElem_cons (l := ds) (i := j) hjl]
          intro d hd
          rcases List.mem_cons.1 hd with rfl | hd
          · exact hx.out
          · exact hz.out d hd
        go_wp2_with fail
        go_roundw
        case rel => exact ⟨j, by omega, by go_num, hz2.out, hq.out⟩
        case measure => simp [intOf]
      · have hbeq : ((x : Int) == 0) = false := by simp; omega
        have hxl : x < 18446744073709551616 := by rw [← hx.out]; exact hu.out.2.1.get j hjl
        have hL : Hid (Len x (Lib.bitLen x)) := bitLen_len 64 x (by omega)
        have hLl : Hid (Lib.bitLen x ≤ 64) := by
          rcases Nat.lt_or_ge 64 (Lib.bitLen x) with h | h
          · exfalso
            obtain ⟨_, h2⟩ := hL.out
            have : 2 ^ 64 ≤ 2 ^ (Lib.bitLen x - 1) := Nat.pow_le_pow_right (by decide) (by omega)
            rcases h2 with h2 | h2 <;> omega
          · exact h
        have hfin : Hid (Len (val ds) (64 * j + Lib.bitLen x)) := by
          refine val_len hu.out.2.1 j hjl hz.out _ (by rw [hx.out]; exact hL.out) (by rw [hx.out]; exact hx0)
        go_wp2_with fail
        refine (len64_any _ x hxl).mono ?_
        rintro e w1 ⟨rfl, rfl⟩
        generalize Lib.bitLen x = k at *
        have hkk : k ≤ 64 := hLl.out
        go_wp2
        go_ret
        exact ⟨64 * j + k, by omega, hfin.out, by go_num, hq.out⟩
#print axioms length_any
end Go.Proofs.YtojohcckaklmpaaDoor.Rl
