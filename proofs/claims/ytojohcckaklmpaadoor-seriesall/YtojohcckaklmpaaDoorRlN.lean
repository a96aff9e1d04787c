/-
  Package real's exact sums: the number that is next to one.
-/
import Derived.Test.YtojohcckaklmpaaDoorRlM
namespace Go.Proofs.YtojohcckaklmpaaDoor.Rl
open Go.RowKit
set_option maxRecDepth 100000

/-- Is one added to what is kept of V, without its lowest s bits? -/
def upB (V s : Nat) : Bool := decide (V / 2 ^ (s - 1) % 2 = 1) && (decide (V / 2 ^ s % 2 = 1) || decide (V % 2 ^ (s - 1) ≠ 0))
/-- The bits of the number next to V times 2^-1074, of two that are as near the even one. -/
def roundB (V : Nat) : Nat := if V < 9007199254740992 then V else min ((V.log2 - 52) * 4503599627370496 + V / 2 ^ (V.log2 - 52) + (upB V (V.log2 - 52)).toNat) 9218868437227405312
theorem len_log2 {V k : Nat} (h : Len V k) (hk : 1 ≤ k) : V.log2 = k - 1 := by
  obtain ⟨h1, h2⟩ := h
  have hp : 2 ^ (k - 1) ≤ V := by rcases h2 with h2 | h2 <;> omega
  have h0 : V ≠ 0 := by have : 0 < 2 ^ (k - 1) := Nat.two_pow_pos _; omega
  rw [Nat.log2_eq_iff h0]
  exact ⟨hp, by rw [Nat.sub_add_cancel hk]; exact h1⟩
theorem min_cast (a c : Nat) : ((min a c : Nat) : Int) = min (a : Int) (c : Int) := by omega
set_option maxHeartbeats 1000000 in
theorem round_any (w : World) (b : Nat) (ds : List Nat) (hu : Un w b ds) :
    Calls Tryd.prog 55 #[.pointer (some ⟨b, 0, none⟩)] w fun e w' => e = .returned (.int .u64 (roundB (val ds) : Int)) ∧ Qt w w' := by
  replace hu : Hid (Un w b ds) := hu
  go_enter Tryd.func55, Tryd.ntmps55
  go_wp2_with fail
  refine (length_any _ b ds hu.out).mono ?_
  rintro e w1 ⟨k, hk, hL, rfl, hq1⟩
  have hu1 : Hid (Un w1 b ds) := hu.out.below (Qt.below hq1 _)
  replace hL : Hid (Len (val ds) k) := hL
  replace hq1 : Hid (Qt w w1) := hq1
  by_cases h53 : k ≤ 53
  · have hl := hu.out.1
    have c1 := hu1.out.cell 0 (by omega)
    have fin : Hid (roundB (val ds) = ds[0]) := by
      show _ = _
      have h1 : val ds < 9007199254740992 := Nat.lt_of_lt_of_le hL.out.1 (Nat.pow_le_pow_right (by decide) h53 : 2 ^ k ≤ 2 ^ 53)
      rw [roundB, if_pos h1]
      have h2 := val_split ds 0 (by omega)
      simp only [List.take_zero, val, Nat.pow_zero, Nat.one_mul, Nat.zero_add] at h2
      omega
    obtain ⟨x, hx⟩ : ∃ x, Hid (ds[0] = x) := ⟨ds[0], rfl⟩
    rw [hx.out] at c1
    have fin2 : Hid (roundB (val ds) = x) := by show _ = _; rw [fin.out, hx.out]
    go_wp2
    go_ret
    exact ⟨by rw [fin2.out]; rfl, hq1.out⟩
  · obtain ⟨s, rfl⟩ : ∃ s, k = s + 53 := ⟨k - 53, by omega⟩
    obtain ⟨V, hV⟩ : ∃ V, Hid (val ds = V) := ⟨_, rfl⟩
    have hL2 : Hid (Len V (s + 53)) := by rw [← hV.out]; exact hL.out
    have hs1 : 1 ≤ s := by omega
    have hq : Hid (V / 2 ^ s < 9007199254740992) := by
      show _ < _
      apply Nat.div_lt_of_lt_mul
      have := hL2.out.1
      rw [Nat.pow_add] at this
      exact this
    have fin : Hid (roundB V = min (s * 4503599627370496 + V / 2 ^ s + (upB V s).toNat) 9218868437227405312) := by
      show _ = _
      have h1 := len_log2 hL2.out (by omega)
      have h2 : ¬ V < 9007199254740992 := by
        have h3 := hL2.out.2
        have h4 : 2 ^ 53 ≤ 2 ^ (s + 53 - 1) := Nat.pow_le_pow_right (by decide) (by omega)
        rcases h3 with h3 | h3 <;> omega
      rw [roundB, if_neg h2, h1, show s + 53 - 1 - 52 = s by omega]
    replace hV : Hid (val ds = V) := hV
    obtain ⟨t, rfl⟩ : ∃ t, s = t + 1 := ⟨s - 1, by omega⟩
    have a1 : ((t + 1 + 53 : Nat) : Int) - 53 = ((t + 1 : Nat) : Int) := by omega
    have a2 : ((t + 1 + 53 : Nat) : Int) > 53 := by omega
    have a3 : IntKind.u64.wrap ((t + 1 : Nat) : Int) = ((t + 1 : Nat) : Int) := by rw [IntKind.wrap_u64]; omega
    obtain ⟨S, hS⟩ : ∃ S : Int, Hid (S = ((t + 1 : Nat) : Int)) := ⟨_, rfl⟩
    obtain ⟨K, hK⟩ : ∃ K : Int, Hid (K = ((t + 1 + 53 : Nat) : Int)) := ⟨_, rfl⟩
    rw [← hS.out] at a1 a3
    rw [← hK.out] at a1 a2 ⊢
    obtain ⟨Z, hZ⟩ : ∃ Z : Nat, Hid (Z = (t + 1) * 4503599627370496) := ⟨_, rfl⟩
    have a4 : IntKind.u64.wrap (S * 4503599627370496) = (Z : Int) := by rw [IntKind.wrap_u64, hS.out, hZ.out]; omega
    obtain ⟨q, hqq⟩ : ∃ q : Nat, Hid (V / 2 ^ (t + 1) = q) := ⟨_, rfl⟩
    have a5 : IntKind.u64.wrap ((Z : Int) + (q : Int)) = ((Z + q : Nat) : Int) := by
      have h1 := hq.out
      rw [hqq.out] at h1
      rw [IntKind.wrap_u64, hZ.out]; omega
    have a6 : S - 1 = (t : Int) := by rw [hS.out]; omega
    obtain ⟨b1, hb1⟩ : ∃ x, Hid (decide (V / 2 ^ t % 2 = 1) = x) := ⟨_, rfl⟩
    obtain ⟨b2, hb2⟩ : ∃ x, Hid (decide (V / 2 ^ (t + 1) % 2 = 1) = x) := ⟨_, rfl⟩
    obtain ⟨b3, hb3⟩ : ∃ x, Hid (decide (V % 2 ^ t ≠ 0) = x) := ⟨_, rfl⟩
    have hup : Hid (upB V (t + 1) = (b1 && (b2 || b3))) := by
      show _ = _
      rw [upB, Nat.add_sub_cancel, hb1.out, hb2.out, hb3.out]
    obtain ⟨N, hN⟩ : ∃ N : Int, Hid (N = ((Z + q : Nat) : Int)) := ⟨_, rfl⟩
    rw [← hN.out] at a5
    have a7 : IntKind.u64.wrap (N + 1) = N + 1 := by
      have h1 := hq.out
      rw [hqq.out] at h1
      rw [IntKind.wrap_u64, hN.out, hZ.out]; omega
    have fin2 : Hid ((roundB (val ds) : Int) = min (N + ((b1 && (b2 || b3)).toNat : Int)) 9218868437227405312) := by
      show _ = _
      rw [hV.out, fin.out, hup.out, hqq.out, hN.out, hZ.out, min_cast]
      generalize (b1 && (b2 || b3)).toNat = u
      congr 1
    clear hs1
    go_wp2_with fail
    rw [hS.out]
    refine (from_any _ b (t + 1) ds hu1.out (by omega) (by rw [hV.out]; have := hq.out; omega)).mono ?_
    rintro e w2 ⟨rfl, hq2⟩
    rw [hV.out, hqq.out, ← hS.out]
    have hu2 : Hid (Un w2 b ds) := hu1.out.below (Qt.below hq2 _)
    replace hq2 : Hid (Qt w w2) := hq1.out.trans hq2
    go_wp2_with fail
    refine (bit_any _ b t ds hu2.out (by omega)).mono ?_
    rintro e w3 ⟨rfl, hq3⟩
    rw [hV.out, hb1.out]
    have hu3 : Hid (Un w3 b ds) := hu2.out.below (Qt.below hq3 _)
    replace hq3 : Hid (Qt w w3) := hq2.out.trans hq3
    cases b1
    · go_wp2
      all_goals (go_ret; refine ⟨congrArg (fun x => Ending.returned (Value.int .u64 x)) (?_ : (_ : Int) = _), hq3.out⟩; rw [fin2.out]; simp only [Bool.false_and, Bool.toNat_false]; omega)
    · go_wp2_with fail
      rw [hS.out]
      refine (bit_any _ b (t + 1) ds hu3.out (by omega)).mono ?_
      rintro e w4 ⟨rfl, hq4⟩
      rw [hV.out, hb2.out, ← hS.out]
      have hu4 : Hid (Un w4 b ds) := hu3.out.below (Qt.below hq4 _)
      replace hq4 : Hid (Qt w w4) := hq3.out.trans hq4
      cases b2
      · go_wp2_with fail
        refine (anyBelow_any _ b t ds hu4.out (by omega)).mono ?_
        rintro e w5 ⟨rfl, hq5⟩
        rw [hV.out, hb3.out]
        replace hq5 : Hid (Qt w w5) := hq4.out.trans hq5
        cases b3
        · go_wp2
          all_goals (go_ret; refine ⟨congrArg (fun x => Ending.returned (Value.int .u64 x)) (?_ : (_ : Int) = _), hq5.out⟩; rw [fin2.out]; simp only [Bool.or_self, Bool.and_false, Bool.toNat_false]; omega)
        · go_wp2
          all_goals (go_ret; refine ⟨congrArg (fun x => Ending.returned (Value.int .u64 x)) (?_ : (_ : Int) = _), hq5.out⟩; rw [fin2.out]; simp only [Bool.or_true, Bool.and_self, Bool.toNat_true]; omega)
      · go_wp2
        all_goals (go_ret; refine ⟨congrArg (fun x => Ending.returned (Value.int .u64 x)) (?_ : (_ : Int) = _), hq4.out⟩; rw [fin2.out]; simp only [Bool.true_or, Bool.and_self, Bool.toNat_true]; omega)
#print axioms round_any
end Go.Proofs.YtojohcckaklmpaaDoor.Rl
