/-
  Reading what was written: plain facts on forms. No program is named here.
-/
import Derived.Test.YtjajnioocoinlabRString
namespace Go.Proofs.Ytjajnioocoinlab

theorem u8_ofNat {n : Nat} (h : n < 256) : (UInt8.ofNat n).toNat = n := UInt8.toNat_ofNat_of_lt' h

theorem rvF_encF (x : List UInt8) : ∀ (f m i acc : Nat), m < 128 ^ f → acc + m * 128 ^ i < 18446744073709551616 → i + f ≤ 10 → (i = 0 ∨ m ≠ 0) → 0 < f →
    rvF i acc (encF f m ++ x) = (acc + m * 128 ^ i, i + (encF f m).length, 0) := by
  intro f
  induction f with
  | zero => intro m i acc _ _ _ _ h; omega
  | succ f ih =>
    intro m i acc hm hb hi hz _
    rw [encF]
    by_cases h : m < 128
    · rw [if_pos h]
      have hc : (UInt8.ofNat m).toNat = m := u8_ofNat (by omega)
      have h9 : ¬ (i = 9 ∧ 1 < m) := by
        rintro ⟨rfl, h1⟩
        have : 2 * 128 ^ 9 ≤ m * 128 ^ 9 := Nat.mul_le_mul_right _ h1
        have : (128 : Nat) ^ 9 = 9223372036854775808 := by decide
        omega
      rw [List.singleton_append, rvF, hc, if_neg h9, if_neg (by omega), if_neg (by omega), Nat.mod_eq_of_lt h]
      rfl
    · rw [if_neg h]
      have hc : (UInt8.ofNat (m % 128 + 128)).toNat = m % 128 + 128 := u8_ofNat (by omega)
      have hlt : m / 128 < 128 ^ f := Nat.div_lt_of_lt_mul (by rw [Nat.pow_succ] at hm; omega)
      have hf : 0 < f := by
        rcases Nat.eq_zero_or_pos f with rfl | h'
        · simp at hm; omega
        · exact h'
      have hsum : acc + m % 128 * 128 ^ i + m / 128 * 128 ^ (i + 1) = acc + m * 128 ^ i := by
        have e : m * 128 ^ i = (m % 128 + 128 * (m / 128)) * 128 ^ i := by rw [Nat.mod_add_div]
        rw [e, Nat.add_mul, Nat.pow_succ, Nat.mul_comm 128 (m / 128), Nat.mul_assoc (m / 128) 128, Nat.mul_comm 128 (128 ^ i), Nat.add_assoc]
      have h9 : ¬ (i = 9 ∧ 1 < m % 128 + 128) := by
        rintro ⟨rfl, _⟩
        omega
      rw [List.cons_append, rvF, hc, if_neg h9, if_pos (by omega), show (m % 128 + 128) % 128 = m % 128 by omega, ih (m / 128) (i + 1) (acc + m % 128 * 128 ^ i) hlt (by omega) (by omega) (by omega) hf, hsum, List.length_cons]
      congr 2
      omega
theorem rv_enc (n : Nat) (x : List UInt8) (hn : n < 18446744073709551616) : rv (enc n ++ x) = (n, (enc n).length, 0) := by
  have := rvF_encF x 10 n 0 0 (by have : (128 : Nat) ^ 10 = 1180591620717411303424 := by decide
                                  omega) (by omega) (by omega) (Or.inl rfl) (by omega)
  simpa [rv, enc] using this

theorem enc_cut {a b : Nat} {x y : List UInt8} (ha : a < 18446744073709551616) (hb : b < 18446744073709551616) (h : enc a ++ x = enc b ++ y) : a = b ∧ x = y := by
  have h1 := rv_enc a x ha
  have h2 := rv_enc b y hb
  rw [h, h2] at h1
  simp only [Prod.mk.injEq] at h1
  obtain ⟨rfl, _⟩ := h1
  exact ⟨rfl, List.append_cancel_left h⟩

/-- Is one the front of the other? -/
def isFront (x y : List UInt8) : Bool := decide (x.take (min x.length y.length) = y.take (min x.length y.length))
theorem front_cases {x y : List UInt8} (h : x.take (min x.length y.length) = y.take (min x.length y.length)) : (∃ r, y = x ++ r) ∨ (∃ r, x = y ++ r) := by
  by_cases hl : x.length ≤ y.length
  · left
    rw [Nat.min_eq_left hl, List.take_of_length_le (Nat.le_refl _)] at h
    exact ⟨y.drop x.length, by conv => lhs; rw [← List.take_append_drop x.length y, ← h]⟩
  · right
    rw [Nat.min_eq_right (by omega), List.take_of_length_le (Nat.le_refl y.length)] at h
    exact ⟨x.drop y.length, by conv => lhs; rw [← List.take_append_drop y.length x, h]⟩
theorem front_enc (a b : Nat) (ha : a < 18446744073709551616) (hb : b < 18446744073709551616) : isFront (enc a) (enc b) = decide (a = b) := by
  unfold isFront
  by_cases h : a = b
  · subst h; simp
  · rw [decide_eq_false h]
    refine decide_eq_false fun e => h ?_
    rcases front_cases e with ⟨r, hr⟩ | ⟨r, hr⟩
    · exact (enc_cut hb ha (x := []) (y := r) (by simpa using hr)).1.symm
    · exact (enc_cut ha hb (x := []) (y := r) (by simpa using hr)).1
theorem front_str (s t : List UInt8) (hs : s.length < 18446744073709551616) (ht : t.length < 18446744073709551616) : isFront (enc s.length ++ s) (enc t.length ++ t) = decide (s = t) := by
  unfold isFront
  by_cases h : s = t
  · subst h; simp
  · rw [decide_eq_false h]
    refine decide_eq_false fun e => h ?_
    rcases front_cases e with ⟨r, hr⟩ | ⟨r, hr⟩
    · rw [List.append_assoc] at hr
      obtain ⟨hl, he⟩ := enc_cut ht hs hr
      have : r = [] := by
        have := congrArg List.length he
        simp at this
        exact List.length_eq_zero_iff.1 (by omega)
      subst this
      simpa using he.symm
    · rw [List.append_assoc] at hr
      obtain ⟨hl, he⟩ := enc_cut hs ht hr
      have : r = [] := by
        have := congrArg List.length he
        simp at this
        exact List.length_eq_zero_iff.1 (by omega)
      subst this
      simpa using he
theorem zag_zig (n : Int) : zag (zig n) = n := by
  unfold zag zig
  by_cases h : 0 ≤ n
  · rw [if_pos h, if_pos (by omega)]; omega
  · rw [if_neg h, if_neg (by omega)]; omega
theorem zig_bounds (n : Int) (h0 : -9223372036854775808 ≤ n) (h1 : n ≤ 9223372036854775807) : 0 ≤ zig n ∧ zig n < 18446744073709551616 := by
  unfold zig; split <;> omega
theorem zag_bounds (u : Int) (h0 : 0 ≤ u) (h1 : u < 18446744073709551616) : -9223372036854775808 ≤ zag u ∧ zag u ≤ 9223372036854775807 := by
  unfold zag; split <;> omega
end Go.Proofs.Ytjajnioocoinlab
