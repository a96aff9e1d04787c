/-
  Reading what was written: plain facts on forms. No program is named here.
-/
import Derived.Test.YtdhjlongdfgejaaRString
namespace Go.Proofs.Ytdhjlongdfgejaa

theorem rvF_encF (x : List UInt8) : ∀ (f m i acc : Nat), m < 128 ^ f → acc + m * 128 ^ i < 18446744073709551616 → i + f ≤ 10 → (i = 0 ∨ m ≠ 0) → 0 < f →
    rvF i acc (encF f m ++ x) = (acc + m * 128 ^ i, i + (encF f m).length, 0) := by
  intro f
  induction f with
  | zero => intro m i acc _ _ _ _ h; omega
  | succ f ih =>
    intro m i acc hm hb hi hz _
    rw [encF]
    by_cases h : m < 128
    · rw [if_pos h]
      have hc : (UInt8.ofNat m).toNat = m := u8_ofNat (by omega)
      have h9 : ¬ (i = 9 ∧ 1 < m) := by
        rintro ⟨rfl, h1⟩
        have : 2 * 128 ^ 9 ≤ m * 128 ^ 9 := Nat.mul_le_mul_right _ h1
        have : (128 : Nat) ^ 9 = 9223372036854775808 := by decide
        omega
      rw [List.singleton_append, rvF, hc, if_neg h9, if_neg (by omega), if_neg (by omega), Nat.mod_eq_of_lt h]
      rfl
    · rw [if_neg h]
      have hc : (UInt8.ofNat (m % 128 + 128)).toNat = m % 128 + 128 := u8_ofNat (by omega)
      have hlt : m / 128 < 128 ^ f := Nat.div_lt_of_lt_mul (by rw [Nat.pow_succ] at hm; omega)
      have hf : 0 < f := by
        rcases Nat.eq_zero_or_pos f with rfl | h'
        · simp at hm; omega
        · exact h'
      have hsum : acc + m % 128 * 128 ^ i + m / 128 * 128 ^ (i + 1) = acc + m * 128 ^ i := by
        have e : m * 128 ^ i = (m % 128 + 128 * (m / 128)) * 128 ^ i := by rw [Nat.mod_add_div]
        rw [e, Nat.add_mul, Nat.pow_succ, Nat.mul_comm 128 (m / 128), Nat.mul_assoc (m / 128) 128, Nat.mul_comm 128 (128 ^ i), Nat.add_assoc]
      have h9 : ¬ (i = 9 ∧ 1 < m % 128 + 128) := by
        rintro ⟨rfl, _⟩
        omega
      rw [List.cons_append, rvF, hc, if_neg h9, if_pos (by omega), show (m % 128 + 128) % 128 = m % 128 by omega, ih (m / 128) (i + 1) (acc + m % 128 * 128 ^ i) hlt (by omega) (by omega) (by omega) hf, hsum, List.length_cons]
      congr 2
      omega
theorem rv_enc (n : Nat) (x : List UInt8) (hn : n < 18446744073709551616) : rv (enc n ++ x) = (n, (enc n).length, 0) := by
  have := rvF_encF x 10 n 0 0 (by have : (128 : Nat) ^ 10 = 1180591620717411303424 := by decide
                                  omega) (by omega) (by omega) (Or.inl rfl) (by omega)
  simpa [rv, enc] using this

theorem rvF_err (l : List UInt8) : ∀ i acc, (rvF i acc l).2.2 ≠ 0 → (rvF i acc l).1 = 0 ∧ (rvF i acc l).2.1 = 0 := by
  induction l with
  | nil => intro i acc _; simp [rvF]
  | cons c r ih =>
    intro i acc
    rw [rvF]
    by_cases h9 : i = 9 ∧ 1 < c.toNat
    · rw [if_pos h9]; simp
    · rw [if_neg h9]
      by_cases h1 : 128 ≤ c.toNat
      · rw [if_pos h1]; exact ih _ _
      · rw [if_neg h1]
        by_cases h2 : 0 < i ∧ c.toNat = 0
        · rw [if_pos h2]; simp
        · rw [if_neg h2]; simp
theorem rv_err {l : List UInt8} (h : (rv l).2.2 ≠ 0) : (rv l).1 = 0 ∧ (rv l).2.1 = 0 := rvF_err l 0 0 h

theorem rvF_errs (l : List UInt8) : ∀ i acc, (rvF i acc l).2.2 = 0 ∨ (rvF i acc l).2.2 = 2 ∨ (rvF i acc l).2.2 = 4 := by
  induction l with
  | nil => intro i acc; simp [rvF]
  | cons c r ih =>
    intro i acc
    rw [rvF]
    split
    · simp
    · split
      · exact ih _ _
      · split <;> simp
theorem rv_errs (l : List UInt8) : (rv l).2.2 = 0 ∨ (rv l).2.2 = 2 ∨ (rv l).2.2 = 4 := rvF_errs l 0 0

theorem rvF_back (l : List UInt8) : ∀ i acc, acc < 128 ^ i → i ≤ 9 → (rvF i acc l).2.2 = 0 →
    ∃ m, (rvF i acc l).1 = acc + m * 128 ^ i ∧ (rvF i acc l).2.1 = i + (enc m).length ∧ enc m = l.take (enc m).length ∧ (0 < i → m ≠ 0) := by
  induction l with
  | nil => intro i acc _ _ h; simp [rvF] at h
  | cons c r ih =>
    intro i acc ha hi h
    have hb := (rvF_bounds (c :: r) i acc ha hi).1
    rw [rvF] at h hb ⊢
    by_cases h9 : i = 9 ∧ 1 < c.toNat
    · rw [if_pos h9] at h; simp at h
    · rw [if_neg h9] at h hb ⊢
      by_cases h1 : 128 ≤ c.toNat
      · rw [if_pos h1] at h hb ⊢
        obtain ⟨m, e1, e2, e3, e4⟩ := ih (i + 1) (acc + c.toNat % 128 * 128 ^ i) (group_lt _ _ _ ha) (by omega) h
        have hc := c.toNat_lt
        have hm := e4 (by omega)
        have hsum : acc + c.toNat % 128 * 128 ^ i + m * 128 ^ (i + 1) = acc + (c.toNat % 128 + 128 * m) * 128 ^ i := by
          rw [Nat.add_mul, Nat.pow_succ, Nat.mul_comm 128 m, Nat.mul_assoc m 128, Nat.mul_comm 128 (128 ^ i), Nat.add_assoc]
        have hp : 1 ≤ 128 ^ i := Nat.pos_of_ne_zero (by simp)
        have hlt : c.toNat % 128 + 128 * m < 2 ^ 64 := by
          rw [e1, hsum] at hb
          have : (c.toNat % 128 + 128 * m) * 1 ≤ (c.toNat % 128 + 128 * m) * 128 ^ i := Nat.mul_le_mul_left _ hp
          omega
        have henc : enc (c.toNat % 128 + 128 * m) = c :: enc m := by
          rw [enc_big (by omega) hlt]
          have a1 : (c.toNat % 128 + 128 * m) % 128 + 128 = c.toNat := by omega
          have a2 : (c.toNat % 128 + 128 * m) / 128 = m := by omega
          rw [a1, a2]
          simp
        refine ⟨c.toNat % 128 + 128 * m, by rw [e1, hsum], ?_, ?_, fun _ => by omega⟩
        · rw [henc, e2, List.length_cons]; omega
        · rw [henc, List.length_cons, List.take_succ_cons, ← e3]
      · rw [if_neg h1] at h hb ⊢
        by_cases h2 : 0 < i ∧ c.toNat = 0
        · rw [if_pos h2] at h; simp at h
        · rw [if_neg h2] at h hb ⊢
          have henc : enc c.toNat = [c] := by rw [enc_small (by omega)]; simp
          refine ⟨c.toNat, by rw [Nat.mod_eq_of_lt (by omega)], by rw [henc]; rfl, by rw [henc]; simp, fun hi => by omega⟩
theorem rv_back {l : List UInt8} (h : (rv l).2.2 = 0) : enc (rv l).1 = l.take (rv l).2.1 ∧ (rv l).2.1 = (enc (rv l).1).length := by
  obtain ⟨m, e1, e2, e3, _⟩ := rvF_back l 0 0 (by simp) (by omega) h
  have f1 : (rv l).1 = m := by simpa [rv] using e1
  have f2 : (rv l).2.1 = (enc m).length := by simpa [rv] using e2
  rw [f1, f2]
  exact ⟨e3, rfl⟩

theorem enc_cut {a b : Nat} {x y : List UInt8} (ha : a < 18446744073709551616) (hb : b < 18446744073709551616) (h : enc a ++ x = enc b ++ y) : a = b ∧ x = y := by
  have h1 := rv_enc a x ha
  have h2 := rv_enc b y hb
  rw [h, h2] at h1
  simp only [Prod.mk.injEq] at h1
  obtain ⟨rfl, _⟩ := h1
  exact ⟨rfl, List.append_cancel_left h⟩

/-- Is one the front of the other? -/
def isFront (x y : List UInt8) : Bool := decide (x.take (min x.length y.length) = y.take (min x.length y.length))
theorem front_cases {x y : List UInt8} (h : x.take (min x.length y.length) = y.take (min x.length y.length)) : (∃ r, y = x ++ r) ∨ (∃ r, x = y ++ r) := by
  by_cases hl : x.length ≤ y.length
  · left
    rw [Nat.min_eq_left hl, List.take_of_length_le (Nat.le_refl _)] at h
    exact ⟨y.drop x.length, by conv => lhs; rw [← List.take_append_drop x.length y, ← h]⟩
  · right
    rw [Nat.min_eq_right (by omega), List.take_of_length_le (Nat.le_refl y.length)] at h
    exact ⟨x.drop y.length, by conv => lhs; rw [← List.take_append_drop y.length x, h]⟩
theorem front_enc (a b : Nat) (ha : a < 18446744073709551616) (hb : b < 18446744073709551616) : isFront (enc a) (enc b) = decide (a = b) := by
  unfold isFront
  by_cases h : a = b
  · subst h; simp
  · rw [decide_eq_false h]
    refine decide_eq_false fun e => h ?_
    rcases front_cases e with ⟨r, hr⟩ | ⟨r, hr⟩
    · exact (enc_cut hb ha (x := []) (y := r) (by simpa using hr)).1.symm
    · exact (enc_cut ha hb (x := []) (y := r) (by simpa using hr)).1
theorem front_str (s t : List UInt8) (hs : s.length < 18446744073709551616) (ht : t.length < 18446744073709551616) : isFront (enc s.length ++ s) (enc t.length ++ t) = decide (s = t) := by
  unfold isFront
  by_cases h : s = t
  · subst h; simp
  · rw [decide_eq_false h]
    refine decide_eq_false fun e => h ?_
    rcases front_cases e with ⟨r, hr⟩ | ⟨r, hr⟩
    · rw [List.append_assoc] at hr
      obtain ⟨hl, he⟩ := enc_cut ht hs hr
      have : r = [] := by
        have := congrArg List.length he
        simp at this
        exact List.length_eq_zero_iff.1 (by omega)
      subst this
      simpa using he.symm
    · rw [List.append_assoc] at hr
      obtain ⟨hl, he⟩ := enc_cut hs ht hr
      have : r = [] := by
        have := congrArg List.length he
        simp at this
        exact List.length_eq_zero_iff.1 (by omega)
      subst this
      simpa using he
theorem zag_zig (n : Int) : zag (zig n) = n := by
  unfold zag zig
  by_cases h : 0 ≤ n
  · rw [if_pos h, if_pos (by omega)]; omega
  · rw [if_neg h, if_neg (by omega)]; omega
theorem zig_bounds (n : Int) (h0 : -9223372036854775808 ≤ n) (h1 : n ≤ 9223372036854775807) : 0 ≤ zig n ∧ zig n < 18446744073709551616 := by
  unfold zig; split <;> omega
theorem zag_bounds (u : Int) (h0 : 0 ≤ u) (h1 : u < 18446744073709551616) : -9223372036854775808 ≤ zag u ∧ zag u ≤ 9223372036854775807 := by
  unfold zag; split <;> omega
end Go.Proofs.Ytdhjlongdfgejaa
