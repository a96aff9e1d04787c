/-
  Reading a list of numbers' bits undoes writing them, and the other way round. No program is named here.
-/
import Derived.Test.YtojohcckaklmpaaDoorSm
namespace Go.Proofs.YtojohcckaklmpaaDoor.Sr

def B64 (xs : List Nat) : Prop := ∀ b ∈ xs, b < 18446744073709551616

/-- A difference's parts, read off the bits ahead of any others. -/
theorem parts (z w o n : Nat) (R : List Nat) (hz : z < 64) (hw : w < 64) (hn : n = w + 1) :
    let l := bitsOf z 6 ++ (bitsOf w 6 ++ (bitsOf o n ++ R))
    ofB 0 (l.take 6) = z ∧ ofB 0 ((l.drop 6).take 6) = w ∧ (l.drop 12).take (w + 1) = bitsOf o n ∧ (l.drop 12).drop (w + 1) = R ∧ l.length = 12 + n + R.length := by
  intro l
  have h6 : l.drop 6 = bitsOf w 6 ++ (bitsOf o n ++ R) := List.drop_left' (by simp)
  have h12 : l.drop 12 = bitsOf o n ++ R := by
    rw [show (12 : Nat) = 6 + 6 by omega, ← List.drop_drop, h6]; exact List.drop_left' (by simp)
  refine ⟨?_, ?_, ?_, ?_, ?_⟩
  · rw [show l.take 6 = bitsOf z 6 from List.take_left' (by simp)]; exact ofB_small _ _ (by simpa using hz)
  · rw [h6, List.take_left' (by simp)]; exact ofB_small _ _ (by simpa using hw)
  · rw [h12]; exact List.take_left' (by simp [hn])
  · rw [h12]; exact List.drop_left' (by simp [hn])
  · simp [l]; omega

theorem rdDiff_put (x : Nat) (hx : x < 18446744073709551616) (R : List Nat) : rdDiff (diffB x ++ R) = (x, 0, R) := by
  unfold diffB
  by_cases h0 : x = 0
  · rw [if_pos h0, h0]; rfl
  · rw [if_neg h0]
    obtain ⟨m, hm, htL, hL, hd, hl⟩ := ends_of hx h0
    rw [hd]
    generalize Lib.ctz 64 x = t at *
    generalize Lib.bitLen x = L at *
    simp only [List.cons_append, List.append_assoc]
    obtain ⟨p1, p2, p3, p4, p5⟩ := parts (64 - L) (L - t - 1) (2 * m + 1) (L - t) R (by omega) (by omega) (by omega)
    generalize bitsOf (64 - L) 6 ++ (bitsOf (L - t - 1) 6 ++ (bitsOf (2 * m + 1) (L - t) ++ R)) = l at *
    rw [rdDiff, if_neg (by omega), if_neg (by omega), p2, if_neg (by rw [List.length_drop]; omega), p1, p3, p4, ofB_small _ _ hl.1]
    have hnz : (2 * m + 1) / 2 ^ (L - t - 1) ≠ 0 := by
      have : 0 < (2 * m + 1) / 2 ^ (L - t - 1) := Nat.div_pos (by rcases hl.2 with h | h <;> omega) (Nat.two_pow_pos _)
      omega
    rw [if_neg (by omega)]
    have e : 64 - (64 - L) - (L - t - 1 + 1) = t := by omega
    rw [e, Nat.mul_comm, ← hm]
theorem rdNext_put (i x : Nat) (hx : x < 18446744073709551616) (R : List Nat) : rdNext i (putNext i x ++ R) = (x, 0, R) := by
  unfold rdNext putNext
  by_cases hi : i = 0
  · rw [if_pos hi, if_pos hi, if_neg (by simp), List.take_left' (by simp), List.drop_left' (by simp), ofB_small _ _ (by simpa using hx)]
  · rw [if_neg hi, if_neg hi, rdDiff_put x hx]

theorem put_rdDiff (l : List Nat) (hl : IsB l) (h : (rdDiff l).2.1 = 0) : l = diffB (rdDiff l).1 ++ (rdDiff l).2.2 ∧ (rdDiff l).1 < 18446744073709551616 := by
  cases l with
  | nil => simp [rdDiff] at h
  | cons b l =>
    have hb := hl b (List.mem_cons_self ..)
    have hl' : IsB l := fun c hc => hl c (List.mem_cons_of_mem _ hc)
    rw [rdDiff] at h ⊢
    by_cases h0 : b = 0
    · rw [if_pos h0]; subst h0; exact ⟨rfl, by omega⟩
    · rw [if_neg h0] at h ⊢
      by_cases h1 : l.length < 12
      · rw [if_pos h1] at h; simp at h
      · rw [if_neg h1] at h ⊢
        have zb : IsB (l.take 6) := hl'.take _
        have wb : IsB ((l.drop 6).take 6) := (hl'.drop _).take _
        have zl : (l.take 6).length = 6 := by rw [List.length_take]; omega
        have wl : ((l.drop 6).take 6).length = 6 := by rw [List.length_take, List.length_drop]; omega
        have hz := ofB_lt0 zb zl
        have hw := ofB_lt0 wb wl
        have ez := bitsOf_eq zb zl
        have ew := bitsOf_eq wb wl
        generalize hZ : ofB 0 (l.take 6) = z at *
        generalize hW : ofB 0 ((l.drop 6).take 6) = w at *
        by_cases h2 : (l.drop 12).length < w + 1
        · rw [if_pos h2] at h; simp at h
        · rw [if_neg h2] at h ⊢
          have ob : IsB ((l.drop 12).take (w + 1)) := (hl'.drop _).take _
          have ol : ((l.drop 12).take (w + 1)).length = w + 1 := by rw [List.length_take]; omega
          have ho := ofB_lt0 ob ol
          have eo := bitsOf_eq ob ol
          generalize hO : ofB 0 ((l.drop 12).take (w + 1)) = o at *
          by_cases h3 : 64 < z + (w + 1) ∨ o % 2 = 0 ∨ o / 2 ^ w = 0
          · rw [if_pos h3] at h; simp at h
          · rw [if_neg h3]
            have h4 : z + (w + 1) ≤ 64 := by omega
            have h5 : o % 2 = 1 := by omega
            have h6 : o / 2 ^ w ≠ 0 := by omega
            have h7 : 2 ^ w ≤ o := by
              apply Nat.le_of_not_lt; intro hlt; exact h6 (Nat.div_eq_of_lt hlt)
            obtain ⟨t, ht⟩ : ∃ t, t = 64 - z - (w + 1) := ⟨_, rfl⟩
            simp only
            rw [← ht]
            have hS : LenS o (w + 1) := ⟨ho, Or.inr (by simpa using h7)⟩
            have hx1 : o * 2 ^ t < 18446744073709551616 := by
              have h8 := (hS.shift (t := t) (by omega)).1
              have : 2 ^ (w + 1 + t) ≤ 2 ^ 64 := Nat.pow_le_pow_right (by decide) (by omega)
              omega
            have hx0 : o * 2 ^ t ≠ 0 := by
              have : 1 * 1 ≤ o * 2 ^ t := Nat.mul_le_mul (by omega) (Nat.two_pow_pos _)
              omega
            have hLen := (bitLen_S hx1).uniq (hS.shift (t := t) (by omega))
            obtain ⟨m, hm, _, _, hd, _⟩ := ends_of hx1 hx0
            have hT : Lib.ctz 64 (o * 2 ^ t) = t := by
              have e2 : o * 2 ^ t = 2 ^ t * (2 * (o / 2) + 1) := by rw [Nat.mul_comm]; congr 1; omega
              rw [e2] at hm
              have := odd_uniq hm
              rw [e2]; exact this.symm
            have hD : o * 2 ^ t / 2 ^ t = o := Nat.mul_div_cancel _ (Nat.two_pow_pos _)
            refine ⟨?_, hx1⟩
            unfold diffB
            rw [if_neg hx0, hLen, hT, hD, show 64 - (w + 1 + t) = z by omega, show w + 1 + t - t - 1 = w by omega, show w + 1 + t - t = w + 1 by omega, ez, ew, eo]
            have hb1 : b = 1 := by omega
            subst hb1
            rw [List.cons_append, List.append_assoc, List.append_assoc, List.take_append_drop]
            congr 1
            have e3 : l.drop 12 = (l.drop 6).drop 6 := by rw [List.drop_drop]
            rw [e3, List.take_append_drop, List.take_append_drop]
theorem put_rdNext (i : Nat) (l : List Nat) (hl : IsB l) (h : (rdNext i l).2.1 = 0) : l = putNext i (rdNext i l).1 ++ (rdNext i l).2.2 ∧ (rdNext i l).1 < 18446744073709551616 := by
  unfold rdNext putNext at *
  by_cases hi : i = 0
  · rw [if_pos hi] at h ⊢
    by_cases h1 : l.length < 64
    · rw [if_pos h1] at h; simp at h
    · rw [if_neg h1, if_pos hi]
      have hb : IsB (l.take 64) := hl.take _
      have hl : (l.take 64).length = 64 := by rw [List.length_take]; omega
      refine ⟨?_, by simpa using ofB_lt0 hb hl⟩
      simp only
      rw [bitsOf_eq hb hl, List.take_append_drop]
  · rw [if_neg hi] at h ⊢
    rw [if_neg hi]
    exact put_rdDiff l hl h
theorem xor_lt {a b : Nat} (ha : a < 18446744073709551616) (hb : b < 18446744073709551616) : a ^^^ b < 18446744073709551616 := by
  have := Nat.xor_lt_two_pow (x := a) (y := b) (n := 64) (by simpa using ha) (by simpa using hb)
  simpa using this
theorem xor_back (a u : Nat) : a ^^^ (u ^^^ a) = u := by rw [Nat.xor_comm u a, ← Nat.xor_assoc, Nat.xor_self, Nat.zero_xor]
theorem rdGo_put (us : List Nat) : ∀ (i was : Nat) (acc R : List Nat), B64 us → was < 18446744073709551616 → rdGo us.length i was acc (putAll i was us ++ R) = rdGo 0 0 0 (acc ++ us) R := by
  induction us with
  | nil => intro i was acc R _ _; simp [putAll, rdGo]
  | cons u us ih =>
    intro i was acc R hb hw
    have hu := hb u (List.mem_cons_self ..)
    have e : ∀ l, rdGo (us.length + 1) i was acc l = if (rdNext i l).2.1 = 0 then rdGo us.length (i + 1) (was ^^^ (rdNext i l).1) (acc ++ [was ^^^ (rdNext i l).1]) (rdNext i l).2.2 else ([], (rdNext i l).2.1, []) := fun l => by rw [rdGo]
    rw [List.length_cons, e, putAll, List.append_assoc, rdNext_put i _ (xor_lt hu hw)]
    simp only [xor_back, if_true]
    rw [ih (i + 1) u _ R (fun c hc => hb c (List.mem_cons_of_mem _ hc)) hu, List.append_assoc]
    rfl
theorem rdGo_back : ∀ (k i was : Nat) (acc l : List Nat), IsB l → was < 18446744073709551616 → (rdGo k i was acc l).2.1 = 0 →
    ∃ us, (rdGo k i was acc l).1 = acc ++ us ∧ us.length = k ∧ B64 us ∧ l = putAll i was us ++ (rdGo k i was acc l).2.2 ∧ ofB 0 ((rdGo k i was acc l).2.2.take ((rdGo k i was acc l).2.2.length % 8)) = 0
  | 0, i, was, acc, l, hl, hw, h => by
    rw [rdGo] at h ⊢
    by_cases h0 : ofB 0 (l.take (l.length % 8)) = 0
    · rw [if_pos h0]
      exact ⟨[], by simp, rfl, fun c hc => by simp at hc, by simp [putAll], h0⟩
    · rw [if_neg h0] at h; simp at h
  | k + 1, i, was, acc, l, hl, hw, h => by
    rw [rdGo] at h ⊢
    by_cases h0 : (rdNext i l).2.1 = 0
    · rw [if_pos h0] at h ⊢
      obtain ⟨p1, p2⟩ := put_rdNext i l hl h0
      generalize rdNext i l = r at *
      obtain ⟨x, e, r2⟩ := r
      simp only at *
      have hr : IsB r2 := fun c hc => hl c (by rw [p1]; exact List.mem_append_right _ hc)
      obtain ⟨us, q1, q2, q3, q4, q5⟩ := rdGo_back k (i + 1) (was ^^^ x) (acc ++ [was ^^^ x]) r2 hr (xor_lt hw p2) h
      refine ⟨(was ^^^ x) :: us, by rw [q1]; simp, by simp [q2], ?_, ?_, q5⟩
      · intro c hc
        rcases List.mem_cons.1 hc with rfl | hc
        · exact xor_lt hw p2
        · exact q3 c hc
      · rw [putAll, List.append_assoc, ← q4, p1]
        congr 2
        rw [Nat.xor_comm was x, Nat.xor_assoc, Nat.xor_self, Nat.xor_zero]
    · rw [if_neg h0] at h; exact (h0 h).elim
theorem rdDiff_err (l : List Nat) : (rdDiff l).2.1 = 0 ∨ (rdDiff l).2.1 = 2 ∨ (rdDiff l).2.1 = 4 := by
  cases l with
  | nil => simp [rdDiff]
  | cons b l => rw [rdDiff]; (repeat' split) <;> simp
theorem rdNext_err (i : Nat) (l : List Nat) : (rdNext i l).2.1 = 0 ∨ (rdNext i l).2.1 = 2 ∨ (rdNext i l).2.1 = 4 := by
  unfold rdNext
  split
  · split <;> simp
  · exact rdDiff_err l
theorem rdGo_err : ∀ (k i was : Nat) (acc l : List Nat), (rdGo k i was acc l).2.1 = 0 ∨ ((rdGo k i was acc l).2.1 = 2 ∨ (rdGo k i was acc l).2.1 = 4) ∧ (rdGo k i was acc l).1 = [] ∧ (rdGo k i was acc l).2.2 = []
  | 0, i, was, acc, l => by rw [rdGo]; split <;> simp
  | k + 1, i, was, acc, l => by
    rw [rdGo]
    by_cases h0 : (rdNext i l).2.1 = 0
    · rw [if_pos h0]; exact rdGo_err k _ _ _ _
    · rw [if_neg h0]
      rcases rdNext_err i l with h | h
      · exact (h0 h).elim
      · exact Or.inr ⟨h, rfl, rfl⟩

/-- Packed, then read, whatever stands behind. -/
theorem rd_pk {us : List Nat} {m : List UInt8} (hb : B64 us) (h : Pk (putAll 0 0 us) m) (y : List UInt8) : ∃ r, rdGo us.length 0 0 [] (unb (m ++ y)) = (us, 0, r) ∧ r.length / 8 = y.length := by
  refine ⟨List.replicate (padN (putAll 0 0 us)) 0 ++ unb y, ?_, ?_⟩
  · rw [unb_append, show unb m = _ from h, List.append_assoc, rdGo_put us 0 0 [] _ hb (by omega), rdGo]
    have hp : padN (putAll 0 0 us) < 8 := by unfold padN; omega
    have hq : (List.replicate (padN (putAll 0 0 us)) 0 ++ unb y).length % 8 = padN (putAll 0 0 us) := by rw [List.length_append, List.length_replicate, unb_len]; omega
    rw [hq, List.take_left' (by simp), ofB_zero]
    simp
  · have hp : padN (putAll 0 0 us) < 8 := by unfold padN; omega
    simp; omega
/-- Read, then packed. -/
theorem pk_rd {n : Nat} {y : List UInt8} (h : (rdGo n 0 0 [] (unb y)).2.1 = 0) : (rdGo n 0 0 [] (unb y)).1.length = n ∧ B64 (rdGo n 0 0 [] (unb y)).1 ∧ (rdGo n 0 0 [] (unb y)).2.2.length / 8 ≤ y.length ∧
    Pk (putAll 0 0 (rdGo n 0 0 [] (unb y)).1) (y.take (y.length - (rdGo n 0 0 [] (unb y)).2.2.length / 8)) := by
  obtain ⟨us, q1, q2, q3, q4, q5⟩ := rdGo_back n 0 0 [] (unb y) (unb_isB y) (by omega) h
  rw [List.nil_append] at q1
  rw [q1]
  generalize (rdGo n 0 0 [] (unb y)).2.2 = r at *
  have hlen := congrArg List.length q4
  rw [unb_len, List.length_append] at hlen
  refine ⟨q2, q3, by omega, ?_⟩
  unfold Pk
  rw [unb_take _ _ (by omega)]
  have hpad : padN (putAll 0 0 us) = r.length % 8 := by unfold padN; omega
  have hz := zeros_of q5
  rw [List.length_take, Nat.min_eq_left (by omega)] at hz
  rw [hpad, ← hz, q4]
  have e : putAll 0 0 us ++ r = (putAll 0 0 us ++ r.take (r.length % 8)) ++ r.drop (r.length % 8) := by rw [List.append_assoc, List.take_append_drop]
  rw [e]
  exact List.take_left' (by rw [List.length_append, List.length_take]; omega)
end Go.Proofs.YtojohcckaklmpaaDoor.Sr
