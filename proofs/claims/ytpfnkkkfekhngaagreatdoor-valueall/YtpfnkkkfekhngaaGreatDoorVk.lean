/-
  Keys of values: they stand as the values do, and none is the front of another one. No program is named here.
-/
import Derived.Test.YtpfnkkkfekhngaaGreatDoorVa
namespace Go.Proofs.YtpfnkkkfekhngaaGreatDoor.Va
open Go.RowKit Go.Proofs.YtpfnkkkfekhngaaGreatDoor.Rl

/-- A number as k bytes, the highest first. -/
def bigN : Nat → Nat → List UInt8
  | 0, _ => []
  | k + 1, n => UInt8.ofNat (n / 256 ^ k) :: bigN k (n % 256 ^ k)
theorem bigN_len : ∀ k n, (bigN k n).length = k
  | 0, _ => rfl
  | k + 1, n => by rw [bigN, List.length_cons, bigN_len]
def esc : List UInt8 → List UInt8
  | [] => []
  | c :: r => if c = 0 then 0 :: 255 :: esc r else c :: esc r
mutual
def keyV : Val → List UInt8
  | .mk k n r t l => UInt8.ofNat k.toNat :: (if k = 2 then [UInt8.ofNat n.toNat] else if k = 3 then bigN 8 (n + 9223372036854775808).toNat else if k = 4 then bigN 8 (keyB r) else if k = 5 then esc t ++ [0, 1] else if k = 6 then keyL l ++ [0] else [])
def keyL : List Val → List UInt8
  | [] => []
  | x :: r => keyV x ++ keyL r
end
mutual
/-- Its numbers are of their kinds. -/
def wtV : Val → Prop
  | .mk k n r _ l => (-9223372036854775808 ≤ k ∧ k ≤ 9223372036854775807) ∧ (-9223372036854775808 ≤ n ∧ n ≤ 9223372036854775807) ∧ r < 18446744073709551616 ∧ wtL l
def wtL : List Val → Prop
  | [] => True
  | x :: r => wtV x ∧ wtL r
end
/-- Two lists part at a place, the first one's byte being less. -/
def Lt (a b : List UInt8) : Prop := ∃ p x y s u, a = p ++ x :: s ∧ b = p ++ y :: u ∧ x.toNat < y.toNat
theorem Lt.more {a b : List UInt8} (h : Lt a b) (s u : List UInt8) : Lt (a ++ s) (b ++ u) := by
  obtain ⟨p, x, y, s', u', rfl, rfl, hxy⟩ := h
  exact ⟨p, x, y, s' ++ s, u' ++ u, by simp, by simp, hxy⟩
theorem Lt.front {a b : List UInt8} (h : Lt a b) (q : List UInt8) : Lt (q ++ a) (q ++ b) := by
  obtain ⟨p, x, y, s', u', rfl, rfl, hxy⟩ := h
  exact ⟨q ++ p, x, y, s', u', by simp, by simp, hxy⟩
theorem Lt.head {x y : UInt8} (h : x.toNat < y.toNat) (s u : List UInt8) : Lt (x :: s) (y :: u) := ⟨[], x, y, s, u, rfl, rfl, h⟩
theorem Lt.tail {x : UInt8} {a b : List UInt8} (h : Lt a b) : Lt (x :: a) (x :: b) := h.front [x]
/-- Where they part. -/
theorem Lt.place {a b : List UInt8} (h : Lt a b) : ∃ m, ∃ h1 : m < a.length, ∃ h2 : m < b.length, a.take m = b.take m ∧ a[m].toNat < b[m].toNat := by
  obtain ⟨p, x, y, s, u, rfl, rfl, hxy⟩ := h
  refine ⟨p.length, by simp, by simp, by simp, ?_⟩
  simpa using hxy
theorem ofNat_lt {a b : Nat} (ha : a < 256) (hb : b < 256) (h : a < b) : (UInt8.ofNat a).toNat < (UInt8.ofNat b).toNat := by
  simp only [UInt8.toNat_ofNat', Nat.reducePow]
  omega
theorem bigN_lt : ∀ k n m, n < m → m < 256 ^ k → Lt (bigN k n) (bigN k m)
  | 0, n, m, h, hm => by simp at hm; omega
  | k + 1, n, m, h, hm => by
    rw [bigN, bigN]
    have hp : 0 < 256 ^ k := Nat.pow_pos (by omega)
    have h1 : m / 256 ^ k < 256 := by apply Nat.div_lt_of_lt_mul; rw [← Nat.pow_succ]; exact hm
    have h2 : n / 256 ^ k ≤ m / 256 ^ k := Nat.div_le_div_right (by omega)
    rcases Nat.lt_or_eq_of_le h2 with h3 | h3
    · exact Lt.head (ofNat_lt (by omega) h1 h3) _ _
    · rw [h3]
      refine Lt.tail (bigN_lt k _ _ ?_ (Nat.mod_lt _ hp))
      have e1 := Nat.div_add_mod n (256 ^ k)
      have e2 := Nat.div_add_mod m (256 ^ k)
      rw [h3] at e1
      omega
theorem big8_lt {n m : Nat} (h : n < m) (hm : m < 18446744073709551616) : Lt (bigN 8 n) (bigN 8 m) := bigN_lt 8 n m h (by omega)
/-- What two forms owe to a comparison. -/
structure Goes (c : Int) (a b : List UInt8) : Prop where
  eq : c = 0 → a = b
  lt : c = -1 → Lt a b
  gt : c = 1 → Lt b a
theorem Goes.front {c : Int} {a b : List UInt8} (h : Goes c a b) (x : UInt8) : Goes c (x :: a) (x :: b) := ⟨fun e => by rw [h.eq e], fun e => (h.lt e).tail, fun e => (h.gt e).tail⟩
theorem cmpZ_cases (a b : Int) : (a < b ∧ cmpZ a b = -1) ∨ (a = b ∧ cmpZ a b = 0) ∨ (b < a ∧ cmpZ a b = 1) := by
  unfold cmpZ; (repeat' split) <;> omega
theorem goes_num {a b : Int} {f : Int → List UInt8} (hlt : a < b → Lt (f a) (f b)) (hgt : b < a → Lt (f b) (f a)) : Goes (cmpZ a b) (f a) (f b) := by
  rcases cmpZ_cases a b with ⟨h, e⟩ | ⟨h, e⟩ | ⟨h, e⟩
  · exact ⟨fun h' => by omega, fun _ => hlt h, fun h' => by omega⟩
  · exact ⟨fun _ => by rw [h], fun h' => by omega, fun h' => by omega⟩
  · exact ⟨fun h' => by omega, fun h' => by omega, fun _ => hgt h⟩
theorem u8_pos {c : UInt8} (h : c ≠ 0) : 0 < c.toNat := by
  rcases Nat.eq_zero_or_pos c.toNat with h0 | h0
  · exact absurd (UInt8.toNat_inj.1 (by simpa using h0)) h
  · exact h0
theorem end_lt (c : UInt8) (r s : List UInt8) : Lt ([0, 1] ++ s) (esc (c :: r) ++ [0, 1]) := by
  rw [esc]
  by_cases h : c = 0
  · rw [if_pos h]; exact Lt.tail (Lt.head (by decide) _ _)
  · rw [if_neg h]; exact Lt.head (by simpa using u8_pos h) _ _
theorem goes_text : ∀ t u, Goes (cmpT t u) (esc t ++ [0, 1]) (esc u ++ [0, 1])
  | [], [] => by simp only [cmpT]; exact ⟨fun _ => rfl, fun h => by omega, fun h => by omega⟩
  | [], c :: r => by
    simp only [cmpT]
    exact ⟨fun h => by omega, fun _ => by simpa [esc] using end_lt c r [], fun h => by omega⟩
  | c :: r, [] => by
    simp only [cmpT]
    exact ⟨fun h => by omega, fun h => by omega, fun _ => by simpa [esc] using end_lt c r []⟩
  | c :: r, d :: s => by
    have h := goes_text r s
    simp only [cmpT]
    by_cases e : c = d
    · subst e
      rw [if_pos rfl, esc, esc]
      by_cases h0 : c = 0
      · rw [if_pos h0, if_pos h0]; exact (h.front 255).front 0
      · rw [if_neg h0, if_neg h0]; exact h.front c
    · rw [if_neg e]
      have key : ∀ (a b : UInt8) (x y : List UInt8), a.toNat < b.toNat → Lt (esc (a :: x) ++ [0, 1]) (esc (b :: y) ++ [0, 1]) := by
        intro a b x y hab
        have hb0 : b ≠ 0 := fun hb => by subst hb; simp at hab
        rw [esc, esc, if_neg hb0]
        by_cases ha : a = 0
        · rw [if_pos ha]; exact Lt.head (by subst ha; simpa using hab) _ _
        · rw [if_neg ha]; exact Lt.head hab _ _
      rcases cmpZ_cases (c.toNat : Int) d.toNat with ⟨g, e2⟩ | ⟨g, e2⟩ | ⟨g, e2⟩
      · exact ⟨fun h' => by omega, fun _ => key c d r s (by omega), fun h' => by omega⟩
      · exact absurd (UInt8.toNat_inj.1 (by omega)) e
      · exact ⟨fun h' => by omega, fun h' => by omega, fun _ => key d c s r (by omega)⟩
theorem plain_of {k n : Int} {r : Nat} {t : List UInt8} {e : Bool} (h : plain k n r t e = true) :
    1 ≤ k ∧ k ≤ 6 ∧ (k ≠ 2 → k ≠ 3 → n = 0) ∧ (k ≠ 4 → r = 0) ∧ (k ≠ 5 → t = []) ∧ (k ≠ 6 → e = true) ∧ (k = 2 → 0 ≤ n ∧ n ≤ 1) := by
  unfold plain at h
  simp only [Bool.and_eq_true, Bool.or_eq_true, decide_eq_true_eq, Bool.not_eq_true', decide_eq_false_iff_not, List.isEmpty_iff] at h
  obtain ⟨⟨⟨⟨⟨⟨h1, h2⟩, h3⟩, h4⟩, h5⟩, h6⟩, h7⟩ := h
  refine ⟨h1, h2, fun a b => ?_, fun a => ?_, fun a => ?_, fun a => ?_, fun a => ?_⟩
  · rcases h3 with (h | h) | h
    · exact absurd h a
    · exact absurd h b
    · exact h
  · rcases h4 with h | h
    · exact absurd h a
    · exact h
  · rcases h5 with h | h
    · exact absurd h a
    · exact h
  · rcases h6 with h | h
    · exact absurd h a
    · exact h
  · rcases h7 with h | h
    · exact absurd a h
    · exact h
theorem okV_parts {d : Nat} {k n : Int} {r : Nat} {t : List UInt8} {l : List Val} (h : okV d (.mk k n r t l) = true) : plain k n r t l.isEmpty = true ∧ (k = 6 → d < 8) ∧ okL (d + 1) l = true := by
  rw [okV] at h
  simp only [Bool.and_eq_true, Bool.or_eq_true, Bool.not_eq_true', decide_eq_false_iff_not, decide_eq_true_eq] at h
  exact ⟨h.1.1, fun e => by rcases h.1.2 with g | g; exact absurd e g; exact g, h.2⟩
theorem key_head {d : Nat} {x : Val} (h : okV d x = true) : ∃ c s, keyV x = c :: s ∧ 1 ≤ c.toNat ∧ c.toNat ≤ 6 := by
  obtain ⟨k, n, r, t, l⟩ := x
  obtain ⟨h1, h2, _⟩ := plain_of (okV_parts h).1
  refine ⟨_, _, by rw [keyV], ?_, ?_⟩
  · simp only [UInt8.toNat_ofNat', Nat.reducePow]; omega
  · simp only [UInt8.toNat_ofNat', Nat.reducePow]; omega
mutual
/-- Keys go as the values do. -/
theorem goes_val : ∀ (x y : Val) (d e : Nat), wtV x → wtV y → okV d x = true → okV e y = true → Goes (cmpV x y) (keyV x) (keyV y)
  | .mk k n r t l, .mk k' n' r' t' l', d, e, hx, hy, ox, oy => by
    obtain ⟨p1, q1, r1⟩ := okV_parts ox
    obtain ⟨p2, q2, r2⟩ := okV_parts oy
    obtain ⟨a1, a2, a3, a4, a5, a6, a7⟩ := plain_of p1
    obtain ⟨b1, b2, b3, b4, b5, b6, b7⟩ := plain_of p2
    rw [wtV] at hx hy
    rw [keyV, keyV, cmpV]
    by_cases ek : k = k'
    · subst ek
      rw [if_neg (by simp)]
      apply Goes.front
      by_cases c2 : k = 2
      · rw [if_pos (Or.inl c2), if_pos c2, if_pos c2]
        have := a7 c2
        have := b7 c2
        refine goes_num (f := fun n => [UInt8.ofNat n.toNat]) (fun h => ?_) (fun h => ?_)
        · exact Lt.head (ofNat_lt (by omega) (by omega) (by omega)) _ _
        · exact Lt.head (ofNat_lt (by omega) (by omega) (by omega)) _ _
      · by_cases c3 : k = 3
        · rw [if_pos (Or.inr c3), if_neg c2, if_neg c2, if_pos c3, if_pos c3]
          refine goes_num (f := fun n => bigN 8 (n + 9223372036854775808).toNat) (fun h => ?_) (fun h => ?_)
          · exact big8_lt (by omega) (by omega)
          · exact big8_lt (by omega) (by omega)
        · rw [if_neg (by omega), if_neg c2, if_neg c2, if_neg c3, if_neg c3]
          by_cases c4 : k = 4
          · rw [if_pos c4, if_pos c4, if_pos c4]
            have := keyB_lt hx.2.2.1
            have := keyB_lt hy.2.2.1
            exact goes_num (a := (keyB r : Int)) (b := (keyB r' : Int)) (f := fun n => bigN 8 n.toNat) (fun h => big8_lt (by omega) (by omega)) (fun h => big8_lt (by omega) (by omega))
          · rw [if_neg c4, if_neg c4, if_neg c4]
            by_cases c5 : k = 5
            · rw [if_pos c5, if_pos c5, if_pos c5]; exact goes_text t t'
            · rw [if_neg c5, if_neg c5, if_neg c5]
              by_cases c6 : k = 6
              · rw [if_pos c6, if_pos c6]; exact goes_list l l' (d + 1) (e + 1) hx.2.2.2 hy.2.2.2 r1 r2
              · rw [if_neg c6, if_neg c6]
                have e1 : l = [] := by simpa using a6 c6
                have e2 : l' = [] := by simpa using b6 c6
                subst e1 e2
                rw [cmpL]
                exact ⟨fun _ => rfl, fun h => by omega, fun h => by omega⟩
    · rw [if_pos ek]
      rcases cmpZ_cases k k' with ⟨h, e0⟩ | ⟨h, e0⟩ | ⟨h, e0⟩
      · exact ⟨fun h' => by omega, fun _ => Lt.head (ofNat_lt (by omega) (by omega) (by omega)) _ _, fun h' => by omega⟩
      · exact absurd h ek
      · exact ⟨fun h' => by omega, fun h' => by omega, fun _ => Lt.head (ofNat_lt (by omega) (by omega) (by omega)) _ _⟩
theorem goes_list : ∀ (x y : List Val) (d e : Nat), wtL x → wtL y → okL d x = true → okL e y = true → Goes (cmpL x y) (keyL x ++ [0]) (keyL y ++ [0])
  | [], [], _, _, _, _, _, _ => by rw [cmpL]; exact ⟨fun _ => rfl, fun h => by omega, fun h => by omega⟩
  | [], y :: s, d, e, _, _, _, oy => by
    rw [cmpL, keyL, keyL]
    rw [okL, Bool.and_eq_true] at oy
    obtain ⟨c, s', e1, h1, _⟩ := key_head oy.1
    refine ⟨fun h => by omega, fun _ => ?_, fun h => by omega⟩
    rw [e1]; exact Lt.head (by simp; omega) _ _
  | x :: r, [], d, e, _, _, ox, _ => by
    rw [cmpL, keyL, keyL]
    rw [okL, Bool.and_eq_true] at ox
    obtain ⟨c, s', e1, h1, _⟩ := key_head ox.1
    refine ⟨fun h => by omega, fun h => by omega, fun _ => ?_⟩
    rw [e1]; exact Lt.head (by simp; omega) _ _
  | x :: r, y :: s, d, e, hx, hy, ox, oy => by
    rw [wtL] at hx hy
    rw [okL, Bool.and_eq_true] at ox oy
    have h1 := goes_val x y d e hx.1 hy.1 ox.1 oy.1
    have h2 := goes_list r s d e hx.2 hy.2 ox.2 oy.2
    rw [cmpL, keyL, keyL, List.append_assoc, List.append_assoc]
    by_cases c : cmpV x y = 0
    · rw [if_pos c, h1.eq c]
      exact ⟨fun h => by rw [h2.eq h], fun h => (h2.lt h).front _, fun h => (h2.gt h).front _⟩
    · rw [if_neg c]
      exact ⟨fun h => absurd h c, fun h => (h1.lt h).more _ _, fun h => (h1.gt h).more _ _⟩
end
#print axioms goes_val
end Go.Proofs.YtpfnkkkfekhngaaGreatDoor.Va
