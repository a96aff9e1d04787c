/-
  Lists of bits: a number's lowest bits, the number of bits, bytes as bits; the form of a list of numbers as bits, and its reading, as plain functions; that each undoes the other. No program is named here.
-/
import Derived.Test.YtojohcckaklmpaaDoorBase
import Derived.Lib.BitFns
import Derived.Lib.TrailingZeros
namespace Go.Proofs.YtojohcckaklmpaaDoor.Sr

/-- The lowest n bits of x, the highest first. -/
def bitsOf (x : Nat) : Nat → List Nat
  | 0 => []
  | n + 1 => (x / 2 ^ n % 2) :: bitsOf x n
@[simp] theorem bitsOf_len (x n : Nat) : (bitsOf x n).length = n := by
  induction n with
  | zero => rfl
  | succ n ih => simp [bitsOf, ih]
/-- The number whose bits are a's and then these. -/
def ofB (a : Nat) : List Nat → Nat
  | [] => a
  | b :: l => ofB (2 * a + b) l
theorem ofB_append (a : Nat) (l m : List Nat) : ofB a (l ++ m) = ofB (ofB a l) m := by
  induction l generalizing a with
  | nil => rfl
  | cons b l ih => exact ih _
theorem mod_succ (x n : Nat) : x % 2 ^ (n + 1) = x / 2 ^ n % 2 * 2 ^ n + x % 2 ^ n := by
  rw [Nat.pow_succ, Nat.mod_mul, Nat.mul_comm (x / 2 ^ n % 2), Nat.add_comm]
theorem ofB_bitsOf (x n a : Nat) : ofB a (bitsOf x n) = a * 2 ^ n + x % 2 ^ n := by
  induction n generalizing a with
  | zero => simp [bitsOf, ofB, Nat.mod_one]
  | succ n ih =>
    rw [bitsOf, ofB, ih, mod_succ, Nat.pow_succ, Nat.add_mul]
    have : 2 * a * 2 ^ n = a * (2 ^ n * 2) := by rw [Nat.mul_comm (2 ^ n), ← Nat.mul_assoc, Nat.mul_comm a 2]
    omega
theorem ofB_small (x n : Nat) (h : x < 2 ^ n) : ofB 0 (bitsOf x n) = x := by
  rw [ofB_bitsOf, Nat.zero_mul, Nat.zero_add, Nat.mod_eq_of_lt h]

def IsB (l : List Nat) : Prop := ∀ b ∈ l, b < 2
theorem IsB.nil : IsB [] := fun b h => by simp at h
theorem IsB.cons {b : Nat} {l : List Nat} (hb : b < 2) (h : IsB l) : IsB (b :: l) := fun c hc => by
  rcases List.mem_cons.1 hc with rfl | hc
  · exact hb
  · exact h c hc
theorem IsB.append {l m : List Nat} (h : IsB l) (g : IsB m) : IsB (l ++ m) := fun c hc => by
  rcases List.mem_append.1 hc with hc | hc
  · exact h c hc
  · exact g c hc
theorem IsB.take {l : List Nat} (h : IsB l) (n : Nat) : IsB (l.take n) := fun c hc => h c (List.mem_of_mem_take hc)
theorem IsB.drop {l : List Nat} (h : IsB l) (n : Nat) : IsB (l.drop n) := fun c hc => h c (List.mem_of_mem_drop hc)
theorem bitsOf_isB (x n : Nat) : IsB (bitsOf x n) := by
  induction n with
  | zero => exact IsB.nil
  | succ n ih => exact IsB.cons (by omega) ih
theorem ofB_lt (a : Nat) (l : List Nat) (h : IsB l) : ofB a l < (a + 1) * 2 ^ l.length := by
  induction l generalizing a with
  | nil => simp [ofB]
  | cons b l ih =>
    have h1 := ih (2 * a + b) (fun c hc => h c (List.mem_cons_of_mem _ hc))
    have hb := h b (List.mem_cons_self ..)
    rw [ofB, List.length_cons, Nat.pow_succ]
    refine Nat.lt_of_lt_of_le h1 ?_
    have : (2 * a + b + 1) * 2 ^ l.length ≤ (2 * (a + 1)) * 2 ^ l.length := Nat.mul_le_mul_right _ (by omega)
    refine Nat.le_trans this (Nat.le_of_eq ?_)
    rw [Nat.mul_comm 2, Nat.mul_assoc, Nat.mul_comm 2]
theorem ofB_lt0 {l : List Nat} (h : IsB l) {n : Nat} (hn : l.length = n) : ofB 0 l < 2 ^ n := by
  have := ofB_lt 0 l h; rw [hn] at this; simpa using this
theorem ofB_le (a : Nat) (l : List Nat) : a * 2 ^ l.length ≤ ofB a l := by
  induction l generalizing a with
  | nil => simp [ofB]
  | cons b l ih =>
    rw [ofB, List.length_cons, Nat.pow_succ]
    refine Nat.le_trans ?_ (ih _)
    have : a * (2 ^ l.length * 2) = 2 * a * 2 ^ l.length := by rw [Nat.mul_comm (2 ^ l.length), ← Nat.mul_assoc, Nat.mul_comm a 2]
    rw [this]
    exact Nat.mul_le_mul_right _ (by omega)
theorem ofB_split (a : Nat) (l : List Nat) (h : IsB l) : ofB a l = a * 2 ^ l.length + ofB 0 l := by
  induction l generalizing a with
  | nil => simp [ofB]
  | cons b l ih =>
    have hl : IsB l := fun c hc => h c (List.mem_cons_of_mem _ hc)
    rw [ofB, ofB, ih _ hl, ih (2 * 0 + b) hl, List.length_cons, Nat.pow_succ, Nat.mul_zero, Nat.zero_add, Nat.add_mul]
    have : 2 * a * 2 ^ l.length = a * (2 ^ l.length * 2) := by rw [Nat.mul_comm (2 ^ l.length), ← Nat.mul_assoc, Nat.mul_comm a 2]
    omega
theorem bitsOf_mod (x n k : Nat) (h : n ≤ k) : bitsOf (x % 2 ^ k) n = bitsOf x n := by
  induction n with
  | zero => rfl
  | succ n ih =>
    rw [bitsOf, bitsOf, ih (by omega)]
    congr 1
    obtain ⟨d, rfl⟩ : ∃ d, k = n + (d + 1) := ⟨k - n - 1, by omega⟩
    rw [Nat.pow_add, Nat.mod_mul_right_div_self, Nat.pow_succ, Nat.mod_mul_left_mod]
theorem bitsOf_ofB (l : List Nat) (h : IsB l) (a : Nat) : bitsOf (ofB a l) l.length = l := by
  induction l generalizing a with
  | nil => rfl
  | cons b l ih =>
    have hl : IsB l := fun c hc => h c (List.mem_cons_of_mem _ hc)
    have hb := h b (List.mem_cons_self ..)
    rw [List.length_cons, bitsOf, ofB, ih hl]
    congr 1
    have h1 := ofB_lt0 hl rfl
    rw [ofB_split _ _ hl, Nat.mul_comm, Nat.mul_add_div (Nat.two_pow_pos _), Nat.div_eq_of_lt h1]
    omega
theorem bitsOf_eq {l : List Nat} (h : IsB l) {n : Nat} (hn : l.length = n) : bitsOf (ofB 0 l) n = l := by
  subst hn; exact bitsOf_ofB l h 0
theorem ofB_zero (n : Nat) : ofB 0 (List.replicate n 0) = 0 := by
  induction n with
  | zero => rfl
  | succ n ih => exact ih
theorem zeros_of {l : List Nat} (h : ofB 0 l = 0) : l = List.replicate l.length 0 := by
  induction l with
  | nil => rfl
  | cons b l ih =>
    have hb : b = 0 := by
      have := ofB_le (2 * 0 + b) l
      rw [ofB] at h
      rw [h] at this
      have hp := Nat.two_pow_pos l.length
      rcases Nat.eq_zero_or_pos b with h0 | h0
      · exact h0
      · have : 1 * 1 ≤ (2 * 0 + b) * 2 ^ l.length := Nat.mul_le_mul (by omega) hp
        omega
    subst hb
    rw [List.length_cons, List.replicate_succ]
    congr 1
    exact ih h

/-- Bytes as bits, each from its top bit on. -/
def unb : List UInt8 → List Nat
  | [] => []
  | c :: m => bitsOf c.toNat 8 ++ unb m
@[simp] theorem unb_len (m : List UInt8) : (unb m).length = 8 * m.length := by
  induction m with
  | nil => rfl
  | cons c m ih => simp [unb, ih]; omega
theorem unb_append (m n : List UInt8) : unb (m ++ n) = unb m ++ unb n := by
  induction m with
  | nil => rfl
  | cons c m ih => simp [unb, ih]
theorem unb_isB (m : List UInt8) : IsB (unb m) := by
  induction m with
  | nil => exact IsB.nil
  | cons c m ih => exact IsB.append (bitsOf_isB _ _) ih
theorem unb_inj : ∀ {m n : List UInt8}, unb m = unb n → m = n
  | [], [], _ => rfl
  | [], c :: n, h => by have := congrArg List.length h; simp at this
  | c :: m, [], h => by have := congrArg List.length h; simp at this
  | c :: m, d :: n, h => by
    obtain ⟨h1, h2⟩ := List.append_inj h (by simp)
    have h3 := congrArg (ofB 0) h1
    rw [ofB_small _ _ (by have := c.toNat_lt; omega), ofB_small _ _ (by have := d.toNat_lt; omega)] at h3
    rw [UInt8.toNat_inj.1 h3, unb_inj h2]
theorem unb_drop (m : List UInt8) (k : Nat) : unb (m.drop k) = (unb m).drop (8 * k) := by
  by_cases hk : k ≤ m.length
  · have h : unb m = unb (m.take k) ++ unb (m.drop k) := by rw [← unb_append, List.take_append_drop]
    have hl : (unb (m.take k)).length = 8 * k := by rw [unb_len, List.length_take, Nat.min_eq_left hk]
    rw [h]; exact (List.drop_left' hl).symm
  · rw [List.drop_eq_nil_of_le (by omega), List.drop_eq_nil_of_le (by simp; omega)]; rfl
theorem unb_take (m : List UInt8) (k : Nat) (hk : k ≤ m.length) : unb (m.take k) = (unb m).take (8 * k) := by
  have h : unb m = unb (m.take k) ++ unb (m.drop k) := by rw [← unb_append, List.take_append_drop]
  have hl : (unb (m.take k)).length = 8 * k := by rw [unb_len, List.length_take, Nat.min_eq_left hk]
  rw [h]; exact (List.take_left' hl).symm

/-- How many bits are left of the last byte. -/
def padN (l : List Nat) : Nat := (8 - l.length % 8) % 8
/-- The bytes m hold the bits l, the last byte's rest 0. -/
def Pk (l : List Nat) (m : List UInt8) : Prop := unb m = l ++ List.replicate (padN l) 0
theorem Pk.inj {l : List Nat} {m n : List UInt8} (h : Pk l m) (g : Pk l n) : m = n := unb_inj (h.trans g.symm)
theorem Pk.len {l : List Nat} {m : List UInt8} (h : Pk l m) : m.length = (l.length + 7) / 8 := by
  have := congrArg List.length h
  simp [padN] at this
  omega

/-- A sink that has taken the bits l: full bytes d, the byte under way u, of which f bits are filled. -/
def Snk (l : List Nat) (d : List UInt8) (u f : Nat) : Prop := f < 8 ∧ u < 256 ∧ u % 2 ^ (8 - f) = 0 ∧ l = unb d ++ bitsOf (u / 2 ^ (8 - f)) f
theorem Snk.nil : Snk [] [] 0 0 := ⟨by omega, by omega, rfl, rfl⟩
theorem bitsOf_two (q b n : Nat) (hb : b < 2) : bitsOf (2 * q + b) (n + 1) = bitsOf q n ++ [b] := by
  induction n with
  | zero => simp [bitsOf]; omega
  | succ n ih =>
    rw [bitsOf, ih, bitsOf, List.cons_append]
    congr 2
    rw [Nat.pow_succ, Nat.mul_comm (2 ^ n), ← Nat.div_div_eq_div_mul, show (2 * q + b) / 2 = q by omega]
/-- One bit more. -/
theorem Snk.more {l : List Nat} {d : List UInt8} {u f b : Nat} (h : Snk l d u f) (hb : b < 2) (hf : f + 1 < 8) : Snk (l ++ [b]) d (u + b * 2 ^ (7 - f)) (f + 1) := by
  obtain ⟨h1, h2, h3, rfl⟩ := h
  have e : 8 - f = (7 - f) + 1 := by omega
  have e2 : 8 - (f + 1) = 7 - f := by omega
  rw [e, Nat.pow_succ] at h3
  rw [e, Nat.pow_succ]
  unfold Snk
  rw [e2]
  have hp := Nat.two_pow_pos (7 - f)
  generalize hP : 2 ^ (7 - f) = P at *
  have hu : u = P * 2 * (u / (P * 2)) := by have := Nat.div_add_mod u (P * 2); omega
  generalize u / (P * 2) = q at *
  have hlt : u + b * P < 256 := by
    have hq : P * 2 * q < 256 := by omega
    have hbp : b * P ≤ 1 * P := Nat.mul_le_mul_right _ (by omega)
    have h256 : 256 = P * 2 ^ (f + 1) := by rw [← hP, ← Nat.pow_add, show 7 - f + (f + 1) = 8 by omega]
    have : 2 * q < 2 ^ (f + 1) := by
      rw [h256, Nat.mul_assoc] at hq
      exact Nat.lt_of_mul_lt_mul_left hq
    rw [Nat.pow_succ] at this
    have h5 : P * (2 * q + 1) < P * 2 ^ (f + 1) := Nat.mul_lt_mul_of_pos_left (by rw [Nat.pow_succ]; omega) hp
    rw [Nat.mul_add, ← Nat.mul_assoc] at h5
    omega
  have hs : u + b * P = P * (2 * q + b) := by rw [Nat.mul_add, ← Nat.mul_assoc, ← hu, Nat.mul_comm b]
  refine ⟨by omega, hlt, by rw [hs, Nat.mul_mod_right], ?_⟩
  rw [hs, Nat.mul_div_cancel_left _ hp, bitsOf_two q b f hb, List.append_assoc]
/-- The eighth bit. -/
theorem Snk.full {l : List Nat} {d : List UInt8} {u b : Nat} (h : Snk l d u 7) (hb : b < 2) : Snk (l ++ [b]) (d ++ [UInt8.ofNat (u + b)]) 0 0 ∧ u + b < 256 := by
  obtain ⟨h1, h2, h3, rfl⟩ := h
  have hlt : u + b < 256 := by simp at h3; omega
  refine ⟨⟨by omega, by omega, rfl, ?_⟩, hlt⟩
  rw [unb_append]
  simp only [unb, bitsOf, List.append_nil]
  rw [UInt8.toNat_ofNat_of_lt' (by simpa using hlt), List.append_assoc]
  congr 1
  simp only [List.cons_append, List.nil_append]
  simp at h3
  have e0 : (u + b) / 2 ^ 0 % 2 = b := by simp; omega
  have e1 : (u + b) / 2 = u / 2 := by omega
  have k : ∀ j, (u + b) / 2 ^ (j + 1) = u / 2 / 2 ^ j := by intro j; rw [Nat.pow_succ, Nat.mul_comm, ← Nat.div_div_eq_div_mul, e1]
  rw [e0, k 6, k 5, k 4, k 3, k 2, k 1, k 0]
/-- At the end. -/
theorem Snk.done0 {l : List Nat} {d : List UInt8} {u : Nat} (h : Snk l d u 0) : Pk l d := by
  obtain ⟨h1, h2, h3, rfl⟩ := h
  unfold Pk padN
  simp [bitsOf]
theorem bitsOf_shift (q f k : Nat) : bitsOf (q * 2 ^ k) (f + k) = bitsOf q f ++ List.replicate k 0 := by
  induction f with
  | zero =>
    rw [Nat.zero_add]
    have : ∀ j, j ≤ k → bitsOf (q * 2 ^ k) j = List.replicate j 0 := by
      intro j
      induction j with
      | zero => intro _; rfl
      | succ j ih =>
        intro hj
        rw [bitsOf, ih (by omega), List.replicate_succ]
        congr 1
        obtain ⟨e, rfl⟩ : ∃ e, k = j + (e + 1) := ⟨k - j - 1, by omega⟩
        rw [Nat.pow_add, ← Nat.mul_assoc, Nat.mul_comm q, Nat.mul_assoc, Nat.mul_div_cancel_left _ (Nat.two_pow_pos _), Nat.pow_succ, ← Nat.mul_assoc, Nat.mul_mod_left]
    rw [this k (Nat.le_refl _)]; rfl
  | succ f ih =>
    rw [show f + 1 + k = (f + k) + 1 by omega, bitsOf, ih, bitsOf, List.cons_append]
    congr 1
    rw [Nat.pow_add, Nat.mul_comm (2 ^ f), ← Nat.div_div_eq_div_mul, Nat.mul_div_cancel _ (Nat.two_pow_pos _)]
theorem Snk.done {l : List Nat} {d : List UInt8} {u f : Nat} (h : Snk l d u f) (hf : 0 < f) : Pk l (d ++ [UInt8.ofNat u]) := by
  obtain ⟨h1, h2, h3, rfl⟩ := h
  unfold Pk padN
  rw [unb_append]
  simp only [unb, List.append_nil, List.length_append, unb_len, bitsOf_len]
  rw [UInt8.toNat_ofNat_of_lt' (by simpa using h2), List.append_assoc, show (8 - (8 * d.length + f) % 8) % 8 = 8 - f by omega]
  congr 1
  have := bitsOf_shift (u / 2 ^ (8 - f)) f (8 - f)
  rw [show f + (8 - f) = 8 by omega] at this
  rw [← this]
  congr 1
  have := Nat.div_add_mod u (2 ^ (8 - f))
  rw [h3, Nat.add_zero, Nat.mul_comm] at this
  exact this.symm

/-- The bits of a difference. -/
def diffB (x : Nat) : List Nat := if x = 0 then [0] else 1 :: (bitsOf (64 - Lib.bitLen x) 6 ++ (bitsOf (Lib.bitLen x - Lib.ctz 64 x - 1) 6 ++ bitsOf (x / 2 ^ Lib.ctz 64 x) (Lib.bitLen x - Lib.ctz 64 x)))
def putNext (i x : Nat) : List Nat := if i = 0 then bitsOf x 64 else diffB x
/-- The bits of numbers from the i-th on, the one ahead being was. -/
def putAll : Nat → Nat → List Nat → List Nat
  | _, _, [] => []
  | i, was, u :: us => putNext i (u ^^^ was) ++ putAll (i + 1) u us
theorem putAll_snoc (us : List Nat) (u : Nat) : ∀ i was, putAll i was (us ++ [u]) = putAll i was us ++ putNext (i + us.length) (u ^^^ us.getLastD was) := by
  induction us with
  | nil => intro i was; simp [putAll]
  | cons v us ih =>
    intro i was
    rw [List.cons_append, putAll, ih, putAll, List.append_assoc]
    congr 3
    · simp; omega
    · cases us <;> rfl

/-- A difference read of bits: the number, the error's number, what is left. -/
def rdDiff : List Nat → Nat × Int × List Nat
  | [] => (0, 2, [])
  | b :: l =>
    if b = 0 then (0, 0, l)
    else if l.length < 12 then (0, 2, [])
    else if (l.drop 12).length < ofB 0 ((l.drop 6).take 6) + 1 then (0, 2, [])
    else if 64 < ofB 0 (l.take 6) + (ofB 0 ((l.drop 6).take 6) + 1) ∨ ofB 0 ((l.drop 12).take (ofB 0 ((l.drop 6).take 6) + 1)) % 2 = 0 ∨ ofB 0 ((l.drop 12).take (ofB 0 ((l.drop 6).take 6) + 1)) / 2 ^ ofB 0 ((l.drop 6).take 6) = 0 then (0, 4, [])
    else (ofB 0 ((l.drop 12).take (ofB 0 ((l.drop 6).take 6) + 1)) * 2 ^ (64 - ofB 0 (l.take 6) - (ofB 0 ((l.drop 6).take 6) + 1)), 0, (l.drop 12).drop (ofB 0 ((l.drop 6).take 6) + 1))
def rdNext (i : Nat) (l : List Nat) : Nat × Int × List Nat :=
  if i = 0 then (if l.length < 64 then (0, 2, []) else (ofB 0 (l.take 64), 0, l.drop 64)) else rdDiff l
/-- k numbers more, the i-th one next. -/
def rdGo : Nat → Nat → Nat → List Nat → List Nat → List Nat × Int × List Nat
  | 0, _, _, acc, l => if ofB 0 (l.take (l.length % 8)) = 0 then (acc, 0, l) else ([], 4, [])
  | k + 1, i, was, acc, l =>
    if (rdNext i l).2.1 = 0 then rdGo k (i + 1) (was ^^^ (rdNext i l).1) (acc ++ [was ^^^ (rdNext i l).1]) (rdNext i l).2.2 else ([], (rdNext i l).2.1, [])

/-- n has k bits, from its highest one down. -/
def LenS (n k : Nat) : Prop := n < 2 ^ k ∧ (k = 0 ∨ 2 ^ (k - 1) ≤ n)
theorem LenS.uniq {n j k : Nat} (h : LenS n j) (g : LenS n k) : j = k := by
  have key : ∀ {a b : Nat}, LenS n a → LenS n b → a < b → False := by
    intro a b ha hb hlt
    rcases hb.2 with h0 | h0
    · omega
    · have : 2 ^ a ≤ 2 ^ (b - 1) := Nat.pow_le_pow_right (by decide) (by omega)
      have := ha.1
      omega
  rcases Nat.lt_trichotomy j k with h1 | h1 | h1
  · exact (key h g h1).elim
  · exact h1
  · exact (key g h h1).elim
theorem bitLenS : ∀ (f x : Nat), x < 2 ^ f → LenS x (Lib.bitLenAux f x)
  | 0, x, h => ⟨h, Or.inl rfl⟩
  | f + 1, x, h => by
    unfold Lib.bitLenAux
    by_cases h0 : x = 0
    · rw [if_pos h0, h0]; exact ⟨by decide, Or.inl rfl⟩
    · rw [if_neg h0]
      obtain ⟨h1, h2⟩ := bitLenS f (x / 2) (by rw [Nat.pow_succ] at h; omega)
      rw [Nat.add_comm 1]
      generalize Lib.bitLenAux f (x / 2) = k at *
      refine ⟨by rw [Nat.pow_succ]; omega, Or.inr ?_⟩
      rw [Nat.add_sub_cancel]
      rcases h2 with rfl | h2
      · simp; omega
      · rcases Nat.eq_zero_or_pos k with rfl | hk
        · simp; omega
        · obtain ⟨j, rfl⟩ : ∃ j, k = j + 1 := ⟨k - 1, by omega⟩
          rw [Nat.add_sub_cancel] at h2
          rw [Nat.pow_succ]; omega
theorem bitLen_S {x : Nat} (h : x < 18446744073709551616) : LenS x (Lib.bitLen x) := bitLenS 64 x (by simpa using h)
theorem LenS.le64 {x k : Nat} (h : LenS x k) (hx : x < 18446744073709551616) : k ≤ 64 := by
  rcases Nat.lt_or_ge 64 k with h1 | h1
  · have : 2 ^ 64 ≤ 2 ^ (k - 1) := Nat.pow_le_pow_right (by decide) (by omega)
    rcases h.2 with h2 | h2 <;> omega
  · exact h1
theorem LenS.pos {x k : Nat} (h : LenS x k) (hx : x ≠ 0) : 1 ≤ k := by
  rcases Nat.eq_zero_or_pos k with rfl | h1
  · have := h.1; simp at this; exact (hx this).elim
  · exact h1
/-- What is known of a number's ends. -/
theorem ends_of {x : Nat} (hx : x < 18446744073709551616) (h0 : x ≠ 0) : ∃ m, x = 2 ^ Lib.ctz 64 x * (2 * m + 1) ∧ Lib.ctz 64 x < Lib.bitLen x ∧ Lib.bitLen x ≤ 64 ∧ x / 2 ^ Lib.ctz 64 x = 2 * m + 1 ∧ LenS (2 * m + 1) (Lib.bitLen x - Lib.ctz 64 x) := by
  have hc : Lib.ctz 64 x = Lib.ctzFrom 64 x := by unfold Lib.ctz; rw [if_neg h0]
  obtain ⟨m, hm, hk⟩ := Lib.ctzFrom_spec 64 x (by omega) (by simpa using hx)
  rw [← hc] at hm hk
  have hL := bitLen_S hx
  have hle := hL.le64 hx
  have hpos := hL.pos h0
  generalize Lib.ctz 64 x = t at *
  generalize Lib.bitLen x = L at *
  have hp := Nat.two_pow_pos t
  have hd : x / 2 ^ t = 2 * m + 1 := by rw [hm, Nat.mul_div_cancel_left _ hp]
  have htL : t < L := by
    have h1 : 2 ^ t * 1 ≤ 2 ^ t * (2 * m + 1) := Nat.mul_le_mul_left _ (by omega)
    have h2 := hL.1
    apply Nat.lt_of_not_le
    intro hle
    have : 2 ^ L ≤ 2 ^ t := Nat.pow_le_pow_right (by decide) hle
    omega
  refine ⟨m, hm, htL, hle, hd, ?_, Or.inr ?_⟩
  · have h2 := hL.1
    rw [hm, show L = t + (L - t) by omega, Nat.pow_add] at h2
    exact Nat.lt_of_mul_lt_mul_left h2
  · rcases hL.2 with h3 | h3
    · omega
    · rw [hm, show L - 1 = t + (L - t - 1) by omega, Nat.pow_add] at h3
      exact Nat.le_of_mul_le_mul_left h3 hp
theorem LenS.shift {m k t : Nat} (h : LenS m k) (h0 : 1 ≤ k) : LenS (m * 2 ^ t) (k + t) := by
  refine ⟨by rw [Nat.pow_add]; exact Nat.mul_lt_mul_of_pos_right h.1 (Nat.two_pow_pos _), Or.inr ?_⟩
  rcases h.2 with h2 | h2
  · omega
  · rw [show k + t - 1 = (k - 1) + t by omega, Nat.pow_add]
    exact Nat.mul_le_mul_right _ h2
theorem odd_uniq {a b m n : Nat} (h : 2 ^ a * (2 * m + 1) = 2 ^ b * (2 * n + 1)) : a = b := by
  have key : ∀ {a b m n : Nat}, 2 ^ a * (2 * m + 1) = 2 ^ b * (2 * n + 1) → a < b → False := by
    intro a b m n h hlt
    obtain ⟨d, rfl⟩ : ∃ d, b = a + (d + 1) := ⟨b - a - 1, by omega⟩
    rw [Nat.pow_add, Nat.mul_assoc] at h
    have := Nat.eq_of_mul_eq_mul_left (Nat.two_pow_pos a) h
    rw [Nat.pow_succ, Nat.mul_comm (2 ^ d), Nat.mul_assoc] at this
    omega
  rcases Nat.lt_trichotomy a b with h1 | h1 | h1
  · exact (key h h1).elim
  · exact h1
  · exact (key h.symm h1).elim
end Go.Proofs.YtojohcckaklmpaaDoor.Sr
