/-
  CRC-32C as plain mathematics over registers of 32 bits: one step, its powers, that they go over an xor, what they do to a register's bits. No program is named here.
-/
import Derived.Test.YtdhjlongdfgejaaEnc
namespace Go.Proofs.Ytdhjlongdfgejaa.Crc

abbrev R := BitVec 32
def poly : R := 0x82f63b78#32
/-- One step: a bit 0 is fed. -/
def s1 (c : R) : R := if c.getLsbD 0 then (c >>> 1) ^^^ poly else c >>> 1
/-- n steps. -/
def st : Nat → R → R
  | 0, c => c
  | n + 1, c => st n (s1 c)

theorem s1_xor (a b : R) : s1 (a ^^^ b) = s1 a ^^^ s1 b := by
  unfold s1
  rw [BitVec.getLsbD_xor, BitVec.ushiftRight_xor_distrib]
  cases a.getLsbD 0 <;> cases b.getLsbD 0 <;> simp
  · rw [BitVec.xor_assoc]
  · rw [BitVec.xor_assoc, BitVec.xor_assoc, BitVec.xor_comm poly]
  · rw [BitVec.xor_assoc, ← BitVec.xor_assoc poly, BitVec.xor_comm poly, BitVec.xor_assoc, BitVec.xor_self, BitVec.xor_zero]
theorem s1_zero : s1 0#32 = 0#32 := by decide
theorem st_xor (n : Nat) : ∀ a b : R, st n (a ^^^ b) = st n a ^^^ st n b := by
  induction n with
  | zero => intro a b; rfl
  | succ n ih => intro a b; show st n (s1 (a ^^^ b)) = _; rw [s1_xor, ih]; rfl
theorem st_zero (n : Nat) : st n 0#32 = 0#32 := by
  induction n with
  | zero => rfl
  | succ n ih => show st n (s1 0#32) = _; rw [s1_zero, ih]
theorem st_add (m n : Nat) : ∀ c, st (m + n) c = st m (st n c) := by
  induction n with
  | zero => intro c; rfl
  | succ n ih => intro c; show st (m + n) (s1 c) = _; rw [ih]; rfl
theorem st_succ' (n : Nat) (c : R) : st (n + 1) c = s1 (st n c) := by rw [Nat.add_comm, st_add]; rfl
theorem st_comm (m n : Nat) (c : R) : st m (st n c) = st n (st m c) := by rw [← st_add, Nat.add_comm, st_add]

theorem s1_inj {c : R} (h : s1 c = 0#32) : c = 0#32 := by
  unfold s1 at h
  cases hb : c.getLsbD 0 with
  | true =>
    rw [hb, if_pos rfl] at h
    have := congrArg (fun x : R => x.getLsbD 31) h
    simp [poly] at this
  | false =>
    rw [hb] at h
    simp only [Bool.false_eq_true, if_false] at h
    apply BitVec.eq_of_getLsbD_eq
    intro i hi
    rw [BitVec.getLsbD_zero]
    cases i with
    | zero => exact hb
    | succ i =>
      have := congrArg (fun x : R => x.getLsbD i) h
      simp only [BitVec.getLsbD_ushiftRight, BitVec.getLsbD_zero] at this
      rw [Nat.add_comm]; exact this
theorem st_inj (n : Nat) : ∀ {c : R}, st n c = 0#32 → c = 0#32 := by
  induction n with
  | zero => intro c h; exact h
  | succ n ih => intro c h; exact s1_inj (ih h)

/-- Sums of what the bits of a register pick, the first n of them. -/
def pick (t : Nat → R) (c : R) : Nat → R
  | 0 => 0#32
  | n + 1 => pick t c n ^^^ (if c.getLsbD n then t n else 0#32)
theorem pick_bits (c : R) : ∀ n, n ≤ 32 → ∀ j, (pick (fun i => 1#32 <<< i) c n).getLsbD j = (decide (j < n) && c.getLsbD j) := by
  intro n
  induction n with
  | zero => intro _ j; simp [pick]
  | succ n ih =>
    intro hn j
    rw [pick, BitVec.getLsbD_xor, ih (by omega)]
    by_cases hj : j < n
    · have h1 : (if c.getLsbD n then (1#32 <<< n) else 0#32).getLsbD j = false := by
        split
        · rw [BitVec.getLsbD_shiftLeft]; simp [hj]
        · simp
      rw [h1]
      simp [hj, show j < n + 1 by omega]
    · by_cases hj2 : j = n
      · subst hj2
        cases hc : c.getLsbD j
        · simp
        · simp [show j < 32 by omega]
      · have h1 : (if c.getLsbD n then (1#32 <<< n) else 0#32).getLsbD j = false := by
          split
          · rw [BitVec.getLsbD_shiftLeft]
            have : (1#32).getLsbD (j - n) = false := by
              rw [BitVec.getLsbD_one]
              simp; omega
            rw [this]; simp
          · simp
        rw [h1]
        simp [hj, show ¬ j < n + 1 by omega]
theorem pick_all (c : R) : pick (fun i => 1#32 <<< i) c 32 = c := by
  apply BitVec.eq_of_getLsbD_eq
  intro i hi
  rw [pick_bits c 32 (by omega)]
  simp [hi]
theorem pick_st (m : Nat) (t : Nat → R) (c : R) : ∀ n, st m (pick t c n) = pick (fun i => st m (t i)) c n := by
  intro n
  induction n with
  | zero => exact st_zero m
  | succ n ih =>
    rw [pick, pick, st_xor, ih]
    congr 1
    split
    · rfl
    · exact st_zero m
theorem pick_congr (t u : Nat → R) (c : R) : ∀ n, (∀ i, i < n → t i = u i) → pick t c n = pick u c n := by
  intro n
  induction n with
  | zero => intro _; rfl
  | succ n ih => intro h; rw [pick, pick, ih (fun i hi => h i (by omega)), h n (by omega)]
/-- What n steps do to each bit says what they do. -/
theorem st_pick (m : Nat) (t : Nat → R) (c : R) (ht : ∀ i, i < 32 → t i = st m (1#32 <<< i)) : pick t c 32 = st m c := by
  rw [pick_congr t (fun i => st m (1#32 <<< i)) c 32 ht, ← pick_st m (fun i => 1#32 <<< i), pick_all]

/-- Products, as they are summed: k bits, from the highest on. -/
def mul (a b : R) : Nat → R
  | 0 => 0#32
  | k + 1 => mul a b k ^^^ (if a.getLsbD (31 - k) then st k b else 0#32)
def one : R := 0x80000000#32
theorem mul_st (m : Nat) (a b : R) : ∀ k, mul a (st m b) k = st m (mul a b k) := by
  intro k
  induction k with
  | zero => exact (st_zero m).symm
  | succ k ih =>
    rw [mul, mul, st_xor, ih]
    congr 1
    split
    · rw [st_comm]
    · exact (st_zero m).symm
theorem st_one : ∀ k : Fin 32, st k.val one = 1#32 <<< (31 - k.val) := by decide +kernel
theorem mul_one_bits (a : R) : ∀ k, k ≤ 32 → ∀ j, j < 32 → (mul a one k).getLsbD j = (decide (32 ≤ j + k) && a.getLsbD j) := by
  intro k
  induction k with
  | zero => intro _ j hj; simp [mul, show ¬ 32 ≤ j by omega]
  | succ k ih =>
    intro hk j hj
    rw [mul, BitVec.getLsbD_xor, ih (by omega) j hj, st_one ⟨k, by omega⟩]
    show (_ ^^ (if a.getLsbD (31 - k) = true then 1#32 <<< (31 - k) else 0#32).getLsbD j) = _
    by_cases h1 : 32 ≤ j + k
    · have h2 : (if a.getLsbD (31 - k) = true then 1#32 <<< (31 - k) else 0#32).getLsbD j = false := by
        split
        · rw [BitVec.getLsbD_shiftLeft]
          have : (1#32).getLsbD (j - (31 - k)) = false := by
            rw [BitVec.getLsbD_one]
            simp; omega
          rw [this]; simp
        · simp
      rw [h2]; simp [h1, show 32 ≤ j + (k + 1) by omega]
    · by_cases h3 : j = 31 - k
      · subst h3
        cases hc : a.getLsbD (31 - k)
        · simp
        · simp [BitVec.getLsbD_shiftLeft, show ¬ 32 ≤ 31 - k + k by omega, show 32 ≤ 31 - k + (k + 1) by omega]
          omega
      · have h2 : (if a.getLsbD (31 - k) = true then 1#32 <<< (31 - k) else 0#32).getLsbD j = false := by
          split
          · rw [BitVec.getLsbD_shiftLeft]; simp; omega
          · simp
        rw [h2]; simp [h1, show ¬ 32 ≤ j + (k + 1) by omega]
theorem mul_one (a : R) : mul a one 32 = a := by
  apply BitVec.eq_of_getLsbD_eq
  intro i hi
  rw [mul_one_bits a 32 (by omega) i hi]
  simp
/-- A product with a power of a step, of one, is that many steps. -/
theorem mul_pow (m : Nat) (a : R) : mul a (st m one) 32 = st m a := by rw [mul_st, mul_one]

/-- A byte as a register. -/
def byte (x : UInt8) : R := BitVec.ofNat 32 x.toNat
/-- A register moved over bytes. -/
def feed : R → List UInt8 → R
  | c, [] => c
  | c, x :: l => feed (st 8 (c ^^^ byte x)) l
theorem feed_append (c : R) (l m : List UInt8) : feed c (l ++ m) = feed (feed c l) m := by
  induction l generalizing c with
  | nil => rfl
  | cons x l ih => exact ih _
theorem xor4 (a b c d : R) : (a ^^^ b) ^^^ (c ^^^ d) = (a ^^^ c) ^^^ (b ^^^ d) := by
  rw [BitVec.xor_assoc, BitVec.xor_assoc, ← BitVec.xor_assoc b, BitVec.xor_comm b, BitVec.xor_assoc c]
theorem feed_xor (a c : R) (l : List UInt8) : feed (a ^^^ c) l = st (8 * l.length) a ^^^ feed c l := by
  induction l generalizing a c with
  | nil => rfl
  | cons x l ih =>
    show feed (st 8 ((a ^^^ c) ^^^ byte x)) l = _
    rw [BitVec.xor_assoc, st_xor, ih, List.length_cons, show 8 * (l.length + 1) = 8 * l.length + 8 by omega, st_add]
    rfl
def ones : R := 0xffffffff#32
/-- The sum moved on over bytes. -/
def more (sum : R) (l : List UInt8) : R := feed (sum ^^^ ones) l ^^^ ones
theorem more_nil (sum : R) : more sum [] = sum := by
  show (sum ^^^ ones) ^^^ ones = sum
  rw [BitVec.xor_assoc, BitVec.xor_self, BitVec.xor_zero]
theorem more_append (sum : R) (l m : List UInt8) : more sum (l ++ m) = more (more sum l) m := by
  unfold more
  rw [feed_append, BitVec.xor_assoc (feed (sum ^^^ ones) l), BitVec.xor_self, BitVec.xor_zero]
theorem more_join (sum : R) (l : List UInt8) : more sum l = st (8 * l.length) sum ^^^ more 0#32 l := by
  unfold more
  rw [feed_xor, BitVec.zero_xor, BitVec.xor_assoc]
theorem feed_zeros (c : R) (n : Nat) : feed c (List.replicate n 0) = st (8 * n) c := by
  induction n generalizing c with
  | zero => rfl
  | succ n ih =>
    rw [List.replicate_succ]
    show feed (st 8 (c ^^^ byte 0)) _ = _
    rw [show byte 0 = 0#32 from rfl, BitVec.xor_zero, ih, show 8 * (n + 1) = 8 * n + 8 by omega, st_add]

/-- Where the low eight bits are 0, eight steps are a shift. -/
theorem st_shift (n : Nat) : ∀ c : R, (∀ i, i < n → c.getLsbD i = false) → st n c = c >>> n := by
  induction n with
  | zero => intro c _; simp [st]
  | succ n ih =>
    intro c h
    have h0 := h 0 (by omega)
    have e : s1 c = c >>> 1 := by unfold s1; rw [h0]; rfl
    show st n (s1 c) = _
    rw [e, ih _ (fun i hi => by rw [BitVec.getLsbD_ushiftRight, Nat.add_comm]; exact h (i + 1) (by omega)), ← BitVec.shiftRight_add, Nat.add_comm]
/-- Eight steps by the table's way: the low byte's, and the others shifted. -/
theorem st8_split (c : R) (x : UInt8) : st 8 (c ^^^ byte x) = (c >>> 8) ^^^ st 8 (BitVec.ofNat 32 ((c.toNat % 256) ^^^ x.toNat)) := by
  have e : c ^^^ byte x = (c >>> 8 <<< 8) ^^^ BitVec.ofNat 32 ((c.toNat % 256) ^^^ x.toNat) := by
    have hlow : BitVec.ofNat 32 ((c.toNat % 256) ^^^ x.toNat) = BitVec.ofNat 32 (c.toNat % 256) ^^^ byte x := by
      apply BitVec.eq_of_toNat_eq
      have h1 : c.toNat % 256 < 2 ^ 32 := by omega
      have h2 : x.toNat < 2 ^ 32 := by have := x.toNat_lt; omega
      rw [BitVec.toNat_xor, BitVec.toNat_ofNat, BitVec.toNat_ofNat, byte, BitVec.toNat_ofNat, Nat.mod_eq_of_lt h1, Nat.mod_eq_of_lt h2, Nat.mod_eq_of_lt (Nat.xor_lt_two_pow h1 h2)]
    rw [hlow, ← BitVec.xor_assoc]
    congr 1
    apply BitVec.eq_of_getLsbD_eq
    intro i hi
    rw [BitVec.getLsbD_xor, BitVec.getLsbD_shiftLeft, BitVec.getLsbD_ushiftRight, BitVec.getLsbD_ofNat, show 256 = 2 ^ 8 from rfl, Nat.testBit_mod_two_pow]
    by_cases h8 : i < 8
    · simp [h8, hi, BitVec.getLsbD]
    · simp [h8, hi, show 8 + (i - 8) = i by omega]
  rw [e, st_xor]
  congr 1
  rw [st_shift 8]
  · apply BitVec.eq_of_getLsbD_eq
    intro i hi
    rw [BitVec.getLsbD_ushiftRight, BitVec.getLsbD_shiftLeft, BitVec.getLsbD_ushiftRight]
    by_cases h : 8 + i < 32
    · simp [h, show ¬ 8 + i < 8 by omega, show 8 + i - 8 = i by omega]
    · have hz : c.getLsbD (8 + i) = false := BitVec.getLsbD_of_ge c (8 + i) (by omega)
      simp [h, hz]
  · intro i hi
    rw [BitVec.getLsbD_shiftLeft]; simp [hi]
#print axioms st8_split
end Go.Proofs.Ytdhjlongdfgejaa.Crc
