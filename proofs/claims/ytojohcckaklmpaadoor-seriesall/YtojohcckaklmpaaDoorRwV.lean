/-
  Whole numbers of many words of 32 bits, the lowest first. No program is named here.
-/
import Derived.Test.YtojohcckaklmpaaDoorRlN
namespace Go.Proofs.YtojohcckaklmpaaDoor.Rl
open Go.RowKit

def wal : List Nat → Nat
  | [] => 0
  | d :: r => d + 4294967296 * wal r
def Ys (ds : List Nat) : Prop := ∀ d ∈ ds, d < 4294967296
theorem wal_lt {ds : List Nat} (h : Ys ds) : wal ds < 4294967296 ^ ds.length := by
  induction ds with
  | nil => simp [wal]
  | cons d r ih =>
    have h1 : d < 4294967296 := h d (by simp)
    have h2 := ih (fun x hx => h x (by simp [hx]))
    rw [wal, List.length_cons, Nat.pow_succ, Nat.mul_comm (4294967296 ^ r.length)]
    have : 4294967296 * (wal r + 1) ≤ 4294967296 * 4294967296 ^ r.length := Nat.mul_le_mul_left _ h2
    omega
theorem wal_append (a b : List Nat) : wal (a ++ b) = wal a + 4294967296 ^ a.length * wal b := by
  induction a with
  | nil => simp [wal]
  | cons d r ih =>
    rw [List.cons_append, wal, wal, ih, List.length_cons, Nat.pow_succ, Nat.mul_add, ← Nat.mul_assoc, Nat.mul_comm 4294967296 (4294967296 ^ r.length)]
    omega
theorem wal_split (ds : List Nat) (i : Nat) (hi : i < ds.length) : wal ds = wal (ds.take i) + 4294967296 ^ i * (ds[i] + 4294967296 * wal (ds.drop (i + 1))) := by
  have e : ds = ds.take i ++ ds[i] :: ds.drop (i + 1) := by rw [← List.drop_eq_getElem_cons hi, List.take_append_drop]
  conv => lhs; rw [e]
  rw [wal_append, List.length_take, Nat.min_eq_left (by omega), wal]
theorem wal_set (ds : List Nat) (i x : Nat) (hi : i < ds.length) : wal (ds.set i x) + ds[i] * 4294967296 ^ i = wal ds + x * 4294967296 ^ i := by
  rw [wal_split ds i hi, wal_split (ds.set i x) i (by simpa using hi)]
  simp only [List.getElem_set_self, List.take_set_of_le (Nat.le_refl i), List.drop_set_of_lt (Nat.lt_succ_self i)]
  generalize 4294967296 ^ i = P
  generalize wal (ds.take i) = A
  generalize wal (ds.drop (i + 1)) = B
  generalize ds[i] = y
  rw [Nat.mul_add, Nat.mul_add, Nat.mul_comm P x, Nat.mul_comm P y]
  omega
theorem Ys.set {ds : List Nat} (h : Ys ds) (i x : Nat) (hx : x < 4294967296) : Ys (ds.set i x) := by
  intro d hd
  rcases List.mem_or_eq_of_mem_set hd with hd | rfl
  · exact h d hd
  · exact hx
theorem Ys.get {ds : List Nat} (h : Ys ds) (i : Nat) (hi : i < ds.length) : ds[i] < 4294967296 := h _ (List.getElem_mem hi)
theorem Ys.take {ds : List Nat} (h : Ys ds) (i : Nat) : Ys (ds.take i) := fun d hd => h d (List.mem_of_mem_take hd)
theorem Ys.drop {ds : List Nat} (h : Ys ds) (i : Nat) : Ys (ds.drop i) := fun d hd => h d (List.mem_of_mem_drop hd)
theorem wal_low {ds : List Nat} (h : Ys ds) (i : Nat) (hi : i ≤ ds.length) : wal (ds.take i) < 4294967296 ^ i := by
  have := wal_lt (h.take i)
  rwa [List.length_take, Nat.min_eq_left hi] at this
/-- The highest word in which two are unlike says which is less. -/
theorem wal_cmp {ds es : List Nat} (h : Ys ds) (i : Nat) (hi : i < ds.length) (hj : i < es.length) (hd : ds.drop (i + 1) = es.drop (i + 1)) (hlt : ds[i] < es[i]) : wal ds < wal es := by
  rw [wal_split ds i hi, wal_split es i hj, hd]
  have h1 := wal_low h i (by omega)
  generalize wal (es.drop (i + 1)) = B
  generalize 4294967296 ^ i = P at *
  have h2 : P * (ds[i] + 4294967296 * B) + P ≤ P * (es[i] + 4294967296 * B) := by
    rw [← Nat.mul_succ]; exact Nat.mul_le_mul_left _ (by omega)
  omega
theorem wal_zero {ds : List Nat} (h : ∀ d ∈ ds, d = 0) : wal ds = 0 := by
  induction ds with
  | nil => rfl
  | cons d r ih => rw [wal, h d (by simp), ih (fun x hx => h x (by simp [hx]))]
/-- One word added in, with what it carries. -/
theorem wal_add (ds : List Nat) (i x c : Nat) (hi : i < ds.length) :
    wal (ds.set i ((ds[i] + x + c) % 4294967296)) + (ds[i] + x + c) / 4294967296 * 4294967296 ^ (i + 1) = wal ds + (x + c) * 4294967296 ^ i := by
  have h := wal_set ds i ((ds[i] + x + c) % 4294967296) hi
  rw [Nat.pow_succ, Nat.mul_comm (4294967296 ^ i), ← Nat.mul_assoc]
  generalize 4294967296 ^ i = P at *
  generalize ds[i] = y at *
  have e : (y + x + c) % 4294967296 * P + (y + x + c) / 4294967296 * 4294967296 * P = (y + x + c) * P := by
    rw [← Nat.add_mul, Nat.add_comm, Nat.mul_comm _ 4294967296, Nat.div_add_mod]
  rw [Nat.add_mul, Nat.add_mul] at e
  rw [Nat.add_mul]
  omega
/-- One word taken away, with what it borrows. -/
theorem wal_sub (ds : List Nat) (i y c d c' : Nat) (hi : i < ds.length) (h : d + y + c = ds[i] + 4294967296 * c') :
    wal (ds.set i d) + (y + c) * 4294967296 ^ i = wal ds + c' * 4294967296 ^ (i + 1) := by
  have hs := wal_set ds i d hi
  rw [Nat.pow_succ, Nat.mul_comm (4294967296 ^ i), ← Nat.mul_assoc]
  generalize 4294967296 ^ i = P at *
  have e : d * P + (y + c) * P = ds[i] * P + c' * 4294967296 * P := by
    rw [← Nat.add_mul, ← Nat.add_mul]; congr 1; omega
  omega
theorem wal_take_succ (es : List Nat) (i : Nat) (hi : i < es.length) : wal (es.take (i + 1)) = wal (es.take i) + es[i] * 4294967296 ^ i := by
  rw [List.take_succ_eq_append_getElem hi, wal_append, List.length_take, Nat.min_eq_left (by omega), wal, wal, Nat.mul_comm]; simp
theorem words32 (A : Nat) : 4294967296 ^ A = 2 ^ (32 * A) := by rw [show 4294967296 = 2 ^ 32 by omega, ← Nat.pow_mul]
theorem wal_div {ds : List Nat} (h : Ys ds) (i o : Nat) (hi : i < ds.length) : wal ds / 2 ^ (32 * i + o) = (ds[i] + 4294967296 * wal (ds.drop (i + 1))) / 2 ^ o := by
  rw [wal_split ds i hi]
  have hl := wal_low h i (by omega)
  rw [words32] at *
  rw [Nat.pow_add, ← Nat.div_div_eq_div_mul, Nat.add_mul_div_left _ _ (Nat.two_pow_pos _), Nat.div_eq_of_lt hl, Nat.zero_add]
theorem word_div32 (x R o : Nat) (ho : o < 32) : (x + 4294967296 * R) / 2 ^ o = x / 2 ^ o + 2 ^ (32 - o) * R := by
  have e : 4294967296 * R = 2 ^ o * (2 ^ (32 - o) * R) := by
    rw [← Nat.mul_assoc, ← Nat.pow_add, show o + (32 - o) = 32 by omega]
  rw [e, Nat.add_mul_div_left _ _ (Nat.two_pow_pos _)]
theorem wal_bit {ds : List Nat} (h : Ys ds) (i o : Nat) (hi : i < ds.length) (ho : o < 32) : wal ds / 2 ^ (32 * i + o) % 2 = ds[i] / 2 ^ o % 2 := by
  rw [wal_div h i o hi, word_div32 _ _ _ ho]
  obtain ⟨j, hj⟩ : ∃ j, 32 - o = j + 1 := ⟨31 - o, by omega⟩
  rw [hj, Nat.pow_succ, Nat.mul_comm (2 ^ j) 2, Nat.mul_assoc]
  omega
theorem wal_replicate (n : Nat) : wal (List.replicate n 0) = 0 := wal_zero (by simp)
/-- One word set, with what is carried on. -/
theorem wal_put (ds : List Nat) (i x d c : Nat) (hi : i < ds.length) (h : ds[i] + x = d + 4294967296 * c) :
    wal (ds.set i d) + c * 4294967296 ^ (i + 1) = wal ds + x * 4294967296 ^ i := by
  have hs := wal_set ds i d hi
  rw [Nat.pow_succ, Nat.mul_comm (4294967296 ^ i), ← Nat.mul_assoc]
  generalize 4294967296 ^ i = P at *
  have e : ds[i] * P + x * P = d * P + c * 4294967296 * P := by
    rw [← Nat.add_mul, ← Nat.add_mul]; congr 1; omega
  omega
/-- A number shifted, in three words. -/
theorem three_words (m o : Nat) (ho : o < 32) :
    m * 2 ^ o % 4294967296 + 4294967296 * (m / 2 ^ (32 - o) % 4294967296) + 4294967296 * 4294967296 * (m / 4294967296 / 2 ^ (32 - o)) = m * 2 ^ o := by
  have e1 : m * 2 ^ o / 4294967296 = m / 2 ^ (32 - o) := by
    have h1 : 4294967296 = 2 ^ (32 - o) * 2 ^ o := by rw [← Nat.pow_add, Nat.sub_add_cancel (by omega)]
    conv => lhs; rw [h1]
    rw [Nat.mul_div_mul_right _ _ (Nat.two_pow_pos o)]
  have e2 : m / 4294967296 / 2 ^ (32 - o) = m * 2 ^ o / 4294967296 / 4294967296 := by rw [e1, Nat.div_div_eq_div_mul, Nat.div_div_eq_div_mul, Nat.mul_comm]
  rw [e2, ← e1]
  generalize m * 2 ^ o = z
  omega
#print axioms three_words
end Go.Proofs.YtojohcckaklmpaaDoor.Rl
