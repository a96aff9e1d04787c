/-
  Whole numbers of many words of 64 bits, the lowest first. No program is named here.
-/
import Derived.Test.YtojohcckaklmpaaDoorGen
namespace Go.Proofs.YtojohcckaklmpaaDoor.Rl
open Go.RowKit

def val : List Nat → Nat
  | [] => 0
  | d :: r => d + 18446744073709551616 * val r
def Ws (ds : List Nat) : Prop := ∀ d ∈ ds, d < 18446744073709551616
theorem val_lt {ds : List Nat} (h : Ws ds) : val ds < 18446744073709551616 ^ ds.length := by
  induction ds with
  | nil => simp [val]
  | cons d r ih =>
    have h1 : d < 18446744073709551616 := h d (by simp)
    have h2 := ih (fun x hx => h x (by simp [hx]))
    rw [val, List.length_cons, Nat.pow_succ, Nat.mul_comm (18446744073709551616 ^ r.length)]
    have : 18446744073709551616 * (val r + 1) ≤ 18446744073709551616 * 18446744073709551616 ^ r.length := Nat.mul_le_mul_left _ h2
    omega
theorem val_append (a b : List Nat) : val (a ++ b) = val a + 18446744073709551616 ^ a.length * val b := by
  induction a with
  | nil => simp [val]
  | cons d r ih =>
    rw [List.cons_append, val, val, ih, List.length_cons, Nat.pow_succ, Nat.mul_add, ← Nat.mul_assoc, Nat.mul_comm 18446744073709551616 (18446744073709551616 ^ r.length)]
    omega
theorem val_split (ds : List Nat) (i : Nat) (hi : i < ds.length) : val ds = val (ds.take i) + 18446744073709551616 ^ i * (ds[i] + 18446744073709551616 * val (ds.drop (i + 1))) := by
  have e : ds = ds.take i ++ ds[i] :: ds.drop (i + 1) := by rw [← List.drop_eq_getElem_cons hi, List.take_append_drop]
  conv => lhs; rw [e]
  rw [val_append, List.length_take, Nat.min_eq_left (by omega), val]
theorem val_set (ds : List Nat) (i x : Nat) (hi : i < ds.length) : val (ds.set i x) + ds[i] * 18446744073709551616 ^ i = val ds + x * 18446744073709551616 ^ i := by
  rw [val_split ds i hi, val_split (ds.set i x) i (by simpa using hi)]
  simp only [List.getElem_set_self, List.take_set_of_le (Nat.le_refl i), List.drop_set_of_lt (Nat.lt_succ_self i)]
  generalize 18446744073709551616 ^ i = P
  generalize val (ds.take i) = A
  generalize val (ds.drop (i + 1)) = B
  generalize ds[i] = y
  rw [Nat.mul_add, Nat.mul_add, Nat.mul_comm P x, Nat.mul_comm P y]
  omega
theorem Ws.set {ds : List Nat} (h : Ws ds) (i x : Nat) (hx : x < 18446744073709551616) : Ws (ds.set i x) := by
  intro d hd
  rcases List.mem_or_eq_of_mem_set hd with hd | rfl
  · exact h d hd
  · exact hx
theorem Ws.get {ds : List Nat} (h : Ws ds) (i : Nat) (hi : i < ds.length) : ds[i] < 18446744073709551616 := h _ (List.getElem_mem hi)
theorem Ws.take {ds : List Nat} (h : Ws ds) (i : Nat) : Ws (ds.take i) := fun d hd => h d (List.mem_of_mem_take hd)
theorem Ws.drop {ds : List Nat} (h : Ws ds) (i : Nat) : Ws (ds.drop i) := fun d hd => h d (List.mem_of_mem_drop hd)
theorem val_low {ds : List Nat} (h : Ws ds) (i : Nat) (hi : i ≤ ds.length) : val (ds.take i) < 18446744073709551616 ^ i := by
  have := val_lt (h.take i)
  rwa [List.length_take, Nat.min_eq_left hi] at this
/-- The highest word in which two are unlike says which is less. -/
theorem val_cmp {ds es : List Nat} (h : Ws ds) (i : Nat) (hi : i < ds.length) (hj : i < es.length) (hd : ds.drop (i + 1) = es.drop (i + 1)) (hlt : ds[i] < es[i]) : val ds < val es := by
  rw [val_split ds i hi, val_split es i hj, hd]
  have h1 := val_low h i (by omega)
  generalize val (es.drop (i + 1)) = B
  generalize 18446744073709551616 ^ i = P at *
  have h2 : P * (ds[i] + 18446744073709551616 * B) + P ≤ P * (es[i] + 18446744073709551616 * B) := by
    rw [← Nat.mul_succ]; exact Nat.mul_le_mul_left _ (by omega)
  omega
theorem val_zero {ds : List Nat} (h : ∀ d ∈ ds, d = 0) : val ds = 0 := by
  induction ds with
  | nil => rfl
  | cons d r ih => rw [val, h d (by simp), ih (fun x hx => h x (by simp [hx]))]
/-- One word added in, with what it carries. -/
theorem val_add (ds : List Nat) (i x c : Nat) (hi : i < ds.length) :
    val (ds.set i ((ds[i] + x + c) % 18446744073709551616)) + (ds[i] + x + c) / 18446744073709551616 * 18446744073709551616 ^ (i + 1) = val ds + (x + c) * 18446744073709551616 ^ i := by
  have h := val_set ds i ((ds[i] + x + c) % 18446744073709551616) hi
  rw [Nat.pow_succ, Nat.mul_comm (18446744073709551616 ^ i), ← Nat.mul_assoc]
  generalize 18446744073709551616 ^ i = P at *
  generalize ds[i] = y at *
  have e : (y + x + c) % 18446744073709551616 * P + (y + x + c) / 18446744073709551616 * 18446744073709551616 * P = (y + x + c) * P := by
    rw [← Nat.add_mul, Nat.add_comm, Nat.mul_comm _ 18446744073709551616, Nat.div_add_mod]
  rw [Nat.add_mul, Nat.add_mul] at e
  rw [Nat.add_mul]
  omega
/-- One word taken away, with what it borrows. -/
theorem val_sub (ds : List Nat) (i y c d c' : Nat) (hi : i < ds.length) (h : d + y + c = ds[i] + 18446744073709551616 * c') :
    val (ds.set i d) + (y + c) * 18446744073709551616 ^ i = val ds + c' * 18446744073709551616 ^ (i + 1) := by
  have hs := val_set ds i d hi
  rw [Nat.pow_succ, Nat.mul_comm (18446744073709551616 ^ i), ← Nat.mul_assoc]
  generalize 18446744073709551616 ^ i = P at *
  have e : d * P + (y + c) * P = ds[i] * P + c' * 18446744073709551616 * P := by
    rw [← Nat.add_mul, ← Nat.add_mul]; congr 1; omega
  omega
theorem val_take_succ (es : List Nat) (i : Nat) (hi : i < es.length) : val (es.take (i + 1)) = val (es.take i) + es[i] * 18446744073709551616 ^ i := by
  rw [List.take_succ_eq_append_getElem hi, val_append, List.length_take, Nat.min_eq_left (by omega), val, val, Nat.mul_comm]; simp
#print axioms val_add
end Go.Proofs.YtojohcckaklmpaaDoor.Rl
