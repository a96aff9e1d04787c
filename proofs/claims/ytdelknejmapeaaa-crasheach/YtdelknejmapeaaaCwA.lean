/-
  Package crash, by data: how many ways, the digits of a number, the number of digits.
-/
import Derived.Test.YtdelknejmapeaaaDnB
import Derived.Test.YtdelknejmapeaaaDnE
import Derived.Test.YtdelknejmapeaaaDoJ
namespace Go.Proofs.Ytdelknejmapeaaa.Dk
open Go.RowKit Go.Maps Go.Sort Go.Shelf Go.Proofs.Ytdelknejmapeaaa.Nm
set_option linter.unusedVariables false

def M40 : Nat := 1099511627776
/-- In how many ways these tails can be kept. -/
def prodT : Tls → Nat
  | [] => 1
  | e :: r => (e.2 + 1) * prodT r
theorem prodT_pos (L : Tls) : 1 ≤ prodT L := by
  induction L with
  | nil => exact Nat.le_refl _
  | cons e r ih => unfold prodT; exact Nat.mul_pos (by omega) ih
theorem prodT_append (A B : Tls) : prodT (A ++ B) = prodT A * prodT B := by
  induction A with
  | nil => simp [prodT]
  | cons e r ih => simp only [List.cons_append, prodT, ih, Nat.mul_assoc]
theorem prodT_snoc (A : Tls) (e : List UInt8 × Nat) : prodT (A ++ [e]) = prodT A * (e.2 + 1) := by rw [prodT_append]; simp [prodT]
theorem prodT_take (L : Tls) (k : Nat) : prodT (L.take k) ≤ prodT L := by
  have h := prodT_append (L.take k) (L.drop k)
  rw [List.take_append_drop] at h
  rw [h]
  exact Nat.le_mul_of_pos_right _ (prodT_pos _)
/-- Is n more than 2^40 by m? -/
theorem over_iff (n m : Nat) (hm : 1 ≤ m) : M40 / m < n ↔ M40 < n * m := by
  rw [Nat.div_lt_iff_lt_mul (by omega)]
/-- The ways of each Dir. -/
def DS.cnts (S : DS) (k : Nat) : List Nat := (List.range k).map fun (d : Nat) => prodT (S.tails (d : Int))
def DS.ways (S : DS) : Nat := (S.cnts (S.P.length + 1)).sum
theorem cnts_snoc (S : DS) (k : Nat) : S.cnts (k + 1) = S.cnts k ++ [prodT (S.tails (k : Int))] := by unfold DS.cnts; rw [List.range_succ, List.map_append]; rfl
theorem cnts_len (S : DS) (k : Nat) : (S.cnts k).length = k := by unfold DS.cnts; simp
theorem cnts_sum (S : DS) (k : Nat) : (S.cnts (k + 1)).sum = (S.cnts k).sum + prodT (S.tails (k : Int)) := by rw [cnts_snoc, List.sum_append]; simp
theorem cnts_mono (S : DS) {k m : Nat} (h : k ≤ m) : (S.cnts k).sum ≤ (S.cnts m).sum := by
  induction m with
  | zero => obtain rfl : k = 0 := Nat.le_zero.1 h
            exact Nat.le_refl _
  | succ m ih =>
    by_cases e : k = m + 1
    · rw [e]; exact Nat.le_refl _
    · rw [cnts_sum]; have := ih (by omega); omega
theorem cnts_get (S : DS) (k i : Nat) (h : i < k) : (S.cnts k)[i]? = some (prodT (S.tails (i : Int))) := by
  unfold DS.cnts
  rw [List.getElem?_map, List.getElem?_range h]
  rfl
/-- The digits of a number, the last one's the fastest. -/
def digs : Tls → Nat → List Nat
  | [], _ => []
  | e :: r, i => (i / prodT r) % (e.2 + 1) :: digs r (i % prodT r)
theorem digs_len (L : Tls) (i : Nat) : (digs L i).length = L.length := by
  induction L generalizing i with
  | nil => rfl
  | cons e r ih => simp [digs, ih]
/-- The number of digits. -/
def numb : Tls → List Nat → Nat
  | [], _ => 0
  | e :: r, ds => ds.headD 0 * prodT r + numb r ds.tail
/-- The k-th digit, from behind: what is left when the last ones are taken. -/
theorem digs_snoc (A : Tls) (e : List UInt8 × Nat) (i : Nat) (hi : i < prodT (A ++ [e])) : digs (A ++ [e]) i = digs A (i / (e.2 + 1)) ++ [i % (e.2 + 1)] := by
  induction A generalizing i with
  | nil =>
    rw [List.nil_append, prodT, prodT, Nat.mul_one] at hi
    simp [digs, prodT]
  | cons a r ih =>
    rw [List.cons_append] at hi ⊢
    simp only [digs, List.cons_append]
    have hp := prodT_pos (r ++ [e])
    rw [ih (i % prodT (r ++ [e])) (Nat.mod_lt _ (by omega))]
    rw [prodT_snoc]
    congr 1
    · rw [Nat.mul_comm (prodT r), ← Nat.div_div_eq_div_mul]
    · congr 1
      · rw [Nat.mul_comm (prodT r), Nat.mod_mul_right_div_self]
      · rw [Nat.mul_comm (prodT r), Nat.mod_mul_right_mod]
theorem digs_at (L : Tls) (i k : Nat) (hi : i < prodT L) (hk : k < L.length) : (digs L i)[k]? = some (i / prodT (L.drop (k + 1)) % (L[k].2 + 1)) := by
  induction L generalizing i k with
  | nil => simp at hk
  | cons e r ih =>
    cases k with
    | zero => simp [digs]
    | succ k =>
      simp only [digs, List.getElem?_cons_succ, List.drop_succ_cons, List.getElem_cons_succ]
      have hp := prodT_pos r
      rw [ih (i % prodT r) k (Nat.mod_lt _ (by omega)) (by simpa using hk)]
      congr 1
      have hk' : k < r.length := by simpa using hk
      have e1 : r = r.take k ++ (r[k] :: r.drop (k + 1)) := by rw [← List.drop_eq_getElem_cons hk', List.take_append_drop]
      have e2 : prodT r = prodT (r.drop (k + 1)) * ((r[k].2 + 1) * prodT (r.take k)) := by
        conv => lhs; rw [e1, prodT_append, prodT]
        generalize prodT (r.take k) = x, r[k].2 + 1 = y, prodT (r.drop (k + 1)) = z
        rw [Nat.mul_comm z, Nat.mul_comm x, Nat.mul_right_comm]
      rw [e2, Nat.mod_mul_right_div_self, Nat.mod_mul_right_mod]
theorem numb_snoc (A : Tls) (e : List UInt8 × Nat) (ds : List Nat) : numb (A ++ [e]) ds = numb A ds * (e.2 + 1) + ds.getD A.length 0 := by
  induction A generalizing ds with
  | nil => cases ds <;> simp [numb, prodT]
  | cons a r ih =>
    simp only [List.cons_append, numb, ih, prodT_snoc, List.length_cons]
    rw [Nat.add_mul, Nat.mul_assoc]
    cases ds with
    | nil => simp
    | cons x y => simp [Nat.add_assoc]
theorem numb_lt (L : Tls) (ds : List Nat) (h : ∀ k (hk : k < L.length), ds.getD k 0 ≤ L[k].2) : numb L ds < prodT L := by
  induction L generalizing ds with
  | nil => simp [numb, prodT]
  | cons e r ih =>
    simp only [numb, prodT]
    have h0 := h 0 (by simp)
    have h1 := ih ds.tail (fun k hk => by
      have := h (k + 1) (by simp; omega)
      cases ds with
      | nil => simp
      | cons x y => simpa using this)
    have h2 : ds.headD 0 ≤ e.2 := by cases ds <;> simp_all
    have h3 : ds.headD 0 * prodT r ≤ e.2 * prodT r := Nat.mul_le_mul_right _ h2
    rw [Nat.add_mul]
    omega
/-- There and back. -/
theorem numb_digs (L : Tls) (i : Nat) (h : i < prodT L) : numb L (digs L i) = i := by
  induction L generalizing i with
  | nil => simp [prodT] at h; simp [numb, h]
  | cons e r ih =>
    simp only [digs, numb, List.headD_cons, List.tail_cons]
    have hp := prodT_pos r
    rw [ih _ (Nat.mod_lt _ (by omega))]
    have h1 : i / prodT r < e.2 + 1 := by rw [Nat.div_lt_iff_lt_mul (by omega)]; exact h
    rw [Nat.mod_eq_of_lt h1, Nat.mul_comm]
    exact Nat.div_add_mod i _
theorem digs_le (L : Tls) (i k : Nat) (hi : i < prodT L) (hk : k < L.length) : (digs L i).getD k 0 ≤ L[k].2 := by
  rw [List.getD_eq_getElem?_getD, digs_at L i k hi hk]
  simp only [Option.getD_some]
  have := Nat.mod_lt (i / prodT (L.drop (k + 1))) (show 0 < L[k].2 + 1 by omega)
  omega
end Go.Proofs.Ytdelknejmapeaaa.Dk
