/-
  Rows of registers as cells; the table of what eight steps make of each byte, filled from the high bits on. No program is named here.
-/
import Derived.Test.YtdhjlongdfgejaaCrc0
import Derived.Deep.WholeRow
import Derived.Deep.MidRow
import Derived.Below
namespace Go.Proofs.Ytdhjlongdfgejaa.Crc
open Go.RowKit

/-- Registers f 0, .., f (n - 1) as cells. -/
def row (f : Nat → R) (n : Nat) : Array Value := Array.ofFn (n := n) fun i => .int .u32 ((f i.val).toNat : Int)
def upd (f : Nat → R) (i : Nat) (v : R) : Nat → R := fun j => if j = i then v else f j
theorem row_size (f : Nat → R) (n : Nat) : (row f n).size = n := by simp [row]
theorem row_get (f : Nat → R) (n i : Nat) (h : i < n) : (row f n)[i]? = some (.int .u32 ((f i).toNat : Int)) := by
  simp [row, h]
theorem row_set (f : Nat → R) (n i : Nat) (v : R) : (row f n).setIfInBounds i (.int .u32 (v.toNat : Int)) = row (upd f i v) n := by
  apply Array.ext_getElem?
  intro j
  rw [Array.getElem?_setIfInBounds]
  by_cases hj : j < n
  · rw [row_get _ _ _ hj, row_get _ _ _ hj]
    by_cases h : i = j
    · subst h; simp [upd, hj, row_size]
    · simp [upd, h, show ¬ j = i from fun e => h e.symm]
  · have e1 : (row f n)[j]? = none := Array.getElem?_eq_none (by rw [row_size]; omega)
    have e2 : (row (upd f i v) n)[j]? = none := Array.getElem?_eq_none (by rw [row_size]; omega)
    rw [e1, e2]
    by_cases h : i = j
    · subst h; simp [row_size, hj]
    · simp [h]
theorem row_one (f : Nat → R) (n : Nat) : (row f n).all (·.oneCell') = true := by
  rw [Array.all_eq_true]
  intro i h
  simp only [row, Array.getElem_ofFn]
  rfl
theorem row_zero (n : Nat) : row (fun _ => 0#32) n = Array.replicate n (.int .u32 0) := by
  apply Array.ext
  · simp [row]
  · intro j h1 h2
    simp [row]
theorem row_congr {f g : Nat → R} {n : Nat} (h : ∀ i, i < n → f i = g i) : row f n = row g n := by
  apply Array.ext
  · simp [row]
  · intro j h1 h2
    have h1' : j < n := by simpa [row] using h1
    simp only [row, Array.getElem_ofFn, h j h1']

theorem heap_new (w : World) (o : Obj) : (w.alloc o).heap[w.heap.size]? = some o := heap_alloc_last w o
theorem heap_old (w : World) (o p : Obj) : ((w.alloc o).alloc p).heap[w.heap.size]? = some o := by
  rw [Below.heap_alloc _ _ _ (by simp), heap_new]
theorem range_of {w : World} {b : Nat} {C : Array Value} {t : TypeId} {fr : Nat × Nat} (h : w.heap[b]? = some (.cells C t fr)) : w.rangeAt b 0 C.toList := fun j v hv => by
  rw [cell_of_row w b (0 + j) C t fr h, Nat.zero_add]; simpa using hv
theorem there_of {w : World} {b n : Nat} {C : Array Value} {t : TypeId} (h : w.heap[b]? = some (.cells C t)) (hn : C.size = n) : w.there b 0 n := fun j hj => by
  refine ⟨?_, by simp [World.frozen?, h]⟩
  rw [cell_of_row w b (0 + j) C t (0, 0) h, Nat.zero_add, Array.getElem?_eq_getElem (by omega)]; rfl
theorem below_setCells {B b : Nat} (hb : B ≤ b) : ∀ (vs : List Value) (o : Nat) {a w : World}, Below B a w → Below B a (w.setCells b o vs)
  | [], _, _, _, h => h
  | v :: r, o, a, w, h => by
    rw [World.setCells.eq_def]
    exact below_setCells hb r (o + 1) (h.setCell hb v)
theorem results_cell1 {P : Program} {fn : Func} {p : Tmp} {ty : TypeId} (h : fn.results = #[.cell p ty]) (tmps : Array Value) (w : World) (a : Addr) (v : Value)
    (ha : tmps.getD p undef = .pointer (some a)) (hl : (loadVar ty a).run P w = .ok v w) : (results fn tmps).run P w = .ok v w := by
  have ha' : tmps[p]?.getD undef = .pointer (some a) := by simpa [Array.getD_eq_getD_getElem?] using ha
  simp only [results, h]
  simp [ha', asAddr, hl]

/-- Where the row already has what eight steps make: at multiples of B below a, and at those of 2 B. -/
def Tab (f : Nat → R) (B a : Nat) : Prop := ∀ x, x < 256 → x % B = 0 → (x < a ∨ x % (2 * B) = 0) → f x = st 8 (BitVec.ofNat 32 x)
theorem tab_low : ∀ k : Fin 8, ∀ a : Fin 256, a.val % (2 * 2 ^ (7 - k.val)) = 0 → st 8 (BitVec.ofNat 32 (a.val + 2 ^ (7 - k.val))) = st 8 (BitVec.ofNat 32 a.val) ^^^ st (k.val + 1) 1#32 := by decide +kernel
theorem tab_init : Tab (fun _ => 0#32) (2 ^ 8) 256 := by
  intro x hx h _
  have : x = 0 := by omega
  subst this
  exact (st_zero 8).symm
theorem tab_next {f : Nat → R} {k : Nat} (hk : k < 8) (h : Tab f (2 ^ (8 - k)) 256) : Tab f (2 ^ (7 - k)) 0 := by
  intro x hx h1 h2
  have e : 2 ^ (8 - k) = 2 * 2 ^ (7 - k) := by rw [show 8 - k = (7 - k) + 1 by omega, Nat.pow_succ, Nat.mul_comm]
  rcases h2 with h2 | h2
  · omega
  · exact h x hx (by rw [e]; exact h2) (.inl hx)
theorem tab_step {f : Nat → R} {k a : Nat} (hk : k < 8) (ha : a < 256) (hm : a % (2 * 2 ^ (7 - k)) = 0) (h : Tab f (2 ^ (7 - k)) a) :
    Tab (upd f (a + 2 ^ (7 - k)) (f a ^^^ st (k + 1) 1#32)) (2 ^ (7 - k)) (a + 2 * 2 ^ (7 - k)) := by
  have hB : 0 < 2 ^ (7 - k) := Nat.pow_pos (by omega)
  have h0 : a % 2 ^ (7 - k) = 0 := by
    have := Nat.mod_mul_left_mod a 2 (2 ^ (7 - k))
    rw [hm] at this
    simpa using this.symm
  intro x hx h1 h2
  unfold upd
  by_cases e : x = a + 2 ^ (7 - k)
  · rw [if_pos e, e, h a ha h0 (.inr hm)]
    exact (tab_low ⟨k, hk⟩ ⟨a, ha⟩ hm).symm
  · rw [if_neg e]
    refine h x hx h1 ?_
    rcases h2 with h2 | h2
    · by_cases hxa : x < a
      · exact .inl hxa
      · right
        obtain ⟨p, hp⟩ := Nat.dvd_of_mod_eq_zero h1
        obtain ⟨q, hq⟩ := Nat.dvd_of_mod_eq_zero hm
        have hB0 : 2 ^ (7 - k) ≠ 0 := by omega
        generalize 2 ^ (7 - k) = B at *
        have : p = 2 * q := by
          have a1 : B * p < B * (2 * q + 2) := by rw [Nat.mul_add, ← Nat.mul_assoc, Nat.mul_comm B 2, Nat.mul_assoc]; rw [hq, hp, Nat.mul_assoc] at h2; omega
          have a2 : B * (2 * q) ≤ B * p := by rw [← Nat.mul_assoc, Nat.mul_comm B 2, Nat.mul_assoc]; rw [hq, hp, Nat.mul_assoc] at hxa; omega
          have b1 := Nat.lt_of_mul_lt_mul_left a1
          have b2 := Nat.le_of_mul_le_mul_left a2 hB
          have b3 : p ≠ 2 * q + 1 := by
            rintro rfl
            apply e
            rw [hp, hq, Nat.mul_add, Nat.mul_one, ← Nat.mul_assoc, Nat.mul_comm B 2]
          omega
        rw [hp, this, ← Nat.mul_assoc, Nat.mul_comm B 2]
        exact Nat.mul_mod_right _ _
    · exact .inr h2
theorem tab_last {f : Nat → R} (h : Tab f (2 ^ (8 - 8)) 256) : row f 256 = row (fun x => st 8 (BitVec.ofNat 32 x)) 256 :=
  row_congr fun i hi => h i hi (by simp [Nat.mod_one]) (.inl hi)
theorem tab_done {f : Nat → R} {k a : Nat} (hk : k < 8) (ha : 256 ≤ a) (h : Tab f (2 ^ (7 - k)) a) : Tab f (2 ^ (8 - (k + 1))) 256 := by
  intro x hx h1 h2
  rw [show 8 - (k + 1) = 7 - k by omega] at h1
  exact h x hx h1 (.inl (by omega))
theorem tab_room {k a : Nat} (hk : k < 8) (ha : a < 256) (hm : a % (2 * 2 ^ (7 - k)) = 0) : a + 2 * 2 ^ (7 - k) ≤ 256 := by
  obtain ⟨q, hq⟩ := Nat.dvd_of_mod_eq_zero hm
  have e : 2 * 2 ^ (7 - k) * 2 ^ k = 256 := by
    rw [show 2 * 2 ^ (7 - k) = 2 ^ (8 - k) by rw [show 8 - k = (7 - k) + 1 by omega, Nat.pow_succ, Nat.mul_comm], ← Nat.pow_add, show 8 - k + k = 8 by omega]
  have h1 : 2 * 2 ^ (7 - k) * q < 2 * 2 ^ (7 - k) * 2 ^ k := by rw [e, ← hq]; exact ha
  have h2 : 2 * 2 ^ (7 - k) * (q + 1) ≤ 2 * 2 ^ (7 - k) * 2 ^ k := Nat.mul_le_mul_left _ (Nat.lt_of_mul_lt_mul_left h1)
  rw [e, Nat.mul_add, ← hq] at h2
  omega
#print axioms tab_step
end Go.Proofs.Ytdhjlongdfgejaa.Crc
