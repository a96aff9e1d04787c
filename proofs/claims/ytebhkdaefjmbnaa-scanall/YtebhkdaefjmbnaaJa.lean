/-
  The scan of bytes by data: its states, why it ends, its count.
-/
import Derived.Test.YtebhkdaefjmbnaaFg
namespace Go.Proofs.Ytebhkdaefjmbnaa
open Go.RowKit

/-- How a scan stands: Count, End, Next, Seed. -/
structure Sc where
  c : Nat
  e : Nat
  n : Nat
  s : Crc.R
/-- Why it ends there; 0: it goes on. -/
def whyS (L : List UInt8) (x : Sc) : Int :=
  if L.length ≤ x.e then 1 else if (rdF x.s (L.drop x.e)).2.2.2.2 ≠ 0 then (rdF x.s (L.drop x.e)).2.2.2.2 else if (rdF x.s (L.drop x.e)).1 ≠ (x.n : Int) then 6 else 0
def nxt (L : List UInt8) (x : Sc) : Sc := ⟨x.c + 1, x.e + (rdF x.s (L.drop x.e)).2.2.1.toNat, x.n + 1, (rdF x.s (L.drop x.e)).2.2.2.1⟩
def dat (L : List UInt8) (x : Sc) : List UInt8 := (rdF x.s (L.drop x.e)).2.1
def recS (L : List UInt8) (x : Sc) : Int × List UInt8 := if whyS L x = 0 then ((x.n : Int), dat L x) else (0, [])
def Sst (L : List UInt8) (x : Sc) : Nat → Sc
  | 0 => x
  | k + 1 => nxt L (Sst L x k)
def Good (L : List UInt8) (x : Sc) (k : Nat) : Prop := ∀ j, j < k → whyS L (Sst L x j) = 0
/-- The scan from x on takes K frames. -/
def IsK (L : List UInt8) (x : Sc) (K : Nat) : Prop := Good L x K ∧ whyS L (Sst L x K) ≠ 0

theorem rd_good {s : Crc.R} {l : List UInt8} (h : (rdF s l).2.2.2.2 = 0) : 16 ≤ l.length ∧ (rdF s l).1 = (fL l : Int) ∧ 1 ≤ fL l ∧ fL l ≤ 9223372036854775806 ∧ (rdF s l).2.2.1 = 16 + (fN l : Int) ∧ fN l ≤ 4096 ∧ fN l ≤ l.length - 16 ∧ (rdF s l).2.1 = fD l := by
  have e : rdE s l = 0 := by
    unfold rdF at h
    split at h
    · assumption
    · exact h
  have e2 := e
  unfold rdE at e2
  rw [rdF, if_pos e]
  split at e2
  · cases e2
  split at e2
  · cases e2
  split at e2
  · cases e2
  split at e2
  · cases e2
  refine ⟨by omega, rfl, by omega, by omega, rfl, by omega, by omega, rfl⟩

theorem why_zero {L : List UInt8} {x : Sc} (h : whyS L x = 0) : x.e < L.length ∧ (rdF x.s (L.drop x.e)).2.2.2.2 = 0 ∧ (rdF x.s (L.drop x.e)).1 = (x.n : Int) ∧ 1 ≤ x.n ∧ x.n ≤ 9223372036854775806 ∧
    (nxt L x).e ≤ L.length ∧ x.e + 16 ≤ (nxt L x).e ∧ ((x.e : Int) + (rdF x.s (L.drop x.e)).2.2.1 = ((nxt L x).e : Int)) ∧ (dat L x).length ≤ 4096 ∧ (nxt L x).e = x.e + 16 + (dat L x).length := by
  unfold whyS at h
  split at h
  · cases h
  split at h
  · rename_i h1 h2
    exact absurd h h2
  rename_i h1 h2
  split at h
  · cases h
  rename_i h3
  have h2' : (rdF x.s (L.drop x.e)).2.2.2.2 = 0 := by simpa using h2
  have h3' : (rdF x.s (L.drop x.e)).1 = (x.n : Int) := by simpa using h3
  obtain ⟨a, b, c, d, f, g, i, j⟩ := rd_good h2'
  have hd : (fD (L.drop x.e)).length = fN (L.drop x.e) := by
    unfold fD; rw [List.length_take, List.length_drop]; omega
  rw [List.length_drop] at a i
  refine ⟨by omega, h2', h3', by omega, by omega, ?_, ?_, ?_, ?_, ?_⟩ <;> simp only [nxt, dat, f, j, hd] <;> omega
theorem whyS_cases (L : List UInt8) (x : Sc) : whyS L x = 0 ∨ whyS L x = 1 ∨ whyS L x = 2 ∨ whyS L x = 3 ∨ whyS L x = 4 ∨ whyS L x = 5 ∨ whyS L x = 6 := by
  have key : ∀ s l, (rdF s l).2.2.2.2 = 0 ∨ (rdF s l).2.2.2.2 = 2 ∨ (rdF s l).2.2.2.2 = 3 ∨ (rdF s l).2.2.2.2 = 4 ∨ (rdF s l).2.2.2.2 = 5 := by
    intro s l
    unfold rdF
    split
    · exact .inl rfl
    · show rdE s l = 0 ∨ rdE s l = 2 ∨ rdE s l = 3 ∨ rdE s l = 4 ∨ rdE s l = 5
      unfold rdE
      repeat' split
      all_goals simp
  have := key x.s (L.drop x.e)
  unfold whyS
  repeat' split
  all_goals omega

theorem good_e {L : List UInt8} {x : Sc} {k : Nat} (h : Good L x k) (he : x.e ≤ L.length) : (Sst L x k).e ≤ L.length ∧ x.e + 16 * k ≤ (Sst L x k).e ∧ (Sst L x k).c = x.c + k ∧ (Sst L x k).n = x.n + k := by
  induction k with
  | zero => exact ⟨he, by simp [Sst], by simp [Sst], by simp [Sst]⟩
  | succ k ih =>
    obtain ⟨a, b, c, d⟩ := ih (fun j hj => h j (by omega))
    obtain ⟨_, _, _, _, _, f, g, _⟩ := why_zero (h k (by omega))
    exact ⟨f, by show _ ≤ (nxt L (Sst L x k)).e; omega, by show (Sst L x k).c + 1 = _; omega, by show (Sst L x k).n + 1 = _; omega⟩
theorem good_next {L : List UInt8} {x : Sc} {k : Nat} (h : Good L x k) (h0 : whyS L (Sst L x k) = 0) : Good L x (k + 1) := fun j hj => by
  by_cases e : j = k
  · rw [e]; exact h0
  · exact h j (by omega)
theorem exK (L : List UInt8) (x : Sc) (he : x.e ≤ L.length) : ∃ K, IsK L x K := by
  refine Classical.byContradiction fun h => ?_
  have hg : ∀ k, Good L x k := fun k => by
    induction k with
    | zero => exact fun j hj => by omega
    | succ k ih => exact good_next ih (Classical.byContradiction fun h0 => h ⟨k, ih, h0⟩)
  have := good_e (hg (L.length + 1)) he
  omega
theorem IsK.unique {L : List UInt8} {x : Sc} {K K' : Nat} (h : IsK L x K) (h' : IsK L x K') : K = K' := by
  refine Classical.byContradiction fun hne => ?_
  rcases Nat.lt_or_ge K K' with hl | hl
  · exact h.2 (h'.1 K hl)
  · exact h'.2 (h.1 K' (by omega))

/-- What steps hands over: each state, the last one too. What places hands over: each state that has a record. -/
def EvS (L : List UInt8) (base : Int) (seed : Crc.R) (xs : List Sc) : Prop :=
  (base < 1 ∧ xs = []) ∨ (1 ≤ base ∧ ∃ K, IsK L ⟨0, 0, base.toNat, seed⟩ K ∧ xs = (List.range (K + 1)).map (Sst L ⟨0, 0, base.toNat, seed⟩))
def EvP (L : List UInt8) (base : Int) (seed : Crc.R) (xs : List Sc) : Prop :=
  (base < 1 ∧ xs = []) ∨ (1 ≤ base ∧ ∃ K, IsK L ⟨0, 0, base.toNat, seed⟩ K ∧ xs = (List.range K).map (Sst L ⟨0, 0, base.toNat, seed⟩))
theorem exS (L : List UInt8) (base : Int) (seed : Crc.R) : ∃ xs, EvS L base seed xs := by
  by_cases h : base < 1
  · exact ⟨[], .inl ⟨h, rfl⟩⟩
  · obtain ⟨K, hK⟩ := exK L ⟨0, 0, base.toNat, seed⟩ (Nat.zero_le _)
    exact ⟨_, .inr ⟨by omega, K, hK, rfl⟩⟩
theorem exP (L : List UInt8) (base : Int) (seed : Crc.R) : ∃ xs, EvP L base seed xs := by
  by_cases h : base < 1
  · exact ⟨[], .inl ⟨h, rfl⟩⟩
  · obtain ⟨K, hK⟩ := exK L ⟨0, 0, base.toNat, seed⟩ (Nat.zero_le _)
    exact ⟨_, .inr ⟨by omega, K, hK, rfl⟩⟩

/-- A Scan as a value. -/
def scv (x : Sc) (y : Int) : Value := .agg #[.int .i64 (x.c : Int), .int .i64 (x.e : Int), .int .i64 (x.n : Int), .int .u32 (x.s.toNat : Int), .int .i64 y]
def scc (x : Sc) (y : Int) : Array Value := #[.int .i64 (x.c : Int), .int .i64 (x.e : Int), .int .i64 (x.n : Int), .int .u32 (x.s.toNat : Int), .int .i64 y]

end Go.Proofs.Ytebhkdaefjmbnaa
