/-
  What the least and the greatest of a list are.
-/
import Derived.Test.YtojohcckaklmpaaDoorRlQ
import Derived.Test.YtojohcckaklmpaaDoorRlF1
import Derived.Test.YtojohcckaklmpaaDoorRlOf
namespace Go.Proofs.YtojohcckaklmpaaDoor.Rl
open Go.RowKit
set_option maxRecDepth 100000

theorem key_max {b : Nat} (hb : b < 18446744073709551616) : keyB b ≤ 18446744073709551615 := by have := keyB_lt hb; omega
theorem key_nan_lt {b : Nat} (hb : b < 18446744073709551616) (h : nanB b = false) : keyB b < 18446744073709551615 := by
  have h1 := keyB_lt hb
  have h2 : keyB b ≠ 18446744073709551615 := fun e => by have := (keyB_nan b hb).1 e; rw [h] at this; cases this
  omega
theorem cmp_neg_iff (a b : Nat) : cmpB a b < 0 ↔ keyB a < keyB b := by unfold cmpB cmpZ; (repeat' split) <;> omega
theorem cmp_pos_iff (a b : Nat) : 0 < cmpB a b ↔ keyB b < keyB a := by unfold cmpB cmpZ; (repeat' split) <;> omega
theorem nanc : nanB 9221120237041090561 = true := by decide +kernel
def MinInv (l : List Nat) (f : Nat) : Prop := (f = 9221120237041090561 ∧ ∀ x ∈ l, nanB x = true) ∨ (f ∈ l ∧ nanB f = false ∧ ∀ x ∈ l, keyB f ≤ keyB x)
theorem key_of_nan {b : Nat} (h : nanB b = true) : keyB b = 18446744073709551615 := by unfold keyB; rw [h]; rfl
theorem min_step {l : List Nat} {f x : Nat} (h : MinInv l f) (hx : x < 18446744073709551616) (hl : Bs l) : MinInv (l ++ [x]) (minStep f x) := by
  have hmem : ∀ y, y ∈ l ++ [x] → y ∈ l ∨ y = x := fun y hy => by rcases List.mem_append.1 hy with h1 | h1; exact Or.inl h1; exact Or.inr (by simpa using h1)
  unfold minStep
  by_cases hc : keyB x < keyB f
  · rw [if_pos ((cmp_neg_iff x f).2 hc)]
    rcases h with ⟨rfl, hn⟩ | ⟨h1, h2, h3⟩
    · rw [key_of_nan nanc] at hc
      have hnx : nanB x = false := by cases hq : nanB x; rfl; rw [key_of_nan hq] at hc; omega
      refine Or.inr ⟨by simp, hnx, fun y hy => ?_⟩
      rcases hmem y hy with h4 | rfl
      · rw [key_of_nan (hn y h4)]; omega
      · omega
    · have hnx : nanB x = false := by cases hq : nanB x; rfl; have := key_max (hl f h1); rw [key_of_nan hq] at hc; omega
      refine Or.inr ⟨by simp, hnx, fun y hy => ?_⟩
      rcases hmem y hy with h4 | rfl
      · have := h3 y h4; omega
      · omega
  · rw [if_neg (fun e => hc ((cmp_neg_iff x f).1 e))]
    rcases h with ⟨rfl, hn⟩ | ⟨h1, h2, h3⟩
    · rw [key_of_nan nanc] at hc
      have hnx : nanB x = true := by cases hq : nanB x; have := key_nan_lt hx hq; omega; rfl
      refine Or.inl ⟨rfl, fun y hy => ?_⟩
      rcases hmem y hy with h4 | rfl
      · exact hn y h4
      · exact hnx
    · refine Or.inr ⟨by simp [h1], h2, fun y hy => ?_⟩
      rcases hmem y hy with h4 | rfl
      · exact h3 y h4
      · omega
theorem min_inv (l : List Nat) : ∀ (pre : List Nat) (f : Nat), MinInv pre f → Bs (pre ++ l) → MinInv (pre ++ l) (l.foldl minStep f) := by
  induction l with
  | nil => intro pre f h _; simpa using h
  | cons x r ih =>
    intro pre f h hb
    rw [List.foldl_cons, show pre ++ x :: r = (pre ++ [x]) ++ r by simp]
    exact ih _ _ (min_step h (hb x (by simp)) (fun y hy => hb y (by simp [hy]))) (by simpa using hb)
def MaxInv (l : List Nat) (f : Nat) : Prop := (f = 9221120237041090561 ∧ ∀ x ∈ l, nanB x = true) ∨ (f ∈ l ∧ nanB f = false ∧ ∀ x ∈ l, nanB x = false → keyB x ≤ keyB f)
theorem max_step {l : List Nat} {f x : Nat} (h : MaxInv l f) : MaxInv (l ++ [x]) (maxStep f x) := by
  have hmem : ∀ y, y ∈ l ++ [x] → y ∈ l ∨ y = x := fun y hy => by rcases List.mem_append.1 hy with h1 | h1; exact Or.inl h1; exact Or.inr (by simpa using h1)
  unfold maxStep
  cases hx : nanB x
  · by_cases hc : nanB f = true ∨ keyB f < keyB x
    · rw [if_pos (by rcases hc with hc | hc; simp [hc]; simp [(cmp_pos_iff x f).2 hc])]
      refine Or.inr ⟨by simp, hx, fun y hy hny => ?_⟩
      rcases hmem y hy with h4 | rfl
      · rcases h with ⟨rfl, hn⟩ | ⟨h1, h2, h3⟩
        · rw [hn y h4] at hny; cases hny
        · have := h3 y h4 hny
          rcases hc with hc | hc
          · rw [h2] at hc; cases hc
          · omega
      · omega
    · have hf : nanB f = false := by cases hq : nanB f; rfl; exact absurd (Or.inl hq) hc
      rw [if_neg (by rw [hf]; simp; have := cmp_pos_iff x f; omega)]
      rcases h with ⟨rfl, hn⟩ | ⟨h1, h2, h3⟩
      · rw [nanc] at hf; cases hf
      · refine Or.inr ⟨by simp [h1], h2, fun y hy hny => ?_⟩
        rcases hmem y hy with h4 | rfl
        · exact h3 y h4 hny
        · omega
  · rw [if_neg (by simp)]
    rcases h with ⟨rfl, hn⟩ | ⟨h1, h2, h3⟩
    · refine Or.inl ⟨rfl, fun y hy => ?_⟩
      rcases hmem y hy with h4 | rfl
      · exact hn y h4
      · exact hx
    · refine Or.inr ⟨by simp [h1], h2, fun y hy hny => ?_⟩
      rcases hmem y hy with h4 | rfl
      · exact h3 y h4 hny
      · rw [hx] at hny; cases hny
theorem max_inv (l : List Nat) : ∀ (pre : List Nat) (f : Nat), MaxInv pre f → MaxInv (pre ++ l) (l.foldl maxStep f) := by
  induction l with
  | nil => intro pre f h; simpa using h
  | cons x r ih =>
    intro pre f h
    rw [List.foldl_cons, show pre ++ x :: r = (pre ++ [x]) ++ r by simp]
    exact ih _ _ (max_step h)
def someB (l : List Nat) : Bool := l.any fun x => !nanB x
def hasB (c : Nat) (l : List Nat) : Bool := l.any fun x => !nanB x && decide (x = c)
theorem any_snoc (f : Nat → Bool) (l : List Nat) (i : Nat) (hi : i < l.length) : (l.take (i + 1)).any f = ((l.take i).any f || f l[i]) := by
  rw [List.take_succ_eq_append_getElem hi, List.any_append]; simp
theorem has_of {c : Nat} {l : List Nat} (h : c ∈ l) (hn : nanB c = false) : hasB c l = true := by
  unfold hasB
  rw [List.any_eq_true]
  exact ⟨c, h, by simp [hn]⟩
theorem some_of {c : Nat} {l : List Nat} (h : c ∈ l) (hn : nanB c = false) : someB l = true := by
  unfold someB
  rw [List.any_eq_true]
  exact ⟨c, h, by simp [hn]⟩
theorem some_none {l : List Nat} (h : ∀ x ∈ l, nanB x = true) : someB l = false := by
  unfold someB
  rw [List.any_eq_false]
  intro x hx; simp [h x hx]
/-- What holds of the two ends of a list of some. -/
theorem ends {us : List Nat} (hb : Bs us) (h0 : us.length ≠ 0) :
    (∀ x ∈ us, nanB x = false → ¬ cmpB x (minB us) < 0 ∧ ¬ 0 < cmpB x (maxB us)) ∧
    ((someB us = true ∧ hasB (minB us) us = true ∧ hasB (maxB us) us = true) ∨ (someB us = false ∧ nanB (minB us) = true ∧ nanB (maxB us) = true)) ∧ minB us < 18446744073709551616 ∧ maxB us < 18446744073709551616 := by
  have h1 : MinInv us (minB us) := by
    unfold minB; rw [if_neg h0]
    simpa using min_inv us [] _ (Or.inl ⟨rfl, by simp⟩) (by simpa using hb)
  have h2 : MaxInv us (maxB us) := by
    unfold maxB; rw [if_neg h0]
    simpa using max_inv us [] _ (Or.inl ⟨rfl, by simp⟩)
  have hl1 : minB us < 18446744073709551616 := by unfold minB; rw [if_neg h0]; exact min_lt hb _ (by omega)
  have hl2 : maxB us < 18446744073709551616 := by unfold maxB; rw [if_neg h0]; exact max_lt hb _ (by omega)
  refine ⟨fun x hx hn => ⟨?_, ?_⟩, ?_, hl1, hl2⟩
  · rw [cmp_neg_iff]
    rcases h1 with ⟨e, h⟩ | ⟨_, _, h⟩
    · rw [h x hx] at hn; cases hn
    · have := h x hx; omega
  · rw [cmp_pos_iff]
    rcases h2 with ⟨e, h⟩ | ⟨_, _, h⟩
    · rw [h x hx] at hn; cases hn
    · have := h x hx hn; omega
  · rcases h1 with ⟨e1, k1⟩ | ⟨m1, n1, _⟩
    · rcases h2 with ⟨e2, _⟩ | ⟨m2, n2, _⟩
      · exact Or.inr ⟨some_none k1, by rw [e1]; exact nanc, by rw [e2]; exact nanc⟩
      · rw [k1 _ m2] at n2; cases n2
    · rcases h2 with ⟨e2, k2⟩ | ⟨m2, n2, _⟩
      · rw [k2 _ m1] at n1; cases n1
      · exact Or.inl ⟨some_of m1 n1, has_of m1 n1, has_of m2 n2⟩
end Go.Proofs.YtojohcckaklmpaaDoor.Rl
