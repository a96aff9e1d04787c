/-
  Frames told one behind the other, by data: which of them are entries, what is found, what a cut leaves.
-/
import Derived.Test.YtoffahbnffhliaaIxA
namespace Go.Proofs.Ytoffahbnffhliaa.Ix

def nextX (B : Int) (x : X) (o : Int) : X := (addF x (if x.l = [] then B else x.la.1 + 1) o).2
/-- The index that was told the frames at the places os, from the LSN B on. -/
def told (B : Int) (st : Nat) (os : List Int) : X := os.foldl (nextX B) ⟨st, [], (0, 0)⟩
theorem told_nil (B : Int) (st : Nat) : told B st [] = ⟨st, [], (0, 0)⟩ := rfl
theorem told_snoc (B : Int) (st : Nat) (os : List Int) (o : Int) : told B st (os ++ [o]) = nextX B (told B st os) o := by simp [told]
/-- Places that rise. -/
def Inc (os : List Int) : Prop := os.Pairwise (· < ·) ∧ ∀ o ∈ os, 0 ≤ o ∧ o ≤ 2147483647
theorem Inc.nil : Inc [] := ⟨List.Pairwise.nil, fun o h => by simp at h⟩
theorem Inc.take {os : List Int} (h : Inc os) (k : Nat) : Inc (os.take k) := ⟨h.1.sublist (List.take_sublist k os), fun o ho => h.2 o (List.mem_of_mem_take ho)⟩
theorem Inc.snoc {os : List Int} (h : Inc os) {o : Int} (h0 : 0 ≤ o) (h1 : o ≤ 2147483647) (h2 : ∀ p ∈ os, p < o) : Inc (os ++ [o]) := by
  refine ⟨?_, fun p hp => ?_⟩
  · rw [List.pairwise_append]
    exact ⟨h.1, List.pairwise_singleton _ _, fun a ha b hb => by rw [List.mem_singleton.1 hb]; exact h2 a ha⟩
  · rcases List.mem_append.1 hp with hp | hp
    · exact h.2 p hp
    · rw [List.mem_singleton.1 hp]; exact ⟨h0, h1⟩
theorem Inc.front {os : List Int} {o : Int} (h : Inc (os ++ [o])) : Inc os ∧ 0 ≤ o ∧ o ≤ 2147483647 ∧ ∀ p ∈ os, p < o := by
  obtain ⟨a, b⟩ := h
  rw [List.pairwise_append] at a
  exact ⟨⟨a.1, fun p hp => b p (by simp [hp])⟩, (b o (by simp)).1, (b o (by simp)).2, fun p hp => a.2.2 p hp o (by simp)⟩
/-- What is so of an index that was told the frames os. -/
structure Fnd (B : Int) (st : Nat) (os : List Int) (x : X) : Prop where
  ok : Ok x
  hst : x.st = st
  em : os = [] → x = ⟨st, [], (0, 0)⟩
  la : ∀ h : os ≠ [], x.l ≠ [] ∧ x.la = (B + (os.length : Int) - 1, os.getLast h)
  mem : ∀ e ∈ x.l, B ≤ e.1 ∧ e.1 < B + (os.length : Int) ∧ os[(e.1 - B).toNat]? = some e.2
  near : ∀ j (hj : j < os.length), ∃ e ∈ x.l, e.1 ≤ B + (j : Int) ∧ os[j] - e.2 < (st : Int)
  len : x.l.length ≤ os.length
theorem Fnd.nil (B : Int) {st : Nat} (h0 : 1 ≤ st) (h1 : st ≤ 1048576) : Fnd B st [] ⟨st, [], (0, 0)⟩ :=
  ⟨Ok.new h0 h1, rfl, fun _ => rfl, fun h => absurd rfl h, fun e he => by simp at he, fun j hj => by simp at hj, Nat.le_refl _⟩
theorem fnd_step {B : Int} {st : Nat} {os : List Int} {x : X} (h : Fnd B st os x) {o : Int} (hB : 1 ≤ B) (hl : B + (os.length : Int) ≤ 9223372036854775807) (h0 : 0 ≤ o) (h1 : o ≤ 2147483647) (h2 : ∀ p ∈ os, p < o) :
    addF x (B + (os.length : Int)) o = (0, nextX B x o) ∧ Fnd B st (os ++ [o]) (nextX B x o) := by
  have hn : (if x.l = [] then B else x.la.1 + 1) = B + (os.length : Int) := by
    by_cases e : os = []
    · rw [h.em e, e]; simp
    · obtain ⟨a, b⟩ := h.la e
      rw [if_neg a, b]
      show B + (os.length : Int) - 1 + 1 = _
      omega
  have hno : ¬ (x.l ≠ [] ∧ ¬ (B + (os.length : Int) - 1 = x.la.1 ∧ x.la.2 < o)) := by
    rintro ⟨a, b⟩
    by_cases e : os = []
    · rw [h.em e] at a; exact a rfl
    · obtain ⟨_, c⟩ := h.la e
      rw [c] at b
      exact b ⟨rfl, h2 _ (List.getLast_mem e)⟩
  have hA : addF x (B + (os.length : Int)) o = (0, ⟨x.st, if x.l = [] ∨ (x.st : Int) ≤ o - (lastE x.l).2 then x.l ++ [(B + (os.length : Int), o)] else x.l, (B + (os.length : Int), o)⟩) := by
    rw [addF, if_neg (by omega), if_neg hno]
  have hX : nextX B x o = ⟨x.st, if x.l = [] ∨ (x.st : Int) ≤ o - (lastE x.l).2 then x.l ++ [(B + (os.length : Int), o)] else x.l, (B + (os.length : Int), o)⟩ := by rw [nextX, hn, hA]
  refine ⟨by rw [hA, hX], ?_⟩
  have hok : Ok (nextX B x o) := by unfold nextX; exact h.ok.add _ _ (by rw [hn]; exact hl)
  have s0 := h.ok.srt.s0
  have key : ∀ e ∈ (nextX B x o).l, e ∈ x.l ∨ e = (B + (os.length : Int), o) := by
    intro e he
    rw [hX] at he
    simp only at he
    split at he
    · rcases List.mem_append.1 he with g | g
      · exact .inl g
      · exact .inr (List.mem_singleton.1 g)
    · exact .inl he
  have sub : ∀ e ∈ x.l, e ∈ (nextX B x o).l := by
    intro e he
    rw [hX]
    simp only
    split
    · exact List.mem_append.2 (.inl he)
    · exact he
  refine ⟨hok, by rw [hX]; exact h.hst, fun e => by simp at e, fun hne => ⟨?_, ?_⟩, ?_, ?_, ?_⟩
  · rw [hX]
    simp only
    split
    · simp
    · rename_i g; exact fun c => g (.inl c)
  · rw [hX]
    simp
    omega
  · intro e he
    rcases key e he with g | g
    · obtain ⟨a, b, c⟩ := h.mem e g
      refine ⟨a, by simp; omega, ?_⟩
      rw [List.getElem?_append_left (by omega)]
      exact c
    · subst g
      simp only
      refine ⟨by omega, by simp; omega, ?_⟩
      rw [show (B + (os.length : Int) - B).toNat = os.length by omega]
      simp
  · intro j hj
    by_cases hj2 : j < os.length
    · obtain ⟨e, he, a, b⟩ := h.near j hj2
      exact ⟨e, sub e he, a, by rw [List.getElem_append_left hj2]; exact b⟩
    · have hje : j = os.length := by simp at hj; omega
      subst hje
      rw [List.getElem_append_right (Nat.le_refl _)]
      simp only [Nat.sub_self, List.getElem_cons_zero]
      by_cases hf : x.l = [] ∨ (x.st : Int) ≤ o - (lastE x.l).2
      · refine ⟨(B + (os.length : Int), o), ?_, Int.le_refl _, ?_⟩
        · rw [hX]; simp only; rw [if_pos hf]; simp
        · have := h.hst; simp only; omega
      · have hne : x.l ≠ [] := fun c => hf (.inl c)
        refine ⟨lastE x.l, sub _ (lastE_mem hne), ?_, ?_⟩
        · have := (h.mem _ (lastE_mem hne)).2.1; omega
        · have : ¬ (x.st : Int) ≤ o - (lastE x.l).2 := fun c => hf (.inr c)
          rw [h.hst] at this
          omega
  · rw [hX]
    have := h.len
    simp only
    split <;> simp <;> omega
theorem snoc_ind {P : List Int → Prop} (h0 : P []) (h1 : ∀ os o, P os → P (os ++ [o])) : ∀ os, P os := by
  intro os
  have : ∀ r : List Int, P r.reverse := by
    intro r
    induction r with
    | nil => exact h0
    | cons a r ih => rw [List.reverse_cons]; exact h1 _ _ ih
  have := this os.reverse
  rwa [List.reverse_reverse] at this
theorem told_fnd {B : Int} {st : Nat} (h0 : 1 ≤ st) (h1 : st ≤ 1048576) (hB : 1 ≤ B) : ∀ (os : List Int), Inc os → B + (os.length : Int) ≤ 9223372036854775807 → Fnd B st os (told B st os) := by
  refine snoc_ind ?_ ?_
  · exact fun _ _ => Fnd.nil B h0 h1
  · intro os o ih hi hl
    obtain ⟨a, b, c, d⟩ := hi.front
    rw [told_snoc]
    exact (fnd_step (ih a (by simp at hl; omega)) hB (by simp at hl; omega) b c d).2
/-- What is found of the frame j. -/
theorem Fnd.find {B : Int} {st : Nat} {os : List Int} {x : X} (h : Fnd B st os x) {j : Nat} (hj : j < os.length) : ∃ e, findF x.l (B + (j : Int)) = (e, true) ∧ B ≤ e.1 ∧ e.1 ≤ B + (j : Int) ∧ os[(e.1 - B).toNat]? = some e.2 ∧ os[j] - e.2 < (st : Int) ∧ 0 ≤ e.2 ∧ e.2 ≤ 2147483647 := by
  obtain ⟨e0, he0, a0, b0⟩ := h.near j hj
  have hs := h.ok.srt
  obtain ⟨P1, P2⟩ := cnt_split hs (B + (j : Int) + 1)
  have hcl := cnt_le x.l (B + (j : Int) + 1)
  obtain ⟨i0, hi0, rfl⟩ := List.getElem_of_mem he0
  have hi1 : i0 < cnt x.l (B + (j : Int) + 1) := Classical.byContradiction fun c => by have := P2 i0 hi0 (by omega); omega
  have hc : cnt x.l (B + (j : Int) + 1) - 1 < x.l.length := by omega
  have hle := P1 _ hc (by omega)
  refine ⟨x.l[cnt x.l (B + (j : Int) + 1) - 1], ?_, ?_, by omega, (h.mem _ (List.getElem_mem hc)).2.2, ?_, (hs.rng _ (List.getElem_mem hc)).2.2⟩
  · refine find_at hc (by omega) fun k hk hik => ?_
    have := P2 k hk (by omega)
    omega
  · exact (h.mem _ (List.getElem_mem hc)).1
  · have s0 := hs.s0
    by_cases g : i0 = cnt x.l (B + (j : Int) + 1) - 1
    · simp only [← g]; exact b0
    · have := (hs.lt hi0 hc (by omega)).2
      omega
theorem Fnd.find_no {B : Int} {st : Nat} {os : List Int} {x : X} (h : Fnd B st os x) : findF x.l (B - 1) = ((0, 0), false) :=
  Ix.find_no fun j hj => by have := (h.mem _ (List.getElem_mem hj)).1; omega
theorem cnt_all {l : List (Int × Int)} {n : Int} (h : ∀ e ∈ l, e.1 < n) : cnt l n = l.length := cnt_eq (Nat.le_refl _) (fun i hi _ => h _ (List.getElem_mem hi)) (fun i hi h => by omega)
theorem cnt_snoc (l : List (Int × Int)) (e : Int × Int) (n : Int) (h : n ≤ e.1) : cnt (l ++ [e]) n = cnt l n := by
  unfold cnt
  rw [List.countP_append, List.countP_singleton, if_neg (by simp; omega)]
  rfl
theorem next_l {B : Int} {st : Nat} {os : List Int} {x : X} (h : Fnd B st os x) {o : Int} (hB : 1 ≤ B) (hl : B + (os.length : Int) ≤ 9223372036854775807) (h0 : 0 ≤ o) (h1 : o ≤ 2147483647) (h2 : ∀ p ∈ os, p < o) :
    ((nextX B x o).l = x.l ∨ (nextX B x o).l = x.l ++ [(B + (os.length : Int), o)]) ∧ (nextX B x o).st = st ∧ (nextX B x o).la = (B + (os.length : Int), o) := by
  obtain ⟨a, b⟩ := fnd_step h hB hl h0 h1 h2
  have : nextX B x o = (addF x (B + (os.length : Int)) o).2 := by rw [a]
  refine ⟨?_, b.hst, ?_⟩
  · have e : (addF x (B + (os.length : Int)) o).1 = 0 := by rw [a]
    rw [this]
    unfold addF at e ⊢
    split at e
    · cases e
    split at e
    · cases e
    rename_i g1 g2
    rw [if_neg g1, if_neg g2]
    simp only
    split
    · exact .inr rfl
    · exact .inl rfl
  · have := (b.la (by simp)).2
    rw [this]
    simp
    omega
/-- What is below a frame are the entries of the frames ahead of it. -/
theorem told_take {B : Int} {st : Nat} (h0 : 1 ≤ st) (h1 : st ≤ 1048576) (hB : 1 ≤ B) : ∀ (os : List Int), Inc os → B + (os.length : Int) ≤ 9223372036854775807 → ∀ c, c ≤ os.length →
    (told B st os).l.take (cnt (told B st os).l (B + (c : Int))) = (told B st (os.take c)).l := by
  refine snoc_ind ?_ ?_
  · intro _ _ c hc
    simp [told_nil]
  · intro os o ih hi hl c hc
    obtain ⟨a, b, d, e⟩ := hi.front
    have hl' : B + (os.length : Int) ≤ 9223372036854775807 := by simp at hl; omega
    have hF := told_fnd h0 h1 hB os a hl'
    have hF2 := told_fnd h0 h1 hB (os ++ [o]) hi hl
    by_cases hce : c = (os ++ [o]).length
    · subst hce
      rw [List.take_length, cnt_all fun e he => (hF2.mem e he).2.1, List.take_length]
    · have hc2 : c ≤ os.length := by simp at hc hce; omega
      rw [List.take_append_of_le_length hc2, ← ih a hl' c hc2, told_snoc]
      obtain ⟨g, _, _⟩ := next_l hF hB hl' b d e
      rcases g with g | g
      · rw [g]
      · rw [g, cnt_snoc _ _ _ (by simp; omega), List.take_append_of_le_length (cnt_le _ _)]
/-- Behind the last entry nothing is known. -/
theorem told_last {B : Int} {st : Nat} (h0 : 1 ≤ st) (h1 : st ≤ 1048576) (hB : 1 ≤ B) : ∀ (os : List Int), Inc os → B + (os.length : Int) ≤ 9223372036854775807 → os ≠ [] →
    told B st (os.take ((lastE (told B st os).l).1 - B + 1).toNat) = ⟨st, (told B st os).l, lastE (told B st os).l⟩ := by
  refine snoc_ind ?_ ?_
  · intro _ _ h; exact absurd rfl h
  · intro os o ih hi hl _
    obtain ⟨a, b, d, e⟩ := hi.front
    have hl' : B + (os.length : Int) ≤ 9223372036854775807 := by simp at hl; omega
    have hF := told_fnd h0 h1 hB os a hl'
    have hF2 := told_fnd h0 h1 hB (os ++ [o]) hi hl
    obtain ⟨g, g2, g3⟩ := next_l hF hB hl' b d e
    rw [told_snoc] at hF2 ⊢
    rcases g with g | g
    · have hne : (told B st os).l ≠ [] := by rw [← g]; exact (hF2.la (by simp)).1
      have hos : os ≠ [] := fun c => by rw [hF.em c] at hne; exact hne rfl
      rw [g]
      have hm := (hF.mem _ (lastE_mem hne)).2.1
      rw [List.take_append_of_le_length (by omega)]
      exact ih a hl' hos
    · rw [g, lastE_snoc]
      simp only
      rw [show (B + (os.length : Int) - B + 1).toNat = (os ++ [o]).length by simp; omega, List.take_length, told_snoc]
      rcases hx : nextX B (told B st os) o with ⟨s, l, la⟩
      rw [hx] at g g2 g3
      simp only at g g2 g3
      rw [g, g2, g3]
/-- How many frames are known behind a cut. -/
def lastN (os : List Int) (st : Nat) (c : Nat) : Nat := if c < os.length then (lastE (told 1 st (os.take c)).l).1.toNat else os.length
theorem lastN_le {os : List Int} {st c : Nat} (h0 : 1 ≤ st) (h1 : st ≤ 1048576) (hi : Inc os) (hl : (os.length : Int) ≤ 1000000) : lastN os st c ≤ os.length := by
  unfold lastN
  split
  · rename_i hc
    by_cases e : (told 1 st (os.take c)).l = []
    · rw [e]; simp [lastE_nil]
    · have hF := told_fnd h0 h1 (B := 1) (by omega) (os.take c) (hi.take c) (by simp; omega)
      have := (hF.mem _ (lastE_mem e)).2.1
      simp at this
      omega
  · exact Nat.le_refl _
/-- A cut index is one that was told what is known. -/
theorem cut_told {os : List Int} {st c : Nat} (h0 : 1 ≤ st) (h1 : st ≤ 1048576) (hi : Inc os) (hl : (os.length : Int) ≤ 1000000) (hc : c ≤ os.length) :
    (cutF (told 1 st os) (1 + (c : Int))).2 = told 1 st (os.take (lastN os st c)) := by
  have hF := told_fnd h0 h1 (B := 1) (by omega) os hi (by omega)
  unfold lastN
  by_cases hlt : c < os.length
  · rw [if_pos hlt]
    have hne : os ≠ [] := fun e => by subst e; simp at hlt
    obtain ⟨a, b⟩ := hF.la hne
    have hcond : ¬ ((told 1 st os).l = [] ∨ (told 1 st os).la.1 < 1 + (c : Int)) := by
      rintro (g | g)
      · exact a g
      · rw [b] at g; simp only at g; omega
    rw [cutF, if_neg hcond]
    simp only
    rw [told_take h0 h1 (by omega) os hi (by omega) c hc, hF.hst]
    by_cases hc0 : c = 0
    · subst hc0
      simp [told_nil, lastE_nil]
    · have hne2 : os.take c ≠ [] := fun e => by have := congrArg List.length e; rw [List.length_take, List.length_nil] at this; omega
      have hT := told_last h0 h1 (B := 1) (by omega) (os.take c) (hi.take c) (by simp; omega) hne2
      have hF2 := told_fnd h0 h1 (B := 1) (by omega) (os.take c) (hi.take c) (by simp; omega)
      have hm := hF2.mem _ (lastE_mem (hF2.la hne2).1)
      rw [show (lastE (told 1 st (os.take c)).l).1 - 1 + 1 = (lastE (told 1 st (os.take c)).l).1 by omega] at hT
      rw [← hT, List.take_take]
      congr 2
      have := hm.2.1
      simp at this
      omega
  · rw [if_neg hlt, List.take_length]
    have hce : c = os.length := by omega
    rw [cutF, if_pos]
    by_cases e : os = []
    · left; rw [hF.em e]
    · right
      rw [(hF.la e).2]
      simp only
      omega
end Go.Proofs.Ytoffahbnffhliaa.Ix
