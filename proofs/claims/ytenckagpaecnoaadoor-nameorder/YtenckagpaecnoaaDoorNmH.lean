/-
  Names in order, each once: what a sort and a compact leave is what one by one put into its place leaves. No program is named here.
-/
import Derived.Test.YtenckagpaecnoaaDoorNmA
import Derived.Lib.SlicesCompact
namespace Go.Proofs.YtenckagpaecnoaaDoor.Nm
set_option linter.unusedVariables false

abbrev Bs := List UInt8
theorem lt_of {a b : Bs} (h : a ≤ b) (hne : a ≠ b) : a < b := by
  rcases Classical.em (a < b) with h1 | h1
  · exact h1
  · exact absurd (List.le_antisymm h (List.not_lt.1 h1)) hne
theorem srt_unique : ∀ (l m : List Bs), l.Pairwise (· < ·) → m.Pairwise (· < ·) → (∀ x, x ∈ l ↔ x ∈ m) → l = m
  | [], [], _, _, _ => rfl
  | [], b :: m, _, _, h => by have := (h b).2 (by simp); simp at this
  | a :: l, [], _, _, h => by have := (h a).1 (by simp); simp at this
  | a :: l, b :: m, h1, h2, h => by
    rw [List.pairwise_cons] at h1 h2
    have e : a = b := by
      rcases List.mem_cons.1 ((h a).1 (by simp)) with e | e
      · exact e
      · rcases List.mem_cons.1 ((h b).2 (by simp)) with e2 | e2
        · exact e2.symm
        · exact absurd (List.lt_trans (h2.1 a e) (h1.1 b e2)) (List.lt_irrefl b)
    subst e
    congr 1
    refine srt_unique l m h1.2 h2.2 fun x => ?_
    constructor
    · intro hx
      rcases List.mem_cons.1 ((h x).1 (by simp [hx])) with e | e
      · subst e; exact absurd (h1.1 x hx) (List.lt_irrefl x)
      · exact e
    · intro hx
      rcases List.mem_cons.1 ((h x).2 (by simp [hx])) with e | e
      · subst e; exact absurd (h2.1 x hx) (List.lt_irrefl x)
      · exact e
theorem compact_upto (d : Array Bs) (hs : ∀ i j, i ≤ j → j < d.size → d[i]! ≤ d[j]!) : ∀ m, m ≤ d.size →
    (Lib.compactUpTo d m).Pairwise (· < ·) ∧ (∀ x ∈ Lib.compactUpTo d m, ∃ j, j < m ∧ d[j]! = x) ∧ (∀ j, j < m → d[j]! ∈ Lib.compactUpTo d m)
  | 0, _ => ⟨by simp [Lib.compactUpTo], by simp [Lib.compactUpTo], fun j h => by omega⟩
  | m + 1, hm => by
    obtain ⟨h1, h2, h3⟩ := compact_upto d hs m (by omega)
    rw [Lib.compactUpTo_succ]
    by_cases hk : Lib.keeps d m = true
    · rw [if_pos hk]
      refine ⟨?_, ?_, ?_⟩
      · rw [List.pairwise_append]
        refine ⟨h1, by simp, fun x hx y hy => ?_⟩
        rw [List.mem_singleton] at hy
        subst hy
        obtain ⟨j, hj, rfl⟩ := h2 x hx
        have hk' : m = 0 ∨ d[m]! ≠ d[m - 1]! := by simpa [Lib.keeps] using hk
        rcases hk' with hk' | hk'
        · omega
        · exact List.lt_of_le_of_lt (hs j (m - 1) (by omega) (by omega)) (lt_of (hs (m - 1) m (by omega) (by omega)) (fun e => hk' e.symm))
      · intro x hx
        rw [List.mem_append, List.mem_singleton] at hx
        rcases hx with hx | hx
        · obtain ⟨j, hj, e⟩ := h2 x hx; exact ⟨j, by omega, e⟩
        · exact ⟨m, by omega, hx.symm⟩
      · intro j hj
        rw [List.mem_append, List.mem_singleton]
        by_cases e : j = m
        · subst e; exact .inr rfl
        · exact .inl (h3 j (by omega))
    · rw [if_neg hk, List.append_nil]
      refine ⟨h1, fun x hx => by obtain ⟨j, hj, e⟩ := h2 x hx; exact ⟨j, by omega, e⟩, fun j hj => ?_⟩
      by_cases e : j = m
      · subst e
        have hk' : ¬ (j = 0 ∨ d[j]! ≠ d[j - 1]!) := by simpa [Lib.keeps] using hk
        have h0 : j ≠ 0 := fun e => hk' (.inl e)
        have he : d[j]! = d[j - 1]! := by
          rcases Classical.em (d[j]! = d[j - 1]!) with h | h
          · exact h
          · exact absurd (.inr h) hk'
        rw [he]
        exact h3 (j - 1) (by omega)
      · exact h3 j (by omega)
theorem compact_srt (zs : List Bs) (hs : zs.Pairwise (· ≤ ·)) : (Lib.compact zs).Pairwise (· < ·) ∧ ∀ x, x ∈ Lib.compact zs ↔ x ∈ zs := by
  have hg : ∀ i, i < zs.length → zs.toArray[i]! = zs[i]! := fun i h => by simp
  have hle : ∀ i j, i ≤ j → j < zs.toArray.size → zs.toArray[i]! ≤ zs.toArray[j]! := fun i j hij hj => by
    have hj' : j < zs.length := by simpa using hj
    rw [hg i (by omega), hg j hj', List.getElem!_eq_getElem?_getD, List.getElem!_eq_getElem?_getD, List.getElem?_eq_getElem (by omega), List.getElem?_eq_getElem hj']
    by_cases e : i = j
    · subst e; exact List.le_refl _
    · exact (List.pairwise_iff_getElem.1 hs) i j (by omega) hj' (by omega)
  obtain ⟨h1, h2, h3⟩ := compact_upto zs.toArray hle zs.length (by simp)
  refine ⟨h1, fun x => ⟨fun hx => ?_, fun hx => ?_⟩⟩
  · obtain ⟨j, hj, rfl⟩ := h2 x hx
    rw [hg j hj, List.getElem!_eq_getElem?_getD, List.getElem?_eq_getElem hj]
    exact List.getElem_mem hj
  · obtain ⟨j, hj, rfl⟩ := List.mem_iff_getElem.1 hx
    have := h3 j hj
    rw [hg j hj, List.getElem!_eq_getElem?_getD, List.getElem?_eq_getElem hj] at this
    exact this

/-- x put into its place among l, where it is not there. -/
def insB (x : Bs) : List Bs → List Bs
  | [] => [x]
  | a :: l => if a < x then a :: insB x l else if a = x then a :: l else x :: a :: l
theorem insB_mem (x : Bs) : ∀ l y, y ∈ insB x l ↔ y = x ∨ y ∈ l
  | [], y => by simp [insB]
  | a :: l, y => by
    unfold insB
    split
    · simp only [List.mem_cons, insB_mem x l y]
      constructor
      · rintro (h | h | h) <;> simp [h]
      · rintro (h | h | h) <;> simp [h]
    · split
      · rename_i h; subst h; simp
      · simp
theorem insB_srt (x : Bs) : ∀ l, l.Pairwise (· < ·) → (insB x l).Pairwise (· < ·)
  | [], _ => by simp [insB]
  | a :: l, h => by
    have h' := List.pairwise_cons.1 h
    unfold insB
    split
    · rename_i hlt
      rw [List.pairwise_cons]
      refine ⟨fun y hy => ?_, insB_srt x l h'.2⟩
      rcases (insB_mem x l y).1 hy with e | e
      · rw [e]; exact hlt
      · exact h'.1 y e
    · split
      · exact h
      · rename_i h1 h2
        have hxa : x < a := lt_of (List.not_lt.1 h1) (fun e => h2 e.symm)
        rw [List.pairwise_cons]
        refine ⟨fun y hy => ?_, h⟩
        rcases List.mem_cons.1 hy with e | e
        · rw [e]; exact hxa
        · exact List.lt_trans hxa (h'.1 y e)
/-- What the document's Order answers. -/
def ordR (ls : List Bs) : List Bs := ls.foldl (fun acc x => if may x = true then insB x acc else acc) []
theorem ordR_snoc (ls : List Bs) (x : Bs) : ordR (ls ++ [x]) = if may x = true then insB x (ordR ls) else ordR ls := by
  unfold ordR; rw [List.foldl_append]; rfl
theorem ordR_fold : ∀ (ls acc : List Bs), acc.Pairwise (· < ·) → (ls.foldl (fun acc x => if may x = true then insB x acc else acc) acc).Pairwise (· < ·) ∧ ∀ y, y ∈ ls.foldl (fun acc x => if may x = true then insB x acc else acc) acc ↔ y ∈ acc ∨ (y ∈ ls ∧ may y = true)
  | [], acc, h => ⟨h, fun y => by simp⟩
  | x :: ls, acc, h => by
    rw [List.foldl_cons]
    by_cases hm : may x = true
    · rw [if_pos hm]
      obtain ⟨h1, h2⟩ := ordR_fold ls (insB x acc) (insB_srt x acc h)
      refine ⟨h1, fun y => ?_⟩
      rw [h2, insB_mem]
      constructor
      · rintro ((h | h) | ⟨h, g⟩)
        · subst h; exact .inr ⟨by simp, hm⟩
        · exact .inl h
        · exact .inr ⟨by simp [h], g⟩
      · rintro (h | ⟨h, g⟩)
        · exact .inl (.inr h)
        · rcases List.mem_cons.1 h with e | e
          · exact .inl (.inl e)
          · exact .inr ⟨e, g⟩
    · rw [if_neg hm]
      obtain ⟨h1, h2⟩ := ordR_fold ls acc h
      refine ⟨h1, fun y => ?_⟩
      rw [h2]
      constructor
      · rintro (h | ⟨h, g⟩)
        · exact .inl h
        · exact .inr ⟨by simp [h], g⟩
      · rintro (h | ⟨h, g⟩)
        · exact .inl h
        · rcases List.mem_cons.1 h with e | e
          · subst e; exact absurd g hm
          · exact .inr ⟨e, g⟩
theorem ordR_srt (ls : List Bs) : (ordR ls).Pairwise (· < ·) := (ordR_fold ls [] List.Pairwise.nil).1
theorem ordR_mem (ls : List Bs) (y : Bs) : y ∈ ordR ls ↔ y ∈ ls ∧ may y = true := by
  have := (ordR_fold ls [] List.Pairwise.nil).2 y
  unfold ordR
  simpa using this
theorem ord_eq (ls : List Bs) : Lib.compact ((ls.filter may).mergeSort fun x y => decide (x ≤ y)) = ordR ls := by
  have hs : ((ls.filter may).mergeSort fun x y => decide (x ≤ y)).Pairwise (· ≤ ·) := by
    have := List.pairwise_mergeSort (le := fun x y : Bs => decide (x ≤ y)) (fun a b c h1 h2 => by simp only [decide_eq_true_eq] at *; exact List.le_trans h1 h2) (fun a b => by simp only [Bool.or_eq_true, decide_eq_true_eq]; exact List.le_total a b) (ls.filter may)
    exact this.imp fun h => by simpa using h
  obtain ⟨h1, h2⟩ := compact_srt _ hs
  refine srt_unique _ _ h1 (ordR_srt ls) fun x => ?_
  rw [h2, ordR_mem, (List.mergeSort_perm _ _).mem_iff, List.mem_filter]
theorem ordR_len (ls : List Bs) : (ordR ls).length ≤ ls.length := by
  rw [← ord_eq]
  have h1 : (Lib.compact ((ls.filter may).mergeSort fun x y => decide (x ≤ y))).length ≤ ((ls.filter may).mergeSort fun x y => decide (x ≤ y)).length := by
    unfold Lib.compact Lib.compactUpTo
    rw [List.length_map]
    have := List.length_filter_le (Lib.keeps ((ls.filter may).mergeSort fun x y => decide (x ≤ y)).toArray) (List.range ((ls.filter may).mergeSort fun x y => decide (x ≤ y)).length)
    simpa using this
  rw [List.length_mergeSort] at h1
  have h2 := List.length_filter_le may ls
  omega

/-- How many of l stand ahead of x. -/
def atB (x : Bs) : List Bs → Nat
  | [] => 0
  | a :: l => if a < x then atB x l + 1 else 0
theorem atB_le (x : Bs) : ∀ l, atB x l ≤ l.length
  | [] => Nat.le_refl _
  | a :: l => by unfold atB; split; have := atB_le x l; simp; omega; simp
theorem atB_less (x : Bs) : ∀ (l : List Bs) (j : Nat) (h : j < l.length), j < atB x l → l[j] < x
  | a :: l, 0, h, hj => by unfold atB at hj; split at hj; simpa; omega
  | a :: l, j + 1, h, hj => by
    unfold atB at hj
    split at hj
    · simpa using atB_less x l j (by simpa using h) (by omega)
    · omega
theorem atB_stop (x : Bs) : ∀ (l : List Bs) (h : atB x l < l.length), ¬ l[atB x l] < x
  | a :: l, h => by
    unfold atB at h ⊢
    split
    · rename_i hlt
      rw [if_pos hlt] at h
      simpa using atB_stop x l (by simpa using h)
    · rename_i hlt; simpa using hlt
theorem insB_at (x : Bs) : ∀ l, insB x l = if l[atB x l]? = some x then l else l.take (atB x l) ++ x :: l.drop (atB x l)
  | [] => by simp [insB, atB]
  | a :: l => by
    unfold insB atB
    by_cases h : a < x
    · rw [if_pos h, if_pos h, insB_at x l]
      simp only [List.getElem?_cons_succ, List.take_succ_cons, List.drop_succ_cons]
      split <;> simp
    · rw [if_neg h, if_neg h]
      simp only [List.getElem?_cons_zero, Option.some.injEq, List.take_zero, List.drop_zero, List.nil_append]
end Go.Proofs.YtenckagpaecnoaaDoor.Nm
