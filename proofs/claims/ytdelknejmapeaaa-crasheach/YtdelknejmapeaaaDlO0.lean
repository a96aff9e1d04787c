/-
  Arm: by data; mayBefall.
-/
import Derived.Test.YtdelknejmapeaaaDlN
namespace Go.Proofs.Ytdelknejmapeaaa.Dk
open Go.RowKit Go.Maps Go.Sort Go.Shelf Go.Proofs.Ytdelknejmapeaaa.Nm

/-- May a fault befall? -/
def mayF (f : Ft) : Bool := decide (1 ≤ f.1) && decide (f.1 ≤ 4294967296) && decide (1 ≤ f.2.1) && decide (f.2.1 ≤ 4) && decide (0 ≤ f.2.2)
def armL (c : Int) : List Ft → Ar → Option Ar
  | [], l => some l
  | f :: r, l => if mayF f = true ∧ aget l (c + f.1) = none then armL c r (aput l (c + f.1) f) else none
theorem armL_snoc (c : Int) (A : List Ft) (f : Ft) (l : Ar) : armL c (A ++ [f]) l = match armL c A l with | none => none | some m => if mayF f = true ∧ aget m (c + f.1) = none then some (aput m (c + f.1) f) else none := by
  induction A generalizing l with
  | nil => rfl
  | cons a r ih =>
    simp only [List.cons_append, armL]
    split
    · exact ih _
    · rfl
theorem armL_none (c : Int) (A B : List Ft) (l : Ar) (h : armL c A l = none) : armL c (A ++ B) l = none := by
  induction A generalizing l with
  | nil => simp [armL] at h
  | cons a r ih =>
    simp only [List.cons_append, armL] at h ⊢
    split
    · rename_i q
      rw [if_pos q] at h
      exact ih _ h
    · rfl
/-- Arm, by data. -/
def DS.arm (S : DS) (fs : List Ft) : DS × Int :=
  if 64 < fs.length then (S, 1)
  else match armL S.c7 fs [] with
    | none => (S, 1)
    | some l => ({ S with al := l }, 0)
theorem ains_mem {x e : Int × Ft} {l : Ar} (h : e ∈ ains x l) : e = x ∨ e ∈ l := by
  induction l with
  | nil => simp [ains] at h; exact .inl h
  | cons y r ih =>
    unfold ains at h
    split at h
    · rcases List.mem_cons.1 h with q | q
      · exact .inl q
      · exact .inr q
    · rcases List.mem_cons.1 h with q | q
      · exact .inr (by rw [q]; simp)
      · rcases ih q with z | z
        · exact .inl z
        · exact .inr (by simp [z])
theorem armL_mem {c : Int} : ∀ {fs : List Ft} {l m : Ar}, armL c fs l = some m → ∀ e ∈ m, e ∈ l ∨ (e.2 ∈ fs ∧ mayF e.2 = true) := by
  intro fs
  induction fs with
  | nil => intro l m h e he; simp [armL] at h; subst h; exact .inl he
  | cons f r ih =>
    intro l m h e he
    simp only [armL] at h
    split at h
    · rename_i q
      rcases ih h e he with z | z
      · rcases ains_mem z with y | y
        · rw [y]; exact .inr ⟨by simp, q.1⟩
        · exact .inl (List.mem_filter.1 y).1
      · exact .inr ⟨by simp [z.1], z.2⟩
    · cases h
theorem ains_len (x : Int × Ft) (l : Ar) : (ains x l).length = l.length + 1 := by
  induction l with
  | nil => rfl
  | cons y r ih => unfold ains; split <;> simp [ih]
theorem aput_len (l : Ar) (n : Int) (f : Ft) : (aput l n f).length ≤ l.length + 1 := by
  have : (adel l n).length ≤ l.length := List.length_filter_le _ _
  rw [aput, ains_len]
  omega
theorem armL_len {c : Int} : ∀ {fs : List Ft} {l m : Ar}, armL c fs l = some m → m.length ≤ l.length + fs.length := by
  intro fs
  induction fs with
  | nil => intro l m h; simp [armL] at h; subst h; simp
  | cons f r ih =>
    intro l m h
    simp only [armL] at h
    split at h
    · have h1 := ih h
      have h2 := aput_len l (c + f.1) f
      simp only [List.length_cons]
      omega
    · cases h
/-- The list v of faults. -/
def Fts (w : World) (v : Value) (fs : List Ft) : Prop :=
  ∃ ao cap, v = .slice ao fs.length cap ∧ fs.length ≤ cap ∧ cap ≤ maxLen ∧ ∀ i (h : i < fs.length), ∃ b off, ao = some ⟨b, off, none⟩ ∧ w.cell? ⟨b, off + i * 3, none⟩ = some (.int .i64 fs[i].1) ∧ w.cell? ⟨b, off + i * 3 + 1, none⟩ = some (.int .i64 fs[i].2.1) ∧ w.cell? ⟨b, off + i * 3 + 2, none⟩ = some (.int .i64 fs[i].2.2)
theorem Fts.below {w w' : World} {v : Value} {fs : List Ft} (h : Fts w v fs) (hb : Below w.heap.size w w') : Fts w' v fs := by
  obtain ⟨ao, cap, e, h1, h2, h3⟩ := h
  refine ⟨ao, cap, e, h1, h2, fun i hi => ?_⟩
  obtain ⟨b, off, e1, c1, c2, c3⟩ := h3 i hi
  exact ⟨b, off, e1, by rw [hb.cell (lt_of_cell c1)]; exact c1, by rw [hb.cell (lt_of_cell c2)]; exact c2, by rw [hb.cell (lt_of_cell c3)]; exact c3⟩
set_option maxRecDepth 100000 in
theorem mayBefall_any (w : World) (f : Ft) : Calls Try.prog 46 #[.agg #[.int .i64 f.1, .int .i64 f.2.1, .int .i64 f.2.2]] w fun e w' => e = .returned (.bool (mayF f)) ∧ Below w.heap.size w w' := by
  obtain ⟨a, k, p⟩ := f
  dsimp only
  have hB := hide (box_below w (.cells #[.int .i64 a, .int .i64 k, .int .i64 p] 77))
  obtain ⟨E, hE⟩ : ∃ E, Hid (mayF (a, k, p) = E) := ⟨_, rfl⟩
  rw [hE.out]
  by_cases c1 : 1 ≤ a
  · by_cases c2 : a ≤ 4294967296
    · by_cases c3 : 1 ≤ k
      · by_cases c4 : k ≤ 4
        · by_cases c5 : 0 ≤ p
          · have q : Hid (E = true) := by show _ = _; rw [← hE.out]; simp [mayF, c1, c2, c3, c4, c5]
            go_enter Try.func46, Try.ntmps46
            go_wp2_with fail
            go_ret
            exact ⟨by rw [q.out]; rfl, hB.out⟩
          · have q : Hid (E = false) := by show _ = _; rw [← hE.out]; simp [mayF, c5]
            go_enter Try.func46, Try.ntmps46
            go_wp2_with fail
            go_ret
            exact ⟨by rw [q.out]; rfl, hB.out⟩
        · have q : Hid (E = false) := by show _ = _; rw [← hE.out]; simp [mayF, c4]
          go_enter Try.func46, Try.ntmps46
          go_wp2_with fail
          go_ret
          exact ⟨by rw [q.out]; rfl, hB.out⟩
      · have q : Hid (E = false) := by show _ = _; rw [← hE.out]; simp [mayF, c3]
        go_enter Try.func46, Try.ntmps46
        go_wp2_with fail
        go_ret
        exact ⟨by rw [q.out]; rfl, hB.out⟩
    · have q : Hid (E = false) := by show _ = _; rw [← hE.out]; simp [mayF, c2]
      go_enter Try.func46, Try.ntmps46
      go_wp2_with fail
      go_ret
      exact ⟨by rw [q.out]; rfl, hB.out⟩
  · have q : Hid (E = false) := by show _ = _; rw [← hE.out]; simp [mayF, c1]
    go_enter Try.func46, Try.ntmps46
    go_wp2_with fail
    go_ret
    exact ⟨by rw [q.out]; rfl, hB.out⟩
#print axioms mayBefall_any
end Go.Proofs.Ytdelknejmapeaaa.Dk
