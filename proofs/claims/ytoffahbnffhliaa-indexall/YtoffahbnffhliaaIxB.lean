/-
  An index in memory; New; what far and follows say.
-/
import Derived.Test.YtoffahbnffhliaaIxA
import Derived.Test.YtoffahbnffhliaaIt
import Derived.Test.YtoffahbnffhliaaFe
import Derived.Test.YtoffahbnffhliaaRws
import Derived.BigQuiet
namespace Go.Proofs.Ytoffahbnffhliaa.Ix
open Go.RowKit

/-- Entries as cells. -/
def ecells (l : List (Int × Int)) : List Value := l.flatMap fun e => [.int .i64 e.1, .int .i64 e.2]
theorem ecells_snoc (l : List (Int × Int)) (e : Int × Int) : ecells (l ++ [e]) = ecells l ++ [.int .i64 e.1, .int .i64 e.2] := by simp [ecells]
theorem ecells_len (l : List (Int × Int)) : (ecells l).length = l.length * 2 := by
  induction l with
  | nil => rfl
  | cons p r ih => rw [ecells, List.flatMap_cons, List.length_append, ← ecells, ih]; simp; omega
theorem ecells_get (l : List (Int × Int)) : ∀ i (h : i < l.length), (ecells l)[i * 2]? = some (.int .i64 l[i].1) ∧ (ecells l)[i * 2 + 1]? = some (.int .i64 l[i].2) := by
  induction l with
  | nil => intro i h; simp at h
  | cons p r ih =>
    intro i h
    rw [ecells, List.flatMap_cons, ← ecells]
    match i with
    | 0 => simp
    | i + 1 =>
      have := ih i (by simpa using h)
      rw [show (i + 1) * 2 = i * 2 + 1 + 1 by omega]
      simpa using this
theorem ecells_take (l : List (Int × Int)) (k : Nat) : (ecells l).take (k * 2) = ecells (l.take k) := by
  induction l generalizing k with
  | nil => simp [ecells]
  | cons p r ih =>
    match k with
    | 0 => simp [ecells]
    | k + 1 =>
      rw [List.take_succ_cons]
      show List.take ((k + 1) * 2) ([_, _] ++ ecells r) = [_, _] ++ ecells (r.take k)
      rw [← ih k, show (k + 1) * 2 = k * 2 + 1 + 1 by omega]
      simp
/-- The entries l as a list v of the call's own memory. -/
def Ents (w : World) (v : Value) (l : List (Int × Int)) : Prop := w.ownsRow 0 35 2 v l.length (ecells l)
theorem Ents.nil (w : World) : Ents w (.slice none 0 0) [] := World.ownsRow_nil _ _ _ _
theorem Ents.form {w : World} {v : Value} {l : List (Int × Int)} (h : Ents w v l) : ∃ ao ca, v = .slice ao l.length ca ∧ ca ≤ 9223372036854775807 ∧ l.length ≤ ca := by
  rcases h.2 with ⟨rfl, e⟩ | ⟨g, cap, cur, rfl, _, _, a, b, _⟩
  · exact ⟨_, _, by rw [e], by omega, by omega⟩
  · exact ⟨_, _, rfl, by unfold maxLen at b; omega, a⟩
theorem Ents.at {w : World} {v : Value} {l : List (Int × Int)} (h : Ents w v l) (hl : l ≠ []) : ∃ g ca, v = .slice (some ⟨g, 0, none⟩) l.length ca ∧ (∀ i (hi : i < l.length), w.cell? ⟨g, i * 2, none⟩ = some (.int .i64 l[i].1) ∧ w.cell? ⟨g, i * 2 + 1, none⟩ = some (.int .i64 l[i].2)) ∧ l.length ≤ ca ∧ ca ≤ 9223372036854775807 ∧ g < w.heap.size := by
  have h0 := h
  rcases h.2 with ⟨rfl, e⟩ | ⟨g, cap, cur, rfl, _, hh, a, b, c, d⟩
  · exact absurd (List.length_eq_zero_iff.1 e) hl
  · refine ⟨g, cap, rfl, fun i hi => ?_, a, by unfold maxLen at b; omega, heap_lt hh⟩
    obtain ⟨e1, e2⟩ := ecells_get l i hi
    have hc : ∀ j, j < l.length * 2 → w.cell? ⟨g, j, none⟩ = (ecells l)[j]? := by
      intro j hj
      rw [← d, List.getElem?_take_of_lt hj]
      simp [World.cell?, hh]
    exact ⟨by rw [hc _ (by omega), e1], by rw [hc _ (by omega), e2]⟩
theorem Ents.but {X : Nat → Prop} {A B : World} {v : Value} {l : List (Int × Int)} (h : Ents A v l) (hb : But X A B) (hx : ∀ k, v.ownBlock = some k → ¬ X k) : Ents B v l := by
  refine ⟨h.1, ?_⟩
  rcases h.2 with h | ⟨g, cap, cur, rfl, hg, hh, r⟩
  · exact .inl h
  · exact .inr ⟨g, cap, cur, rfl, hg, hb.at hh (hx g rfl), r⟩
theorem Ents.below {A B : World} {v : Value} {l : List (Int × Int)} (h : Ents A v l) (hb : Below A.heap.size A B) : Ents B v l := h.but (But.of_below hb fun _ => False) fun _ _ c => c
theorem Ents.no {w : World} {v : Value} {l : List (Int × Int)} {b : Nat} {cs : Array Value} {T : TypeId} {fz : Nat × Nat} (h : Ents w v l) (hb : w.heap[b]? = some (.cells cs T fz)) (hT : T ≠ 35) : v.ownBlock ≠ some b := fun e1 => by
  rcases h.2 with ⟨rfl, _⟩ | ⟨g, cap, cur, rfl, hg, hh, r⟩
  · simp [Value.ownBlock] at e1
  · simp [Value.ownBlock] at e1
    subst e1
    rw [hb] at hh
    simp at hh
    exact hT hh.2.1
theorem Ents.lt {w : World} {v : Value} {l : List (Int × Int)} (h : Ents w v l) : ∀ k, v.ownBlock = some k → k < w.heap.size := fun k hk => (World.ownsRow.lt h k hk).2
theorem Ents.take {w : World} {g n ca : Nat} {l : List (Int × Int)} (h : Ents w (.slice (some ⟨g, 0, none⟩) n ca) l) (k : Nat) (hk : k ≤ l.length) : Ents w (.slice (some ⟨g, 0, none⟩) k ca) (l.take k) := by
  have hl : (l.take k).length = k := by simp; omega
  refine ⟨by rw [hl, ecells_len, hl], .inr ?_⟩
  rcases h.2 with ⟨e, _⟩ | ⟨g', cap, cur, e, hg, hh, a, b, c, d⟩
  · simp at e
  · simp at e
    obtain ⟨rfl, _, rfl⟩ := e
    refine ⟨g, ca, cur, by rw [hl], hg, hh, by omega, b, c, ?_⟩
    rw [hl, ← ecells_take, ← d, List.take_take]
    congr 1
    omega
/-- At block b lies an index x (of the program's type, or of the document's), its entries the list v. -/
structure At (T : TypeId) (w : World) (b : Nat) (x : X) (v : Value) : Prop where
  box : w.heap[b]? = some (.cells #[.int .i64 (x.st : Int), v, .int .i64 x.la.1, .int .i64 x.la.2] T (0, 0))
  row : Ents w v x.l
/-- The blocks that an index has. -/
def Own (b : Nat) (v : Value) : Nat → Prop := fun k => k = b ∨ v.ownBlock = some k
theorem At.but {T : TypeId} {Y : Nat → Prop} {A B : World} {b : Nat} {x : X} {v : Value} (h : At T A b x v) (hb : But Y A B) (hx : ∀ k, Own b v k → ¬ Y k) : At T B b x v :=
  ⟨hb.at h.box (hx b (.inl rfl)), h.row.but hb fun k hk => hx k (.inr hk)⟩
theorem At.below {T : TypeId} {A B : World} {b : Nat} {x : X} {v : Value} (h : At T A b x v) (hb : Below A.heap.size A B) : At T B b x v := h.but (But.of_below hb fun _ => False) fun _ _ c => c
theorem At.lt {T : TypeId} {w : World} {b : Nat} {x : X} {v : Value} (h : At T w b x v) : ∀ k, Own b v k → k < w.heap.size := by
  rintro k (rfl | hk)
  · exact heap_lt h.box
  · exact h.row.lt k hk
theorem At.cells {T : TypeId} {w : World} {b : Nat} {x : X} {v : Value} (h : At T w b x v) : w.cell? ⟨b, 0, none⟩ = some (.int .i64 (x.st : Int)) ∧ w.cell? ⟨b, 1, none⟩ = some v ∧ w.cell? ⟨b, 2, none⟩ = some (.int .i64 x.la.1) ∧ w.cell? ⟨b, 3, none⟩ = some (.int .i64 x.la.2) := by
  have := h.box
  simp [World.cell?, this]
theorem At.frozen {T : TypeId} {w : World} {b : Nat} {x : X} {v : Value} (h : At T w b x v) : w.frozen? ⟨b, 0, none⟩ = false ∧ w.frozen? ⟨b, 1, none⟩ = false ∧ w.frozen? ⟨b, 2, none⟩ = false ∧ w.frozen? ⟨b, 3, none⟩ = false := by
  have := h.box
  simp [World.frozen?, this]
/-- The types of the two kinds. -/
def TI : TypeId := 58
def TR : TypeId := 38
/-- What New owes. -/
def DoesNew (T : TypeId) (f : Nat) : Prop := ∀ (w : World) (st : Int), -9223372036854775808 ≤ st → st ≤ 9223372036854775807 →
  Calls Try.prog f #[.int .i64 st] w fun e w' => Below w.heap.size w w' ∧ ((¬ (1 ≤ st ∧ st ≤ 1048576) ∧ e = .returned (.tuple #[.pointer none, .int .i64 1])) ∨
    (1 ≤ st ∧ st ≤ 1048576 ∧ ∃ b, w.heap.size ≤ b ∧ e = .returned (.tuple #[.pointer (some ⟨b, 0, none⟩), .int .i64 0]) ∧ At T w' b ⟨st.toNat, [], (0, 0)⟩ (.slice none 0 0)))

theorem new_any : DoesNew TI 9 := by
  intro w st h0 h1
  by_cases h2 : 1 ≤ st ∧ st ≤ 1048576
  · obtain ⟨g1, g2⟩ := h2
    go_enter Try.func9, Try.ntmps9
    go_wp2_with fail
    go_ret2
    refine ⟨box_below _ _, .inr ⟨g1, g2, _, Nat.le_refl _, rfl, ?_, Ents.nil _⟩⟩
    rw [heap_alloc_new]
    simp [TI]; omega
  · go_enter Try.func9, Try.ntmps9
    by_cases g1 : st < 1
    · go_wp2_with fail
      go_ret2
      exact ⟨Below.refl _ _, by first | exact .inl ⟨h2, rfl⟩ | exact .inl rfl⟩
    · have g2 : 1048576 < st := by omega
      go_wp2_with fail
      go_ret2
      exact ⟨Below.refl _ _, by first | exact .inl ⟨h2, rfl⟩ | exact .inl rfl⟩
theorem refNew_any : DoesNew TR 10 := by
  intro w st h0 h1
  by_cases h2 : 1 ≤ st ∧ st ≤ 1048576
  · obtain ⟨g1, g2⟩ := h2
    go_enter Try.func10, Try.ntmps10
    go_wp2_with fail
    go_ret2
    refine ⟨box_below _ _, .inr ⟨g1, g2, _, Nat.le_refl _, rfl, ?_, Ents.nil _⟩⟩
    rw [heap_alloc_new]
    simp [TR]; omega
  · go_enter Try.func10, Try.ntmps10
    by_cases g1 : st < 1
    · go_wp2_with fail
      go_ret2
      exact ⟨Below.refl _ _, by first | exact .inl ⟨h2, rfl⟩ | exact .inl rfl⟩
    · have g2 : 1048576 < st := by omega
      go_wp2_with fail
      go_ret2
      exact ⟨Below.refl _ _, by first | exact .inl ⟨h2, rfl⟩ | exact .inl rfl⟩

theorem follows_any (w : World) (a1 a2 n o : Int) (h0 : 1 ≤ n) (h1 : n ≤ 9223372036854775807) :
    Calls Try.prog 27 #[.agg #[.int .i64 a1, .int .i64 a2], .agg #[.int .i64 n, .int .i64 o]] w fun e w' => e = .returned (.bool (decide (n - 1 = a1 ∧ a2 < o))) ∧ Below w.heap.size w w' := by
  have hB := hide ((box_below w (.cells #[.int .i64 a1, .int .i64 a2] 35)).alloc (by simp) (.cells #[.int .i64 n, .int .i64 o] 35))
  have hw : IntKind.i64.wrap (n - 1) = n - 1 := by rw [IntKind.wrap_i64]; omega
  go_enter Try.func27, Try.ntmps27
  by_cases h2 : n - 1 = a1
  · subst h2
    by_cases h3 : a2 < o
    · go_wp2_with fail
      go_ret
      exact ⟨by simp, hB.out⟩
    · go_wp2_with fail
      go_ret
      exact ⟨by simp [h3], hB.out⟩
  · go_wp2_with fail
    go_ret
    exact ⟨by simp [h2], hB.out⟩
/-- Is a frame at o far enough behind the last entry? -/
def farF (x : X) (o : Int) : Bool := decide (x.l = [] ∨ (x.st : Int) ≤ o - (lastE x.l).2)
theorem far_any (w : World) (b : Nat) (x : X) (v : Value) (o : Int) (h : At TI w b x v) (hk : Ok x) (h0 : 0 ≤ o) (h1 : o ≤ 2147483647) :
    Calls Try.prog 28 #[.pointer (some ⟨b, 0, none⟩), .int .i64 o] w fun e w' => e = .returned (.bool (farF x o)) ∧ Qt w w' := by
  obtain ⟨c0, c1, _, _⟩ := h.cells
  by_cases hl : x.l = []
  · have hf : Hid (farF x o = true) := by show _ = _; simp [farF, hl]
    obtain ⟨ao, ca, rfl, q1, q2⟩ := h.row.form
    rw [hl] at c1
    simp only [List.length_nil] at c1
    clear h q1 q2 hl
    go_enter Try.func28, Try.ntmps28
    go_wp2_with fail
    go_quiet (fail)
    go_wp2_with fail
    go_ret
    exact ⟨by rw [hf.out]; rfl, ⟨_, rfl⟩⟩
  · obtain ⟨g, ca, rfl, hc, q1, q2, _⟩ := h.row.at hl
    have hp := List.length_pos_iff.2 hl
    obtain ⟨M, hM⟩ : ∃ M, x.l.length = M + 1 := ⟨x.l.length - 1, by omega⟩
    obtain ⟨k0, k1⟩ := hc M (by omega)
    have hle : lastE x.l = x.l[M]'(by omega) := by rw [lastE_get hl]; congr 1; omega
    have hr := hk.srt.rng _ (List.getElem_mem (show M < x.l.length by omega))
    have hf : Hid (farF x o = decide ((x.st : Int) ≤ o - (x.l[M]'(by omega)).2)) := by show _ = _; unfold farF; rw [hle]; simp [hl]
    have hlen := hk.srt.len
    have hs0 := hk.srt.s1
    generalize (x.l[M]'(by omega)) = en at *
    obtain ⟨e1, e2⟩ := en
    simp only at k0 k1 hf hr
    obtain ⟨r1, r2, r3, r4⟩ := hr
    rw [hM] at c1 q1 hlen
    have hw : IntKind.i64.wrap (o - e2) = o - e2 := by rw [IntKind.wrap_i64]; omega
    have hne : ¬ ((M : Int) + 1 = 0) := by omega
    have hw2 : IntKind.i64.wrap (M : Int) = (M : Int) := by rw [IntKind.wrap_i64]; omega
    have hb0 : ((M : Int) + 1 == 0) = false := by simpa using hne
    obtain ⟨st, hst⟩ : ∃ st, x.st = st := ⟨_, rfl⟩
    rw [hst] at c0 hf hs0
    clear h hle hM hp hc hl hst hk
    go_enter Try.func28, Try.ntmps28
    go_wp2_with fail
    go_quiet (fail)
    go_wp2_with fail
    go_ret
    exact ⟨by rw [hf.out]; first | rfl | simp, ⟨_, rfl⟩⟩
end Go.Proofs.Ytoffahbnffhliaa.Ix
