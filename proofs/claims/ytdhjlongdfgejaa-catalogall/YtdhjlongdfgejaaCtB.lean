/-
  Segments in memory; may a catalog be: the program's.
-/
import Derived.Test.YtdhjlongdfgejaaCtA
import Derived.Test.YtdhjlongdfgejaaFe
import Derived.Test.YtdhjlongdfgejaaIt
import Derived.BigQuiet
namespace Go.Proofs.Ytdhjlongdfgejaa.Ct
open Go.RowKit

def scell (s : Sg) : List Value := [.int .i64 s.nm, .int .i64 s.ba, .int .u32 (s.se : Int), .int .i64 s.en, .int .i64 s.sz]
def scells (l : List Sg) : List Value := l.flatMap scell
/-- A segment as a value. -/
def sval (s : Sg) : Value := .agg #[.int .i64 s.nm, .int .i64 s.ba, .int .u32 (s.se : Int), .int .i64 s.en, .int .i64 s.sz]
/-- At block b from off on lies the segment s. -/
def SAt (w : World) (b off : Nat) (s : Sg) : Prop := w.cell? ⟨b, off, none⟩ = some (.int .i64 s.nm) ∧ w.cell? ⟨b, off + 1, none⟩ = some (.int .i64 s.ba) ∧ w.cell? ⟨b, off + 2, none⟩ = some (.int .u32 (s.se : Int)) ∧ w.cell? ⟨b, off + 3, none⟩ = some (.int .i64 s.en) ∧ w.cell? ⟨b, off + 4, none⟩ = some (.int .i64 s.sz)
/-- The value v is a slice whose segments are l. -/
def Sgs (w : World) (v : Value) (l : List Sg) : Prop :=
  AIn l ∧ ∃ ao cap, v = .slice ao l.length cap ∧ (ao = none → l = [] ∧ cap = 0) ∧ l.length ≤ cap ∧ cap ≤ maxLen ∧ ∀ i (_ : i < l.length), ∃ b off, ao = some ⟨b, off, none⟩ ∧ SAt w b (off + i * 5) (sg l i)
theorem SAt.below {w w' : World} {b off : Nat} {s : Sg} (h : SAt w b off s) (hb : Below w.heap.size w w') : SAt w' b off s := by
  obtain ⟨h0, h1, h2, h3, h4⟩ := h
  exact ⟨by rw [hb.cell (lt_of_cell h0)]; exact h0, by rw [hb.cell (lt_of_cell h1)]; exact h1, by rw [hb.cell (lt_of_cell h2)]; exact h2, by rw [hb.cell (lt_of_cell h3)]; exact h3, by rw [hb.cell (lt_of_cell h4)]; exact h4⟩
theorem Sgs.below {w w' : World} {v : Value} {l : List Sg} (h : Sgs w v l) (hb : Below w.heap.size w w') : Sgs w' v l := by
  obtain ⟨h0, ao, cap, h1, h2, h3, h4, h5⟩ := h
  exact ⟨h0, ao, cap, h1, h2, h3, h4, fun i hi => by obtain ⟨b, off, e, g⟩ := h5 i hi; exact ⟨b, off, e, g.below hb⟩⟩
theorem Sgs.nil (w : World) : Sgs w (.slice none 0 0) [] := ⟨fun s hs => by simp at hs, none, 0, rfl, fun _ => ⟨rfl, rfl⟩, Nat.le_refl _, Nat.zero_le _, fun i hi => by simp at hi⟩
theorem Sgs.form {w : World} {v : Value} {l : List Sg} (h : Sgs w v l) : ∃ ao ca, v = .slice ao l.length ca ∧ l.length ≤ ca ∧ ca ≤ 9223372036854775807 := by
  obtain ⟨_, ao, cap, h1, h2, h3, h4, h5⟩ := h
  exact ⟨ao, cap, h1, h3, by unfold maxLen at h4; omega⟩
theorem Sgs.at {w : World} {v : Value} {l : List Sg} (h : Sgs w v l) (hl : 1 ≤ l.length) : ∃ b off ca, v = .slice (some ⟨b, off, none⟩) l.length ca ∧ l.length ≤ ca ∧ ca ≤ 9223372036854775807 ∧ ∀ i, i < l.length → SAt w b (off + i * 5) (sg l i) := by
  obtain ⟨_, ao, cap, h1, h2, h3, h4, h5⟩ := h
  obtain ⟨b, off, rfl, _⟩ := h5 0 (by omega)
  refine ⟨b, off, cap, h1, h3, by unfold maxLen at h4; omega, fun i hi => ?_⟩
  obtain ⟨b', off', e, g⟩ := h5 i hi
  simp only [Option.some.injEq, Addr.mk.injEq, and_true] at e
  obtain ⟨rfl, rfl⟩ := e
  exact g

theorem sealed_any (w : World) (s : Sg) : Calls Try.prog 53 #[.agg #[.int .i64 s.nm, .int .i64 s.ba, .int .u32 (s.se : Int), .int .i64 s.en, .int .i64 s.sz]] w fun e w' => (e = .returned (.bool true) ∧ sldF s ∨ e = .returned (.bool false) ∧ ¬ sldF s) ∧ Below w.heap.size w w' := by
  obtain ⟨nm, ba, se, en, sz⟩ := s
  have hB := hide (box_below w (.cells #[.int .i64 nm, .int .i64 ba, .int .u32 (se : Int), .int .i64 en, .int .i64 sz] 53))
  dsimp only
  go_enter Try.func53, Try.ntmps53
  by_cases h1 : en = 0
  · subst h1
    by_cases h2 : sz = 0
    · subst h2
      go_wp2_with fail
      go_ret
      exact ⟨.inr ⟨rfl, by simp [sldF]⟩, hB.out⟩
    · have h2' : (sz != 0) = true := by simpa using h2
      go_wp2_with fail
      go_ret
      exact ⟨.inl ⟨by simp, .inr h2⟩, hB.out⟩
  · have h1' : (en != 0) = true := by simpa using h1
    go_wp2_with fail
    go_ret
    exact ⟨.inl ⟨by simp, .inl h1⟩, hB.out⟩
#print axioms sealed_any
theorem maySealed_any (w : World) (s : Sg) : Calls Try.prog 33 #[.agg #[.int .i64 s.nm, .int .i64 s.ba, .int .u32 (s.se : Int), .int .i64 s.en, .int .i64 s.sz]] w fun e w' => (e = .returned (.bool true) ∧ slF s ∨ e = .returned (.bool false) ∧ ¬ slF s) ∧ Below w.heap.size w w' := by
  obtain ⟨nm, ba, se, en, sz⟩ := s
  have hB := hide (box_below w (.cells #[.int .i64 nm, .int .i64 ba, .int .u32 (se : Int), .int .i64 en, .int .i64 sz] 53))
  dsimp only
  go_enter Try.func33, Try.ntmps33
  by_cases h1 : 1 ≤ nm
  · by_cases h2 : 1 ≤ ba
    · by_cases h3 : ba ≤ en
      · by_cases h4 : 32 ≤ sz
        · by_cases h5 : sz ≤ 2147483647
          · go_wp2_with fail
            go_ret
            exact ⟨.inl ⟨rfl, h1, h2, h3, h4, h5⟩, hB.out⟩
          · go_wp2_with fail
            go_ret
            exact ⟨.inr ⟨rfl, fun c => by have c1 := c.2.2.2.2; simp only at c1; omega⟩, hB.out⟩
        · go_wp2_with fail
          go_ret
          exact ⟨.inr ⟨rfl, fun c => by have c1 := c.2.2.2.1; simp only at c1; omega⟩, hB.out⟩
      · go_wp2_with fail
        go_ret
        exact ⟨.inr ⟨rfl, fun c => by have c1 := c.2.2.1; simp only at c1; omega⟩, hB.out⟩
    · go_wp2_with fail
      go_ret
      exact ⟨.inr ⟨rfl, fun c => by have c1 := c.2.1; simp only at c1; omega⟩, hB.out⟩
  · go_wp2_with fail
    go_ret
    exact ⟨.inr ⟨rfl, fun c => by have c1 := c.1; simp only at c1; omega⟩, hB.out⟩
#print axioms maySealed_any
theorem follows_any (w : World) (s t : Sg) (hs : -9223372036854775808 ≤ s.nm) : Calls Try.prog 34 #[.agg #[.int .i64 s.nm, .int .i64 s.ba, .int .u32 (s.se : Int), .int .i64 s.en, .int .i64 s.sz], .agg #[.int .i64 t.nm, .int .i64 t.ba, .int .u32 (t.se : Int), .int .i64 t.en, .int .i64 t.sz]] w fun e w' => (e = .returned (.bool true) ∧ foF s t ∨ e = .returned (.bool false) ∧ ¬ foF s t) ∧ Below w.heap.size w w' := by
  obtain ⟨nm, ba, se, en, sz⟩ := s
  obtain ⟨nm', ba', se', en', sz'⟩ := t
  have hB := hide ((box_below w (.cells #[.int .i64 nm, .int .i64 ba, .int .u32 (se : Int), .int .i64 en, .int .i64 sz] 53)).alloc (by simp) (.cells #[.int .i64 nm', .int .i64 ba', .int .u32 (se' : Int), .int .i64 en', .int .i64 sz'] 53))
  dsimp only at hs ⊢
  go_enter Try.func34, Try.ntmps34
  by_cases h1 : nm < 9223372036854775807
  · have hw : IntKind.i64.wrap (nm + 1) = nm + 1 := by rw [IntKind.wrap_i64]; omega
    by_cases h2 : nm' = nm + 1
    · subst h2
      by_cases h3 : ba' = en
      · subst h3
        go_wp2_with fail
        go_ret
        exact ⟨.inl ⟨by simp, h1, rfl, rfl⟩, hB.out⟩
      · have h3' : (ba' == en) = false := by simpa using h3
        go_wp2_with fail
        go_ret
        exact ⟨.inr ⟨by simp, fun c => by have c1 := c.2.2; simp only at c1; omega⟩, hB.out⟩
    · have h2' : (nm' == nm + 1) = false := by simpa using h2
      go_wp2_with fail
      go_ret
      exact ⟨.inr ⟨by simp, fun c => by have c1 := c.2.1; simp only at c1; omega⟩, hB.out⟩
  · go_wp2_with fail
    go_ret
    exact ⟨.inr ⟨rfl, fun c => by have c1 := c.1; simp only at c1; omega⟩, hB.out⟩
#print axioms follows_any
theorem mayOpen_any (w : World) (s : Sg) : Calls Try.prog 35 #[.agg #[.int .i64 s.nm, .int .i64 s.ba, .int .u32 (s.se : Int), .int .i64 s.en, .int .i64 s.sz]] w fun e w' => (e = .returned (.bool true) ∧ opF s ∨ e = .returned (.bool false) ∧ ¬ opF s) ∧ Below w.heap.size w w' := by
  have CALL := hide (fun w => sealed_any w s)
  obtain ⟨nm, ba, se, en, sz⟩ := s
  have hB := hide (box_below w (.cells #[.int .i64 nm, .int .i64 ba, .int .u32 (se : Int), .int .i64 en, .int .i64 sz] 53))
  dsimp only at CALL ⊢
  go_enter Try.func35, Try.ntmps35
  by_cases h1 : 1 ≤ nm
  · by_cases h2 : 1 ≤ ba
    · go_wp2_with fail
      refine (CALL.out _).mono ?_
      rintro e w1 ⟨⟨rfl, h⟩ | ⟨rfl, h⟩, b1⟩
      · replace b1 := hide (keepF hB.out b1)
        go_wp2_with fail
        go_ret
        exact ⟨.inr ⟨rfl, fun c => c.2.2 h⟩, b1.out⟩
      · replace b1 := hide (keepF hB.out b1)
        go_wp2_with fail
        go_ret
        exact ⟨.inl ⟨rfl, h1, h2, h⟩, b1.out⟩
    · go_wp2_with fail
      go_ret
      exact ⟨.inr ⟨rfl, fun c => by have c1 := c.2.1; simp only at c1; omega⟩, hB.out⟩
  · go_wp2_with fail
    go_ret
    exact ⟨.inr ⟨rfl, fun c => by have c1 := c.1; simp only at c1; omega⟩, hB.out⟩
#print axioms mayOpen_any
theorem mayBegin_any (w : World) (f : Int) (s : Sg) : Calls Try.prog 36 #[.int .i64 f, .agg #[.int .i64 s.nm, .int .i64 s.ba, .int .u32 (s.se : Int), .int .i64 s.en, .int .i64 s.sz]] w fun e w' => (e = .returned (.bool true) ∧ beF f s ∨ e = .returned (.bool false) ∧ ¬ beF f s) ∧ Below w.heap.size w w' := by
  have CALL := hide (fun w => sealed_any w s)
  obtain ⟨nm, ba, se, en, sz⟩ := s
  have hB := hide (box_below w (.cells #[.int .i64 nm, .int .i64 ba, .int .u32 (se : Int), .int .i64 en, .int .i64 sz] 53))
  have hcs : ∀ w1, Below (w.alloc (.cells #[.int .i64 nm, .int .i64 ba, .int .u32 (se : Int), .int .i64 en, .int .i64 sz] 53)).heap.size (w.alloc (.cells #[.int .i64 nm, .int .i64 ba, .int .u32 (se : Int), .int .i64 en, .int .i64 sz] 53)) w1 → w1.cell? ⟨w.heap.size, 3, none⟩ = some (.int .i64 en) := by
    intro w1 b1
    have : w1.heap[w.heap.size]? = some (.cells #[.int .i64 nm, .int .i64 ba, .int .u32 (se : Int), .int .i64 en, .int .i64 sz] 53 (0, 0)) := by rw [b1.block w.heap.size (by simp), heap_alloc_new]
    simp [World.cell?, this]
  replace hcs := hide hcs
  dsimp only at CALL ⊢
  go_enter Try.func36, Try.ntmps36
  by_cases h1 : ba ≤ f
  · go_wp2_with fail
    refine (CALL.out _).mono ?_
    rintro e w1 ⟨⟨rfl, h⟩ | ⟨rfl, h⟩, b1⟩
    · have c3 := hcs.out w1 b1
      replace b1 := hide (keepF hB.out b1)
      by_cases h2 : f ≤ en
      · go_wp2_with fail
        go_ret
        exact ⟨.inl ⟨by first | rfl | simp [h2], h1, fun _ => h2⟩, b1.out⟩
      · go_wp2_with fail
        go_ret
        exact ⟨.inr ⟨by first | rfl | (simp; omega), fun c => by have c1 := (c.2 h); simp only at c1; omega⟩, b1.out⟩
    · replace b1 := hide (keepF hB.out b1)
      go_wp2_with fail
      go_ret
      exact ⟨.inl ⟨rfl, h1, fun c => absurd c h⟩, b1.out⟩
  · go_wp2_with fail
    go_ret
    exact ⟨.inr ⟨rfl, fun c => by have c1 := c.1; simp only at c1; omega⟩, hB.out⟩
#print axioms mayBegin_any
end Go.Proofs.Ytdhjlongdfgejaa.Ct
