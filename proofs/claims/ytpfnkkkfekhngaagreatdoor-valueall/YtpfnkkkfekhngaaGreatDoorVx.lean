/-
  Values in new memory: each list in a block of its own.
-/
import Derived.Test.YtpfnkkkfekhngaaGreatDoorVb
import Derived.Test.YtpfnkkkfekhngaaGreatDoorVm
namespace Go.Proofs.YtpfnkkkfekhngaaGreatDoor.Va
open Go.RowKit Go.Proofs.YtpfnkkkfekhngaaGreatDoor.Rl
set_option maxRecDepth 100000

mutual
/-- The struct v is the value x, its lists in blocks from lo on and below hi, each in one of its own, as long as it. -/
def NewV (w : World) : Nat → Nat → Value → Val → Prop
  | lo, hi, v, .mk k n r t l => ∃ ao cap, v = .agg #[.int .i64 k, .int .i64 n, .float .f64 r, .string (bstr t), .slice ao l.length cap] ∧ t.length ≤ 140737488355328 ∧ ((ao = none ∧ l = [] ∧ cap = 0) ∨ ∃ (b : Nat) (cs : Array Value) (f : Nat → Nat), ao = some ⟨b, 0, none⟩ ∧ cap = l.length ∧ l.length ≤ 65536 ∧ lo ≤ b ∧ b < f 0 ∧ f l.length ≤ hi ∧ w.heap[b]? = some (.cells cs 35 (0, 0)) ∧ cs.size = l.length * 5 ∧ NewL w b f 0 l)
/-- From the i-th element on. -/
def NewL (w : World) (b : Nat) (f : Nat → Nat) : Nat → List Val → Prop
  | _, [] => True
  | i, x :: r => (f i ≤ f (i + 1) ∧ ∃ c0 c1 c2 c3 c4, w.cell? ⟨b, i * 5, none⟩ = some c0 ∧ w.cell? ⟨b, i * 5 + 1, none⟩ = some c1 ∧ w.cell? ⟨b, i * 5 + 2, none⟩ = some c2 ∧ w.cell? ⟨b, i * 5 + 3, none⟩ = some c3 ∧ w.cell? ⟨b, i * 5 + 4, none⟩ = some c4 ∧ NewV w (f i) (f (i + 1)) (.agg #[c0, c1, c2, c3, c4]) x) ∧ NewL w b f (i + 1) r
end
theorem NewL.get {w : World} {b : Nat} {f : Nat → Nat} : ∀ {l : List Val} {i : Nat}, NewL w b f i l → ∀ j (h : j < l.length), f (i + j) ≤ f (i + j + 1) ∧ ∃ c0 c1 c2 c3 c4, w.cell? ⟨b, (i + j) * 5, none⟩ = some c0 ∧ w.cell? ⟨b, (i + j) * 5 + 1, none⟩ = some c1 ∧ w.cell? ⟨b, (i + j) * 5 + 2, none⟩ = some c2 ∧ w.cell? ⟨b, (i + j) * 5 + 3, none⟩ = some c3 ∧ w.cell? ⟨b, (i + j) * 5 + 4, none⟩ = some c4 ∧ NewV w (f (i + j)) (f (i + j + 1)) (.agg #[c0, c1, c2, c3, c4]) l[j]
  | [], _, _, j, h => by simp at h
  | x :: r, i, hh, 0, _ => by rw [NewL] at hh; exact hh.1
  | x :: r, i, hh, j + 1, h => by
    rw [NewL] at hh
    have := NewL.get hh.2 j (by simpa using h)
    rw [show i + 1 + j = i + (j + 1) by omega] at this
    exact this
theorem newL_of {w : World} {b : Nat} {f : Nat → Nat} : ∀ (l : List Val) (i : Nat), (∀ j (h : j < l.length), f (i + j) ≤ f (i + j + 1) ∧ ∃ c0 c1 c2 c3 c4, w.cell? ⟨b, (i + j) * 5, none⟩ = some c0 ∧ w.cell? ⟨b, (i + j) * 5 + 1, none⟩ = some c1 ∧ w.cell? ⟨b, (i + j) * 5 + 2, none⟩ = some c2 ∧ w.cell? ⟨b, (i + j) * 5 + 3, none⟩ = some c3 ∧ w.cell? ⟨b, (i + j) * 5 + 4, none⟩ = some c4 ∧ NewV w (f (i + j)) (f (i + j + 1)) (.agg #[c0, c1, c2, c3, c4]) l[j]) → NewL w b f i l
  | [], i, _ => by rw [NewL]; trivial
  | x :: r, i, h => by
    rw [NewL]
    refine ⟨h 0 (by simp), newL_of r (i + 1) fun j hj => ?_⟩
    have := h (j + 1) (by simpa using hj)
    rw [show i + (j + 1) = i + 1 + j by omega] at this
    exact this
theorem chain_le {f : Nat → Nat} {n : Nat} (h : ∀ j, j < n → f j ≤ f (j + 1)) : ∀ j, j ≤ n → ∀ i, i ≤ j → f i ≤ f j := by
  intro j
  induction j with
  | zero => intro _ i hi; rw [show i = 0 by omega]; exact Nat.le_refl _
  | succ j ih =>
    intro hj i hi
    by_cases e : i = j + 1
    · rw [e]; exact Nat.le_refl _
    · exact Nat.le_trans (ih (by omega) i (by omega)) (h j (by omega))
/-- Where the blocks are as they were, the value stays. -/
theorem NewV.keep {w w' : World} (x : Val) : ∀ (lo hi : Nat) (v : Value), (∀ b, lo ≤ b → b < hi → w'.heap[b]? = w.heap[b]?) → NewV w lo hi v x → NewV w' lo hi v x := by
  induction x using Val.ind with
  | h k n r t l ih =>
    intro lo hi v hb h
    rw [NewV] at h ⊢
    obtain ⟨ao, cap, e, ht, h⟩ := h
    refine ⟨ao, cap, e, ht, ?_⟩
    rcases h with h | ⟨b, cs, f, h1, h2, h3, h4, h5, h6, h7, h8, h9⟩
    · exact Or.inl h
    · have hch : ∀ j, j < l.length → f j ≤ f (j + 1) := fun j hj => by have := (NewL.get h9 j hj).1; rwa [Nat.zero_add] at this
      have h0 := chain_le hch l.length (Nat.le_refl _) 0 (Nat.zero_le _)
      have hbb : w'.heap[b]? = w.heap[b]? := hb b h4 (by omega)
      refine Or.inr ⟨b, cs, f, h1, h2, h3, h4, h5, h6, hbb.trans h7, h8, newL_of l 0 fun j hj => ?_⟩
      obtain ⟨g, c0, c1, c2, c3, c4, d0, d1, d2, d3, d4, hx⟩ := NewL.get h9 j hj
      have cell : ∀ o c, w.cell? ⟨b, o, none⟩ = some c → w'.cell? ⟨b, o, none⟩ = some c := fun o c hc => (World.cell?_of_block (w := w) (a := ⟨b, o, none⟩) hbb).trans hc
      refine ⟨g, c0, c1, c2, c3, c4, cell _ _ d0, cell _ _ d1, cell _ _ d2, cell _ _ d3, cell _ _ d4, ih _ (List.getElem_mem hj) _ _ _ (fun q q1 q2 => hb q ?_ ?_) hx⟩
      · have := chain_le hch (0 + j) (by omega) 0 (by omega)
        omega
      · have := chain_le hch l.length (Nat.le_refl _) (0 + j + 1) (by omega)
        omega
theorem NewV.wide {w : World} {lo lo' hi hi' : Nat} {v : Value} : ∀ {x : Val}, lo' ≤ lo → hi ≤ hi' → NewV w lo hi v x → NewV w lo' hi' v x
  | .mk k n r t l, h1, h2, h => by
    rw [NewV] at h ⊢
    obtain ⟨ao, cap, e, ht, h⟩ := h
    refine ⟨ao, cap, e, ht, ?_⟩
    rcases h with h | ⟨b, cs, f, g1, g2, g3, g4, g5, g6, g⟩
    · exact Or.inl h
    · exact Or.inr ⟨b, cs, f, g1, g2, g3, by omega, g5, by omega, g⟩
theorem NewV.isV {w : World} (x : Val) : ∀ (lo hi : Nat) (v : Value), NewV w lo hi v x → IsV w v x := by
  induction x using Val.ind with
  | h k n r t l ih =>
    intro lo hi v h
    rw [NewV] at h
    rw [IsV]
    obtain ⟨ao, cap, e, ht, h⟩ := h
    rcases h with ⟨rfl, rfl, rfl⟩ | ⟨b, cs, f, rfl, rfl, h3, h4, h5, h6, h7, h8, h9⟩
    · exact ⟨none, 0, e, fun _ => ⟨rfl, rfl⟩, Nat.le_refl _, Nat.zero_le _, ht, by rw [IsL]; trivial⟩
    · refine ⟨_, _, e, fun e => by simp at e, Nat.le_refl _, by unfold maxLen; omega, ht, isL_of l 0 fun j hj => ?_⟩
      obtain ⟨g, c0, c1, c2, c3, c4, d0, d1, d2, d3, d4, hx⟩ := NewL.get h9 j hj
      simp only [Nat.zero_add] at d0 d1 d2 d3 d4
      refine ⟨c0, c1, c2, c3, c4, ?_, ?_, ?_, ?_, ?_, ih _ (List.getElem_mem hj) _ _ _ hx⟩
      all_goals simp only [Nat.zero_add]
      all_goals assumption
end Go.Proofs.YtpfnkkkfekhngaaGreatDoor.Va
