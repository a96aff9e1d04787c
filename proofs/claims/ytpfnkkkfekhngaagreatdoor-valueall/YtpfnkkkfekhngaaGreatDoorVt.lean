/-
  Things in memory, and worlds that are alike but for one block.
-/
import Derived.Test.YtpfnkkkfekhngaaGreatDoorVb
namespace Go.Proofs.YtpfnkkkfekhngaaGreatDoor.Va
open Go.RowKit Go.Proofs.YtpfnkkkfekhngaaGreatDoor.Rl
set_option maxRecDepth 100000

/-- The world w' is as w was, but for block m and new blocks. -/
structure But (m : Nat) (w w' : World) : Prop where
  os : w'.os = w.os
  tape : w'.tape = w.tape
  output : w'.output = w.output
  size : w.heap.size ≤ w'.heap.size
  block : ∀ k, k < w.heap.size → k ≠ m → w'.heap[k]? = w.heap[k]?
theorem But.refl (m : Nat) (w : World) : But m w w := ⟨rfl, rfl, rfl, Nat.le_refl _, fun _ _ _ => rfl⟩
theorem But.trans {m : Nat} {a b c : World} (h : But m a b) (k : But m b c) : But m a c :=
  ⟨k.os.trans h.os, k.tape.trans h.tape, k.output.trans h.output, Nat.le_trans h.size k.size, fun i hi hm => (k.block i (by have := h.size; omega) hm).trans (h.block i hi hm)⟩
theorem But.of {m : Nat} {a b : World} (h : Below a.heap.size a b) : But m a b := ⟨h.os, h.tape, h.output, h.size, fun k hk _ => h.block k hk⟩
theorem But.drew {m : Nat} {a b : World} (h : But m a b) : But m a b.drew := ⟨h.os, h.tape, h.output, h.size, h.block⟩
theorem But.set (m : Nat) (w : World) (i : Nat) (v : Value) : But m w (w.setCell ⟨m, i, none⟩ v) :=
  ⟨rfl, rfl, rfl, by simp [World.setCell], fun k _ hk => Below.heap_setCell _ _ _ _ hk⟩
theorem But.below {m : Nat} {a b : World} (h : But m a b) {B : Nat} (hB : B ≤ m) (hs : B ≤ a.heap.size) : Below B a b := ⟨h.os, h.tape, h.output, h.size, fun k hk => h.block k (by omega) (by omega)⟩
theorem But.cell {m : Nat} {a b : World} (h : But m a b) {p : Addr} {v : Value} (hc : a.cell? p = some v) (hp : p.block ≠ m) : b.cell? p = some v :=
  (World.cell?_of_block (w := a) (h.block p.block (lt_of_cell hc) hp)).trans hc
mutual
/-- The interface value v is the value x as a thing, its lists in blocks of S. -/
def IsT (S : Nat → Prop) (w : World) : Value → Val → Prop
  | v, .mk k n r t l => (k = 1 ∧ v = .iface 93 (.agg #[])) ∨ (k = 2 ∧ v = .iface 100 (.int .i64 n)) ∨ (k = 3 ∧ v = .iface 101 (.int .i64 n)) ∨ (k = 4 ∧ v = .iface 102 (.float .f64 r)) ∨ (k = 5 ∧ v = .iface 103 (.string (bstr t))) ∨ (k = 6 ∧ ∃ ao cap, v = .iface 109 (.slice ao l.length cap) ∧ l.length ≤ cap ∧ cap ≤ maxLen ∧ IsTL S w ao 0 l)
/-- From the i-th element on the things lie there. -/
def IsTL (S : Nat → Prop) (w : World) (ao : Option Addr) : Nat → List Val → Prop
  | _, [] => True
  | i, x :: r => (∃ b off c, ao = some ⟨b, off, none⟩ ∧ S b ∧ w.cell? ⟨b, off + i, none⟩ = some c ∧ IsT S w c x) ∧ IsTL S w ao (i + 1) r
end
theorem IsTL.get {S : Nat → Prop} {w : World} {ao : Option Addr} : ∀ {l : List Val} {i : Nat}, IsTL S w ao i l → ∀ j (h : j < l.length), ∃ b off c, ao = some ⟨b, off, none⟩ ∧ S b ∧ w.cell? ⟨b, off + (i + j), none⟩ = some c ∧ IsT S w c l[j]
  | [], _, _, j, h => by simp at h
  | x :: r, i, hh, 0, _ => by rw [IsTL] at hh; exact hh.1
  | x :: r, i, hh, j + 1, h => by
    rw [IsTL] at hh
    have := IsTL.get hh.2 j (by simpa using h)
    rw [show i + 1 + j = i + (j + 1) by omega] at this
    exact this
theorem isTL_of {S : Nat → Prop} {w : World} {ao : Option Addr} : ∀ (l : List Val) (i : Nat), (∀ j (h : j < l.length), ∃ b off c, ao = some ⟨b, off, none⟩ ∧ S b ∧ w.cell? ⟨b, off + (i + j), none⟩ = some c ∧ IsT S w c l[j]) → IsTL S w ao i l
  | [], i, _ => by rw [IsTL]; trivial
  | x :: r, i, h => by
    rw [IsTL]
    refine ⟨h 0 (by simp), isTL_of r (i + 1) fun j hj => ?_⟩
    have := h (j + 1) (by simpa using hj)
    rw [show i + (j + 1) = i + 1 + j by omega] at this
    exact this
/-- Where the blocks of S are as they were, things stay. -/
theorem IsT.keep {S S' : Nat → Prop} {w w' : World} (hb : ∀ b, S b → b < w.heap.size → w'.heap[b]? = w.heap[b]? ∧ S' b) (x : Val) : ∀ (v : Value), IsT S w v x → IsT S' w' v x := by
  induction x using Val.ind with
  | h k n r t l ih =>
    intro v h
    rw [IsT] at h ⊢
    rcases h with h | h | h | h | h | ⟨h, ao, cap, h1, h2, h3, h4⟩
    · exact Or.inl h
    · exact Or.inr (Or.inl h)
    · exact Or.inr (Or.inr (Or.inl h))
    · exact Or.inr (Or.inr (Or.inr (Or.inl h)))
    · exact Or.inr (Or.inr (Or.inr (Or.inr (Or.inl h))))
    · refine Or.inr (Or.inr (Or.inr (Or.inr (Or.inr ⟨h, ao, cap, h1, h2, h3, isTL_of l 0 fun j hj => ?_⟩))))
      obtain ⟨b, off, c, e, hB, hc, hx⟩ := IsTL.get h4 j hj
      obtain ⟨g1, g2⟩ := hb b hB (lt_of_cell hc)
      exact ⟨b, off, c, e, g2, (World.cell?_of_block (w := w) (a := ⟨b, off + (0 + j), none⟩) g1).trans hc, ih _ (List.getElem_mem hj) _ hx⟩
theorem IsT.but {S : Nat → Prop} {m : Nat} {w w' : World} (hb : But m w w') (hm : ¬ S m) {x : Val} {v : Value} (h : IsT S w v x) : IsT S w' v x :=
  IsT.keep (fun b hS hlt => ⟨hb.block b hlt (fun e => hm (e ▸ hS)), hS⟩) x v h
theorem IsT.down {S S' : Nat → Prop} {w : World} (hm : ∀ b, S b → b < w.heap.size → S' b) {x : Val} {v : Value} (h : IsT S w v x) : IsT S' w v x :=
  IsT.keep (fun b hS hlt => ⟨rfl, hm b hS hlt⟩) x v h
theorem IsT.below {S : Nat → Prop} {w w' : World} (hb : Below w.heap.size w w') {x : Val} {v : Value} (h : IsT S w v x) : IsT S w' v x :=
  IsT.keep (fun b hS hlt => ⟨hb.block b hlt, hS⟩) x v h
end Go.Proofs.YtpfnkkkfekhngaaGreatDoor.Va
