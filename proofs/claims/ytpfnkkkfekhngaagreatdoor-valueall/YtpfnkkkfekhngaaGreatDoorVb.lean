/-
  What functions of values owe.
-/
import Derived.Test.YtpfnkkkfekhngaaGreatDoorVe
import Derived.Test.YtpfnkkkfekhngaaGreatDoorVo
namespace Go.Proofs.YtpfnkkkfekhngaaGreatDoor.Va
open Go.RowKit Go.Proofs.YtpfnkkkfekhngaaGreatDoor.Rl
set_option maxRecDepth 100000

theorem box_cell (w : World) (cs : Array Value) (T : TypeId) (j : Nat) (v : Value) (h : cs[j]? = some v) : (w.alloc (.cells cs T)).cell? ⟨w.heap.size, j, none⟩ = some v := by
  unfold World.cell?
  simp only [heap_alloc_new]
  exact h
/-- What a function of one value owes. -/
def Does1 (f : Nat) (g : Val → Value) : Prop := ∀ (w : World) (v : Value) (x : Val), IsV w v x → wtV x → Calls Tryz.prog f #[v] w fun e w' => e = .returned (g x) ∧ Below w.heap.size w w'
/-- What a function of two values owes. -/
def Does2 (f : Nat) (g : Val → Val → Value) : Prop := ∀ (w : World) (v u : Value) (x y : Val), IsV w v x → IsV w u y → wtV x → wtV y → Calls Tryz.prog f #[v, u] w fun e w' => e = .returned (g x y) ∧ Below w.heap.size w w'
/-- What bytealg.MaxLen holds is a number. -/
def Mx (w : World) : Prop := ∃ m : Int, w.cell? ⟨1, 0, none⟩ = some (.int .i64 m)
theorem Mx.below {w w' : World} (h : Mx w) (hb : Below w.heap.size w w') : Mx w' := by
  obtain ⟨m, h⟩ := h
  exact ⟨m, (hb.cell (lt_of_cell h)).trans h⟩
def Does0 (f : Nat) : Prop := ∀ w : World, Mx w → Calls Tryz.prog f #[] w fun e w' => e = .returned (.bool true) ∧ Below w.heap.size w w'
end Go.Proofs.YtpfnkkkfekhngaaGreatDoor.Va
