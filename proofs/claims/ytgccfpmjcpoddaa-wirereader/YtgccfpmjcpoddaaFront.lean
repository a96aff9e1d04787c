/-
  What flumelaw1.front answers: whether one list of bytes is the front of the other.
-/
import Derived.Test.YtgccfpmjcpoddaaBegun
import Derived.Test.YtgccfpmjcpoddaaBack
namespace Go.Proofs.Ytgccfpmjcpoddaa
open Go.RowKit

theorem sl_head {w : World} {ao : Option Addr} {ca : Nat} {l : List UInt8} (n : Nat) (hn : n ≤ l.length) (g2 : ao = none → l = [] ∧ ca = 0) (g3 : l.length ≤ ca) (g4 : ca ≤ maxLen) (g5 : Rd w ao l) : Sl w (.slice ao n ca) (l.take n) := by
  have hl : (l.take n).length = n := by simp; omega
  refine ⟨ao, ca, by rw [hl], fun e => ?_, by omega, g4, fun i hi => ?_⟩
  · obtain ⟨e1, e2⟩ := g2 e
    exact ⟨by rw [e1]; simp, e2⟩
  · obtain ⟨b, off, e1, hc⟩ := g5 i (by omega)
    exact ⟨b, off, e1, by rw [hc]; simp⟩

theorem eq_quiet (w : World) (x y : Value) (l m : List UInt8) (hx : Sl w x l) (hy : Sl w y m) :
    Calls Try.prog 10 #[x, y] w fun e w' => e = .returned (.bool (decide (l = m))) ∧ ∃ k, w' = w.drewN k := eq_sl w x y l m hx hy

end Go.Proofs.Ytgccfpmjcpoddaa
