/-
  What the Reader's method Varint does.
-/
import Derived.Test.YtebhkdaefjmbnaaShut
namespace Go.Proofs.Ytebhkdaefjmbnaa
open Go.RowKit

/-- A varint at k, at most most: the number, how many bytes, the error's number. -/
def vr (l : List UInt8) (k : Nat) (most : Int) : Nat × Nat × Int :=
  if (rv (l.drop k)).2.2 ≠ 0 then (0, 0, (rv (l.drop k)).2.2)
  else if most < ((rv (l.drop k)).1 : Int) then (0, 0, 3)
  else rv (l.drop k)

theorem sl_nil_any (w : World) : Sl w (.slice none 0 0) [] := Sl.nil w

theorem vr_good {l : List UInt8} {k : Nat} {most : Int} (hv : (vr l k most).2.2 = 0) : vr l k most = rv (l.drop k) ∧ ¬ most < ((rv (l.drop k)).1 : Int) ∧ (rv (l.drop k)).2.2 = 0 := by
  unfold vr at *
  by_cases h1 : (rv (l.drop k)).2.2 ≠ 0
  · rw [if_pos h1] at hv; exact absurd hv h1
  · rw [if_neg h1] at hv ⊢
    by_cases h2 : most < ((rv (l.drop k)).1 : Int)
    · rw [if_pos h2] at hv; simp at hv
    · rw [if_neg h2]; exact ⟨rfl, h2, by simpa using h1⟩

end Go.Proofs.Ytebhkdaefjmbnaa
