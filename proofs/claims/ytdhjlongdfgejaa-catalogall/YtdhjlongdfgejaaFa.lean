/-
  What slices.Grow of no bytes and slices.Concat of slices of bytes answer.
-/
import Derived.Test.YtdhjlongdfgejaaGen
import Derived.Test.YtdhjlongdfgejaaRws

import Derived.Lib.AppendZeros
namespace Go.Proofs.Ytdhjlongdfgejaa
open Go.RowKit
set_option maxRecDepth 100000

theorem hide {p : Prop} (h : p) : Hid p := h

theorem owns_zero {w : World} {base e cap g : Nat} {cur : Array Value} (hg : base ≤ g) (h : w.heap[g]? = some (.cells cur e (0, 0))) (hs : cur.size = cap) (hm : cap ≤ maxLen) : w.ownsRow base e 1 (.slice (some ⟨g, 0, none⟩) 0 cap) 0 (bvals []) :=
  ⟨rfl, Or.inr ⟨g, cap, cur, rfl, hg, h, Nat.zero_le _, hm, by omega, by simp [bvals]⟩⟩

theorem flat_snoc (ls : List (List UInt8)) (k : Nat) (h : k < ls.length) : (ls.take (k + 1)).flatten = (ls.take k).flatten ++ ls[k] := by
  rw [List.take_succ_eq_append_getElem h, List.flatten_append, List.flatten_singleton]
theorem flat_le (ls : List (List UInt8)) (k : Nat) : (ls.take k).flatten.length ≤ ls.flatten.length := by
  have h : ls.flatten = (ls.take k).flatten ++ (ls.drop k).flatten := by rw [← List.flatten_append, List.take_append_drop]
  rw [h, List.length_append]; omega

end Go.Proofs.Ytdhjlongdfgejaa
