/-
  A whole array in a block of its own: that it lies there, and what keeps it. No program is named here.
-/
import Derived.Test.YtmhbcpbppcihfaaCrc1
import Derived.Test.YtmhbcpbppcihfaaGen
namespace Go.Proofs.Ytmhbcpbppcihfaa.Crc
open Go.RowKit

/-- Block b holds the cells T, which may be written. -/
def Holds (w : World) (b : Nat) (T : Array Value) : Prop := b < w.heap.size ∧ w.rangeAt b 0 T.toList ∧ w.there b 0 T.size

theorem Holds.cell {w : World} {b i : Nat} {T : Array Value} (h : Holds w b T) (v : Value) (hi : T[i]? = some v) : w.cell? ⟨b, i, none⟩ = some v := by
  have := h.2.1 i v (by simpa using hi)
  rwa [Nat.zero_add] at this
theorem Holds.frozen {w : World} {b i : Nat} {T : Array Value} (h : Holds w b T) (hi : i < T.size) : w.frozen? ⟨b, i, none⟩ = false := by
  have := (h.2.2 i hi).2
  rwa [Nat.zero_add] at this
theorem Holds.of_cells {w w' : World} {b : Nat} {T : Array Value} (h : Holds w b T) (hs : b < w'.heap.size) (hc : ∀ j, w'.cell? ⟨b, j, none⟩ = w.cell? ⟨b, j, none⟩) (hf : ∀ j, w'.frozen? ⟨b, j, none⟩ = w.frozen? ⟨b, j, none⟩) : Holds w' b T :=
  ⟨hs, fun j v hv => by rw [hc]; exact h.2.1 j v hv, fun j hj => by rw [hc, hf]; exact h.2.2 j hj⟩
theorem Holds.below {w w' : World} {b : Nat} {T : Array Value} (h : Holds w b T) (hb : Below w.heap.size w w') : Holds w' b T :=
  h.of_cells (Nat.lt_of_lt_of_le h.1 hb.size) (fun _ => hb.cell h.1) (fun _ => hb.frozen h.1)
theorem Holds.setCell_other {w : World} {b g i : Nat} {T : Array Value} (h : Holds w b T) (hne : g ≠ b) (v : Value) : Holds (w.setCell ⟨g, i, none⟩ v) b T :=
  h.of_cells (by simpa using h.1) (fun j => World.cell?_setCell_other _ _ _ _ (fun e => hne (congrArg Addr.block e))) (fun j => by simp)
theorem Holds.new (w : World) (T : Array Value) (t : TypeId) : Holds (w.alloc (.cells T t)) w.heap.size T :=
  ⟨by simp, range_of (heap_new w _), there_of (heap_new w _) rfl⟩
theorem Holds.setCells {w : World} {b : Nat} {T : Array Value} (h : Holds w b T) (U : Array Value) (hs : U.size = T.size) : Holds (w.setCells b 0 U.toList) b U := by
  have ht : w.there b 0 U.toList.length := by rw [Array.length_toList, hs]; exact h.2.2
  refine ⟨Nat.lt_of_lt_of_le h.1 (below_setCells (B := 0) (Nat.zero_le _) U.toList 0 (Below.refl 0 w)).size, World.rangeAt_setCells_same w b 0 U.toList ht, ?_⟩
  rw [hs]
  exact World.there_setCells h.2.2 b 0 U.toList
theorem Holds.setCell {w : World} {b i : Nat} {T : Array Value} (h : Holds w b T) (hi : i < T.size) (v : Value) : Holds (w.setCell ⟨b, i, none⟩ v) b (T.setIfInBounds i v) := by
  have hc : w.cell? ⟨b, i, none⟩ = some T[i] := h.cell _ (by simp [hi])
  refine ⟨by simpa using h.1, fun j u hu => ?_, fun j hj => ?_⟩
  · rw [Array.getElem?_toList, Array.getElem?_setIfInBounds] at hu
    rw [Nat.zero_add]
    by_cases e : i = j
    · subst e
      rw [if_pos rfl, if_pos hi] at hu
      rw [World.cell?_setCell_same _ _ _ hc]
      exact hu
    · rw [if_neg e] at hu
      rw [World.cell?_setCell_other _ _ _ _ (fun x => e (by have := congrArg Addr.off x; simpa using this))]
      exact h.cell u hu
  · have hj' : j < T.size := by simpa using hj
    obtain ⟨h1, h2⟩ := h.2.2 j hj'
    refine ⟨?_, by simpa using h2⟩
    by_cases e : i = j
    · subst e
      rw [Nat.zero_add, World.cell?_setCell_same _ _ _ hc]; rfl
    · rw [World.cell?_setCell_other _ _ _ _ (fun x => e (by have := congrArg Addr.off x; simpa using this))]
      exact h1
theorem Holds.drew {w : World} {b : Nat} {T : Array Value} (h : Holds w b T) : Holds w.drew b T := h
theorem Holds.alloc {w : World} {b : Nat} {T : Array Value} (h : Holds w b T) (o : Obj) : Holds (w.alloc o) b T := h.below (box_below w o)

/-- What m steps do to each bit of a register, as cells. -/
def Turns (T : Array Value) (m : Nat) : Prop := T.size = 32 ∧ T.all (·.oneCell') = true ∧ ∀ i, i < 32 → T[i]? = some (.int .u32 ((st m (1#32 <<< i)).toNat : Int))
theorem turns_row {f : Nat → R} {m : Nat} (h : ∀ j, j < 32 → f j = st m (1#32 <<< j)) : Turns (row f 32) m :=
  ⟨row_size _ _, row_one _ _, fun i hi => by rw [row_get _ _ _ hi, h i hi]⟩
#print axioms Holds.setCell
end Go.Proofs.Ytmhbcpbppcihfaa.Crc
