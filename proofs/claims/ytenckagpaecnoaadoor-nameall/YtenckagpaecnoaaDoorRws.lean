/-
  Slices of one-cell elements as lists of values; arguments of types []uint64, []int64, []int and [][]byte, opened.
-/
import Derived.Test.YtenckagpaecnoaaDoorOpen
import Derived.Deep.Slices
namespace Go.Proofs.YtenckagpaecnoaaDoor
open Go.ChangeShapes Go.WideShapes Go.ChangeAt Go.RowKit Go.Deep

/-- Values vs lie from address ao on. -/
def At (w : World) (ao : Option Addr) (vs : List Value) : Prop :=
  ∀ i (h : i < vs.length), ∃ b off, ao = some ⟨b, off, none⟩ ∧ w.cell? ⟨b, off + i, none⟩ = some vs[i]
/-- The value v is a slice of the values vs. -/
def Row (w : World) (v : Value) (vs : List Value) : Prop :=
  ∃ ao cap, v = .slice ao vs.length cap ∧ (ao = none → vs = [] ∧ cap = 0) ∧ vs.length ≤ cap ∧ cap ≤ maxLen ∧ At w ao vs

theorem At.at {w : World} {ao : Option Addr} {vs : List Value} (h : At w ao vs) (hl : 0 < vs.length) :
    ∃ b off, ao = some ⟨b, off, none⟩ ∧ ∀ i (h : i < vs.length), w.cell? ⟨b, off + i, none⟩ = some vs[i] := by
  obtain ⟨b, off, e, _⟩ := h 0 hl
  refine ⟨b, off, e, fun i hi => ?_⟩
  obtain ⟨b', off', e', hc⟩ := h i hi
  rw [e] at e'
  simp only [Option.some.injEq, Addr.mk.injEq] at e'
  obtain ⟨rfl, rfl, _⟩ := e'
  exact hc
theorem Row.nil (w : World) : Row w (.slice none 0 0) [] := ⟨none, 0, rfl, fun _ => ⟨rfl, rfl⟩, Nat.le_refl _, Nat.zero_le _, fun i hi => by simp at hi⟩
theorem Below.row {w w' : World} (h : Below w.heap.size w w') {v : Value} {vs : List Value} (g : Row w v vs) : Row w' v vs := by
  obtain ⟨ao, cap, h1, h2, h3, h4, h5⟩ := g
  refine ⟨ao, cap, h1, h2, h3, h4, fun i hi => ?_⟩
  obtain ⟨b, off, e, hc⟩ := h5 i hi
  exact ⟨b, off, e, by rw [h.cell (p := ⟨b, off + i, none⟩) (lt_of_cell hc)]; exact hc⟩

/-- Each value is a slice of the bytes beside it. -/
def Sls (w : World) (vs : List Value) (ls : List (List UInt8)) : Prop := vs.length = ls.length ∧ ∀ i (h : i < vs.length) (h' : i < ls.length), Sl w vs[i] ls[i]
theorem Below.sls {w w' : World} (h : Below w.heap.size w w') {vs : List Value} {ls : List (List UInt8)} (g : Sls w vs ls) : Sls w' vs ls :=
  ⟨g.1, fun i h1 h2 => Below.sl h (g.2 i h1 h2)⟩

/-- A slice of integers that was read. -/
theorem open_nums {H : Type} {enc : TypeId × Value → H} {w : World} {base : Nat} {spare : Nat → Bool} {held : Bool} {fuel t e : Nat} {k : IntKind} {v : Value} {x : DataW H × List MemPlace}
    (ht : Tryd.prog.underlying t = some (.slice e)) (he : Tryd.prog.underlying e = some (.int k)) (hc : Tryd.prog.cellsOf e = 1) (h : DataW.trod enc Tryd.prog w base spare held fuel t [v] = some x) :
    ∃ l : List Int, Row w v (l.map (Value.int k)) ∧ (∀ n ∈ l, (Lit.int k n).wf = true) ∧ ((x.1 = .nil ∧ l = []) ∨ ∃ elems sp, x.1 = .slice elems sp ∧ elems.length = l.length) := by
  rcases open_ints ht he hc h with ⟨hcs, hx⟩ | ⟨a, len, cap, zs, hcs, _, hl, hm, hz, hx, hcell, hwz⟩
  · simp at hcs
    subst hcs hx
    exact ⟨[], Row.nil _, fun n hn => by simp at hn, .inl ⟨rfl, rfl⟩⟩
  · simp at hcs
    subst hcs hx
    have hzl : len ≤ zs.length := by split at hz <;> omega
    have hlen : ((zs.take len).map (Value.int k)).length = len := by simp; omega
    refine ⟨zs.take len, ⟨some a, cap, by rw [hlen], fun e => by simp at e, by omega, hm, ?_⟩, fun n hn => hwz n (List.mem_of_mem_take hn), .inr ⟨_, _, rfl, by simp [lits]⟩⟩
    intro i hi
    rw [hlen] at hi
    obtain ⟨b, off, rfl, hc⟩ := ints_at hcell (by omega)
    refine ⟨b, off, rfl, ?_⟩
    have hi2 : i < zs.length := by omega
    rw [hc i hi2]
    simp [List.getD, hi2]

end Go.Proofs.YtenckagpaecnoaaDoor
