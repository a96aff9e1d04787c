/-
  What the listed table of math/bits holds is what the walks ask for; an argument of type []string, opened.
-/
import Derived.Test.YtenckagpaecnoaaDoorNmG
import Derived.Test.YtenckagpaecnoaaDoorOpen
import Derived.Test.YtenckagpaecnoaaDoorRows
import Derived.OpenShut
import Derived.ChangeArms
import Derived.FnData
import Derived.JoinedTies
import Derived.SliceStrings
import Derived.Lib.TrailingZeros
namespace Go.Proofs.YtenckagpaecnoaaDoor.Nm
open Go.RowKit Go.ChangeShapes Go.WideShapes Go.ChangeAt
set_option maxRecDepth 100000

theorem vars_read {P : Program} {w : World} {n : String} {d : DataW Unit} : ∀ {l : List (String × DataW Unit)} {ps : List MemPlace}, DataW.LaidVars P w l ps → (n, d) ∈ l →
    ∃ g t cs fuel p, P.globalNamed n = some g ∧ (P.globals[g]?).map (·.type) = some t ∧ w.var? P n = some cs ∧ DataW.trod (fun _ => ()) P w 0 (fun _ => true) false fuel t cs.toList = some (d, p) := by
  intro l
  induction l with
  | nil => intro _ _ hm; cases hm
  | cons x r ih =>
    intro ps h hm
    obtain ⟨g, t, cs, fuel, p, q, h1, h2, h3, h4, h5, _⟩ := h
    rcases List.mem_cons.1 hm with e | e
    · subst e; exact ⟨g, t, cs, fuel, p, h1, h2, h3, h4⟩
    · exact ih h5 e
theorem laid_list : (Rows.laid_math_bits_deBruijn64tab : DataW Unit) = .agg (Lib.deBruijn64tab.map fun n : Nat => .lit (.int .u8 (n : Int))) := by rfl
theorem tab_all {l : List (String × DataW Unit)} {W : World} (h : laidMet Tryd.prog l W) (hm : ("math/bits.deBruijn64tab", Rows.laid_math_bits_deBruijn64tab) ∈ l) : ∀ j, j < Lib.deBruijn64tab.length → W.cell? ⟨3, j, none⟩ = some (.int .u8 (Lib.deBruijn64tab.getD j 0 : Nat)) := by
  obtain ⟨ps, hv, _⟩ := h
  obtain ⟨g, t, cs, fuel, p, h1, h2, h3, h4⟩ := vars_read hv hm
  obtain rfl := Option.some.inj ((show Tryd.prog.globalNamed "math/bits.deBruijn64tab" = some 3 by kernel_rfl).symm.trans h1)
  obtain rfl := Option.some.inj ((show (Tryd.prog.globals[3]?).map (·.type) = some 101 by kernel_rfl).symm.trans h2)
  obtain ⟨xs, m, _, ex, _, hl, hel⟩ := DataW.trod_array Tryd.underlying101 h4
  have c1 : Tryd.prog.cellsOf 5 = 1 := by kernel_rfl
  have hlen : Lib.deBruijn64tab.length = 64 := by decide
  intro j hj
  have hj64 : j < 64 := by omega
  have hE := hel j (by omega)
  rw [c1, Nat.mul_one, List.getElem?_eq_getElem (by omega)] at hE
  obtain ⟨z, e1, e2, _⟩ := DataW.trod_int Tryd.underlying5 hE
  rw [laid_list] at ex
  have e3 := (DataW.agg.inj (Prod.mk.inj ex).1).symm
  have e4 : (xs.map (·.1))[j]? = some (.lit (.int .u8 (Lib.deBruijn64tab.getD j 0 : Nat))) := by
    rw [e3, List.getElem?_map, List.getElem?_eq_getElem hj, List.getD_eq_getElem?_getD, List.getElem?_eq_getElem hj]; rfl
  rw [List.getElem?_map, List.getElem?_eq_getElem (by omega), e2] at e4
  simp only [Option.map_some, Option.some.injEq, DataW.lit.injEq, Lit.int.injEq, true_and] at e4
  show W.cell? _ = _
  rw [World.var?_cell h1 h3 j, ← e4]
  have h0 : ((cs.toList.drop j).take 1)[0]? = some (.int .u8 z) := by rw [e1]; rfl
  simpa using h0
theorem tab_of {l : List (String × DataW Unit)} {W : World} (h : laidMet Tryd.prog l W) (hm : ("math/bits.deBruijn64tab", Rows.laid_math_bits_deBruijn64tab) ∈ l) : Tab16 W := tab_all h hm 15 (by decide)
#print axioms tab_of
theorem cellsS : Tryd.prog.cellsOf 9 = 1 := by kernel_rfl
/-- A slice of strings that was read. -/
theorem open_strs8 {H : Type} {enc : TypeId × Value → H} {w : World} {base : Nat} {spare : Nat → Bool} {held : Bool} {fuel : Nat} {v : Value} {x : DataW H × List MemPlace}
    (h : DataW.trod enc Tryd.prog w base spare held fuel 22 [v] = some x) :
    ∃ ls : List (List UInt8), Row w v (ls.map enc8) ∧ (∀ l ∈ ls, l.length ≤ maxLen) := by
  rcases open_strings Tryd.underlying22 Tryd.underlying9 cellsS h with ⟨hcs, hx⟩ | ⟨a, len, cap, zs, hcs, _, hl, hm, hz, hx, hcell, hwz⟩
  · simp at hcs
    subst hcs
    exact ⟨[], Row.nil _, fun n hn => by simp at hn⟩
  · simp at hcs
    subst hcs
    have hzl : len ≤ zs.length := by split at hz <;> omega
    refine ⟨(zs.take len).map (·.data.toList), ⟨some a, cap, by simp; omega, fun e => by simp at e, by simp; omega, hm, ?_⟩, fun n hn => ?_⟩
    · intro i hi
      simp at hi
      have hi2 : i < zs.length := by omega
      obtain ⟨b, off, spot⟩ := a
      have hspot : spot = none := by simpa [Addr.add] using World.cell?_spot (hcell 0 (by omega))
      subst hspot
      refine ⟨b, off, rfl, ?_⟩
      have := hcell i hi2
      rw [addr_add] at this
      rw [this]
      simp only [List.getElem_map, List.getElem_take]
      rw [enc8, bs_of]
      simp [List.getD, hi2]
    · obtain ⟨s, hs, rfl⟩ := List.mem_map.1 hn
      have := hwz s (List.mem_of_mem_take hs)
      simpa using this
end Go.Proofs.YtenckagpaecnoaaDoor.Nm
