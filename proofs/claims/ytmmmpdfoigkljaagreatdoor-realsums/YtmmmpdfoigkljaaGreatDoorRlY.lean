/-
  What the listed package variables hold is what the walks ask for.
-/
import Derived.Test.YtmmmpdfoigkljaaGreatDoorRlT
import Derived.Test.YtmmmpdfoigkljaaGreatDoorRows
import Derived.OpenShut
import Derived.ChangeArms
import Derived.FnData
import Derived.JoinedTies
namespace Go.Proofs.YtmmmpdfoigkljaaGreatDoor.Rl
open Go.RowKit
set_option maxRecDepth 100000

theorem vars_read {P : Program} {w : World} {n : String} {d : DataW Unit} : ∀ {l : List (String × DataW Unit)} {ps : List MemPlace}, DataW.LaidVars P w l ps → (n, d) ∈ l →
    ∃ g t cs fuel p, P.globalNamed n = some g ∧ (P.globals[g]?).map (·.type) = some t ∧ w.var? P n = some cs ∧ DataW.trod (fun _ => ()) P w 0 (fun _ => true) false fuel t cs.toList = some (d, p) := by
  intro l
  induction l with
  | nil => intro _ _ hm; cases hm
  | cons x r ih =>
    intro ps h hm
    obtain ⟨g, t, cs, fuel, p, q, h1, h2, h3, h4, h5, _⟩ := h
    rcases List.mem_cons.1 hm with e | e
    · subst e; exact ⟨g, t, cs, fuel, p, h1, h2, h3, h4⟩
    · exact ih h5 e
theorem lays_of {l : List (String × DataW Unit)} {W : World} (h : laidMet Tryz.prog l W) (hm : ("internal/strconv.optimize", .lit (.bool true)) ∈ l) : Lays W := by
  obtain ⟨ps, hv, _⟩ := h
  obtain ⟨g, t, cs, fuel, p, h1, h2, h3, h4⟩ := vars_read hv hm
  obtain rfl := Option.some.inj ((show Tryz.prog.globalNamed "internal/strconv.optimize" = some 3 by kernel_rfl).symm.trans h1)
  obtain rfl := Option.some.inj ((show (Tryz.prog.globals[3]?).map (·.type) = some 4 by kernel_rfl).symm.trans h2)
  obtain ⟨b, e1, e2⟩ := DataW.trod_bool Tryz.underlying4 h4
  simp only [Prod.mk.injEq, DataW.lit.injEq, Lit.bool.injEq] at e2
  show W.cell? _ = _
  rw [World.var?_cell h1 h3 0, ← Array.getElem?_toList, e1, ← e2.1]; rfl
theorem ten_of {l : List (String × DataW Unit)} {W : World} (h : laidMet Tryz.prog l W) (hm : ("internal/strconv.uint64pow10", Rows.laid_internal_strconv_uint64pow10) ∈ l) : Ten W := by
  obtain ⟨ps, hv, _⟩ := h
  obtain ⟨g, t, cs, fuel, p, h1, h2, h3, h4⟩ := vars_read hv hm
  obtain rfl := Option.some.inj ((show Tryz.prog.globalNamed "internal/strconv.uint64pow10" = some 6 by kernel_rfl).symm.trans h1)
  obtain rfl := Option.some.inj ((show (Tryz.prog.globals[6]?).map (·.type) = some 154 by kernel_rfl).symm.trans h2)
  obtain ⟨xs, m, _, ex, _, hl, hel⟩ := DataW.trod_array Tryz.underlying154 h4
  have c1 : Tryz.prog.cellsOf 34 = 1 := by kernel_rfl
  have hE := hel 15 (by omega)
  rw [c1, Nat.mul_one, List.getElem?_eq_getElem (by omega)] at hE
  obtain ⟨z, e1, e2, _⟩ := DataW.trod_int Tryz.underlying34 hE
  have e3 := (DataW.agg.inj (Prod.mk.inj ex).1).symm
  have e4 : (xs.map (·.1))[15]? = some (.lit (.int .u64 1000000000000000)) := by rw [e3]; rfl
  rw [List.getElem?_map, List.getElem?_eq_getElem (by omega), e2] at e4
  simp only [Option.map_some, Option.some.injEq, DataW.lit.injEq, Lit.int.injEq, true_and] at e4
  show W.cell? _ = _
  rw [World.var?_cell h1 h3 15, ← e4]
  have h0 : ((cs.toList.drop 15).take 1)[0]? = some (.int .u64 z) := by rw [e1]; rfl
  simpa using h0
theorem row365 : (Go.Pinned.pow10Rows[365]?) = some (12800000000000000000, 0) := by decide +kernel
theorem tab_of {l : List (String × DataW Unit)} {W : World} (h : laidMet Tryz.prog l W) (hm : ("internal/strconv.pow10Tab", Go.Pinned.pow10Tab) ∈ l) : Tab W := by
  obtain ⟨ps, hv, _⟩ := h
  obtain ⟨g, t, cs, fuel, p, h1, h2, h3, h4⟩ := vars_read hv hm
  obtain rfl := Option.some.inj ((show Tryz.prog.globalNamed "internal/strconv.pow10Tab" = some 10 by kernel_rfl).symm.trans h1)
  obtain rfl := Option.some.inj ((show (Tryz.prog.globals[10]?).map (·.type) = some 169 by kernel_rfl).symm.trans h2)
  obtain ⟨xs, m, _, ex, _, hl, hel⟩ := DataW.trod_array Tryz.underlying169 h4
  have c1 : Tryz.prog.cellsOf 34 = 1 := by kernel_rfl
  have c2 : Tryz.prog.cellsOf 168 = 2 := by kernel_rfl
  have hE := hel 365 (by omega)
  rw [c2, List.getElem?_eq_getElem (by omega)] at hE
  have e3 := (DataW.agg.inj (Prod.mk.inj ex).1).symm
  have e4 : (xs.map (·.1))[365]? = some (.agg [.lit (.int .u64 12800000000000000000), .lit (.int .u64 0)]) := by
    rw [e3, List.getElem?_map, row365]; rfl
  rw [List.getElem?_map, List.getElem?_eq_getElem (by omega)] at e4
  simp only [Option.map_some, Option.some.injEq] at e4
  obtain ⟨ys, k, _, ey, hlen, hyl, hyel⟩ := DataW.trod_struct Tryz.underlying168 hE
  have hyl2 : ys.length = 2 := hyl
  rw [ey] at e4
  have e5 := DataW.agg.inj e4
  obtain ⟨y0, y1, rfl⟩ : ∃ a b, ys = [a, b] := by
    match ys, hyl2 with
    | [a, b], _ => exact ⟨a, b, rfl⟩
  have g0 : DataW.trod (fun _ => ()) Tryz.prog W 0 (fun _ => true) false k 34 ((((cs.toList.drop (365 * 2)).take 2).drop 0).take (Tryz.prog.cellsOf 34)) = some y0 := hyel 0 _ rfl
  have g1 : DataW.trod (fun _ => ()) Tryz.prog W 0 (fun _ => true) false k 34 ((((cs.toList.drop (365 * 2)).take 2).drop 1).take (Tryz.prog.cellsOf 34)) = some y1 := hyel 1 _ rfl
  rw [c1] at g0 g1
  obtain ⟨z0, a1, a2, _⟩ := DataW.trod_int Tryz.underlying34 g0
  obtain ⟨z1, b1, b2, _⟩ := DataW.trod_int Tryz.underlying34 g1
  rw [a2, b2] at e5
  simp only [List.map_cons, List.map_nil, List.cons.injEq, DataW.lit.injEq, Lit.int.injEq, true_and, and_true] at e5
  obtain ⟨rfl, rfl⟩ := e5
  refine ⟨?_, ?_⟩
  · show W.cell? _ = _
    rw [World.var?_cell h1 h3 730]
    have h0 : ((((cs.toList.drop (365 * 2)).take 2).drop 0).take 1)[0]? = some (.int .u64 12800000000000000000) := by rw [a1]; rfl
    simpa using h0
  · show W.cell? _ = _
    rw [World.var?_cell h1 h3 731]
    have h0 : ((((cs.toList.drop (365 * 2)).take 2).drop 1).take 1)[0]? = some (.int .u64 0) := by rw [b1]; rfl
    simpa using h0
theorem laid_of {l : List (String × DataW Unit)} {W : World} (h : laidMet Tryz.prog l W) (hm : ("internal/strconv.optimize", .lit (.bool true)) ∈ l) (hm2 : ("internal/strconv.pow10Tab", Go.Pinned.pow10Tab) ∈ l)
    (hm3 : ("internal/strconv.uint64pow10", Rows.laid_internal_strconv_uint64pow10) ∈ l) : Laid W := ⟨lays_of h hm, tab_of h hm2, ten_of h hm3⟩
#print axioms laid_of
end Go.Proofs.YtmmmpdfoigkljaaGreatDoor.Rl
