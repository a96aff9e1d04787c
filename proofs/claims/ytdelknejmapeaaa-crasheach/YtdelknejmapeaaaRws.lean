/-
  Slices of one-cell elements as lists of values; arguments of types []uint64, []int64, []int and [][]byte, opened.
-/
import Derived.Test.YtdelknejmapeaaaOpen
import Derived.Deep.Slices
namespace Go.Proofs.Ytdelknejmapeaaa
open Go.ChangeShapes Go.WideShapes Go.ChangeAt Go.RowKit Go.Deep

/-- Values vs lie from address ao on. -/
def At (w : World) (ao : Option Addr) (vs : List Value) : Prop :=
  ∀ i (h : i < vs.length), ∃ b off, ao = some ⟨b, off, none⟩ ∧ w.cell? ⟨b, off + i, none⟩ = some vs[i]
/-- The value v is a slice of the values vs. -/
def Row (w : World) (v : Value) (vs : List Value) : Prop :=
  ∃ ao cap, v = .slice ao vs.length cap ∧ (ao = none → vs = [] ∧ cap = 0) ∧ vs.length ≤ cap ∧ cap ≤ maxLen ∧ At w ao vs

theorem At.at {w : World} {ao : Option Addr} {vs : List Value} (h : At w ao vs) (hl : 0 < vs.length) :
    ∃ b off, ao = some ⟨b, off, none⟩ ∧ ∀ i (h : i < vs.length), w.cell? ⟨b, off + i, none⟩ = some vs[i] := by
  obtain ⟨b, off, e, _⟩ := h 0 hl
  refine ⟨b, off, e, fun i hi => ?_⟩
  obtain ⟨b', off', e', hc⟩ := h i hi
  rw [e] at e'
  simp only [Option.some.injEq, Addr.mk.injEq] at e'
  obtain ⟨rfl, rfl, _⟩ := e'
  exact hc
theorem Row.nil (w : World) : Row w (.slice none 0 0) [] := ⟨none, 0, rfl, fun _ => ⟨rfl, rfl⟩, Nat.le_refl _, Nat.zero_le _, fun i hi => by simp at hi⟩
theorem Below.row {w w' : World} (h : Below w.heap.size w w') {v : Value} {vs : List Value} (g : Row w v vs) : Row w' v vs := by
  obtain ⟨ao, cap, h1, h2, h3, h4, h5⟩ := g
  refine ⟨ao, cap, h1, h2, h3, h4, fun i hi => ?_⟩
  obtain ⟨b, off, e, hc⟩ := h5 i hi
  exact ⟨b, off, e, by rw [h.cell (p := ⟨b, off + i, none⟩) (lt_of_cell hc)]; exact hc⟩

/-- Each value is a slice of the bytes beside it. -/
def Sls (w : World) (vs : List Value) (ls : List (List UInt8)) : Prop := vs.length = ls.length ∧ ∀ i (h : i < vs.length) (h' : i < ls.length), Sl w vs[i] ls[i]
theorem Below.sls {w w' : World} (h : Below w.heap.size w w') {vs : List Value} {ls : List (List UInt8)} (g : Sls w vs ls) : Sls w' vs ls :=
  ⟨g.1, fun i h1 h2 => Below.sl h (g.2 i h1 h2)⟩

/-- A slice of integers that was read. -/
theorem open_nums {H : Type} {enc : TypeId × Value → H} {w : World} {base : Nat} {spare : Nat → Bool} {held : Bool} {fuel t e : Nat} {k : IntKind} {v : Value} {x : DataW H × List MemPlace}
    (ht : Try.prog.underlying t = some (.slice e)) (he : Try.prog.underlying e = some (.int k)) (hc : Try.prog.cellsOf e = 1) (h : DataW.trod enc Try.prog w base spare held fuel t [v] = some x) :
    ∃ l : List Int, Row w v (l.map (Value.int k)) ∧ (∀ n ∈ l, (Lit.int k n).wf = true) ∧ ((x.1 = .nil ∧ l = []) ∨ ∃ elems sp, x.1 = .slice elems sp ∧ elems.length = l.length) := by
  rcases open_ints ht he hc h with ⟨hcs, hx⟩ | ⟨a, len, cap, zs, hcs, _, hl, hm, hz, hx, hcell, hwz⟩
  · simp at hcs
    subst hcs hx
    exact ⟨[], Row.nil _, fun n hn => by simp at hn, .inl ⟨rfl, rfl⟩⟩
  · simp at hcs
    subst hcs hx
    have hzl : len ≤ zs.length := by split at hz <;> omega
    have hlen : ((zs.take len).map (Value.int k)).length = len := by simp; omega
    refine ⟨zs.take len, ⟨some a, cap, by rw [hlen], fun e => by simp at e, by omega, hm, ?_⟩, fun n hn => hwz n (List.mem_of_mem_take hn), .inr ⟨_, _, rfl, by simp [lits]⟩⟩
    intro i hi
    rw [hlen] at hi
    obtain ⟨b, off, rfl, hc⟩ := ints_at hcell (by omega)
    refine ⟨b, off, rfl, ?_⟩
    have hi2 : i < zs.length := by omega
    rw [hc i hi2]
    simp [List.getD, hi2]

/-- A slice of slices of bytes that was read: what each holds, how much that is. -/
theorem open_byteses {H : Type} {enc : TypeId × Value → H} {w : World} {base : Nat} {spare : Nat → Bool} {held : Bool} {fuel : Nat} {v : Value} {x : DataW H × List MemPlace}
    (h : DataW.trod enc Try.prog w base spare held fuel 132 [v] = some x) :
    ∃ vs ls, Row w v vs ∧ Sls w vs ls ∧ ((x.1 = .nil ∧ ls = []) ∨ ∃ elems sp, x.1 = .slice elems sp ∧ elems.length = ls.length ∧ ∀ i (h1 : i < elems.length) (h2 : i < ls.length), (elems[i] = .nil ∧ ls[i] = []) ∨ ∃ es sp', elems[i] = .slice es sp' ∧ es.length = ls[i].length) := by
  rcases open_slice1 Try.underlying132 (by kernel_rfl) h with ⟨hcs, hx⟩ | ⟨a, len, cap, m, n, V, D, Pl, hcs, hb, hl, hm, hmm, hx, hel⟩
  · simp at hcs
    subst hcs hx
    exact ⟨[], [], Row.nil _, ⟨rfl, fun i h1 => by simp at h1⟩, .inl ⟨rfl, rfl⟩⟩
  · simp at hcs
    subst hcs hx
    have hlm : len ≤ m := by split at hmm <;> omega
    have each : ∀ i, ∃ l, i < m → Sl w (V i) l ∧ ((D i = .nil ∧ l = []) ∨ ∃ es sp', D i = .slice es sp' ∧ es.length = l.length) := by
      intro i
      by_cases hi : i < m
      · obtain ⟨l, h1, h2⟩ := open_bytes (hel i hi).2
        exact ⟨l, fun _ => ⟨h1, h2⟩⟩
      · exact ⟨[], fun h => absurd h hi⟩
    obtain ⟨L, hL⟩ : ∃ L : Nat → List UInt8, ∀ i, i < m → Sl w (V i) (L i) ∧ ((D i = .nil ∧ L i = []) ∨ ∃ es sp', D i = .slice es sp' ∧ es.length = (L i).length) := ⟨fun i => Classical.choose (each i), fun i => Classical.choose_spec (each i)⟩
    refine ⟨(List.range len).map V, (List.range len).map L, ⟨some a, cap, by simp, fun e => by simp at e, by simpa using hl, hm, ?_⟩, ⟨by simp, fun i h1 h2 => ?_⟩, .inr ⟨_, _, rfl, by simp, fun i h1 h2 => ?_⟩⟩
    · intro i hi
      simp at hi
      have hc := (hel i (by omega)).1
      obtain ⟨b, off, sp⟩ := a
      have hsp : sp = none := by
        have h0 := (hel 0 (by omega)).1
        simpa [Addr.add] using World.cell?_spot h0
      subst hsp
      rw [addr_add] at hc
      exact ⟨b, off, rfl, by rw [hc]; simp⟩
    · simp at h1
      simpa using (hL i (by omega)).1
    · simp at h1
      simpa using (hL i (by omega)).2

theorem weightsAll_mem {H : Type} {e : TypeId} : ∀ {elems : List (DataW H)} {i : Nat} (h : i < elems.length), ∀ n ∈ (elems[i]).weights Try.prog e, n ∈ DataW.weightsAll Try.prog e elems
  | d :: ds, 0, _, n, hn => by
    simp only [DataW.weightsAll, List.mem_append]
    exact Or.inl hn
  | d :: ds, i + 1, h, n, hn => by
    simp only [DataW.weightsAll, List.mem_append]
    exact Or.inr (weightsAll_mem (elems := ds) (i := i) (by simpa using h) n (by simpa using hn))
theorem byteses_reach {H : Type} {ts : List TypeId} {ds : List (DataW H)} (hsz : (DataW.weightsEach Try.prog ts ds).all (· ≤ reachBytes) = true) {j : Nat} {d : DataW H} {ls : List (List UInt8)} (ht : ts[j]? = some 132) (hd : ds[j]? = some d)
    (h : (d = .nil ∧ ls = []) ∨ ∃ elems sp, d = .slice elems sp ∧ elems.length = ls.length ∧ ∀ i (h1 : i < elems.length) (h2 : i < ls.length), (elems[i] = .nil ∧ ls[i] = []) ∨ ∃ es sp', elems[i] = .slice es sp' ∧ es.length = ls[i].length) : ∀ x ∈ ls, x.length ≤ 140737488351232 := by
  rcases h with ⟨_, rfl⟩ | ⟨elems, sp, rfl, he, hx⟩
  · intro x hx; simp at hx
  · intro x hxm
    obtain ⟨i, hi, rfl⟩ := List.getElem_of_mem hxm
    have hi2 : i < elems.length := by omega
    rcases hx i hi2 hi with ⟨_, e0⟩ | ⟨es, sp', e1, e2⟩
    · rw [e0]; simp
    · have hm : (es.length + sp'.length) * Try.prog.bytesOf 5 ∈ (elems[i]).weights Try.prog 22 := by
        rw [e1]; simp [DataW.weights, Try.underlying22]
      have hm2 := weightsAll_mem (e := 22) hi2 _ hm
      have hm3 : (es.length + sp'.length) * Try.prog.bytesOf 5 ∈ DataW.weights Try.prog 132 (DataW.slice elems sp) := by
        simp only [DataW.weights, Try.underlying132, List.mem_cons, List.mem_append]
        exact Or.inr (Or.inl hm2)
      have := List.all_eq_true.1 hsz _ (DataW.weights_mem_each ht hd _ hm3)
      have h4 : (es.length + sp'.length) * Try.prog.bytesOf 5 ≤ reachBytes := by simpa using this
      rw [bytesU8] at h4
      simp only [reachBytes] at h4
      omega
theorem bulkAll_get {H : Type} (elems : List (DataW H)) (ls : List (List UInt8)) (h : elems.length = ls.length) (hb : ∀ i (h1 : i < elems.length) (h2 : i < ls.length), ls[i].length ≤ Rows.uptoBulk elems[i]) : (ls.map List.length).sum ≤ Rows.uptoBulkAll elems := by
  induction elems generalizing ls with
  | nil => cases ls with
    | nil => simp
    | cons x r => simp at h
  | cons d ds ih => cases ls with
    | nil => simp at h
    | cons x r =>
      have h0 := hb 0 (by simp) (by simp)
      have h1 := ih r (by simpa using h) (fun i a b => hb (i + 1) (by simp only [List.length_cons]; omega) (by simp only [List.length_cons]; omega))
      simp only [List.getElem_cons_zero] at h0
      simp only [List.map_cons, List.sum_cons, Rows.uptoBulkAll]
      omega
theorem byteses_bulk {H : Type} {d : DataW H} {ls : List (List UInt8)} (h : (d = .nil ∧ ls = []) ∨ ∃ elems sp, d = .slice elems sp ∧ elems.length = ls.length ∧ ∀ i (h1 : i < elems.length) (h2 : i < ls.length), (elems[i] = .nil ∧ ls[i] = []) ∨ ∃ es sp', elems[i] = .slice es sp' ∧ es.length = ls[i].length) : (ls.map List.length).sum ≤ Rows.uptoBulk d := by
  rcases h with ⟨_, rfl⟩ | ⟨elems, sp, rfl, he, hx⟩
  · simp
  · have := bulkAll_get elems ls he (fun i h1 h2 => bytes_bulk (hx i h1 h2))
    simp only [Rows.uptoBulk]
    omega
end Go.Proofs.Ytdelknejmapeaaa
