/-
  Arguments that are keeps, fates, faults, calls of a disk, opened.
-/
import Derived.Test.YtdelknejmapeaaaRws
import Derived.Test.YtdelknejmapeaaaDlO0
import Derived.Deep.Strs
import Derived.Deep.Slices
namespace Go.Proofs.Ytdelknejmapeaaa.Dk
open Go.ChangeShapes Go.WideShapes Go.ChangeAt Go.RowKit Go.Deep
set_option maxRecDepth 100000

theorem cellsKeep : Try.prog.cellsOf 70 = 2 := by kernel_rfl
theorem cellsFate : Try.prog.cellsOf 26 = 2 := by kernel_rfl
theorem cellsFault : Try.prog.cellsOf 77 = 3 := by kernel_rfl
theorem cellsInt : Try.prog.cellsOf 3 = 1 := by kernel_rfl
theorem cellsI64 : Try.prog.cellsOf 2 = 1 := by kernel_rfl
theorem cellsBs : Try.prog.cellsOf 22 = 1 := by kernel_rfl
theorem cellsKeeps : Try.prog.cellsOf 24 = 1 := by kernel_rfl
theorem weightsAll_at {H : Type} {P : Program} {e : TypeId} : ∀ {ds : List (DataW H)} {i : Nat} {d : DataW H}, ds[i]? = some d → ∀ n ∈ d.weights P e, n ∈ DataW.weightsAll P e ds
  | [], i, d, h, _, _ => by simp at h
  | c :: r, 0, d, h, n, hn => by
    simp only [List.getElem?_cons_zero, Option.some.injEq] at h
    subst h
    simp only [DataW.weightsAll, List.mem_append]
    exact Or.inl hn
  | c :: r, i + 1, d, h, n, hn => by
    simp only [DataW.weightsAll, List.mem_append]
    exact Or.inr (weightsAll_at (i := i) (by simpa using h) n hn)
theorem sin_of {w : World} {v : Value} {l : List UInt8} (h : Sl w v l) : SIn (fun k => k < w.heap.size) v := by
  obtain ⟨ao, cap, rfl, _, _, _, h5⟩ := h
  intro b off n c e hn
  simp only [Value.slice.injEq] at e
  obtain ⟨rfl, rfl, _⟩ := e
  obtain ⟨b', off', e', hc⟩ := h5 0 hn
  simp only [Option.some.injEq, Addr.mk.injEq] at e'
  rw [e'.1]
  exact lt_of_cell hc
theorem open_keep {H : Type} {enc : TypeId × Value → H} {w : World} {base : Nat} {spare : Nat → Bool} {held : Bool} {fuel : Nat} {cs : List Value} {y : DataW H × List MemPlace}
    (h : DataW.trod enc Try.prog w base spare held fuel 70 cs = some y) (hwt : ∀ n ∈ y.1.weights Try.prog 70, n ≤ reachBytes) :
    ∃ (k : Kep) (v : Value), cs = [.int .i64 k.1, v] ∧ -9223372036854775808 ≤ k.1 ∧ k.1 ≤ 9223372036854775807 ∧ Sl w v k.2 ∧ k.2.length ≤ 140737488351232 := by
  obtain ⟨y0, y1, n, hy, hlen, h0, h1⟩ := trod_struct2 Try.underlying70 h
  rw [cellsKeep] at hlen
  obtain ⟨c0, c1, rfl⟩ : ∃ c0 c1, cs = [c0, c1] := by
    match cs, hlen with
    | [c0, c1], _ => exact ⟨c0, c1, rfl⟩
  simp only [cellsInt, cellsBs] at h0 h1
  obtain ⟨a0, e0, _, w0⟩ := DataW.trod_int Try.underlying3 h0
  simp at e0
  subst e0
  obtain ⟨l, hs, hd⟩ := open_bytes (v := c1) (by simpa using h1)
  have hl : l.length ≤ 140737488351232 := by
    rcases hd with ⟨_, rfl⟩ | ⟨elems, sp, e1, e2⟩
    · simp
    · have hm : (elems.length + sp.length) * Try.prog.bytesOf 5 ∈ y1.1.weights Try.prog 22 := by
        rw [e1]; simp [DataW.weights, Try.underlying22]
      have h4 : (elems.length + sp.length) * Try.prog.bytesOf 5 ≤ reachBytes := by
        refine hwt _ ?_
        rw [hy]
        simp only [DataW.weights, Try.underlying70]
        exact DataW.weights_mem_each (j := 1) (t := 22) (d := y1.1) rfl rfl _ hm
      rw [bytesU8] at h4
      simp only [reachBytes] at h4
      omega
  exact ⟨(a0, l), c1, rfl, (i64_bounds w0).1, (i64_bounds w0).2, hs, hl⟩
theorem open_keeps {H : Type} {enc : TypeId × Value → H} {w : World} {base : Nat} {spare : Nat → Bool} {held : Bool} {fuel : Nat} {v : Value} {x : DataW H × List MemPlace}
    (h : DataW.trod enc Try.prog w base spare held fuel 24 [v] = some x) (hwt : ∀ n ∈ x.1.weights Try.prog 24, n ≤ reachBytes) :
    ∃ ks : List Kep, Kp (fun k => k < w.heap.size) w v ks ∧ (∀ k ∈ ks, k.2.length ≤ 140737488351232) ∧ ks.length ≤ 140737488351232 := by
  rcases open_slice Try.underlying24 h with ⟨hcs, hx⟩ | ⟨a, len, cap, m, n, D, Pl, hcs, hb, hl, hm, hmm, hx, hel⟩
  · simp at hcs
    subst hcs hx
    exact ⟨[], ⟨none, 0, rfl, Nat.le_refl _, Nat.zero_le _, fun i hi => by simp at hi⟩, fun o ho => by simp at ho, by simp⟩
  · simp at hcs
    have hlm : len ≤ m := by split at hmm <;> omega
    have each : ∀ i, ∃ o : Kep, i < len → o.2.length ≤ 140737488351232 ∧ -9223372036854775808 ≤ o.1 ∧ o.1 ≤ 9223372036854775807 ∧ ∃ b off vj, a = ⟨b, off, none⟩ ∧ w.cell? ⟨b, off + i * 2, none⟩ = some (.int .i64 o.1) ∧ w.cell? ⟨b, off + i * 2 + 1, none⟩ = some vj ∧ Sl w vj o.2 := by
      intro i
      by_cases hi : i < len
      · obtain ⟨cs', h1, h2⟩ := hel i (by omega)
        obtain ⟨o1, o2, rfl, q1, q2, q3, q4⟩ := open_keep h2 (fun n hn => hwt n (by
          rw [hx]
          simp only [DataW.weights, Try.underlying24, List.mem_cons, List.mem_append]
          exact Or.inr (Or.inl (weightsAll_at (i := i) (d := D i) (by simp [hi]) n hn))))
        rw [cellsKeep] at h1
        obtain ⟨b, off, sp⟩ := a
        have hsp : sp = none := by
          obtain ⟨cs0, g1, g2⟩ := hel 0 (by omega)
          have g3 := (World.cells?_some g1).2.2 0 (by rw [cellsKeep]; omega)
          have g4 : cs0.length = 2 := by
            have := (World.cells?_some g1).2.1
            rw [cellsKeep] at this
            first | exact this | omega
          simp [Addr.add, g4] at g3
          exact World.cell?_spot g3
        subst hsp
        have hcell := (World.cells?_some h1).2.2
        rw [addr_add] at hcell
        have k0 := hcell 0 (by omega)
        have k1 := hcell 1 (by omega)
        rw [addr_add] at k0 k1
        exact ⟨o1, fun _ => ⟨q4, q1, q2, b, off, o2, rfl, by simpa using k0, by simpa using k1, q3⟩⟩
      · exact ⟨(0, []), fun h => absurd h hi⟩
    obtain ⟨O, hO⟩ : ∃ O : Nat → Kep, ∀ i, i < len → (O i).2.length ≤ 140737488351232 ∧ -9223372036854775808 ≤ (O i).1 ∧ (O i).1 ≤ 9223372036854775807 ∧ ∃ b off vj, a = ⟨b, off, none⟩ ∧ w.cell? ⟨b, off + i * 2, none⟩ = some (.int .i64 (O i).1) ∧ w.cell? ⟨b, off + i * 2 + 1, none⟩ = some vj ∧ Sl w vj (O i).2 := ⟨fun i => Classical.choose (each i), fun i => Classical.choose_spec (each i)⟩
    have hln : len ≤ 140737488351232 := by
      have hmem : (((List.range len).map D).length + ((List.range (m - len)).map fun j => D (len + j)).length) * Try.prog.bytesOf 70 ∈ x.1.weights Try.prog 24 := by
        rw [hx]; simp [DataW.weights, Try.underlying24]
      have h4 := hwt _ hmem
      have hbk : Try.prog.bytesOf 70 = 32 := by kernel_rfl
      rw [hbk] at h4
      simp only [List.length_map, List.length_range, reachBytes] at h4
      omega
    refine ⟨(List.range len).map O, ⟨some a, cap, by simp [hcs], by simp; omega, by omega, ?_⟩, ?_, by simpa using hln⟩
    · intro i hi
      simp at hi
      obtain ⟨_, n0, n1, b, off, vj, rfl, q1, q2, q3⟩ := hO i (by omega)
      exact ⟨b, off, vj, rfl, lt_of_cell q1, by simpa using q1, q2, by simpa using q3, sin_of q3, by simpa using n0, by simpa using n1⟩
    · intro o ho
      simp only [List.mem_map, List.mem_range] at ho
      obtain ⟨i, hi, rfl⟩ := ho
      exact (hO i (by omega)).1
theorem open_fate {H : Type} {enc : TypeId × Value → H} {w : World} {base : Nat} {spare : Nat → Bool} {held : Bool} {fuel : Nat} {cs : List Value} {y : DataW H × List MemPlace}
    (h : DataW.trod enc Try.prog w base spare held fuel 26 cs = some y) (hwt : ∀ n ∈ y.1.weights Try.prog 26, n ≤ reachBytes) :
    ∃ (d : Int) (v : Value) (ks : List Kep), cs = [.int .i64 d, v] ∧ -9223372036854775808 ≤ d ∧ d ≤ 9223372036854775807 ∧ Kp (fun k => k < w.heap.size) w v ks ∧ (∀ k ∈ ks, k.2.length ≤ 140737488351232) ∧ ks.length ≤ 140737488351232 := by
  obtain ⟨y0, y1, n, hy, hlen, h0, h1⟩ := trod_struct2 Try.underlying26 h
  rw [cellsFate] at hlen
  obtain ⟨c0, c1, rfl⟩ : ∃ c0 c1, cs = [c0, c1] := by
    match cs, hlen with
    | [c0, c1], _ => exact ⟨c0, c1, rfl⟩
  simp only [cellsInt, cellsKeeps] at h0 h1
  obtain ⟨a0, e0, _, w0⟩ := DataW.trod_int Try.underlying3 h0
  simp at e0
  subst e0
  obtain ⟨ks, hk, hl, hn⟩ := open_keeps (v := c1) (by simpa using h1) (fun n hn => hwt n (by
    rw [hy]
    simp only [DataW.weights, Try.underlying26]
    exact DataW.weights_mem_each (j := 1) (t := 24) (d := y1.1) rfl rfl _ hn))
  exact ⟨a0, c1, ks, rfl, (i64_bounds w0).1, (i64_bounds w0).2, hk, hl, hn⟩
#print axioms open_fate
end Go.Proofs.Ytdelknejmapeaaa.Dk
