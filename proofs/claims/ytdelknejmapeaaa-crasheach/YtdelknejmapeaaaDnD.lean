/-
  Calls of a disk as arguments, opened.
-/
import Derived.Test.YtdelknejmapeaaaDnA
namespace Go.Proofs.Ytdelknejmapeaaa.Dk
open Go.ChangeShapes Go.WideShapes Go.ChangeAt Go.RowKit Go.Deep
set_option maxRecDepth 100000

theorem open_fault {H : Type} {enc : TypeId × Value → H} {w : World} {base : Nat} {spare : Nat → Bool} {held : Bool} {fuel : Nat} {cs : List Value} {y : DataW H × List MemPlace}
    (h : DataW.trod enc Try.prog w base spare held fuel 77 cs = some y) :
    ∃ t : Ft, cs = [.int .i64 t.1, .int .i64 t.2.1, .int .i64 t.2.2] := by
  obtain ⟨y0, y1, y2, n, _, hlen, h0, h1, h2⟩ := trod_struct3 Try.underlying77 h
  rw [cellsFault] at hlen
  obtain ⟨c0, c1, c2, rfl⟩ : ∃ c0 c1 c2, cs = [c0, c1, c2] := by
    match cs, hlen with
    | [c0, c1, c2], _ => exact ⟨c0, c1, c2, rfl⟩
  simp only [cellsI64, cellsInt] at h0 h1 h2
  obtain ⟨a0, e0, _, w0⟩ := DataW.trod_int Try.underlying2 h0
  obtain ⟨a1, e1, _, w1⟩ := DataW.trod_int Try.underlying3 h1
  obtain ⟨a2, e2, _, w2⟩ := DataW.trod_int Try.underlying3 h2
  simp at e0 e1 e2
  subst e0 e1 e2
  exact ⟨(a0, a1, a2), rfl⟩
theorem open_faults {H : Type} {enc : TypeId × Value → H} {w : World} {base : Nat} {spare : Nat → Bool} {held : Bool} {fuel : Nat} {v : Value} {x : DataW H × List MemPlace}
    (h : DataW.trod enc Try.prog w base spare held fuel 23 [v] = some x) (hwt : ∀ n ∈ x.1.weights Try.prog 23, n ≤ reachBytes) : ∃ fs : List Ft, Fts w v fs ∧ fs.length ≤ 140737488351232 := by
  rcases open_slice Try.underlying23 h with ⟨hcs, hx⟩ | ⟨a, len, cap, m, n, D, Pl, hcs, hb, hl, hm, hmm, hx, hel⟩
  · simp at hcs
    subst hcs hx
    exact ⟨[], ⟨none, 0, rfl, Nat.le_refl _, Nat.zero_le _, fun i hi => by simp at hi⟩, by simp⟩
  · simp at hcs
    have hlm : len ≤ m := by split at hmm <;> omega
    have each : ∀ i, ∃ o : Ft, i < len → ∃ b off, a = ⟨b, off, none⟩ ∧ w.cell? ⟨b, off + i * 3, none⟩ = some (.int .i64 o.1) ∧ w.cell? ⟨b, off + i * 3 + 1, none⟩ = some (.int .i64 o.2.1) ∧ w.cell? ⟨b, off + i * 3 + 2, none⟩ = some (.int .i64 o.2.2) := by
      intro i
      by_cases hi : i < len
      · obtain ⟨cs', h1, h2⟩ := hel i (by omega)
        obtain ⟨o1, rfl⟩ := open_fault h2
        rw [cellsFault] at h1
        obtain ⟨b, off, sp⟩ := a
        have hsp : sp = none := by
          obtain ⟨cs0, g1, g2⟩ := hel 0 (by omega)
          obtain ⟨_, rfl⟩ := open_fault g2
          rw [cellsFault] at g1
          have g3 := (World.cells?_some g1).2.2 0 (by omega)
          simp [Addr.add] at g3
          exact World.cell?_spot g3
        subst hsp
        have hcell := (World.cells?_some h1).2.2
        rw [addr_add] at hcell
        have k0 := hcell 0 (by omega)
        have k1 := hcell 1 (by omega)
        have k2 := hcell 2 (by omega)
        rw [addr_add] at k0 k1 k2
        exact ⟨o1, fun _ => ⟨b, off, rfl, by simpa using k0, by simpa using k1, by simpa using k2⟩⟩
      · exact ⟨(0, 0, 0), fun h => absurd h hi⟩
    obtain ⟨O, hO⟩ : ∃ O : Nat → Ft, ∀ i, i < len → ∃ b off, a = ⟨b, off, none⟩ ∧ w.cell? ⟨b, off + i * 3, none⟩ = some (.int .i64 (O i).1) ∧ w.cell? ⟨b, off + i * 3 + 1, none⟩ = some (.int .i64 (O i).2.1) ∧ w.cell? ⟨b, off + i * 3 + 2, none⟩ = some (.int .i64 (O i).2.2) := ⟨fun i => Classical.choose (each i), fun i => Classical.choose_spec (each i)⟩
    have hln : len ≤ 140737488351232 := by
      have hmem : (((List.range len).map D).length + ((List.range (m - len)).map fun j => D (len + j)).length) * Try.prog.bytesOf 77 ∈ x.1.weights Try.prog 23 := by
        rw [hx]; simp [DataW.weights, Try.underlying23]
      have h4 := hwt _ hmem
      have hbk : Try.prog.bytesOf 77 = 24 := by kernel_rfl
      rw [hbk] at h4
      simp only [List.length_map, List.length_range, reachBytes] at h4
      omega
    refine ⟨(List.range len).map O, ⟨some a, cap, by simp [hcs], by simp; omega, by omega, ?_⟩, by simpa using hln⟩
    intro i hi
    simp at hi
    obtain ⟨b, off, rfl, q1, q2, q3⟩ := hO i (by omega)
    exact ⟨b, off, rfl, by simpa using q1, by simpa using q2, by simpa using q3⟩
/-- A call of a disk, by data, and where its lists lie. -/
structure Dop where
  kind : Int
  sec : Bool
  nm : ByteArray
  tn : ByteArray
  vd : Value
  dat : List UInt8
  off : Int
  n : Int
  vf : Value
  fs : List Ft
  dir : Int
  vk : Value
  ks : List Kep
def Dop.cells (o : Dop) : List Value := [.int .i64 o.kind, .bool o.sec, .string o.nm, .string o.tn, o.vd, .int .i64 o.off, .int .i64 o.n, o.vf, .int .i64 o.dir, o.vk]
def i64In (n : Int) : Prop := -9223372036854775808 ≤ n ∧ n ≤ 9223372036854775807
structure DopOk (w : World) (o : Dop) : Prop where
  kind : i64In o.kind
  nm : o.nm.size ≤ 140737488351232
  tn : o.tn.size ≤ 140737488351232
  dat : Sl w o.vd o.dat
  datl : o.dat.length ≤ 140737488351232
  off : i64In o.off
  n : i64In o.n
  fs : Fts w o.vf o.fs
  fsl : o.fs.length ≤ 140737488351232
  dir : i64In o.dir
  ks : Kp (fun k => k < w.heap.size) w o.vk o.ks
  ksl : ∀ k ∈ o.ks, k.2.length ≤ 140737488351232
  ksn : o.ks.length ≤ 140737488351232
theorem cellsOp : Try.prog.cellsOf 28 = 10 := by kernel_rfl
theorem cellsOne : Try.prog.cellsOf 4 = 1 ∧ Try.prog.cellsOf 9 = 1 ∧ Try.prog.cellsOf 23 = 1 := ⟨by kernel_rfl, by kernel_rfl, by kernel_rfl⟩
theorem opFields : ∃ fs, Try.prog.underlying 28 = some (.struct fs) ∧ (fs.map fun f : Field => (f.type, f.offset)) = #[(3, 0), (4, 1), (9, 2), (9, 3), (22, 4), (3, 5), (3, 6), (23, 7), (26, 8)] := ⟨_, Try.underlying28, by kernel_rfl⟩
theorem open_dop {H : Type} {enc : TypeId × Value → H} {w : World} {base : Nat} {spare : Nat → Bool} {held : Bool} {fuel : Nat} {cs : List Value} {y : DataW H × List MemPlace}
    (h : DataW.trod enc Try.prog w base spare held fuel 28 cs = some y) (hwt : ∀ n ∈ y.1.weights Try.prog 28, n ≤ reachBytes) : ∃ o : Dop, cs = o.cells ∧ DopOk w o := by
  obtain ⟨fs, hfs, hmap⟩ := opFields
  obtain ⟨xs, m, hm, hxe, hlen, hxl, hel⟩ := DataW.trod_struct hfs h
  have hfsz : fs.size = 9 := by have := congrArg Array.size hmap; simpa using this
  have hpt : ∀ (i : Nat) (t : TypeId) (o : Nat), (fs.map fun f : Field => (f.type, f.offset))[i]? = some (t, o) → ∃ y, DataW.trod enc Try.prog w base spare held m t ((cs.drop o).take (Try.prog.cellsOf t)) = some y ∧ ∀ n ∈ y.1.weights Try.prog t, n ≤ reachBytes := by
    intro i t o hf
    rw [Array.getElem?_map] at hf
    obtain ⟨f, e1, e2⟩ := Option.map_eq_some_iff.1 hf
    simp only [Prod.mk.injEq] at e2
    obtain ⟨e2, e3⟩ := e2
    have hi : i < fs.size := (Array.getElem?_eq_some_iff.1 e1).1
    have hE := hel i f e1
    rw [e2, e3, List.getElem?_eq_getElem (by omega)] at hE
    refine ⟨_, hE, fun n hn => hwt n ?_⟩
    rw [hxe]
    simp only [DataW.weights, hfs]
    exact DataW.weights_mem_each (j := i) (t := t) (d := (xs[i]).1) (by rw [List.getElem?_map, Array.getElem?_toList, e1]; simp [e2]) (by rw [List.getElem?_map, List.getElem?_eq_getElem (by omega)]; rfl) n hn
  rw [hmap] at hpt
  rw [cellsOp] at hlen
  obtain ⟨c0, c1, c2, c3, c4, c5, c6, c7, c8, c9, rfl⟩ : ∃ c0 c1 c2 c3 c4 c5 c6 c7 c8 c9, cs = [c0, c1, c2, c3, c4, c5, c6, c7, c8, c9] := by
    match cs, hlen with
    | [c0, c1, c2, c3, c4, c5, c6, c7, c8, c9], _ => exact ⟨c0, c1, c2, c3, c4, c5, c6, c7, c8, c9, rfl⟩
  obtain ⟨y0, t0, _⟩ := hpt 0 _ _ rfl
  obtain ⟨y1, t1, _⟩ := hpt 1 _ _ rfl
  obtain ⟨y2, t2, u2⟩ := hpt 2 _ _ rfl
  obtain ⟨y3, t3, u3⟩ := hpt 3 _ _ rfl
  obtain ⟨y4, t4, u4⟩ := hpt 4 _ _ rfl
  obtain ⟨y5, t5, _⟩ := hpt 5 _ _ rfl
  obtain ⟨y6, t6, _⟩ := hpt 6 _ _ rfl
  obtain ⟨y7, t7, u7⟩ := hpt 7 _ _ rfl
  obtain ⟨y8, t8, u8⟩ := hpt 8 _ _ rfl
  obtain ⟨k1, k2, k3⟩ := cellsOne
  simp only [cellsInt, k1, k2, k3, cellsBs, cellsFate] at t0 t1 t2 t3 t4 t5 t6 t7 t8
  obtain ⟨a0, e0, _, w0⟩ := DataW.trod_int Try.underlying3 t0
  obtain ⟨a1, e1, _⟩ := DataW.trod_bool Try.underlying4 t1
  obtain ⟨a2, e2, x2, w2⟩ := DataW.trod_string Try.underlying9 t2
  obtain ⟨a3, e3, x3, w3⟩ := DataW.trod_string Try.underlying9 t3
  obtain ⟨a5, e5, _, w5⟩ := DataW.trod_int Try.underlying3 t5
  obtain ⟨a6, e6, _, w6⟩ := DataW.trod_int Try.underlying3 t6
  simp at e0 e1 e2 e3 e5 e6
  subst e0 e1 e2 e3 e5 e6
  have h2 : a2.size ≤ 140737488351232 := by
    have := u2 a2.data.toList.length (by rw [x2]; simp [DataW.weights])
    simp only [reachBytes] at this
    exact Nat.le_trans (Nat.le_of_eq rfl) (by simpa using this)
  have h3 : a3.size ≤ 140737488351232 := by
    have := u3 a3.data.toList.length (by rw [x3]; simp [DataW.weights])
    simp only [reachBytes] at this
    exact Nat.le_trans (Nat.le_of_eq rfl) (by simpa using this)
  obtain ⟨l4, s4, d4⟩ := open_bytes (v := c4) (by simpa using t4)
  have hl4 : l4.length ≤ 140737488351232 := by
    rcases d4 with ⟨_, rfl⟩ | ⟨elems, sp, g1, g2⟩
    · simp
    · have hm : (elems.length + sp.length) * Try.prog.bytesOf 5 ∈ y4.1.weights Try.prog 22 := by
        rw [g1]; simp [DataW.weights, Try.underlying22]
      have h4 := u4 _ hm
      rw [bytesU8] at h4
      simp only [reachBytes] at h4
      omega
  obtain ⟨f7, s7, n7⟩ := open_faults (v := c7) (by simpa using t7) u7
  obtain ⟨d8, v8, k8, e8, q1, q2, q3, q4, q5⟩ := open_fate (cs := [c8, c9]) (by simpa using t8) u8
  simp at e8
  obtain ⟨rfl, rfl⟩ := e8
  exact ⟨⟨a0, a1, a2, a3, c4, l4, a5, a6, c7, f7, d8, c9, k8⟩, rfl, ⟨i64_bounds w0, h2, h3, s4, hl4, i64_bounds w5, i64_bounds w6, s7, n7, ⟨q1, q2⟩, q3, q4, q5⟩⟩
#print axioms open_dop
/-- Calls lie from address ao on. -/
def AtDops (w : World) (ao : Option Addr) (os : List Dop) : Prop :=
  ∀ i (h : i < os.length), ∃ b off, ao = some ⟨b, off, none⟩ ∧ ∀ j u, (os[i]).cells[j]? = some u → w.cell? ⟨b, off + i * 10 + j, none⟩ = some u
end Go.Proofs.Ytdelknejmapeaaa.Dk
