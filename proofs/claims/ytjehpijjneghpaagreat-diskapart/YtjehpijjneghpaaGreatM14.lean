/-
  Arguments that are keeps, fates, faults, calls of a disk, opened.
-/
import Derived.Test.YtjehpijjneghpaaGreatM02
import Derived.Test.YtjehpijjneghpaaGreatM13
import Derived.Deep.Strs
import Derived.Deep.Slices
namespace Go.Proofs.YtjehpijjneghpaaGreat.Dk
open Go.ChangeShapes Go.WideShapes Go.ChangeAt Go.RowKit Go.Deep
set_option maxRecDepth 100000
theorem cellsKeep : Tryz.prog.cellsOf 88 = 2 := by kernel_rfl
theorem cellsFate : Tryz.prog.cellsOf 34 = 2 := by kernel_rfl
theorem cellsFault : Tryz.prog.cellsOf 118 = 3 := by kernel_rfl
theorem cellsInt : Tryz.prog.cellsOf 3 = 1 := by kernel_rfl
theorem cellsI64 : Tryz.prog.cellsOf 2 = 1 := by kernel_rfl
theorem cellsBs : Tryz.prog.cellsOf 30 = 1 := by kernel_rfl
theorem cellsKeeps : Tryz.prog.cellsOf 32 = 1 := by kernel_rfl
theorem weightsAll_at {H : Type} {P : Program} {e : TypeId} : ∀ {ds : List (DataW H)} {i : Nat} {d : DataW H}, ds[i]? = some d → ∀ n ∈ d.weights P e, n ∈ DataW.weightsAll P e ds
  | [], i, d, h, _, _ => by simp at h
  | c :: r, 0, d, h, n, hn => by
    simp only [List.getElem?_cons_zero, Option.some.injEq] at h
    subst h
    simp only [DataW.weightsAll, List.mem_append]
    exact Or.inl hn
  | c :: r, i + 1, d, h, n, hn => by
    simp only [DataW.weightsAll, List.mem_append]
    exact Or.inr (weightsAll_at (i := i) (by simpa using h) n hn)
theorem sin_of {w : World} {v : Value} {l : List UInt8} (h : Sl w v l) : SIn (fun k => k < w.heap.size) v := by
  obtain ⟨ao, cap, rfl, _, _, _, h5⟩ := h
  intro b off n c e hn
  simp only [Value.slice.injEq] at e
  obtain ⟨rfl, rfl, _⟩ := e
  obtain ⟨b', off', e', hc⟩ := h5 0 hn
  simp only [Option.some.injEq, Addr.mk.injEq] at e'
  rw [e'.1]
  exact lt_of_cell hc
theorem open_keep {H : Type} {enc : TypeId × Value → H} {w : World} {base : Nat} {spare : Nat → Bool} {held : Bool} {fuel : Nat} {cs : List Value} {y : DataW H × List MemPlace}
    (h : DataW.trod enc Tryz.prog w base spare held fuel 88 cs = some y) (hwt : ∀ n ∈ y.1.weights Tryz.prog 88, n ≤ reachBytes) :
    ∃ (k : Kep) (v : Value), cs = [.int .i64 k.1, v] ∧ -9223372036854775808 ≤ k.1 ∧ k.1 ≤ 9223372036854775807 ∧ Sl w v k.2 ∧ k.2.length ≤ 140737488351232 := by
  obtain ⟨y0, y1, n, hy, hlen, h0, h1⟩ := trod_struct2 Tryz.underlying88 h
  rw [cellsKeep] at hlen
  obtain ⟨c0, c1, rfl⟩ : ∃ c0 c1, cs = [c0, c1] := by
    match cs, hlen with
    | [c0, c1], _ => exact ⟨c0, c1, rfl⟩
  simp only [cellsInt, cellsBs] at h0 h1
  obtain ⟨a0, e0, _, w0⟩ := DataW.trod_int Tryz.underlying3 h0
  simp at e0
  subst e0
  obtain ⟨l, hs, hd⟩ := open_bytes (v := c1) (by simpa using h1)
  have hl : l.length ≤ 140737488351232 := by
    rcases hd with ⟨_, rfl⟩ | ⟨elems, sp, e1, e2⟩
    · simp
    · have hm : (elems.length + sp.length) * Tryz.prog.bytesOf 5 ∈ y1.1.weights Tryz.prog 30 := by
        rw [e1]; simp [DataW.weights, Tryz.underlying30]
      have h4 : (elems.length + sp.length) * Tryz.prog.bytesOf 5 ≤ reachBytes := by
        refine hwt _ ?_
        rw [hy]
        simp only [DataW.weights, Tryz.underlying88]
        exact DataW.weights_mem_each (j := 1) (t := 30) (d := y1.1) rfl rfl _ hm
      rw [bytesU8] at h4
      simp only [reachBytes] at h4
      omega
  exact ⟨(a0, l), c1, rfl, (i64_bounds w0).1, (i64_bounds w0).2, hs, hl⟩
theorem open_keeps {H : Type} {enc : TypeId × Value → H} {w : World} {base : Nat} {spare : Nat → Bool} {held : Bool} {fuel : Nat} {v : Value} {x : DataW H × List MemPlace}
    (h : DataW.trod enc Tryz.prog w base spare held fuel 32 [v] = some x) (hwt : ∀ n ∈ x.1.weights Tryz.prog 32, n ≤ reachBytes) :
    ∃ ks : List Kep, Kp (fun k => k < w.heap.size) w v ks ∧ (∀ k ∈ ks, k.2.length ≤ 140737488351232) ∧ ks.length * 32 ≤ 140737488351232 := by
  rcases open_slice Tryz.underlying32 h with ⟨hcs, hx⟩ | ⟨a, len, cap, m, n, D, Pl, hcs, hb, hl, hm, hmm, hx, hel⟩
  · simp at hcs
    subst hcs hx
    exact ⟨[], ⟨none, 0, rfl, Nat.le_refl _, Nat.zero_le _, fun i hi => by simp at hi⟩, fun o ho => by simp at ho, by simp⟩
  · simp at hcs
    have hlm : len ≤ m := by split at hmm <;> omega
    have each : ∀ i, ∃ o : Kep, i < len → o.2.length ≤ 140737488351232 ∧ -9223372036854775808 ≤ o.1 ∧ o.1 ≤ 9223372036854775807 ∧ ∃ b off vj, a = ⟨b, off, none⟩ ∧ w.cell? ⟨b, off + i * 2, none⟩ = some (.int .i64 o.1) ∧ w.cell? ⟨b, off + i * 2 + 1, none⟩ = some vj ∧ Sl w vj o.2 := by
      intro i
      by_cases hi : i < len
      · obtain ⟨cs', h1, h2⟩ := hel i (by omega)
        obtain ⟨o1, o2, rfl, q1, q2, q3, q4⟩ := open_keep h2 (fun n hn => hwt n (by
          rw [hx]
          simp only [DataW.weights, Tryz.underlying32, List.mem_cons, List.mem_append]
          exact Or.inr (Or.inl (weightsAll_at (i := i) (d := D i) (by simp [hi]) n hn))))
        rw [cellsKeep] at h1
        obtain ⟨b, off, sp⟩ := a
        have hsp : sp = none := by
          obtain ⟨cs0, g1, g2⟩ := hel 0 (by omega)
          have g3 := (World.cells?_some g1).2.2 0 (by rw [cellsKeep]; omega)
          have g4 : cs0.length = 2 := by
            have := (World.cells?_some g1).2.1
            rw [cellsKeep] at this
            first | exact this | omega
          simp [Addr.add, g4] at g3
          exact World.cell?_spot g3
        subst hsp
        have hcell := (World.cells?_some h1).2.2
        rw [addr_add] at hcell
        have k0 := hcell 0 (by omega)
        have k1 := hcell 1 (by omega)
        rw [addr_add] at k0 k1
        exact ⟨o1, fun _ => ⟨q4, q1, q2, b, off, o2, rfl, by simpa using k0, by simpa using k1, q3⟩⟩
      · exact ⟨(0, []), fun h => absurd h hi⟩
    obtain ⟨O, hO⟩ : ∃ O : Nat → Kep, ∀ i, i < len → (O i).2.length ≤ 140737488351232 ∧ -9223372036854775808 ≤ (O i).1 ∧ (O i).1 ≤ 9223372036854775807 ∧ ∃ b off vj, a = ⟨b, off, none⟩ ∧ w.cell? ⟨b, off + i * 2, none⟩ = some (.int .i64 (O i).1) ∧ w.cell? ⟨b, off + i * 2 + 1, none⟩ = some vj ∧ Sl w vj (O i).2 := ⟨fun i => Classical.choose (each i), fun i => Classical.choose_spec (each i)⟩
    have hln : len * 32 ≤ 140737488351232 := by
      have hmem : (((List.range len).map D).length + ((List.range (m - len)).map fun j => D (len + j)).length) * Tryz.prog.bytesOf 88 ∈ x.1.weights Tryz.prog 32 := by
        rw [hx]; simp [DataW.weights, Tryz.underlying32]
      have h4 := hwt _ hmem
      have hbk : Tryz.prog.bytesOf 88 = 32 := by kernel_rfl
      rw [hbk] at h4
      simp only [List.length_map, List.length_range, reachBytes] at h4
      omega
    refine ⟨(List.range len).map O, ⟨some a, cap, by simp [hcs], by simp; omega, by omega, ?_⟩, ?_, by simpa using hln⟩
    · intro i hi
      simp at hi
      obtain ⟨_, n0, n1, b, off, vj, rfl, q1, q2, q3⟩ := hO i (by omega)
      exact ⟨b, off, vj, rfl, lt_of_cell q1, by simpa using q1, q2, by simpa using q3, sin_of q3, by simpa using n0, by simpa using n1⟩
    · intro o ho
      simp only [List.mem_map, List.mem_range] at ho
      obtain ⟨i, hi, rfl⟩ := ho
      exact (hO i (by omega)).1
theorem open_fate {H : Type} {enc : TypeId × Value → H} {w : World} {base : Nat} {spare : Nat → Bool} {held : Bool} {fuel : Nat} {cs : List Value} {y : DataW H × List MemPlace}
    (h : DataW.trod enc Tryz.prog w base spare held fuel 34 cs = some y) (hwt : ∀ n ∈ y.1.weights Tryz.prog 34, n ≤ reachBytes) :
    ∃ (d : Int) (v : Value) (ks : List Kep), cs = [.int .i64 d, v] ∧ -9223372036854775808 ≤ d ∧ d ≤ 9223372036854775807 ∧ Kp (fun k => k < w.heap.size) w v ks ∧ (∀ k ∈ ks, k.2.length ≤ 140737488351232) ∧ ks.length * 32 ≤ 140737488351232 := by
  obtain ⟨y0, y1, n, hy, hlen, h0, h1⟩ := trod_struct2 Tryz.underlying34 h
  rw [cellsFate] at hlen
  obtain ⟨c0, c1, rfl⟩ : ∃ c0 c1, cs = [c0, c1] := by
    match cs, hlen with
    | [c0, c1], _ => exact ⟨c0, c1, rfl⟩
  simp only [cellsInt, cellsKeeps] at h0 h1
  obtain ⟨a0, e0, _, w0⟩ := DataW.trod_int Tryz.underlying3 h0
  simp at e0
  subst e0
  obtain ⟨ks, hk, hl, hn⟩ := open_keeps (v := c1) (by simpa using h1) (fun n hn => hwt n (by
    rw [hy]
    simp only [DataW.weights, Tryz.underlying34]
    exact DataW.weights_mem_each (j := 1) (t := 32) (d := y1.1) rfl rfl _ hn))
  exact ⟨a0, c1, ks, rfl, (i64_bounds w0).1, (i64_bounds w0).2, hk, hl, hn⟩
set_option maxRecDepth 100000
theorem open_fault {H : Type} {enc : TypeId × Value → H} {w : World} {base : Nat} {spare : Nat → Bool} {held : Bool} {fuel : Nat} {cs : List Value} {y : DataW H × List MemPlace}
    (h : DataW.trod enc Tryz.prog w base spare held fuel 118 cs = some y) :
    ∃ t : Ft, cs = [.int .i64 t.1, .int .i64 t.2.1, .int .i64 t.2.2] := by
  obtain ⟨y0, y1, y2, n, _, hlen, h0, h1, h2⟩ := trod_struct3 Tryz.underlying118 h
  rw [cellsFault] at hlen
  obtain ⟨c0, c1, c2, rfl⟩ : ∃ c0 c1 c2, cs = [c0, c1, c2] := by
    match cs, hlen with
    | [c0, c1, c2], _ => exact ⟨c0, c1, c2, rfl⟩
  simp only [cellsI64, cellsInt] at h0 h1 h2
  obtain ⟨a0, e0, _, w0⟩ := DataW.trod_int Tryz.underlying2 h0
  obtain ⟨a1, e1, _, w1⟩ := DataW.trod_int Tryz.underlying3 h1
  obtain ⟨a2, e2, _, w2⟩ := DataW.trod_int Tryz.underlying3 h2
  simp at e0 e1 e2
  subst e0 e1 e2
  exact ⟨(a0, a1, a2), rfl⟩
theorem open_faults {H : Type} {enc : TypeId × Value → H} {w : World} {base : Nat} {spare : Nat → Bool} {held : Bool} {fuel : Nat} {v : Value} {x : DataW H × List MemPlace}
    (h : DataW.trod enc Tryz.prog w base spare held fuel 31 [v] = some x) (hwt : ∀ n ∈ x.1.weights Tryz.prog 31, n ≤ reachBytes) : ∃ fs : List Ft, Fts w v fs ∧ fs.length * 24 ≤ 140737488351232 := by
  rcases open_slice Tryz.underlying31 h with ⟨hcs, hx⟩ | ⟨a, len, cap, m, n, D, Pl, hcs, hb, hl, hm, hmm, hx, hel⟩
  · simp at hcs
    subst hcs hx
    exact ⟨[], ⟨none, 0, rfl, Nat.le_refl _, Nat.zero_le _, fun i hi => by simp at hi⟩, by simp⟩
  · simp at hcs
    have hlm : len ≤ m := by split at hmm <;> omega
    have each : ∀ i, ∃ o : Ft, i < len → ∃ b off, a = ⟨b, off, none⟩ ∧ w.cell? ⟨b, off + i * 3, none⟩ = some (.int .i64 o.1) ∧ w.cell? ⟨b, off + i * 3 + 1, none⟩ = some (.int .i64 o.2.1) ∧ w.cell? ⟨b, off + i * 3 + 2, none⟩ = some (.int .i64 o.2.2) := by
      intro i
      by_cases hi : i < len
      · obtain ⟨cs', h1, h2⟩ := hel i (by omega)
        obtain ⟨o1, rfl⟩ := open_fault h2
        rw [cellsFault] at h1
        obtain ⟨b, off, sp⟩ := a
        have hsp : sp = none := by
          obtain ⟨cs0, g1, g2⟩ := hel 0 (by omega)
          obtain ⟨_, rfl⟩ := open_fault g2
          rw [cellsFault] at g1
          have g3 := (World.cells?_some g1).2.2 0 (by omega)
          simp [Addr.add] at g3
          exact World.cell?_spot g3
        subst hsp
        have hcell := (World.cells?_some h1).2.2
        rw [addr_add] at hcell
        have k0 := hcell 0 (by omega)
        have k1 := hcell 1 (by omega)
        have k2 := hcell 2 (by omega)
        rw [addr_add] at k0 k1 k2
        exact ⟨o1, fun _ => ⟨b, off, rfl, by simpa using k0, by simpa using k1, by simpa using k2⟩⟩
      · exact ⟨(0, 0, 0), fun h => absurd h hi⟩
    obtain ⟨O, hO⟩ : ∃ O : Nat → Ft, ∀ i, i < len → ∃ b off, a = ⟨b, off, none⟩ ∧ w.cell? ⟨b, off + i * 3, none⟩ = some (.int .i64 (O i).1) ∧ w.cell? ⟨b, off + i * 3 + 1, none⟩ = some (.int .i64 (O i).2.1) ∧ w.cell? ⟨b, off + i * 3 + 2, none⟩ = some (.int .i64 (O i).2.2) := ⟨fun i => Classical.choose (each i), fun i => Classical.choose_spec (each i)⟩
    have hln : len * 24 ≤ 140737488351232 := by
      have hmem : (((List.range len).map D).length + ((List.range (m - len)).map fun j => D (len + j)).length) * Tryz.prog.bytesOf 118 ∈ x.1.weights Tryz.prog 31 := by
        rw [hx]; simp [DataW.weights, Tryz.underlying31]
      have h4 := hwt _ hmem
      have hbk : Tryz.prog.bytesOf 118 = 24 := by kernel_rfl
      rw [hbk] at h4
      simp only [List.length_map, List.length_range, reachBytes] at h4
      omega
    refine ⟨(List.range len).map O, ⟨some a, cap, by simp [hcs], by simp; omega, by omega, ?_⟩, by simpa using hln⟩
    intro i hi
    simp at hi
    obtain ⟨b, off, rfl, q1, q2, q3⟩ := hO i (by omega)
    exact ⟨b, off, rfl, by simpa using q1, by simpa using q2, by simpa using q3⟩
structure Dop where
  kind : Int
  sec : Bool
  nm : ByteArray
  tn : ByteArray
  vd : Value
  dat : List UInt8
  off : Int
  n : Int
  vf : Value
  fs : List Ft
  dir : Int
  vk : Value
  ks : List Kep
def Dop.cells (o : Dop) : List Value := [.int .i64 o.kind, .bool o.sec, .string o.nm, .string o.tn, o.vd, .int .i64 o.off, .int .i64 o.n, o.vf, .int .i64 o.dir, o.vk]
def i64In (n : Int) : Prop := -9223372036854775808 ≤ n ∧ n ≤ 9223372036854775807
structure DopOk (w : World) (o : Dop) : Prop where
  kind : i64In o.kind
  nm : o.nm.size ≤ 140737488351232
  tn : o.tn.size ≤ 140737488351232
  dat : Sl w o.vd o.dat
  datl : o.dat.length ≤ 140737488351232
  off : i64In o.off
  n : i64In o.n
  fs : Fts w o.vf o.fs
  fsl : o.fs.length * 24 ≤ 140737488351232
  dir : i64In o.dir
  ks : Kp (fun k => k < w.heap.size) w o.vk o.ks
  ksl : ∀ k ∈ o.ks, k.2.length ≤ 140737488351232
  ksn : o.ks.length * 32 ≤ 140737488351232
theorem cellsOp : Tryz.prog.cellsOf 36 = 10 := by kernel_rfl
theorem cellsOne : Tryz.prog.cellsOf 4 = 1 ∧ Tryz.prog.cellsOf 9 = 1 ∧ Tryz.prog.cellsOf 31 = 1 := ⟨by kernel_rfl, by kernel_rfl, by kernel_rfl⟩
theorem opFields : ∃ fs, Tryz.prog.underlying 36 = some (.struct fs) ∧ (fs.map fun f : Field => (f.type, f.offset)) = #[(3, 0), (4, 1), (9, 2), (9, 3), (30, 4), (3, 5), (3, 6), (31, 7), (34, 8)] := ⟨_, Tryz.underlying36, by kernel_rfl⟩
theorem open_dop {H : Type} {enc : TypeId × Value → H} {w : World} {base : Nat} {spare : Nat → Bool} {held : Bool} {fuel : Nat} {cs : List Value} {y : DataW H × List MemPlace}
    (h : DataW.trod enc Tryz.prog w base spare held fuel 36 cs = some y) (hwt : ∀ n ∈ y.1.weights Tryz.prog 36, n ≤ reachBytes) : ∃ o : Dop, cs = o.cells ∧ DopOk w o := by
  obtain ⟨fs, hfs, hmap⟩ := opFields
  obtain ⟨xs, m, hm, hxe, hlen, hxl, hel⟩ := DataW.trod_struct hfs h
  have hfsz : fs.size = 9 := by have := congrArg Array.size hmap; simpa using this
  have hpt : ∀ (i : Nat) (t : TypeId) (o : Nat), (fs.map fun f : Field => (f.type, f.offset))[i]? = some (t, o) → ∃ y, DataW.trod enc Tryz.prog w base spare held m t ((cs.drop o).take (Tryz.prog.cellsOf t)) = some y ∧ ∀ n ∈ y.1.weights Tryz.prog t, n ≤ reachBytes := by
    intro i t o hf
    rw [Array.getElem?_map] at hf
    obtain ⟨f, e1, e2⟩ := Option.map_eq_some_iff.1 hf
    simp only [Prod.mk.injEq] at e2
    obtain ⟨e2, e3⟩ := e2
    have hi : i < fs.size := (Array.getElem?_eq_some_iff.1 e1).1
    have hE := hel i f e1
    rw [e2, e3, List.getElem?_eq_getElem (by omega)] at hE
    refine ⟨_, hE, fun n hn => hwt n ?_⟩
    rw [hxe]
    simp only [DataW.weights, hfs]
    exact DataW.weights_mem_each (j := i) (t := t) (d := (xs[i]).1) (by rw [List.getElem?_map, Array.getElem?_toList, e1]; simp [e2]) (by rw [List.getElem?_map, List.getElem?_eq_getElem (by omega)]; rfl) n hn
  rw [hmap] at hpt
  rw [cellsOp] at hlen
  obtain ⟨c0, c1, c2, c3, c4, c5, c6, c7, c8, c9, rfl⟩ : ∃ c0 c1 c2 c3 c4 c5 c6 c7 c8 c9, cs = [c0, c1, c2, c3, c4, c5, c6, c7, c8, c9] := by
    match cs, hlen with
    | [c0, c1, c2, c3, c4, c5, c6, c7, c8, c9], _ => exact ⟨c0, c1, c2, c3, c4, c5, c6, c7, c8, c9, rfl⟩
  obtain ⟨y0, t0, _⟩ := hpt 0 _ _ rfl
  obtain ⟨y1, t1, _⟩ := hpt 1 _ _ rfl
  obtain ⟨y2, t2, u2⟩ := hpt 2 _ _ rfl
  obtain ⟨y3, t3, u3⟩ := hpt 3 _ _ rfl
  obtain ⟨y4, t4, u4⟩ := hpt 4 _ _ rfl
  obtain ⟨y5, t5, _⟩ := hpt 5 _ _ rfl
  obtain ⟨y6, t6, _⟩ := hpt 6 _ _ rfl
  obtain ⟨y7, t7, u7⟩ := hpt 7 _ _ rfl
  obtain ⟨y8, t8, u8⟩ := hpt 8 _ _ rfl
  obtain ⟨k1, k2, k3⟩ := cellsOne
  simp only [cellsInt, k1, k2, k3, cellsBs, cellsFate] at t0 t1 t2 t3 t4 t5 t6 t7 t8
  obtain ⟨a0, e0, _, w0⟩ := DataW.trod_int Tryz.underlying3 t0
  obtain ⟨a1, e1, _⟩ := DataW.trod_bool Tryz.underlying4 t1
  obtain ⟨a2, e2, x2, w2⟩ := DataW.trod_string Tryz.underlying9 t2
  obtain ⟨a3, e3, x3, w3⟩ := DataW.trod_string Tryz.underlying9 t3
  obtain ⟨a5, e5, _, w5⟩ := DataW.trod_int Tryz.underlying3 t5
  obtain ⟨a6, e6, _, w6⟩ := DataW.trod_int Tryz.underlying3 t6
  simp at e0 e1 e2 e3 e5 e6
  subst e0 e1 e2 e3 e5 e6
  have h2 : a2.size ≤ 140737488351232 := by
    have := u2 a2.data.toList.length (by rw [x2]; simp [DataW.weights])
    simp only [reachBytes] at this
    exact Nat.le_trans (Nat.le_of_eq rfl) (by simpa using this)
  have h3 : a3.size ≤ 140737488351232 := by
    have := u3 a3.data.toList.length (by rw [x3]; simp [DataW.weights])
    simp only [reachBytes] at this
    exact Nat.le_trans (Nat.le_of_eq rfl) (by simpa using this)
  obtain ⟨l4, s4, d4⟩ := open_bytes (v := c4) (by simpa using t4)
  have hl4 : l4.length ≤ 140737488351232 := by
    rcases d4 with ⟨_, rfl⟩ | ⟨elems, sp, g1, g2⟩
    · simp
    · have hm : (elems.length + sp.length) * Tryz.prog.bytesOf 5 ∈ y4.1.weights Tryz.prog 30 := by
        rw [g1]; simp [DataW.weights, Tryz.underlying30]
      have h4 := u4 _ hm
      rw [bytesU8] at h4
      simp only [reachBytes] at h4
      omega
  obtain ⟨f7, s7, n7⟩ := open_faults (v := c7) (by simpa using t7) u7
  obtain ⟨d8, v8, k8, e8, q1, q2, q3, q4, q5⟩ := open_fate (cs := [c8, c9]) (by simpa using t8) u8
  simp at e8
  obtain ⟨rfl, rfl⟩ := e8
  exact ⟨⟨a0, a1, a2, a3, c4, l4, a5, a6, c7, f7, d8, c9, k8⟩, rfl, ⟨i64_bounds w0, h2, h3, s4, hl4, i64_bounds w5, i64_bounds w6, s7, n7, ⟨q1, q2⟩, q3, q4, q5⟩⟩
def AtDops (w : World) (ao : Option Addr) (os : List Dop) : Prop :=
  ∀ i (h : i < os.length), ∃ b off, ao = some ⟨b, off, none⟩ ∧ ∀ j u, (os[i]).cells[j]? = some u → w.cell? ⟨b, off + i * 10 + j, none⟩ = some u
theorem open_dops {H : Type} {enc : TypeId × Value → H} {w : World} {base : Nat} {spare : Nat → Bool} {held : Bool} {fuel : Nat} {v : Value} {x : DataW H × List MemPlace}
    (h : DataW.trod enc Tryz.prog w base spare held fuel 22 [v] = some x) (hwt : ∀ n ∈ x.1.weights Tryz.prog 22, n ≤ reachBytes) :
    ∃ (os : List Dop) (ao : Option Addr) (cap : Nat), v = .slice ao os.length cap ∧ os.length ≤ cap ∧ cap ≤ maxLen ∧ AtDops w ao os ∧ (∀ o ∈ os, DopOk w o) := by
  rcases open_slice Tryz.underlying22 h with ⟨hcs, hx⟩ | ⟨a, len, cap, m, n, D, Pl, hcs, hb, hl, hm, hmm, hx, hel⟩
  · simp at hcs
    subst hcs hx
    exact ⟨[], none, 0, rfl, Nat.le_refl _, Nat.zero_le _, fun i hi => by simp at hi, fun o ho => by simp at ho⟩
  · simp at hcs
    have hlm : len ≤ m := by split at hmm <;> omega
    have each : ∀ i, ∃ o : Dop, i < len → DopOk w o ∧ ∃ b off, a = ⟨b, off, none⟩ ∧ ∀ j u, o.cells[j]? = some u → w.cell? ⟨b, off + i * 10 + j, none⟩ = some u := by
      intro i
      by_cases hi : i < len
      · obtain ⟨cs', h1, h2⟩ := hel i (by omega)
        obtain ⟨o, ho, hok⟩ := open_dop h2 (fun n hn => hwt n (by
          rw [hx]
          simp only [DataW.weights, Tryz.underlying22, List.mem_cons, List.mem_append]
          exact Or.inr (Or.inl (weightsAll_at (i := i) (d := D i) (by simp [hi]) n hn))))
        rw [cellsOp] at h1
        obtain ⟨b, off, sp⟩ := a
        have hsp : sp = none := by
          obtain ⟨cs0, g1, g2⟩ := hel 0 (by omega)
          have g3 := (World.cells?_some g1).2.2 0 (by rw [cellsOp]; omega)
          have g4 : cs0.length = 10 := by
            have := (World.cells?_some g1).2.1
            rw [cellsOp] at this
            first | exact this | omega
          simp [Addr.add, g4] at g3
          exact World.cell?_spot g3
        subst hsp
        have hcell := (World.cells?_some h1).2.2
        rw [addr_add] at hcell
        refine ⟨o, fun _ => ⟨hok, b, off, rfl, fun j u hu => ?_⟩⟩
        have hj : j < 10 := by
          have := (List.getElem?_eq_some_iff.1 hu).1
          simpa [Dop.cells] using this
        have k0 := hcell j (by omega)
        rw [addr_add] at k0
        rw [k0, ← hu]
        simp [ho]
      · exact ⟨⟨0, false, ⟨#[]⟩, ⟨#[]⟩, .slice none 0 0, [], 0, 0, .slice none 0 0, [], 0, .slice none 0 0, []⟩, fun h => absurd h hi⟩
    obtain ⟨O, hO⟩ : ∃ O : Nat → Dop, ∀ i, i < len → DopOk w (O i) ∧ ∃ b off, a = ⟨b, off, none⟩ ∧ ∀ j u, (O i).cells[j]? = some u → w.cell? ⟨b, off + i * 10 + j, none⟩ = some u := ⟨fun i => Classical.choose (each i), fun i => Classical.choose_spec (each i)⟩
    refine ⟨(List.range len).map O, some a, cap, by simp [hcs], by simp; omega, by omega, ?_, ?_⟩
    · intro i hi
      simp at hi
      obtain ⟨_, b, off, rfl, q1⟩ := hO i (by omega)
      exact ⟨b, off, rfl, fun j u hu => q1 j u (by simpa using hu)⟩
    · intro o ho
      simp only [List.mem_map, List.mem_range] at ho
      obtain ⟨i, hi, rfl⟩ := ho
      exact (hO i (by omega)).1
end Go.Proofs.YtjehpijjneghpaaGreat.Dk
namespace Go.Proofs.YtjehpijjneghpaaGreat.Dk
open Go.RowKit Go.Maps Go.Sort Go.Shelf Go.Proofs.YtjehpijjneghpaaGreat.Nm
theorem DskE.cnts {w : World} {b : Nat} {S : DS} {O : Nat → Prop} (h : DskE w b S O) : (0 ≤ S.c0 ∧ 0 ≤ S.c1 ∧ 0 ≤ S.c2 ∧ 0 ≤ S.c3 ∧ 0 ≤ S.c4 ∧ 0 ≤ S.c5 ∧ 0 ≤ S.c6 ∧ 0 ≤ S.c7) ∧ (S.c0 ≤ S.c7 ∧ S.c1 ≤ S.c7 ∧ S.c2 ≤ S.c7 ∧ S.c3 ≤ S.c7 ∧ S.c4 ≤ S.c7 ∧ S.c5 ≤ S.c7 ∧ S.c6 ≤ S.c7) := by
  obtain ⟨f, g, pd, am, VB, VL, h⟩ := h
  exact ⟨h.dk.c0, h.dk.c1⟩
def DS.cs (S : DS) : Array Value := #[.int .i64 S.c0, .int .i64 S.c1, .int .i64 S.c2, .int .i64 S.c3, .int .i64 S.c4, .int .i64 S.c5, .int .i64 S.c6, .int .i64 S.c7, .int .i64 S.c8]
set_option maxRecDepth 100000 in
theorem count_dsk {w : World} {b : Nat} {S : DS} {O : Nat → Prop} (h : DskE w b S O) :
    Calls Tryz.prog 65 #[.pointer (some ⟨b, 0, none⟩)] w fun e w' => e = .returned (.agg S.cs) ∧ Below w.heap.size w w' := by
  obtain ⟨f, g, pd, am, VB, VL, h⟩ := h
  have hb := h.dk.cells
  have hB := hide (box_below w (.cells S.cs 96))
  have hb1 : (w.alloc (.cells #[.int .i64 0, .int .i64 0, .int .i64 0, .int .i64 0, .int .i64 0, .int .i64 0, .int .i64 0, .int .i64 0, .int .i64 0] 96)).heap[b]? = some (.cells (dcells (S.dc f g pd am)) TD (0, 0)) := ((box_below w _).block b (heap_lt hb)).trans hb
  have x0 : (w.alloc (.cells #[.int .i64 0, .int .i64 0, .int .i64 0, .int .i64 0, .int .i64 0, .int .i64 0, .int .i64 0, .int .i64 0, .int .i64 0] 96)).cell? ⟨b, 6, none⟩ = some (.int .i64 S.c0) := by simp [World.cell?, hb1, dcells, DS.dc]
  have x1 : (w.alloc (.cells #[.int .i64 0, .int .i64 0, .int .i64 0, .int .i64 0, .int .i64 0, .int .i64 0, .int .i64 0, .int .i64 0, .int .i64 0] 96)).cell? ⟨b, 7, none⟩ = some (.int .i64 S.c1) := by simp [World.cell?, hb1, dcells, DS.dc]
  have x2 : (w.alloc (.cells #[.int .i64 0, .int .i64 0, .int .i64 0, .int .i64 0, .int .i64 0, .int .i64 0, .int .i64 0, .int .i64 0, .int .i64 0] 96)).cell? ⟨b, 8, none⟩ = some (.int .i64 S.c2) := by simp [World.cell?, hb1, dcells, DS.dc]
  have x3 : (w.alloc (.cells #[.int .i64 0, .int .i64 0, .int .i64 0, .int .i64 0, .int .i64 0, .int .i64 0, .int .i64 0, .int .i64 0, .int .i64 0] 96)).cell? ⟨b, 9, none⟩ = some (.int .i64 S.c3) := by simp [World.cell?, hb1, dcells, DS.dc]
  have x4 : (w.alloc (.cells #[.int .i64 0, .int .i64 0, .int .i64 0, .int .i64 0, .int .i64 0, .int .i64 0, .int .i64 0, .int .i64 0, .int .i64 0] 96)).cell? ⟨b, 10, none⟩ = some (.int .i64 S.c4) := by simp [World.cell?, hb1, dcells, DS.dc]
  have x5 : (w.alloc (.cells #[.int .i64 0, .int .i64 0, .int .i64 0, .int .i64 0, .int .i64 0, .int .i64 0, .int .i64 0, .int .i64 0, .int .i64 0] 96)).cell? ⟨b, 11, none⟩ = some (.int .i64 S.c5) := by simp [World.cell?, hb1, dcells, DS.dc]
  have x6 : (w.alloc (.cells #[.int .i64 0, .int .i64 0, .int .i64 0, .int .i64 0, .int .i64 0, .int .i64 0, .int .i64 0, .int .i64 0, .int .i64 0] 96)).cell? ⟨b, 12, none⟩ = some (.int .i64 S.c6) := by simp [World.cell?, hb1, dcells, DS.dc]
  have x7 : (w.alloc (.cells #[.int .i64 0, .int .i64 0, .int .i64 0, .int .i64 0, .int .i64 0, .int .i64 0, .int .i64 0, .int .i64 0, .int .i64 0] 96)).cell? ⟨b, 13, none⟩ = some (.int .i64 S.c7) := by simp [World.cell?, hb1, dcells, DS.dc]
  have x8 : (w.alloc (.cells #[.int .i64 0, .int .i64 0, .int .i64 0, .int .i64 0, .int .i64 0, .int .i64 0, .int .i64 0, .int .i64 0, .int .i64 0] 96)).cell? ⟨b, 14, none⟩ = some (.int .i64 S.c8) := by simp [World.cell?, hb1, dcells, DS.dc]
  clear hb1 hb h
  unfold DS.cs at hB ⊢
  go_enter Tryz.func65, Tryz.ntmps65
  go_wp2_with fail
  go_returns
  exact ⟨rfl, hB.out⟩
theorem pending_dsk {w : World} {b : Nat} {S : DS} {O : Nat → Prop} (h : DskE w b S O) :
    Calls Tryz.prog 22 #[.pointer (some ⟨b, 0, none⟩)] w fun e w' => e = .returned (.int .i64 (S.P.length : Int)) ∧ w' = w := by
  obtain ⟨f, g, pd, am, VB, VL, h⟩ := h
  have c4 : w.cell? ⟨b, 4, none⟩ = some pd := h.dk.box.cells.2.2.2.2.1
  have hr := h.dk.pd.row
  obtain ⟨ao, ca, e, _, r3, r4, _⟩ := hr
  rw [List.length_map] at e r3
  have e' : pd = .slice ao S.P.length ca := e
  subst e'
  clear h
  go_enter Tryz.func22, Tryz.ntmps22
  go_wp2_with fail
  go_ret
  exact ⟨rfl, rfl⟩
def DS.sum (S : DS) : Int := S.c0 + S.c1 + S.c2 + S.c3 + S.c4 + S.c5 + S.c6
abbrev Fil2 := List (List UInt8 × List UInt8)
def fcells : Fil2 → List Value → List Value
  | l :: r, u :: us => encStr l.1 :: u :: fcells r us
  | _, _ => []
theorem fcells_snoc : ∀ (L : Fil2) (vs : List Value) (l : List UInt8 × List UInt8) (u : Value), vs.length = L.length → fcells (L ++ [l]) (vs ++ [u]) = fcells L vs ++ [encStr l.1, u]
  | [], [], l, u, _ => rfl
  | a :: r, b :: s, l, u, h => by
    simp only [List.cons_append, fcells]
    rw [fcells_snoc r s l u (by simpa using h)]
  | [], _ :: _, _, _, h => by simp at h
  | _ :: _, [], _, _, h => by simp at h
structure FlI (B : Nat) (w : World) (v : Value) (L : Fil2) (vs : List Value) : Prop where
  len : vs.length = L.length
  row : w.ownsRow B 61 2 v L.length (fcells L vs)
  ob : ∀ (i : Nat) (l : List UInt8 × List UInt8) (u : Value), vs[i]? = some u → L[i]? = some l → Ob B w u l.2
  ap : ∀ (i j : Nat) (u u' : Value), i ≠ j → vs[i]? = some u → vs[j]? = some u' → ∀ k, u.ownBlock = some k → u'.ownBlock ≠ some k
  no : ∀ (i : Nat) (u : Value), vs[i]? = some u → ∀ k, u.ownBlock = some k → v.ownBlock ≠ some k
theorem FlI.nil (B : Nat) (w : World) : FlI B w (.slice none 0 0) [] [] := ⟨rfl, World.ownsRow_nil _ _ _ _, fun i l u h => by simp at h, fun i j u u' _ h => by simp at h, fun i u h => by simp at h⟩
theorem row_but {B : Nat} {X : Nat → Prop} {A C : World} {T : TypeId} {n k : Nat} {v : Value} {xs : List Value} (h : A.ownsRow B T k v n xs) (hb : But X A C) (hx : ∀ j, v.ownBlock = some j → ¬ X j) : C.ownsRow B T k v n xs := by
  refine ⟨h.1, ?_⟩
  rcases h.2 with h | ⟨g, cap, cur, rfl, hg, hh, r⟩
  · exact .inl h
  · exact .inr ⟨g, cap, cur, rfl, hg, hb.at hh (hx g rfl), r⟩
theorem FlI.get {B : Nat} {w : World} {v : Value} {L : Fil2} {vs : List Value} (h : FlI B w v L vs) {i : Nat} {u : Value} (hu : vs[i]? = some u) : ∃ l, L[i]? = some l ∧ Ob B w u l.2 := by
  have hi : i < L.length := by rw [← h.len]; exact (List.getElem?_eq_some_iff.1 hu).1
  exact ⟨L[i], List.getElem?_eq_getElem hi, h.ob i _ u hu (List.getElem?_eq_getElem hi)⟩
theorem FlI.but {B : Nat} {X : Nat → Prop} {w w' : World} {v : Value} {L : Fil2} {vs : List Value} (h : FlI B w v L vs) (hb : But X w w') (hx : ∀ k, X k → k < B ∨ w.heap.size ≤ k) : FlI B w' v L vs := by
  have hv : ∀ j, v.ownBlock = some j → ¬ X j := fun j hj c => by
    obtain ⟨q1, q2⟩ := World.ownsRow.lt h.row j hj
    rcases hx j c with z | z <;> omega
  refine ⟨h.len, row_but h.row hb hv, fun i l u hu hl => (h.ob i l u hu hl).but hb (fun k hk c => ?_), h.ap, h.no⟩
  obtain ⟨q1, q2⟩ := (h.ob i l u hu hl).lt k hk
  rcases hx k c with z | z <;> omega
theorem FlI.below {B : Nat} {w w' : World} {v : Value} {L : Fil2} {vs : List Value} (h : FlI B w v L vs) (hb : Below w.heap.size w w') : FlI B w' v L vs := h.but (But.of_below hb fun _ => False) (fun _ c => c.elim)
theorem FlI.low {B C : Nat} {w : World} {v : Value} {L : Fil2} {vs : List Value} (h : FlI B w v L vs) (hb : C ≤ B) : FlI C w v L vs := ⟨h.len, ownsRow_base_a h.row hb, fun i l u hu hl => (h.ob i l u hu hl).low hb, h.ap, h.no⟩
theorem FlI.snoc {B : Nat} {w wc w' : World} {v v' : Value} {L : Fil2} {vs : List Value} {l : List UInt8 × List UInt8} {u : Value} (h : FlI B w v L vs) (hB : B ≤ w.heap.size) (hu : Ob w.heap.size wc u l.2) (hbc : Below w.heap.size w wc)
    (hr : w'.ownsRow B 61 2 v' (L.length + 1) (fcells L vs ++ [encStr l.1, u])) (hg : wc.grownBy w' v.ownBlock) (hv : v'.ownBlock = v.ownBlock ∨ ∃ k, v'.ownBlock = some k ∧ wc.heap.size ≤ k) : FlI B w' v' (L ++ [l]) (vs ++ [u]) := by
  have hGb := But.of_grownBy (X := fun k => v.ownBlock = some k) hg fun k e => e
  have h1 := h.below hbc
  have vlt : ∀ k, v.ownBlock = some k → k < w.heap.size := fun k hk => (World.ownsRow.lt h.row k hk).2
  have cases_u : ∀ i x, (vs ++ [u])[i]? = some x → (i < vs.length ∧ vs[i]? = some x) ∨ (i = vs.length ∧ x = u) := by
    intro i x hx
    rcases Nat.lt_or_ge i vs.length with q | q
    · rw [List.getElem?_append_left q] at hx; exact .inl ⟨q, hx⟩
    · rw [List.getElem?_append_right q] at hx
      have : i - vs.length < 1 := by
        have := (List.getElem?_eq_some_iff.1 hx).1
        simpa using this
      have e : i = vs.length := by omega
      subst e
      simp at hx
      exact .inr ⟨rfl, hx.symm⟩
  have blk : ∀ i x, (vs ++ [u])[i]? = some x → ∀ k, x.ownBlock = some k → (i < vs.length ∧ k < w.heap.size) ∨ (i = vs.length ∧ w.heap.size ≤ k ∧ k < wc.heap.size) := by
    intro i x hx k hk
    rcases cases_u i x hx with ⟨q, hx'⟩ | ⟨q, rfl⟩
    · obtain ⟨l', _, ho⟩ := h.get hx'
      exact .inl ⟨q, (ho.lt k hk).2⟩
    · exact .inr ⟨q, hu.lt k hk⟩
  refine ⟨by simp [h.len], ?_, ?_, ?_, ?_⟩
  · rw [fcells_snoc L vs l u h.len, List.length_append, List.length_singleton]; exact hr
  · intro i m x hx hm
    rcases cases_u i x hx with ⟨q, hx'⟩ | ⟨q, rfl⟩
    · rw [List.getElem?_append_left (by rw [← h.len]; exact q)] at hm
      exact (h1.ob i m x hx' hm).but hGb (fun k hk c => h.no i x hx' k hk c)
    · rw [q, List.getElem?_append_right (by rw [h.len]; exact Nat.le_refl _), h.len] at hm
      simp at hm
      subst hm
      refine (hu.low hB).but hGb (fun k hk c => ?_)
      have := (hu.lt k hk).1
      have := vlt k c
      omega
  · intro i j x y hij hx hy k hk c
    rcases cases_u i x hx with ⟨q, hx'⟩ | ⟨q, rfl⟩
    · rcases cases_u j y hy with ⟨q2, hy'⟩ | ⟨q2, rfl⟩
      · exact h.ap i j x y hij hx' hy' k hk c
      · obtain ⟨l', _, ho⟩ := h.get hx'
        have := (ho.lt k hk).2
        have := (hu.lt k c).1
        omega
    · rcases cases_u j y hy with ⟨q2, hy'⟩ | ⟨q2, rfl⟩
      · obtain ⟨l', _, ho⟩ := h.get hy'
        have := (ho.lt k c).2
        have := (hu.lt k hk).1
        omega
      · omega
  · intro i x hx k hk c
    rcases hv with e | ⟨k', e, hk'⟩
    · rw [e] at c
      rcases cases_u i x hx with ⟨q, hx'⟩ | ⟨q, rfl⟩
      · exact h.no i x hx' k hk c
      · have := (hu.lt k hk).1
        have := vlt k c
        omega
    · rw [e] at c
      simp at c
      have hz := hbc.size
      rcases blk i x hx k hk with ⟨_, z⟩ | ⟨_, _, z⟩ <;> omega
theorem infoFile : (Tryz.prog.info? 61).map (fun i => (i.zero, i.size, i.bytes)) = some (some (.agg #[.string ⟨#[]⟩, .slice none 0 0]), 2, 40) := by kernel_rfl
end Go.Proofs.YtjehpijjneghpaaGreat.Dk
namespace Go.Proofs.YtjehpijjneghpaaGreat
open Go.RowKit Go.Proofs.YtjehpijjneghpaaGreat.Dk
set_option linter.unusedVariables false
def Kpr (base : Nat) (W : World) (kb : Nat) (C : Nat → Prop) : Prop :=
  ∃ its size vl, Kept W base kb its size ∧ W.cell? ⟨kb, 0, none⟩ = some vl ∧ Items W base its ∧ base ≤ kb ∧ (∀ k, C k ↔ k = kb ∨ vl.ownBlock = some k ∨ ∃ t ∈ its, t.1 = k)
theorem Kept.vl {w : World} {base kb : Nat} {its : List (Nat × Nat × Nat)} {size : Nat} {vl : Value} (h : Kept w base kb its size) (hv : w.cell? ⟨kb, 0, none⟩ = some vl) : w.heap[kb]? = some (.cells #[vl, .int .i64 (size : Int)] 56 (0, 0)) ∧ w.ownsRow base 30 1 vl its.length (itvs its) := by
  obtain ⟨vl', h1, h2, _⟩ := h
  have : vl' = vl := by simp [World.cell?, h1] at hv; exact hv
  subst this
  exact ⟨h1, h2⟩
theorem Kpr.lt {base : Nat} {W : World} {kb : Nat} {C : Nat → Prop} (h : Kpr base W kb C) : ∀ k, C k → k < W.heap.size ∧ base ≤ k := by
  obtain ⟨its, size, vl, h1, h2, h3, h4, h5⟩ := h
  intro k hk
  obtain ⟨a, b⟩ := h1.vl h2
  rcases (h5 k).1 hk with rfl | e | ⟨t, ht, rfl⟩
  · exact ⟨heap_lt a, h4⟩
  · exact ⟨(b.lt k e).2, (b.lt k e).1⟩
  · obtain ⟨_, _, _, _, _, _, l⟩ := h3.1 t ht
    exact ⟨(h3.1 t ht).lt, l⟩
theorem Kpr.but {base : Nat} {W W' : World} {kb : Nat} {C X : Nat → Prop} (h : Kpr base W kb C) (hb : But X W W') (hX : ∀ k, X k → ¬ C k) : Kpr base W' kb C := by
  obtain ⟨its, size, vl, h1, h2, h3, h4, h5⟩ := h
  obtain ⟨a, b⟩ := h1.vl h2
  have a' := hb.at a fun hx => hX _ hx ((h5 _).2 (.inl rfl))
  have b' := row_but b hb fun k hk hx => hX _ hx ((h5 _).2 (.inr (.inl hk)))
  obtain ⟨_, _, _, s1, s2⟩ := h1
  refine ⟨its, size, vl, ⟨vl, a', b', s1, s2⟩, by simp [World.cell?, a'], ⟨fun t ht => ?_, h3.2⟩, h4, h5⟩
  obtain ⟨cur, c1, c2⟩ := h3.1 t ht
  exact ⟨cur, hb.at c1 fun hx => hX _ hx ((h5 _).2 (.inr (.inr ⟨t, ht, rfl⟩))), c2⟩
theorem Kpr.apart {base : Nat} {W : World} {kb : Nat} {C : Nat → Prop} (h : Kpr base W kb C) : Calls Tryz.prog 28 #[.pointer (some ⟨kb, 0, none⟩)] W fun e w' => e = .returned (.bool true) ∧ But C W w' := by
  obtain ⟨its, size, vl, h1, h2, h3, h4, h5⟩ := h
  refine (apart_anyX W base kb its size h1 h3).mono ?_
  rintro e w' ⟨he, hb⟩
  refine ⟨he, hb.mono fun k _ hk => (h5 k).2 ?_⟩
  rcases hk with hk | ⟨vl', e1, e2⟩ | hk
  · exact .inl hk
  · rw [h2] at e1; cases e1; exact .inr (.inl e2)
  · exact .inr (.inr hk)
theorem Kpr.keep {base : Nat} {W : World} {kb : Nat} {C : Nat → Prop} {v : Value} {l : List UInt8} {n : Nat} (h : Kpr base W kb C) (ho : W.ownsRow base 5 1 v n (bvals l)) (hn : l.length = n) (hl : n ≤ 281474976710656) (hv : ∀ k, v.ownBlock = some k → ¬ C k) (cc : Nat) :
    Calls Tryz.prog 25 #[.pointer (some ⟨kb, 0, none⟩), .slice (some ⟨W.heap.size, 0, none⟩) 1 cc] (W.alloc (.cells #[v] 30)) fun e w' => e = .returned (.tuple #[]) ∧ ∃ C', Kpr base w' kb C' ∧ But C W w' ∧ (∀ k, C' k → C k ∨ v.ownBlock = some k ∨ W.heap.size ≤ k) := by
  obtain ⟨its, size, vl, h1, h2, h3, h4, h5⟩ := h
  subst hn
  obtain ⟨t, rfl, ht⟩ := own_slv ho hl
  obtain ⟨a, b⟩ := h1.vl h2
  have hb0 := box_below W (.cells #[slv t] 30)
  have hIt : Items W base (its ++ somes [t]) := by
    cases t with
    | none => simpa [somes] using h3
    | some t =>
      refine ⟨fun x hx => ?_, ?_⟩
      · rcases List.mem_append.1 hx with hx | hx
        · exact h3.1 x hx
        · simp [somes] at hx; subst hx; exact ht _ rfl
      · rw [List.map_append, List.nodup_append]
        refine ⟨h3.2, by simp [somes], fun x hx y hy e => ?_⟩
        simp [somes] at hy
        subst hy
        subst e
        obtain ⟨t', ht', e'⟩ := List.mem_map.1 hx
        exact hv t.1 rfl ((h5 _).2 (.inr (.inr ⟨t', ht', e'⟩)))
  have hIU : Items (W.alloc (.cells #[slv t] 30)) base (its ++ somes [t]) := ⟨fun x hx => (hIt.1 x hx).below hb0, hIt.2⟩
  have hKU : Kept (W.alloc (.cells #[slv t] 30)) base kb its size := h1.below hb0
  have hvU : (W.alloc (.cells #[slv t] 30)).cell? ⟨kb, 0, none⟩ = some vl := (hb0.cell (p := ⟨kb, 0, none⟩) (heap_lt a)).trans h2
  refine (keep_any2 _ base kb W.heap.size cc its size [t] hKU h4 (fun i hi => ?_) (fun t' ht' => ?_) (by have := heap_lt a; omega) (by simp) (fun vl' hv' => ?_)).mono ?_
  · obtain rfl : i = 0 := by simpa using hi
    exact Boxed.cell (Boxed.new W 30 (slv t))
  · simp at ht'
    obtain ⟨_, _, _, _, q1, q2, _⟩ := ht t' ht'.symm
    exact ⟨q2, q1⟩
  · rw [hvU] at hv'
    simp only [Option.some.injEq] at hv'
    subst hv'
    intro e
    have := (b.lt _ e).2
    omega
  · rintro e w' ⟨rfl, its', size', k1, k2, k3, k4⟩
    obtain ⟨vl', m1, -⟩ := kept_cells k1
    obtain ⟨k5, k6⟩ := k4 vl hvU
    have hbut : But C W w' := (But.of_below hb0 _).trans (k5.mono fun k _ hk => by
      rcases hk with hk | hk
      · exact (h5 k).2 (.inl hk)
      · exact (h5 k).2 (.inr (.inl hk)))
    have hI' : Items w' base its' := Items.sub ⟨fun x hx => (hIU.1 x hx).frK (hKU.ne (hIU.1 x hx)) k3, hIU.2⟩ k2
    refine ⟨rfl, fun k => k = kb ∨ vl'.ownBlock = some k ∨ ∃ t ∈ its', t.1 = k, ⟨its', size', vl', k1, m1, hI', h4, fun k => Iff.rfl⟩, hbut, ?_⟩
    rintro k (rfl | e | ⟨x, hx, rfl⟩)
    · exact .inl ((h5 _).2 (.inl rfl))
    · rcases k6 vl' m1 with e' | e'
      · exact .inl ((h5 _).2 (.inr (.inl (by rw [← e']; exact e))))
      · have := e' k e
        simp at this
        exact .inr (.inr (by omega))
    · rcases List.mem_append.1 (k2.subset hx) with hx | hx
      · exact .inl ((h5 _).2 (.inr (.inr ⟨x, hx, rfl⟩)))
      · cases t with
        | none => simp [somes] at hx
        | some t => simp [somes] at hx; subst hx; exact .inr (.inl rfl)
end Go.Proofs.YtjehpijjneghpaaGreat
