/-
  Arguments that are records, heads, or slices of these, opened.
-/
import Derived.Test.YtophaolgmpdimaaRws
import Derived.Deep.Strs
import Derived.Deep.Slices
namespace Go.Proofs.Ytophaolgmpdimaa
open Go.ChangeShapes Go.WideShapes Go.ChangeAt Go.RowKit Go.Deep
set_option maxRecDepth 100000

theorem cellsRec : Try.prog.cellsOf 34 = 2 := by kernel_rfl
theorem cellsHead : Try.prog.cellsOf 50 = 3 := by kernel_rfl
theorem cellsI64 : Try.prog.cellsOf 2 = 1 := by kernel_rfl
theorem cellsU32 : Try.prog.cellsOf 35 = 1 := by kernel_rfl
theorem cellsBs : Try.prog.cellsOf 31 = 1 := by kernel_rfl
theorem weightsAll_at {H : Type} {P : Program} {e : TypeId} : ∀ {ds : List (DataW H)} {i : Nat} {d : DataW H}, ds[i]? = some d → ∀ n ∈ d.weights P e, n ∈ DataW.weightsAll P e ds
  | [], i, d, h, _, _ => by simp at h
  | c :: r, 0, d, h, n, hn => by
    simp only [List.getElem?_cons_zero, Option.some.injEq] at h
    subst h
    simp only [DataW.weightsAll, List.mem_append]
    exact Or.inl hn
  | c :: r, i + 1, d, h, n, hn => by
    simp only [DataW.weightsAll, List.mem_append]
    exact Or.inr (weightsAll_at (i := i) (by simpa using h) n hn)

theorem open_rec {H : Type} {enc : TypeId × Value → H} {w : World} {base : Nat} {spare : Nat → Bool} {held : Bool} {fuel : Nat} {cs : List Value} {y : DataW H × List MemPlace}
    (h : DataW.trod enc Try.prog w base spare held fuel 34 cs = some y) (hwt : ∀ n ∈ y.1.weights Try.prog 34, n ≤ reachBytes) :
    ∃ (lsn : Int) (v : Value) (l : List UInt8), cs = [.int .i64 lsn, v] ∧ -9223372036854775808 ≤ lsn ∧ lsn ≤ 9223372036854775807 ∧ Sl w v l ∧ l.length ≤ 140737488351232 := by
  obtain ⟨y0, y1, n, hy, hlen, h0, h1⟩ := trod_struct2 Try.underlying34 h
  rw [cellsRec] at hlen
  obtain ⟨c0, c1, rfl⟩ : ∃ c0 c1, cs = [c0, c1] := by
    match cs, hlen with
    | [c0, c1], _ => exact ⟨c0, c1, rfl⟩
  simp only [cellsI64, cellsBs] at h0 h1
  obtain ⟨a0, e0, _, w0⟩ := DataW.trod_int Try.underlying2 h0
  simp at e0
  subst e0
  obtain ⟨l, hs, hd⟩ := open_bytes (v := c1) (by simpa using h1)
  have hl : l.length ≤ 140737488351232 := by
    rcases hd with ⟨_, rfl⟩ | ⟨elems, sp, e1, e2⟩
    · simp
    · have hm : (elems.length + sp.length) * Try.prog.bytesOf 5 ∈ y1.1.weights Try.prog 31 := by
        rw [e1]; simp [DataW.weights, Try.underlying31]
      have h4 : (elems.length + sp.length) * Try.prog.bytesOf 5 ≤ reachBytes := by
        refine hwt _ ?_
        rw [hy]
        simp only [DataW.weights, Try.underlying34]
        exact DataW.weights_mem_each (j := 1) (t := 31) (d := y1.1) rfl rfl _ hm
      rw [bytesU8] at h4
      simp only [reachBytes] at h4
      omega
  exact ⟨a0, c1, l, rfl, (i64_bounds w0).1, (i64_bounds w0).2, hs, hl⟩

theorem open_head {H : Type} {enc : TypeId × Value → H} {w : World} {base : Nat} {spare : Nat → Bool} {held : Bool} {fuel : Nat} {cs : List Value} {y : DataW H × List MemPlace}
    (h : DataW.trod enc Try.prog w base spare held fuel 50 cs = some y) :
    ∃ (nm bs : Int) (s : BitVec 32), cs = [.int .i64 nm, .int .i64 bs, .int .u32 (s.toNat : Int)] ∧ -9223372036854775808 ≤ nm ∧ nm ≤ 9223372036854775807 ∧ -9223372036854775808 ≤ bs ∧ bs ≤ 9223372036854775807 := by
  obtain ⟨y0, y1, y2, n, _, hlen, h0, h1, h2⟩ := trod_struct3 Try.underlying50 h
  rw [cellsHead] at hlen
  obtain ⟨c0, c1, c2, rfl⟩ : ∃ c0 c1 c2, cs = [c0, c1, c2] := by
    match cs, hlen with
    | [c0, c1, c2], _ => exact ⟨c0, c1, c2, rfl⟩
  simp only [cellsI64, cellsU32] at h0 h1 h2
  obtain ⟨a0, e0, _, w0⟩ := DataW.trod_int Try.underlying2 h0
  obtain ⟨a1, e1, _, w1⟩ := DataW.trod_int Try.underlying2 h1
  obtain ⟨a2, e2, _, w2⟩ := DataW.trod_int Try.underlying35 h2
  simp at e0 e1 e2
  subst e0 e1 e2
  obtain ⟨s, rfl⟩ := u32_bv w2
  exact ⟨a0, a1, s, rfl, (i64_bounds w0).1, (i64_bounds w0).2, (i64_bounds w1).1, (i64_bounds w1).2⟩

/-- Heads lie from address ao on. -/
def AtHeads (w : World) (ao : Option Addr) (hs : List (Int × Int × BitVec 32)) : Prop :=
  ∀ i (h : i < hs.length), ∃ b off, ao = some ⟨b, off, none⟩ ∧ w.cell? ⟨b, off + i * 3, none⟩ = some (.int .i64 hs[i].1) ∧ w.cell? ⟨b, off + i * 3 + 1, none⟩ = some (.int .i64 hs[i].2.1) ∧ w.cell? ⟨b, off + i * 3 + 2, none⟩ = some (.int .u32 (hs[i].2.2.toNat : Int))
def HeadOk (o : Int × Int × BitVec 32) : Prop := -9223372036854775808 ≤ o.1 ∧ o.1 ≤ 9223372036854775807 ∧ -9223372036854775808 ≤ o.2.1 ∧ o.2.1 ≤ 9223372036854775807
/-- Records lie from address ao on. -/
def AtRecs (w : World) (ao : Option Addr) (rs : List (Int × Value × List UInt8)) : Prop :=
  ∀ i (h : i < rs.length), ∃ b off, ao = some ⟨b, off, none⟩ ∧ w.cell? ⟨b, off + i * 2, none⟩ = some (.int .i64 rs[i].1) ∧ w.cell? ⟨b, off + i * 2 + 1, none⟩ = some rs[i].2.1 ∧ Sl w rs[i].2.1 rs[i].2.2
def RecOk (o : Int × Value × List UInt8) : Prop := -9223372036854775808 ≤ o.1 ∧ o.1 ≤ 9223372036854775807 ∧ o.2.2.length ≤ 140737488351232

theorem open_heads {H : Type} {enc : TypeId × Value → H} {w : World} {base : Nat} {spare : Nat → Bool} {held : Bool} {fuel : Nat} {v : Value} {x : DataW H × List MemPlace}
    (h : DataW.trod enc Try.prog w base spare held fuel 47 [v] = some x) :
    ∃ (os : List (Int × Int × BitVec 32)) (ao : Option Addr) (cap : Nat), v = .slice ao os.length cap ∧ os.length ≤ 9223372036854775807 ∧ AtHeads w ao os ∧ (∀ o ∈ os, HeadOk o) := by
  rcases open_slice Try.underlying47 h with ⟨hcs, hx⟩ | ⟨a, len, cap, m, n, D, Pl, hcs, hb, hl, hm, hmm, hx, hel⟩
  · simp at hcs
    subst hcs hx
    exact ⟨[], none, 0, rfl, by simp, fun i hi => by simp at hi, fun o ho => by simp at ho⟩
  · simp at hcs
    subst hcs hx
    have hlm : len ≤ m := by split at hmm <;> omega
    have each : ∀ i, ∃ o : Int × Int × BitVec 32, i < m → HeadOk o ∧ ∃ b off, a = ⟨b, off, none⟩ ∧ w.cell? ⟨b, off + i * 3, none⟩ = some (.int .i64 o.1) ∧ w.cell? ⟨b, off + i * 3 + 1, none⟩ = some (.int .i64 o.2.1) ∧ w.cell? ⟨b, off + i * 3 + 2, none⟩ = some (.int .u32 (o.2.2.toNat : Int)) := by
      intro i
      by_cases hi : i < m
      · obtain ⟨cs', h1, h2⟩ := hel i hi
        obtain ⟨o1, o2, o3, rfl, hok⟩ := open_head h2
        rw [cellsHead] at h1
        obtain ⟨b, off, sp⟩ := a
        have hsp : sp = none := by
          obtain ⟨cs0, g1, g2⟩ := hel 0 (by omega)
          obtain ⟨_, _, _, rfl, _⟩ := open_head g2
          rw [cellsHead] at g1
          have g3 := (World.cells?_some g1).2.2 0 (by omega)
          simp [Addr.add] at g3
          exact World.cell?_spot g3
        subst hsp
        have hcell := (World.cells?_some h1).2.2
        rw [addr_add] at hcell
        have k0 := hcell 0 (by omega)
        have k1 := hcell 1 (by omega)
        have k2 := hcell 2 (by omega)
        rw [addr_add] at k0 k1 k2
        exact ⟨(o1, o2, o3), fun _ => ⟨hok, b, off, rfl, by simpa using k0, by simpa using k1, by simpa using k2⟩⟩
      · exact ⟨(0, 0, 0#32), fun h => absurd h hi⟩
    obtain ⟨O, hO⟩ : ∃ O : Nat → Int × Int × BitVec 32, ∀ i, i < m → HeadOk (O i) ∧ ∃ b off, a = ⟨b, off, none⟩ ∧ w.cell? ⟨b, off + i * 3, none⟩ = some (.int .i64 (O i).1) ∧ w.cell? ⟨b, off + i * 3 + 1, none⟩ = some (.int .i64 (O i).2.1) ∧ w.cell? ⟨b, off + i * 3 + 2, none⟩ = some (.int .u32 ((O i).2.2.toNat : Int)) := ⟨fun i => Classical.choose (each i), fun i => Classical.choose_spec (each i)⟩
    refine ⟨(List.range len).map O, some a, cap, by simp, by simp; unfold maxLen at hm; omega, ?_, ?_⟩
    · intro i hi
      simp at hi
      obtain ⟨_, b, off, rfl, q1, q2, q3⟩ := hO i (by omega)
      exact ⟨b, off, rfl, by simpa using q1, by simpa using q2, by simpa using q3⟩
    · intro o ho
      simp only [List.mem_map, List.mem_range] at ho
      obtain ⟨i, hi, rfl⟩ := ho
      exact (hO i (by omega)).1

theorem open_recs {H : Type} {enc : TypeId × Value → H} {w : World} {base : Nat} {spare : Nat → Bool} {held : Bool} {fuel : Nat} {v : Value} {x : DataW H × List MemPlace}
    (h : DataW.trod enc Try.prog w base spare held fuel 22 [v] = some x) (hwt : ∀ n ∈ x.1.weights Try.prog 22, n ≤ reachBytes) :
    ∃ (os : List (Int × Value × List UInt8)) (ao : Option Addr) (cap : Nat), v = .slice ao os.length cap ∧ os.length ≤ 9223372036854775807 ∧ AtRecs w ao os ∧ (∀ o ∈ os, RecOk o) := by
  rcases open_slice Try.underlying22 h with ⟨hcs, hx⟩ | ⟨a, len, cap, m, n, D, Pl, hcs, hb, hl, hm, hmm, hx, hel⟩
  · simp at hcs
    subst hcs hx
    exact ⟨[], none, 0, rfl, by simp, fun i hi => by simp at hi, fun o ho => by simp at ho⟩
  · simp at hcs
    have hlm : len ≤ m := by split at hmm <;> omega
    have each : ∀ i, ∃ o : Int × Value × List UInt8, i < len → RecOk o ∧ ∃ b off, a = ⟨b, off, none⟩ ∧ w.cell? ⟨b, off + i * 2, none⟩ = some (.int .i64 o.1) ∧ w.cell? ⟨b, off + i * 2 + 1, none⟩ = some o.2.1 ∧ Sl w o.2.1 o.2.2 := by
      intro i
      by_cases hi : i < len
      · obtain ⟨cs', h1, h2⟩ := hel i (by omega)
        obtain ⟨o1, o2, o3, rfl, q1, q2, q3, q4⟩ := open_rec h2 (fun n hn => hwt n (by
          rw [hx]
          simp only [DataW.weights, Try.underlying22, List.mem_cons, List.mem_append]
          exact Or.inr (Or.inl (weightsAll_at (i := i) (d := D i) (by simp [hi]) n hn))))
        rw [cellsRec] at h1
        obtain ⟨b, off, sp⟩ := a
        have hsp : sp = none := by
          obtain ⟨cs0, g1, g2⟩ := hel 0 (by omega)
          have g3 := (World.cells?_some g1).2.2 0 (by rw [cellsRec]; omega)
          have g4 : cs0.length = 2 := by
            have := (World.cells?_some g1).2.1
            rw [cellsRec] at this
            first | exact this | omega
          simp [Addr.add, g4] at g3
          exact World.cell?_spot g3
        subst hsp
        have hcell := (World.cells?_some h1).2.2
        rw [addr_add] at hcell
        have k0 := hcell 0 (by omega)
        have k1 := hcell 1 (by omega)
        rw [addr_add] at k0 k1
        exact ⟨(o1, o2, o3), fun _ => ⟨⟨q1, q2, q4⟩, b, off, rfl, by simpa using k0, by simpa using k1, q3⟩⟩
      · exact ⟨(0, .slice none 0 0, []), fun h => absurd h hi⟩
    obtain ⟨O, hO⟩ : ∃ O : Nat → Int × Value × List UInt8, ∀ i, i < len → RecOk (O i) ∧ ∃ b off, a = ⟨b, off, none⟩ ∧ w.cell? ⟨b, off + i * 2, none⟩ = some (.int .i64 (O i).1) ∧ w.cell? ⟨b, off + i * 2 + 1, none⟩ = some (O i).2.1 ∧ Sl w (O i).2.1 (O i).2.2 := ⟨fun i => Classical.choose (each i), fun i => Classical.choose_spec (each i)⟩
    refine ⟨(List.range len).map O, some a, cap, by simp [hcs], by simp; unfold maxLen at hm; omega, ?_, ?_⟩
    · intro i hi
      simp at hi
      obtain ⟨_, b, off, rfl, q1, q2, q3⟩ := hO i (by omega)
      exact ⟨b, off, rfl, by simpa using q1, by simpa using q2, by simpa using q3⟩
    · intro o ho
      simp only [List.mem_map, List.mem_range] at ho
      obtain ⟨i, hi, rfl⟩ := ho
      exact (hO i (by omega)).1
end Go.Proofs.Ytophaolgmpdimaa
