/-
  An argument that is a list of calls, opened.
-/
import Derived.Test.YtdhjlongdfgejaaCtR
import Derived.Deep.Strs
import Derived.Deep.Slices
namespace Go.Proofs.Ytdhjlongdfgejaa.Ct
open Go.ChangeShapes Go.WideShapes Go.ChangeAt Go.RowKit Go.Deep
set_option maxRecDepth 100000

theorem cellsOp : Try.prog.cellsOf 25 = 4 := by kernel_rfl
/-- What is asked of a catalog: LSN, End, Size, Seed. -/
structure Ask where
  ls : Int
  en : Int
  sz : Int
  se : Nat
def QAt (w : World) (b off : Nat) (o : Ask) : Prop := w.cell? ⟨b, off, none⟩ = some (.int .i64 o.ls) ∧ w.cell? ⟨b, off + 1, none⟩ = some (.int .i64 o.en) ∧ w.cell? ⟨b, off + 2, none⟩ = some (.int .i64 o.sz) ∧ w.cell? ⟨b, off + 3, none⟩ = some (.int .u32 (o.se : Int))
/-- They lie from address ao on. -/
def AtAsks (w : World) (ao : Option Addr) (hs : List Ask) : Prop :=
  ∀ i (h : i < hs.length), ∃ b off, ao = some ⟨b, off, none⟩ ∧ QAt w b (off + i * 4) hs[i]
structure AskOk (o : Ask) : Prop where
  a1 : -9223372036854775808 ≤ o.ls
  a2 : o.ls ≤ 9223372036854775807
  b1 : -9223372036854775808 ≤ o.en
  b2 : o.en ≤ 9223372036854775807
  c1 : -9223372036854775808 ≤ o.sz
  c2 : o.sz ≤ 9223372036854775807
  d : o.se < 4294967296
theorem open_ask {H : Type} {enc : TypeId × Value → H} {w : World} {base : Nat} {spare : Nat → Bool} {held : Bool} {fuel : Nat} {cs : List Value} {y : DataW H × List MemPlace}
    (h : DataW.trod enc Try.prog w base spare held fuel 25 cs = some y) :
    ∃ o : Ask, cs = [.int .i64 o.ls, .int .i64 o.en, .int .i64 o.sz, .int .u32 (o.se : Int)] ∧ AskOk o := by
  obtain ⟨xs, n, _, rfl, hlen, hxl, hf⟩ := DataW.trod_struct Try.underlying25 h
  rw [cellsOp] at hlen
  obtain ⟨c0, c1, c2, c3, rfl⟩ : ∃ c0 c1 c2 c3, cs = [c0, c1, c2, c3] := by
    match cs, hlen with
    | [c0, c1, c2, c3], _ => exact ⟨c0, c1, c2, c3, rfl⟩
  match xs, hxl with
  | [y0, y1, y2, y3], _ =>
    have h0 := hf 0 _ rfl
    have h1 := hf 1 _ rfl
    have h2 := hf 2 _ rfl
    have h3 := hf 3 _ rfl
    simp [cellsI64, cellsU32, cellsInt] at h0 h1 h2 h3
    obtain ⟨a0, e0, _, w0⟩ := DataW.trod_int Try.underlying2 h0
    obtain ⟨a1, e1, _, w1⟩ := DataW.trod_int Try.underlying2 h1
    obtain ⟨a2, e2, _, w2⟩ := DataW.trod_int Try.underlying3 h2
    obtain ⟨a3, e3, _, w3⟩ := DataW.trod_int Try.underlying23 h3
    simp at e0 e1 e2 e3
    subst e0 e1 e2 e3
    obtain ⟨s, rfl⟩ := u32_bv w3
    exact ⟨⟨a0, a1, a2, s.toNat⟩, rfl, (i64_bounds w0).1, (i64_bounds w0).2, (i64_bounds w1).1, (i64_bounds w1).2, (i64_bounds w2).1, (i64_bounds w2).2, s.isLt⟩
theorem open_asks {H : Type} {enc : TypeId × Value → H} {w : World} {base : Nat} {spare : Nat → Bool} {held : Bool} {fuel : Nat} {v : Value} {x : DataW H × List MemPlace}
    (h : DataW.trod enc Try.prog w base spare held fuel 51 [v] = some x) :
    ∃ (os : List Ask) (ao : Option Addr) (cap : Nat), v = .slice ao os.length cap ∧ os.length ≤ 9223372036854775807 ∧ AtAsks w ao os ∧ (∀ o ∈ os, AskOk o) := by
  rcases open_slice Try.underlying51 h with ⟨hcs, hx⟩ | ⟨a, len, cap, m, n, D, Pl, hcs, hb, hl, hm, hmm, hx, hel⟩
  · simp at hcs
    subst hcs hx
    exact ⟨[], none, 0, rfl, by simp, fun i hi => by simp at hi, fun o ho => by simp at ho⟩
  · simp at hcs
    subst hcs hx
    have hlm : len ≤ m := by split at hmm <;> omega
    have each : ∀ i, ∃ o : Ask, i < m → AskOk o ∧ ∃ b off, a = ⟨b, off, none⟩ ∧ QAt w b (off + i * 4) o := by
      intro i
      by_cases hi : i < m
      · obtain ⟨cs', h1, h2⟩ := hel i hi
        obtain ⟨o, rfl, hok⟩ := open_ask h2
        rw [cellsOp] at h1
        obtain ⟨b, off, sp⟩ := a
        have hsp : sp = none := by
          obtain ⟨cs0, g1, g2⟩ := hel 0 (by omega)
          obtain ⟨_, rfl, _⟩ := open_ask g2
          rw [cellsOp] at g1
          have g3 := (World.cells?_some g1).2.2 0 (by omega)
          simp [Addr.add] at g3
          exact World.cell?_spot g3
        subst hsp
        have hcell := (World.cells?_some h1).2.2
        rw [addr_add] at hcell
        have k0 := hcell 0 (by omega)
        have k1 := hcell 1 (by omega)
        have k2 := hcell 2 (by omega)
        have k3 := hcell 3 (by omega)
        rw [addr_add] at k0 k1 k2 k3
        exact ⟨o, fun _ => ⟨hok, b, off, rfl, by simpa using k0, by simpa using k1, by simpa using k2, by simpa using k3⟩⟩
      · exact ⟨⟨0, 0, 0, 0⟩, fun h => absurd h hi⟩
    obtain ⟨O, hO⟩ : ∃ O : Nat → Ask, ∀ i, i < m → AskOk (O i) ∧ ∃ b off, a = ⟨b, off, none⟩ ∧ QAt w b (off + i * 4) (O i) := ⟨fun i => Classical.choose (each i), fun i => Classical.choose_spec (each i)⟩
    refine ⟨(List.range len).map O, some a, cap, by simp, by simp; unfold maxLen at hm; omega, ?_, ?_⟩
    · intro i hi
      simp at hi
      obtain ⟨_, b, off, rfl, q⟩ := hO i (by omega)
      exact ⟨b, off, rfl, by simpa using q⟩
    · intro o ho
      simp only [List.mem_map, List.mem_range] at ho
      obtain ⟨i, hi, rfl⟩ := ho
      exact (hO i (by omega)).1
end Go.Proofs.Ytdhjlongdfgejaa.Ct
