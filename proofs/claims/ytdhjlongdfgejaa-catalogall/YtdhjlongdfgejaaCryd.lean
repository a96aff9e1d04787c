/-
  Arguments that are catalogs, opened.
-/
import Derived.Test.YtdhjlongdfgejaaCtB
import Derived.Test.YtdhjlongdfgejaaRws
import Derived.Deep.Strs
import Derived.Deep.Slices
import Derived.Test.YtdhjlongdfgejaaCryb
import Derived.Test.YtdhjlongdfgejaaCryc
namespace Go.Proofs.Ytdhjlongdfgejaa.Ct
open Go.ChangeShapes Go.WideShapes Go.ChangeAt Go.RowKit Go.Deep
set_option maxRecDepth 100000

theorem cellsSeg : Try.prog.cellsOf 53 = 5 := by kernel_rfl
theorem cellsCat : Try.prog.cellsOf 29 = 3 := by kernel_rfl
theorem cellsI64 : Try.prog.cellsOf 2 = 1 := by kernel_rfl
theorem cellsInt : Try.prog.cellsOf 3 = 1 := by kernel_rfl
theorem cellsU32 : Try.prog.cellsOf 23 = 1 := by kernel_rfl
theorem cellsSgs : Try.prog.cellsOf 27 = 1 := by kernel_rfl
theorem trod_struct5 {H : Type} {enc : TypeId × Value → H} {P : Program} {w : World} {base : Nat} {spare : Nat → Bool} {held : Bool} {t : TypeId} {f0 f1 f2 f3 f4 : Field} {fuel : Nat} {cs : List Value} {x : DataW H × List MemPlace} (ht : P.underlying t = some (.struct #[f0, f1, f2, f3, f4])) (h : DataW.trod enc P w base spare held fuel t cs = some x) :
    ∃ y0 y1 y2 y3 y4 n, cs.length = P.cellsOf t ∧ DataW.trod enc P w base spare held n f0.type ((cs.drop f0.offset).take (P.cellsOf f0.type)) = some y0 ∧
      DataW.trod enc P w base spare held n f1.type ((cs.drop f1.offset).take (P.cellsOf f1.type)) = some y1 ∧ DataW.trod enc P w base spare held n f2.type ((cs.drop f2.offset).take (P.cellsOf f2.type)) = some y2 ∧
      DataW.trod enc P w base spare held n f3.type ((cs.drop f3.offset).take (P.cellsOf f3.type)) = some y3 ∧ DataW.trod enc P w base spare held n f4.type ((cs.drop f4.offset).take (P.cellsOf f4.type)) = some y4 := by
  obtain ⟨xs, n, _, rfl, hl, hlen, hf⟩ := DataW.trod_struct ht h
  match xs, hlen with
  | [y0, y1, y2, y3, y4], _ => exact ⟨y0, y1, y2, y3, y4, n, hl, by simpa using hf 0 f0 rfl, by simpa using hf 1 f1 rfl, by simpa using hf 2 f2 rfl, by simpa using hf 3 f3 rfl, by simpa using hf 4 f4 rfl⟩
theorem open_seg {H : Type} {enc : TypeId × Value → H} {w : World} {base : Nat} {spare : Nat → Bool} {held : Bool} {fuel : Nat} {cs : List Value} {y : DataW H × List MemPlace}
    (h : DataW.trod enc Try.prog w base spare held fuel 53 cs = some y) : ∃ s : Sg, cs = [.int .i64 s.nm, .int .i64 s.ba, .int .u32 (s.se : Int), .int .i64 s.en, .int .i64 s.sz] ∧ SIn s := by
  obtain ⟨y0, y1, y2, y3, y4, n, hlen, h0, h1, h2, h3, h4⟩ := trod_struct5 Try.underlying53 h
  rw [cellsSeg] at hlen
  obtain ⟨c0, c1, c2, c3, c4, rfl⟩ : ∃ c0 c1 c2 c3 c4, cs = [c0, c1, c2, c3, c4] := by
    match cs, hlen with
    | [c0, c1, c2, c3, c4], _ => exact ⟨c0, c1, c2, c3, c4, rfl⟩
  simp only [cellsI64, cellsU32, cellsInt] at h0 h1 h2 h3 h4
  obtain ⟨a0, e0, _, w0⟩ := DataW.trod_int Try.underlying2 h0
  obtain ⟨a1, e1, _, w1⟩ := DataW.trod_int Try.underlying2 h1
  obtain ⟨a2, e2, _, w2⟩ := DataW.trod_int Try.underlying23 h2
  obtain ⟨a3, e3, _, w3⟩ := DataW.trod_int Try.underlying2 h3
  obtain ⟨a4, e4, _, w4⟩ := DataW.trod_int Try.underlying3 h4
  simp at e0 e1 e2 e3 e4
  subst e0 e1 e2 e3 e4
  obtain ⟨s, rfl⟩ := u32_bv w2
  exact ⟨⟨a0, a1, s.toNat, a3, a4⟩, rfl, (i64_bounds w0).1, (i64_bounds w0).2, (i64_bounds w1).1, (i64_bounds w1).2, s.isLt, (i64_bounds w3).1, (i64_bounds w3).2, (i64_bounds w4).1, (i64_bounds w4).2⟩
theorem open_segs {H : Type} {enc : TypeId × Value → H} {w : World} {base : Nat} {spare : Nat → Bool} {held : Bool} {fuel : Nat} {v : Value} {x : DataW H × List MemPlace}
    (h : DataW.trod enc Try.prog w base spare held fuel 27 [v] = some x) : ∃ l : List Sg, Sgs w v l := by
  rcases open_slice Try.underlying27 h with ⟨hcs, hx⟩ | ⟨a, len, cap, m, n, D, Pl, hcs, hb, hl, hm, hmm, hx, hel⟩
  · simp at hcs
    subst hcs hx
    exact ⟨[], Sgs.nil _⟩
  · simp at hcs
    subst hcs hx
    have hlm : len ≤ m := by split at hmm <;> omega
    have each : ∀ i, ∃ o : Sg, i < m → SIn o ∧ ∃ b off, a = ⟨b, off, none⟩ ∧ SAt w b (off + i * 5) o := by
      intro i
      by_cases hi : i < m
      · obtain ⟨cs', h1, h2⟩ := hel i hi
        obtain ⟨s, rfl, hok⟩ := open_seg h2
        rw [cellsSeg] at h1
        obtain ⟨b, off, sp⟩ := a
        have hsp : sp = none := by
          obtain ⟨cs0, g1, g2⟩ := hel 0 (by omega)
          obtain ⟨_, rfl, _⟩ := open_seg g2
          rw [cellsSeg] at g1
          have g3 := (World.cells?_some g1).2.2 0 (by omega)
          simp [Addr.add] at g3
          exact World.cell?_spot g3
        subst hsp
        have hcell := (World.cells?_some h1).2.2
        rw [addr_add] at hcell
        have k0 := hcell 0 (by omega)
        have k1 := hcell 1 (by omega)
        have k2 := hcell 2 (by omega)
        have k3 := hcell 3 (by omega)
        have k4 := hcell 4 (by omega)
        rw [addr_add] at k0 k1 k2 k3 k4
        exact ⟨s, fun _ => ⟨hok, b, off, rfl, by simpa using k0, by simpa using k1, by simpa using k2, by simpa using k3, by simpa using k4⟩⟩
      · exact ⟨zS, fun h => absurd h hi⟩
    obtain ⟨O, hO⟩ : ∃ O : Nat → Sg, ∀ i, i < m → SIn (O i) ∧ ∃ b off, a = ⟨b, off, none⟩ ∧ SAt w b (off + i * 5) (O i) := ⟨fun i => Classical.choose (each i), fun i => Classical.choose_spec (each i)⟩
    have hll : ((List.range len).map O).length = len := by simp
    refine ⟨(List.range len).map O, ?_, some a, cap, by simp, fun e => by simp at e, by simp; omega, hm, ?_⟩
    · intro o ho
      simp only [List.mem_map, List.mem_range] at ho
      obtain ⟨i, hi, rfl⟩ := ho
      exact (hO i (by omega)).1
    · intro i hi
      obtain ⟨_, b, off, rfl, q⟩ := hO i (by omega)
      refine ⟨b, off, rfl, ?_⟩
      rw [sg_get hi]
      simpa using q
theorem open_cat {H : Type} {enc : TypeId × Value → H} {w : World} {base : Nat} {spare : Nat → Bool} {held : Bool} {fuel : Nat} {cs : List Value} {y : DataW H × List MemPlace}
    (h : DataW.trod enc Try.prog w base spare held fuel 29 cs = some y) : ∃ (g f : Int) (v : Value) (l : List Sg), cs = [.int .i64 g, .int .i64 f, v] ∧ -9223372036854775808 ≤ g ∧ g ≤ 9223372036854775807 ∧ -9223372036854775808 ≤ f ∧ f ≤ 9223372036854775807 ∧ Sgs w v l := by
  obtain ⟨y0, y1, y2, n, _, hlen, h0, h1, h2⟩ := trod_struct3 Try.underlying29 h
  rw [cellsCat] at hlen
  obtain ⟨c0, c1, c2, rfl⟩ : ∃ c0 c1 c2, cs = [c0, c1, c2] := by
    match cs, hlen with
    | [c0, c1, c2], _ => exact ⟨c0, c1, c2, rfl⟩
  simp only [cellsI64, cellsSgs] at h0 h1 h2
  obtain ⟨a0, e0, _, w0⟩ := DataW.trod_int Try.underlying2 h0
  obtain ⟨a1, e1, _, w1⟩ := DataW.trod_int Try.underlying2 h1
  simp at e0 e1
  subst e0 e1
  obtain ⟨l, hl⟩ := open_segs (v := c2) (by simpa using h2)
  exact ⟨a0, a1, c2, l, rfl, (i64_bounds w0).1, (i64_bounds w0).2, (i64_bounds w1).1, (i64_bounds w1).2, hl⟩
end Go.Proofs.Ytdhjlongdfgejaa.Ct

/-
  An argument that is a list of calls, opened.
-/
namespace Go.Proofs.Ytdhjlongdfgejaa.Ct
open Go.ChangeShapes Go.WideShapes Go.ChangeAt Go.RowKit Go.Deep
set_option maxRecDepth 100000

theorem cellsOp : Try.prog.cellsOf 25 = 4 := by kernel_rfl
/-- What is asked of a catalog: LSN, End, Size, Seed. -/
structure Ask where
  ls : Int
  en : Int
  sz : Int
  se : Nat
def QAt (w : World) (b off : Nat) (o : Ask) : Prop := w.cell? ⟨b, off, none⟩ = some (.int .i64 o.ls) ∧ w.cell? ⟨b, off + 1, none⟩ = some (.int .i64 o.en) ∧ w.cell? ⟨b, off + 2, none⟩ = some (.int .i64 o.sz) ∧ w.cell? ⟨b, off + 3, none⟩ = some (.int .u32 (o.se : Int))
/-- They lie from address ao on. -/
def AtAsks (w : World) (ao : Option Addr) (hs : List Ask) : Prop :=
  ∀ i (h : i < hs.length), ∃ b off, ao = some ⟨b, off, none⟩ ∧ QAt w b (off + i * 4) hs[i]
structure AskOk (o : Ask) : Prop where
  a1 : -9223372036854775808 ≤ o.ls
  a2 : o.ls ≤ 9223372036854775807
  b1 : -9223372036854775808 ≤ o.en
  b2 : o.en ≤ 9223372036854775807
  c1 : -9223372036854775808 ≤ o.sz
  c2 : o.sz ≤ 9223372036854775807
  d : o.se < 4294967296
theorem open_ask {H : Type} {enc : TypeId × Value → H} {w : World} {base : Nat} {spare : Nat → Bool} {held : Bool} {fuel : Nat} {cs : List Value} {y : DataW H × List MemPlace}
    (h : DataW.trod enc Try.prog w base spare held fuel 25 cs = some y) :
    ∃ o : Ask, cs = [.int .i64 o.ls, .int .i64 o.en, .int .i64 o.sz, .int .u32 (o.se : Int)] ∧ AskOk o := by
  obtain ⟨xs, n, _, rfl, hlen, hxl, hf⟩ := DataW.trod_struct Try.underlying25 h
  rw [cellsOp] at hlen
  obtain ⟨c0, c1, c2, c3, rfl⟩ : ∃ c0 c1 c2 c3, cs = [c0, c1, c2, c3] := by
    match cs, hlen with
    | [c0, c1, c2, c3], _ => exact ⟨c0, c1, c2, c3, rfl⟩
  match xs, hxl with
  | [y0, y1, y2, y3], _ =>
    have h0 := hf 0 _ rfl
    have h1 := hf 1 _ rfl
    have h2 := hf 2 _ rfl
    have h3 := hf 3 _ rfl
    simp [cellsI64, cellsU32, cellsInt] at h0 h1 h2 h3
    obtain ⟨a0, e0, _, w0⟩ := DataW.trod_int Try.underlying2 h0
    obtain ⟨a1, e1, _, w1⟩ := DataW.trod_int Try.underlying2 h1
    obtain ⟨a2, e2, _, w2⟩ := DataW.trod_int Try.underlying3 h2
    obtain ⟨a3, e3, _, w3⟩ := DataW.trod_int Try.underlying23 h3
    simp at e0 e1 e2 e3
    subst e0 e1 e2 e3
    obtain ⟨s, rfl⟩ := u32_bv w3
    exact ⟨⟨a0, a1, a2, s.toNat⟩, rfl, (i64_bounds w0).1, (i64_bounds w0).2, (i64_bounds w1).1, (i64_bounds w1).2, (i64_bounds w2).1, (i64_bounds w2).2, s.isLt⟩
theorem open_asks {H : Type} {enc : TypeId × Value → H} {w : World} {base : Nat} {spare : Nat → Bool} {held : Bool} {fuel : Nat} {v : Value} {x : DataW H × List MemPlace}
    (h : DataW.trod enc Try.prog w base spare held fuel 51 [v] = some x) :
    ∃ (os : List Ask) (ao : Option Addr) (cap : Nat), v = .slice ao os.length cap ∧ os.length ≤ 9223372036854775807 ∧ AtAsks w ao os ∧ (∀ o ∈ os, AskOk o) := by
  rcases open_slice Try.underlying51 h with ⟨hcs, hx⟩ | ⟨a, len, cap, m, n, D, Pl, hcs, hb, hl, hm, hmm, hx, hel⟩
  · simp at hcs
    subst hcs hx
    exact ⟨[], none, 0, rfl, by simp, fun i hi => by simp at hi, fun o ho => by simp at ho⟩
  · simp at hcs
    subst hcs hx
    have hlm : len ≤ m := by split at hmm <;> omega
    have each : ∀ i, ∃ o : Ask, i < m → AskOk o ∧ ∃ b off, a = ⟨b, off, none⟩ ∧ QAt w b (off + i * 4) o := by
      intro i
      by_cases hi : i < m
      · obtain ⟨cs', h1, h2⟩ := hel i hi
        obtain ⟨o, rfl, hok⟩ := open_ask h2
        rw [cellsOp] at h1
        obtain ⟨b, off, sp⟩ := a
        have hsp : sp = none := by
          obtain ⟨cs0, g1, g2⟩ := hel 0 (by omega)
          obtain ⟨_, rfl, _⟩ := open_ask g2
          rw [cellsOp] at g1
          have g3 := (World.cells?_some g1).2.2 0 (by omega)
          simp [Addr.add] at g3
          exact World.cell?_spot g3
        subst hsp
        have hcell := (World.cells?_some h1).2.2
        rw [addr_add] at hcell
        have k0 := hcell 0 (by omega)
        have k1 := hcell 1 (by omega)
        have k2 := hcell 2 (by omega)
        have k3 := hcell 3 (by omega)
        rw [addr_add] at k0 k1 k2 k3
        exact ⟨o, fun _ => ⟨hok, b, off, rfl, by simpa using k0, by simpa using k1, by simpa using k2, by simpa using k3⟩⟩
      · exact ⟨⟨0, 0, 0, 0⟩, fun h => absurd h hi⟩
    obtain ⟨O, hO⟩ : ∃ O : Nat → Ask, ∀ i, i < m → AskOk (O i) ∧ ∃ b off, a = ⟨b, off, none⟩ ∧ QAt w b (off + i * 4) (O i) := ⟨fun i => Classical.choose (each i), fun i => Classical.choose_spec (each i)⟩
    refine ⟨(List.range len).map O, some a, cap, by simp, by simp; unfold maxLen at hm; omega, ?_, ?_⟩
    · intro i hi
      simp at hi
      obtain ⟨_, b, off, rfl, q⟩ := hO i (by omega)
      exact ⟨b, off, rfl, by simpa using q⟩
    · intro o ho
      simp only [List.mem_map, List.mem_range] at ho
      obtain ⟨i, hi, rfl⟩ := ho
      exact (hO i (by omega)).1
end Go.Proofs.Ytdhjlongdfgejaa.Ct

/-
  CatalogAll: a list of catalogs opened; what is kept on the way.
-/
namespace Go.Proofs.Ytdhjlongdfgejaa.Ct
open Go.ChangeShapes Go.WideShapes Go.ChangeAt Go.RowKit Go.Deep

structure Cat where
  g : Int
  f : Int
  v : Value
  l : List Sg
def CAt (w : World) (b off : Nat) (c : Cat) : Prop := w.cell? ⟨b, off, none⟩ = some (.int .i64 c.g) ∧ w.cell? ⟨b, off + 1, none⟩ = some (.int .i64 c.f) ∧ w.cell? ⟨b, off + 2, none⟩ = some c.v
def AtCats (w : World) (ao : Option Addr) (hs : List Cat) : Prop :=
  ∀ i (h : i < hs.length), ∃ b off, ao = some ⟨b, off, none⟩ ∧ CAt w b (off + i * 3) hs[i]
structure CatOk (w : World) (c : Cat) : Prop where
  g1 : -9223372036854775808 ≤ c.g
  g2 : c.g ≤ 9223372036854775807
  f1 : -9223372036854775808 ≤ c.f
  f2 : c.f ≤ 9223372036854775807
  sg : Sgs w c.v c.l
set_option maxRecDepth 100000
theorem open_cats {H : Type} {enc : TypeId × Value → H} {w : World} {base : Nat} {spare : Nat → Bool} {held : Bool} {fuel : Nat} {v : Value} {x : DataW H × List MemPlace}
    (h : DataW.trod enc Try.prog w base spare held fuel 22 [v] = some x) :
    ∃ (os : List Cat) (ao : Option Addr) (cap : Nat), v = .slice ao os.length cap ∧ os.length ≤ 9223372036854775807 ∧ AtCats w ao os ∧ (∀ o ∈ os, CatOk w o) := by
  rcases open_slice Try.underlying22 h with ⟨hcs, hx⟩ | ⟨a, len, cap, m, n, D, Pl, hcs, hb, hl, hm, hmm, hx, hel⟩
  · simp at hcs
    subst hcs hx
    exact ⟨[], none, 0, rfl, by simp, fun i hi => by simp at hi, fun o ho => by simp at ho⟩
  · simp at hcs
    subst hcs hx
    have hlm : len ≤ m := by split at hmm <;> omega
    have each : ∀ i, ∃ o : Cat, i < m → CatOk w o ∧ ∃ b off, a = ⟨b, off, none⟩ ∧ CAt w b (off + i * 3) o := by
      intro i
      by_cases hi : i < m
      · obtain ⟨cs', h1, h2⟩ := hel i hi
        obtain ⟨g, f, v, l, rfl, g1, g2, f1, f2, hs⟩ := open_cat h2
        rw [cellsCat] at h1
        obtain ⟨b, off, sp⟩ := a
        have hsp : sp = none := by
          obtain ⟨cs0, g1, g2⟩ := hel 0 (by omega)
          obtain ⟨_, _, _, _, rfl, _⟩ := open_cat g2
          rw [cellsCat] at g1
          have g3 := (World.cells?_some g1).2.2 0 (by omega)
          simp [Addr.add] at g3
          exact World.cell?_spot g3
        subst hsp
        have hcell := (World.cells?_some h1).2.2
        rw [addr_add] at hcell
        have k0 := hcell 0 (by omega)
        have k1 := hcell 1 (by omega)
        have k2 := hcell 2 (by omega)
        rw [addr_add] at k0 k1 k2
        exact ⟨⟨g, f, v, l⟩, fun _ => ⟨⟨g1, g2, f1, f2, hs⟩, b, off, rfl, by simpa using k0, by simpa using k1, by simpa using k2⟩⟩
      · exact ⟨⟨0, 0, .slice none 0 0, []⟩, fun h => absurd h hi⟩
    obtain ⟨O, hO⟩ : ∃ O : Nat → Cat, ∀ i, i < m → CatOk w (O i) ∧ ∃ b off, a = ⟨b, off, none⟩ ∧ CAt w b (off + i * 3) (O i) := ⟨fun i => Classical.choose (each i), fun i => Classical.choose_spec (each i)⟩
    refine ⟨(List.range len).map O, some a, cap, by simp, by simp; unfold maxLen at hm; omega, ?_, ?_⟩
    · intro i hi
      simp at hi
      obtain ⟨_, b, off, rfl, q⟩ := hO i (by omega)
      exact ⟨b, off, rfl, by simpa using q⟩
    · intro o ho
      simp only [List.mem_map, List.mem_range] at ho
      obtain ⟨i, hi, rfl⟩ := ho
      exact (hO i (by omega)).1
theorem roll_small {g f : Int} {l : List Sg} {en sz : Int} {se : Nat} {er rg rf : Int} {R : List Sg} (h : rollF g f l en sz se = (er, rg, rf, R)) : R.length ≤ 100 := by
  unfold rollF at h
  split at h
  · simp only [Prod.mk.injEq] at h; rw [← h.2.2.2]; simp
  split at h
  · simp only [Prod.mk.injEq] at h; rw [← h.2.2.2]; simp
  split at h
  · simp only [Prod.mk.injEq] at h; rw [← h.2.2.2]; simp
  split at h
  · simp only [Prod.mk.injEq] at h; rw [← h.2.2.2]; simp
  · rename_i _ _ _ hm
    simp only [Prod.mk.injEq] at h
    rw [← h.2.2.2]
    have := (Classical.not_not.1 hm).n2
    omega
theorem cut_small {g f : Int} {l : List Sg} {n : Int} {er rg rf : Int} {D : List Sg} {G : List Int} (h : cutF g f l n = (er, rg, rf, D, G)) (hl : l.length ≤ 80) : D.length ≤ 100 ∧ G.length ≤ 100 := by
  unfold cutF at h
  split at h
  · simp only [Prod.mk.injEq] at h; rw [← h.2.2.2.1, ← h.2.2.2.2]; simp
  split at h
  · simp only [Prod.mk.injEq] at h; rw [← h.2.2.2.1, ← h.2.2.2.2]; simp
  split at h
  · simp only [Prod.mk.injEq] at h; rw [← h.2.2.2.1, ← h.2.2.2.2]; simp; omega
  · simp only [Prod.mk.injEq] at h; rw [← h.2.2.2.1, ← h.2.2.2.2]; simp
/-- What stays through a round: the twin c in block cb. -/
structure Bd (w0 u : World) (lim cb : Nat) (g fi : Int) (vt : Value) (l : List Sg) : Prop where
  be : Below w0.heap.size w0 u
  cg : u.heap[cb]? = some (.cells #[.int .i64 g, .int .i64 fi, vt] 29 (0, 0))
  tw : Tw w0.heap.size u vt l
  l0 : w0.heap.size ≤ lim
  l1 : cb < lim
  l2 : ∀ k, vt.ownBlock = some k → k < lim
  l3 : lim ≤ u.heap.size
theorem Bd.below {w0 u u' : World} {lim cb : Nat} {g fi : Int} {vt : Value} {l : List Sg} (h : Bd w0 u lim cb g fi vt l) (hb : Below u.heap.size u u') : Bd w0 u' lim cb g fi vt l :=
  ⟨keepF h.be hb, by rw [hb.block _ (heap_lt h.cg)]; exact h.cg, h.tw.below hb, h.l0, h.l1, h.l2, Nat.le_trans h.l3 hb.size⟩
theorem Bd.but {X : Nat → Prop} {w0 u u' : World} {lim cb : Nat} {g fi : Int} {vt : Value} {l : List Sg} (h : Bd w0 u lim cb g fi vt l) (hb : But X u u') (hX : ∀ k, X k → lim ≤ k) : Bd w0 u' lim cb g fi vt l := by
  have h0 := h.l0
  have h1 := h.l1
  refine ⟨h.be.trans (hb.below (Nat.le_trans h.l0 h.l3) fun k hk => Nat.le_trans h.l0 (hX k hk)), hb.at h.cg (fun e => by have := hX _ e; omega), h.tw.but hb (fun k hk e => by have := h.l2 k hk; have := hX k e; omega), h.l0, h.l1, h.l2, Nat.le_trans h.l3 hb.size⟩
/-- What Roll and Cut have answered, beside it. -/
structure Rd (w0 u : World) (lim cb : Nat) (g fi : Int) (vt : Value) (l : List Sg) (rb tb : Nat) (cr ct : Array Value) (vr vd : Value) (R D : List Sg) : Prop where
  bd : Bd w0 u lim cb g fi vt l
  rg : u.heap[rb]? = some (.cells cr 29 (0, 0))
  tg : u.heap[tb]? = some (.cells ct 29 (0, 0))
  ow : Own lim u vr R
  od : Own lim u vd D
  ne : ∀ k, vr.ownBlock = some k → vd.ownBlock ≠ some k
theorem Rd.below {w0 u u' : World} {lim cb : Nat} {g fi : Int} {vt : Value} {l : List Sg} {rb tb : Nat} {cr ct : Array Value} {vr vd : Value} {R D : List Sg} (h : Rd w0 u lim cb g fi vt l rb tb cr ct vr vd R D) (hb : Below u.heap.size u u') : Rd w0 u' lim cb g fi vt l rb tb cr ct vr vd R D :=
  ⟨h.bd.below hb, by rw [hb.block _ (heap_lt h.rg)]; exact h.rg, by rw [hb.block _ (heap_lt h.tg)]; exact h.tg, h.ow.below hb, h.od.below hb, h.ne⟩
/-- A number in a list of one's own is written over. -/
theorem Rd.num {w0 u u' : World} {lim cb : Nat} {g fi : Int} {vt : Value} {l : List Sg} {rb tb : Nat} {cr ct : Array Value} {vr vd vg : Value} {R D : List Sg} {G : List Int} (h : Rd w0 u lim cb g fi vt l rb tb cr ct vr vd R D) (hg : IOwn lim u vg G) (hb : But (fun k => vg.ownBlock = some k) u u') : Rd w0 u' lim cb g fi vt l rb tb cr ct vr vd R D :=
  ⟨h.bd.but hb fun k hk => (hg.lt' k hk).1, hb.at h.rg (hg.no h.rg (by decide)), hb.at h.tg (hg.no h.tg (by decide)), h.ow.but hb (own_iown h.ow hg), h.od.but hb (own_iown h.od hg), h.ne⟩
/-- Two lists of numbers, the first written over with -1 up to x. -/
def goneL (G : List Int) (x : Nat) : List Int := List.replicate x (-1) ++ G.drop x
theorem goneL_len {G : List Int} {x : Nat} (h : x ≤ G.length) : (goneL G x).length = G.length := by unfold goneL; simp; omega
theorem goneL_get (G : List Int) (x : Nat) : (goneL G x)[x]? = G[x]? := by
  unfold goneL
  rw [List.getElem?_append_right (by simp)]
  simp
theorem goneL_set {G : List Int} {x : Nat} (h : x < G.length) : (goneL G x).set x (-1) = goneL G (x + 1) := by
  unfold goneL
  rw [List.set_append_right _ _ (by simp)]
  simp only [List.length_replicate, Nat.sub_self]
  rw [List.drop_eq_getElem_cons h, List.set_cons_zero, List.replicate_succ']
  simp
theorem IOwn.stored {B : Nat} {w : World} {b n ca : Nat} {l : List Int} (h : IOwn B w (.slice (some ⟨b, 0, none⟩) n ca) l) (hn : l.length = n) (j : Nat) (x : Int) : IOwn B (w.setCell ⟨b, j, none⟩ (.int .i64 x)) (.slice (some ⟨b, 0, none⟩) n ca) (l.set j x) := by
  unfold IOwn at h ⊢
  rw [hn] at h
  have := (World.ownsRow.stored h j (.int .i64 x)).1
  rw [List.length_set, hn]
  have e : ivals (l.set j x) = (ivals l).set j (.int .i64 x) := by unfold ivals; rw [List.map_set]
  rw [e]
  exact this
theorem IOwn.cell {B : Nat} {w : World} {v : Value} {l : List Int} (h : IOwn B w v l) {j : Nat} (hj : j < l.length) {y : Int} (hy : l[j]? = some y) : ∃ b ca, v = .slice (some ⟨b, 0, none⟩) l.length ca ∧ w.cell? ⟨b, j, none⟩ = some (.int .i64 y) ∧ w.frozen? ⟨b, j, none⟩ = false := by
  have h' := h
  rcases h.2 with ⟨_, e⟩ | ⟨gg, cap, cur, rfl, _, hh, _⟩
  · omega
  · refine ⟨gg, cap, rfl, ?_, ?_⟩
    · have := World.ownsRow.cells (g := gg) h' rfl j (.int .i64 y) (by unfold ivals; rw [List.getElem?_map, hy]; rfl)
      rw [addr_add] at this
      simpa using this
    · exact World.ownsRow.frozenAt h' j
end Go.Proofs.Ytdhjlongdfgejaa.Ct

