/-
  Package series: a sink of bits.
-/
import Derived.Test.YtojohcckaklmpaaDoorGen
import Derived.Test.YtojohcckaklmpaaDoorSn
import Derived.Deep.RegionLaw
import Derived.Deep.AppendLies
import Derived.BigRegion
namespace Go.Proofs.YtojohcckaklmpaaDoor.Sr
open Go.RowKit
set_option maxRecDepth 100000
set_option linter.unusedVariables false

theorem own_ne {w : World} {base p e T n : Nat} {vd : Value} {xs : List Value} {cs : Array Value} {fr : Nat × Nat} (ho : w.ownsRow base e 1 vd n xs) (hp : w.heap[p]? = some (.cells cs T fr)) (hT : T ≠ e) : vd.ownBlock ≠ some p := by
  intro h
  obtain ⟨_, q⟩ := ho
  rcases q with ⟨rfl, _⟩ | ⟨g, cap, cur, rfl, _, hh, _⟩
  · simp [Value.ownBlock] at h
  · simp [Value.ownBlock] at h
    subst h
    rw [hp] at hh
    simp only [Option.some.injEq, Obj.cells.injEq] at hh
    exact hT hh.2.1
theorem block_after {w2 W w3 : World} {kb : Nat} {X : Obj} {row : Option Nat} (hb : Below w2.heap.size w2 W) (hk : w2.heap[kb]? = some X) (hg : W.grownBy w3 row) (hne : row ≠ some kb) : w3.heap[kb]? = some X := by
  have hl := heap_lt hk
  rw [hg.block kb (by have := hb.size; omega) (fun e => hne e.symm), hb.block kb hl]; exact hk
theorem own_slice {w : World} {base e n : Nat} {v : Value} {xs : List Value} (h : w.ownsRow base e 1 v n xs) : ∃ ao ca, v = .slice ao n ca := by
  obtain ⟨_, p⟩ := h
  rcases p with ⟨rfl, rfl⟩ | ⟨g, cap, cur, rfl, _⟩
  · exact ⟨_, _, rfl⟩
  · exact ⟨_, _, rfl⟩
/-- A sink lies at block p: its bytes, the byte under way, how many bits of it are filled. -/
def Sink (w : World) (base p : Nat) (l : List UInt8) (u f : Nat) : Prop :=
  ∃ vd, w.heap[p]? = some (.cells #[vd, .int .u8 (u : Int), .int .i64 (f : Int)] 50 (0, 0)) ∧ w.ownsRow base 5 1 vd l.length (bvals l)
theorem Sink.cells {w : World} {base p : Nat} {l : List UInt8} {u f : Nat} (h : Sink w base p l u f) : ∃ vd, w.cell? ⟨p, 0, none⟩ = some vd ∧ w.cell? ⟨p, 1, none⟩ = some (.int .u8 (u : Int)) ∧ w.cell? ⟨p, 2, none⟩ = some (.int .i64 (f : Int)) ∧
    w.frozen? ⟨p, 0, none⟩ = false ∧ w.frozen? ⟨p, 1, none⟩ = false ∧ w.frozen? ⟨p, 2, none⟩ = false ∧ w.ownsRow base 5 1 vd l.length (bvals l) ∧ vd.ownBlock ≠ some p := by
  obtain ⟨vd, hk, ho⟩ := h
  exact ⟨vd, by simp [World.cell?, hk], by simp [World.cell?, hk], by simp [World.cell?, hk], by simp [World.frozen?, hk], by simp [World.frozen?, hk], by simp [World.frozen?, hk], ho, own_ne ho hk (by decide)⟩
theorem Sink.set1 {w : World} {base p : Nat} {l : List UInt8} {u f : Nat} (h : Sink w base p l u f) (u' : Nat) : Sink (w.setCell ⟨p, 1, none⟩ (.int .u8 (u' : Int))) base p l u' f := by
  obtain ⟨vd, hk, ho⟩ := h
  exact ⟨vd, by rw [heap_setCell_same w p 1 _ _ _ hk]; simp, ownsRow_setCell_other ho (by simpa using own_ne ho hk (by decide)) _⟩
theorem Sink.set2 {w : World} {base p : Nat} {l : List UInt8} {u f : Nat} (h : Sink w base p l u f) (f' : Nat) : Sink (w.setCell ⟨p, 2, none⟩ (.int .i64 (f' : Int))) base p l u f' := by
  obtain ⟨vd, hk, ho⟩ := h
  exact ⟨vd, by rw [heap_setCell_same w p 2 _ _ _ hk]; simp, ownsRow_setCell_other ho (by simpa using own_ne ho hk (by decide)) _⟩
theorem Sink.drew {w : World} {base p : Nat} {l : List UInt8} {u f : Nat} (h : Sink w base p l u f) : Sink w.drew base p l u f := h
theorem below_set {base : Nat} {w w' : World} (hb : Below base w w') {p o : Nat} (hp : base ≤ p) (v : Value) : Below base w (w'.setCell ⟨p, o, none⟩ v) :=
  ⟨hb.os, hb.tape, hb.output, by simpa using hb.size, fun k hk => by rw [heap_setCell_other w' ⟨p, o, none⟩ k v (by simp; omega)]; exact hb.block k hk⟩
set_option maxHeartbeats 2000000 in
theorem flush_any (w : World) (base p : Nat) (l : List UInt8) (u f : Nat) (hs : Sink w base p l u f) (hu : u < 256) (hb : base ≤ p) (hl : l.length + 1 ≤ 140737488355328) :
    Calls Tryd.prog 46 #[.pointer (some ⟨p, 0, none⟩)] w fun e w' => e = .returned (.tuple #[]) ∧ Sink w' base p (l ++ [UInt8.ofNat u]) 0 0 ∧ Below base w w' := by
  obtain ⟨vd, k0, k1, k2, f0, f1, f2, ho, hne⟩ := hs.cells
  replace hs : Hid (Sink w base p l u f) := hs
  have hpl : p < w.heap.size := lt_of_cell k0
  obtain ⟨i0, hi, hz0, hz1, hz2⟩ := info_parts Tryd.infoU8
  obtain ⟨ao, ca, rfl⟩ := own_slice ho
  have hk2 : w.heap[p]? = some (.cells #[.slice ao l.length ca, .int .u8 (u : Int), .int .i64 (f : Int)] 50 (0, 0)) := by
    obtain ⟨vd, hk, _⟩ := hs.out
    have : vd = .slice ao l.length ca := by simp [World.cell?, hk] at k0; exact k0
    rw [← this]; exact hk
  replace hk2 : Hid _ := hk2
  go_enter Tryd.func46, Tryd.ntmps46
  go_wp2_with fail
  go_region_law (first | (refine step_append_lies _ rfl (.tmp 6) (.tmp 11) 27 rfl base 5 i0 (.int .u8 0) 1 1 Tryd.underlying27 hi hz0 hz1 hz2 rfl (by decide) (.slice ao l.length ca) l.length (bvals l) (by simp [Act.eval]) (ho.alloc _) ⟨w.heap.size, 0, none⟩ 1 1 [.int .u8 (u : Int)] (by simp [Act.eval]) rfl (cell_one_new _ _ _) (by simp [Value.oneCell']) (by decide) (by unfold maxLen; omega) (by omega) (by simp; omega) (w.heap.size + 1) (by simp) ?_; intro g2 cap2 w3 hown3 hgrow3 hat hlt3; have kk3 := block_after (w2 := w) (by first | exact (box_below w _).drew | exact (box_below w.drew _)) hk2.out hgrow3 hne; have cc3 : w3.cell? ⟨p, 0, none⟩ = some (.slice ao l.length ca) := (by simp [World.cell?, kk3]); have ff3 : w3.frozen? ⟨p, 0, none⟩ = false := (by simp [World.frozen?, kk3])))
  all_goals
    have hS : Sink (w3.setCell ⟨p, 0, none⟩ (.slice (some ⟨g2, 0, none⟩) (l.length + 1) cap2)) base p (l ++ [UInt8.ofNat u]) u f := by
      refine ⟨_, by rw [heap_setCell_same w3 p 0 _ _ _ kk3]; simp; rfl, ?_⟩
      have := ownsRow_setCell_other hown3 (own_ne hown3 kk3 (by decide)) (a := ⟨p, 0, none⟩) (.slice (some ⟨g2, 0, none⟩) (l.length + 1) cap2)
      rw [u8_of u hu, bvals_one] at this
      simpa using this
    have hB : Below base w (w3.setCell ⟨p, 0, none⟩ (.slice (some ⟨g2, 0, none⟩) (l.length + 1) cap2)) := by
      refine below_set ?_ hb _
      refine Below.grown (Below.mono (by first | exact (box_below w _).drew | exact (box_below w.drew _)) (by omega)) hgrow3 (by simp; omega) ?_
      intro k hk
      exact ((ho.alloc (.cells #[.int .u8 (u : Int)] 5)).lt k hk).1
    clear hown3 hgrow3 hat hlt3 kk3 cc3 ff3
    generalize w3.setCell ⟨p, 0, none⟩ (.slice (some ⟨g2, 0, none⟩) (l.length + 1) cap2) = w4 at *
    clear k0 k1 k2 f0 f1 f2 hk2 ho hne hs
    obtain ⟨vd, k0, k1, k2, f0, f1, f2, ho, hne⟩ := hS.cells
    have hF : Hid (Sink ((w4.setCell ⟨p, 1, none⟩ (.int .u8 0)).setCell ⟨p, 2, none⟩ (.int .i64 0)) base p (l ++ [UInt8.ofNat u]) 0 0) := (hS.set1 0).set2 0
    have hFB : Hid (Below base w ((w4.setCell ⟨p, 1, none⟩ (.int .u8 0)).setCell ⟨p, 2, none⟩ (.int .i64 0))) := below_set (below_set hB hb _) hb _
    clear hS ho hne hB
    go_wp2
    go_end0
    exact ⟨rfl, hF.out, hFB.out⟩
#print axioms flush_any
end Go.Proofs.YtojohcckaklmpaaDoor.Sr
