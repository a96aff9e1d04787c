/-
  The Reader's fixed numbers, whatever state it is in; what frame's own reader does: newReader, number, short, behind.
-/
import Derived.Test.YtdhjlongdfgejaaFc
import Derived.Test.YtdhjlongdfgejaaRdS
import Derived.Deep.RegionHeld3
namespace Go.Proofs.Ytdhjlongdfgejaa
open Go.RowKit

/-- A state of a Reader behind the reading of n bytes; what it reads. -/
def stp (l : List UInt8) (n : Nat) (s : Nat × Int) : Nat × Int := if s.2 = 0 then (if s.1 + n ≤ l.length then (s.1 + n, 0) else (s.1, 2)) else s
def stv (l : List UInt8) (n : Nat) (s : Nat × Int) : Nat := if s.2 = 0 ∧ s.1 + n ≤ l.length then num ((l.drop s.1).take n) else 0
theorem stv_lt (l : List UInt8) (n : Nat) (s : Nat × Int) : stv l n s < 256 ^ n := by
  unfold stv
  split
  · exact num_le _ n (by simp; omega)
  · exact Nat.pow_pos (by omega)

theorem fixed32_tot (w : World) (rb : Nat) (l : List UInt8) (s : Nat × Int) (h : RdrAt w rb l s.1 s.2) :
    Calls Try.prog 43 #[.pointer (some ⟨rb, 0, none⟩)] w fun e w' => e = .returned (.int .u32 (stv l 4 s : Int)) ∧ RdrAt w' rb l (stp l 4 s).1 (stp l 4 s).2 ∧ w.grownBy w' (some rb) := by
  by_cases h0 : s.2 = 0
  · rw [h0] at h
    by_cases h1 : s.1 + 4 ≤ l.length
    · have E1 : stv l 4 s = num ((l.drop s.1).take 4) := by rw [stv, if_pos ⟨h0, h1⟩]
      have E2 : stp l 4 s = (s.1 + 4, 0) := by rw [stp, if_pos h0, if_pos h1]
      rw [E1, E2]
      exact Fixed32_good w rb l s.1 h h1
    · have E1 : stv l 4 s = 0 := by rw [stv, if_neg (by omega)]
      have E2 : stp l 4 s = (s.1, 2) := by rw [stp, if_pos h0, if_neg h1]
      rw [E1, E2]
      exact Fixed32_bad w rb l s.1 0 2 h fun u hu => take_short u rb l s.1 4 hu (by omega)
  · have E1 : stv l 4 s = 0 := by rw [stv, if_neg (by omega)]
    have E2 : stp l 4 s = s := by rw [stp, if_neg h0]
    rw [E1, E2]
    exact Fixed32_bad w rb l s.1 s.2 s.2 h fun u hu => (take_no u rb l s.1 s.2 4 hu (by simpa using h0)).mono fun e w' ⟨a, b⟩ => ⟨a, by rw [b]; exact Qt.refl _⟩
/-- Two cells of a block, written. -/
def put2 (w : World) (b : Nat) (a0 a1 : Value) : World := (w.setCell ⟨b, 0, none⟩ a0).setCell ⟨b, 1, none⟩ a1
theorem put2_heap {w : World} {b : Nat} {z0 z1 : Value} {T : TypeId} (h : w.heap[b]? = some (.cells #[z0, z1] T (0, 0))) (a0 a1 : Value) : (put2 w b a0 a1).heap[b]? = some (.cells #[a0, a1] T (0, 0)) := by
  unfold put2
  rw [heap_setCell_same _ _ _ _ _ _ (heap_setCell_same _ _ _ _ _ _ h)]
  simp
theorem put2_other (w : World) (b k : Nat) (a0 a1 : Value) (h : k ≠ b) : (put2 w b a0 a1).heap[k]? = w.heap[k]? := by
  unfold put2
  rw [heap_setCell_other _ _ k _ h, heap_setCell_other _ _ k _ h]
theorem put2_below {B : Nat} {u w : World} (h : Below B u w) {b : Nat} (hb : B ≤ b) (a0 a1 : Value) : Below B u (put2 w b a0 a1) := (h.setCell hb a0).setCell hb a1
theorem put2_grown (w : World) (b : Nat) (a0 a1 : Value) : w.grownBy (put2 w b a0 a1) (some b) := grown_trans (grown_setCell _ _ _ _) (grown_setCell _ _ _ _)
theorem put2_size (w : World) (b : Nat) (a0 a1 : Value) : (put2 w b a0 a1).heap.size = w.heap.size := by unfold put2; simp [World.setCell]
/-- What a block of two cells says, cell by cell. -/
theorem two_cells {w : World} {b : Nat} {a0 a1 : Value} {T : TypeId} (h : w.heap[b]? = some (.cells #[a0, a1] T (0, 0))) : w.cell? ⟨b, 0, none⟩ = some a0 ∧ w.cell? ⟨b, 1, none⟩ = some a1 ∧ w.frozen? ⟨b, 0, none⟩ = false ∧ w.frozen? ⟨b, 1, none⟩ = false := by
  simp [World.cell?, World.frozen?, h]

theorem sl_take {w : World} {l : List UInt8} {n : Nat} (k : Nat) (hk : k ≤ l.length) {ao : Option Addr} {ca : Nat} (h : Sl w (.slice ao n ca) l) (hn : l.length = n) : Sl w (.slice ao k ca) (l.take k) := by
  obtain ⟨ao', ca', e, g2, g3, g4, g5⟩ := h
  simp only [Value.slice.injEq] at e
  obtain ⟨rfl, _, rfl⟩ := e
  have hl : (l.take k).length = k := by simp; omega
  refine ⟨ao, ca, by rw [hl], fun e => ?_, by omega, g4, fun i hi => ?_⟩
  · obtain ⟨e1, e2⟩ := g2 e
    exact ⟨by rw [e1]; simp, e2⟩
  · obtain ⟨b, off, e1, hc⟩ := g5 i (by omega)
    exact ⟨b, off, e1, by rw [hc]; simp⟩

end Go.Proofs.Ytdhjlongdfgejaa
