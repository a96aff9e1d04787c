/-
  What flumelaw1.front answers: whether one list of bytes is the front of the other.
-/
import Derived.Test.YtjajnioocoinlabBegun
import Derived.Test.YtjajnioocoinlabBack
namespace Go.Proofs.Ytjajnioocoinlab
open Go.RowKit

theorem sl_head {w : World} {ao : Option Addr} {ca : Nat} {l : List UInt8} (n : Nat) (hn : n ≤ l.length) (g2 : ao = none → l = [] ∧ ca = 0) (g3 : l.length ≤ ca) (g4 : ca ≤ maxLen) (g5 : Rd w ao l) : Sl w (.slice ao n ca) (l.take n) := by
  have hl : (l.take n).length = n := by simp; omega
  refine ⟨ao, ca, by rw [hl], fun e => ?_, by omega, g4, fun i hi => ?_⟩
  · obtain ⟨e1, e2⟩ := g2 e
    exact ⟨by rw [e1]; simp, e2⟩
  · obtain ⟨b, off, e1, hc⟩ := g5 i (by omega)
    exact ⟨b, off, e1, by rw [hc]; simp⟩

theorem eq_quiet (w : World) (x y : Value) (l m : List UInt8) (hx : Sl w x l) (hy : Sl w y m) :
    Calls Try.prog 9 #[x, y] w fun e w' => e = .returned (.bool (decide (l = m))) ∧ ∃ k, w' = w.drewN k := eq_sl w x y l m hx hy

set_option maxHeartbeats 400000 in
theorem front_any (w : World) (x y : Value) (l m : List UInt8) (hx : Sl w x l) (hy : Sl w y m) :
    Calls Try.prog 8 #[x, y] w fun e w' => e = .returned (.bool (isFront l m)) ∧ Qt w w' := by
  obtain ⟨ao, ca, rfl, g2, g3, g4, g5⟩ := hx
  obtain ⟨bo, cb, rfl, k2, k3, k4, k5⟩ := hy
  have hca : ca ≤ 9223372036854775807 := by unfold maxLen at g4; omega
  have hcb : cb ≤ 9223372036854775807 := by unfold maxLen at k4; omega
  have HX : Hid (Sl w (.slice ao (min l.length m.length) ca) (l.take (min l.length m.length))) := sl_head _ (Nat.min_le_left _ _) g2 g3 g4 g5
  have HY : Hid (Sl w (.slice bo (min l.length m.length) cb) (m.take (min l.length m.length))) := sl_head _ (Nat.min_le_right _ _) k2 k3 k4 k5
  have HB : Hid (isFront l m = decide (l.take (min l.length m.length) = m.take (min l.length m.length))) := rfl
  clear g2 g4 g5 k2 k4 k5
  by_cases hle : l.length ≤ m.length
  · have hmin : Hid (min l.length m.length = l.length) := Nat.min_eq_left hle
    rw [hmin.out] at HX HY HB
    go_enter Try.func8, Try.ntmps8
    go_wp2_with fail
    go_quiet ((go_at_call 9; exact Calls.quiet_of (eq_quiet _ _ _ _ _ (Qt.sl ⟨_, rfl⟩ HX.out) (Qt.sl ⟨_, rfl⟩ HY.out))))
    go_wp2
    go_ret
    exact ⟨by rw [HB.out]; rfl, ⟨_, rfl⟩⟩
  · have hmin : Hid (min l.length m.length = m.length) := Nat.min_eq_right (by omega)
    rw [hmin.out] at HX HY HB
    go_enter Try.func8, Try.ntmps8
    go_wp2_with fail
    go_quiet ((go_at_call 9; exact Calls.quiet_of (eq_quiet _ _ _ _ _ (Qt.sl ⟨_, rfl⟩ HX.out) (Qt.sl ⟨_, rfl⟩ HY.out))))
    go_wp2
    go_ret
    exact ⟨by rw [HB.out]; rfl, ⟨_, rfl⟩⟩
end Go.Proofs.Ytjajnioocoinlab
