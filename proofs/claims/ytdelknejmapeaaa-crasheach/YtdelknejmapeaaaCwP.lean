/-
  CrashEach: the walk, long lists.
-/
import Derived.Test.YtdelknejmapeaaaCwN
namespace Go.Proofs.Ytdelknejmapeaaa.Dk
open Go.RowKit Go.Maps Go.Sort Go.Shelf Go.Proofs.Ytdelknejmapeaaa.Nm
set_option linter.unusedVariables false

theorem get_an (p r : Nat) : get (runs [([97], p)] [.cr (sM 110) r]) (sM 110).data.toList = some r := rfl
theorem upd_updC {α : Type} (F : Nat → α) (p : Nat) (s t : α) : upd (upd F p s) p t = upd F p t := by
  funext q
  unfold upd
  split <;> rfl
theorem syF_newC (z : List UInt8) : syF ⟨z, [], 0⟩ = ⟨z, z, 0⟩ := by have := syF_plain [] z; simpa using this
set_option maxRecDepth 100000 in
set_option maxHeartbeats 1000000 in
theorem each_long (w : World) (va vb vc : Value) (A B C : List UInt8) (ha : Sl w va A) (hb : Sl w vb B) (hc : Sl w vc C) (hl : 20 < A.length ∨ 20 < B.length ∨ 20 < C.length) :
    Calls Try.prog 4 #[va, vb, vc] w fun e w' => e = .returned (.bool true) ∧ Below w.heap.size w w' := by
  have hB := begun12_any w
  have SA := hide ha
  have SB := hide hb
  have SC := hide hc
  obtain ⟨aa, ca, rfl, z1a, a3, a4, z2a⟩ := ha
  clear z1a z2a
  obtain ⟨ab, cb, rfl, z1b, b3, b4, z2b⟩ := hb
  clear z1b z2b
  obtain ⟨ac, cc, rfl, z1c, c3, c4, z2c⟩ := hc
  clear z1c z2c
  have a4' : ca ≤ 9223372036854775807 := by unfold maxLen at a4; omega
  have b4' : cb ≤ 9223372036854775807 := by unfold maxLen at b4; omega
  have c4' : cc ≤ 9223372036854775807 := by unfold maxLen at c4; omega
  clear a4 b4 c4
  by_cases k1 : (A.length : Int) > 20
  · go_enter Try.func4, Try.ntmps4
    go_wp2_with (go_at_call 25; refine hB.mono ?_; rintro e w0 ⟨rfl, b0⟩; replace b0 := hide b0)
    go_ret
    exact ⟨rfl, b0.out⟩
  by_cases k2 : (B.length : Int) > 20
  · go_enter Try.func4, Try.ntmps4
    go_wp2_with (go_at_call 25; refine hB.mono ?_; rintro e w0 ⟨rfl, b0⟩; replace b0 := hide b0)
    go_ret
    exact ⟨rfl, b0.out⟩
  by_cases k3 : (C.length : Int) > 20
  · go_enter Try.func4, Try.ntmps4
    go_wp2_with (go_at_call 25; refine hB.mono ?_; rintro e w0 ⟨rfl, b0⟩; replace b0 := hide b0)
    go_ret
    exact ⟨rfl, b0.out⟩
  omega
end Go.Proofs.Ytdelknejmapeaaa.Dk
