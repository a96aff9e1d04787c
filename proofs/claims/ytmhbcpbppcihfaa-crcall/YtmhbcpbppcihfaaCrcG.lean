/-
  What crc.Sum answers; what every statement of the second layer asks ahead (flumelaw2.begun) is answered true.
-/
import Derived.Test.YtmhbcpbppcihfaaCrcM
namespace Go.Proofs.Ytmhbcpbppcihfaa.Crc
open Go.RowKit

theorem sum_any (w : World) (v : Value) (l : List UInt8) (hv : Sl w v l) :
    Calls Try.prog 9 #[v] w fun e w' => e = .returned (.int .u32 ((more 0#32 l).toNat : Int)) ∧ Below w.heap.size w w' := by
  have hv0 := hv
  obtain ⟨ao, ca, rfl, h2, h3, h4, h5⟩ := hv
  clear h2 h3 h4 h5
  go_enter Try.func9, Try.ntmps9
  go_wp2_with fail
  refine (more_any _ 0#32 _ l hv0).mono ?_
  rintro e w1 ⟨rfl, hb⟩
  go_wp2
  go_ret
  exact ⟨rfl, hb⟩

def d9 : List UInt8 := [49, 50, 51, 52, 53, 54, 55, 56, 57]
theorem sum_d9 : ((more 0#32 d9).toNat : Int) = 3808858755 := by decide +kernel
theorem mask_0 : ((maskOf 0#32).toNat : Int) = 2726488792 := by decide +kernel
theorem join_0 : ((joinOf 0xc1d04330#32 0#32 0).toNat : Int) = 3251651376 := by decide +kernel

set_option maxHeartbeats 1000000 in
theorem begun2_any (w : World) : Calls Try.prog 7 #[] w fun e w' => e = .returned (.bool true) ∧ Below w.heap.size w w' := by
  have kc := fun (w : World) (C : Array Value) (n c : Nat) => Lib.run_convert_bytes_const (P := Try.prog) w 26 5 C n c Try.underlying26 Try.underlying5
  go_enter Try.func7, Try.ntmps7
  go_wp2_with fail
  refine (sum_any (w.alloc (.cells #[.int .u8 49, .int .u8 50, .int .u8 51, .int .u8 52, .int .u8 53, .int .u8 54, .int .u8 55, .int .u8 56, .int .u8 57] 5 (9, 10))) _ d9 (sl_lit_mark w d9 5 (9, 10) (by decide) _ rfl)).mono ?_
  rintro e w1 ⟨rfl, hb⟩
  have hb1 : Below w.heap.size w w1 := (box_below w _).trans (hb.mono (by simp))
  rw [sum_d9]
  clear hb
  go_wp2_with fail
  refine (mask_any _ 0#32).mono ?_
  rintro e w2 ⟨rfl, rfl⟩
  rw [mask_0]
  go_wp2_with fail
  refine (join_any _ 0xc1d04330#32 0#32 0 (by decide) (by decide)).mono ?_
  rintro e w3 ⟨rfl, rfl⟩
  rw [join_0]
  go_wp2
  go_ret
  exact ⟨rfl, hb1⟩
#print axioms begun2_any
end Go.Proofs.Ytmhbcpbppcihfaa.Crc
