/-
  What crc.Sum answers; what every statement of the second layer asks ahead (flumelaw2.begun) is answered true.
-/
import Derived.Test.YtdhjlongdfgejaaCrcM
namespace Go.Proofs.Ytdhjlongdfgejaa.Crc
open Go.RowKit

theorem sum_any (w : World) (v : Value) (l : List UInt8) (hv : Sl w v l) :
    Calls Try.prog 29 #[v] w fun e w' => e = .returned (.int .u32 ((more 0#32 l).toNat : Int)) ∧ Below w.heap.size w w' := by
  have hv0 := hv
  obtain ⟨ao, ca, rfl, h2, h3, h4, h5⟩ := hv
  clear h2 h3 h4 h5
  go_enter Try.func29, Try.ntmps29
  go_wp2_with fail
  refine (more_any _ 0#32 _ l hv0).mono ?_
  rintro e w1 ⟨rfl, hb⟩
  go_wp2
  go_ret
  exact ⟨rfl, hb⟩

def d9 : List UInt8 := [49, 50, 51, 52, 53, 54, 55, 56, 57]
theorem sum_d9 : ((more 0#32 d9).toNat : Int) = 3808858755 := by decide +kernel
theorem mask_0 : ((maskOf 0#32).toNat : Int) = 2726488792 := by decide +kernel
theorem join_0 : ((joinOf 0xc1d04330#32 0#32 0).toNat : Int) = 3251651376 := by decide +kernel

end Go.Proofs.Ytdhjlongdfgejaa.Crc
