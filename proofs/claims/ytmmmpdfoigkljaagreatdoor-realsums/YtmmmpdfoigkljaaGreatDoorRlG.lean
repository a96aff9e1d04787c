/-
  Package strconv at 0.5: the digits.
-/
import Derived.Test.YtmmmpdfoigkljaaGreatDoorRlF
namespace Go.Proofs.YtmmmpdfoigkljaaGreatDoor.Rl
open Go.RowKit
set_option maxRecDepth 100000

theorem mul_mn (w : World) : Calls Tryz.prog 130 #[.int .u64 9223372036854775296, .int .u64 12800000000000000000] w fun e w' => e = .returned (.tuple #[.int .u64 6399999999999999644, .int .u64 13440890240600375296]) ∧ w' = w := by
  go_enter Tryz.func130, Tryz.ntmps130
  go_wp2
  go_ret2
  refine ⟨congrArg Ending.returned (congrArg Value.tuple ?_), rfl⟩
  kernel_rfl
theorem mul_mx (w : World) : Calls Tryz.prog 130 #[.int .u64 9223372036854776832, .int .u64 12800000000000000000] w fun e w' => e = .returned (.tuple #[.int .u64 6400000000000000710, .int .u64 10011707666218352640]) ∧ w' = w := by
  go_enter Tryz.func130, Tryz.ntmps130
  go_wp2
  go_ret2
  refine ⟨congrArg Ending.returned (congrArg Value.tuple ?_), rfl⟩
  kernel_rfl
/-- Where a scaler lies that holds the power 10^17 and the shift 5. -/
def Pre (w : World) (p : Nat) : Prop :=
  w.cell? ⟨p, 0, none⟩ = some (.int .u64 12800000000000000000) ∧ w.cell? ⟨p, 1, none⟩ = some (.int .u64 0) ∧ w.cell? ⟨p, 2, none⟩ = some (.int .i64 5)
theorem us_mn (w : World) (p : Nat) (h : Pre w p) : Calls Tryz.prog 105 #[.int .u64 9223372036854775296, .pointer (some ⟨p, 0, none⟩)] w fun e w' => e = .returned (.int .u64 199999999999999989) ∧ w' = w := by
  obtain ⟨h0, h1, h2⟩ := h
  have b1 : bits BinOp.and IntKind.i64 5 63 = 5 := by decide +kernel
  go_enter Tryz.func105, Tryz.ntmps105
  go_wp2_with fail
  refine (mul_mn _).mono ?_
  rintro e w1 ⟨rfl, rfl⟩
  go_wp2
  go_ret
  refine ⟨congrArg Ending.returned ?_, rfl⟩
  kernel_rfl
theorem us_mx (w : World) (p : Nat) (h : Pre w p) : Calls Tryz.prog 105 #[.int .u64 9223372036854776832, .pointer (some ⟨p, 0, none⟩)] w fun e w' => e = .returned (.int .u64 200000000000000023) ∧ w' = w := by
  obtain ⟨h0, h1, h2⟩ := h
  have b1 : bits BinOp.and IntKind.i64 5 63 = 5 := by decide +kernel
  go_enter Tryz.func105, Tryz.ntmps105
  go_wp2_with fail
  refine (mul_mx _).mono ?_
  rintro e w1 ⟨rfl, rfl⟩
  go_wp2
  go_ret
  refine ⟨congrArg Ending.returned ?_, rfl⟩
  kernel_rfl
def Tab (w : World) : Prop := w.cell? ⟨10, 730, none⟩ = some (.int .u64 12800000000000000000) ∧ w.cell? ⟨10, 731, none⟩ = some (.int .u64 0)
theorem prescale_half (w : World) (hT : Tab w) (t : TypeId) : Calls Tryz.prog 103 #[.pointer (some ⟨w.heap.size, 0, none⟩), .int .i64 (-64), .int .i64 17, .int .i64 56] (w.alloc (.cells #[.int .u64 0, .int .u64 0, .int .i64 0] t))
    fun e w' => ∃ v, e = .returned v ∧ Pre w' w.heap.size ∧ Below w.heap.size w w' := by
  obtain ⟨h0, h1⟩ := hT
  have hlt : 10 < w.heap.size := lt_of_cell h0
  have e0 : ∀ o, (w.alloc o).cell? ⟨10, 730, none⟩ = some (.int .u64 12800000000000000000) := fun o => by
    rw [(box_below w o).cell (p := ⟨10, 730, none⟩) hlt]; exact h0
  go_enter Tryz.func103, Tryz.ntmps103
  go_wp2_with fail
  go_returns
  clear e0 h0 h1
  refine ⟨_, rfl, ⟨?_, ?_, ?_⟩, ?_⟩
  all_goals first | go_cell | go_grown
theorem skewed_half (w : World) : Calls Tryz.prog 102 #[.int .i64 (-53)] w fun e w' => e = .returned (.int .i64 (-17)) ∧ w' = w := by
  go_enter Tryz.func102, Tryz.ntmps102
  go_wp2
  go_ret
  exact ⟨by kernel_rfl, rfl⟩
theorem log2_half (w : World) : Calls Tryz.prog 104 #[.int .i64 17] w fun e w' => e = .returned (.int .i64 56) ∧ w' = w := by
  go_enter Tryz.func104, Tryz.ntmps104
  go_wp2
  go_ret
  exact ⟨by kernel_rfl, rfl⟩
theorem nudge_mn (w : World) : Calls Tryz.prog 106 #[.int .u64 199999999999999989, .int .i64 0] w fun e w' => e = .returned (.int .u64 199999999999999989) ∧ w' = w := by
  go_enter Tryz.func106, Tryz.ntmps106
  go_wp2
  go_ret
  exact ⟨by kernel_rfl, rfl⟩
theorem nudge_mx (w : World) : Calls Tryz.prog 106 #[.int .u64 200000000000000023, .int .i64 0] w fun e w' => e = .returned (.int .u64 200000000000000023) ∧ w' = w := by
  go_enter Tryz.func106, Tryz.ntmps106
  go_wp2
  go_ret
  exact ⟨by kernel_rfl, rfl⟩
theorem ceil_mn (w : World) : Calls Tryz.prog 107 #[.int .u64 199999999999999989] w fun e w' => e = .returned (.int .u64 49999999999999998) ∧ w' = w := by
  go_enter Tryz.func107, Tryz.ntmps107
  go_wp2
  go_ret
  exact ⟨by kernel_rfl, rfl⟩
theorem floor_mx (w : World) : Calls Tryz.prog 108 #[.int .u64 200000000000000023] w fun e w' => e = .returned (.int .u64 50000000000000005) ∧ w' = w := by
  go_enter Tryz.func108, Tryz.ntmps108
  go_wp2
  go_ret
  exact ⟨by kernel_rfl, rfl⟩

theorem short_half (w : World) (hT : Tab w) : Calls Tryz.prog 84 #[.int .u64 9223372036854775808, .int .i64 (-64)] w
    fun e w' => e = .returned (.tuple #[.int .u64 5000000000000000, .int .i64 (-16)]) ∧ Below w.heap.size w w' := by
  have b1 : bits BinOp.and IntKind.i64 4503599627370496 1 = 0 := by decide +kernel
  go_enter Tryz.func84, Tryz.ntmps84
  go_wp2_with fail
  refine (skewed_half _).mono ?_
  rintro e w1 ⟨rfl, rfl⟩
  go_wp2_with fail
  refine (log2_half _).mono ?_
  rintro e w2 ⟨rfl, rfl⟩
  go_wp2_with fail
  refine (prescale_half _ hT _).mono ?_
  rintro e w3 ⟨v3, rfl, hP, hb3⟩
  go_wp2_with fail
  refine (us_mn _ _ hP).mono ?_
  rintro e w4 ⟨rfl, rfl⟩
  go_wp2_with fail
  refine (nudge_mn _).mono ?_
  rintro e w5 ⟨rfl, rfl⟩
  go_wp2_with fail
  refine (ceil_mn _).mono ?_
  rintro e w6 ⟨rfl, rfl⟩
  go_wp2_with fail
  refine (us_mx _ _ hP).mono ?_
  rintro e w7 ⟨rfl, rfl⟩
  go_wp2_with fail
  refine (nudge_mx _).mono ?_
  rintro e w8 ⟨rfl, rfl⟩
  go_wp2_with fail
  refine (floor_mx _).mono ?_
  rintro e w9 ⟨rfl, rfl⟩
  go_wp2
  go_ret2
  exact ⟨rfl, hb3⟩
end Go.Proofs.YtmmmpdfoigkljaaGreatDoor.Rl
