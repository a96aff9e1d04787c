/-
  Package strconv at the two numbers and the one text that every statement of the third layer asks ahead.
-/
import Derived.Test.YtmmmpdfoigkljaaGreatDoorRlC
import Derived.Handy
import Derived.WalkMore
namespace Go.Proofs.YtmmmpdfoigkljaaGreatDoor.Rl
open Go.RowKit
set_option maxRecDepth 100000

theorem sbits_run (b : Nat) (w : World) : (callFunc 72 #[.float .f64 b]).run Tryz.prog w = .ok (.value (.int .u64 b)) w := by
  rw [run_callFunc_extern Tryz.func72 (by kernel_rfl) (by kernel_rfl) (by kernel_rfl) (e := Extern.MathFloatBits.float64bits) (by kernel_rfl)]
  rfl
theorem sof_run (n : Int) (w : World) : (callFunc 95 #[.int .u64 n]).run Tryz.prog w = .ok (.value (.float .f64 n.toNat)) w := by
  rw [run_callFunc_extern Tryz.func95 (by kernel_rfl) (by kernel_rfl) (by kernel_rfl) (e := Extern.MathFloatBits.float64frombits) (by kernel_rfl)]
  rfl
def m0 : Value := .string ⟨#[45, 48]⟩
theorem ex_m0 : (⟨#[45, 48]⟩ : ByteArray).extract 1 2 = ⟨#[48]⟩ := by decide +kernel
theorem prefix_m0 (w : World) : Calls Tryz.prog 120 #[.string ⟨#[48]⟩, .string ⟨#[105, 110, 102, 105, 110, 105, 116, 121]⟩] w fun e w' => e = .returned (.int .i64 0) ∧ w' = w := by
  go_enter Tryz.func120, Tryz.ntmps120
  go_wp2
  go_rounds 2
  all_goals (go_ret; exact ⟨rfl, rfl⟩)
theorem special_m0 (w : World) : Calls Tryz.prog 85 #[m0] w fun e w' => e = .returned (.tuple #[.float .f64 0, .int .i64 0, .bool false]) ∧ w' = w := by
  unfold m0
  have e1 := ex_m0
  go_enter Tryz.func85, Tryz.ntmps85
  go_wp2_with fail
  refine (prefix_m0 _).mono ?_
  rintro e w1 ⟨rfl, rfl⟩
  go_wp2
  go_ret3
  exact ⟨rfl, rfl⟩
theorem len_52 (w : World) : Calls Tryz.prog 58 #[.int .u64 4503599627370496] w fun e w' => e = .returned (.int .i64 53) ∧ w' = w := by
  go_enter Tryz.func58, Tryz.ntmps58
  go_wp2
  go_ret
  exact ⟨congrArg (fun x => Ending.returned (Value.int .i64 x)) (by decide +kernel : (_ : Int) = _), rfl⟩
theorem readFloat_m0 (w : World) : Calls Tryz.prog 86 #[m0] w fun e w' => e = .returned (.tuple #[.int .u64 0, .int .i64 0, .bool true, .bool false, .bool false, .int .i64 2, .bool true]) ∧ w' = w := by
  unfold m0
  go_enter Tryz.func86, Tryz.ntmps86
  go_wp2
  go_step3
  go_wp2
  go_step3
  go_wp2
  go_rounds 2
  rw [Exit.noGoto_ret]
  show bodyPost Tryz.prog Tryz.f86 _ Exit.ret _ _
  go_returns
  exact ⟨rfl, rfl⟩
theorem b2_true (w : World) : Calls Tryz.prog 94 #[.bool true] w fun e w' => e = .returned (.int .u64 1) ∧ w' = w := by
  go_enter Tryz.func94, Tryz.ntmps94
  go_wp2
  go_ret
  exact ⟨rfl, rfl⟩
/-- What the package's variables hold, as far as it is read here. -/
def Lays (w : World) : Prop :=
  w.cell? ⟨3, 0, none⟩ = some (.bool true)
theorem atof_m0 (w : World) (hL : Lays w) : Calls Tryz.prog 67 #[m0] w fun e w' => e = .returned (.tuple #[.float .f64 9223372036854775808, .int .i64 2, .nilIface]) ∧ w' = w := by
  have k1 := sof_run
  have hl : w.cell? ⟨3, 0, none⟩ = some (.bool true) := hL
  go_enter Tryz.func67, Tryz.ntmps67
  go_wp2_with fail
  refine (special_m0 _).mono ?_
  rintro e w1 ⟨rfl, rfl⟩
  go_wp2_with fail
  refine (readFloat_m0 _).mono ?_
  rintro e w1 ⟨rfl, rfl⟩
  go_wp2_with fail
  refine (b2_true _).mono ?_
  rintro e w1 ⟨rfl, rfl⟩
  go_wp2
  go_returns
  exact ⟨rfl, rfl⟩
theorem prefixF_m0 (w : World) (hL : Lays w) : Calls Tryz.prog 59 #[m0, .int .i64 64] w fun e w' => e = .returned (.tuple #[.float .f64 9223372036854775808, .int .i64 2, .nilIface]) ∧ w' = w := by
  go_enter Tryz.func59, Tryz.ntmps59
  go_wp2_with fail
  refine (atof_m0 _ hL).mono ?_
  rintro e w1 ⟨rfl, rfl⟩
  go_wp2
  go_returns
  exact ⟨rfl, rfl⟩
theorem sparse_m0 (w : World) (hL : Lays w) : Calls Tryz.prog 53 #[m0, .int .i64 64] w fun e w' => e = .returned (.tuple #[.float .f64 9223372036854775808, .nilIface]) ∧ w' = w := by
  go_enter Tryz.func53, Tryz.ntmps53
  go_wp2_with fail
  refine (prefixF_m0 _ hL).mono ?_
  rintro e w1 ⟨rfl, rfl⟩
  unfold m0
  go_wp2
  go_ret2
  exact ⟨rfl, rfl⟩
theorem parse_m0 (w : World) (hL : Lays w) : Calls Tryz.prog 41 #[m0, .int .i64 64] w fun e w' => e = .returned (.tuple #[.float .f64 9223372036854775808, .nilIface]) ∧ w' = w := by
  go_enter Tryz.func41, Tryz.ntmps41
  go_wp2_with fail
  refine (sparse_m0 _ hL).mono ?_
  rintro e w1 ⟨rfl, rfl⟩
  go_wp2
  go_ret2
  exact ⟨rfl, rfl⟩
end Go.Proofs.YtmmmpdfoigkljaaGreatDoor.Rl
