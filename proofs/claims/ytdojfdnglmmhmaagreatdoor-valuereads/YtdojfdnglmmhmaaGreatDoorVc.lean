/-
  Things of one kind, held against one another.
-/
import Derived.Test.YtdojfdnglmmhmaaGreatDoorVs
import Derived.Test.YtdojfdnglmmhmaaGreatDoorVm
namespace Go.Proofs.YtdojfdnglmmhmaaGreatDoor.Va
open Go.RowKit Go.Proofs.YtdojfdnglmmhmaaGreatDoor.Rl
set_option maxRecDepth 100000

theorem nanI (w : World) (x : Int) : Calls Tryz.prog 69 #[.int .i64 x] w fun e w' => e = .returned (.bool false) ∧ w' = w := by
  go_enter Tryz.func69, Tryz.ntmps69
  go_wp2
  go_ret
  exact ⟨by simp, rfl⟩
theorem cmpI_any (w : World) (x y : Int) : Calls Tryz.prog 48 #[.int .i64 x, .int .i64 y] w fun e w' => e = .returned (.int .i64 (cmpZ x y)) ∧ w' = w := by
  go_enter Tryz.func48, Tryz.ntmps48
  go_wp2_with (first | (go_at_call 69; refine (nanI _ _).mono ?_; rintro e _ ⟨rfl, rfl⟩))
  all_goals (go_ret; refine ⟨ret_int ?_, rfl⟩; unfold cmpZ; (repeat' split) <;> omega)
theorem nanB (w : World) (x : Int) : Calls Tryz.prog 116 #[.int .i64 x] w fun e w' => e = .returned (.bool false) ∧ w' = w := by
  go_enter Tryz.func116, Tryz.ntmps116
  go_wp2
  go_ret
  exact ⟨by simp, rfl⟩
theorem cmpB_any (w : World) (x y : Int) : Calls Tryz.prog 115 #[.int .i64 x, .int .i64 y] w fun e w' => e = .returned (.int .i64 (cmpZ x y)) ∧ w' = w := by
  go_enter Tryz.func115, Tryz.ntmps115
  go_wp2_with (first | (go_at_call 116; refine (nanB _ _).mono ?_; rintro e _ ⟨rfl, rfl⟩))
  all_goals (go_ret; refine ⟨ret_int ?_, rfl⟩; unfold cmpZ; (repeat' split) <;> omega)
theorem nanN (w : World) (x : Int) : Calls Tryz.prog 124 #[.int .i64 x] w fun e w' => e = .returned (.bool false) ∧ w' = w := by
  go_enter Tryz.func124, Tryz.ntmps124
  go_wp2
  go_ret
  exact ⟨by simp, rfl⟩
theorem cmpN_any (w : World) (x y : Int) : Calls Tryz.prog 123 #[.int .i64 x, .int .i64 y] w fun e w' => e = .returned (.int .i64 (cmpZ x y)) ∧ w' = w := by
  go_enter Tryz.func123, Tryz.ntmps123
  go_wp2_with (first | (go_at_call 124; refine (nanN _ _).mono ?_; rintro e _ ⟨rfl, rfl⟩))
  all_goals (go_ret; refine ⟨ret_int ?_, rfl⟩; unfold cmpZ; (repeat' split) <;> omega)
theorem nanT (w : World) (t : List UInt8) : Calls Tryz.prog 143 #[.string (bstr t)] w fun e w' => e = .returned (.bool false) ∧ w' = w := by
  go_enter Tryz.func143, Tryz.ntmps143
  go_wp2
  go_ret
  exact ⟨by simp, rfl⟩
theorem cmpT_eq : ∀ t s : List UInt8, cmpT t s = 0 → t = s
  | [], [], _ => rfl
  | [], _ :: _, h => by simp [cmpT] at h
  | _ :: _, [], h => by simp [cmpT] at h
  | a :: r, b :: q, h => by
    rw [cmpT] at h
    by_cases e : a = b
    · rw [if_pos e] at h; rw [e, cmpT_eq r q h]
    · rw [if_neg e] at h
      exact absurd (UInt8.toNat_inj.1 (by unfold cmpZ at h; (repeat' split at h) <;> omega)) e
theorem less_cmp : ∀ t s : List UInt8, Op.bytesLess t s = decide (cmpT t s = -1)
  | [], [] => by simp [Op.bytesLess, cmpT]
  | [], _ :: _ => by simp [Op.bytesLess, cmpT]
  | _ :: _, [] => by simp [Op.bytesLess, cmpT]
  | a :: r, b :: q => by
    have ih := less_cmp r q
    rw [cmpT, Op.bytesLess]
    by_cases e : a = b
    · subst e; simp [ih]
    · rw [if_neg e]
      have ne : a.toNat ≠ b.toNat := fun h => e (UInt8.toNat_inj.1 h)
      unfold cmpZ
      rw [Bool.eq_iff_iff]
      simp [e, UInt8.lt_iff_toNat_lt]
      (repeat' split) <;> omega
theorem cmpT_any (w : World) (t s : List UInt8) : Calls Tryz.prog 141 #[.string (bstr t), .string (bstr s)] w fun e w' => e = .returned (.int .i64 (cmpT t s)) ∧ w' = w := by
  have h1 : Op.bytesLess (bstr t).toList (bstr s).toList = decide (cmpT t s = -1) := by rw [bstr_list, bstr_list]; exact less_cmp t s
  have h2 : ((bstr t).toList == (bstr s).toList) = decide (cmpT t s = 0) := by
    rw [bstr_list, bstr_list, Bool.eq_iff_iff]
    simp only [beq_iff_eq, decide_eq_true_eq]
    exact ⟨fun h => by rw [h, cmpT_self], cmpT_eq t s⟩
  have hr := (cmpT_ord t s s).rng
  obtain ⟨C, hC⟩ : ∃ C, Hid (cmpT t s = C) := ⟨_, rfl⟩
  rw [hC.out] at h1 h2 hr ⊢
  rcases hr with rfl | rfl | rfl
  all_goals simp only [decide_true, Int.reduceNeg, reduceCtorEq, Int.reduceEq, decide_false] at h1 h2
  all_goals go_enter Tryz.func141, Tryz.ntmps141
  all_goals go_wp2_with (first | (go_at_call 143; refine (nanT _ _).mono ?_; rintro e _ ⟨rfl, rfl⟩))
  all_goals (go_ret; exact ⟨rfl, rfl⟩)
end Go.Proofs.YtdojfdnglmmhmaaGreatDoor.Va
