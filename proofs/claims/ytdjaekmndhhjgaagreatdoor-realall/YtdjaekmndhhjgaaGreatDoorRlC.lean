/-
  Package real: how far apart two numbers stand; the document's own answer is the same.
-/
import Derived.Test.YtdjaekmndhhjgaaGreatDoorRlB
namespace Go.Proofs.YtdjaekmndhhjgaaGreatDoor.Rl
open Go.RowKit
set_option maxRecDepth 100000

def apB (a b : Nat) : Int := if nanB a || nanB b then 0 else if keyB a < keyB b then (keyB b : Int) - keyB a else (keyB a : Int) - keyB b
def apOk (a b : Nat) : Bool := !(nanB a || nanB b)
theorem apart_any (w : World) (a b : Nat) (ha : a < 18446744073709551616) (hb : b < 18446744073709551616) :
    Calls Tryz.prog 22 #[.float .f64 a, .float .f64 b] w fun e w' => e = .returned (.tuple #[.int .u64 (apB a b), .bool (apOk a b)]) ∧ w' = w := by
  have hla : Hid (keyB a < 18446744073709551616) := keyB_lt ha
  have hlb : Hid (keyB b < 18446744073709551616) := keyB_lt hb
  obtain ⟨x, hx⟩ : ∃ x : Int, Hid (apB a b = x) := ⟨_, rfl⟩
  obtain ⟨y, hy⟩ : ∃ x : Bool, Hid (apOk a b = x) := ⟨_, rfl⟩
  obtain ⟨n1, h1⟩ : ∃ n, Hid (nanB a = n) := ⟨_, rfl⟩
  obtain ⟨n2, h2⟩ : ∃ n, Hid (nanB b = n) := ⟨_, rfl⟩
  rw [hx.out, hy.out]
  go_enter Tryz.func22, Tryz.ntmps22
  go_wp2_with fail
  refine (isNaN_any _ a ha).mono ?_
  rintro e w1 ⟨rfl, rfl⟩
  rw [h1.out]
  cases n1
  · go_wp2_with fail
    refine (isNaN_any _ b hb).mono ?_
    rintro e w2 ⟨rfl, rfl⟩
    rw [h2.out]
    cases n2
    · go_wp2_with fail
      refine (key_any _ a ha).mono ?_
      rintro e w3 ⟨rfl, rfl⟩
      go_wp2_with fail
      refine (key_any _ b hb).mono ?_
      rintro e w4 ⟨rfl, rfl⟩
      obtain ⟨K, hK⟩ : ∃ K : Int, Hid (K = keyB a) := ⟨_, rfl⟩
      obtain ⟨L, hL⟩ : ∃ K : Int, Hid (K = keyB b) := ⟨_, rfl⟩
      rw [← hK.out, ← hL.out]
      clear ha hb
      go_wp2
      all_goals (go_ret2; refine ⟨ret_nb ?_ ?_, rfl⟩)
      all_goals first
        | (rw [← hy.out, apOk, h1.out, h2.out]; rfl; done)
        | (rw [← hx.out, apB, h1.out, h2.out, if_neg (by simp)]; (try rw [IntKind.wrap_u64]); have := hla.out; have := hlb.out; have := hK.out; have := hL.out; split <;> omega)
    · go_wp2
      go_ret2
      refine ⟨ret_nb ?_ ?_, rfl⟩
      · rw [← hx.out, apB, h1.out, h2.out]; exact (if_pos (by simp)).symm
      · rw [← hy.out, apOk, h1.out, h2.out]; rfl
  · go_wp2
    go_ret2
    refine ⟨ret_nb ?_ ?_, rfl⟩
    · rw [← hx.out, apB, h1.out]; exact (if_pos (by simp)).symm
    · rw [← hy.out, apOk, h1.out]; rfl
theorem refApart_any (w : World) (a b : Nat) (ha : a < 18446744073709551616) (hb : b < 18446744073709551616) :
    Calls Tryz.prog 23 #[.float .f64 a, .float .f64 b] w fun e w' => e = .returned (.tuple #[.int .u64 (apB a b), .bool (apOk a b)]) ∧ w' = w := by
  have hla : Hid (keyB a < 18446744073709551616) := keyB_lt ha
  have hlb : Hid (keyB b < 18446744073709551616) := keyB_lt hb
  obtain ⟨x, hx⟩ : ∃ x : Int, Hid (apB a b = x) := ⟨_, rfl⟩
  obtain ⟨y, hy⟩ : ∃ x : Bool, Hid (apOk a b = x) := ⟨_, rfl⟩
  obtain ⟨n1, h1⟩ : ∃ n, Hid (nanB a = n) := ⟨_, rfl⟩
  obtain ⟨n2, h2⟩ : ∃ n, Hid (nanB b = n) := ⟨_, rfl⟩
  rw [hx.out, hy.out]
  go_enter Tryz.func23, Tryz.ntmps23
  go_wp2_with fail
  refine (refNaN_any _ a ha).mono ?_
  rintro e w1 ⟨rfl, rfl⟩
  rw [h1.out]
  cases n1
  · go_wp2_with fail
    refine (refNaN_any _ b hb).mono ?_
    rintro e w2 ⟨rfl, rfl⟩
    rw [h2.out]
    cases n2
    · have hab : (keyB b < keyB a) ∨ ¬ (keyB b < keyB a) := Classical.em _
      rcases hab with hlt | hlt
      · go_wp2_with fail
        refine (refKey_any _ a ha).mono ?_
        rintro e w3 ⟨rfl, rfl⟩
        go_wp2_with fail
        refine (refKey_any _ b hb).mono ?_
        rintro e w4 ⟨rfl, rfl⟩
        go_wp2_with fail
        refine (refKey_any _ a ha).mono ?_
        rintro e w3 ⟨rfl, rfl⟩
        go_wp2_with fail
        refine (refKey_any _ b hb).mono ?_
        rintro e w4 ⟨rfl, rfl⟩
        go_wp2
        go_ret2
        refine ⟨ret_nb ?_ ?_, rfl⟩
        · rw [← hx.out, apB, h1.out, h2.out, if_neg (by simp), if_neg (by omega)]
          try rw [IntKind.wrap_u64]
          have := hla.out
          have := hlb.out
          omega
        · rw [← hy.out, apOk, h1.out, h2.out]; rfl
      · go_wp2_with fail
        refine (refKey_any _ a ha).mono ?_
        rintro e w3 ⟨rfl, rfl⟩
        go_wp2_with fail
        refine (refKey_any _ b hb).mono ?_
        rintro e w4 ⟨rfl, rfl⟩
        go_wp2_with fail
        refine (refKey_any _ b hb).mono ?_
        rintro e w3 ⟨rfl, rfl⟩
        go_wp2_with fail
        refine (refKey_any _ a ha).mono ?_
        rintro e w4 ⟨rfl, rfl⟩
        go_wp2
        go_ret2
        refine ⟨ret_nb ?_ ?_, rfl⟩
        · rw [← hx.out, apB, h1.out, h2.out, if_neg (by simp)]
          try rw [IntKind.wrap_u64]
          have := hla.out
          have := hlb.out
          split <;> omega
        · rw [← hy.out, apOk, h1.out, h2.out]; rfl
    · go_wp2
      go_ret2
      refine ⟨ret_nb ?_ ?_, rfl⟩
      · rw [← hx.out, apB, h1.out, h2.out]; exact (if_pos (by simp)).symm
      · rw [← hy.out, apOk, h1.out, h2.out]; rfl
  · go_wp2
    go_ret2
    refine ⟨ret_nb ?_ ?_, rfl⟩
    · rw [← hx.out, apB, h1.out]; exact (if_pos (by simp)).symm
    · rw [← hy.out, apOk, h1.out]; rfl
end Go.Proofs.YtdjaekmndhhjgaaGreatDoor.Rl
