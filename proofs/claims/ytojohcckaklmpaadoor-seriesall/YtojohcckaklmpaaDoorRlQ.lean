/-
  Package real: the least and the greatest of a list.
-/
import Derived.Test.YtojohcckaklmpaaDoorRlP
namespace Go.Proofs.YtojohcckaklmpaaDoor.Rl
open Go.RowKit
set_option maxRecDepth 100000

def minStep (f x : Nat) : Nat := if cmpB x f < 0 then x else f
def minB (xs : List Nat) : Nat := if xs.length = 0 then 0 else xs.foldl minStep 9221120237041090561
theorem min_lt {xs : List Nat} (h : Bs xs) (f : Nat) (hf : f < 18446744073709551616) : xs.foldl minStep f < 18446744073709551616 := by
  induction xs generalizing f with
  | nil => exact hf
  | cons x r ih =>
    rw [List.foldl_cons]
    refine ih (fun y hy => h y (by simp [hy])) _ ?_
    unfold minStep
    split
    · exact h x (by simp)
    · exact hf
theorem foldl_take (g : Nat → Nat → Nat) (xs : List Nat) (f i : Nat) (hi : i < xs.length) : (xs.take (i + 1)).foldl g f = g ((xs.take i).foldl g f) xs[i] := by
  rw [List.take_succ_eq_append_getElem hi, List.foldl_append]; rfl
theorem min_any (w : World) (v : Value) (xs : List Nat) (hx : Row w v (fvals xs)) (hb : Bs xs) :
    Calls Tryd.prog 29 #[v] w fun e w' => e = .returned (.tuple #[.float .f64 (minB xs), .bool (decide (xs.length ≠ 0))]) ∧ w' = w := by
  obtain ⟨ao, cap, rfl, h1, h2, h3, h4⟩ := hx
  have hlen : (fvals xs).length = xs.length := by simp [fvals]
  have h4' : Hid (At w ao (fvals xs)) := h4
  rw [hlen] at h2 ⊢
  have hn47 : xs.length ≤ 9223372036854775807 := by unfold maxLen at h3; omega
  clear h1 h4 hlen h2 h3
  obtain ⟨n, hn⟩ : ∃ n, Hid (xs.length = n) := ⟨_, rfl⟩
  obtain ⟨M, hM⟩ : ∃ M, Hid (minB xs = M) := ⟨_, rfl⟩
  rw [hn.out] at hn47 ⊢
  rw [hM.out]
  replace hb : Hid (Bs xs) := hb
  by_cases hn0 : n = 0
  · subst hn0
    have hM2 : M = 0 := by rw [← hM.out, minB, if_pos hn.out]
    subst hM2
    go_enter Tryd.func29, Tryd.ntmps29
    go_wp2
    go_ret2
    exact ⟨rfl, rfl⟩
  · have hbeq : ((n : Int) == 0) = false := by simp; omega
    have hM2 : Hid (M = xs.foldl minStep 9221120237041090561) := by show _ = _; rw [← hM.out, minB, if_neg (by rw [hn.out]; exact hn0)]
    have hdec : decide (n ≠ 0) = true := decide_eq_true hn0
    rw [hdec]
    go_enter Tryd.func29, Tryd.ntmps29
    go_wp2_with fail
    refine (nan_any _).mono ?_
    rintro e w1 ⟨rfl, rfl⟩
    go_wp2_with fail
    go_loopw [4, 13] (fun v4 v13 wr => ∃ (i f : Nat), i ≤ n ∧ v13 = .int .i64 (i : Int) ∧ v4 = .float .f64 f ∧ Hid (f = (xs.take i).foldl minStep 9221120237041090561) ∧ wr = w1) (fun _ v _ => n - (intOf v).toNat)
    case atStart => exact ⟨0, _, by omega, rfl, rfl, by show _ = _; simp, rfl⟩
    case round =>
      obtain ⟨i, f, hi, rfl, rfl, hf, rfl⟩ := hrel
      by_cases hin : i = n
      · have hf2 : f = M := by rw [hf.out, hM2.out, List.take_of_length_le (by have := hn.out; omega)]
        subst hin
        subst hf2
        go_wp2
        go_ret2
        exact ⟨rfl, rfl⟩
      · have hil : i < xs.length := by have := hn.out; omega
        obtain ⟨x, hx⟩ : ∃ x, Hid (xs[i] = x) := ⟨xs[i], rfl⟩
        obtain ⟨rb, off, rfl, hcell⟩ := h4'.out i (by simp [fvals]; omega)
        have hcx : wr.cell? ⟨rb, off + i, none⟩ = some (.float .f64 x) := by
          rw [hcell, ← hx.out]
          simp [fvals]
        clear hcell
        have hxl : Hid (x < 18446744073709551616) := hb.out x (by rw [← hx.out]; exact List.getElem_mem hil)
        have hfl : Hid (f < 18446744073709551616) := by rw [hf.out]; exact min_lt (fun b h => hb.out b (List.mem_of_mem_take h)) _ (by omega)
        have hnx : Hid (minStep f x = (xs.take (i + 1)).foldl minStep 9221120237041090561) := by show _ = _; rw [foldl_take _ _ _ _ hil, ← hf.out, hx.out]
        have i1 : (i : Int) < (n : Int) := by omega
        have i2 : (0 : Int) ≤ (i : Int) := by omega
        go_wp2_with fail
        refine (compare_any _ x f hxl.out hfl.out).mono ?_
        rintro e w2 ⟨rfl, rfl⟩
        obtain ⟨c, hc⟩ : ∃ c, Hid (cmpB x f = c) := ⟨_, rfl⟩
        rw [hc.out]
        by_cases h0 : c < 0
        · go_wp2_with fail
          go_roundw
          case rel => exact ⟨i + 1, x, by omega, by go_num, rfl, by show _ = _; rw [← hnx.out, minStep, if_pos (by rw [hc.out]; exact h0)], by trivial⟩
          case measure => simp [intOf]; omega
        · go_wp2_with fail
          go_roundw
          case rel => exact ⟨i + 1, f, by omega, by go_num, rfl, by show _ = _; rw [← hnx.out, minStep, if_neg (by rw [hc.out]; omega)], by trivial⟩
          case measure => simp [intOf]; omega
def maxStep (l x : Nat) : Nat := if !nanB x && (nanB l || decide (0 < cmpB x l)) then x else l
def maxB (xs : List Nat) : Nat := if xs.length = 0 then 0 else xs.foldl maxStep 9221120237041090561
theorem max_lt {xs : List Nat} (h : Bs xs) (f : Nat) (hf : f < 18446744073709551616) : xs.foldl maxStep f < 18446744073709551616 := by
  induction xs generalizing f with
  | nil => exact hf
  | cons x r ih =>
    rw [List.foldl_cons]
    refine ih (fun y hy => h y (by simp [hy])) _ ?_
    unfold maxStep
    split
    · exact h x (by simp)
    · exact hf
theorem max_any (w : World) (v : Value) (xs : List Nat) (hx : Row w v (fvals xs)) (hb : Bs xs) :
    Calls Tryd.prog 30 #[v] w fun e w' => e = .returned (.tuple #[.float .f64 (maxB xs), .bool (decide (xs.length ≠ 0))]) ∧ w' = w := by
  obtain ⟨ao, cap, rfl, h1, h2, h3, h4⟩ := hx
  have hlen : (fvals xs).length = xs.length := by simp [fvals]
  have h4' : Hid (At w ao (fvals xs)) := h4
  rw [hlen] at h2 ⊢
  have hn47 : xs.length ≤ 9223372036854775807 := by unfold maxLen at h3; omega
  clear h1 h4 hlen h2 h3
  obtain ⟨n, hn⟩ : ∃ n, Hid (xs.length = n) := ⟨_, rfl⟩
  obtain ⟨M, hM⟩ : ∃ M, Hid (maxB xs = M) := ⟨_, rfl⟩
  rw [hn.out] at hn47 ⊢
  rw [hM.out]
  replace hb : Hid (Bs xs) := hb
  by_cases hn0 : n = 0
  · subst hn0
    have hM2 : M = 0 := by rw [← hM.out, maxB, if_pos hn.out]
    subst hM2
    go_enter Tryd.func30, Tryd.ntmps30
    go_wp2
    go_ret2
    exact ⟨rfl, rfl⟩
  · have hbeq : ((n : Int) == 0) = false := by simp; omega
    have hM2 : Hid (M = xs.foldl maxStep 9221120237041090561) := by show _ = _; rw [← hM.out, maxB, if_neg (by rw [hn.out]; exact hn0)]
    have hdec : decide (n ≠ 0) = true := decide_eq_true hn0
    rw [hdec]
    go_enter Tryd.func30, Tryd.ntmps30
    go_wp2_with fail
    refine (nan_any _).mono ?_
    rintro e w1 ⟨rfl, rfl⟩
    go_wp2_with fail
    go_loopw [4, 13] (fun v4 v13 wr => ∃ (i f : Nat), i ≤ n ∧ v13 = .int .i64 (i : Int) ∧ v4 = .float .f64 f ∧ Hid (f = (xs.take i).foldl maxStep 9221120237041090561) ∧ wr = w1) (fun _ v _ => n - (intOf v).toNat)
    case atStart => exact ⟨0, _, by omega, rfl, rfl, by show _ = _; simp, rfl⟩
    case round =>
      obtain ⟨i, f, hi, rfl, rfl, hf, rfl⟩ := hrel
      by_cases hin : i = n
      · have hf2 : f = M := by rw [hf.out, hM2.out, List.take_of_length_le (by have := hn.out; omega)]
        subst hin
        subst hf2
        go_wp2
        go_ret2
        exact ⟨rfl, rfl⟩
      · have hil : i < xs.length := by have := hn.out; omega
        obtain ⟨x, hx⟩ : ∃ x, Hid (xs[i] = x) := ⟨xs[i], rfl⟩
        obtain ⟨rb, off, rfl, hcell⟩ := h4'.out i (by simp [fvals]; omega)
        have hcx : wr.cell? ⟨rb, off + i, none⟩ = some (.float .f64 x) := by
          rw [hcell, ← hx.out]
          simp [fvals]
        clear hcell
        have hxl : Hid (x < 18446744073709551616) := hb.out x (by rw [← hx.out]; exact List.getElem_mem hil)
        have hfl : Hid (f < 18446744073709551616) := by rw [hf.out]; exact max_lt (fun b h => hb.out b (List.mem_of_mem_take h)) _ (by omega)
        have hnx : Hid (maxStep f x = (xs.take (i + 1)).foldl maxStep 9221120237041090561) := by show _ = _; rw [foldl_take _ _ _ _ hil, ← hf.out, hx.out]
        have i1 : (i : Int) < (n : Int) := by omega
        have i2 : (0 : Int) ≤ (i : Int) := by omega
        go_wp2_with fail
        refine (isNaN_any _ x hxl.out).mono ?_
        rintro e w2 ⟨rfl, rfl⟩
        obtain ⟨a, ha⟩ : ∃ a, Hid (nanB x = a) := ⟨_, rfl⟩
        rw [ha.out]
        cases a
        · go_wp2_with fail
          refine (isNaN_any _ f hfl.out).mono ?_
          rintro e w2 ⟨rfl, rfl⟩
          obtain ⟨b, hbb⟩ : ∃ b, Hid (nanB f = b) := ⟨_, rfl⟩
          rw [hbb.out]
          cases b
          · go_wp2_with fail
            refine (compare_any _ x f hxl.out hfl.out).mono ?_
            rintro e w2 ⟨rfl, rfl⟩
            obtain ⟨c, hc⟩ : ∃ c, Hid (cmpB x f = c) := ⟨_, rfl⟩
            rw [hc.out]
            by_cases h0 : 0 < c
            · go_wp2_with fail
              go_roundw
              case rel => exact ⟨i + 1, x, by omega, by go_num, rfl, by show _ = _; rw [← hnx.out, maxStep, ha.out, hbb.out, hc.out, if_pos (by simpa using h0)], by trivial⟩
              case measure => simp [intOf]; omega
            · go_wp2_with fail
              go_roundw
              case rel => exact ⟨i + 1, f, by omega, by go_num, rfl, by show _ = _; rw [← hnx.out, maxStep, ha.out, hbb.out, hc.out, if_neg (by simpa using h0)], by trivial⟩
              case measure => simp [intOf]; omega
          · go_wp2_with fail
            go_roundw
            case rel => exact ⟨i + 1, x, by omega, by go_num, rfl, by show _ = _; rw [← hnx.out, maxStep, ha.out, hbb.out, if_pos (by simp)], by trivial⟩
            case measure => simp [intOf]; omega
        · go_wp2_with fail
          go_roundw
          case rel => exact ⟨i + 1, f, by omega, by go_num, rfl, by show _ = _; rw [← hnx.out, maxStep, ha.out, if_neg (by simp)], by trivial⟩
          case measure => simp [intOf]; omega
end Go.Proofs.YtojohcckaklmpaaDoor.Rl
