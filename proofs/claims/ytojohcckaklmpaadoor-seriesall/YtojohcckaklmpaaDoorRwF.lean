/-
  The document's own least and greatest of a list.
-/
import Derived.Test.YtojohcckaklmpaaDoorRlEnds
namespace Go.Proofs.YtojohcckaklmpaaDoor.Rl
open Go.RowKit
set_option maxRecDepth 100000

theorem cmp_mem (a b : Nat) : cmpB a b = -1 ∨ cmpB a b = 0 ∨ cmpB a b = 1 := by unfold cmpB cmpZ; (repeat' split) <;> omega
theorem min_is {f x : Nat} (hf : f < 18446744073709551616) (hx : x < 18446744073709551616) : minStep f x = if (!nanB x && (nanB f || decide (cmpB x f = -1))) then x else f := by
  unfold minStep
  have h1 := cmp_neg_iff x f
  have h2 := cmp_mem x f
  cases hnx : nanB x
  · cases hnf : nanB f
    · by_cases h : cmpB x f = -1
      · rw [if_pos (by omega), if_pos (by simp [h])]
      · rw [if_neg (by omega), if_neg (by simp [h])]
    · have h3 := key_nan_lt hx hnx
      have h4 := key_of_nan hnf
      rw [if_pos (h1.2 (by omega)), if_pos (by simp)]
  · have h3 := key_of_nan hnx
    have h4 := key_max hf
    rw [if_neg (fun e => by have := h1.1 e; omega), if_neg (by simp)]
theorem max_is {f x : Nat} : maxStep f x = if (!nanB x && (nanB f || decide (cmpB x f = 1))) then x else f := by
  unfold maxStep
  have h2 := cmp_mem x f
  cases nanB x
  · cases nanB f
    · by_cases h : cmpB x f = 1
      · rw [if_pos (by simp; omega), if_pos (by simp [h])]
      · rw [if_neg (by simp; omega), if_neg (by simp [h])]
    · rw [if_pos (by simp), if_pos (by simp)]
  · rw [if_neg (by simp), if_neg (by simp)]
set_option maxHeartbeats 1000000 in
theorem first_any (w : World) (v : Value) (xs : List Nat) (z : Int) (g : Nat → Nat → Nat) (hx : Row w v (fvals xs)) (hb : Bs xs)
    (hg : ∀ f x, f < 18446744073709551616 → x < 18446744073709551616 → g f x = if (!nanB x && (nanB f || decide (cmpB x f = z))) then x else f) :
    Calls Tryd.prog 56 #[v, .int .i64 z] w fun e w' => e = .returned (.tuple #[.float .f64 (if xs.length = 0 then 0 else xs.foldl g 9221120237041090561), .bool (decide (xs.length ≠ 0))]) ∧ w' = w := by
  obtain ⟨ao, cap, rfl, h1, h2, h3, h4⟩ := hx
  have hlen : (fvals xs).length = xs.length := by simp [fvals]
  have h4' : Hid (At w ao (fvals xs)) := h4
  rw [hlen] at h2 ⊢
  have hn47 : xs.length ≤ 9223372036854775807 := by unfold maxLen at h3; omega
  clear h1 h4 hlen h2 h3
  obtain ⟨n, hn⟩ : ∃ n, Hid (xs.length = n) := ⟨_, rfl⟩
  rw [hn.out] at hn47 ⊢
  replace hb : Hid (Bs xs) := hb
  replace hg : Hid (∀ f x, f < 18446744073709551616 → x < 18446744073709551616 → g f x = if (!nanB x && (nanB f || decide (cmpB x f = z))) then x else f) := hg
  have k2 := of_run
  go_enter Tryd.func56, Tryd.ntmps56
  go_wp2_with fail
  go_loopw [6, 7, 8] (fun v6 v7 v8 wr => ∃ (i f : Nat) (t : Bool), i ≤ n ∧ v8 = .int .i64 (i : Int) ∧ v6 = .float .f64 f ∧ v7 = .bool t ∧ Hid (f = (xs.take i).foldl g 9221120237041090561) ∧ Hid (f < 18446744073709551616) ∧ Hid (t = !nanB f) ∧ wr = w) (fun _ _ v _ => n - (intOf v).toNat)
  case atStart => exact ⟨0, 9221120237041090561, false, by omega, rfl, rfl, rfl, rfl, by show _ < _; omega, by show _ = _; rw [nanc]; rfl, rfl⟩
  case round =>
    obtain ⟨i, f, t, hi, rfl, rfl, rfl, hf, hfl, ht, rfl⟩ := hrel
    clear k2
    by_cases hin : i = n
    · have hff : Hid (f = xs.foldl g 9221120237041090561) := by show _ = _; rw [hf.out, List.take_of_length_le (by have := hn.out; omega)]
      subst hin
      by_cases h0 : i = 0
      · subst h0
        go_wp2
        go_ret2
        exact ⟨rfl, rfl⟩
      · have hbeq : ((i : Int) == 0) = false := by simp; omega

        go_wp2
        go_ret2
        exact ⟨by rw [← hff.out]; rfl, rfl⟩
    · have hil : i < xs.length := by have := hn.out; omega
      obtain ⟨x, hx⟩ : ∃ x, Hid (xs[i] = x) := ⟨xs[i], rfl⟩
      have hxm : Hid (x ∈ xs) := by rw [← hx.out]; exact List.getElem_mem hil
      have hxl : Hid (x < 18446744073709551616) := hb.out x hxm.out
      obtain ⟨rb, off, rfl, hcell⟩ := h4'.out i (by simp [fvals]; omega)
      have hcx : wr.cell? ⟨rb, off + i, none⟩ = some (.float .f64 x) := by
        rw [hcell, ← hx.out]
        simp [fvals]
      clear hcell
      have i1 : (i : Int) < (n : Int) := by omega
      have i2 : (0 : Int) ≤ (i : Int) := by omega
      have hst : Hid ((xs.take (i + 1)).foldl g 9221120237041090561 = if (!nanB x && (!t || decide (cmpB x f = z))) then x else f) := by
        show _ = _
        rw [foldl_take g xs _ i hil, hx.out, ← hf.out, hg.out f x hfl.out hxl.out, ht.out, Bool.not_not]
      obtain ⟨nx, hnx⟩ : ∃ a, Hid (nanB x = a) := ⟨_, rfl⟩
      rw [hnx.out] at hst
      go_wp2_with fail
      refine (refNaN_any _ x hxl.out).mono ?_
      rintro e w1 ⟨rfl, rfl⟩
      rw [hnx.out]
      cases nx with
      | true =>
        have hst2 : Hid (f = (xs.take (i + 1)).foldl g 9221120237041090561) := by show _ = _; rw [hst.out]; rfl
        go_wp2_with fail
        go_roundw
        case rel => exact ⟨i + 1, f, t, by omega, by go_num, rfl, rfl, hst2.out, hfl.out, ht.out, by trivial⟩
        case measure => simp [intOf]; omega
      | false =>
        cases t with
        | false =>
          have hst2 : Hid (x = (xs.take (i + 1)).foldl g 9221120237041090561) := by show _ = _; rw [hst.out]; rfl
          have hnx2 : Hid (true = !nanB x) := by show _ = _; rw [hnx.out]; rfl
          go_wp2_with fail
          go_roundw
          case rel => exact ⟨i + 1, x, true, by omega, by go_num, rfl, rfl, hst2.out, hxl.out, hnx2.out, by trivial⟩
          case measure => simp [intOf]; omega
        | true =>
          obtain ⟨c, hc⟩ : ∃ c, Hid (cmpB x f = c) := ⟨_, rfl⟩
          rw [hc.out] at hst
          go_wp2_with fail
          refine (refCompare_any _ x f hxl.out hfl.out).mono ?_
          rintro e w2 ⟨rfl, rfl⟩
          rw [hc.out]
          by_cases hcz : c = z
          · have hst2 : Hid (x = (xs.take (i + 1)).foldl g 9221120237041090561) := by show _ = _; rw [hst.out, decide_eq_true hcz]; rfl
            have hnx2 : Hid (true = !nanB x) := by show _ = _; rw [hnx.out]; rfl
            subst hcz
            go_wp2_with fail
            go_roundw
            case rel => exact ⟨i + 1, x, true, by omega, by go_num, rfl, rfl, hst2.out, hxl.out, hnx2.out, by trivial⟩
            case measure => simp [intOf]; omega
          · have hst2 : Hid (f = (xs.take (i + 1)).foldl g 9221120237041090561) := by show _ = _; rw [hst.out, decide_eq_false hcz]; rfl
            have hbeq : (c == z) = false := by simp; exact hcz
            go_wp2_with fail
            go_roundw
            case rel => exact ⟨i + 1, f, true, by omega, by go_num, rfl, rfl, hst2.out, hfl.out, ht.out, by trivial⟩
            case measure => simp [intOf]; omega
theorem refMin_any (w : World) (v : Value) (xs : List Nat) (hx : Row w v (fvals xs)) (hb : Bs xs) :
    Calls Tryd.prog 34 #[v] w fun e w' => e = .returned (.tuple #[.float .f64 (minB xs), .bool (decide (xs.length ≠ 0))]) ∧ w' = w := by
  obtain ⟨M, hM⟩ : ∃ M, Hid (minB xs = M) := ⟨_, rfl⟩
  obtain ⟨D, hD⟩ : ∃ D, Hid (decide (xs.length ≠ 0) = D) := ⟨_, rfl⟩
  rw [hM.out, hD.out]
  go_enter Tryd.func34, Tryd.ntmps34
  go_wp2_with fail
  refine (first_any _ v xs (-1) minStep hx hb (fun f x h1 h2 => min_is h1 h2)).mono ?_
  rintro e w1 ⟨he, rfl⟩
  rw [hD.out] at he
  have he' : e = .returned (.tuple #[.float .f64 M, .bool D]) := by rw [he, ← hM.out]; rfl
  subst he'
  clear he
  go_wp2
  go_ret2
  exact ⟨rfl, rfl⟩
theorem refMax_any (w : World) (v : Value) (xs : List Nat) (hx : Row w v (fvals xs)) (hb : Bs xs) :
    Calls Tryd.prog 35 #[v] w fun e w' => e = .returned (.tuple #[.float .f64 (maxB xs), .bool (decide (xs.length ≠ 0))]) ∧ w' = w := by
  obtain ⟨M, hM⟩ : ∃ M, Hid (maxB xs = M) := ⟨_, rfl⟩
  obtain ⟨D, hD⟩ : ∃ D, Hid (decide (xs.length ≠ 0) = D) := ⟨_, rfl⟩
  rw [hM.out, hD.out]
  go_enter Tryd.func35, Tryd.ntmps35
  go_wp2_with fail
  refine (first_any _ v xs 1 maxStep hx hb (fun f x _ _ => max_is)).mono ?_
  rintro e w1 ⟨he, rfl⟩
  rw [hD.out] at he
  have he' : e = .returned (.tuple #[.float .f64 M, .bool D]) := by rw [he, ← hM.out]; rfl
  subst he'
  clear he
  go_wp2
  go_ret2
  exact ⟨rfl, rfl⟩
#print axioms refMax_any
end Go.Proofs.YtojohcckaklmpaaDoor.Rl
