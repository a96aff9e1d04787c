/-
  What series.Tell and the document's own Tell answer.
-/
import Derived.Test.YtojohcckaklmpaaDoorSp
import Derived.Test.YtojohcckaklmpaaDoorRlQ
import Derived.Test.YtojohcckaklmpaaDoorRwF
import Derived.Test.YtojohcckaklmpaaDoorRwS
namespace Go.Proofs.YtojohcckaklmpaaDoor.Sr
open Go.RowKit
open Go.Proofs.YtojohcckaklmpaaDoor.Rl (fvals Bs uvals nanB minB maxB sumB)
set_option maxRecDepth 100000
set_option linter.unusedVariables false

/-- Five cells written. -/
def pt (w : World) (b : Nat) (a0 a1 a2 a3 a4 : Value) : World := ((((w.setCell ⟨b, 0, none⟩ a0).setCell ⟨b, 1, none⟩ a1).setCell ⟨b, 2, none⟩ a2).setCell ⟨b, 3, none⟩ a3).setCell ⟨b, 4, none⟩ a4
theorem pt_below {w w' : World} {base b : Nat} (h : Below base w w') (hb : base ≤ b) (a0 a1 a2 a3 a4 : Value) : Below base w (pt w' b a0 a1 a2 a3 a4) := by
  unfold pt
  exact below_set (below_set (below_set (below_set (below_set h hb _) hb _) hb _) hb _) hb _
theorem pt_reads {w : World} {b : Nat} {v0 v1 v2 v3 v4 : Value} (h0 : w.cell? ⟨b, 0, none⟩ = some v0) (h1 : w.cell? ⟨b, 1, none⟩ = some v1) (h2 : w.cell? ⟨b, 2, none⟩ = some v2) (h3 : w.cell? ⟨b, 3, none⟩ = some v3) (h4 : w.cell? ⟨b, 4, none⟩ = some v4) (a0 a1 a2 a3 a4 : Value) :
    (pt w b a0 a1 a2 a3 a4).cell? ⟨b, 0, none⟩ = some a0 ∧ (pt w b a0 a1 a2 a3 a4).cell? ⟨b, 1, none⟩ = some a1 ∧ (pt w b a0 a1 a2 a3 a4).cell? ⟨b, 2, none⟩ = some a2 ∧ (pt w b a0 a1 a2 a3 a4).cell? ⟨b, 3, none⟩ = some a3 ∧ (pt w b a0 a1 a2 a3 a4).cell? ⟨b, 4, none⟩ = some a4 := by
  have ne : ∀ (u : World) (i j : Nat) (x : Value), i ≠ j → (u.setCell ⟨b, i, none⟩ x).cell? ⟨b, j, none⟩ = u.cell? ⟨b, j, none⟩ := fun u i j x hij => World.cell?_setCell_other _ _ _ _ (fun e => hij (by simpa using e.symm))
  unfold pt
  refine ⟨?_, ?_, ?_, ?_, ?_⟩
  · rw [ne _ _ _ _ (by omega), ne _ _ _ _ (by omega), ne _ _ _ _ (by omega), ne _ _ _ _ (by omega)]
    exact World.cell?_setCell_same _ _ _ h0
  · rw [ne _ _ _ _ (by omega), ne _ _ _ _ (by omega), ne _ _ _ _ (by omega)]
    exact World.cell?_setCell_same _ _ _ ((ne _ _ _ _ (by omega)).trans h1)
  · rw [ne _ _ _ _ (by omega), ne _ _ _ _ (by omega)]
    exact World.cell?_setCell_same _ _ _ ((ne _ _ _ _ (by omega)).trans ((ne _ _ _ _ (by omega)).trans h2))
  · rw [ne _ _ _ _ (by omega)]
    exact World.cell?_setCell_same _ _ _ ((ne _ _ _ _ (by omega)).trans ((ne _ _ _ _ (by omega)).trans ((ne _ _ _ _ (by omega)).trans h3)))
  · exact World.cell?_setCell_same _ _ _ ((ne _ _ _ _ (by omega)).trans ((ne _ _ _ _ (by omega)).trans ((ne _ _ _ _ (by omega)).trans ((ne _ _ _ _ (by omega)).trans h4))))
/-- How many are NaN. -/
def nansB (us : List Nat) : Nat := us.countP nanB
theorem nans_step (us : List Nat) (i : Nat) (h : i < us.length) : nansB (us.take (i + 1)) = nansB (us.take i) + if nanB us[i] then 1 else 0 := by
  unfold nansB
  rw [List.take_succ_eq_append_getElem h, List.countP_append, List.countP_singleton]
theorem nans_le (us : List Nat) : nansB us ≤ us.length := List.countP_le_length
set_option maxHeartbeats 1000000 in
theorem count_any (w : World) (v : Value) (us : List Nat) (hx : Row w v (fvals us)) (hb : Bs us) :
    Calls Tryd.prog 31 #[v] w fun e w' => e = .returned (.int .i64 (nansB us : Int)) ∧ w' = w := by
  obtain ⟨ao, cap, rfl, h1, h2, h3, h4⟩ := hx
  have hfl : (fvals us).length = us.length := by simp [fvals]
  have hat : Hid (At w ao (fvals us)) := h4
  obtain ⟨n, hn⟩ : ∃ n, Hid (us.length = n) := ⟨_, rfl⟩
  have hnm : n ≤ 9223372036854775807 := by rw [← hn.out, ← hfl]; unfold maxLen at h3; omega
  rw [hfl, hn.out]
  clear h1 h2 h3 h4 hfl
  replace hb : Hid (Bs us) := hb
  obtain ⟨N, hN⟩ : ∃ N, Hid (nansB us = N) := ⟨_, rfl⟩
  rw [hN.out]
  go_enter Tryd.func31, Tryd.ntmps31
  go_wp2_with fail
  go_loopw [3, 8] (fun vc vi wr => ∃ i c : Nat, i ≤ n ∧ vi = .int .i64 (i : Int) ∧ vc = .int .i64 (c : Int) ∧ c ≤ i ∧ Hid (nansB (us.take i) = c) ∧ wr = w) (fun _ v _ => n - (intOf v).toNat)
  case atStart => exact ⟨0, 0, by omega, rfl, rfl, by omega, rfl, rfl⟩
  case round =>
    obtain ⟨i, c, hi, rfl, rfl, hci, hc, hwr⟩ := hrel
    subst hwr
    by_cases hin : i = n
    · subst hin
      have hcN : Hid (c = N) := by
        have := hc.out
        rw [List.take_of_length_le (by have := hn.out; omega), hN.out] at this
        exact this.symm
      go_wp2
      go_ret
      exact ⟨ret_int (by rw [hcN.out]), rfl⟩
    · have hil : i < us.length := by have := hn.out; omega
      obtain ⟨x, hx⟩ : ∃ x, Hid (us[i] = x) := ⟨us[i], rfl⟩
      have hx64 : x < 18446744073709551616 := by rw [← hx.out]; exact hb.out _ (List.getElem_mem _)
      obtain ⟨rb, off, rfl, hcell⟩ := hat.out i (by simp [fvals]; omega)
      have hcx : wr.cell? ⟨rb, off + i, none⟩ = some (.float .f64 x) := by
        rw [hcell, ← hx.out]; simp [fvals]
      have i1 : (i : Int) < (n : Int) := by omega
      have i2 : (0 : Int) ≤ (i : Int) := by omega
      have hst := nans_step us i hil
      rw [hx.out, hc.out] at hst
      have hnn : Hid (Calls Tryd.prog 50 #[.float .f64 x] wr fun e w' => e = .returned (.bool (nanB x)) ∧ w' = wr) := Rl.mathIsNaN_any wr x hx64
      clear hcell hx64
      cases hxn : nanB x with
      | true =>
        rw [hxn] at hnn hst
        simp only [if_true] at hst
        replace hst : Hid (nansB (us.take (i + 1)) = c + 1) := hst
        clear hxn
        go_wp2_with fail
        refine hnn.out.mono ?_
        rintro e w2 ⟨rfl, rfl⟩
        go_wp2_with fail
        go_roundw
        case rel => exact ⟨i + 1, c + 1, by omega, by go_num, by go_num, by omega, hst, by trivial⟩
        case measure => simp [intOf]; omega
      | false =>
        rw [hxn] at hnn hst
        simp only [Bool.false_eq_true, if_false, Nat.add_zero] at hst
        replace hst : Hid (nansB (us.take (i + 1)) = c) := hst
        clear hxn
        go_wp2_with fail
        refine hnn.out.mono ?_
        rintro e w2 ⟨rfl, rfl⟩
        go_wp2_with fail
        go_roundw
        case rel => exact ⟨i + 1, c, by omega, by go_num, rfl, by omega, hst, by trivial⟩
        case measure => simp [intOf]; omega
#print axioms count_any
def tallyV (us : List Nat) : Value := .agg #[.int .i64 (us.length : Int), .int .i64 (nansB us : Int), .float .f64 (minB us), .float .f64 (maxB us), .float .f64 (sumB us)]
theorem tell_many (w : World) (v : Value) (us : List Nat) (hx : Row w v (fvals us)) (hm : 4096 < us.length) :
    Calls Tryd.prog 11 #[v] w fun e w' => e = .returned (.tuple #[.agg #[.int .i64 0, .int .i64 0, .float .f64 0, .float .f64 0, .float .f64 0], .int .i64 9]) ∧ Below w.heap.size w w' := by
  have ksf : ∀ (w : World) (a : Addr) (x : Nat) (m : Mode), (store a (.float .f64 x) m).run Tryd.prog w = stored Tryd.prog w a (.float .f64 x) m := fun w a x m => run_store Tryd.prog w a _ m rfl
  obtain ⟨ao, cap, rfl, h1, h2, h3, h4⟩ := hx
  rw [show (fvals us).length = us.length by simp [fvals]]
  clear h1 h2 h4
  have hb := box_below w (.cells #[.int .i64 0, .int .i64 0, .float .f64 0, .float .f64 0, .float .f64 0] 32)
  go_enter Tryd.func11, Tryd.ntmps11
  go_wp2
  go_returns
  exact ⟨rfl, by assumption⟩
#print axioms tell_many
end Go.Proofs.YtojohcckaklmpaaDoor.Sr
