/-
  What series.Tell and the document's own Tell answer.
-/
import Derived.Test.YtojohcckaklmpaaDoorSp
import Derived.Test.YtojohcckaklmpaaDoorRlQ
import Derived.Test.YtojohcckaklmpaaDoorRwF
import Derived.Test.YtojohcckaklmpaaDoorRwS
namespace Go.Proofs.YtojohcckaklmpaaDoor.Sr
open Go.RowKit
open Go.Proofs.YtojohcckaklmpaaDoor.Rl (fvals Bs uvals nanB minB maxB sumB)
set_option maxRecDepth 100000
set_option linter.unusedVariables false

/-- Five cells written. -/
def pt (w : World) (b : Nat) (a0 a1 a2 a3 a4 : Value) : World := ((((w.setCell ⟨b, 0, none⟩ a0).setCell ⟨b, 1, none⟩ a1).setCell ⟨b, 2, none⟩ a2).setCell ⟨b, 3, none⟩ a3).setCell ⟨b, 4, none⟩ a4
theorem pt_below {w w' : World} {base b : Nat} (h : Below base w w') (hb : base ≤ b) (a0 a1 a2 a3 a4 : Value) : Below base w (pt w' b a0 a1 a2 a3 a4) := by
  unfold pt
  exact below_set (below_set (below_set (below_set (below_set h hb _) hb _) hb _) hb _) hb _
theorem pt_reads {w : World} {b : Nat} {v0 v1 v2 v3 v4 : Value} (h0 : w.cell? ⟨b, 0, none⟩ = some v0) (h1 : w.cell? ⟨b, 1, none⟩ = some v1) (h2 : w.cell? ⟨b, 2, none⟩ = some v2) (h3 : w.cell? ⟨b, 3, none⟩ = some v3) (h4 : w.cell? ⟨b, 4, none⟩ = some v4) (a0 a1 a2 a3 a4 : Value) :
    (pt w b a0 a1 a2 a3 a4).cell? ⟨b, 0, none⟩ = some a0 ∧ (pt w b a0 a1 a2 a3 a4).cell? ⟨b, 1, none⟩ = some a1 ∧ (pt w b a0 a1 a2 a3 a4).cell? ⟨b, 2, none⟩ = some a2 ∧ (pt w b a0 a1 a2 a3 a4).cell? ⟨b, 3, none⟩ = some a3 ∧ (pt w b a0 a1 a2 a3 a4).cell? ⟨b, 4, none⟩ = some a4 := by
  have ne : ∀ (u : World) (i j : Nat) (x : Value), i ≠ j → (u.setCell ⟨b, i, none⟩ x).cell? ⟨b, j, none⟩ = u.cell? ⟨b, j, none⟩ := fun u i j x hij => World.cell?_setCell_other _ _ _ _ (fun e => hij (by simpa using e.symm))
  unfold pt
  refine ⟨?_, ?_, ?_, ?_, ?_⟩
  · rw [ne _ _ _ _ (by omega), ne _ _ _ _ (by omega), ne _ _ _ _ (by omega), ne _ _ _ _ (by omega)]
    exact World.cell?_setCell_same _ _ _ h0
  · rw [ne _ _ _ _ (by omega), ne _ _ _ _ (by omega), ne _ _ _ _ (by omega)]
    exact World.cell?_setCell_same _ _ _ ((ne _ _ _ _ (by omega)).trans h1)
  · rw [ne _ _ _ _ (by omega), ne _ _ _ _ (by omega)]
    exact World.cell?_setCell_same _ _ _ ((ne _ _ _ _ (by omega)).trans ((ne _ _ _ _ (by omega)).trans h2))
  · rw [ne _ _ _ _ (by omega)]
    exact World.cell?_setCell_same _ _ _ ((ne _ _ _ _ (by omega)).trans ((ne _ _ _ _ (by omega)).trans ((ne _ _ _ _ (by omega)).trans h3)))
  · exact World.cell?_setCell_same _ _ _ ((ne _ _ _ _ (by omega)).trans ((ne _ _ _ _ (by omega)).trans ((ne _ _ _ _ (by omega)).trans ((ne _ _ _ _ (by omega)).trans h4))))
/-- How many are NaN. -/
def nansB (us : List Nat) : Nat := us.countP nanB
theorem nans_step (us : List Nat) (i : Nat) (h : i < us.length) : nansB (us.take (i + 1)) = nansB (us.take i) + if nanB us[i] then 1 else 0 := by
  unfold nansB
  rw [List.take_succ_eq_append_getElem h, List.countP_append, List.countP_singleton]
theorem nans_le (us : List Nat) : nansB us ≤ us.length := List.countP_le_length
set_option maxHeartbeats 1000000 in
theorem count_any (w : World) (v : Value) (us : List Nat) (hx : Row w v (fvals us)) (hb : Bs us) :
    Calls Tryd.prog 31 #[v] w fun e w' => e = .returned (.int .i64 (nansB us : Int)) ∧ w' = w := by
  obtain ⟨ao, cap, rfl, h1, h2, h3, h4⟩ := hx
  have hfl : (fvals us).length = us.length := by simp [fvals]
  have hat : Hid (At w ao (fvals us)) := h4
  obtain ⟨n, hn⟩ : ∃ n, Hid (us.length = n) := ⟨_, rfl⟩
  have hnm : n ≤ 9223372036854775807 := by rw [← hn.out, ← hfl]; unfold maxLen at h3; omega
  rw [hfl, hn.out]
  clear h1 h2 h3 h4 hfl
  replace hb : Hid (Bs us) := hb
  obtain ⟨N, hN⟩ : ∃ N, Hid (nansB us = N) := ⟨_, rfl⟩
  rw [hN.out]
  go_enter Tryd.func31, Tryd.ntmps31
  go_wp2_with fail
  go_loopw [3, 8] (fun vc vi wr => ∃ i c : Nat, i ≤ n ∧ vi = .int .i64 (i : Int) ∧ vc = .int .i64 (c : Int) ∧ c ≤ i ∧ Hid (nansB (us.take i) = c) ∧ wr = w) (fun _ v _ => n - (intOf v).toNat)
  case atStart => exact ⟨0, 0, by omega, rfl, rfl, by omega, rfl, rfl⟩
  case round =>
    obtain ⟨i, c, hi, rfl, rfl, hci, hc, hwr⟩ := hrel
    subst hwr
    by_cases hin : i = n
    · subst hin
      have hcN : Hid (c = N) := by
        have := hc.out
        rw [List.take_of_length_le (by have := hn.out; omega), hN.out] at this
        exact this.symm
      go_wp2
      go_ret
      exact ⟨ret_int (by rw [hcN.out]), rfl⟩
    · have hil : i < us.length := by have := hn.out; omega
      obtain ⟨x, hx⟩ : ∃ x, Hid (us[i] = x) := ⟨us[i], rfl⟩
      have hx64 : x < 18446744073709551616 := by rw [← hx.out]; exact hb.out _ (List.getElem_mem _)
      obtain ⟨rb, off, rfl, hcell⟩ := hat.out i (by simp [fvals]; omega)
      have hcx : wr.cell? ⟨rb, off + i, none⟩ = some (.float .f64 x) := by
        rw [hcell, ← hx.out]; simp [fvals]
      have i1 : (i : Int) < (n : Int) := by omega
      have i2 : (0 : Int) ≤ (i : Int) := by omega
      have hst := nans_step us i hil
      rw [hx.out, hc.out] at hst
      have hnn : Hid (Calls Tryd.prog 50 #[.float .f64 x] wr fun e w' => e = .returned (.bool (nanB x)) ∧ w' = wr) := Rl.mathIsNaN_any wr x hx64
      clear hcell hx64
      cases hxn : nanB x with
      | true =>
        rw [hxn] at hnn hst
        simp only [if_true] at hst
        replace hst : Hid (nansB (us.take (i + 1)) = c + 1) := hst
        clear hxn
        go_wp2_with fail
        refine hnn.out.mono ?_
        rintro e w2 ⟨rfl, rfl⟩
        go_wp2_with fail
        go_roundw
        case rel => exact ⟨i + 1, c + 1, by omega, by go_num, by go_num, by omega, hst, by trivial⟩
        case measure => simp [intOf]; omega
      | false =>
        rw [hxn] at hnn hst
        simp only [Bool.false_eq_true, if_false, Nat.add_zero] at hst
        replace hst : Hid (nansB (us.take (i + 1)) = c) := hst
        clear hxn
        go_wp2_with fail
        refine hnn.out.mono ?_
        rintro e w2 ⟨rfl, rfl⟩
        go_wp2_with fail
        go_roundw
        case rel => exact ⟨i + 1, c, by omega, by go_num, rfl, by omega, hst, by trivial⟩
        case measure => simp [intOf]; omega
#print axioms count_any
def tallyV (us : List Nat) : Value := .agg #[.int .i64 (us.length : Int), .int .i64 (nansB us : Int), .float .f64 (minB us), .float .f64 (maxB us), .float .f64 (sumB us)]
theorem tell_many (w : World) (v : Value) (us : List Nat) (hx : Row w v (fvals us)) (hm : 4096 < us.length) :
    Calls Tryd.prog 11 #[v] w fun e w' => e = .returned (.tuple #[.agg #[.int .i64 0, .int .i64 0, .float .f64 0, .float .f64 0, .float .f64 0], .int .i64 9]) ∧ Below w.heap.size w w' := by
  have ksf : ∀ (w : World) (a : Addr) (x : Nat) (m : Mode), (store a (.float .f64 x) m).run Tryd.prog w = stored Tryd.prog w a (.float .f64 x) m := fun w a x m => run_store Tryd.prog w a _ m rfl
  obtain ⟨ao, cap, rfl, h1, h2, h3, h4⟩ := hx
  rw [show (fvals us).length = us.length by simp [fvals]]
  clear h1 h2 h4
  have hb := box_below w (.cells #[.int .i64 0, .int .i64 0, .float .f64 0, .float .f64 0, .float .f64 0] 32)
  go_enter Tryd.func11, Tryd.ntmps11
  go_wp2
  go_returns
  exact ⟨rfl, by assumption⟩
#print axioms tell_many
set_option maxHeartbeats 2000000 in
theorem tell_any (w : World) (v : Value) (us : List Nat) (hx : Row w v (fvals us)) (hb : Bs us) (hm : us.length ≤ 4096) :
    Calls Tryd.prog 11 #[v] w fun e w' => e = .returned (.tuple #[tallyV us, .int .i64 0]) ∧ Below w.heap.size w w' := by
  have ksf : ∀ (w : World) (a : Addr) (x : Nat) (m : Mode), (store a (.float .f64 x) m).run Tryd.prog w = stored Tryd.prog w a (.float .f64 x) m := fun w a x m => run_store Tryd.prog w a _ m rfl
  have hx0 : Hid (Row (w.alloc (.cells #[.int .i64 0, .int .i64 0, .float .f64 0, .float .f64 0, .float .f64 0] 32)) v (fvals us)) := Below.row (box_below _ _) hx
  have hB0 : Hid (Below w.heap.size w (w.alloc (.cells #[.int .i64 0, .int .i64 0, .float .f64 0, .float .f64 0, .float .f64 0] 32))) := box_below _ _
  have hh0 : (w.alloc (.cells #[.int .i64 0, .int .i64 0, .float .f64 0, .float .f64 0, .float .f64 0] 32)).heap[w.heap.size]? = some (.cells #[.int .i64 0, .int .i64 0, .float .f64 0, .float .f64 0, .float .f64 0] 32 (0, 0)) := heap_alloc_new _ _
  obtain ⟨ao, cap, rfl, h1, h2, h3, h4⟩ := hx
  have hfl : (fvals us).length = us.length := by simp [fvals]
  obtain ⟨n, hn⟩ : ∃ n, Hid (us.length = n) := ⟨_, rfl⟩
  rw [hfl, hn.out] at hx0
  unfold tallyV
  rw [hfl, hn.out]
  rw [hn.out] at hm
  clear h1 h2 h3 h4 hfl
  obtain ⟨A, hA⟩ : ∃ A, Hid (minB us = A) := ⟨_, rfl⟩
  obtain ⟨C, hC⟩ : ∃ A, Hid (maxB us = A) := ⟨_, rfl⟩
  obtain ⟨D, hD⟩ : ∃ A, Hid (decide (us.length ≠ 0) = A) := ⟨_, rfl⟩
  obtain ⟨S, hS⟩ : ∃ A, Hid (sumB us = A) := ⟨_, rfl⟩
  obtain ⟨N, hN⟩ : ∃ A, Hid (nansB us = A) := ⟨_, rfl⟩
  have hmin : Hid (∀ q : World, Row q (.slice ao n cap) (fvals us) → Calls Tryd.prog 29 #[.slice ao n cap] q fun e w' => e = .returned (.tuple #[.float .f64 A, .bool D]) ∧ w' = q) := fun q hq => by have := Rl.min_any q _ us hq hb; rwa [hA.out, hD.out] at this
  have hmax : Hid (∀ q : World, Row q (.slice ao n cap) (fvals us) → Calls Tryd.prog 30 #[.slice ao n cap] q fun e w' => e = .returned (.tuple #[.float .f64 C, .bool D]) ∧ w' = q) := fun q hq => by have := Rl.max_any q _ us hq hb; rwa [hC.out, hD.out] at this
  have hsum : Hid (∀ q : World, Row q (.slice ao n cap) (fvals us) → Calls Tryd.prog 32 #[.slice ao n cap] q fun e w' => e = .returned (.float .f64 S) ∧ Below q.heap.size q w') := fun q hq => by have := Rl.sum_any q _ us hq hb; rwa [hS.out] at this
  have hcnt : Hid (∀ q : World, Row q (.slice ao n cap) (fvals us) → Calls Tryd.prog 31 #[.slice ao n cap] q fun e w' => e = .returned (.int .i64 (N : Int)) ∧ w' = q) := fun q hq => by have := count_any q _ us hq hb; rwa [hN.out] at this
  rw [hA.out, hC.out, hS.out, hN.out]
  have hnm : ¬ (4096 : Int) < (n : Int) := by omega
  go_enter Tryd.func11, Tryd.ntmps11
  go_wp2_with fail
  generalize w.alloc (.cells #[.int .i64 0, .int .i64 0, .float .f64 0, .float .f64 0, .float .f64 0] 32) = w1 at *
  refine (hmin.out _ hx0.out).mono ?_
  rintro e w2 ⟨rfl, rfl⟩
  go_wp2_with fail
  refine (hmax.out _ hx0.out).mono ?_
  rintro e w2 ⟨rfl, rfl⟩
  go_wp2_with fail
  refine (hcnt.out _ hx0.out).mono ?_
  rintro e w2 ⟨rfl, rfl⟩
  go_wp2_with fail
  refine (hsum.out _ hx0.out).mono ?_
  rintro e w3 ⟨rfl, hb3⟩
  have hh := hb3.block w.heap.size (heap_lt hh0)
  rw [hh0] at hh
  have hB3 : Hid (Below w.heap.size w w3) := hB0.out.trans (hb3.mono hB0.out.size)
  have hcl : ∀ (j : Nat) (v : Value), #[.int .i64 0, .int .i64 0, .float .f64 0, .float .f64 0, .float .f64 0][j]? = some v → w3.cell? ⟨w.heap.size, j, none⟩ = some v := fun j v hv => by
    unfold World.cell?
    simp only [hh]
    exact hv
  have hfz : ∀ j, w3.frozen? ⟨w.heap.size, j, none⟩ = false := fun j => by simp [World.frozen?, hh]
  have c0 := hcl 0 _ rfl
  have c1 := hcl 1 _ rfl
  have c2 := hcl 2 _ rfl
  have c3 := hcl 3 _ rfl
  have c4 := hcl 4 _ rfl
  have f0 := hfz 0
  have f1 := hfz 1
  have f2 := hfz 2
  have f3 := hfz 3
  have f4 := hfz 4
  clear hb3 hh hcl hfz hh0
  have hrd := pt_reads c0 c1 c2 c3 c4 (.int .i64 (n : Int)) (.int .i64 (N : Int)) (.float .f64 A) (.float .f64 C) (.float .f64 S)
  have hfi : Hid (Below w.heap.size w (pt w3 w.heap.size (.int .i64 (n : Int)) (.int .i64 (N : Int)) (.float .f64 A) (.float .f64 C) (.float .f64 S))) := pt_below hB3.out (Nat.le_refl _) _ _ _ _ _
  replace hrd : Hid _ := hrd
  go_wp2_with fail
  show bodyPost _ _ _ _ _ (pt w3 w.heap.size (.int .i64 (n : Int)) (.int .i64 (N : Int)) (.float .f64 A) (.float .f64 C) (.float .f64 S))
  obtain ⟨w5, hw5⟩ : ∃ w5, Hid (pt w3 w.heap.size (.int .i64 (n : Int)) (.int .i64 (N : Int)) (.float .f64 A) (.float .f64 C) (.float .f64 S) = w5) := ⟨_, rfl⟩
  rw [hw5.out] at hrd hfi ⊢
  obtain ⟨k0, k1, k2, k3, k4⟩ := hrd.out
  refine bodyPost_ret (by simp [results, Tryd.results11, go_sem, k0, k1, k2, k3, k4]; rfl) rfl ?_
  exact ⟨rfl, hfi.out⟩
#print axioms tell_any
theorem rtell_many (w : World) (v : Value) (us : List Nat) (hx : Row w v (fvals us)) (hm : 4096 < us.length) :
    Calls Tryd.prog 12 #[v] w fun e w' => e = .returned (.tuple #[.agg #[.int .i64 0, .int .i64 0, .float .f64 0, .float .f64 0, .float .f64 0], .int .i64 9]) ∧ Below w.heap.size w w' := by
  have ksf : ∀ (w : World) (a : Addr) (x : Nat) (m : Mode), (store a (.float .f64 x) m).run Tryd.prog w = stored Tryd.prog w a (.float .f64 x) m := fun w a x m => run_store Tryd.prog w a _ m rfl
  obtain ⟨ao, cap, rfl, h1, h2, h3, h4⟩ := hx
  rw [show (fvals us).length = us.length by simp [fvals]]
  clear h1 h2 h4
  have hb := box_below w (.cells #[.int .i64 0, .int .i64 0, .float .f64 0, .float .f64 0, .float .f64 0] 32)
  go_enter Tryd.func12, Tryd.ntmps12
  go_wp2
  go_returns
  exact ⟨rfl, by assumption⟩
#print axioms rtell_many
/-- Five cells at block b. -/
def Five (w : World) (b : Nat) (a0 a1 a2 a3 a4 : Value) : Prop := w.heap[b]? = some (.cells #[a0, a1, a2, a3, a4] 32 (0, 0))
theorem Five.c {w : World} {b : Nat} {a0 a1 a2 a3 a4 : Value} (h : Five w b a0 a1 a2 a3 a4) : w.cell? ⟨b, 0, none⟩ = some a0 ∧ w.cell? ⟨b, 1, none⟩ = some a1 ∧ w.cell? ⟨b, 2, none⟩ = some a2 ∧ w.cell? ⟨b, 3, none⟩ = some a3 ∧ w.cell? ⟨b, 4, none⟩ = some a4 := by
  unfold Five at h
  refine ⟨?_, ?_, ?_, ?_, ?_⟩ <;> simp [World.cell?, h]
theorem Five.f {w : World} {b : Nat} {a0 a1 a2 a3 a4 : Value} (h : Five w b a0 a1 a2 a3 a4) (j : Nat) : w.frozen? ⟨b, j, none⟩ = false := by
  unfold Five at h
  simp [World.frozen?, h]
theorem Five.set1 {w : World} {b : Nat} {a0 a1 a2 a3 a4 : Value} (h : Five w b a0 a1 a2 a3 a4) (x : Value) : Five (w.setCell ⟨b, 1, none⟩ x) b a0 x a2 a3 a4 := by
  show _ = _
  rw [heap_setCell_same w b 1 _ _ _ h]; simp
theorem Five.set2 {w : World} {b : Nat} {a0 a1 a2 a3 a4 : Value} (h : Five w b a0 a1 a2 a3 a4) (x : Value) : Five (w.setCell ⟨b, 2, none⟩ x) b a0 a1 x a3 a4 := by
  show _ = _
  rw [heap_setCell_same w b 2 _ _ _ h]; simp
theorem Five.set3 {w : World} {b : Nat} {a0 a1 a2 a3 a4 : Value} (h : Five w b a0 a1 a2 a3 a4) (x : Value) : Five (w.setCell ⟨b, 3, none⟩ x) b a0 a1 a2 x a4 := by
  show _ = _
  rw [heap_setCell_same w b 3 _ _ _ h]; simp
theorem Five.set4 {w : World} {b : Nat} {a0 a1 a2 a3 a4 : Value} (h : Five w b a0 a1 a2 a3 a4) (x : Value) : Five (w.setCell ⟨b, 4, none⟩ x) b a0 a1 a2 a3 x := by
  show _ = _
  rw [heap_setCell_same w b 4 _ _ _ h]; simp
theorem Five.other {w : World} {b c : Nat} {a0 a1 a2 a3 a4 : Value} (h : Five w b a0 a1 a2 a3 a4) (hne : b ≠ c) (o : Nat) (x : Value) : Five (w.setCell ⟨c, o, none⟩ x) b a0 a1 a2 a3 a4 := by
  show _ = _
  rw [heap_setCell_other w ⟨c, o, none⟩ b x hne]; exact h
theorem Five.below {w w' : World} {b : Nat} {a0 a1 a2 a3 a4 : Value} (h : Five w b a0 a1 a2 a3 a4) (hb : Below w.heap.size w w') : Five w' b a0 a1 a2 a3 a4 := by
  show _ = _
  rw [hb.block b (heap_lt h)]; exact h
set_option maxHeartbeats 4000000 in
theorem rtell_any (w : World) (v : Value) (us : List Nat) (hx : Row w v (fvals us)) (hb : Bs us) (hm : us.length ≤ 4096) :
    Calls Tryd.prog 12 #[v] w fun e w' => e = .returned (.tuple #[tallyV us, .int .i64 0]) ∧ Below w.heap.size w w' := by
  have ksf : ∀ (w : World) (a : Addr) (x : Nat) (m : Mode), (store a (.float .f64 x) m).run Tryd.prog w = stored Tryd.prog w a (.float .f64 x) m := fun w a x m => run_store Tryd.prog w a _ m rfl
  replace hx : Hid (Row w v (fvals us)) := hx
  obtain ⟨ao, cap, hv, h1, h2, h3, h4⟩ := hx.out
  have hfl : (fvals us).length = us.length := by simp [fvals]
  obtain ⟨n, hn⟩ : ∃ n, Hid (us.length = n) := ⟨_, rfl⟩
  rw [hfl, hn.out] at hv
  subst hv
  unfold tallyV
  rw [hn.out]
  rw [hn.out] at hm
  replace h4 : Hid (At w ao (fvals us)) := h4
  clear h1 h2 h3 hfl
  obtain ⟨A, hA⟩ : ∃ A, Hid (minB us = A) := ⟨_, rfl⟩
  obtain ⟨C, hC⟩ : ∃ A, Hid (maxB us = A) := ⟨_, rfl⟩
  obtain ⟨D, hD⟩ : ∃ A, Hid (decide (us.length ≠ 0) = A) := ⟨_, rfl⟩
  obtain ⟨S, hS⟩ : ∃ A, Hid (sumB us = A) := ⟨_, rfl⟩
  obtain ⟨N, hN⟩ : ∃ A, Hid (nansB us = A) := ⟨_, rfl⟩
  have hmin : Hid (∀ q : World, Row q (.slice ao n cap) (fvals us) → Calls Tryd.prog 34 #[.slice ao n cap] q fun e w' => e = .returned (.tuple #[.float .f64 A, .bool D]) ∧ w' = q) := fun q hq => by have := Rl.refMin_any q _ us hq hb; rwa [hA.out, hD.out] at this
  have hmax : Hid (∀ q : World, Row q (.slice ao n cap) (fvals us) → Calls Tryd.prog 35 #[.slice ao n cap] q fun e w' => e = .returned (.tuple #[.float .f64 C, .bool D]) ∧ w' = q) := fun q hq => by have := Rl.refMax_any q _ us hq hb; rwa [hC.out, hD.out] at this
  have hsum : Hid (∀ q : World, Row q (.slice ao n cap) (fvals us) → Calls Tryd.prog 36 #[.slice ao n cap] q fun e w' => e = .returned (.float .f64 S) ∧ Below q.heap.size q w') := fun q hq => by have := Rl.wsum_any q _ us hq hb; rwa [hS.out] at this
  replace hb : Hid (Bs us) := hb
  rw [hA.out, hC.out, hS.out, hN.out]
  have hnm : ¬ (4096 : Int) < (n : Int) := by omega
  have hdec : decide ((4096 : Int) < (n : Int)) = false := by simp; omega
  obtain ⟨r0, hr0⟩ : ∃ r, Hid (w.heap.size = r) := ⟨_, rfl⟩
  go_enter Tryd.func12, Tryd.ntmps12
  go_wp2_with fail
  (try simp only [hdec])
  have hB1 : Below w.heap.size w ((w.alloc (.cells #[.int .i64 0, .int .i64 0, .float .f64 0, .float .f64 0, .float .f64 0] 32)).alloc (.cells #[.int .i64 (n : Int), .int .i64 0, .float .f64 0, .float .f64 0, .float .f64 0] 32)) := (box_below _ _).alloc (by simp) _
  have hF0 : Five ((w.alloc (.cells #[.int .i64 0, .int .i64 0, .float .f64 0, .float .f64 0, .float .f64 0] 32)).alloc (.cells #[.int .i64 (n : Int), .int .i64 0, .float .f64 0, .float .f64 0, .float .f64 0] 32)) w.heap.size (.int .i64 0) (.int .i64 0) (.float .f64 0) (.float .f64 0) (.float .f64 0) := by
    show _ = _
    rw [heap_alloc_old _ _ (by simp)]; exact heap_alloc_new _ _
  have hF1 : Five ((w.alloc (.cells #[.int .i64 0, .int .i64 0, .float .f64 0, .float .f64 0, .float .f64 0] 32)).alloc (.cells #[.int .i64 (n : Int), .int .i64 0, .float .f64 0, .float .f64 0, .float .f64 0] 32)) (w.heap.size + 1) (.int .i64 (n : Int)) (.int .i64 0) (.float .f64 0) (.float .f64 0) (.float .f64 0) := by
    have := heap_alloc_new (w.alloc (.cells #[.int .i64 0, .int .i64 0, .float .f64 0, .float .f64 0, .float .f64 0] 32)) (.cells #[.int .i64 (n : Int), .int .i64 0, .float .f64 0, .float .f64 0, .float .f64 0] 32)
    rw [World.size_alloc] at this
    exact this
  generalize ((w.alloc (.cells #[.int .i64 0, .int .i64 0, .float .f64 0, .float .f64 0, .float .f64 0] 32)).alloc (.cells #[.int .i64 (n : Int), .int .i64 0, .float .f64 0, .float .f64 0, .float .f64 0] 32)) = w1 at *
  rw [hr0.out] at hF0 hF1 ⊢
  replace hF0 : Hid (Five w1 r0 (.int .i64 0) (.int .i64 0) (.float .f64 0) (.float .f64 0) (.float .f64 0)) := hF0
  replace hF1 : Hid (Five w1 (r0 + 1) (.int .i64 (n : Int)) (.int .i64 0) (.float .f64 0) (.float .f64 0) (.float .f64 0)) := hF1
  replace hB1 : Hid (Below w.heap.size w w1) := hB1
  have hr1 : w.heap.size ≤ r0 + 1 := by have := hr0.out; omega
  have hr2 : w.heap.size ≤ r0 := by have := hr0.out; omega
  go_loopw [5] (fun vi wr => ∃ i c : Nat, i ≤ n ∧ vi = .int .i64 (i : Int) ∧ c ≤ i ∧ Hid (nansB (us.take i) = c) ∧ Hid (Five wr r0 (.int .i64 0) (.int .i64 0) (.float .f64 0) (.float .f64 0) (.float .f64 0)) ∧ Hid (Five wr (r0 + 1) (.int .i64 (n : Int)) (.int .i64 (c : Int)) (.float .f64 0) (.float .f64 0) (.float .f64 0)) ∧ Hid (Below w.heap.size w wr)) (fun v _ => n - (intOf v).toNat)
  case atStart => exact ⟨0, 0, by omega, rfl, by omega, rfl, hF0, hF1, hB1⟩
  case round =>
    clear hF0 hF1 hB1
    obtain ⟨i, c, hi, rfl, hci, hc, hF0, hF1, hB⟩ := hrel
    by_cases hin : i = n
    · subst hin
      have hcN : c = N := by
        have := hc.out
        rw [List.take_of_length_le (by have := hn.out; omega), hN.out] at this
        exact this.symm
      subst hcN
      have hrow : Hid (Row wr (.slice ao i cap) (fvals us)) := Below.row hB.out hx.out
      obtain ⟨_, _, d2, _, _⟩ := hF1.out.c
      have g2 := hF1.out.f 2
      have hFa : Hid (Five (wr.setCell ⟨r0 + 1, 2, none⟩ (.float .f64 A)) (r0 + 1) (.int .i64 (i : Int)) (.int .i64 (c : Int)) (.float .f64 A) (.float .f64 0) (.float .f64 0)) := hF1.out.set2 _
      have hFb : Hid (Five (wr.setCell ⟨r0 + 1, 2, none⟩ (.float .f64 A)) r0 (.int .i64 0) (.int .i64 0) (.float .f64 0) (.float .f64 0) (.float .f64 0)) := hF0.out.other (by omega) _ _
      have hBa : Hid (Below w.heap.size w (wr.setCell ⟨r0 + 1, 2, none⟩ (.float .f64 A))) := below_set hB.out hr1 _
      obtain ⟨w2, hw2⟩ : ∃ w2, w2 = wr.setCell ⟨r0 + 1, 2, none⟩ (.float .f64 A) := ⟨_, rfl⟩
      rw [← hw2] at hFa hFb hBa
      go_wp2_with fail
      refine (hmin.out _ hrow.out).mono ?_
      rintro e wx ⟨rfl, hwx⟩
      subst hwx
      go_wp2_with fail
      rw [← hw2]
      clear hw2 d2 g2 hF0 hF1 hB hrow
      have hrow2 : Hid (Row w2 (.slice ao i cap) (fvals us)) := Below.row hBa.out hx.out
      obtain ⟨_, _, _, d3, _⟩ := hFa.out.c
      have g3 := hFa.out.f 3
      have hFc : Hid (Five (w2.setCell ⟨r0 + 1, 3, none⟩ (.float .f64 C)) (r0 + 1) (.int .i64 (i : Int)) (.int .i64 (c : Int)) (.float .f64 A) (.float .f64 C) (.float .f64 0)) := hFa.out.set3 _
      have hFd : Hid (Five (w2.setCell ⟨r0 + 1, 3, none⟩ (.float .f64 C)) r0 (.int .i64 0) (.int .i64 0) (.float .f64 0) (.float .f64 0) (.float .f64 0)) := hFb.out.other (by omega) _ _
      have hBc : Hid (Below w.heap.size w (w2.setCell ⟨r0 + 1, 3, none⟩ (.float .f64 C))) := below_set hBa.out hr1 _
      obtain ⟨w3, hw3⟩ : ∃ w3, w3 = w2.setCell ⟨r0 + 1, 3, none⟩ (.float .f64 C) := ⟨_, rfl⟩
      rw [← hw3] at hFc hFd hBc
      refine (hmax.out _ hrow2.out).mono ?_
      rintro e wx ⟨rfl, hwx⟩
      subst hwx
      go_wp2_with fail
      rw [← hw3]
      clear hw3 d3 g3 hFa hFb hBa hrow2
      have hrow3 : Hid (Row w3 (.slice ao i cap) (fvals us)) := Below.row hBc.out hx.out
      refine (hsum.out _ hrow3.out).mono ?_
      rintro e w4 ⟨rfl, hb4⟩
      have hFe : Hid (Five w4 (r0 + 1) (.int .i64 (i : Int)) (.int .i64 (c : Int)) (.float .f64 A) (.float .f64 C) (.float .f64 0)) := hFc.out.below hb4
      have hFf : Hid (Five w4 r0 (.int .i64 0) (.int .i64 0) (.float .f64 0) (.float .f64 0) (.float .f64 0)) := hFd.out.below hb4
      have hBe : Hid (Below w.heap.size w w4) := hBc.out.trans (hb4.mono hBc.out.size)
      obtain ⟨d0, d1, d2, d3, d4⟩ := hFe.out.c
      obtain ⟨c0, c1, c2, c3, c4⟩ := hFf.out.c
      have g4 := hFe.out.f 4
      have f0 := hFf.out.f 0
      have f1 := hFf.out.f 1
      have f2 := hFf.out.f 2
      have f3 := hFf.out.f 3
      have f4 := hFf.out.f 4
      have hFh : Five (w4.setCell ⟨r0 + 1, 4, none⟩ (.float .f64 S)) r0 (.int .i64 0) (.int .i64 0) (.float .f64 0) (.float .f64 0) (.float .f64 0) := hFf.out.other (by omega) _ _
      have hBg : Below w.heap.size w (w4.setCell ⟨r0 + 1, 4, none⟩ (.float .f64 S)) := below_set hBe.out hr1 _
      obtain ⟨b0, b1, b2, b3, b4⟩ := hFh.c
      have hrd := pt_reads b0 b1 b2 b3 b4 (.int .i64 (i : Int)) (.int .i64 (c : Int)) (.float .f64 A) (.float .f64 C) (.float .f64 S)
      have hfi : Hid (Below w.heap.size w (pt (w4.setCell ⟨r0 + 1, 4, none⟩ (.float .f64 S)) r0 (.int .i64 (i : Int)) (.int .i64 (c : Int)) (.float .f64 A) (.float .f64 C) (.float .f64 S))) := pt_below hBg hr2 _ _ _ _ _
      replace hrd : Hid _ := hrd
      clear hb4 hFe hFf hBe hFc hFd hBc hrow3 b0 b1 b2 b3 b4 hFh hBg hmin hmax hsum
      go_wp2_with fail
      show bodyPost _ _ _ _ _ (pt (w4.setCell ⟨r0 + 1, 4, none⟩ (.float .f64 S)) r0 (.int .i64 (i : Int)) (.int .i64 (c : Int)) (.float .f64 A) (.float .f64 C) (.float .f64 S))
      obtain ⟨w5, hw5⟩ : ∃ w5, Hid ((pt (w4.setCell ⟨r0 + 1, 4, none⟩ (.float .f64 S)) r0 (.int .i64 (i : Int)) (.int .i64 (c : Int)) (.float .f64 A) (.float .f64 C) (.float .f64 S)) = w5) := ⟨_, rfl⟩
      rw [hw5.out] at hrd hfi ⊢
      obtain ⟨k0, k1, k2, k3, k4⟩ := hrd.out
      refine bodyPost_ret (by simp [results, Tryd.results12, go_sem, k0, k1, k2, k3, k4]; rfl) rfl ?_
      exact ⟨rfl, hfi.out⟩
    · have hil : i < us.length := by have := hn.out; omega
      obtain ⟨x, hx1⟩ : ∃ x, Hid (us[i] = x) := ⟨us[i], rfl⟩
      have hx64 : x < 18446744073709551616 := by rw [← hx1.out]; exact hb.out _ (List.getElem_mem _)
      obtain ⟨rb, off, rfl, hcell⟩ := h4.out i (by simp [fvals]; omega)
      have hcx : wr.cell? ⟨rb, off + i, none⟩ = some (.float .f64 x) := by
        rw [hB.out.cell (p := ⟨rb, off + i, none⟩) (lt_of_cell hcell), hcell, ← hx1.out]; simp [fvals]
      have i1 : (i : Int) < (n : Int) := by omega
      have i2 : (0 : Int) ≤ (i : Int) := by omega
      have hst := nans_step us i hil
      rw [hx1.out, hc.out] at hst
      have hnn : Hid (Calls Tryd.prog 33 #[.float .f64 x] wr fun e w' => e = .returned (.bool (nanB x)) ∧ w' = wr) := Rl.refNaN_any wr x hx64
      clear hcell hx64
      cases hxn : nanB x with
      | true =>
        rw [hxn] at hnn hst
        simp only [if_true] at hst
        replace hst : Hid (nansB (us.take (i + 1)) = c + 1) := hst
        obtain ⟨_, d1, _, _, _⟩ := hF1.out.c
        have g1 := hF1.out.f 1
        have hFa : Hid (Five (wr.setCell ⟨r0 + 1, 1, none⟩ (.int .i64 ((c : Int) + 1))) (r0 + 1) (.int .i64 (n : Int)) (.int .i64 ((c + 1 : Nat) : Int)) (.float .f64 0) (.float .f64 0) (.float .f64 0)) := hF1.out.set1 _
        have hFb : Hid (Five (wr.setCell ⟨r0 + 1, 1, none⟩ (.int .i64 ((c : Int) + 1))) r0 (.int .i64 0) (.int .i64 0) (.float .f64 0) (.float .f64 0) (.float .f64 0)) := hF0.out.other (by omega) _ _
        have hBa : Hid (Below w.heap.size w (wr.setCell ⟨r0 + 1, 1, none⟩ (.int .i64 ((c : Int) + 1)))) := below_set hB.out hr1 _
        obtain ⟨w2, hw2⟩ : ∃ w2, w2 = wr.setCell ⟨r0 + 1, 1, none⟩ (.int .i64 ((c : Int) + 1)) := ⟨_, rfl⟩
        rw [← hw2] at hFa hFb hBa
        clear hxn hF0 hF1 hB
        go_wp2_with fail
        refine hnn.out.mono ?_
        rintro e wx ⟨rfl, hwx⟩
        subst hwx
        go_wp2_with fail
        go_roundw
        case rel =>
          rw [← hw2]
          exact ⟨i + 1, c + 1, by omega, by go_num, by omega, hst, hFb, hFa, hBa⟩
        case measure => simp [intOf]; omega
      | false =>
        rw [hxn] at hnn hst
        simp only [Bool.false_eq_true, if_false, Nat.add_zero] at hst
        replace hst : Hid (nansB (us.take (i + 1)) = c) := hst
        clear hxn
        go_wp2_with fail
        refine hnn.out.mono ?_
        rintro e wx ⟨rfl, hwx⟩
        subst hwx
        go_wp2_with fail
        go_roundw
        case rel => exact ⟨i + 1, c, by omega, by go_num, by omega, hst, hF0, hF1, hB⟩
        case measure => simp [intOf]; omega
#print axioms rtell_any
end Go.Proofs.YtojohcckaklmpaaDoor.Sr
