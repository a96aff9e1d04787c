/-
  What series.Tell and the document's own Tell answer, of at most 4,096 numbers.
-/
import Derived.Test.YtojohcckaklmpaaDoorSt
namespace Go.Proofs.YtojohcckaklmpaaDoor.Sr
open Go.RowKit
open Go.Proofs.YtojohcckaklmpaaDoor.Rl (fvals Bs uvals nanB minB maxB sumB)
set_option maxRecDepth 100000
set_option linter.unusedVariables false

set_option maxHeartbeats 2000000 in
theorem tell_any (w : World) (v : Value) (us : List Nat) (hx : Row w v (fvals us)) (hb : Bs us) (hm : us.length ≤ 4096) :
    Calls Tryd.prog 11 #[v] w fun e w' => e = .returned (.tuple #[tallyV us, .int .i64 0]) ∧ Below w.heap.size w w' := by
  have ksf : ∀ (w : World) (a : Addr) (x : Nat) (m : Mode), (store a (.float .f64 x) m).run Tryd.prog w = stored Tryd.prog w a (.float .f64 x) m := fun w a x m => run_store Tryd.prog w a _ m rfl
  have hx0 : Hid (Row (w.alloc (.cells #[.int .i64 0, .int .i64 0, .float .f64 0, .float .f64 0, .float .f64 0] 32)) v (fvals us)) := Below.row (box_below _ _) hx
  have hB0 : Hid (Below w.heap.size w (w.alloc (.cells #[.int .i64 0, .int .i64 0, .float .f64 0, .float .f64 0, .float .f64 0] 32))) := box_below _ _
  have hh0 : (w.alloc (.cells #[.int .i64 0, .int .i64 0, .float .f64 0, .float .f64 0, .float .f64 0] 32)).heap[w.heap.size]? = some (.cells #[.int .i64 0, .int .i64 0, .float .f64 0, .float .f64 0, .float .f64 0] 32 (0, 0)) := heap_alloc_new _ _
  obtain ⟨ao, cap, rfl, h1, h2, h3, h4⟩ := hx
  have hfl : (fvals us).length = us.length := by simp [fvals]
  obtain ⟨n, hn⟩ : ∃ n, Hid (us.length = n) := ⟨_, rfl⟩
  rw [hfl, hn.out] at hx0
  unfold tallyV
  rw [hfl, hn.out]
  rw [hn.out] at hm
  clear h1 h2 h3 h4 hfl
  obtain ⟨A, hA⟩ : ∃ A, Hid (minB us = A) := ⟨_, rfl⟩
  obtain ⟨C, hC⟩ : ∃ A, Hid (maxB us = A) := ⟨_, rfl⟩
  obtain ⟨D, hD⟩ : ∃ A, Hid (decide (us.length ≠ 0) = A) := ⟨_, rfl⟩
  obtain ⟨S, hS⟩ : ∃ A, Hid (sumB us = A) := ⟨_, rfl⟩
  obtain ⟨N, hN⟩ : ∃ A, Hid (nansB us = A) := ⟨_, rfl⟩
  have hmin : Hid (∀ q : World, Row q (.slice ao n cap) (fvals us) → Calls Tryd.prog 29 #[.slice ao n cap] q fun e w' => e = .returned (.tuple #[.float .f64 A, .bool D]) ∧ w' = q) := fun q hq => by have := Rl.min_any q _ us hq hb; rwa [hA.out, hD.out] at this
  have hmax : Hid (∀ q : World, Row q (.slice ao n cap) (fvals us) → Calls Tryd.prog 30 #[.slice ao n cap] q fun e w' => e = .returned (.tuple #[.float .f64 C, .bool D]) ∧ w' = q) := fun q hq => by have := Rl.max_any q _ us hq hb; rwa [hC.out, hD.out] at this
  have hsum : Hid (∀ q : World, Row q (.slice ao n cap) (fvals us) → Calls Tryd.prog 32 #[.slice ao n cap] q fun e w' => e = .returned (.float .f64 S) ∧ Below q.heap.size q w') := fun q hq => by have := Rl.sum_any q _ us hq hb; rwa [hS.out] at this
  have hcnt : Hid (∀ q : World, Row q (.slice ao n cap) (fvals us) → Calls Tryd.prog 31 #[.slice ao n cap] q fun e w' => e = .returned (.int .i64 (N : Int)) ∧ w' = q) := fun q hq => by have := count_any q _ us hq hb; rwa [hN.out] at this
  rw [hA.out, hC.out, hS.out, hN.out]
  have hnm : ¬ (4096 : Int) < (n : Int) := by omega
  go_enter Tryd.func11, Tryd.ntmps11
  go_wp2_with fail
  generalize w.alloc (.cells #[.int .i64 0, .int .i64 0, .float .f64 0, .float .f64 0, .float .f64 0] 32) = w1 at *
  refine (hmin.out _ hx0.out).mono ?_
  rintro e w2 ⟨rfl, rfl⟩
  go_wp2_with fail
  refine (hmax.out _ hx0.out).mono ?_
  rintro e w2 ⟨rfl, rfl⟩
  go_wp2_with fail
  refine (hcnt.out _ hx0.out).mono ?_
  rintro e w2 ⟨rfl, rfl⟩
  go_wp2_with fail
  refine (hsum.out _ hx0.out).mono ?_
  rintro e w3 ⟨rfl, hb3⟩
  have hh := hb3.block w.heap.size (heap_lt hh0)
  rw [hh0] at hh
  have hB3 : Hid (Below w.heap.size w w3) := hB0.out.trans (hb3.mono hB0.out.size)
  have hcl : ∀ (j : Nat) (v : Value), #[.int .i64 0, .int .i64 0, .float .f64 0, .float .f64 0, .float .f64 0][j]? = some v → w3.cell? ⟨w.heap.size, j, none⟩ = some v := fun j v hv => by
    unfold World.cell?
    simp only [hh]
    exact hv
  have hfz : ∀ j, w3.frozen? ⟨w.heap.size, j, none⟩ = false := fun j => by simp [World.frozen?, hh]
  have c0 := hcl 0 _ rfl
  have c1 := hcl 1 _ rfl
  have c2 := hcl 2 _ rfl
  have c3 := hcl 3 _ rfl
  have c4 := hcl 4 _ rfl
  have f0 := hfz 0
  have f1 := hfz 1
  have f2 := hfz 2
  have f3 := hfz 3
  have f4 := hfz 4
  clear hb3 hh hcl hfz hh0
  have hrd := pt_reads c0 c1 c2 c3 c4 (.int .i64 (n : Int)) (.int .i64 (N : Int)) (.float .f64 A) (.float .f64 C) (.float .f64 S)
  have hfi : Hid (Below w.heap.size w (pt w3 w.heap.size (.int .i64 (n : Int)) (.int .i64 (N : Int)) (.float .f64 A) (.float .f64 C) (.float .f64 S))) := pt_below hB3.out (Nat.le_refl _) _ _ _ _ _
  replace hrd : Hid _ := hrd
  go_wp2_with fail
  show bodyPost _ _ _ _ _ (pt w3 w.heap.size (.int .i64 (n : Int)) (.int .i64 (N : Int)) (.float .f64 A) (.float .f64 C) (.float .f64 S))
  obtain ⟨w5, hw5⟩ : ∃ w5, Hid (pt w3 w.heap.size (.int .i64 (n : Int)) (.int .i64 (N : Int)) (.float .f64 A) (.float .f64 C) (.float .f64 S) = w5) := ⟨_, rfl⟩
  rw [hw5.out] at hrd hfi ⊢
  obtain ⟨k0, k1, k2, k3, k4⟩ := hrd.out
  refine bodyPost_ret (by simp [results, Tryd.results11, go_sem, k0, k1, k2, k3, k4]; rfl) rfl ?_
  exact ⟨rfl, hfi.out⟩
#print axioms tell_any
end Go.Proofs.YtojohcckaklmpaaDoor.Sr
