/-
  value.Read.
-/
import Derived.Test.YtpfnkkkfekhngaaGreatDoorWf
import Derived.Test.YtpfnkkkfekhngaaGreatDoorVz
namespace Go.Proofs.YtpfnkkkfekhngaaGreatDoor.Va
open Go.RowKit Go.Proofs.YtpfnkkkfekhngaaGreatDoor.Rl
set_option maxRecDepth 100000

theorem readO_bad_is {b : List UInt8} {q : Nat} {e : Int} (h : rdV (2 * b.length + 2) 0 65536 0 b = .bad q e) : readO b = (zeroV, (q : Int), e) := by
  unfold readO
  rw [h]
theorem readO_ok_is {b : List UInt8} {x : Val} {q l : Nat} {s : List UInt8} (h : rdV (2 * b.length + 2) 0 65536 0 b = .ok x q l s) : readO b = (x, (q : Int), 0) := by
  unfold readO
  rw [h]
set_option maxHeartbeats 1000000 in
/-- What Read answers is new. -/
theorem Read_new (w : World) (v : Value) (b : List UInt8) (hv : Sl w v b) (hm : Mx w) : Calls Tryz.prog 28 #[v] w fun e w' => ∃ rv, e = .returned (.tuple #[rv, .int .i64 (readO b).2.1, .int .i64 (readO b).2.2]) ∧ NewV w' w.heap.size w'.heap.size rv (readO b).1 ∧ Below w.heap.size w w' := by
  obtain ⟨ao, c, rfl, h1, h2, h3, h4⟩ := hv
  obtain ⟨V, hV⟩ : ∃ V, Hid (rdV (2 * b.length + 2) 0 65536 0 b = V) := ⟨_, rfl⟩
  have e1 : ∀ A : Obj, (w.alloc A).heap.size = w.heap.size + 1 := fun A => by simp
  obtain ⟨wa, hwa⟩ : ∃ wa, Hid ((w.alloc (.cells #[.int .i64 0, .int .i64 0, .float .f64 0, .string ⟨#[]⟩, .slice none 0 0] 35)).alloc (.cells #[.slice ao b.length c, .int .i64 0, .int .i64 0, .int .i64 65536] 68) = wa) := ⟨_, rfl⟩
  have hBa : Hid (Below w.heap.size w wa) := by rw [← hwa.out]; exact (box_below _ _).alloc (by rw [e1]; omega) _
  have hst : Hid (Rst wa (w.heap.size + 1) (.slice ao b.length c) 0 0 65536) := by
    rw [← hwa.out]
    have := heap_alloc_new (w.alloc (.cells #[.int .i64 0, .int .i64 0, .float .f64 0, .string ⟨#[]⟩, .slice none 0 0] 35)) (.cells #[.slice ao b.length c, .int .i64 0, .int .i64 0, .int .i64 65536] 68)
    rw [e1] at this
    exact this
  have hrc : Hid (wa.heap[w.heap.size]? = some (.cells #[.int .i64 0, .int .i64 0, .float .f64 0, .string ⟨#[]⟩, .slice none 0 0] 35 (0, 0))) := by
    show _ = _
    rw [← hwa.out, Below.heap_alloc _ _ _ (by simp), heap_alloc_new]
  have hcall : Hid (Calls Tryz.prog 40 #[.pointer (some ⟨w.heap.size + 1, 0, none⟩), .int .i64 0] wa (RdRes (w.heap.size + 1) (.slice ao b.length c) wa V)) := by
    have h := read_all (2 * b.length + 2) w wa (w.heap.size + 1) ao b c 0 65536 0 ⟨h4, by omega, hBa.out⟩ h2 h3 hst.out (by omega) (by omega) (by omega) (hm.below hBa.out) (by obtain ⟨m, hm'⟩ := hm; have := lt_of_cell hm'; omega) (by omega)
    rw [List.drop_zero, hV.out] at h
    exact h
  have hsz : Hid (wa.heap.size = w.heap.size + 2) := by show _ = _; rw [← hwa.out]; simp
  have ksf : ∀ (w : World) (a : Addr) (x : Nat) (m : Mode), (store a (.float .f64 x) m).run Tryz.prog w = stored Tryz.prog w a (.float .f64 x) m := fun w a x m => run_store Tryz.prog w a _ m rfl
  obtain ⟨P0, hP0⟩ : ∃ P, Hid ((readO b).2.1 = P) := ⟨_, rfl⟩
  obtain ⟨E0, hE0⟩ : ∃ P, Hid ((readO b).2.2 = P) := ⟨_, rfl⟩
  obtain ⟨X0, hX0⟩ : ∃ P, Hid ((readO b).1 = P) := ⟨_, rfl⟩
  rw [hP0.out, hE0.out, hX0.out]
  have hcells : Hid (∀ q : World, q.heap[w.heap.size]? = some (.cells #[.int .i64 0, .int .i64 0, .float .f64 0, .string ⟨#[]⟩, .slice none 0 0] 35 (0, 0)) → (∀ (j : Nat) (v : Value), #[.int .i64 0, .int .i64 0, .float .f64 0, .string ⟨#[]⟩, .slice none 0 0][j]? = some v → q.cell? ⟨w.heap.size, j, none⟩ = some v) ∧ ∀ j, q.frozen? ⟨w.heap.size, j, none⟩ = false) := fun q hq => ⟨fun j v hv => by
    unfold World.cell?
    simp only [hq]
    exact hv, fun j => by simp [World.frozen?, hq]⟩
  obtain ⟨n, hn⟩ : ∃ n, Hid (b.length = n) := ⟨_, rfl⟩
  rw [hn.out] at hwa hcall ⊢
  clear h1 h2 h3 h4 hm e1 hst
  go_enter Tryz.func28, Tryz.ntmps28
  go_wp2_with fail
  rw [hwa.out]
  refine hcall.out.mono ?_
  rintro e w1 ⟨hb, hres⟩
  have hrc1 : Hid (w1.heap[w.heap.size]? = some (.cells #[.int .i64 0, .int .i64 0, .float .f64 0, .string ⟨#[]⟩, .slice none 0 0] 35 (0, 0))) := (hb.block _ (by have := hsz.out; omega) (by omega)).trans hrc.out
  have hB1 : Hid (Below w.heap.size w w1) := hBa.out.trans (hb.below (by omega) (by have := hsz.out; omega))
  have hs1 : Hid (w.heap.size + 2 ≤ w1.heap.size) := by show _ ≤ _; have := hb.size; have := hsz.out; omega
  obtain ⟨ce, fz⟩ := hcells.out w1 hrc1.out
  have d0 := ce 0 _ rfl
  have d1 := ce 1 _ rfl
  have d2 := ce 2 _ rfl
  have d3 := ce 3 _ rfl
  have d4 := ce 4 _ rfl
  have g0 := fz 0
  have g1 := fz 1
  have g2 := fz 2
  have g3 := fz 3
  have g4 := fz 4
  cases V with
  | bad q er =>
    obtain ⟨rfl, L', hr⟩ := hres
    have hro := readO_bad_is hV.out
    have hP2 : Hid (P0 = (q : Int)) := by show _ = _; rw [← hP0.out, hro]
    have hE2 : Hid (E0 = er) := by show _ = _; rw [← hE0.out, hro]
    have hX2 : Hid (X0 = zeroV) := by show _ = _; rw [← hX0.out, hro]
    obtain ⟨r0, r1, r2, r3⟩ := hr.cells
    clear hro hr hb ce fz
    go_wp2_with fail
    have hrd := hide (put5_reads d0 d1 d2 d3 d4 (.int .i64 0) (.int .i64 0) (.float .f64 0) (.string ⟨#[]⟩) (.slice none 0 0))
    have hfi : Hid (Below w.heap.size w (put5 w1 w.heap.size 0 (.int .i64 0) (.int .i64 0) (.float .f64 0) (.string ⟨#[]⟩) (.slice none 0 0)).drew) := (hB1.out.trans ((put5_block w1 w.heap.size 0 _ _ _ _ _).below (Nat.le_refl _) hB1.out.size)).drew
    go_region
    go_wp2_with fail
    show bodyPost _ _ _ _ _ (put5 w1 w.heap.size 0 (.int .i64 0) (.int .i64 0) (.float .f64 0) (.string ⟨#[]⟩) (.slice none 0 0)).drew
    obtain ⟨w4, hw4⟩ : ∃ w4, Hid (put5 w1 w.heap.size 0 (.int .i64 0) (.int .i64 0) (.float .f64 0) (.string ⟨#[]⟩) (.slice none 0 0) = w4) := ⟨_, rfl⟩
    rw [hw4.out] at hrd hfi ⊢
    have k0 : w4.drew.cell? ⟨w.heap.size, 0, none⟩ = some (.int .i64 0) := hrd.out.1
    have k1 : w4.drew.cell? ⟨w.heap.size, 1, none⟩ = some (.int .i64 0) := hrd.out.2.1
    have k2 : w4.drew.cell? ⟨w.heap.size, 2, none⟩ = some (.float .f64 0) := hrd.out.2.2.1
    have k3 : w4.drew.cell? ⟨w.heap.size, 3, none⟩ = some (.string ⟨#[]⟩) := hrd.out.2.2.2.1
    have k4 : w4.drew.cell? ⟨w.heap.size, 4, none⟩ = some (.slice none 0 0) := hrd.out.2.2.2.2
    obtain ⟨w5, hw5⟩ : ∃ w5, Hid (w4.drew = w5) := ⟨_, rfl⟩
    rw [hw5.out] at k0 k1 k2 k3 k4 hfi ⊢
    refine bodyPost_ret (by simp [results, Tryz.results28, go_sem, k0, k1, k2, k3, k4]; rfl) rfl ?_
    refine ⟨_, by rw [hP2.out, hE2.out], ?_, hfi.out⟩
    rw [hX2.out]
    exact newV_plain _ _ _ 0 0 0 [] (by simp)
  | ok x q lf s =>
    obtain ⟨tv, rfl, ht, hr⟩ := hres
    have hro := readO_ok_is hV.out
    have hP2 : Hid (P0 = (q : Int)) := by show _ = _; rw [← hP0.out, hro]
    have hE2 : Hid (E0 = 0) := by show _ = _; rw [← hE0.out, hro]
    have hX2 : Hid (X0 = x) := by show _ = _; rw [← hX0.out, hro]
    obtain ⟨q1, q2, q3, q4, q5, q6⟩ := read_sound _ _ _ _ _ _ _ _ _ (by omega) hV.out
    obtain ⟨T, u, f, rfl, hme, hen, hpl⟩ := plain_any x _ w1.drew tv 0 q2 (by omega) q1 (ht.below (Below.refl _ _).drew)
    rw [q6, ← hX2.out] at hpl
    replace hpl : Hid (Calls Tryz.prog f [u].toArray w1.drew (Plains w1.drew X0)) := hpl
    obtain ⟨r0, r1, r2, r3⟩ := hr.cells
    have hr' := hide hr
    clear hro hr hb ce fz q1 q2 q3 q4 q5 q6 ht
    have hfact : Hid (∀ V : World, Below w1.heap.size w1 V → V.cell? ⟨w.heap.size + 1, 1, none⟩ = some (.int .i64 (q : Int)) ∧ V.cell? ⟨w.heap.size, 0, none⟩ = some (.int .i64 0) ∧ V.cell? ⟨w.heap.size, 1, none⟩ = some (.int .i64 0) ∧ V.cell? ⟨w.heap.size, 2, none⟩ = some (.float .f64 0) ∧ V.cell? ⟨w.heap.size, 3, none⟩ = some (.string ⟨#[]⟩) ∧ V.cell? ⟨w.heap.size, 4, none⟩ = some (.slice none 0 0) ∧ V.frozen? ⟨w.heap.size, 0, none⟩ = false ∧ V.frozen? ⟨w.heap.size, 1, none⟩ = false ∧ V.frozen? ⟨w.heap.size, 2, none⟩ = false ∧ V.frozen? ⟨w.heap.size, 3, none⟩ = false ∧ V.frozen? ⟨w.heap.size, 4, none⟩ = false) := fun V hV => by
      have hlt : w.heap.size < w1.heap.size := by have := hs1.out; omega
      obtain ⟨ce, fz⟩ := hcells.out V ((hV.block _ hlt).trans hrc1.out)
      exact ⟨(hV.cell (lt_of_cell r1)).trans r1, ce 0 _ rfl, ce 1 _ rfl, ce 2 _ rfl, ce 3 _ rfl, ce 4 _ rfl, fz 0, fz 1, fz 2, fz 3, fz 4⟩
    go_wp2_with fail
    go_region_with (refine hpl.out.mono ?_; rintro e u1 ⟨v1, rfl, N1, B1⟩; obtain ⟨xk, xn, xr, xt, xo, xm, xc, rfl⟩ := N1.cells; obtain ⟨R1, D0, D1, D2, D3, D4, G0, G1, G2, G3, G4⟩ := hfact.out u1 ((Below.refl _ w1).drew.trans B1))
    all_goals
      have hB5 : Hid (Below w1.heap.size w1 u1) := (Below.refl _ w1).drew.trans B1
      have hN5 : Hid (NewV u1 w1.heap.size u1.heap.size (.agg #[.int .i64 xk, .int .i64 xn, .float .f64 xr, .string xt, .slice xo xm xc]) X0) := N1
      have hrd := hide (put5_reads D0 D1 D2 D3 D4 (.int .i64 xk) (.int .i64 xn) (.float .f64 xr) (.string xt) (.slice xo xm xc))
      have hfi : Hid (Below w.heap.size w (put5 u1 w.heap.size 0 (.int .i64 xk) (.int .i64 xn) (.float .f64 xr) (.string xt) (.slice xo xm xc))) := (keepV hB5.out hB1.out).trans ((put5_block u1 w.heap.size 0 _ _ _ _ _).below (Nat.le_refl _) (keepV hB5.out hB1.out).size)
      have hnw : Hid (NewV (put5 u1 w.heap.size 0 (.int .i64 xk) (.int .i64 xn) (.float .f64 xr) (.string xt) (.slice xo xm xc)) w.heap.size (put5 u1 w.heap.size 0 (.int .i64 xk) (.int .i64 xn) (.float .f64 xr) (.string xt) (.slice xo xm xc)).heap.size (.agg #[.int .i64 xk, .int .i64 xn, .float .f64 xr, .string xt, .slice xo xm xc]) X0) := by
        show NewV ..
        rw [put5_size]
        have hl := hs1.out
        exact NewV.wide (by omega) (Nat.le_refl _) (NewV.keep X0 _ _ _ (fun b b1 b2 => (put5_block u1 w.heap.size 0 _ _ _ _ _).block b b2 (by omega)) hN5.out)
      clear N1 B1 R1 D0 D1 D2 D3 D4 G0 G1 G2 G3 G4
      go_wp2_with fail
      show bodyPost _ _ _ _ _ (put5 u1 w.heap.size 0 (.int .i64 xk) (.int .i64 xn) (.float .f64 xr) (.string xt) (.slice xo xm xc))
      obtain ⟨w5, hw5⟩ : ∃ w5, Hid (put5 u1 w.heap.size 0 (.int .i64 xk) (.int .i64 xn) (.float .f64 xr) (.string xt) (.slice xo xm xc) = w5) := ⟨_, rfl⟩
      rw [hw5.out] at hrd hfi hnw ⊢
      obtain ⟨k0, k1, k2, k3, k4⟩ := hrd.out
      refine bodyPost_ret (by simp [results, Tryz.results28, go_sem, k0, k1, k2, k3, k4]; rfl) rfl ?_
      exact ⟨_, by rw [hP2.out, hE2.out], hnw.out, hfi.out⟩
theorem Read_any : DoesRead 28 := fun w v b hm hv => (Read_new w v b hv hm).mono fun _ _ ⟨rv, h1, h2, h3⟩ => ⟨rv, h1, NewV.isV _ _ _ _ h2, h3⟩
#print axioms Read_any
end Go.Proofs.YtpfnkkkfekhngaaGreatDoor.Va
