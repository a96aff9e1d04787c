/-
  value.Copy.
-/
import Derived.Test.YtibmhooaidmdkaaDoorVz
import Derived.Test.YtibmhooaidmdkaaDoorVwB
namespace Go.Proofs.YtibmhooaidmdkaaDoor.Va
open Go.RowKit Go.Proofs.YtibmhooaidmdkaaDoor.Rl
set_option maxRecDepth 100000

theorem put5_ret {w : World} {b : Nat} {k n : Int} {r : Nat} {t : ByteArray} {ao : Option Addr} {m c : Nat} (h : ∃ v0 v1 v2 v3 v4, w.cell? ⟨b, 0, none⟩ = some v0 ∧ w.cell? ⟨b, 1, none⟩ = some v1 ∧ w.cell? ⟨b, 2, none⟩ = some v2 ∧ w.cell? ⟨b, 3, none⟩ = some v3 ∧ w.cell? ⟨b, 4, none⟩ = some v4) :
    (put5 w b 0 (.int .i64 k) (.int .i64 n) (.float .f64 r) (.string t) (.slice ao m c)).cell? ⟨b, 0, none⟩ = some (.int .i64 k) ∧ (put5 w b 0 (.int .i64 k) (.int .i64 n) (.float .f64 r) (.string t) (.slice ao m c)).cell? ⟨b, 1, none⟩ = some (.int .i64 n) ∧ (put5 w b 0 (.int .i64 k) (.int .i64 n) (.float .f64 r) (.string t) (.slice ao m c)).cell? ⟨b, 2, none⟩ = some (.float .f64 r) ∧ (put5 w b 0 (.int .i64 k) (.int .i64 n) (.float .f64 r) (.string t) (.slice ao m c)).cell? ⟨b, 3, none⟩ = some (.string t) ∧ (put5 w b 0 (.int .i64 k) (.int .i64 n) (.float .f64 r) (.string t) (.slice ao m c)).cell? ⟨b, 4, none⟩ = some (.slice ao m c) := by
  obtain ⟨v0, v1, v2, v3, v4, h0, h1, h2, h3, h4⟩ := h
  exact put5_reads h0 h1 h2 h3 h4 _ _ _ _ _
def errC (x : Val) : Int := if mayV x then 0 else 1
set_option maxHeartbeats 2000000 in
/-- What Copy answers is new. -/
theorem Copy_new (w : World) (v : Value) (x : Val) (hv : IsV w v x) (hw : wtV x) : Calls Tryd.prog 14 #[v] w fun e w' => ∃ cv, e = .returned (.tuple #[cv, .int .i64 (errO x)]) ∧ NewV w' w.heap.size w'.heap.size cv (copyO x) ∧ Below w.heap.size w w' := by
  have hc := fun q (hq : Below w.heap.size w q) => thingOf_any q v x (IsV.below hq x v hv)
  have hs := fun (q : World) (tv : Value) (h : mayV x = true) (S : Nat → Prop) (ht : IsT S q tv x) => plain_any x S q tv 0 (may_parts h).1 (may_parts h).2 hw ht
  obtain ⟨k, n, r, t, l⟩ := x
  rw [IsV] at hv
  obtain ⟨ao, cap, rfl, _⟩ := hv
  obtain ⟨X, hX⟩ : ∃ X, Hid (Val.mk k n r t l = X) := ⟨_, rfl⟩
  rw [hX.out] at hc hs ⊢
  replace hc : Hid (∀ q, Below w.heap.size w q → _) := hc
  replace hs : Hid (∀ (q : World) (tv : Value), mayV X = true → ∀ S : Nat → Prop, IsT S q tv X → Disp "flume/value.plain" tv [] q (Plains q (canonV X))) := hs
  obtain ⟨M, hM⟩ : ∃ M, Hid (mayV X = M) := ⟨mayV X, rfl⟩
  obtain ⟨Z, hZ⟩ : ∃ Z, Hid (errO X = Z) := ⟨errO X, rfl⟩
  obtain ⟨K, hK⟩ : ∃ K, Hid (copyO X = K) := ⟨copyO X, rfl⟩
  have hZ2 : Hid (Z = if M then 0 else 1) := by show _ = _; rw [← hZ.out, errO, hM.out]
  have hK2 : Hid (K = if M then canonV X else zeroV) := by show _ = _; rw [← hK.out, copyO, hM.out]
  rw [hZ.out, hK.out]
  have ksf : ∀ (w : World) (a : Addr) (x : Nat) (m : Mode), (store a (.float .f64 x) m).run Tryd.prog w = stored Tryd.prog w a (.float .f64 x) m := fun w a x m => run_store Tryd.prog w a _ m rfl
  obtain ⟨wa, hwa⟩ : ∃ wa, Hid ((w.alloc (.cells #[.int .i64 k, .int .i64 n, .float .f64 r, .string (bstr t), .slice ao l.length cap] 25)).alloc (.cells #[.int .i64 0, .int .i64 0, .float .f64 0, .string ⟨#[]⟩, .slice none 0 0] 25) = wa) := ⟨_, rfl⟩
  have e1 : ∀ A : Obj, (w.alloc A).heap.size = w.heap.size + 1 := fun A => by simp
  have hBa : Hid (Below w.heap.size w wa) := by rw [← hwa.out]; exact (box_below _ _).alloc (by rw [e1]; omega) _
  have hblk : Hid (wa.heap[w.heap.size + 1]? = some (.cells #[.int .i64 0, .int .i64 0, .float .f64 0, .string ⟨#[]⟩, .slice none 0 0] 25 (0, 0))) := by
    rw [← hwa.out]
    have := heap_alloc_new (w.alloc (.cells #[.int .i64 k, .int .i64 n, .float .f64 r, .string (bstr t), .slice ao l.length cap] 25)) (.cells #[.int .i64 0, .int .i64 0, .float .f64 0, .string ⟨#[]⟩, .slice none 0 0] 25)
    rw [e1] at this
    exact this
  have hx : Hid (∀ (j : Nat) (v : Value), #[.int .i64 k, .int .i64 n, .float .f64 r, .string (bstr t), .slice ao l.length cap][j]? = some v → wa.cell? ⟨w.heap.size, j, none⟩ = some v) := fun j v hv => by
    have h1 := box_cell w _ 25 j v hv
    rw [← hwa.out]
    exact ((box_below _ _).cell (lt_of_cell h1)).trans h1
  have x0 := hx.out 0 _ rfl
  have x1 := hx.out 1 _ rfl
  have x2 := hx.out 2 _ rfl
  have x3 := hx.out 3 _ rfl
  have x4 := hx.out 4 _ rfl
  clear hw e1
  go_enter Tryd.func14, Tryd.ntmps14
  go_wp2_with fail
  rw [hwa.out]
  refine (hc.out _ hBa.out).mono ?_
  rintro e w1 ⟨tv, rfl, hno, hyes, hb⟩
  clear x0 x1 x2 x3 x4 hx
  have hB : Hid (Below w.heap.size w w1) := keepV hb hBa.out
  have hb1 : Hid (w1.heap[w.heap.size + 1]? = some (.cells #[.int .i64 0, .int .i64 0, .float .f64 0, .string ⟨#[]⟩, .slice none 0 0] 25 (0, 0))) := (hb.block _ (heap_lt hblk.out)).trans hblk.out
  rw [hM.out] at hno hyes ⊢
  clear hb
  have cells : Hid (∀ q : World, q.heap[w.heap.size + 1]? = some (.cells #[.int .i64 0, .int .i64 0, .float .f64 0, .string ⟨#[]⟩, .slice none 0 0] 25 (0, 0)) → (∀ (j : Nat) (v : Value), #[.int .i64 0, .int .i64 0, .float .f64 0, .string ⟨#[]⟩, .slice none 0 0][j]? = some v → q.cell? ⟨w.heap.size + 1, j, none⟩ = some v) ∧ ∀ j, q.frozen? ⟨w.heap.size + 1, j, none⟩ = false) := fun q hq => ⟨fun j v hv => by
    unfold World.cell?
    simp only [hq]
    exact hv, fun j => by simp [World.frozen?, hq]⟩
  cases M with
  | false =>
    have hZ3 : Hid (Z = 1) := hZ2.out
    have hK3 : Hid (K = zeroV) := hK2.out
    obtain ⟨ce, fz⟩ := cells.out w1 hb1.out
    have c0 := ce 0 _ rfl
    have c1 := ce 1 _ rfl
    have c2 := ce 2 _ rfl
    have c3 := ce 3 _ rfl
    have c4 := ce 4 _ rfl
    have f0 := fz 0
    have f1 := fz 1
    have f2 := fz 2
    have f3 := fz 3
    have f4 := fz 4
    have hrd : Hid _ := put5_reads c0 c1 c2 c3 c4 (.int .i64 0) (.int .i64 0) (.float .f64 0) (.string ⟨#[]⟩) (.slice none 0 0)
    have hfi : Hid (Below w.heap.size w (put5 w1 (w.heap.size + 1) 0 (.int .i64 0) (.int .i64 0) (.float .f64 0) (.string ⟨#[]⟩) (.slice none 0 0))) := hB.out.trans ((put5_block w1 (w.heap.size + 1) 0 _ _ _ _ _).below (by omega) hB.out.size)
    clear hno hyes ce fz
    go_wp2_with fail
    show bodyPost _ _ _ _ _ (put5 w1 (w.heap.size + 1) 0 (.int .i64 0) (.int .i64 0) (.float .f64 0) (.string ⟨#[]⟩) (.slice none 0 0))
    obtain ⟨w5, hw5⟩ : ∃ w5, Hid (put5 w1 (w.heap.size + 1) 0 (.int .i64 0) (.int .i64 0) (.float .f64 0) (.string ⟨#[]⟩) (.slice none 0 0) = w5) := ⟨_, rfl⟩
    rw [hw5.out] at hrd hfi ⊢
    obtain ⟨k0, k1, k2, k3, k4⟩ := hrd.out
    refine bodyPost_ret (by simp [results, Tryd.results14, go_sem, k0, k1, k2, k3, k4]; rfl) rfl ?_
    refine ⟨_, by rw [hZ3.out], ?_, hfi.out⟩
    rw [hK3.out]
    exact newV_plain _ _ _ 0 0 0 [] (by simp)
  | true =>
    have hZ3 : Hid (Z = 0) := hZ2.out
    have hK3 : Hid (K = canonV X) := hK2.out
    obtain ⟨T, u, f, rfl, hme, hen, hcall⟩ := hs.out w1 tv hM.out _ (hyes rfl)
    rw [← hK3.out] at hcall
    replace hcall : Hid (Calls Tryd.prog f [u].toArray w1 (Plains w1 K)) := hcall
    clear hno hyes
    go_wp2_with fail
    refine hcall.out.mono ?_
    rintro e w2 ⟨v2, rfl, hnv, hb⟩
    have hB2 : Hid (Below w.heap.size w w2) := keepV hb hB.out
    have hlt : Hid (w.heap.size + 1 < w1.heap.size) := heap_lt hb1.out
    have hb2 : Hid (w2.heap[w.heap.size + 1]? = some (.cells #[.int .i64 0, .int .i64 0, .float .f64 0, .string ⟨#[]⟩, .slice none 0 0] 25 (0, 0))) := (hb.block _ hlt.out).trans hb1.out
    obtain ⟨xk, xn, xr, xt, xo, xm, xc, rfl⟩ := hnv.cells
    have hnw : Hid (NewV (put5 w2 (w.heap.size + 1) 0 (.int .i64 xk) (.int .i64 xn) (.float .f64 xr) (.string xt) (.slice xo xm xc)) w.heap.size (put5 w2 (w.heap.size + 1) 0 (.int .i64 xk) (.int .i64 xn) (.float .f64 xr) (.string xt) (.slice xo xm xc)).heap.size (.agg #[.int .i64 xk, .int .i64 xn, .float .f64 xr, .string xt, .slice xo xm xc]) K) := by
      show NewV ..
      rw [put5_size]
      have hl := hlt.out
      exact NewV.wide (by omega) (Nat.le_refl _) (NewV.keep K _ _ _ (fun b b1 b2 => (put5_block w2 (w.heap.size + 1) 0 _ _ _ _ _).block b b2 (by omega)) hnv)
    obtain ⟨ce, fz⟩ := cells.out w2 hb2.out
    have c0 := ce 0 _ rfl
    have c1 := ce 1 _ rfl
    have c2 := ce 2 _ rfl
    have c3 := ce 3 _ rfl
    have c4 := ce 4 _ rfl
    have f0 := fz 0
    have f1 := fz 1
    have f2 := fz 2
    have f3 := fz 3
    have f4 := fz 4
    have hrd : Hid _ := put5_reads c0 c1 c2 c3 c4 (.int .i64 xk) (.int .i64 xn) (.float .f64 xr) (.string xt) (.slice xo xm xc)
    have hfi : Hid (Below w.heap.size w (put5 w2 (w.heap.size + 1) 0 (.int .i64 xk) (.int .i64 xn) (.float .f64 xr) (.string xt) (.slice xo xm xc))) := hB2.out.trans ((put5_block w2 (w.heap.size + 1) 0 _ _ _ _ _).below (by omega) hB2.out.size)
    clear hnv hb ce fz
    go_wp2_with fail
    show bodyPost _ _ _ _ _ (put5 w2 (w.heap.size + 1) 0 (.int .i64 xk) (.int .i64 xn) (.float .f64 xr) (.string xt) (.slice xo xm xc))
    obtain ⟨w5, hw5⟩ : ∃ w5, Hid (put5 w2 (w.heap.size + 1) 0 (.int .i64 xk) (.int .i64 xn) (.float .f64 xr) (.string xt) (.slice xo xm xc) = w5) := ⟨_, rfl⟩
    rw [hw5.out] at hrd hfi hnw ⊢
    obtain ⟨k0, k1, k2, k3, k4⟩ := hrd.out
    refine bodyPost_ret (by simp [results, Tryd.results14, go_sem, k0, k1, k2, k3, k4]; rfl) rfl ?_
    exact ⟨_, by rw [hZ3.out], hnw.out, hfi.out⟩
theorem Copy_any : DoesCopy 14 := fun w v x hv hw => (Copy_new w v x hv hw).mono fun _ _ ⟨cv, h1, h2, h3⟩ => ⟨cv, h1, NewV.isV _ _ _ _ h2, h3⟩
#print axioms Copy_any
end Go.Proofs.YtibmhooaidmdkaaDoor.Va
