/-
  The walk of ValueKeys, over what May, Compare and Key answer.
-/
import Derived.Test.YtibmhooaidmdkaaDoorVb
namespace Go.Proofs.YtibmhooaidmdkaaDoor.Va
open Go.RowKit Go.Proofs.YtibmhooaidmdkaaDoor.Rl
set_option maxRecDepth 100000

def keyO (x : Val) : List UInt8 := if mayV x then keyV x else []
def errO (x : Val) : Int := if mayV x then 0 else 1
/-- What Key owes. -/
def DoesKey (f : Nat) : Prop := ∀ (w : World) (v : Value) (x : Val), IsV w v x → wtV x → Calls Tryd.prog f #[v] w fun e w' => ∃ kv, e = .returned (.tuple #[kv, .int .i64 (errO x)]) ∧ Sl w' kv (keyO x) ∧ Below w.heap.size w w'
def Two (w q : World) (xk xn : Int) (xr : Nat) (xt : List UInt8) (xo : Option Addr) (xl : List Val) (xc : Nat) (yk yn : Int) (yr : Nat) (yt : List UInt8) (yo : Option Addr) (yl : List Val) (yc : Nat) : Prop := Below w.heap.size w q ∧ q.cell? ⟨w.heap.size, 0, none⟩ = some (.int .i64 xk) ∧ q.cell? ⟨w.heap.size, 1, none⟩ = some (.int .i64 xn) ∧ q.cell? ⟨w.heap.size, 2, none⟩ = some (.float .f64 xr) ∧ q.cell? ⟨w.heap.size, 3, none⟩ = some (.string (bstr xt)) ∧ q.cell? ⟨w.heap.size, 4, none⟩ = some (.slice xo xl.length xc) ∧ q.cell? ⟨w.heap.size + 1, 0, none⟩ = some (.int .i64 yk) ∧ q.cell? ⟨w.heap.size + 1, 1, none⟩ = some (.int .i64 yn) ∧ q.cell? ⟨w.heap.size + 1, 2, none⟩ = some (.float .f64 yr) ∧ q.cell? ⟨w.heap.size + 1, 3, none⟩ = some (.string (bstr yt)) ∧ q.cell? ⟨w.heap.size + 1, 4, none⟩ = some (.slice yo yl.length yc)
theorem Two.below {w q q' : World} {xk xn : Int} {xr : Nat} {xt : List UInt8} {xo : Option Addr} {xl : List Val} {xc : Nat} {yk yn : Int} {yr : Nat} {yt : List UInt8} {yo : Option Addr} {yl : List Val} {yc : Nat} (h : Two w q xk xn xr xt xo xl xc yk yn yr yt yo yl yc) (hb : Below q.heap.size q q') : Two w q' xk xn xr xt xo xl xc yk yn yr yt yo yl yc := by
  unfold Two at *
  obtain ⟨h0, c0, c1, c2, c3, c4, c5, c6, c7, c8, c9⟩ := h
  exact ⟨h0.trans (hb.mono h0.size), (hb.cell (lt_of_cell c0)).trans c0, (hb.cell (lt_of_cell c1)).trans c1, (hb.cell (lt_of_cell c2)).trans c2, (hb.cell (lt_of_cell c3)).trans c3, (hb.cell (lt_of_cell c4)).trans c4, (hb.cell (lt_of_cell c5)).trans c5, (hb.cell (lt_of_cell c6)).trans c6, (hb.cell (lt_of_cell c7)).trans c7, (hb.cell (lt_of_cell c8)).trans c8, (hb.cell (lt_of_cell c9)).trans c9⟩
theorem may_ok {x : Val} (h : mayV x = true) : okV 0 x = true := by
  unfold mayV at h
  rw [Bool.and_eq_true] at h
  exact h.1
/-- Where two keys part, and what that says. -/
theorem keys_part {x y : Val} (hx : wtV x) (hy : wtV y) (mx : mayV x = true) (my : mayV y = true) :
    ∃ m c, compV x y = c ∧ m ≤ (keyV x).length ∧ m ≤ (keyV y).length ∧ (keyV x).take m = (keyV y).take m ∧
      ((c = 0 ∧ m = (keyV x).length ∧ m = (keyV y).length) ∨ ∃ (h1 : m < (keyV x).length) (h2 : m < (keyV y).length), (c = -1 ∧ (keyV x)[m].toNat < (keyV y)[m].toNat) ∨ (c = 1 ∧ (keyV y)[m].toNat < (keyV x)[m].toNat)) := by
  have hg := goes_val x y 0 0 hx hy (may_ok mx) (may_ok my)
  have hr := (cmpV_two x y).1
  have hc : compV x y = cmpV x y := by unfold compV; rw [mx, my]; rfl
  rcases hr with h | h | h
  · obtain ⟨m, h1, h2, h3, h4⟩ := (hg.lt h).place
    exact ⟨m, -1, hc.trans h, by omega, by omega, h3, Or.inr ⟨h1, h2, Or.inl ⟨rfl, h4⟩⟩⟩
  · have e := hg.eq h
    exact ⟨(keyV x).length, 0, hc.trans h, Nat.le_refl _, by rw [e]; exact Nat.le_refl _, by rw [e], Or.inl ⟨rfl, rfl, by rw [e]⟩⟩
  · obtain ⟨m, h1, h2, h3, h4⟩ := (hg.gt h).place
    exact ⟨m, 1, hc.trans h, by omega, by omega, h3.symm, Or.inr ⟨h2, h1, Or.inr ⟨rfl, h4⟩⟩⟩
set_option maxHeartbeats 4000000 in
theorem keys_walk (hbeg : Does0 7) (hmay : Does1 10 fun x => .bool (mayV x)) (hcmp : Does2 11 fun x y => .int .i64 (compV x y)) (hkey : DoesKey 9)
    (w : World) (vx vy : Value) (x y : Val) (hx : IsV w vx x) (hy : IsV w vy y) (tx : wtV x) (ty : wtV y) (hML : Mx w) :
    Calls Tryd.prog 3 #[vx, vy] w fun e w' => e = .returned (.bool true) ∧ Below w.heap.size w w' := by
  obtain ⟨X, hX⟩ : ∃ X, Hid (x = X) := ⟨_, rfl⟩
  obtain ⟨Y, hY⟩ : ∃ X, Hid (y = X) := ⟨_, rfl⟩
  have h1 := hx
  have h2 := hy
  obtain ⟨xk, xn, xr, xt, xl⟩ := x
  obtain ⟨yk, yn, yr, yt, yl⟩ := y
  rw [IsV] at h1 h2
  obtain ⟨xo, xc, rfl, _⟩ := h1
  obtain ⟨yo, yc, rfl, _⟩ := h2
  have ix : Hid (IsV w (.agg #[.int .i64 xk, .int .i64 xn, .float .f64 xr, .string (bstr xt), .slice xo xl.length xc]) X) := by rw [← hX.out]; exact hx
  have iy : Hid (IsV w (.agg #[.int .i64 yk, .int .i64 yn, .float .f64 yr, .string (bstr yt), .slice yo yl.length yc]) Y) := by rw [← hY.out]; exact hy
  have tx' : Hid (wtV X) := by rw [← hX.out]; exact tx
  have ty' : Hid (wtV Y) := by rw [← hY.out]; exact ty
  clear hx hy tx ty
  replace hML : Hid (Mx w) := hML
  replace hbeg : Hid (Does0 7) := hbeg
  replace hmay : Hid (Does1 10 fun x => .bool (mayV x)) := hmay
  replace hcmp : Hid (Does2 11 fun x y => .int .i64 (compV x y)) := hcmp
  replace hkey : Hid (DoesKey 9) := hkey
  have hT0 : Hid (Two w ((w.alloc (.cells #[.int .i64 xk, .int .i64 xn, .float .f64 xr, .string (bstr xt), .slice xo xl.length xc] 25)).alloc (.cells #[.int .i64 yk, .int .i64 yn, .float .f64 yr, .string (bstr yt), .slice yo yl.length yc] 25)) xk xn xr xt xo xl xc yk yn yr yt yo yl yc) := by
    show Two ..
    unfold Two
    have e1 : ∀ A : Obj, (w.alloc A).heap.size = w.heap.size + 1 := fun A => by simp
    have n0 : ∀ (cs : Array Value) (T : TypeId) (B : Obj) (j : Nat) (v : Value), cs[j]? = some v → ((w.alloc (.cells cs T)).alloc B).cell? ⟨w.heap.size, j, none⟩ = some v := fun cs T B j v hv => by
      have h := box_cell w cs T j v hv
      exact ((box_below (w.alloc (.cells cs T)) B).cell (lt_of_cell h)).trans h
    have n1 : ∀ (A : Obj) (cs : Array Value) (T : TypeId) (j : Nat) (v : Value), cs[j]? = some v → ((w.alloc A).alloc (.cells cs T)).cell? ⟨w.heap.size + 1, j, none⟩ = some v := fun A cs T j v hv => by
      have h := box_cell (w.alloc A) cs T j v hv
      rw [e1] at h
      exact h
    refine ⟨(box_below _ _).alloc (by rw [e1]; omega) _, n0 _ _ _ _ _ rfl, n0 _ _ _ _ _ rfl, n0 _ _ _ _ _ rfl, n0 _ _ _ _ _ rfl, n0 _ _ _ _ _ rfl, n1 _ _ _ _ _ rfl, n1 _ _ _ _ _ rfl, n1 _ _ _ _ _ rfl, n1 _ _ _ _ _ rfl, n1 _ _ _ _ _ rfl⟩
  go_enter Tryd.func3, Tryd.ntmps3
  go_wp2_with fail
  refine (hbeg.out _ (hML.out.below hT0.out.1)).mono ?_
  rintro e w1 ⟨rfl, hb1⟩
  have hT1 : Hid (Two w w1 xk xn xr xt xo xl xc yk yn yr yt yo yl yc) := hT0.out.below hb1
  clear hb1 hT0
  obtain ⟨_, d0, d1, d2, d3, d4, d5, d6, d7, d8, d9⟩ := hT1.out
  go_wp2_with fail
  clear d0 d1 d2 d3 d4 d5 d6 d7 d8 d9
  refine (isLight_any _ _ X (IsV.below (hT1.out.1) _ _ ix.out)).mono ?_
  rintro e w2 ⟨rfl, hb⟩
  have hT2 : Hid (Two w w2 xk xn xr xt xo xl xc yk yn yr yt yo yl yc) := hT1.out.below hb
  obtain ⟨Lx, hLx⟩ : ∃ L, Hid (isLight X = L) := ⟨isLight X, rfl⟩
  rw [hLx.out]
  clear hb hT1
  cases Lx
  case false =>
    go_wp2_with fail
    go_ret
    exact ⟨rfl, hT2.out.1⟩
  obtain ⟨_, d0, d1, d2, d3, d4, d5, d6, d7, d8, d9⟩ := hT2.out
  go_wp2_with fail
  clear d0 d1 d2 d3 d4 d5 d6 d7 d8 d9
  refine (isLight_any _ _ Y (IsV.below (hT2.out.1) _ _ iy.out)).mono ?_
  rintro e w3 ⟨rfl, hb⟩
  have hT3 : Hid (Two w w3 xk xn xr xt xo xl xc yk yn yr yt yo yl yc) := hT2.out.below hb
  obtain ⟨Ly, hLy⟩ : ∃ L, Hid (isLight Y = L) := ⟨isLight Y, rfl⟩
  rw [hLy.out]
  clear hb hT2
  cases Ly
  case false =>
    go_wp2_with fail
    go_ret
    exact ⟨rfl, hT3.out.1⟩
  obtain ⟨_, d0, d1, d2, d3, d4, d5, d6, d7, d8, d9⟩ := hT3.out
  go_wp2_with fail
  clear d0 d1 d2 d3 d4 d5 d6 d7 d8 d9
  refine (hkey.out _ _ X (IsV.below hT3.out.1 _ _ ix.out) tx'.out).mono ?_
  rintro e w4 ⟨kx, rfl, slx, hb⟩
  have hT4 : Hid (Two w w4 xk xn xr xt xo xl xc yk yn yr yt yo yl yc) := hT3.out.below hb
  replace slx : Hid (Sl w4 kx (keyO X)) := slx
  clear hb hT3
  obtain ⟨_, d0, d1, d2, d3, d4, d5, d6, d7, d8, d9⟩ := hT4.out
  go_wp2_with fail
  clear d0 d1 d2 d3 d4 d5 d6 d7 d8 d9
  refine (hkey.out _ _ Y (IsV.below hT4.out.1 _ _ iy.out) ty'.out).mono ?_
  rintro e w5 ⟨ky, rfl, sly, hb⟩
  have hT5 : Hid (Two w w5 xk xn xr xt xo xl xc yk yn yr yt yo yl yc) := hT4.out.below hb
  have slx5 : Hid (Sl w5 kx (keyO X)) := Below.sl hb slx.out
  replace sly : Hid (Sl w5 ky (keyO Y)) := sly
  clear hb hT4 slx
  obtain ⟨mx, hmx⟩ : ∃ m, Hid (mayV X = m) := ⟨mayV X, rfl⟩
  obtain ⟨my, hmy⟩ : ∃ m, Hid (mayV Y = m) := ⟨mayV Y, rfl⟩
  obtain ⟨E1, hE1⟩ : ∃ e, Hid (errO X = e) := ⟨errO X, rfl⟩
  obtain ⟨E2, hE2⟩ : ∃ e, Hid (errO Y = e) := ⟨errO Y, rfl⟩
  rw [hE1.out, hE2.out]
  have f1 : (E1 == 0) = mx := by rw [← hE1.out, errO, hmx.out]; cases mx <;> rfl
  have f2 : (mx != mx) = false := by cases mx <;> rfl
  have f3 : (E1 != 0) = !mx := by rw [← hE1.out, errO, hmx.out]; cases mx <;> rfl
  have g1 : (E2 == 0) = my := by rw [← hE2.out, errO, hmy.out]; cases my <;> rfl
  have g2 : (my != my) = false := by cases my <;> rfl
  have g3 : (E2 != 0) = !my := by rw [← hE2.out, errO, hmy.out]; cases my <;> rfl
  have kmx : Hid (∀ q, Two w q xk xn xr xt xo xl xc yk yn yr yt yo yl yc → Calls Tryd.prog 10 #[(.agg #[.int .i64 xk, .int .i64 xn, .float .f64 xr, .string (bstr xt), .slice xo xl.length xc])] q fun e w' => e = .returned (.bool mx) ∧ Below q.heap.size q w') := fun q h => by
    have t : Calls Tryd.prog 10 #[(.agg #[.int .i64 xk, .int .i64 xn, .float .f64 xr, .string (bstr xt), .slice xo xl.length xc])] q fun e w' => e = .returned (.bool (mayV X)) ∧ Below q.heap.size q w' := hmay.out q _ X (IsV.below h.1 _ _ ix.out) tx'.out
    rw [hmx.out] at t
    exact t
  have kmy : Hid (∀ q, Two w q xk xn xr xt xo xl xc yk yn yr yt yo yl yc → Calls Tryd.prog 10 #[(.agg #[.int .i64 yk, .int .i64 yn, .float .f64 yr, .string (bstr yt), .slice yo yl.length yc])] q fun e w' => e = .returned (.bool my) ∧ Below q.heap.size q w') := fun q h => by
    have t : Calls Tryd.prog 10 #[(.agg #[.int .i64 yk, .int .i64 yn, .float .f64 yr, .string (bstr yt), .slice yo yl.length yc])] q fun e w' => e = .returned (.bool (mayV Y)) ∧ Below q.heap.size q w' := hmay.out q _ Y (IsV.below h.1 _ _ iy.out) ty'.out
    rw [hmy.out] at t
    exact t
  obtain ⟨ax, cx, ekx, _, lx1, lx2, rdx⟩ := slx5.out
  obtain ⟨ay, cy, eky, _, ly1, ly2, rdy⟩ := sly.out
  subst ekx eky
  replace rdx : Hid (Rd w5 ax (keyO X)) := rdx
  replace rdy : Hid (Rd w5 ay (keyO Y)) := rdy
  obtain ⟨nx, hnx⟩ : ∃ n, Hid ((keyO X).length = n) := ⟨_, rfl⟩
  obtain ⟨ny, hny⟩ : ∃ n, Hid ((keyO Y).length = n) := ⟨_, rfl⟩
  rw [hnx.out] at lx1 ⊢
  rw [hny.out] at ly1 ⊢
  have bx : nx ≤ 9223372036854775807 := by unfold maxLen at lx2; omega
  have by' : ny ≤ 9223372036854775807 := by unfold maxLen at ly2; omega
  clear lx1 lx2 ly1 ly2 slx5 sly
  obtain ⟨_, d0, d1, d2, d3, d4, d5, d6, d7, d8, d9⟩ := hT5.out
  go_wp2_with fail
  clear d0 d1 d2 d3 d4 d5 d6 d7 d8 d9
  refine (kmx.out _ hT5.out).mono ?_
  rintro e w6 ⟨rfl, hb⟩
  have hT6 : Hid (Two w w6 xk xn xr xt xo xl xc yk yn yr yt yo yl yc) := hT5.out.below hb
  have rdx6 : Hid (Rd w6 ax (keyO X)) := Below.rd hb rdx.out
  have rdy6 : Hid (Rd w6 ay (keyO Y)) := Below.rd hb rdy.out
  clear hb hT5 rdx rdy
  obtain ⟨_, d0, d1, d2, d3, d4, d5, d6, d7, d8, d9⟩ := hT6.out
  go_wp2_with fail
  clear d0 d1 d2 d3 d4 d5 d6 d7 d8 d9
  refine (kmy.out _ hT6.out).mono ?_
  rintro e w7 ⟨rfl, hb⟩
  have hT7 : Hid (Two w w7 xk xn xr xt xo xl xc yk yn yr yt yo yl yc) := hT6.out.below hb
  have rdx7 : Hid (Rd w7 ax (keyO X)) := Below.rd hb rdx6.out
  have rdy7 : Hid (Rd w7 ay (keyO Y)) := Below.rd hb rdy6.out
  clear hb hT6 rdx6 rdy6
  cases mx
  case false =>
    go_wp2_with fail
    go_ret
    exact ⟨rfl, hT7.out.1⟩
  cases my
  case false =>
    go_wp2_with fail
    go_ret
    exact ⟨rfl, hT7.out.1⟩
  obtain ⟨m, c, hc, m1, m2, hm3, hm4⟩ := keys_part tx'.out ty'.out hmx.out hmy.out
  have kx1 : keyO X = keyV X := by rw [keyO, hmx.out]; rfl
  have ky1 : keyO Y = keyV Y := by rw [keyO, hmy.out]; rfl
  rw [kx1] at hnx rdx7
  rw [ky1] at hny rdy7
  rw [hnx.out] at m1
  rw [hny.out] at m2
  replace hm3 : Hid ((keyV X).take m = (keyV Y).take m) := hm3
  have hm4' : Hid ((c = 0 ∧ m = nx ∧ m = ny) ∨ (m < nx ∧ m < ny ∧ ∃ u v : UInt8, (keyV X)[m]? = some u ∧ (keyV Y)[m]? = some v ∧ ((c = -1 ∧ u.toNat < v.toNat) ∨ (c = 1 ∧ v.toNat < u.toNat)))) := by
    rcases hm4 with ⟨h1, h2, h3⟩ | ⟨h1, h2, h3⟩
    · exact Or.inl ⟨h1, h2.trans hnx.out, h3.trans hny.out⟩
    · exact Or.inr ⟨by rw [← hnx.out]; exact h1, by rw [← hny.out]; exact h2, _, _, List.getElem?_eq_getElem h1, List.getElem?_eq_getElem h2, h3⟩
  clear hm4 kx1 ky1
  replace hc : Hid (compV X Y = c) := hc
  have kc : Hid (∀ q, Two w q xk xn xr xt xo xl xc yk yn yr yt yo yl yc → Calls Tryd.prog 11 #[(.agg #[.int .i64 xk, .int .i64 xn, .float .f64 xr, .string (bstr xt), .slice xo xl.length xc]), (.agg #[.int .i64 yk, .int .i64 yn, .float .f64 yr, .string (bstr yt), .slice yo yl.length yc])] q fun e w' => e = .returned (.int .i64 c) ∧ Below q.heap.size q w') := fun q h => by
    have t : Calls Tryd.prog 11 #[(.agg #[.int .i64 xk, .int .i64 xn, .float .f64 xr, .string (bstr xt), .slice xo xl.length xc]), (.agg #[.int .i64 yk, .int .i64 yn, .float .f64 yr, .string (bstr yt), .slice yo yl.length yc])] q fun e w' => e = .returned (.int .i64 (compV X Y)) ∧ Below q.heap.size q w' := hcmp.out q _ _ X Y (IsV.below h.1 _ _ ix.out) (IsV.below h.1 _ _ iy.out) tx'.out ty'.out
    rw [hc.out] at t
    exact t
  go_wp2_with fail
  go_loopw [9] (fun v9 wr => ∃ i : Nat, i ≤ m ∧ v9 = .int .i64 (i : Int) ∧ Qt w7 wr) (fun v _ => m - (intOf v).toNat)
  case atStart => exact ⟨0, by omega, rfl, ⟨0, rfl⟩⟩
  case round =>
    obtain ⟨i, hi, rfl, hq⟩ := hrel
    replace hq : Hid (Qt w7 wr) := hq
    have rdx8 : Hid (Rd wr ax (keyV X)) := Below.rd (Qt.below hq.out _) rdx7.out
    have rdy8 : Hid (Rd wr ay (keyV Y)) := Below.rd (Qt.below hq.out _) rdy7.out
    have hT8 : Hid (Two w wr xk xn xr xt xo xl xc yk yn yr yt yo yl yc) := hT7.out.below (Qt.below hq.out _)
    by_cases him : i = m
    · subst him
      rcases hm4'.out with ⟨c0, e1, e2⟩ | ⟨l1, l2, u, v, hu, hv, hcc⟩
      · subst c0 e1 e2
        obtain ⟨_, d0, d1, d2, d3, d4, d5, d6, d7, d8, d9⟩ := hT8.out
        go_wp2_with fail
        go_quiet (fail)
        go_wp2_with fail
        clear d0 d1 d2 d3 d4 d5 d6 d7 d8 d9
        refine (kc.out _ (hT8.out.below (Qt.below ⟨nq, rfl⟩ _))).mono ?_
        rintro e w9 ⟨rfl, hb9⟩
        have hT9 : Hid (Two w w9 xk xn xr xt xo xl xc yk yn yr yt yo yl yc) := (hT8.out.below (Qt.below ⟨nq, rfl⟩ _)).below hb9
        clear hb9
        go_wp2_with fail
        go_ret
        exact ⟨rfl, hT9.out.1⟩
      · have i0 : (0 : Int) ≤ (i : Int) := by omega
        have i1 : (i : Int) < (nx : Int) := by omega
        have i2 : (i : Int) < (ny : Int) := by omega
        have q1 : ((i : Int) == (nx : Int)) = false := by simp; omega
        have q2 : ((i : Int) == (ny : Int)) = false := by simp; omega
        have jx : i < (keyV X).length := by have := hnx.out; omega
        have jy : i < (keyV Y).length := by have := hny.out; omega
        rw [List.getElem?_eq_getElem jx] at hu
        rw [List.getElem?_eq_getElem jy] at hv
        simp only [Option.some.injEq] at hu hv
        obtain ⟨b, off, rfl, cx1⟩ := rdx8.out i jx
        obtain ⟨b', off', rfl, cy1⟩ := rdy8.out i jy
        rw [hu] at cx1
        rw [hv] at cy1
        have hne : ((u.toNat : Int) == (v.toNat : Int)) = false := by simp; omega
        have cx' : Hid (wr.cell? ⟨b, off + i, none⟩ = some (.int .u8 (u.toNat : Int))) := cx1
        have cy' : Hid (wr.cell? ⟨b', off' + i, none⟩ = some (.int .u8 (v.toNat : Int))) := cy1
        clear hu hv
        replace l1 : Hid (i < nx) := l1
        replace l2 : Hid (i < ny) := l2
        replace hcc : Hid ((c = -1 ∧ u.toNat < v.toNat) ∨ (c = 1 ∧ v.toNat < u.toNat)) := hcc
        obtain ⟨_, d0, d1, d2, d3, d4, d5, d6, d7, d8, d9⟩ := hT8.out
        go_wp2_with fail
        go_quiet (fail)
        go_wp2_with fail
        clear d0 d1 d2 d3 d4 d5 d6 d7 d8 d9
        refine (kc.out _ (hT8.out.below (Qt.below ⟨nq, rfl⟩ _))).mono ?_
        rintro e w9 ⟨rfl, hb9⟩
        have hqb : Below wr.heap.size wr (wr.drewN nq) := Qt.below ⟨nq, rfl⟩ _
        have hT9 : Hid (Two w w9 xk xn xr xt xo xl xc yk yn yr yt yo yl yc) := (hT8.out.below hqb).below hb9
        have hb10 : Below wr.heap.size wr w9 := hqb.trans (hb9.mono hqb.size)
        have cx9 : w9.cell? ⟨b, off + i, none⟩ = some (.int .u8 (u.toNat : Int)) := (hb10.cell (lt_of_cell cx'.out)).trans cx'.out
        have cy9 : w9.cell? ⟨b', off' + i, none⟩ = some (.int .u8 (v.toNat : Int)) := (hb10.cell (lt_of_cell cy'.out)).trans cy'.out
        clear hb9 hb10 hqb cx1 cy1 hne
        rcases hcc.out with ⟨rfl, hlt⟩ | ⟨rfl, hlt⟩
        · have hdl : (u.toNat : Int) < (v.toNat : Int) := by omega
          go_wp2_with fail
          go_quiet (fail)
          go_wp2_with fail
          go_ret
          exact ⟨rfl, hT9.out.1.trans (Qt.below ⟨nq, rfl⟩ _)⟩
        · have hdl : ¬ (u.toNat : Int) < (v.toNat : Int) := by omega
          go_wp2_with fail
          go_quiet (fail)
          go_wp2_with fail
          go_ret
          exact ⟨rfl, hT9.out.1.trans (Qt.below ⟨nq, rfl⟩ _)⟩
    · have i0 : (0 : Int) ≤ (i : Int) := by omega
      have i1 : (i : Int) < (nx : Int) := by omega
      have i2 : (i : Int) < (ny : Int) := by omega
      have jx : i < (keyV X).length := by have := hnx.out; omega
      have jy : i < (keyV Y).length := by have := hny.out; omega
      obtain ⟨b, off, rfl, cx1⟩ := rdx8.out i jx
      obtain ⟨b', off', rfl, cy1⟩ := rdy8.out i jy
      obtain ⟨u, hu⟩ : ∃ u, Hid ((keyV X)[i] = u) := ⟨(keyV X)[i], rfl⟩
      have hv : (keyV Y)[i] = u := by
        have h1 : ((keyV X).take m)[i]? = ((keyV Y).take m)[i]? := by rw [hm3.out]
        rw [List.getElem?_take_of_lt (by omega), List.getElem?_take_of_lt (by omega), List.getElem?_eq_getElem jx, List.getElem?_eq_getElem jy] at h1
        simp only [Option.some.injEq] at h1
        rw [← h1, hu.out]
      rw [hu.out] at cx1
      rw [hv] at cy1
      replace hv : Hid ((keyV Y)[i] = u) := hv
      go_wp2_with fail
      go_quiet (fail)
      go_wp2_with fail
      go_roundw
      case rel => exact ⟨i + 1, by omega, by go_num, hq.out.trans ⟨nq, rfl⟩⟩
      case measure => simp [intOf]; omega
#print axioms keys_walk
end Go.Proofs.YtibmhooaidmdkaaDoor.Va
