/-
  The walk of ValueOrder, over what May, Compare and Same answer.
-/
import Derived.Test.YtibmhooaidmdkaaDoorVb
namespace Go.Proofs.YtibmhooaidmdkaaDoor.Va
open Go.RowKit Go.Proofs.YtibmhooaidmdkaaDoor.Rl
set_option maxRecDepth 100000


/-- The boxes of three values, in a world behind w. -/
def Three (w q : World) (xk xn : Int) (xr : Nat) (xt : List UInt8) (xo : Option Addr) (xl : List Val) (xc : Nat) (yk yn : Int) (yr : Nat) (yt : List UInt8) (yo : Option Addr) (yl : List Val) (yc : Nat) (zk zn : Int) (zr : Nat) (zt : List UInt8) (zo : Option Addr) (zl : List Val) (zc : Nat) : Prop := Below w.heap.size w q ∧ w.heap.size + 2 < q.heap.size ∧ q.cell? ⟨w.heap.size, 0, none⟩ = some (.int .i64 xk) ∧ q.cell? ⟨w.heap.size, 1, none⟩ = some (.int .i64 xn) ∧ q.cell? ⟨w.heap.size, 2, none⟩ = some (.float .f64 xr) ∧ q.cell? ⟨w.heap.size, 3, none⟩ = some (.string (bstr xt)) ∧ q.cell? ⟨w.heap.size, 4, none⟩ = some (.slice xo xl.length xc) ∧ q.cell? ⟨w.heap.size + 1, 0, none⟩ = some (.int .i64 yk) ∧ q.cell? ⟨w.heap.size + 1, 1, none⟩ = some (.int .i64 yn) ∧ q.cell? ⟨w.heap.size + 1, 2, none⟩ = some (.float .f64 yr) ∧ q.cell? ⟨w.heap.size + 1, 3, none⟩ = some (.string (bstr yt)) ∧ q.cell? ⟨w.heap.size + 1, 4, none⟩ = some (.slice yo yl.length yc) ∧ q.cell? ⟨w.heap.size + 2, 0, none⟩ = some (.int .i64 zk) ∧ q.cell? ⟨w.heap.size + 2, 1, none⟩ = some (.int .i64 zn) ∧ q.cell? ⟨w.heap.size + 2, 2, none⟩ = some (.float .f64 zr) ∧ q.cell? ⟨w.heap.size + 2, 3, none⟩ = some (.string (bstr zt)) ∧ q.cell? ⟨w.heap.size + 2, 4, none⟩ = some (.slice zo zl.length zc)
theorem Three.below {w q q' : World} {xk xn : Int} {xr : Nat} {xt : List UInt8} {xo : Option Addr} {xl : List Val} {xc : Nat} {yk yn : Int} {yr : Nat} {yt : List UInt8} {yo : Option Addr} {yl : List Val} {yc : Nat} {zk zn : Int} {zr : Nat} {zt : List UInt8} {zo : Option Addr} {zl : List Val} {zc : Nat} (h : Three w q xk xn xr xt xo xl xc yk yn yr yt yo yl yc zk zn zr zt zo zl zc) (hb : Below q.heap.size q q') : Three w q' xk xn xr xt xo xl xc yk yn yr yt yo yl yc zk zn zr zt zo zl zc := by
  unfold Three at *
  obtain ⟨h0, hs, c0, c1, c2, c3, c4, c5, c6, c7, c8, c9, c10, c11, c12, c13, c14⟩ := h
  exact ⟨h0.trans (hb.mono h0.size), Nat.lt_of_lt_of_le hs hb.size, (hb.cell (lt_of_cell c0)).trans c0, (hb.cell (lt_of_cell c1)).trans c1, (hb.cell (lt_of_cell c2)).trans c2, (hb.cell (lt_of_cell c3)).trans c3, (hb.cell (lt_of_cell c4)).trans c4, (hb.cell (lt_of_cell c5)).trans c5, (hb.cell (lt_of_cell c6)).trans c6, (hb.cell (lt_of_cell c7)).trans c7, (hb.cell (lt_of_cell c8)).trans c8, (hb.cell (lt_of_cell c9)).trans c9, (hb.cell (lt_of_cell c10)).trans c10, (hb.cell (lt_of_cell c11)).trans c11, (hb.cell (lt_of_cell c12)).trans c12, (hb.cell (lt_of_cell c13)).trans c13, (hb.cell (lt_of_cell c14)).trans c14⟩
set_option maxHeartbeats 4000000 in
theorem order_walk (hbeg : Does0 7) (hmay : Does1 10 fun x => .bool (mayV x)) (hcmp : Does2 11 fun x y => .int .i64 (compV x y)) (hsame : Does2 12 fun x y => .bool (sameV x y))
    (w : World) (vx vy vz : Value) (x y z : Val) (hx : IsV w vx x) (hy : IsV w vy y) (hz : IsV w vz z) (tx : wtV x) (ty : wtV y) (tz : wtV z) (hML : Mx w) :
    Calls Tryd.prog 4 #[vx, vy, vz] w fun e w' => e = .returned (.bool true) ∧ Below w.heap.size w w' := by
  replace hML : Hid (Mx w) := hML
  obtain ⟨X, hX⟩ : ∃ X, Hid (x = X) := ⟨_, rfl⟩
  obtain ⟨Y, hY⟩ : ∃ X, Hid (y = X) := ⟨_, rfl⟩
  obtain ⟨Z, hZ⟩ : ∃ X, Hid (z = X) := ⟨_, rfl⟩
  have h1 := hx
  have h2 := hy
  have h3 := hz
  obtain ⟨xk, xn, xr, xt, xl⟩ := x
  obtain ⟨yk, yn, yr, yt, yl⟩ := y
  obtain ⟨zk, zn, zr, zt, zl⟩ := z
  rw [IsV] at h1 h2 h3
  obtain ⟨xo, xc, rfl, _⟩ := h1
  obtain ⟨yo, yc, rfl, _⟩ := h2
  obtain ⟨zo, zc, rfl, _⟩ := h3
  have ix : Hid (IsV w (.agg #[.int .i64 xk, .int .i64 xn, .float .f64 xr, .string (bstr xt), .slice xo xl.length xc]) X) := by rw [← hX.out]; exact hx
  have tx' : Hid (wtV X) := by rw [← hX.out]; exact tx
  have iy : Hid (IsV w (.agg #[.int .i64 yk, .int .i64 yn, .float .f64 yr, .string (bstr yt), .slice yo yl.length yc]) Y) := by rw [← hY.out]; exact hy
  have ty' : Hid (wtV Y) := by rw [← hY.out]; exact ty
  have iz : Hid (IsV w (.agg #[.int .i64 zk, .int .i64 zn, .float .f64 zr, .string (bstr zt), .slice zo zl.length zc]) Z) := by rw [← hZ.out]; exact hz
  have tz' : Hid (wtV Z) := by rw [← hZ.out]; exact tz
  clear hx hy hz tx ty tz
  replace hbeg : Hid (Does0 7) := hbeg
  replace hmay : Hid (Does1 10 fun x => .bool (mayV x)) := hmay
  replace hcmp : Hid (Does2 11 fun x y => .int .i64 (compV x y)) := hcmp
  replace hsame : Hid (Does2 12 fun x y => .bool (sameV x y)) := hsame
  have hT0 : Hid (Three w (((w.alloc (.cells #[.int .i64 xk, .int .i64 xn, .float .f64 xr, .string (bstr xt), .slice xo xl.length xc] 25)).alloc (.cells #[.int .i64 yk, .int .i64 yn, .float .f64 yr, .string (bstr yt), .slice yo yl.length yc] 25)).alloc (.cells #[.int .i64 zk, .int .i64 zn, .float .f64 zr, .string (bstr zt), .slice zo zl.length zc] 25)) xk xn xr xt xo xl xc yk yn yr yt yo yl yc zk zn zr zt zo zl zc) := by
    show Three ..
    unfold Three
    have e1 : ∀ A : Obj, (w.alloc A).heap.size = w.heap.size + 1 := fun A => by simp
    have e2 : ∀ A B : Obj, ((w.alloc A).alloc B).heap.size = w.heap.size + 2 := fun A B => by simp
    have n0 : ∀ (cs : Array Value) (T : TypeId) (B C : Obj) (j : Nat) (v : Value), cs[j]? = some v → (((w.alloc (.cells cs T)).alloc B).alloc C).cell? ⟨w.heap.size, j, none⟩ = some v := fun cs T B C j v hv => by
      have h := box_cell w cs T j v hv
      have h' := ((box_below (w.alloc (.cells cs T)) B).cell (lt_of_cell h)).trans h
      exact ((box_below ((w.alloc (.cells cs T)).alloc B) C).cell (lt_of_cell h')).trans h'
    have n1 : ∀ (A : Obj) (cs : Array Value) (T : TypeId) (C : Obj) (j : Nat) (v : Value), cs[j]? = some v → (((w.alloc A).alloc (.cells cs T)).alloc C).cell? ⟨w.heap.size + 1, j, none⟩ = some v := fun A cs T C j v hv => by
      have h := box_cell (w.alloc A) cs T j v hv
      rw [e1] at h
      exact ((box_below ((w.alloc A).alloc (.cells cs T)) C).cell (lt_of_cell h)).trans h
    have n2 : ∀ (A B : Obj) (cs : Array Value) (T : TypeId) (j : Nat) (v : Value), cs[j]? = some v → (((w.alloc A).alloc B).alloc (.cells cs T)).cell? ⟨w.heap.size + 2, j, none⟩ = some v := fun A B cs T j v hv => by
      have h := box_cell ((w.alloc A).alloc B) cs T j v hv
      rw [e2] at h
      exact h
    refine ⟨((box_below _ _).alloc (by rw [e1]; omega) _).alloc (by rw [e2]; omega) _, by simp, n0 _ _ _ _ _ _ rfl, n0 _ _ _ _ _ _ rfl, n0 _ _ _ _ _ _ rfl, n0 _ _ _ _ _ _ rfl, n0 _ _ _ _ _ _ rfl, n1 _ _ _ _ _ _ rfl, n1 _ _ _ _ _ _ rfl, n1 _ _ _ _ _ _ rfl, n1 _ _ _ _ _ _ rfl, n1 _ _ _ _ _ _ rfl, n2 _ _ _ _ _ _ rfl, n2 _ _ _ _ _ _ rfl, n2 _ _ _ _ _ _ rfl, n2 _ _ _ _ _ _ rfl, n2 _ _ _ _ _ _ rfl⟩
  go_enter Tryd.func4, Tryd.ntmps4
  go_wp2_with fail
  refine (hbeg.out _ (hML.out.below hT0.out.1)).mono ?_
  rintro e w1 ⟨rfl, hb1⟩
  have hT1 : Hid (Three w w1 xk xn xr xt xo xl xc yk yn yr yt yo yl yc zk zn zr zt zo zl zc) := hT0.out.below hb1
  clear hb1 hT0
  obtain ⟨_, _, d0, d1, d2, d3, d4, d5, d6, d7, d8, d9, d10, d11, d12, d13, d14⟩ := hT1.out
  go_wp2_with fail
  clear d0 d1 d2 d3 d4 d5 d6 d7 d8 d9 d10 d11 d12 d13 d14
  refine (isLight_any _ _ X (IsV.below (hT1.out.1) _ _ ix.out)).mono ?_
  rintro e w2 ⟨rfl, hb⟩
  have hT2 : Hid (Three w w2 xk xn xr xt xo xl xc yk yn yr yt yo yl yc zk zn zr zt zo zl zc) := hT1.out.below hb
  obtain ⟨Lx, hLx⟩ : ∃ L, Hid (isLight X = L) := ⟨isLight X, rfl⟩
  rw [hLx.out]
  clear hb hT1
  cases Lx
  case false =>
    go_wp2_with fail
    go_ret
    exact ⟨rfl, hT2.out.1⟩
  obtain ⟨_, _, d0, d1, d2, d3, d4, d5, d6, d7, d8, d9, d10, d11, d12, d13, d14⟩ := hT2.out
  go_wp2_with fail
  clear d0 d1 d2 d3 d4 d5 d6 d7 d8 d9 d10 d11 d12 d13 d14
  refine (isLight_any _ _ Y (IsV.below (hT2.out.1) _ _ iy.out)).mono ?_
  rintro e w3 ⟨rfl, hb⟩
  have hT3 : Hid (Three w w3 xk xn xr xt xo xl xc yk yn yr yt yo yl yc zk zn zr zt zo zl zc) := hT2.out.below hb
  obtain ⟨Ly, hLy⟩ : ∃ L, Hid (isLight Y = L) := ⟨isLight Y, rfl⟩
  rw [hLy.out]
  clear hb hT2
  cases Ly
  case false =>
    go_wp2_with fail
    go_ret
    exact ⟨rfl, hT3.out.1⟩
  obtain ⟨_, _, d0, d1, d2, d3, d4, d5, d6, d7, d8, d9, d10, d11, d12, d13, d14⟩ := hT3.out
  go_wp2_with fail
  clear d0 d1 d2 d3 d4 d5 d6 d7 d8 d9 d10 d11 d12 d13 d14
  refine (isLight_any _ _ Z (IsV.below (hT3.out.1) _ _ iz.out)).mono ?_
  rintro e w4 ⟨rfl, hb⟩
  have hT4 : Hid (Three w w4 xk xn xr xt xo xl xc yk yn yr yt yo yl yc zk zn zr zt zo zl zc) := hT3.out.below hb
  obtain ⟨Lz, hLz⟩ : ∃ L, Hid (isLight Z = L) := ⟨isLight Z, rfl⟩
  rw [hLz.out]
  clear hb hT3
  cases Lz
  case false =>
    go_wp2_with fail
    go_ret
    exact ⟨rfl, hT4.out.1⟩
  obtain ⟨a, ha⟩ : ∃ c, Hid (compV X Y = c) := ⟨compV X Y, rfl⟩
  obtain ⟨b, hb⟩ : ∃ c, Hid (compV Y Z = c) := ⟨compV Y Z, rfl⟩
  obtain ⟨c, hc⟩ : ∃ c, Hid (compV X Z = c) := ⟨compV X Z, rfl⟩
  have ord := compV_ord X Y Z
  have slf := compV_self X
  obtain ⟨d, hd⟩ : ∃ c, Hid (compV Y X = c) := ⟨compV Y X, rfl⟩
  rw [ha.out, hb.out, hc.out, hd.out] at ord
  replace ord : Hid (Ord3 a d b c) := ord
  have ka : Hid (∀ q, Three w q xk xn xr xt xo xl xc yk yn yr yt yo yl yc zk zn zr zt zo zl zc → Calls Tryd.prog 11 #[(.agg #[.int .i64 xk, .int .i64 xn, .float .f64 xr, .string (bstr xt), .slice xo xl.length xc]), (.agg #[.int .i64 yk, .int .i64 yn, .float .f64 yr, .string (bstr yt), .slice yo yl.length yc])] q fun e w' => e = .returned (.int .i64 a) ∧ Below q.heap.size q w') := fun q h => by
    have t : Calls Tryd.prog 11 #[(.agg #[.int .i64 xk, .int .i64 xn, .float .f64 xr, .string (bstr xt), .slice xo xl.length xc]), (.agg #[.int .i64 yk, .int .i64 yn, .float .f64 yr, .string (bstr yt), .slice yo yl.length yc])] q fun e w' => e = .returned (.int .i64 (compV X Y)) ∧ Below q.heap.size q w' := hcmp.out q _ _ X Y (IsV.below h.1 _ _ ix.out) (IsV.below h.1 _ _ iy.out) tx'.out ty'.out
    rw [ha.out] at t
    exact t
  have kb : Hid (∀ q, Three w q xk xn xr xt xo xl xc yk yn yr yt yo yl yc zk zn zr zt zo zl zc → Calls Tryd.prog 11 #[(.agg #[.int .i64 yk, .int .i64 yn, .float .f64 yr, .string (bstr yt), .slice yo yl.length yc]), (.agg #[.int .i64 zk, .int .i64 zn, .float .f64 zr, .string (bstr zt), .slice zo zl.length zc])] q fun e w' => e = .returned (.int .i64 b) ∧ Below q.heap.size q w') := fun q h => by
    have t : Calls Tryd.prog 11 #[(.agg #[.int .i64 yk, .int .i64 yn, .float .f64 yr, .string (bstr yt), .slice yo yl.length yc]), (.agg #[.int .i64 zk, .int .i64 zn, .float .f64 zr, .string (bstr zt), .slice zo zl.length zc])] q fun e w' => e = .returned (.int .i64 (compV Y Z)) ∧ Below q.heap.size q w' := hcmp.out q _ _ Y Z (IsV.below h.1 _ _ iy.out) (IsV.below h.1 _ _ iz.out) ty'.out tz'.out
    rw [hb.out] at t
    exact t
  have kc : Hid (∀ q, Three w q xk xn xr xt xo xl xc yk yn yr yt yo yl yc zk zn zr zt zo zl zc → Calls Tryd.prog 11 #[(.agg #[.int .i64 xk, .int .i64 xn, .float .f64 xr, .string (bstr xt), .slice xo xl.length xc]), (.agg #[.int .i64 zk, .int .i64 zn, .float .f64 zr, .string (bstr zt), .slice zo zl.length zc])] q fun e w' => e = .returned (.int .i64 c) ∧ Below q.heap.size q w') := fun q h => by
    have t : Calls Tryd.prog 11 #[(.agg #[.int .i64 xk, .int .i64 xn, .float .f64 xr, .string (bstr xt), .slice xo xl.length xc]), (.agg #[.int .i64 zk, .int .i64 zn, .float .f64 zr, .string (bstr zt), .slice zo zl.length zc])] q fun e w' => e = .returned (.int .i64 (compV X Z)) ∧ Below q.heap.size q w' := hcmp.out q _ _ X Z (IsV.below h.1 _ _ ix.out) (IsV.below h.1 _ _ iz.out) tx'.out tz'.out
    rw [hc.out] at t
    exact t
  have KS : Hid (∀ q q' : World, Three w q xk xn xr xt xo xl xc yk yn yr yt yo yl yc zk zn zr zt zo zl zc → Below q.heap.size q q' → Below w.heap.size w q' ∧ w.heap.size + 2 < q'.heap.size ∧ q'.cell? ⟨w.heap.size, 0, none⟩ = some (.int .i64 xk) ∧ q'.cell? ⟨w.heap.size, 1, none⟩ = some (.int .i64 xn) ∧ q'.cell? ⟨w.heap.size, 2, none⟩ = some (.float .f64 xr) ∧ q'.cell? ⟨w.heap.size, 3, none⟩ = some (.string (bstr xt)) ∧ q'.cell? ⟨w.heap.size, 4, none⟩ = some (.slice xo xl.length xc) ∧ q'.cell? ⟨w.heap.size + 1, 0, none⟩ = some (.int .i64 yk) ∧ q'.cell? ⟨w.heap.size + 1, 1, none⟩ = some (.int .i64 yn) ∧ q'.cell? ⟨w.heap.size + 1, 2, none⟩ = some (.float .f64 yr) ∧ q'.cell? ⟨w.heap.size + 1, 3, none⟩ = some (.string (bstr yt)) ∧ q'.cell? ⟨w.heap.size + 1, 4, none⟩ = some (.slice yo yl.length yc) ∧ q'.cell? ⟨w.heap.size + 2, 0, none⟩ = some (.int .i64 zk) ∧ q'.cell? ⟨w.heap.size + 2, 1, none⟩ = some (.int .i64 zn) ∧ q'.cell? ⟨w.heap.size + 2, 2, none⟩ = some (.float .f64 zr) ∧ q'.cell? ⟨w.heap.size + 2, 3, none⟩ = some (.string (bstr zt)) ∧ q'.cell? ⟨w.heap.size + 2, 4, none⟩ = some (.slice zo zl.length zc)) := fun q q' h hb => h.below hb
  have hS0 := KS.out w4 w4.drew hT4.out (Below.refl _ _).drew
  obtain ⟨_, _, d0, d1, d2, d3, d4, d5, d6, d7, d8, d9, d10, d11, d12, d13, d14⟩ := hT4.out
  go_wp2_with fail
  clear d0 d1 d2 d3 d4 d5 d6 d7 d8 d9 d10 d11 d12 d13 d14
  go_region_held3 (fun q => Below w.heap.size w q ∧ w.heap.size + 2 < q.heap.size ∧ q.cell? ⟨w.heap.size, 0, none⟩ = some (.int .i64 xk) ∧ q.cell? ⟨w.heap.size, 1, none⟩ = some (.int .i64 xn) ∧ q.cell? ⟨w.heap.size, 2, none⟩ = some (.float .f64 xr) ∧ q.cell? ⟨w.heap.size, 3, none⟩ = some (.string (bstr xt)) ∧ q.cell? ⟨w.heap.size, 4, none⟩ = some (.slice xo xl.length xc) ∧ q.cell? ⟨w.heap.size + 1, 0, none⟩ = some (.int .i64 yk) ∧ q.cell? ⟨w.heap.size + 1, 1, none⟩ = some (.int .i64 yn) ∧ q.cell? ⟨w.heap.size + 1, 2, none⟩ = some (.float .f64 yr) ∧ q.cell? ⟨w.heap.size + 1, 3, none⟩ = some (.string (bstr yt)) ∧ q.cell? ⟨w.heap.size + 1, 4, none⟩ = some (.slice yo yl.length yc) ∧ q.cell? ⟨w.heap.size + 2, 0, none⟩ = some (.int .i64 zk) ∧ q.cell? ⟨w.heap.size + 2, 1, none⟩ = some (.int .i64 zn) ∧ q.cell? ⟨w.heap.size + 2, 2, none⟩ = some (.float .f64 zr) ∧ q.cell? ⟨w.heap.size + 2, 3, none⟩ = some (.string (bstr zt)) ∧ q.cell? ⟨w.heap.size + 2, 4, none⟩ = some (.slice zo zl.length zc))
    (first | exact hS0 | assumption | exact KS.out _ _ (by assumption) (by assumption))
    (first
      | (go_at_call_of 11 (Value.agg #[Value.int IntKind.i64 xk, Value.int IntKind.i64 xn, Value.float FloatKind.f64 xr, Value.string (bstr xt), Value.slice xo xl.length xc]); go_at_call_of 11 (Value.agg #[Value.int IntKind.i64 yk, Value.int IntKind.i64 yn, Value.float FloatKind.f64 yr, Value.string (bstr yt), Value.slice yo yl.length yc]); refine (ka.out _ (by assumption)).mono ?_; rintro e u1 ⟨rfl, B1⟩)
      | (go_at_call_of 11 (Value.agg #[Value.int IntKind.i64 yk, Value.int IntKind.i64 yn, Value.float FloatKind.f64 yr, Value.string (bstr yt), Value.slice yo yl.length yc]); refine (kb.out _ (by assumption)).mono ?_; rintro e u2 ⟨rfl, B2⟩)
      | (go_at_call 11; refine (kc.out _ (by assumption)).mono ?_; rintro e u3 ⟨rfl, B3⟩))
  have hT5 : Hid (Three w u3 xk xn xr xt xo xl xc yk yn yr yt yo yl yc zk zn zr zt zo zl zc) := by assumption
  clear hS0 B1 B2 B3 hT4 ka kb kc
  have kd : Hid (∀ q, Three w q xk xn xr xt xo xl xc yk yn yr yt yo yl yc zk zn zr zt zo zl zc → Calls Tryd.prog 11 #[(.agg #[.int .i64 yk, .int .i64 yn, .float .f64 yr, .string (bstr yt), .slice yo yl.length yc]), (.agg #[.int .i64 xk, .int .i64 xn, .float .f64 xr, .string (bstr xt), .slice xo xl.length xc])] q fun e w' => e = .returned (.int .i64 d) ∧ Below q.heap.size q w') := fun q h => by
    have t : Calls Tryd.prog 11 #[(.agg #[.int .i64 yk, .int .i64 yn, .float .f64 yr, .string (bstr yt), .slice yo yl.length yc]), (.agg #[.int .i64 xk, .int .i64 xn, .float .f64 xr, .string (bstr xt), .slice xo xl.length xc])] q fun e w' => e = .returned (.int .i64 (compV Y X)) ∧ Below q.heap.size q w' := hcmp.out q _ _ Y X (IsV.below h.1 _ _ iy.out) (IsV.below h.1 _ _ ix.out) ty'.out tx'.out
    rw [hd.out] at t
    exact t
  have ke : Hid (∀ q, Three w q xk xn xr xt xo xl xc yk yn yr yt yo yl yc zk zn zr zt zo zl zc → Calls Tryd.prog 11 #[(.agg #[.int .i64 xk, .int .i64 xn, .float .f64 xr, .string (bstr xt), .slice xo xl.length xc]), (.agg #[.int .i64 xk, .int .i64 xn, .float .f64 xr, .string (bstr xt), .slice xo xl.length xc])] q fun e w' => e = .returned (.int .i64 0) ∧ Below q.heap.size q w') := fun q h => by
    have t : Calls Tryd.prog 11 #[(.agg #[.int .i64 xk, .int .i64 xn, .float .f64 xr, .string (bstr xt), .slice xo xl.length xc]), (.agg #[.int .i64 xk, .int .i64 xn, .float .f64 xr, .string (bstr xt), .slice xo xl.length xc])] q fun e w' => e = .returned (.int .i64 (compV X X)) ∧ Below q.heap.size q w' := hcmp.out q _ _ X X (IsV.below h.1 _ _ ix.out) (IsV.below h.1 _ _ ix.out) tx'.out tx'.out
    rw [slf] at t
    exact t
  have ord2 := compV_ord Z Y X
  have rb := (compV_ord Y Z X).rng
  have rc := (compV_ord X Z Y).rng
  have ab := (compV_ord Y Z X).anti
  have ac := (compV_ord X Z Y).anti
  rw [hb.out] at rb ab
  rw [hc.out] at rc ac
  have tr1 := ord.out.trans
  have tr2 := ord2.trans
  rw [ab, ac, hd.out] at tr2
  have ra := ord.out.rng
  have da := ord.out.anti
  clear ab ac ord2 slf
  have hall : Hid ((a = -1 ∨ a = 0 ∨ a = 1) ∧ (b = -1 ∨ b = 0 ∨ b = 1) ∧ (c = -1 ∨ c = 0 ∨ c = 1) ∧ d = -a ∧ (a ≤ 0 → b ≤ 0 → c ≤ 0) ∧ (a = 0 → b = 0 → c = 0)) := ⟨ra, rb, rc, da, fun h1 h2 => (tr1 h1 h2).1, fun h1 h2 => by
    have h3 := (tr1 (by omega) (by omega)).1
    have h4 := (tr2 (by omega) (by omega)).1
    omega⟩
  clear tr1 tr2 ra rb rc da
  go_upto_region 6 with fail
  go_cut [69] from 10 (fun s wx => s = .bool false ∧ Hid (Three w wx xk xn xr xt xo xl xc yk yn yr yt yo yl yc zk zn zr zt zo zl zc))
  case first =>
    obtain ⟨ra, rb, rc, rfl, t1, t2⟩ := hall.out
    obtain ⟨_, _, d0, d1, d2, d3, d4, d5, d6, d7, d8, d9, d10, d11, d12, d13, d14⟩ := hT5.out
    have fin : Hid (∀ q, Three w q xk xn xr xt xo xl xc yk yn yr yt yo yl yc zk zn zr zt zo zl zc → Three w q xk xn xr xt xo xl xc yk yn yr yt yo yl yc zk zn zr zt zo zl zc) := fun _ h => h
    rcases ra with rfl | rfl | rfl <;> rcases rb with rfl | rfl | rfl <;> rcases rc with rfl | rfl | rfl
    all_goals first
      | (exfalso; omega)
      | (clear t1 t2
         go_wp2_with fail
         refine (kd.out _ hT5.out).mono ?_
         rintro e u4 ⟨rfl, B4⟩
         have hT6 : Hid (Three w u4 xk xn xr xt xo xl xc yk yn yr yt yo yl yc zk zn zr zt zo zl zc) := hT5.out.below B4
         clear d0 d1 d2 d3 d4 d5 d6 d7 d8 d9 d10 d11 d12 d13 d14 B4
         obtain ⟨_, _, d0, d1, d2, d3, d4, d5, d6, d7, d8, d9, d10, d11, d12, d13, d14⟩ := hT6.out
         go_wp2_with fail
         refine (ke.out _ hT6.out).mono ?_
         rintro e u5 ⟨rfl, B5⟩
         have hT7 : Hid (Three w u5 xk xn xr xt xo xl xc yk yn yr yt yo yl yc zk zn zr zt zo zl zc) := hT6.out.below B5
         clear d0 d1 d2 d3 d4 d5 d6 d7 d8 d9 d10 d11 d12 d13 d14 B5
         go_wp2_with fail
         go_meet
         exact ⟨rfl, hT7.out⟩)
  case rest =>
    obtain ⟨rfl, hT8⟩ := hcut
    obtain ⟨mx, hmx⟩ : ∃ m, Hid (mayV X = m) := ⟨mayV X, rfl⟩
    obtain ⟨my, hmy⟩ : ∃ m, Hid (mayV Y = m) := ⟨mayV Y, rfl⟩
    obtain ⟨sm, hsm⟩ : ∃ m, Hid (sameV X Y = m) := ⟨sameV X Y, rfl⟩
    have hsm2 : Hid (sm = (mx && my && decide (a = 0))) := by
      show _ = _
      rw [← hsm.out, ← hmx.out, ← hmy.out, ← ha.out]
      unfold sameV compV
      cases mayV X <;> cases mayV Y <;> simp
    have hBw : Hid (Below w.heap.size w wc) := hT8.out.1
    have ks : Hid (∀ q, Below wc.heap.size wc q → Calls Tryd.prog 12 #[(.agg #[.int .i64 xk, .int .i64 xn, .float .f64 xr, .string (bstr xt), .slice xo xl.length xc]), (.agg #[.int .i64 yk, .int .i64 yn, .float .f64 yr, .string (bstr yt), .slice yo yl.length yc])] q fun e w' => e = .returned (.bool sm) ∧ Below q.heap.size q w') := fun q h => by
      have h1 := keepV h hBw.out
      have t : Calls Tryd.prog 12 #[(.agg #[.int .i64 xk, .int .i64 xn, .float .f64 xr, .string (bstr xt), .slice xo xl.length xc]), (.agg #[.int .i64 yk, .int .i64 yn, .float .f64 yr, .string (bstr yt), .slice yo yl.length yc])] q fun e w' => e = .returned (.bool (sameV X Y)) ∧ Below q.heap.size q w' := hsame.out q _ _ X Y (IsV.below h1 _ _ ix.out) (IsV.below h1 _ _ iy.out) tx'.out ty'.out
      rw [hsm.out] at t
      exact t
    have kmx : Hid (∀ q, Below wc.heap.size wc q → Calls Tryd.prog 10 #[(.agg #[.int .i64 xk, .int .i64 xn, .float .f64 xr, .string (bstr xt), .slice xo xl.length xc])] q fun e w' => e = .returned (.bool mx) ∧ Below q.heap.size q w') := fun q h => by
      have t : Calls Tryd.prog 10 #[(.agg #[.int .i64 xk, .int .i64 xn, .float .f64 xr, .string (bstr xt), .slice xo xl.length xc])] q fun e w' => e = .returned (.bool (mayV X)) ∧ Below q.heap.size q w' := hmay.out q _ X (IsV.below (keepV h hBw.out) _ _ ix.out) tx'.out
      rw [hmx.out] at t
      exact t
    have kmy : Hid (∀ q, Below wc.heap.size wc q → Calls Tryd.prog 10 #[(.agg #[.int .i64 yk, .int .i64 yn, .float .f64 yr, .string (bstr yt), .slice yo yl.length yc])] q fun e w' => e = .returned (.bool my) ∧ Below q.heap.size q w') := fun q h => by
      have t : Calls Tryd.prog 10 #[(.agg #[.int .i64 yk, .int .i64 yn, .float .f64 yr, .string (bstr yt), .slice yo yl.length yc])] q fun e w' => e = .returned (.bool (mayV Y)) ∧ Below q.heap.size q w' := hmay.out q _ Y (IsV.below (keepV h hBw.out) _ _ iy.out) ty'.out
      rw [hmy.out] at t
      exact t
    have KS8 : Hid (∀ q : World, Below wc.heap.size wc q → Below wc.heap.size wc q ∧ q.cell? ⟨w.heap.size, 0, none⟩ = some (.int .i64 xk) ∧ q.cell? ⟨w.heap.size, 1, none⟩ = some (.int .i64 xn) ∧ q.cell? ⟨w.heap.size, 2, none⟩ = some (.float .f64 xr) ∧ q.cell? ⟨w.heap.size, 3, none⟩ = some (.string (bstr xt)) ∧ q.cell? ⟨w.heap.size, 4, none⟩ = some (.slice xo xl.length xc) ∧ q.cell? ⟨w.heap.size + 1, 0, none⟩ = some (.int .i64 yk) ∧ q.cell? ⟨w.heap.size + 1, 1, none⟩ = some (.int .i64 yn) ∧ q.cell? ⟨w.heap.size + 1, 2, none⟩ = some (.float .f64 yr) ∧ q.cell? ⟨w.heap.size + 1, 3, none⟩ = some (.string (bstr yt)) ∧ q.cell? ⟨w.heap.size + 1, 4, none⟩ = some (.slice yo yl.length yc)) := fun q hb => by
      obtain ⟨_, _, d0, d1, d2, d3, d4, d5, d6, d7, d8, d9, d10, d11, d12, d13, d14⟩ := hT8.out
      exact ⟨hb, (hb.cell (lt_of_cell d0)).trans d0, (hb.cell (lt_of_cell d1)).trans d1, (hb.cell (lt_of_cell d2)).trans d2, (hb.cell (lt_of_cell d3)).trans d3, (hb.cell (lt_of_cell d4)).trans d4, (hb.cell (lt_of_cell d5)).trans d5, (hb.cell (lt_of_cell d6)).trans d6, (hb.cell (lt_of_cell d7)).trans d7, (hb.cell (lt_of_cell d8)).trans d8, (hb.cell (lt_of_cell d9)).trans d9⟩
    have hS1 := KS8.out wc.drew (Below.refl _ _).drew
    obtain ⟨_, _, d0, d1, d2, d3, d4, d5, d6, d7, d8, d9, d10, d11, d12, d13, d14⟩ := hT8.out
    clear kd ke hT5 hall KS d10 d11 d12 d13 d14
    cases mx
    case false =>
      obtain rfl : sm = false := hsm2.out
      go_wp2_with fail
      first
        | (go_region_with (first | (go_at_call 12; refine (ks.out _ (by first | exact And.left hS1 | exact And.left (by assumption))).mono ?_; rintro e v1 ⟨rfl, B1⟩; have h9 := KS8.out _ (keepV B1 (by first | exact And.left hS1 | exact And.left (by assumption))); have h8 := h9; obtain ⟨_, f0, f1, f2, f3, f4, f5, f6, f7, f8, f9⟩ := h8) | (go_at_call 10; refine (kmx.out _ (by first | exact And.left hS1 | exact And.left (by assumption))).mono ?_; rintro e v2 ⟨rfl, B2⟩; have h9 := KS8.out _ (keepV B2 (by first | exact And.left hS1 | exact And.left (by assumption))); have h8 := h9; obtain ⟨_, f0, f1, f2, f3, f4, f5, f6, f7, f8, f9⟩ := h8)))
        | fail
      all_goals go_wp2_with fail
      all_goals go_ret
      all_goals exact ⟨by first | rfl | simp, keepV (And.left (by assumption)) hBw.out⟩
    cases my
    case false =>
      obtain rfl : sm = false := hsm2.out
      go_wp2_with fail
      clear d0 d1 d2 d3 d4 d5 d6 d7 d8 d9
      first
        | (go_region_held (fun q => Below wc.heap.size wc q ∧ q.cell? ⟨w.heap.size, 0, none⟩ = some (.int .i64 xk) ∧ q.cell? ⟨w.heap.size, 1, none⟩ = some (.int .i64 xn) ∧ q.cell? ⟨w.heap.size, 2, none⟩ = some (.float .f64 xr) ∧ q.cell? ⟨w.heap.size, 3, none⟩ = some (.string (bstr xt)) ∧ q.cell? ⟨w.heap.size, 4, none⟩ = some (.slice xo xl.length xc) ∧ q.cell? ⟨w.heap.size + 1, 0, none⟩ = some (.int .i64 yk) ∧ q.cell? ⟨w.heap.size + 1, 1, none⟩ = some (.int .i64 yn) ∧ q.cell? ⟨w.heap.size + 1, 2, none⟩ = some (.float .f64 yr) ∧ q.cell? ⟨w.heap.size + 1, 3, none⟩ = some (.string (bstr yt)) ∧ q.cell? ⟨w.heap.size + 1, 4, none⟩ = some (.slice yo yl.length yc)) (first | exact hS1 | assumption | exact KS8.out _ (keepV (by assumption) (And.left (by assumption)))) (first | (go_at_call 12; refine (ks.out _ (And.left (by assumption))).mono ?_; rintro e v1 ⟨rfl, B1⟩) | (go_at_call_of 10 (Value.agg #[Value.int IntKind.i64 xk, Value.int IntKind.i64 xn, Value.float FloatKind.f64 xr, Value.string (bstr xt), Value.slice xo xl.length xc]); refine (kmx.out _ (And.left (by assumption))).mono ?_; rintro e v2 ⟨rfl, B2⟩) | (go_at_call_of 10 (Value.agg #[Value.int IntKind.i64 yk, Value.int IntKind.i64 yn, Value.float FloatKind.f64 yr, Value.string (bstr yt), Value.slice yo yl.length yc]); refine (kmy.out _ (And.left (by assumption))).mono ?_; rintro e v3 ⟨rfl, B3⟩)))
        | fail
      all_goals go_wp2_with fail
      all_goals go_ret
      all_goals exact ⟨by first | rfl | simp, keepV (And.left (by assumption)) hBw.out⟩
    by_cases ha0 : a = 0
    · have hab : (a == 0) = true := by simp [ha0]
      rw [decide_eq_true ha0] at hsm2
      replace ha0 : Hid (a = 0) := ha0
      obtain rfl : sm = true := hsm2.out
      go_wp2_with fail
      clear d0 d1 d2 d3 d4 d5 d6 d7 d8 d9
      first
        | (go_region_held (fun q => Below wc.heap.size wc q ∧ q.cell? ⟨w.heap.size, 0, none⟩ = some (.int .i64 xk) ∧ q.cell? ⟨w.heap.size, 1, none⟩ = some (.int .i64 xn) ∧ q.cell? ⟨w.heap.size, 2, none⟩ = some (.float .f64 xr) ∧ q.cell? ⟨w.heap.size, 3, none⟩ = some (.string (bstr xt)) ∧ q.cell? ⟨w.heap.size, 4, none⟩ = some (.slice xo xl.length xc) ∧ q.cell? ⟨w.heap.size + 1, 0, none⟩ = some (.int .i64 yk) ∧ q.cell? ⟨w.heap.size + 1, 1, none⟩ = some (.int .i64 yn) ∧ q.cell? ⟨w.heap.size + 1, 2, none⟩ = some (.float .f64 yr) ∧ q.cell? ⟨w.heap.size + 1, 3, none⟩ = some (.string (bstr yt)) ∧ q.cell? ⟨w.heap.size + 1, 4, none⟩ = some (.slice yo yl.length yc)) (first | exact hS1 | assumption | exact KS8.out _ (keepV (by assumption) (And.left (by assumption)))) (first | (go_at_call 12; refine (ks.out _ (And.left (by assumption))).mono ?_; rintro e v1 ⟨rfl, B1⟩) | (go_at_call_of 10 (Value.agg #[Value.int IntKind.i64 xk, Value.int IntKind.i64 xn, Value.float FloatKind.f64 xr, Value.string (bstr xt), Value.slice xo xl.length xc]); refine (kmx.out _ (And.left (by assumption))).mono ?_; rintro e v2 ⟨rfl, B2⟩) | (go_at_call_of 10 (Value.agg #[Value.int IntKind.i64 yk, Value.int IntKind.i64 yn, Value.float FloatKind.f64 yr, Value.string (bstr yt), Value.slice yo yl.length yc]); refine (kmy.out _ (And.left (by assumption))).mono ?_; rintro e v3 ⟨rfl, B3⟩)))
        | fail
      all_goals go_wp2_with fail
      all_goals go_ret
      all_goals exact ⟨by first | rfl | simp, keepV (And.left (by assumption)) hBw.out⟩
    · have hab : (a == 0) = false := by simp [ha0]
      rw [decide_eq_false ha0] at hsm2
      replace ha0 : Hid (¬ a = 0) := ha0
      obtain rfl : sm = false := hsm2.out
      go_wp2_with fail
      clear d0 d1 d2 d3 d4 d5 d6 d7 d8 d9
      first
        | (go_region_held (fun q => Below wc.heap.size wc q ∧ q.cell? ⟨w.heap.size, 0, none⟩ = some (.int .i64 xk) ∧ q.cell? ⟨w.heap.size, 1, none⟩ = some (.int .i64 xn) ∧ q.cell? ⟨w.heap.size, 2, none⟩ = some (.float .f64 xr) ∧ q.cell? ⟨w.heap.size, 3, none⟩ = some (.string (bstr xt)) ∧ q.cell? ⟨w.heap.size, 4, none⟩ = some (.slice xo xl.length xc) ∧ q.cell? ⟨w.heap.size + 1, 0, none⟩ = some (.int .i64 yk) ∧ q.cell? ⟨w.heap.size + 1, 1, none⟩ = some (.int .i64 yn) ∧ q.cell? ⟨w.heap.size + 1, 2, none⟩ = some (.float .f64 yr) ∧ q.cell? ⟨w.heap.size + 1, 3, none⟩ = some (.string (bstr yt)) ∧ q.cell? ⟨w.heap.size + 1, 4, none⟩ = some (.slice yo yl.length yc)) (first | exact hS1 | assumption | exact KS8.out _ (keepV (by assumption) (And.left (by assumption)))) (first | (go_at_call 12; refine (ks.out _ (And.left (by assumption))).mono ?_; rintro e v1 ⟨rfl, B1⟩) | (go_at_call_of 10 (Value.agg #[Value.int IntKind.i64 xk, Value.int IntKind.i64 xn, Value.float FloatKind.f64 xr, Value.string (bstr xt), Value.slice xo xl.length xc]); refine (kmx.out _ (And.left (by assumption))).mono ?_; rintro e v2 ⟨rfl, B2⟩) | (go_at_call_of 10 (Value.agg #[Value.int IntKind.i64 yk, Value.int IntKind.i64 yn, Value.float FloatKind.f64 yr, Value.string (bstr yt), Value.slice yo yl.length yc]); refine (kmy.out _ (And.left (by assumption))).mono ?_; rintro e v3 ⟨rfl, B3⟩)))
        | fail
      all_goals go_wp2_with fail
      all_goals go_ret
      all_goals exact ⟨by first | rfl | simp, keepV (And.left (by assumption)) hBw.out⟩
#print axioms order_walk
end Go.Proofs.YtibmhooaidmdkaaDoor.Va
