/-
  The walk of ValueBack, over what Key, Read, Copy and Compare answer.
-/
import Derived.Test.YtibmhooaidmdkaaDoorVg
namespace Go.Proofs.YtibmhooaidmdkaaDoor.Va
open Go.RowKit Go.Proofs.YtibmhooaidmdkaaDoor.Rl
set_option maxRecDepth 100000

/-- What Copy owes. -/
def DoesCopy (f : Nat) : Prop := ∀ (w : World) (v : Value) (x : Val), IsV w v x → wtV x → Calls Tryd.prog f #[v] w fun e w' => ∃ cv, e = .returned (.tuple #[cv, .int .i64 (errO x)]) ∧ IsV w' cv (copyO x) ∧ Below w.heap.size w w'
theorem infoB : (Tryd.prog.info? 5).map (fun i => (i.zero, i.size, i.bytes)) = some (some (.int .u8 0), 1, 1) := by kernel_rfl
theorem Sl.front {w : World} {ao : Option Addr} {n c : Nat} {l : List UInt8} (h : Sl w (.slice ao n c) l) (m : Nat) (hm : m ≤ l.length) : Sl w (.slice ao m c) (l.take m) := by
  obtain ⟨ao', c', e, h1, h2, h3, h4⟩ := h
  simp only [Value.slice.injEq] at e
  obtain ⟨rfl, rfl, rfl⟩ := e
  have hl : (l.take m).length = m := by rw [List.length_take]; omega
  refine ⟨ao, c, by rw [hl], fun e => ?_, by omega, h3, fun i hi => ?_⟩
  · obtain ⟨e1, e2⟩ := h1 e
    rw [e1]; exact ⟨by simp, e2⟩
  · obtain ⟨b, off, e1, hc⟩ := h4 i (by omega)
    refine ⟨b, off, e1, ?_⟩
    rw [hc]
    simp
theorem esc_len : ∀ t, (esc t).length ≤ 2 * t.length
  | [] => by simp [esc]
  | c :: r => by
    have := esc_len r
    rw [esc]
    split <;> simp <;> omega
mutual
theorem key_len : ∀ x : Val, (keyV x).length ≤ 9 * szV x
  | .mk k n r t l => by
    have h1 := esc_len t
    have h2 := keyL_len l
    rw [keyV, szV]
    (repeat' split) <;> simp [bigN_len] <;> omega
theorem keyL_len : ∀ l : List Val, (keyL l).length ≤ 9 * szL l
  | [] => by simp [keyL]
  | x :: r => by
    have h1 := key_len x
    have h2 := keyL_len r
    rw [keyL, szL, List.length_append]
    omega
end
/-- Block b holds a value's five cells. -/
def Bx (q : World) (b : Nat) (k n : Int) (r : Nat) (t : List UInt8) (ao : Option Addr) (m c : Nat) : Prop := q.cell? ⟨b, 0, none⟩ = some (.int .i64 k) ∧ q.cell? ⟨b, 1, none⟩ = some (.int .i64 n) ∧ q.cell? ⟨b, 2, none⟩ = some (.float .f64 r) ∧ q.cell? ⟨b, 3, none⟩ = some (.string (bstr t)) ∧ q.cell? ⟨b, 4, none⟩ = some (.slice ao m c)
theorem Bx.below {q q' : World} {b : Nat} {k n : Int} {r : Nat} {t : List UInt8} {ao : Option Addr} {m c : Nat} (h : Bx q b k n r t ao m c) (hb : Below q.heap.size q q') : Bx q' b k n r t ao m c := by
  obtain ⟨h0, h1, h2, h3, h4⟩ := h
  exact ⟨(hb.cell (lt_of_cell h0)).trans h0, (hb.cell (lt_of_cell h1)).trans h1, (hb.cell (lt_of_cell h2)).trans h2, (hb.cell (lt_of_cell h3)).trans h3, (hb.cell (lt_of_cell h4)).trans h4⟩
theorem Bx.new (q : World) (k n : Int) (r : Nat) (t : List UInt8) (ao : Option Addr) (m c : Nat) (T : TypeId) : Bx (q.alloc (.cells #[.int .i64 k, .int .i64 n, .float .f64 r, .string (bstr t), .slice ao m c] T)) q.heap.size k n r t ao m c :=
  ⟨box_cell q _ T 0 _ rfl, box_cell q _ T 1 _ rfl, box_cell q _ T 2 _ rfl, box_cell q _ T 3 _ rfl, box_cell q _ T 4 _ rfl⟩
set_option maxHeartbeats 4000000 in
theorem back_walk (hbeg : Does0 7) (hkey : DoesKey 9) (hread : DoesRead 13) (hcopy : DoesCopy 14) (hcmp : Does2 11 fun x y => .int .i64 (compV x y))
    (w : World) (vx bv : Value) (x : Val) (s : List UInt8) (hx : IsV w vx x) (tx : wtV x) (hs : Sl w bv s) (hML : Mx w) :
    Calls Tryd.prog 5 #[vx, bv] w fun e w' => e = .returned (.bool true) ∧ Below w.heap.size w w' := by
  replace hML : Hid (Mx w) := hML
  obtain ⟨X, hX⟩ : ∃ X, Hid (x = X) := ⟨_, rfl⟩
  have h1 := hx
  obtain ⟨xk, xn, xr, xt, xl⟩ := x
  rw [IsV] at h1
  obtain ⟨xo, xc, rfl, _⟩ := h1
  have ix : Hid (IsV w (.agg #[.int .i64 xk, .int .i64 xn, .float .f64 xr, .string (bstr xt), .slice xo xl.length xc]) X) := by rw [← hX.out]; exact hx
  have tx' : Hid (wtV X) := by rw [← hX.out]; exact tx
  replace hs : Hid (Sl w bv s) := hs
  obtain ⟨so, sc, rfl, s1, s2, s3, s4⟩ := hs.out
  have kst : ∀ (w : World) (a : Addr) (x : Nat) (m : Mode), (store a (.float .f64 x) m).run Tryd.prog w = stored Tryd.prog w a (.float .f64 x) m := fun w a x m => run_store Tryd.prog w a _ m rfl
  clear hx tx s1 s4
  replace hbeg : Hid (Does0 7) := hbeg
  replace hkey : Hid (DoesKey 9) := hkey
  replace hread : Hid (DoesRead 13) := hread
  replace hcopy : Hid (DoesCopy 14) := hcopy
  replace hcmp : Hid (Does2 11 fun x y => .int .i64 (compV x y)) := hcmp
  obtain ⟨ns, hns⟩ : ∃ n, Hid (s.length = n) := ⟨_, rfl⟩
  rw [hns.out] at s2 hs ⊢
  have hs2 : ns ≤ 9223372036854775807 := by unfold maxLen at s3; omega
  have hs3 : (ns : Int) ≤ (sc : Int) := by omega
  clear s2 s3
  go_enter Tryd.func5, Tryd.ntmps5
  go_wp2_with fail
  refine (hbeg.out _ (hML.out.below (box_below _ _))).mono ?_
  rintro e w1 ⟨rfl, hb1⟩
  have hB1 : Hid (Below w.heap.size w w1) := keepV hb1 (box_below _ _)
  have hx1 : Hid (Bx w1 w.heap.size xk xn xr xt xo xl.length xc) := (Bx.new _ _ _ _ _ _ _ _ _).below hb1
  clear hb1
  obtain ⟨d0, d1, d2, d3, d4⟩ := hx1.out
  go_wp2_with fail
  clear d0 d1 d2 d3 d4
  refine (isLight_any _ _ X (IsV.below hB1.out _ _ ix.out)).mono ?_
  rintro e w2 ⟨rfl, hb⟩
  have hB2 : Hid (Below w.heap.size w w2) := keepV hb hB1.out
  have hx2 : Hid (Bx w2 w.heap.size xk xn xr xt xo xl.length xc) := hx1.out.below hb
  obtain ⟨L, hL⟩ : ∃ L, Hid (isLight X = L) := ⟨isLight X, rfl⟩
  rw [hL.out]
  clear hb hB1 hx1
  cases L
  case false =>
    go_wp2_with fail
    go_ret
    exact ⟨rfl, hB2.out⟩
  by_cases hbig : (65536 : Int) < (ns : Int)
  · go_wp2_with fail
    go_ret
    exact ⟨rfl, hB2.out⟩
  obtain ⟨d0, d1, d2, d3, d4⟩ := hx2.out
  go_wp2_with fail
  clear d0 d1 d2 d3 d4
  refine (hkey.out _ _ X (IsV.below hB2.out _ _ ix.out) tx'.out).mono ?_
  rintro e w3 ⟨kv, rfl, slk, hb⟩
  have hB3 : Hid (Below w.heap.size w w3) := keepV hb hB2.out
  have hx3 : Hid (Bx w3 w.heap.size xk xn xr xt xo xl.length xc) := hx2.out.below hb
  obtain ⟨mx, hmx⟩ : ∃ m, Hid (mayV X = m) := ⟨mayV X, rfl⟩
  clear hb hB2 hx2
  obtain ⟨E1, hE1⟩ : ∃ e, Hid (errO X = e) := ⟨errO X, rfl⟩
  rw [hE1.out]
  replace slk : Hid (Sl w3 kv (keyO X)) := slk
  go_upto_if 31 with fail
  go_cut [5, 6, 7, 8, 9, 10, 11] from 15 (fun _ _ _ _ _ _ _ wx => Hid (Below w.heap.size w wx))
  case first =>
    cases mx
    case false =>
      have hE : E1 = 1 := by rw [← hE1.out, errO, hmx.out]; rfl
      subst hE
      go_wp2_with fail
      go_meet
      case rel => exact hB3.out
    case true =>
      have hE : E1 = 0 := by rw [← hE1.out, errO, hmx.out]; rfl
      subst hE
      have hko : keyO X = keyV X := by rw [keyO, hmx.out]; rfl
      rw [hko] at slk
      obtain ⟨ko, kc, ekv, _⟩ := slk.out
      subst ekv
      have hkl : (keyV X).length ≤ 589824 := by have := key_len X; have := (may_parts hmx.out).2; omega
      have hcv : Hid (canonV X = .mk xk xn (canonB xr) xt (canonL xl)) := by show _ = _; rw [← hX.out, canonV]
      have hn0 : w3.ownsRow w3.heap.size 5 1 (.slice none 0 0) ([] : List UInt8).length (bvals []) := ⟨by simp [bvals], Or.inl ⟨rfl, rfl⟩⟩
      have hsz1 : ([] : List UInt8).length + (keyV X).length ≤ 140737488355328 := by simp; omega
      have hsz2 : (keyV X).length + s.length ≤ 140737488355328 := by rw [hns.out]; omega
      have hs3' : Hid (Sl w3 (.slice so ns sc) s) := Below.sl hB3.out hs.out
      go_wp2_with (at_builtin; refine wpList_append_bytes rfl (.const (.slice none 0 0)) (.tmp 33) 28 rfl w3.heap.size 5 infoB Tryd.underlying28 _ _ [] (keyV X) rfl hn0 rfl slk.out hsz1 (Nat.le_refl _) ?_)
      intro v1 w4 ho4 hb4
      have ho4' : w4.ownsRow w3.heap.size 5 1 v1 (keyV X).length (bvals (keyV X)) := by simpa using ho4
      have hs4 : Hid (Sl w4 (.slice so ns sc) s) := Below.sl hb4 hs3'.out
      have hle4 : w3.heap.size ≤ w4.heap.size := hb4.size
      clear hn0 hsz1 ho4
      go_wp2_with (at_builtin; refine wpList_append_bytes rfl (.tmp 34) (.tmp 35) 28 rfl w3.heap.size 5 infoB Tryd.underlying28 _ _ (keyV X) s rfl ho4' rfl hs4.out hsz2 hle4 ?_)
      intro v2 w5 ho5 hb5
      have hsl5 : Hid (Sl w5 v2 (keyV X ++ s)) := Sl.of_owns (by simpa using ho5)
      have hb35 : Below w3.heap.size w3 w5 := hb4.trans hb5
      have hB5 : Hid (Below w.heap.size w w5) := keepV hb35 hB3.out
      have hx5 : Hid (Bx w5 w.heap.size xk xn xr xt xo xl.length xc) := hx3.out.below hb35
      clear ho4' ho5 hb4 hb5 hb35 hle4 hsz2 hs4 hs3' hx3 hB3
      go_wp2_with fail
      refine (hread.out _ _ _ (hML.out.below hB5.out) hsl5.out).mono ?_
      rintro e w6 ⟨rv, rfl, isr, hb⟩
      rw [readO_key tx'.out hmx.out s] at isr ⊢
      simp only at isr ⊢
      have isr' := isr
      rw [hcv.out, IsV] at isr'
      obtain ⟨ro, rc, erv, _⟩ := isr'
      rw [erv] at isr ⊢
      have hB6 : Hid (Below w.heap.size w w6) := keepV hb hB5.out
      have hx6 : Hid (Bx w6 w.heap.size xk xn xr xt xo xl.length xc) := hx5.out.below hb
      replace isr : Hid (IsV w6 (.agg #[.int .i64 xk, .int .i64 xn, .float .f64 (canonB xr), .string (bstr xt), .slice ro (canonL xl).length rc]) (canonV X)) := isr
      clear erv hb hB5 hx5 hsl5
      have d0 := fun o => (hx6.out.below (box_below w6 o)).1
      have d1 := fun o => (hx6.out.below (box_below w6 o)).2.1
      have d2 := fun o => (hx6.out.below (box_below w6 o)).2.2.1
      have d3 := fun o => (hx6.out.below (box_below w6 o)).2.2.2.1
      have d4 := fun o => (hx6.out.below (box_below w6 o)).2.2.2.2
      obtain ⟨nl, hnl⟩ : ∃ n, Hid ((canonL xl).length = n) := ⟨_, rfl⟩
      obtain ⟨nk, hnk⟩ : ∃ n, Hid ((keyV X).length = n) := ⟨_, rfl⟩
      rw [hnl.out] at isr ⊢
      rw [hnk.out]
      obtain ⟨cr, hcr⟩ : ∃ n, Hid (canonB xr = n) := ⟨_, rfl⟩
      rw [hcr.out] at isr ⊢
      go_wp2_with fail
      clear d0 d1 d2 d3 d4
      refine (hcopy.out _ _ X (IsV.below (keepV (box_below _ _) hB6.out) _ _ ix.out) tx'.out).mono ?_
      rintro e w7 ⟨cv, rfl, isc, hb⟩
      have hcp : copyO X = canonV X := by rw [copyO, hmx.out]; rfl
      rw [hcp] at isc
      have isc' := isc
      rw [hcv.out, IsV] at isc'
      obtain ⟨qo, qc, ecv, _⟩ := isc'
      rw [ecv] at isc ⊢
      rw [hnl.out, hcr.out] at isc ⊢
      rw [hE1.out]
      have hb67 : Below w6.heap.size w6 w7 := keepV hb (box_below _ _)
      have hB7 : Hid (Below w.heap.size w w7) := keepV hb67 hB6.out
      have hx7 : Hid (Bx w7 w.heap.size xk xn xr xt xo xl.length xc) := hx6.out.below hb67
      have hr7 : Hid (Bx w7 w6.heap.size xk xn cr xt ro nl rc) := (Bx.new w6 _ _ _ _ _ _ _ _).below hb
      have isr7 : Hid (IsV w7 (.agg #[.int .i64 xk, .int .i64 xn, .float .f64 cr, .string (bstr xt), .slice ro nl rc]) (canonV X)) := IsV.below hb67 _ _ isr.out
      replace isc : Hid (IsV w7 (.agg #[.int .i64 xk, .int .i64 xn, .float .f64 cr, .string (bstr xt), .slice qo nl qc]) (canonV X)) := isc
      obtain ⟨R, hR⟩ : ∃ R, Hid (w6.heap.size = R) := ⟨_, rfl⟩
      rw [hR.out] at hr7 ⊢
      clear hb hb67 ecv hB6 hx6 isr
      obtain ⟨w8, hw8⟩ : ∃ w8, Hid (w7.alloc (.cells #[.int .i64 xk, .int .i64 xn, .float .f64 cr, .string (bstr xt), .slice qo nl qc] 25) = w8) := ⟨_, rfl⟩
      have hb8 : Below w7.heap.size w7 w8 := by rw [← hw8.out]; exact box_below _ _
      have hc8 : Hid (Bx w8 w7.heap.size xk xn cr xt qo nl qc) := by
        show Bx ..
        rw [← hw8.out]; exact Bx.new _ _ _ _ _ _ _ _ _
      have hr8 : Hid (Bx w8 R xk xn cr xt ro nl rc) := hr7.out.below hb8
      have hx8 : Hid (Bx w8 w.heap.size xk xn xr xt xo xl.length xc) := hx7.out.below hb8
      have hB8 : Hid (Below w.heap.size w w8) := keepV hb8 hB7.out
      have isr8 : Hid (IsV w8 (.agg #[.int .i64 xk, .int .i64 xn, .float .f64 cr, .string (bstr xt), .slice ro nl rc]) (canonV X)) := IsV.below hb8 _ _ isr7.out
      have isc8 : Hid (IsV w8 (.agg #[.int .i64 xk, .int .i64 xn, .float .f64 cr, .string (bstr xt), .slice qo nl qc]) (canonV X)) := IsV.below hb8 _ _ isc.out
      have hw8' := hw8.out
      obtain ⟨d0, d1, d2, d3, d4⟩ := hr8.out
      obtain ⟨f0, f1, f2, f3, f4⟩ := hc8.out
      go_wp2_with fail
      clear d0 d1 d2 d3 d4 f0 f1 f2 f3 f4 hw8'
      have heq : eqV (canonV X) (canonV X) = true := (eqV_iff _ _).2 rfl
      refine (Va.eq_any (canonV X) (canonV X) _ _ _ isr8.out isc8.out).mono ?_
      rintro e w9 ⟨rfl, hb9⟩
      rw [heq]
      have hB9 : Hid (Below w.heap.size w w9) := keepV hb9 hB8.out
      have hx9 : Hid (Bx w9 w.heap.size xk xn xr xt xo xl.length xc) := hx8.out.below hb9
      have hr9 : Hid (Bx w9 R xk xn cr xt ro nl rc) := hr8.out.below hb9
      have isr9 : Hid (IsV w9 (.agg #[.int .i64 xk, .int .i64 xn, .float .f64 cr, .string (bstr xt), .slice ro nl rc]) (canonV X)) := IsV.below hb9 _ _ isr8.out
      clear hb9
      obtain ⟨d0, d1, d2, d3, d4⟩ := hr9.out
      obtain ⟨f0, f1, f2, f3, f4⟩ := hx9.out
      go_wp2_with fail
      clear d0 d1 d2 d3 d4 f0 f1 f2 f3 f4
      have kcm : Calls Tryd.prog 11 #[(.agg #[.int .i64 xk, .int .i64 xn, .float .f64 xr, .string (bstr xt), .slice xo xl.length xc]), .agg #[.int .i64 xk, .int .i64 xn, .float .f64 cr, .string (bstr xt), .slice ro nl rc]] w9 fun e w' => e = .returned (.int .i64 (compV X (canonV X))) ∧ Below w9.heap.size w9 w' := hcmp.out w9 _ _ X (canonV X) (IsV.below hB9.out _ _ ix.out) isr9.out tx'.out ((canonV_all X).2.2.1 tx'.out)
      rw [canon_comp hmx.out] at kcm
      refine kcm.mono ?_
      rintro e w10 ⟨rfl, hb10⟩
      have hB10 : Hid (Below w.heap.size w w10) := keepV hb10 hB9.out
      clear hb10 kcm
      go_wp2_with fail
      go_meet
      case rel => exact hB10.out
  case rest =>
    have hBc := hcut
    have hsc : Hid (Sl wc (.slice so ns sc) s) := Below.sl hBc.out hs.out
    clear slk hx3 hB3
    go_wp2_with fail
    refine (hread.out _ _ _ (hML.out.below hBc.out) hsc.out).mono ?_
    rintro e w4 ⟨rv, rfl, isr, hb⟩
    have hB4 : Hid (Below w.heap.size w w4) := keepV hb hBc.out
    have hs4 : Hid (Sl w4 (.slice so ns sc) s) := Below.sl hb hsc.out
    clear hb hsc
    by_cases hre : (readO s).2.2 = 0
    · obtain ⟨y, m, hro, wy, my, hm, hky⟩ := readO_ok hre
      rw [hro] at isr ⊢
      simp only at isr ⊢
      have isr' := isr
      obtain ⟨Y, hY⟩ : ∃ Y, Hid (y = Y) := ⟨_, rfl⟩
      obtain ⟨yk, yn, yr, yt, yl⟩ := y
      rw [IsV] at isr'
      obtain ⟨ro, rc, erv, hjunk⟩ := isr'
      clear hjunk
      rw [erv] at isr ⊢
      rw [hY.out] at isr wy my hky
      rw [hns.out] at hm
      replace isr : Hid (IsV w4 (.agg #[.int .i64 yk, .int .i64 yn, .float .f64 yr, .string (bstr yt), .slice ro yl.length rc]) Y) := isr
      replace hky : Hid (keyV Y = s.take m) := hky
      have hko : Hid (keyO Y = s.take m ∧ errO Y = 0) := by
        refine ⟨?_, ?_⟩
        · rw [keyO, my]; exact hky.out
        · rw [errO, my]; rfl
      clear erv hro hre
      obtain ⟨w5, hw5⟩ : ∃ w5, Hid (w4.alloc (.cells #[.int .i64 yk, .int .i64 yn, .float .f64 yr, .string (bstr yt), .slice ro yl.length rc] 25) = w5) := ⟨_, rfl⟩
      have hb5 : Below w4.heap.size w4 w5 := by rw [← hw5.out]; exact box_below _ _
      have hr5 : Hid (Bx w5 w4.heap.size yk yn yr yt ro yl.length rc) := by
        show Bx ..
        rw [← hw5.out]; exact Bx.new _ _ _ _ _ _ _ _ _
      have isr5 : Hid (IsV w5 (.agg #[.int .i64 yk, .int .i64 yn, .float .f64 yr, .string (bstr yt), .slice ro yl.length rc]) Y) := IsV.below hb5 _ _ isr.out
      have hB5 : Hid (Below w.heap.size w w5) := keepV hb5 hB4.out
      have hs5 : Hid (Sl w5 (.slice so ns sc) s) := Below.sl hb5 hs4.out
      have hw5' := hw5.out
      clear hb5
      obtain ⟨d0, d1, d2, d3, d4⟩ := hr5.out
      go_wp2_with fail
      clear d0 d1 d2 d3 d4 hw5'
      refine (hkey.out _ _ Y isr5.out wy).mono ?_
      rintro e w6 ⟨kv2, rfl, slk2, hb6⟩
      rw [hko.out.1] at slk2
      rw [hko.out.2]
      have hB6 : Hid (Below w.heap.size w w6) := keepV hb6 hB5.out
      have hs6 : Hid (Sl w6 (.slice so m sc) (s.take m)) := Sl.front (Below.sl hb6 hs5.out) m (by rw [hns.out]; exact hm)
      replace slk2 : Hid (Sl w6 kv2 (s.take m)) := slk2
      clear hb6
      have m1 : (0 : Int) ≤ (m : Int) := by omega
      have m2 : (m : Int) ≤ (sc : Int) := by omega
      obtain ⟨ko2, kc2, ekv2, hj1, q1, q2, q3⟩ := slk2.out
      obtain ⟨so2, sc2, e2, hj2, u1, u2, u3⟩ := hs6.out
      clear hj1 hj2
      have hlt : (s.take m).length = m := by rw [List.length_take, hns.out]; omega
      simp only [Value.slice.injEq] at e2
      obtain ⟨rfl, hj3, rfl⟩ := e2
      clear hj3
      have keq := Go.Proofs.YtibmhooaidmdkaaDoor.eq_any w6 ko2 so (s.take m) (s.take m) kc2 sc (by omega) (by omega) q3 u3
      rw [decide_eq_true rfl] at keq
      rw [hlt] at keq ekv2
      rw [ekv2]
      replace keq : Hid (Calls Tryd.prog 16 #[.slice ko2 m kc2, .slice so m sc] w6 fun e w' => e = .returned (.bool true) ∧ Qt w6 w') := keq
      clear q1 q2 q3 u1 u2 u3 ekv2 hlt hs2 hm hs3
      go_wp2_with fail
      refine keq.out.mono ?_
      rintro e w7 ⟨rfl, hq7⟩
      have hB7 : Hid (Below w.heap.size w w7) := hB6.out.trans (Qt.below hq7 _)
      clear hq7
      go_wp2_with fail
      go_ret
      exact ⟨rfl, hB7.out⟩
    · have hz := readO_bad hre
      obtain ⟨re, hre2⟩ : ∃ e, Hid ((readO s).2.2 = e) := ⟨_, rfl⟩
      obtain ⟨rn, hrn⟩ : ∃ e, Hid ((readO s).2.1 = e) := ⟨_, rfl⟩
      rw [hz] at isr
      rw [hre2.out] at hre ⊢
      rw [hrn.out]
      have isr' := isr
      unfold zeroV at isr'
      rw [IsV] at isr'
      obtain ⟨ro, rc, erv, hjunk⟩ := isr'
      clear hjunk
      rw [erv] at isr ⊢
      have hne : (re != 0) = true := by simp [hre]
      replace isr : Hid (IsV w4 (.agg #[.int .i64 0, .int .i64 0, .float .f64 0, .string (bstr []), .slice ro 0 rc]) zeroV) := isr
      clear erv hz hre
      have isz : ∀ q, IsV q (.agg #[.int .i64 0, .int .i64 0, .float .f64 0, .string ⟨#[]⟩, .slice none 0 0]) zeroV := fun q => by
        unfold zeroV
        rw [IsV]
        exact ⟨none, 0, rfl, fun _ => ⟨rfl, rfl⟩, by simp, by decide, by simp, by rw [IsL]; trivial⟩
      replace isz : Hid (∀ q, IsV q (.agg #[.int .i64 0, .int .i64 0, .float .f64 0, .string ⟨#[]⟩, .slice none 0 0]) zeroV) := isz
      go_wp2_with fail
      have heq : eqV zeroV zeroV = true := (eqV_iff _ _).2 rfl
      refine (Va.eq_any zeroV zeroV _ _ _ (IsV.below (box_below _ _) _ _ isr.out) (isz.out _)).mono ?_
      rintro e w6 ⟨rfl, hb6⟩
      rw [heq]
      have hB6 : Hid (Below w.heap.size w w6) := keepV hb6 (keepV (box_below _ _) hB4.out)
      clear hb6
      go_wp2_with fail
      go_ret
      exact ⟨rfl, hB6.out⟩
#print axioms back_walk
end Go.Proofs.YtibmhooaidmdkaaDoor.Va
