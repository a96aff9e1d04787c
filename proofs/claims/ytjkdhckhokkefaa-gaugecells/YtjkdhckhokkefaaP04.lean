/-
  GaugeCells: its walk. (gen_GsC.py)
-/
import Derived.Test.YtjkdhckhokkefaaP03
namespace Go.Proofs.Ytjkdhckhokkefaa.Gg
open Go.RowKit Rl
set_option linter.unusedVariables false
set_option maxRecDepth 100000
structure Pt where
  b1 : Nat
  a1 : Value
  c1 : Value
  b2 : Nat
  a2 : Value
  c2 : Value
  b3 : Nat
  a3 : Value
  c3 : Value
def Q3 (W w : World) (p : Pt) (G1 G2 G3 : G) : Prop := Ens W w [(eP p.b1 p.a1 p.c1, G1), (eP p.b2 p.a2 p.c2, G2), (eP p.b3 p.a3 p.c3, G3)]
section
variable {W w w' : World} {p : Pt} {G1 G2 G3 g' : G}
theorem Q3.bel (h : Q3 W w p G1 G2 G3) : Below W.heap.size W w := Ens.bel h
theorem Q3.below (h : Q3 W w p G1 G2 G3) (hb : Below w.heap.size w w') : Q3 W w' p G1 G2 G3 := Ens.below h hb
theorem Q3.a1 (h : Q3 W w p G1 G2 G3) : At 64 w p.b1 G1 p.a1 p.c1 := Ens.all h (eP p.b1 p.a1 p.c1, G1) (by simp)
theorem Q3.a2 (h : Q3 W w p G1 G2 G3) : At 64 w p.b2 G2 p.a2 p.c2 := Ens.all h (eP p.b2 p.a2 p.c2, G2) (by simp)
theorem Q3.a3 (h : Q3 W w p G1 G2 G3) : At 64 w p.b3 G3 p.a3 p.c3 := Ens.all h (eP p.b3 p.a3 p.c3, G3) (by simp)
theorem Q3.t1 (h : Q3 W w p G1 G2 G3) (ha : At 64 w' p.b1 g' p.a1 p.c1) (hb : But (Tur p.b1 p.c1) w w') : Q3 W w' p g' G2 G3 := Ens.turn [] (e := eP p.b1 p.a1 p.c1) (g := G1) h hb ha
theorem Q3.t2 (h : Q3 W w p G1 G2 G3) (ha : At 64 w' p.b2 g' p.a2 p.c2) (hb : But (Tur p.b2 p.c2) w w') : Q3 W w' p G1 g' G3 := Ens.turn [(eP p.b1 p.a1 p.c1, G1)] (e := eP p.b2 p.a2 p.c2) (g := G2) h hb ha
theorem Q3.t3 (h : Q3 W w p G1 G2 G3) (ha : At 64 w' p.b3 g' p.a3 p.c3) (hb : But (Tur p.b3 p.c3) w w') : Q3 W w' p G1 G2 g' := Ens.turn [(eP p.b1 p.a1 p.c1, G1), (eP p.b2 p.a2 p.c2, G2)] (e := eP p.b3 p.a3 p.c3) (g := G3) h hb ha
end
theorem pG_all (g : G) (xs : List Nat) : pG g xs xs.length = xs.foldl putF g := by unfold pG; rw [List.take_length]
theorem rev_get (l : List Nat) {k : Nat} (h : k < l.length) : l.reverse.getD k 0 = l.getD (l.length - 1 - k) 0 := by
  have h2 : l.length - 1 - k < l.length := by omega
  simp [h, h2, List.getElem_reverse]
theorem sum_take (l : List Int) {i : Nat} (h : i < l.length) : (l.take (i + 1)).sum = (l.take i).sum + l.getD i 0 := by
  rw [List.take_succ_eq_append_getElem h, List.sum_append]
  simp [h]
theorem bs_rev {l : List Nat} (h : Bs l) : Bs l.reverse := fun b hb => h b (by simpa using hb)
set_option maxHeartbeats 8000000 in
theorem cells_walk (W : World) (v0 v1 v2 : Value) (bo xs ys : List Nat) (p q : Nat) (r0 : Row W v0 (uvals bo)) (r1 : Row W v1 (uvals xs)) (r2 : Row W v2 (uvals ys)) (hb0 : Bs bo) (hb1 : Bs xs) (hb2 : Bs ys) (hp : p < 18446744073709551616) (hq : q < 18446744073709551616)
    (z0 : bo.length * 8 ≤ 140737488355328) (z1 : xs.length * 8 ≤ 140737488355328) (z2 : ys.length * 8 ≤ 140737488355328) :
    Calls Try.prog 4 #[v0, v1, v2, .int .u64 (p : Int), .int .u64 (q : Int)] W fun e w' => e = .returned (.bool true) ∧ Below W.heap.size W w' := by
  have R0 := hide r0
  have R1 := hide r1
  have R2 := hide r2
  have HB0 := hide hb0
  have HB1 := hide hb1
  have HB2 := hide hb2
  obtain ⟨o0, q0, rfl⟩ := form_u r0
  obtain ⟨o1, q1, rfl⟩ := form_u r1
  obtain ⟨o2, q2, rfl⟩ := form_u r2
  obtain ⟨n1, hn1⟩ : ∃ n, Hid (xs.length = n) := ⟨_, rfl⟩
  obtain ⟨n2, hn2⟩ : ∃ n, Hid (ys.length = n) := ⟨_, rfl⟩
  rw [hn1.out] at R1 ⊢
  rw [hn2.out] at R2 ⊢
  clear r0 r1 r2 hb0 hb1 hb2
  have sf : ∀ (W : World) (a : Addr) (x : Nat), (store a (.float .f64 x)).run Try.prog W = stored Try.prog W a (.float .f64 x) .plain := fun W a x => run_store _ W a _ _ rfl
  have hbt : ∀ (u : World) (x : Nat), Calls Try.prog 20 #[.float .f64 x, .float .f64 x] u fun e w' => e = .returned (.bool true) ∧ w' = u := fun u x => by have := bits_any u x x; rwa [decide_eq_true rfl] at this
  have kof := of_run
  go_enter Try.func4, Try.ntmps4
  go_wp2_with fail
  go_at_call 8
  refine (begun_any _).mono ?_
  rintro e w1 ⟨rfl, b1⟩
  have BW := hide b1
  clear b1
  by_cases h1 : 300 < n1
  · have k1 : (300 : Int) < (n1 : Int) := by omega
    go_wp2_with fail
    go_ret
    exact ⟨rfl, BW.out⟩
  have k1 : ¬ (300 : Int) < (n1 : Int) := by omega
  by_cases h2 : 300 < n2
  · have k2 : (300 : Int) < (n2 : Int) := by omega
    go_wp2_with fail
    go_ret
    exact ⟨rfl, BW.out⟩
  have k2 : ¬ (300 : Int) < (n2 : Int) := by omega
  go_upto_region 5 with fail
  go_wp2_with fail
  go_at_call 9
  refine (of_any _ _ bo (Below.row BW.out R0.out) z0).mono ?_
  rintro e w2 ⟨vb, rfl, fb, bb⟩
  replace fb : Hid (Fw w1.heap.size w2 vb bo) := hide fb
  replace BW := hide (keepF BW.out bb)
  clear bb
  go_wp2_with fail
  go_at_call 9
  refine (of_any _ _ xs (Below.row BW.out R1.out) z1).mono ?_
  rintro e w3 ⟨vx, rfl, fx, bb⟩
  replace fx : Hid (Fw w2.heap.size w3 vx xs) := hide fx
  replace fb := hide (owns_below fb.out bb)
  replace BW := hide (keepF BW.out bb)
  clear bb
  go_wp2_with fail
  go_at_call 9
  refine (of_any _ _ ys (Below.row BW.out R2.out) z2).mono ?_
  rintro e w4 ⟨vy, rfl, fy, bb⟩
  replace fy : Hid (Fw w3.heap.size w4 vy ys) := hide fy
  replace fb := hide (owns_below fb.out bb)
  replace fx := hide (owns_below fx.out bb)
  replace BW := hide (keepF BW.out bb)
  clear bb
  have RB := hide (Row.of_owns fb.out)
  have RX := hide (Row.of_owns fx.out)
  have RY := hide (Row.of_owns fy.out)
  obtain ⟨xo, xca, rfl, x1, x2, hxr⟩ := row_flts RX.out
  obtain ⟨yo, yca, rfl, y1, y2, hyr⟩ := row_flts RY.out
  have HXR := hide hxr
  have HYR := hide hyr
  rw [hn1.out] at RX x2 HXR ⊢
  rw [hn2.out] at RY y2 HYR ⊢
  clear fb fx fy hxr hyr
  go_wp2_with fail
  go_at_call 10
  refine (new_code _ _ bo RB.out HB0.out).mono ?_
  rintro e w5 ⟨po1, rfl, b5, P5, N5⟩
  by_cases hc0 : codeN bo = 0
  rotate_left
  · have hcz : (codeN bo == 0) = false := by simp [hc0]
    obtain rfl := P5 hc0
    have FIN := hide (keepF BW.out b5)
    clear b5 P5 N5
    generalize codeN bo = cbo at *
    go_wp2_with fail
    go_ret
    exact ⟨rfl, FIN.out⟩
  obtain ⟨b1, a1, c1, rfl, A1, O1⟩ := N5 hc0
  have EN1 := hide ((Ens.nil (Below.refl _ w4)).add b5 A1 O1)
  have TL0 : Hid (Tl (g0 bo)) := hide (Tl.new (code_inv hc0).1 HB0.out (code_inv hc0).2)
  have OK0 : Hid (Ok 0 (g0 bo)) := hide (Ok.new (code_inv hc0).1 HB0.out (code_inv hc0).2)
  rw [hc0]
  clear b5 P5 N5 A1 O1
  go_wp2_with fail
  go_at_call 10
  refine (new_code _ _ bo (Below.row EN1.out.bel RB.out) HB0.out).mono ?_
  rintro e w6 ⟨po2, rfl, b6, P6, N6⟩
  obtain ⟨b2, a2, c2, rfl, A2, O2⟩ := N6 hc0
  have EN2 := hide (EN1.out.add b6 A2 O2)
  clear b6 P6 N6 A2 O2 EN1
  go_wp2_with fail
  go_at_call 10
  refine (new_code _ _ bo (Below.row EN2.out.bel RB.out) HB0.out).mono ?_
  rintro e w7 ⟨po3, rfl, b7, P7, N7⟩
  obtain ⟨b3, a3, c3, rfl, A3, O3⟩ := N7 hc0
  have QQ : Hid (Q3 w4 w7 (⟨b1, a1, c1, b2, a2, c2, b3, a3, c3⟩ : Pt) (g0 bo) (g0 bo) (g0 bo)) := hide (EN2.out.add b7 A3 O3)
  clear b7 P7 N7 A3 O3 EN2
  go_wp2_with fail
  go_loopw [20] (fun vi wr => ∃ i : Nat, i ≤ n1 ∧ vi = .int .i64 (i : Int) ∧ Hid (Q3 w4 wr (⟨b1, a1, c1, b2, a2, c2, b3, a3, c3⟩ : Pt) (pG (g0 bo) xs i) (g0 bo) (g0 bo))) (fun v _ => n1 - (intOf v).toNat)
  case atStart => exact ⟨0, by omega, rfl, QQ.out⟩
  case round =>
    clear QQ
    obtain ⟨i, hi, rfl, hQ⟩ := hrel
    by_cases hin : i = n1
    rotate_left
    · have hil : i < n1 := by omega
      have hil' : i < xs.length := by rw [hn1.out]; exact hil
      have i1 : (i : Int) < (n1 : Int) := by omega
      have i2 : (0 : Int) ≤ (i : Int) := by omega
      have okI := hide ((pG_ok OK0.out HB1.out i (by omega)).mono (show (0 : Int) + (i : Int) ≤ 300 by omega))
      have hsu := hide (pG_succ (g0 bo) xs hil')
      have hxl := hide (HB1.out _ (getD_mem hil'))
      obtain ⟨x, hxx⟩ : ∃ x, Hid (xs.getD i 0 = x) := ⟨_, rfl⟩
      obtain ⟨xb, off, rfl, hx0⟩ := HXR.out i hil
      have hx := (hQ.out.bel.cell (lt_of_cell hx0)).trans hx0
      rw [hxx.out] at hxl hsu hx
      clear hil' hx0
      go_wp2_with fail
      go_at_call 12
      refine (put_any _ b1 _ a1 c1 300 x hQ.out.a1 okI.out (by omega) hxl.out).mono ?_
      rintro e wb ⟨rfl, Ab, Bb⟩
      have Qb := hide (hQ.out.t1 Ab Bb)
      rw [← hsu.out] at Qb
      clear hQ Ab Bb hx
      go_wp2_with fail
      go_roundw
      case rel => exact ⟨i + 1, by omega, by go_num, Qb.out⟩
      case measure => simp [intOf]; omega
    have hin' := hin.symm
    clear hin
    subst hin'
    have QQ := hQ
    clear hQ
    go_wp2_with fail
    go_loopw [21] (fun vi wr => ∃ i : Nat, i ≤ n2 ∧ vi = .int .i64 (i : Int) ∧ Hid (Q3 w4 wr (⟨b1, a1, c1, b2, a2, c2, b3, a3, c3⟩ : Pt) (pG (g0 bo) xs n1) (pG (g0 bo) ys i) (g0 bo))) (fun v _ => n2 - (intOf v).toNat)
    case atStart => exact ⟨0, by omega, rfl, QQ.out⟩
    case round =>
      clear QQ
      obtain ⟨i, hi, rfl, hQ⟩ := hrel
      by_cases hin : i = n2
      rotate_left
      · have hil : i < n2 := by omega
        have hil' : i < ys.length := by rw [hn2.out]; exact hil
        have i1 : (i : Int) < (n2 : Int) := by omega
        have i2 : (0 : Int) ≤ (i : Int) := by omega
        have okI := hide ((pG_ok OK0.out HB2.out i (by omega)).mono (show (0 : Int) + (i : Int) ≤ 300 by omega))
        have hsu := hide (pG_succ (g0 bo) ys hil')
        have hxl := hide (HB2.out _ (getD_mem hil'))
        obtain ⟨x, hxx⟩ : ∃ x, Hid (ys.getD i 0 = x) := ⟨_, rfl⟩
        obtain ⟨xb, off, rfl, hx0⟩ := HYR.out i hil
        have hx := (hQ.out.bel.cell (lt_of_cell hx0)).trans hx0
        rw [hxx.out] at hxl hsu hx
        clear hil' hx0
        go_wp2_with fail
        go_at_call 12
        refine (put_any _ b2 _ a2 c2 300 x hQ.out.a2 okI.out (by omega) hxl.out).mono ?_
        rintro e wb ⟨rfl, Ab, Bb⟩
        have Qb := hide (hQ.out.t2 Ab Bb)
        rw [← hsu.out] at Qb
        clear hQ Ab Bb hx
        go_wp2_with fail
        go_roundw
        case rel => exact ⟨i + 1, by omega, by go_num, Qb.out⟩
        case measure => simp [intOf]; omega
      have hin' := hin.symm
      clear hin
      subst hin'
      have QQ := hQ
      clear hQ
      have OK3 : Hid (Ok 300 (g0 bo)) := hide (OK0.out.mono (by omega))
      have kk : IntKind.i64.wrap ((n2 : Int) - 1) = (n2 : Int) - 1 := by simp [IntKind.wrap, IntKind.bits, IntKind.signed]; omega
      go_wp2_with fail
      go_loopw [22] (fun vi wr => ∃ i : Nat, i ≤ n2 ∧ vi = .int .i64 ((n2 : Int) - 1 - (i : Int)) ∧ Hid (Q3 w4 wr (⟨b1, a1, c1, b2, a2, c2, b3, a3, c3⟩ : Pt) (pG (g0 bo) xs n1) (pG (g0 bo) ys n2) (pG (g0 bo) ys.reverse i))) (fun v _ => (intOf v + 1).toNat)
      case atStart => exact ⟨0, by omega, by first | rfl | (congr 1 <;> omega), QQ.out⟩
      case round =>
        clear QQ
        obtain ⟨i, hi, rfl, hQ⟩ := hrel
        by_cases hin : i = n2
        rotate_left
        · have hil : i < n2 := by omega
          have hil' : i < ys.length := by rw [hn2.out]; exact hil
          have hilr : i < ys.reverse.length := by simpa using hil'
          obtain ⟨j, hj⟩ : ∃ j : Nat, Hid (n2 - 1 - i = j) := ⟨_, rfl⟩
          have hjI : (n2 : Int) - 1 - (i : Int) = (j : Int) := by have := hj.out; omega
          have hjl : j < n2 := by have := hj.out; omega
          have okI := hide ((pG_ok OK3.out (bs_rev HB2.out) i (by omega)).mono (show (300 : Int) + (i : Int) ≤ 600 by omega))
          have hsu := hide (pG_succ (g0 bo) ys.reverse hilr)
          have hxl := hide (HB2.out _ (getD_mem (l := ys) (i := j) (by rw [hn2.out]; exact hjl)))
          have hrv : ys.reverse.getD i 0 = ys.getD j 0 := by rw [rev_get _ hil', hn2.out, hj.out]
          obtain ⟨x, hxx⟩ : ∃ x, Hid (ys.getD j 0 = x) := ⟨_, rfl⟩
          obtain ⟨xb, off, rfl, hx0⟩ := HYR.out j hjl
          have hx := (hQ.out.bel.cell (lt_of_cell hx0)).trans hx0
          rw [hrv] at hsu
          rw [hxx.out] at hxl hsu hx
          have i1 : (j : Int) < (n2 : Int) := by omega
          have i2 : (0 : Int) ≤ (j : Int) := by omega
          have kj : IntKind.i64.wrap ((j : Int) - 1) = (j : Int) - 1 := by simp [IntKind.wrap, IntKind.bits, IntKind.signed]; omega
          have hnx : Hid ((j : Int) - 1 = (n2 : Int) - 1 - ((i + 1 : Nat) : Int)) := hide (by have := hj.out; omega)
          rw [hjI]
          replace hjI := hide hjI
          clear hil' hx0 hrv hilr
          go_wp2_with fail
          go_at_call 12
          refine (put_any _ b3 _ a3 c3 600 x hQ.out.a3 okI.out (by omega) hxl.out).mono ?_
          rintro e wb ⟨rfl, Ab, Bb⟩
          have Qb := hide (hQ.out.t3 Ab Bb)
          rw [← hsu.out] at Qb
          clear hQ Ab Bb hx
          go_wp2_with fail
          go_roundw
          case rel => exact ⟨i + 1, by omega, by first | (rw [← hnx.out]) | (congr 1; have := hnx.out; omega), Qb.out⟩
          case measure => first | (simp [intOf]; done) | (simp [intOf]; omega)
        have hin' := hin.symm
        clear hin
        subst hin'
        have QQ := hQ
        clear hQ
        have hneg : ¬ ((0 : Int) ≤ (n2 : Int) - 1 - (n2 : Int)) := by omega
        have OKY : Hid (Ok 300 (pG (g0 bo) ys.reverse n2)) := hide ((pG_ok OK0.out (bs_rev HB2.out) n2 (by rw [List.length_reverse, hn2.out]; exact Nat.le_refl _)).mono (show (0 : Int) + (n2 : Int) ≤ 300 by omega))
        have kk : IntKind.i64.wrap ((n1 : Int) - 1) = (n1 : Int) - 1 := by simp [IntKind.wrap, IntKind.bits, IntKind.signed]; omega
        go_wp2_with fail
        go_loopw [23] (fun vi wr => ∃ i : Nat, i ≤ n1 ∧ vi = .int .i64 ((n1 : Int) - 1 - (i : Int)) ∧ Hid (Q3 w4 wr (⟨b1, a1, c1, b2, a2, c2, b3, a3, c3⟩ : Pt) (pG (g0 bo) xs n1) (pG (g0 bo) ys n2) (pG (pG (g0 bo) ys.reverse n2) xs.reverse i))) (fun v _ => (intOf v + 1).toNat)
        case atStart => exact ⟨0, by omega, by first | rfl | (congr 1 <;> omega), QQ.out⟩
        case round =>
          clear QQ
          obtain ⟨i, hi, rfl, hQ⟩ := hrel
          by_cases hin : i = n1
          rotate_left
          · have hil : i < n1 := by omega
            have hil' : i < xs.length := by rw [hn1.out]; exact hil
            have hilr : i < xs.reverse.length := by simpa using hil'
            obtain ⟨j, hj⟩ : ∃ j : Nat, Hid (n1 - 1 - i = j) := ⟨_, rfl⟩
            have hjI : (n1 : Int) - 1 - (i : Int) = (j : Int) := by have := hj.out; omega
            have hjl : j < n1 := by have := hj.out; omega
            have okI := hide ((pG_ok OKY.out (bs_rev HB1.out) i (by omega)).mono (show (300 : Int) + (i : Int) ≤ 600 by omega))
            have hsu := hide (pG_succ (pG (g0 bo) ys.reverse n2) xs.reverse hilr)
            have hxl := hide (HB1.out _ (getD_mem (l := xs) (i := j) (by rw [hn1.out]; exact hjl)))
            have hrv : xs.reverse.getD i 0 = xs.getD j 0 := by rw [rev_get _ hil', hn1.out, hj.out]
            obtain ⟨x, hxx⟩ : ∃ x, Hid (xs.getD j 0 = x) := ⟨_, rfl⟩
            obtain ⟨xb, off, rfl, hx0⟩ := HXR.out j hjl
            have hx := (hQ.out.bel.cell (lt_of_cell hx0)).trans hx0
            rw [hrv] at hsu
            rw [hxx.out] at hxl hsu hx
            have i1 : (j : Int) < (n1 : Int) := by omega
            have i2 : (0 : Int) ≤ (j : Int) := by omega
            have kj : IntKind.i64.wrap ((j : Int) - 1) = (j : Int) - 1 := by simp [IntKind.wrap, IntKind.bits, IntKind.signed]; omega
            have hnx : Hid ((j : Int) - 1 = (n1 : Int) - 1 - ((i + 1 : Nat) : Int)) := hide (by have := hj.out; omega)
            rw [hjI]
            replace hjI := hide hjI
            clear hil' hx0 hrv hilr
            go_wp2_with fail
            go_at_call 12
            refine (put_any _ b3 _ a3 c3 600 x hQ.out.a3 okI.out (by omega) hxl.out).mono ?_
            rintro e wb ⟨rfl, Ab, Bb⟩
            have Qb := hide (hQ.out.t3 Ab Bb)
            rw [← hsu.out] at Qb
            clear hQ Ab Bb hx
            go_wp2_with fail
            go_roundw
            case rel => exact ⟨i + 1, by omega, by first | (rw [← hnx.out]) | (congr 1; have := hnx.out; omega), Qb.out⟩
            case measure => first | (simp [intOf]; done) | (simp [intOf]; omega)
          have hin' := hin.symm
          clear hin
          subst hin'
          have QQ := hQ
          clear hQ
          have hneg : ¬ ((0 : Int) ≤ (n1 : Int) - 1 - (n1 : Int)) := by omega
          go_upto_region 27 with fail
          have ALLe : Hid (Eq0 (mgF (pG (g0 bo) xs n1) (pG (g0 bo) ys n2)) (pG (pG (g0 bo) ys.reverse n2) xs.reverse n1)) := hide (by
            have e1 : pG (g0 bo) xs n1 = xs.foldl putF (g0 bo) := by rw [← hn1.out]; exact pG_all _ _
            have e2 : pG (g0 bo) ys n2 = ys.foldl putF (g0 bo) := by rw [← hn2.out]; exact pG_all _ _
            have e3 : pG (g0 bo) ys.reverse n2 = ys.reverse.foldl putF (g0 bo) := by
              have hl : ys.reverse.length = n2 := by rw [List.length_reverse, hn2.out]
              rw [← hl]
              exact pG_all _ _
            have e4 : pG (ys.reverse.foldl putF (g0 bo)) xs.reverse n1 = xs.reverse.foldl putF (ys.reverse.foldl putF (g0 bo)) := by
              have hl : xs.reverse.length = n1 := by rw [List.length_reverse, hn1.out]
              rw [← hl]
              exact pG_all _ _
            rw [e1, e2, e3, e4, ← List.foldl_append]
            refine merged_all TL0.out.inv HB1.out HB2.out ?_
            refine (List.perm_append_comm).trans ?_
            exact (List.reverse_perm ys).symm.append (List.reverse_perm xs).symm)
          have TLA : Hid (Tl (pG (pG (g0 bo) ys.reverse n2) xs.reverse n1)) := hide (by
            unfold pG
            exact (TL0.out.fold fun b hb => bs_rev HB2.out b (List.mem_of_mem_take hb)).fold fun b hb => bs_rev HB1.out b (List.mem_of_mem_take hb))
          have CNT : Hid ((pG (pG (g0 bo) ys.reverse n2) xs.reverse n1).l.n + (pG (pG (g0 bo) ys.reverse n2) xs.reverse n1).l.na = (n1 : Int) + (n2 : Int)) := hide (by
            unfold pG
            rw [told_count, told_count, List.length_take, List.length_take, List.length_reverse, List.length_reverse, hn1.out, hn2.out]
            show (0 : Int) + 0 + ((min n2 n2 : Nat) : Int) + ((min n1 n1 : Nat) : Int) = _
            omega)
          have OKX : Hid (Ok 300 (pG (g0 bo) xs n1)) := hide ((pG_ok OK0.out HB1.out n1 (by rw [hn1.out]; exact Nat.le_refl _)).mono (show (0 : Int) + (n1 : Int) ≤ 300 by omega))
          have OKYY : Hid (Ok 300 (pG (g0 bo) ys n2)) := hide ((pG_ok OK0.out HB2.out n2 (by rw [hn2.out]; exact Nat.le_refl _)).mono (show (0 : Int) + (n2 : Int) ≤ 300 by omega))
          have OKA : Hid (Ok 600 (pG (pG (g0 bo) ys.reverse n2) xs.reverse n1)) := hide ((pG_ok OKY.out (bs_rev HB1.out) n1 (by rw [List.length_reverse, hn1.out]; exact Nat.le_refl _)).mono (show (300 : Int) + (n1 : Int) ≤ 600 by omega))
          have SAME : Hid (sameL (pG (g0 bo) xs n1).bs (pG (g0 bo) ys n2).bs) := hide (by rw [pG_bs _ _ _ (by rw [hn1.out]; exact Nat.le_refl _), pG_bs _ _ _ (by rw [hn2.out]; exact Nat.le_refl _)]; exact sameL_refl _)
          have INX : Hid (Inv (pG (g0 bo) xs n1) ∧ Inv (pG (g0 bo) ys n2)) := hide ⟨⟨⟨_, OKX.out⟩, pG_nz OK0.out (nz0 bo) HB1.out n1 (by rw [hn1.out]; exact Nat.le_refl _)⟩, ⟨⟨_, OKYY.out⟩, pG_nz OK0.out (nz0 bo) HB2.out n2 (by rw [hn2.out]; exact Nat.le_refl _)⟩⟩
          obtain ⟨GA, hGA⟩ : ∃ G, Hid (pG (pG (g0 bo) ys.reverse n2) xs.reverse n1 = G) := ⟨_, rfl⟩
          obtain ⟨G1, hG1⟩ : ∃ G, Hid (pG (g0 bo) xs n1 = G) := ⟨_, rfl⟩
          obtain ⟨G2, hG2⟩ : ∃ G, Hid (pG (g0 bo) ys n2 = G) := ⟨_, rfl⟩
          rw [hGA.out, hG1.out, hG2.out] at QQ ALLe
          rw [hGA.out] at TLA CNT OKA
          rw [hG1.out, hG2.out] at SAME INX
          rw [hG1.out] at OKX
          rw [hG2.out] at OKYY
          clear hGA hG1 hG2 OK0 OK3 OKY TL0
          go_wp2_with fail
          go_at_call 15
          refine (merge_any _ b1 G1 a1 c1 b2 G2 a2 c2 300 QQ.out.a1 QQ.out.a2 OKX.out OKYY.out (by omega)).mono ?_
          rintro e wm (⟨_, rfl, Am, Bm⟩ | ⟨hno, _, _⟩)
          rotate_left
          · exact absurd SAME.out hno
          replace QQ := hide (QQ.out.t1 Am Bm)
          clear Am Bm
          have OKM : Hid (Ok 600 (mgF G1 G2)) := hide ((OKX.out.merge OKYY.out SAME.out.1).mono (by omega))
          have TLM : Hid (Tl (mgF G1 G2)) := hide (TLA.out.eq0 ALLe.out ⟨⟨_, OKM.out⟩, INX.out.1.2.merge INX.out.2.2 OKX.out.n.1 OKYY.out.n.1 OKX.out.lo⟩)
          obtain ⟨GM, hGM⟩ : ∃ G, Hid (mgF G1 G2 = G) := ⟨_, rfl⟩
          rw [hGM.out] at QQ OKM TLM ALLe
          clear hGM OKX OKYY SAME INX
          go_wp2_with fail
          go_at_call 18
          refine (cells_any _ b1 GM a1 c1 600 QQ.out.a1 OKM.out).mono ?_
          rintro e wa ⟨va, rfl, ia, ba⟩
          replace QQ := hide (QQ.out.below ba)
          replace ia := hide ia
          clear ba
          go_wp2_with fail
          go_at_call 18
          refine (cells_any _ b3 GA a3 c3 600 QQ.out.a3 OKA.out).mono ?_
          rintro e wb ⟨vbb, rfl, ib, bbb⟩
          replace QQ := hide (QQ.out.below bbb)
          replace ia := hide (owns_below ia.out bbb)
          replace ib := hide ib
          clear bbb
          go_wp2_with fail
          go_at_call 17
          refine (lcells_any _ _ _ GA.cs (by rw [← ALLe.out.cs]; exact Row.of_owns ia.out) (Row.of_owns ib.out)).mono ?_
          rintro e wc ⟨rfl, bc⟩
          replace QQ := hide (QQ.out.below bc)
          clear bc ia ib
          go_upto_region 29 with fail
          go_wp2_with fail
          go_at_call 19
          refine (look_any _ b1 GM a1 c1 600 QQ.out.a1 OKM.out).mono ?_
          rintro e wd ⟨rfl, bd⟩
          replace QQ := hide (QQ.out.below bd)
          clear bd
          go_wp2_with fail
          go_at_call 19
          refine (look_any _ b3 GA a3 c3 600 QQ.out.a3 OKA.out).mono ?_
          rintro e we ⟨rfl, be⟩
          replace QQ := hide (QQ.out.below be)
          clear be
          have e3 := ALLe.out.n
          have e4 := ALLe.out.na
          have e5 := ALLe.out.lo
          have e6 := ALLe.out.hi
          obtain ⟨gb, gc, ⟨kn, kna, klo, khi, kme⟩⟩ := GM
          obtain ⟨hb', hc', ⟨ln, lna, llo, lhi, lme⟩⟩ := GA
          simp only at e3 e4 e5 e6
          subst e3
          subst e4
          subst e5
          subst e6
          unfold L.val
          simp only
          have B1 := box_below we (.cells #[.int .i64 kn, .int .i64 kna, .float .f64 klo, .float .f64 khi, .float .f64 kme] 44)
          have X1 := Lx.new we ⟨kn, kna, klo, khi, kme⟩
          simp only at X1
          go_upto_region 30 with fail
          obtain ⟨wf, hwf⟩ : ∃ wf, Hid (we.alloc (.cells #[.int .i64 kn, .int .i64 kna, .float .f64 klo, .float .f64 khi, .float .f64 kme] 44) = wf) := ⟨_, rfl⟩
          have hzz : wf.heap.size = we.heap.size + 1 := by rw [← hwf.out]; simp
          rw [hwf.out] at X1 B1 ⊢
          have B2 := box_below wf (.cells #[.int .i64 kn, .int .i64 kna, .float .f64 klo, .float .f64 khi, .float .f64 lme] 44)
          have X2 := Lx.new wf ⟨kn, kna, klo, khi, lme⟩
          simp only at X2
          rw [hzz] at X2
          replace X1 := X1.below B2
          replace QQ := hide (QQ.out.below (keepF B1 B2))
          clear B1 B2 hzz hwf
          generalize wf.alloc (.cells #[.int .i64 kn, .int .i64 kna, .float .f64 klo, .float .f64 khi, .float .f64 lme] 44) = wg at *
          obtain ⟨pp, hpp⟩ : ∃ pp, Hid (we.heap.size = pp) := ⟨_, rfl⟩
          rw [hpp.out] at X1 X2 ⊢
          replace X1 := hide X1
          replace X2 := hide X2
          go_wp2_with fail
          go_at_call 18
          refine (cells_any _ b1 _ a1 c1 600 QQ.out.a1 OKM.out).mono ?_
          rintro e wh ⟨vk, rfl, ik, bk⟩
          replace QQ := hide (QQ.out.below bk)
          replace X1 := hide (X1.out.below bk)
          replace X2 := hide (X2.out.below bk)
          simp only at ik
          have hcl : 0 < gc.length := by have := OKM.out.cl; simp only at this; omega
          have hc65 : gc.length ≤ 65 := by have := OKM.out.cl; have h := OKM.out.len; simp only at this h; omega
          obtain ⟨kb, kca, kcur, rfl, t1, t2, t3, t4, t5⟩ := Iw.at ik hcl
          have HKC := hide t5
          have HCS := hide (fun i (hi : i < gc.length) => OKM.out.cs _ (getI_mem (l := gc) hi))
          have HSM : Hid (gc.sum = kn) := hide TLM.out.sum
          have HST := hide (fun i (hi : i < gc.length) => sum_take gc hi)
          obtain ⟨K, hK⟩ : ∃ K, Hid (gc.length = K) := ⟨_, rfl⟩
          rw [hK.out] at HKC HCS HST t2 hcl hc65 ⊢
          have hall : Hid ((gc.take K).sum = kn) := hide (by rw [← hK.out, List.take_length]; exact HSM.out)
          clear ik bk t3 t4 t5
          go_wp2_with fail
          go_loopw [26, 28] (fun v26 v28 wr => ∃ (i : Nat) (acc : Int), i ≤ K ∧ v28 = .int .i64 (i : Int) ∧ v26 = .int .i64 acc ∧ Hid (acc = (gc.take i).sum) ∧ 0 ≤ acc ∧ acc ≤ (i : Int) * 600 ∧ wr = wh) (fun _ v _ => K - (intOf v).toNat)
          case atStart => exact ⟨0, 0, by omega, rfl, rfl, by show _ = _; simp, by omega, by omega, rfl⟩
          case round =>
            obtain ⟨i, acc, hi, rfl, rfl, hacc, ha1, ha2, hwr⟩ := hrel
            subst hwr
            by_cases hin : i = K
            rotate_left
            · have hil : i < K := by omega
              have hx := HKC.out i hil
              obtain ⟨s1, s2⟩ := HCS.out i hil
              have hst := HST.out i hil
              obtain ⟨x, hxx⟩ : ∃ x, Hid (gc.getD i 0 = x) := ⟨_, rfl⟩
              rw [hxx.out] at hx s1 s2 hst
              have hnx : Hid (acc + x = (gc.take (i + 1)).sum) := hide (by rw [hst, ← hacc.out])
              have i1 : (i : Int) < (K : Int) := by omega
              have i2 : (0 : Int) ≤ (i : Int) := by omega
              have kw : IntKind.i64.wrap (acc + x) = acc + x := by simp [IntKind.wrap, IntKind.bits, IntKind.signed]; omega
              clear hst
              go_wp2_with fail
              go_roundw
              case rel => exact ⟨i + 1, acc + x, by omega, by go_num, rfl, hnx.out, by omega, by omega, by trivial⟩
              case measure => simp [intOf]; omega
            have hin' := hin.symm
            clear hin
            subst hin'
            obtain rfl : acc = kn := by rw [hacc.out]; exact hall.out
            have hcnt : acc + kna = (n1 : Int) + (n2 : Int) := CNT.out
            have kw1 : IntKind.i64.wrap (acc + kna) = (n1 : Int) + (n2 : Int) := by rw [hcnt]; simp [IntKind.wrap, IntKind.bits, IntKind.signed]; omega
            have kw2 : IntKind.i64.wrap ((n1 : Int) + (n2 : Int)) = (n1 : Int) + (n2 : Int) := by simp [IntKind.wrap, IntKind.bits, IntKind.signed]; omega
            obtain ⟨u0, u1, u2, u3, u4⟩ := X1.out.cells
            obtain ⟨v0, v1, v2, v3, v4⟩ := X2.out.cells
            simp only at u0 u1 u2 u3 u4 v0 v1 v2 v3 v4
            have FIN := hide (keepF BW.out QQ.out.bel)
            replace hcnt := hide hcnt
            go_upto_region 38 with (go_at_call 20; refine (hbt _ _).mono ?_; rintro e w' ⟨rfl, hw⟩; rw [hw]; clear hw w')
            clear u0 u1 u2 u3 u4 v0 v1 v2 v3 v4 kw1 kw2
            have o1 : ∀ x : Nat, ((x : Int)).toNat = x := fun x => Int.toNat_natCast x
            cases g1 : (FloatKind.f64.format.order p 0 == some .gt || FloatKind.f64.format.order p 0 == some .eq)
            · go_wp2_with fail
              go_ret
              exact ⟨rfl, FIN.out⟩
            cases g2 : (FloatKind.f64.format.order q p == some .gt || FloatKind.f64.format.order q p == some .eq)
            · go_wp2_with fail
              go_ret
              exact ⟨rfl, FIN.out⟩
            cases g3 : (FloatKind.f64.format.order q 4607182418800017408 == some .lt || FloatKind.f64.format.order q 4607182418800017408 == some .eq)
            · go_wp2_with fail
              go_ret
              exact ⟨rfl, FIN.out⟩
            by_cases g4 : acc = 0
            · have hz : (acc == 0) = true := by simp [g4]
              replace g4 := hide g4
              go_wp2_with fail
              go_ret
              exact ⟨rfl, FIN.out⟩
            have hz : (acc == 0) = false := by simp [g4]
            obtain ⟨qp, qq, qm⟩ := parts hp hq g1 g2 g3
            have hmo := qt_mono TLM.out qp qq qm g4 (by simp only; omega)
            have hQ1 := hide (quantile_any wr b1 _ a1 c1 600 p QQ.out.a1 OKM.out (by omega) hp)
            have hQ2 := hide (quantile_any wr b1 _ a1 c1 600 q QQ.out.a1 OKM.out (by omega) hq)
            have l1 := qt_lt OKM.out p
            have l2 := qt_lt OKM.out q
            generalize qtF _ p = s1 at *
            generalize qtF _ q = s2 at *
            obtain ⟨s11, s12⟩ := s1
            obtain ⟨s21, s22⟩ := s2
            simp only at hmo l1 l2 hQ1 hQ2
            obtain ⟨rfl, rfl, hm3⟩ := hmo
            have hCC := fun u => refCompare_any u s11 s21 l1 l2
            generalize cmpB s11 s21 = zz at *
            replace g4 := hide g4
            clear qp qq qm
            go_wp2_with (first | (go_at_call 22; first | (refine hQ1.out.mono ?_; rintro e w' ⟨rfl, hw⟩; rw [hw]; clear hw w' hQ1) | (refine hQ2.out.mono ?_; rintro e w' ⟨rfl, hw⟩; rw [hw]; clear hw w')) | (go_at_call 23; refine (hCC _).mono ?_; rintro e w' ⟨rfl, hw⟩; rw [hw]; clear hw w'))
            go_ret
            refine ⟨?_, FIN.out⟩
            first | rfl | simp
end Go.Proofs.Ytjkdhckhokkefaa.Gg
namespace Go.Proofs.Ytjkdhckhokkefaa.Gg
open Go.RowKit Rl
theorem cells_law (W : World) (v0 v1 v2 : Value) (l0 l1 l2 : List Int) (a b : Int) (r0 : Row W v0 (l0.map (Value.int .u64))) (r1 : Row W v1 (l1.map (Value.int .u64))) (r2 : Row W v2 (l2.map (Value.int .u64)))
    (f0 : ∀ n ∈ l0, (Lit.int .u64 n).wf = true) (f1 : ∀ n ∈ l1, (Lit.int .u64 n).wf = true) (f2 : ∀ n ∈ l2, (Lit.int .u64 n).wf = true)
    (z0 : l0.length * 8 ≤ 140737488355328) (z1 : l1.length * 8 ≤ 140737488355328) (z2 : l2.length * 8 ≤ 140737488355328) (ha : 0 ≤ a ∧ a < 18446744073709551616) (hb : 0 ≤ b ∧ b < 18446744073709551616) :
    Calls Try.prog 4 #[v0, v1, v2, .int .u64 a, .int .u64 b] W fun e w' => e = .returned (.bool true) ∧ Below W.heap.size W w' := by
  obtain ⟨u0, b0, e0, g0⟩ := nats_of l0 f0
  obtain ⟨u1, b1, e1, g1⟩ := nats_of l1 f1
  obtain ⟨u2, b2, e2, g2⟩ := nats_of l2 f2
  obtain ⟨p, rfl⟩ : ∃ p : Nat, a = (p : Int) := ⟨a.toNat, by omega⟩
  obtain ⟨q, rfl⟩ : ∃ q : Nat, b = (q : Int) := ⟨b.toNat, by omega⟩
  rw [e0] at r0
  rw [e1] at r1
  rw [e2] at r2
  exact cells_walk W v0 v1 v2 u0 u1 u2 p q r0 r1 r2 b0 b1 b2 (by omega) (by omega) (by omega) (by omega) (by omega)
end Go.Proofs.Ytjkdhckhokkefaa.Gg

