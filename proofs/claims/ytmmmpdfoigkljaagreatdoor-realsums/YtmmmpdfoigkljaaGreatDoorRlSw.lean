/-
  The walk of RealSums.
-/
import Derived.Test.YtmmmpdfoigkljaaGreatDoorRlSp
import Derived.Test.YtmmmpdfoigkljaaGreatDoorRwL
import Derived.Deep.RegionHeld3
namespace Go.Proofs.YtmmmpdfoigkljaaGreatDoor.Rl
open Go.RowKit
set_option maxRecDepth 100000

theorem ord_max {b : Nat} (hb : b < 18446744073709551616) : (FloatKind.f64.format.order b 9218868437227405311 == some Ordering.gt) = decide (b = 9218868437227405312) := by
  cases hn : nanB b
  · rw [order_eq hb (by omega) hn (by decide +kernel)]
    have h0 : ¬ b % 9223372036854775808 > 9218868437227405312 := of_decide_eq_false hn
    have hk : sg 9218868437227405311 = (magB 9218868437227405311 : Int) := by unfold sg; rw [if_pos (by omega)]
    rw [hk]
    by_cases h1 : b = 9218868437227405312
    · have h2 := mag_mono (show 9218868437227405311 < 9218868437227405312 by omega)
      have h3 : sg b = (magB 9218868437227405312 : Int) := by unfold sg; rw [h1, if_pos (by omega)]
      rw [h3, Int.compare_eq_gt.2 (by omega), decide_eq_true h1]; rfl
    · rw [decide_eq_false h1]
      have h2 : sg b ≤ (magB 9218868437227405311 : Int) := by
        unfold sg
        by_cases h : b < 9223372036854775808
        · rw [if_pos h]
          rcases Nat.lt_or_ge b 9218868437227405311 with h3 | h3
          · have := mag_mono h3; omega
          · have : b = 9218868437227405311 := by omega
            rw [this]; omega
        · rw [if_neg h]; omega
      rcases Int.lt_or_eq_of_le h2 with h4 | h4
      · rw [Int.compare_eq_lt.2 h4]; rfl
      · rw [Int.compare_eq_eq.2 h4]; rfl
  · rw [order_nan (Or.inl hn)]
    have h0 : b % 9223372036854775808 > 9218868437227405312 := of_decide_eq_true hn
    rw [decide_eq_false (by omega)]; rfl
theorem isInf0_any (w : World) (b : Nat) (hb : b < 18446744073709551616) : Calls Tryz.prog 17 #[.float .f64 b, .int .i64 0] w fun e w' => e = .returned (.bool (decide (b % 9223372036854775808 = 9218868437227405312))) ∧ w' = w := by
  have ho := ord_max (b := b % 9223372036854775808) (by omega)
  have k1 := bits_run
  have k2 := of_run
  have k3 := andNot_top b hb
  obtain ⟨M, hM⟩ : ∃ M, Hid (b % 9223372036854775808 = M) := ⟨_, rfl⟩
  rw [hM.out] at ho k3 ⊢
  replace ho : Hid ((FloatKind.f64.format.order M 9218868437227405311 == some Ordering.gt) = decide (M = 9218868437227405312)) := ho
  clear hb
  go_enter Tryz.func17, Tryz.ntmps17
  go_wp2
  go_ret
  exact ⟨congrArg (fun x => Ending.returned (Value.bool x)) ho.out, rfl⟩
theorem i32_bounds {n : Int} (h : (Lit.int .i32 n).wf = true) : -2147483648 ≤ n ∧ n ≤ 2147483647 := by
  simpa [Lit.wf, IntKind.min, IntKind.max, IntKind.signed, IntKind.bits] using h
theorem Row.one {w : World} {o : TypeId} (x : Nat) : Row (w.alloc (.cells #[.float .f64 x] o)) (.slice (some ⟨w.heap.size, 0, none⟩) 1 1) (fvals [x]) := by
  refine ⟨some ⟨w.heap.size, 0, none⟩, 1, rfl, fun e => by simp at e, by simp [fvals], by decide, fun i hi => ?_⟩
  have : i = 0 := by simp [fvals] at hi; omega
  subst this
  refine ⟨_, _, rfl, ?_⟩
  show (w.alloc _).cell? ⟨w.heap.size, 0, none⟩ = some (.float .f64 x)
  unfold World.cell?
  simp only [heap_alloc_new]
  rfl
theorem drop_rev (us : List Nat) (j : Nat) (hj : j < us.length) : (us.drop j).reverse = (us.drop (j + 1)).reverse ++ [us[j]] := by
  rw [List.drop_eq_getElem_cons hj, List.reverse_cons]
theorem bs_one {x : Nat} (h : x < 18446744073709551616) : Bs [x] := fun b hb => by simp at hb; subst hb; exact h
theorem At.of_row {w : World} {ao : Option Addr} {n cap : Nat} {vs : List Value} (h : Row w (.slice ao n cap) vs) : At w ao vs := by
  obtain ⟨ao', cap', e, _, _, _, h4⟩ := h
  simp only [Value.slice.injEq] at e
  obtain ⟨rfl, _, _⟩ := e
  exact h4
theorem At.below {w w' : World} {ao : Option Addr} {vs : List Value} (h : At w ao vs) (hb : Below w.heap.size w w') : At w' ao vs := fun i hi => by
  obtain ⟨b, off, e, hc⟩ := h i hi
  exact ⟨b, off, e, by rw [hb.cell (p := ⟨b, off + i, none⟩) (lt_of_cell hc)]; exact hc⟩
theorem bs_rev {us : List Nat} (h : Bs us) : Bs us.reverse := fun b hb => h b (by simpa using hb)
theorem owns_one {w : World} (x : Nat) : (w.alloc (.cells #[.float .f64 x] 26)).ownsRow w.heap.size 26 1 (.slice (some ⟨w.heap.size, 0, none⟩) 1 1) [x].length (fvals [x]) :=
  ⟨by simp [fvals], .inr ⟨w.heap.size, 1, #[.float .f64 x], rfl, Nat.le_refl _, heap_alloc_new w _, by simp, by decide, rfl, rfl⟩⟩
theorem zero_order {y : Nat} (hy : y < 18446744073709551616) (hn : nanB y = false) : (FloatKind.f64.format.order y 0 != some Ordering.eq) = decide (y % 9223372036854775808 ≠ 0) := by
  rw [bne, order_eq hy (by omega) hn (by decide +kernel)]
  have h0 : sg 0 = 0 := by unfold sg; rw [if_pos (by omega), mag_zero]; rfl
  rw [h0]
  by_cases h : y % 9223372036854775808 = 0
  · have : sg y = 0 := by rw [sg_eq hy, h, mag_zero]; split <;> rfl
    rw [this, Int.compare_eq_eq.2 rfl, decide_eq_false (by omega)]; rfl
  · have hm := mag_mono (show 0 < y % 9223372036854775808 by omega)
    rw [mag_zero] at hm
    have hne : sg y ≠ 0 := by rw [sg_eq hy]; split <;> omega
    rw [decide_eq_true h]
    rcases Int.lt_or_gt_of_ne hne with g | g
    · rw [Int.compare_eq_lt.2 g]; rfl
    · rw [Int.compare_eq_gt.2 g]; rfl
theorem zero_class {x : Nat} (hx : x < 18446744073709551616) (h : (FloatKind.f64.format.order x 0 != some Ordering.eq) = true) : classB x ≠ 5 := by
  intro hc
  rw [cls5 hx hc] at h
  have : (FloatKind.f64.format.order 9223372036854775808 0 != some Ordering.eq) = false := by decide +kernel
  rw [this] at h; cases h
theorem Row.two {w : World} {o : TypeId} (x y : Nat) : Row (w.alloc (.cells #[.float .f64 x, .float .f64 y] o)) (.slice (some ⟨w.heap.size, 0, none⟩) 2 2) (fvals [x, y]) := by
  refine ⟨some ⟨w.heap.size, 0, none⟩, 2, rfl, fun e => by simp at e, by simp [fvals], by decide, fun i hi => ?_⟩
  have hi2 : i = 0 ∨ i = 1 := by simp [fvals] at hi; omega
  refine ⟨_, _, rfl, ?_⟩
  rw [Nat.zero_add]
  unfold World.cell?
  simp only [heap_alloc_new]
  rcases hi2 with rfl | rfl <;> rfl
theorem keepW {B : Nat} {w u u' : World} (hb : Below u.heap.size u u') (h : Below B w u) (hB : B ≤ u.heap.size) : Below B w u' := h.trans (hb.mono hB)
def nanAt (w : World) (x y : Nat) : Nat := (Question.nanBits .f64 x y).cut (w.tape w.drawn (.nanBits .f64 x y))
theorem nan_is (w : World) (x y : Nat) : nanB (nanAt w x y) = true ∧ nanAt w x y < 18446744073709551616 := by
  have e : nanAt w x y = (w.tape w.drawn (.nanBits .f64 x y) % 2) * 2 ^ 63 + 9218868437227405312 + 1 + (w.tape w.drawn (.nanBits .f64 x y) / 2) % (2 ^ 52 - 1) := rfl
  rw [e]
  generalize w.tape w.drawn (.nanBits .f64 x y) = t
  have h1 : (t / 2) % (2 ^ 52 - 1) < 2 ^ 52 - 1 := Nat.mod_lt _ (by decide)
  generalize (t / 2) % (2 ^ 52 - 1) = a at *
  refine ⟨?_, by omega⟩
  unfold nanB
  apply decide_eq_true
  omega
theorem add_none_run (x y : Nat) (h : Ieee.double.add x y = none) (w : World) : (binOp .add 26 (.float .f64 x) (.float .f64 y)).run Tryz.prog w = .ok (.float .f64 (nanAt w x y)) w.drew := by
  have h2 : FloatKind.f64.format.add x y = none := h
  simp [binOp, Op.floatArith, h2, nanAt, Question.forced]
theorem add_some_run (x y r : Nat) (h : Ieee.double.add x y = some r) (w : World) : (binOp .add 26 (.float .f64 x) (.float .f64 y)).run Tryz.prog w = .ok (.float .f64 r) w := by
  have h2 : FloatKind.f64.format.add x y = some r := h
  simp [binOp, Op.floatArith, h2]
set_option maxHeartbeats 4000000 in
theorem sums_walk (W : World) (v u : Value) (l : List Int) (a : Int) (m : List Int) (hL : Laid W) (hrow : Row W v (l.map (Value.int .u64))) (hwf : ∀ n ∈ l, (Lit.int .u64 n).wf = true) (hsz : l.length * 8 ≤ 140737488355328)
    (ha : 0 ≤ a ∧ a < 18446744073709551616) (hrow2 : Row W u (m.map (Value.int .i32))) (hwf2 : ∀ n ∈ m, (Lit.int .i32 n).wf = true) :
    Calls Tryz.prog 4 #[v, .int .u64 a, u] W fun e w' => e = .returned (.bool true) ∧ Below W.heap.size W w' := by
  obtain ⟨us, hbs, hu, hlen⟩ := nats_of l hwf
  rw [hu] at hrow
  rw [← hlen] at hsz
  clear hu hlen hwf
  replace hbs : Hid (Bs us) := hbs
  obtain ⟨y, hy⟩ : ∃ y : Nat, Hid (a = y) := ⟨a.toNat, by show _ = _; omega⟩
  have hyl : Hid (y < 18446744073709551616) := by show _ < _; have := hy.out; omega
  clear ha
  have kof : ∀ w, (callFunc 14 #[.int .u64 a]).run Tryz.prog w = .ok (.value (.float .f64 y)) w := by
    intro w; rw [of_run, hy.out]; rfl
  go_enter Tryz.func4, Tryz.ntmps4
  go_wp2_with fail
  refine (begun_any _ hL).mono ?_
  rintro e w1 ⟨rfl, hb1⟩
  have hrow1 := Below.row hb1 hrow
  have hrow21 := Below.row hb1 hrow2
  replace hb1 : Hid (Below W.heap.size W w1) := hb1
  clear hL hrow hrow2
  obtain ⟨ao0, cap0, rfl, g1, g2, g3, g4⟩ := hrow1
  have hul : (uvals us).length = us.length := by simp [uvals]
  have hrow1 : Hid (Row w1 (.slice ao0 (uvals us).length cap0) (uvals us)) := ⟨ao0, cap0, rfl, g1, g2, g3, g4⟩
  rw [hul] at hrow1 ⊢
  clear g1 g2 g3 g4 hul
  obtain ⟨aom, capm, rfl, g1, g2, g3, g4⟩ := hrow21
  have hml : (m.map (Value.int .i32)).length = m.length := by simp
  have hatm : Hid (At w1 aom (m.map (Value.int .i32))) := g4
  rw [hml] at ⊢
  clear g1 g2 g3 g4 hml
  obtain ⟨n, hn⟩ : ∃ n, Hid (us.length = n) := ⟨_, rfl⟩
  obtain ⟨k, hk⟩ : ∃ n, Hid (m.length = n) := ⟨_, rfl⟩
  rw [hn.out] at hsz hrow1 ⊢
  rw [hk.out] at ⊢
  replace hwf2 : Hid (∀ n ∈ m, -2147483648 ≤ n ∧ n ≤ 2147483647) := fun n hm => i32_bounds (hwf2 n hm)
  by_cases hbig : (500 : Int) < (n : Int)
  · go_wp2
    go_ret
    exact ⟨rfl, hb1.out⟩
  by_cases hbig2 : (500 : Int) < (k : Int)
  · go_wp2
    go_ret
    exact ⟨rfl, hb1.out⟩
  go_wp2_with fail
  refine (of_any _ _ us hrow1.out (by rw [hn.out]; exact hsz)).mono ?_
  rintro e w2 ⟨v2, rfl, ho2, hb2⟩
  have hb3 : Hid (Below W.heap.size W w2) := hb1.out.trans (hb2.mono hb1.out.size)
  have hatm2 : Hid (At w2 aom (m.map (Value.int .i32))) := fun i hi => by
    obtain ⟨b, off, e, hc⟩ := hatm.out i hi
    exact ⟨b, off, e, by rw [hb2.cell (p := ⟨b, off + i, none⟩) (lt_of_cell hc)]; exact hc⟩
  have hr2 := Row.of_owns ho2
  clear ho2 hb2 hb1 hrow1 hatm
  obtain ⟨ao, cap, rfl, h1, h2, h3, h4⟩ := hr2
  have hfl : (fvals us).length = us.length := by simp [fvals]
  have hr2 : Hid (Row w2 (.slice ao (fvals us).length cap) (fvals us)) := ⟨ao, cap, rfl, h1, h2, h3, h4⟩
  have hat2 : Hid (At w2 ao (fvals us)) := h4
  rw [hfl, hn.out] at hr2 ⊢
  clear h1 h2 h3 h4 hfl
  have hn5 : n ≤ 500 := by omega
  have hk5 : k ≤ 500 := by omega
  go_wp2_with fail
  go_loopw [8, 9] (fun v8 v9 wr => ∃ q : Nat, q ≤ n ∧ v9 = .int .i64 ((q : Int) - 1) ∧ wr.ownsRow w2.heap.size 26 1 v8 (n - q) (fvals (us.drop q).reverse) ∧ Hid (Below w2.heap.size w2 wr)) (fun _ v _ => ((intOf v) + 1).toNat)
  case atStart => exact ⟨n, by omega, by go_num, ⟨by simp [fvals, hn.out], Or.inl ⟨rfl, by omega⟩⟩, Below.refl _ _⟩
  case round =>
    obtain ⟨q, hq, rfl, ho, hB⟩ := hrel
    by_cases h0 : q = 0
    · have ho2 : Hid (wr.ownsRow w2.heap.size 26 1 u8 n (fvals us.reverse)) := by
        have := ho
        rw [h0, List.drop_zero] at this
        exact this
      subst h0
      clear ho
      have hrx : Hid (Row wr (.slice ao n cap) (fvals us)) := Below.row hB.out hr2.out
      have hrt : Hid (Row wr u8 (fvals us.reverse)) := Row.of_owns ho2.out
      have hB3 : Hid (Below W.heap.size W wr) := hb3.out.trans (hB.out.mono hb3.out.size)
      have hatm3 : Hid (At wr aom (m.map (Value.int .i32))) := At.below hatm2.out hB.out
      obtain ⟨S, hS⟩ : ∃ S, Hid (sumB us = S) := ⟨_, rfl⟩
      obtain ⟨C, hC⟩ : ∃ C, Hid (canonB y = C) := ⟨_, rfl⟩
      clear hatm2 hat2 hr2 hb3 ho2
      go_wp2_with fail
      refine (sum_any _ _ us hrx.out hbs.out).mono ?_
      rintro e w3 ⟨rfl, hb4⟩
      rw [hS.out]
      have hrt3 : Hid (Row w3 u8 (fvals us.reverse)) := Below.row hb4 hrt.out
      replace hb4 : Hid (Below wr.heap.size wr w3) := hb4
      go_wp2_with fail
      refine (sum_any _ _ us.reverse hrt3.out (bs_rev hbs.out)).mono ?_
      rintro e w4 ⟨rfl, hb5⟩
      rw [sumB_perm (List.reverse_perm us), hS.out]
      have hb6 : Hid (Below wr.heap.size wr w4) := hb4.out.trans (hb5.mono hb4.out.size)
      clear hb4 hb5 hrt3 hrt
      go_wp2_with fail
      refine (bits_any _ S S).mono ?_
      rintro e w5 ⟨rfl, rfl⟩
      rw [decide_eq_true rfl]
      go_wp2_with fail
      refine (sum_any _ _ [y] (Row.one y) (bs_one hyl.out)).mono ?_
      rintro e w6 ⟨rfl, hb7⟩
      rw [sum_one hyl.out, hC.out]
      have hb8 : Hid (Below wr.heap.size wr w6) := hb6.out.trans ((Below.mono ((box_below _ _).trans (hb7.mono (by simp))) hb6.out.size))
      clear hb7 hb6
      go_wp2_with fail
      refine (canon_any _ y hyl.out).mono ?_
      rintro e w7 ⟨rfl, rfl⟩
      rw [hC.out]
      go_wp2_with fail
      refine (bits_any _ C C).mono ?_
      rintro e w8 ⟨rfl, rfl⟩
      rw [decide_eq_true rfl]
      have hrx6 : Hid (Row w8 (.slice ao n cap) (fvals us)) := Below.row hb8.out hrx.out
      have hB6 : Hid (Below W.heap.size W w8) := hB3.out.trans (hb8.out.mono hB3.out.size)
      have hatm6 : Hid (At w8 aom (m.map (Value.int .i32))) := At.below hatm3.out hb8.out
      clear hrx hB3 hatm3 hb8
      go_upto_region 14 with fail
      go_cut [81] from 16 (fun s wx => ∃ Cd : Bool, s = .bool Cd ∧ Hid (Cd = true → y % 9223372036854775808 < 9218868437227405312 ∧ y % 9223372036854775808 ≠ 0 ∧ ∃ x ∈ us, classB x ≠ 5) ∧ wx = w8)
      case first =>
        cases hnan : nanB y with
        | true =>
          go_wp2_with fail
          refine (mathIsNaN_any _ y hyl.out).mono ?_
          rintro e w9 ⟨rfl, rfl⟩
          rw [hnan]
          go_wp2_with fail
          go_meet
          case rel => exact ⟨false, rfl, fun e => (by cases e), rfl⟩
        | false =>
          go_wp2_with fail
          refine (mathIsNaN_any _ y hyl.out).mono ?_
          rintro e w9 ⟨rfl, rfl⟩
          rw [hnan]
          go_wp2_with fail
          refine (isInf0_any _ y hyl.out).mono ?_
          rintro e w9 ⟨rfl, rfl⟩
          obtain ⟨I, hI⟩ : ∃ I, Hid (decide (y % 9223372036854775808 = 9218868437227405312) = I) := ⟨_, rfl⟩
          rw [hI.out]
          cases I with
          | true =>
            go_wp2_with fail
            go_meet
            case rel => exact ⟨false, rfl, fun e => (by cases e), rfl⟩
          | false =>
            have hz := zero_order hyl.out hnan
            obtain ⟨Z, hZ⟩ : ∃ Z, Hid (decide (y % 9223372036854775808 ≠ 0) = Z) := ⟨_, rfl⟩
            rw [hZ.out] at hz
            cases Z with
            | false =>
              go_wp2_with fail
              go_meet
              case rel => exact ⟨false, rfl, fun e => (by cases e), rfl⟩
            | true =>
              by_cases hn0 : n = 0
              · subst hn0
                go_wp2_with fail
                go_meet
                case rel => exact ⟨false, rfl, fun e => (by cases e), rfl⟩
              · have hp : (0 : Int) < (n : Int) := by omega
                have hl0 : 0 < us.length := by have := hn.out; omega
                obtain ⟨x, hx⟩ : ∃ x, Hid (us[0] = x) := ⟨us[0], rfl⟩
                have hxm : Hid (x ∈ us) := by rw [← hx.out]; exact List.getElem_mem hl0
                obtain ⟨rb, off, rfl, hcell⟩ := (At.of_row hrx6.out) 0 (by simp [fvals]; omega)
                have hcx : w9.cell? ⟨rb, off, none⟩ = some (.float .f64 x) := by
                  rw [Nat.add_zero] at hcell
                  rw [hcell, ← hx.out]
                  simp [fvals]
                clear hcell
                obtain ⟨B, hBB⟩ : ∃ B, Hid ((FloatKind.f64.format.order x 0 != some Ordering.eq) = B) := ⟨_, rfl⟩
                have kB := hBB.out
                have hgood : Hid (B = true → y % 9223372036854775808 < 9218868437227405312 ∧ y % 9223372036854775808 ≠ 0 ∧ ∃ x ∈ us, classB x ≠ 5) := by
                  intro hBt
                  refine ⟨?_, of_decide_eq_true hZ.out, x, hxm.out, zero_class (hbs.out x hxm.out) (hBB.out.trans hBt)⟩
                  have h1 : ¬ y % 9223372036854775808 > 9218868437227405312 := of_decide_eq_false hnan
                  have h2 := of_decide_eq_false hI.out
                  omega
                go_wp2_with fail
                go_meet
                case rel => exact ⟨B, rfl, hgood.out, rfl⟩
      case rest =>
        obtain ⟨Cd, rfl, hCd, rfl⟩ := hcut
        go_upto_if 81 with fail
        go_cut [11] from 16 (fun _ wx => Hid (Row wx (.slice ao n cap) (fvals us)) ∧ Hid (At wx aom (m.map (Value.int .i32))) ∧ Hid (Below W.heap.size W wx))
        case first =>
          cases Cd with
          | false =>
            go_wp2_with fail
            go_meet
            case rel => exact ⟨hrx6.out, hatm6.out, hB6.out⟩
          | true =>
            obtain ⟨f1, f2, x0, hm0, hc0⟩ := hCd.out rfl
            obtain ⟨N, hN⟩ : ∃ N, Hid (Op.negFloat .f64 y = N) := ⟨_, rfl⟩
            have hsm : Hid (sumB (y :: (us ++ [N])) = S) := by
              show _ = _
              rw [← hN.out, sum_more hyl.out f1 f2 hm0 hc0, hS.out]
            have hbm : Hid (Bs (y :: (us ++ [N]))) := by
              intro b hb
              rcases List.mem_cons.1 hb with rfl | hb
              · exact hyl.out
              · rcases List.mem_append.1 hb with hb | hb
                · exact hbs.out b hb
                · simp at hb; subst hb; rw [← hN.out]; exact (neg_facts hyl.out).1
            have kneg := fun w => neg_run y N hN.out w
            have hsz1 : ([y].length + us.length) * 8 ≤ 140737488355328 := by rw [hn.out]; simp; omega
            have hsz2 : ((y :: us).length + [N].length) * 8 ≤ 140737488355328 := by rw [List.length_cons, hn.out]; simp; omega
            have hrx7 : ∀ o, Row (wc.alloc o) (.slice ao n cap) (fvals us) := fun o => Below.row (box_below _ _) hrx6.out
            have hle1 : ∀ o, wc.heap.size ≤ (wc.alloc o).heap.size := fun o => by simp
            clear f1 f2 hm0 hc0
            go_wp2_with (at_builtin; refine wpList_append_floats rfl (.tmp 83) (.tmp 84) rfl wc.heap.size _ _ [y] us rfl (owns_one y) rfl (hrx7 _) hsz1 (hle1 _) ?_)
            intro v1 w9 ho9 hb9
            have ho9' : w9.ownsRow wc.heap.size 26 1 v1 (y :: us).length (fvals (y :: us)) := by simpa using ho9
            have hB8 : Hid (Below wc.heap.size wc w9) := (box_below _ _).trans hb9
            have hle2 : ∀ o, wc.heap.size ≤ (w9.alloc o).heap.size := fun o => by have := hB8.out.size; simp; omega
            clear ho9 hb9 hrx7 hle1
            go_wp2_with (at_builtin; refine wpList_append_floats rfl (.tmp 85) (.tmp 88) rfl wc.heap.size _ _ (y :: us) [N] rfl (ho9'.alloc _) rfl (Row.one N) hsz2 (hle2 _) ?_)
            intro v2 w10 ho10 hb10
            have hrm : Hid (Row w10 v2 (fvals (y :: (us ++ [N])))) := Row.of_owns (base := wc.heap.size) (e := 26) (n := (y :: (us ++ [N])).length) (by simpa using ho10)
            have hB10 : Hid (Below wc.heap.size wc w10) := (hB8.out.alloc hB8.out.size _).trans hb10
            clear ho10 hb10 ho9' hle2 kneg
            go_wp2_with fail
            refine (sum_any _ _ (y :: (us ++ [N])) hrm.out hbm.out).mono ?_
            rintro e w11 ⟨rfl, hb11⟩
            rw [hsm.out]
            have hB11 : Hid (Below wc.heap.size wc w11) := hB10.out.trans (hb11.mono hB10.out.size)
            have hrx11 : Hid (Row w11 (.slice ao n cap) (fvals us)) := Below.row hB11.out hrx6.out
            clear hb11
            go_wp2_with fail
            refine (sum_any _ _ us hrx11.out hbs.out).mono ?_
            rintro e w12 ⟨rfl, hb12⟩
            rw [hS.out]
            have hB12 : Hid (Below wc.heap.size wc w12) := hB11.out.trans (hb12.mono hB11.out.size)
            clear hb12
            go_wp2_with fail
            refine (bits_any _ S S).mono ?_
            rintro e w13 ⟨rfl, rfl⟩
            rw [decide_eq_true rfl]
            go_wp2_with fail
            go_meet
            case rel => exact ⟨Below.row hB12.out hrx6.out, At.below hatm6.out hB12.out, hB6.out.trans (hB12.out.mono hB6.out.size)⟩
        case rest =>
          obtain ⟨hrx9, hatm9, hB9⟩ := hcut
          clear hrx6 hatm6 hB6 hCd
          have hn0 : wc.ownsRow wc.heap.size 26 1 (.slice none 0 0) 0 (fvals []) := ⟨by simp [fvals], Or.inl ⟨rfl, rfl⟩⟩
          go_wp2_with fail
          go_loopw [12, 13, 14] (fun v12 v13 v14 wr => ∃ (i : Nat) (z : Int), i ≤ k ∧ v14 = .int .i64 (i : Int) ∧ v12 = .int .i64 z ∧ Hid (z = (m.take i).sum) ∧ (-1073741824000 ≤ z ∧ z ≤ 1073741824000) ∧ Hid (-2147483648 * (i : Int) ≤ z ∧ z ≤ 2147483648 * (i : Int)) ∧ wr.ownsRow wc.heap.size 26 1 v13 i (fvals ((m.take i).map (floatOfInt .f64))) ∧ Hid (Below wc.heap.size wc wr)) (fun _ _ v _ => k - (intOf v).toNat)
          case atStart => exact ⟨0, 0, by omega, rfl, rfl, rfl, by omega, by show _ ∧ _; omega, hn0, Below.refl _ _⟩
          case round =>
            clear hn0
            obtain ⟨i, z, hi, rfl, rfl, hz, hzb, hzi, ho, hBw⟩ := hrel
            by_cases hik : i = k
            · have hzm : Hid (z = m.sum) := by show _ = _; rw [hz.out, List.take_of_length_le (by have := hk.out; omega)]
              have hrw : Hid (Row wr u13 (fvals (m.map (floatOfInt .f64)))) := by
                have := Row.of_owns ho
                rw [List.take_of_length_le (by have := hk.out; omega)] at this
                exact this
              have hsw : Hid (sumB (m.map (floatOfInt .f64)) = floatOfInt .f64 z) := by
                show _ = _
                rw [hzm.out]
                exact sum_whole m (fun z hz => by have := hwf2.out z hz; omega)
              have hbw : Hid (Bs (m.map (floatOfInt .f64))) := by
                intro b hb
                obtain ⟨z, _, rfl⟩ := List.mem_map.1 hb
                exact (fint_nan z).2
              have hrx10 : Hid (Row wr (.slice ao n cap) (fvals us)) := Below.row hBw.out hrx9.out
              have hB10 : Hid (Below W.heap.size W wr) := hB9.out.trans (hBw.out.mono hB9.out.size)
              have ko := order_fint z
              obtain ⟨X, hX⟩ : ∃ X, Hid (floatOfInt .f64 z = X) := ⟨_, rfl⟩
              have kX := hX.out
              rw [hX.out] at ko hsw
              subst hik
              clear ho hatm9
              go_wp2_with fail
              refine (sum_any _ _ (m.map (floatOfInt .f64)) hrw.out hbw.out).mono ?_
              rintro e w10 ⟨rfl, hb10⟩
              rw [hsw.out]
              have hrx11 : Hid (Row w10 (.slice ao n cap) (fvals us)) := Below.row hb10 hrx10.out
              have hB11 : Hid (Below W.heap.size W w10) := hB10.out.trans (hb10.mono hB10.out.size)
              clear hb10
              by_cases hn1 : (1 : Int) < (n : Int)
              · have hl1 : 1 < us.length := by have := hn.out; omega
                obtain ⟨x, hx⟩ : ∃ x, Hid (us[0] = x) := ⟨us[0], rfl⟩
                obtain ⟨y', hy'⟩ : ∃ x, Hid (us[1] = x) := ⟨us[1], rfl⟩
                have hxl : Hid (x < 18446744073709551616) := by rw [← hx.out]; exact hbs.out _ (List.getElem_mem _)
                have hyl' : Hid (y' < 18446744073709551616) := by rw [← hy'.out]; exact hbs.out _ (List.getElem_mem _)
                obtain ⟨rb, off, rfl, hcell⟩ := (At.of_row hrx11.out) 0 (by simp [fvals]; omega)
                obtain ⟨rb2, off2, he2, hcell2⟩ := (At.of_row hrx11.out) 1 (by simp [fvals]; omega)
                simp only [Option.some.injEq, Addr.mk.injEq] at he2
                obtain ⟨rfl, rfl, _⟩ := he2
                have hcx : w10.cell? ⟨rb, off, none⟩ = some (.float .f64 x) := by
                  rw [Nat.add_zero] at hcell
                  rw [hcell, ← hx.out]
                  simp [fvals]
                have hcy : w10.cell? ⟨rb, off + 1, none⟩ = some (.float .f64 y') := by
                  rw [hcell2, ← hy'.out]
                  simp [fvals]
                have hcx' : Hid (w10.cell? ⟨rb, off, none⟩ = some (.float .f64 x)) := hcx
                have hcy' : Hid (w10.cell? ⟨rb, off + 1, none⟩ = some (.float .f64 y')) := hcy
                have hp0 : (0 : Int) < (n : Int) := by omega
                have hp1 : 0 < n := by omega
                have hp2 : n ≠ 0 := by omega
                clear hcell hcell2
                go_upto_region 28 with fail
                go_cut [15] from 16 (fun s wx => ∃ r : Nat, s = .float .f64 r ∧ Hid (r < 18446744073709551616) ∧ Hid (canonB r = sumB [x, y']) ∧ Hid (Qt w10 wx))
                case first =>
                  rcases add_sum hxl.out hyl'.out with ⟨r, hr, hrl, hcan⟩ | ⟨hnone, hsum⟩
                  · have kadd := fun w => add_some_run x y' r hr w
                    replace hcan : Hid (canonB r = sumB [x, y']) := hcan
                    replace hrl : Hid (r < 18446744073709551616) := hrl
                    clear hr
                    go_quiet (fail)
                    go_wp2_with fail
                    go_meet
                    case rel => exact ⟨r, rfl, hrl.out, hcan.out, ⟨nq, rfl⟩⟩
                  · have kadd := fun w => add_none_run x y' hnone w
                    replace hsum : Hid (sumB [x, y'] = 9221120237041090561) := hsum
                    have hnn : Hid (∀ w, nanAt w x y' < 18446744073709551616 ∧ canonB (nanAt w x y') = sumB [x, y']) := fun w => by
                      obtain ⟨h1, h2⟩ := nan_is w x y'
                      exact ⟨h2, by rw [hsum.out, canonB, h1]; rfl⟩
                    clear hnone
                    go_region
                    all_goals (go_wp2_with fail; go_meet)
                    all_goals exact ⟨nanAt _ x y', rfl, (hnn.out _).1, (hnn.out _).2, ⟨2, rfl⟩⟩
                case rest =>
                  obtain ⟨r, rfl, hrl, hcan, hq⟩ := hcut
                  clear hcx hcy
                  have hcx : Hid (wc.cell? ⟨rb, off, none⟩ = some (.float .f64 x)) := by
                    show _ = _
                    rw [(Qt.below hq.out _).cell (p := ⟨rb, off, none⟩) (lt_of_cell hcx'.out)]; exact hcx'.out
                  have hcy : Hid (wc.cell? ⟨rb, off + 1, none⟩ = some (.float .f64 y')) := by
                    show _ = _
                    rw [(Qt.below hq.out _).cell (p := ⟨rb, off + 1, none⟩) (lt_of_cell hcy'.out)]; exact hcy'.out
                  have hB12 : Hid (Below W.heap.size W wc) := hB11.out.trans (Qt.below hq.out _)
                  obtain ⟨T, hT⟩ : ∃ T, Hid (sumB [x, y'] = T) := ⟨_, rfl⟩
                  rw [hT.out] at hcan
                  have hb2 : Hid (Bs [x, y']) := by
                    intro b hb
                    simp at hb
                    rcases hb with rfl | rfl
                    · exact hxl.out
                    · exact hyl'.out
                  have csum : Hid (∀ (q : World) (o : TypeId), Calls Tryz.prog 11 #[.slice (some ⟨q.heap.size, 0, none⟩) 2 2] (q.alloc (.cells #[.float .f64 x, .float .f64 y'] o)).drew fun e w' => e = .returned (.float .f64 T) ∧ Below (q.alloc (.cells #[.float .f64 x, .float .f64 y'] o)).drew.heap.size (q.alloc (.cells #[.float .f64 x, .float .f64 y'] o)).drew w') := fun q o => by
                    have hr2 : Row (q.alloc (.cells #[.float .f64 x, .float .f64 y'] o)).drew (.slice (some ⟨q.heap.size, 0, none⟩) 2 2) (fvals [x, y']) := Row.two (w := q) (o := o) x y'
                    have := sum_any _ _ [x, y'] hr2 hb2.out
                    rw [hT.out] at this
                    exact this
                  have ccan : Hid (∀ q : World, Calls Tryz.prog 15 #[.float .f64 r] q fun e w' => e = .returned (.float .f64 T) ∧ w' = q) := fun q => by
                    have := canon_any q r hrl.out
                    rw [hcan.out] at this
                    exact this
                  have cbit : Hid (∀ q : World, Calls Tryz.prog 12 #[.float .f64 T, .float .f64 T] q fun e w' => e = .returned (.bool true) ∧ w' = q) := fun q => by
                    have := bits_any q T T
                    rw [decide_eq_true rfl] at this
                    exact this
                  have KS : Hid (∀ q : World, Below wc.heap.size wc q → Below wc.heap.size wc q ∧ q.cell? ⟨rb, off, none⟩ = some (.float .f64 x) ∧ q.cell? ⟨rb, off + 1, none⟩ = some (.float .f64 y')) := fun q hb => ⟨hb, (hb.cell (p := ⟨rb, off, none⟩) (lt_of_cell hcx.out)).trans hcx.out, (hb.cell (p := ⟨rb, off + 1, none⟩) (lt_of_cell hcy.out)).trans hcy.out⟩
                  have hS0 := KS.out wc.drew (Below.refl _ _).drew
                  clear hrl hcan hxl hyl'
                  go_wp2_with fail
                  go_region_held3 (fun q => Below wc.heap.size wc q ∧ q.cell? ⟨rb, off, none⟩ = some (.float .f64 x) ∧ q.cell? ⟨rb, off + 1, none⟩ = some (.float .f64 y'))
                    (first | exact hS0 | assumption | exact KS.out _ (by assumption) | exact KS.out _ (keepW (by assumption) (And.left (by assumption)) (Below.size (And.left (by assumption)))) | exact KS.out _ (Below.alloc (And.left (by assumption)) (Below.size (And.left (by assumption))) _))
                    (first
                      | (go_at_call 11; refine (csum.out _ _).mono ?_; rintro e u1 ⟨rfl, B1⟩)
                      | (go_at_call 15; refine (ccan.out _).mono ?_; rintro e u2 ⟨rfl, rfl⟩)
                      | (go_at_call 12; refine (cbit.out _).mono ?_; rintro e u3 ⟨rfl, rfl⟩))
                  have hfin : Hid (Below W.heap.size W u3) := hB12.out.trans ((And.left (a := Below wc.heap.size wc u3) (by assumption)).mono hB12.out.size)
                  go_wp2
                  go_ret
                  exact ⟨rfl, hfin.out⟩
              · go_wp2
                go_ret
                exact ⟨rfl, hB11.out⟩
            · have hil : i < m.length := by have := hk.out; omega
              obtain ⟨x, hx⟩ : ∃ x, Hid (m[i] = x) := ⟨m[i], rfl⟩
              have hxb : -2147483648 ≤ x ∧ x ≤ 2147483647 := by rw [← hx.out]; exact hwf2.out _ (List.getElem_mem hil)
              obtain ⟨rb, off, rfl, hcell⟩ := hatm9.out i (by simpa using hil)
              have hcx : wr.cell? ⟨rb, off + i, none⟩ = some (.int .i32 x) := by
                rw [hBw.out.cell (p := ⟨rb, off + i, none⟩) (lt_of_cell hcell), hcell, ← hx.out]
                simp
              clear hcell
              have i1 : (i : Int) < (k : Int) := by omega
              have i2 : (0 : Int) ≤ (i : Int) := by omega
              have hz2 : Hid (z + x = (m.take (i + 1)).sum) := by
                show _ = _
                rw [List.take_succ_eq_append_getElem hil, List.sum_append, ← hz.out, hx.out]; simp
              have hzi2 : Hid (-2147483648 * ((i + 1 : Nat) : Int) ≤ z + x ∧ z + x ≤ 2147483648 * ((i + 1 : Nat) : Int)) := by
                have := hzi.out
                show _ ∧ _
                omega
              have hzb2 : -1073741824000 ≤ z + x ∧ z + x ≤ 1073741824000 := by have := hzi2.out; omega
              have hw1 : wrap64 x = x := by unfold wrap64; omega
              have hw2 : wrap64 (z + x) = z + x := by unfold wrap64; omega
              obtain ⟨X, hX⟩ : ∃ X, Hid (floatOfInt .f64 x = X) := ⟨_, rfl⟩
              have kX := hX.out
              have hBs := hBw.out.size
              have hln : ((m.take i).map (floatOfInt .f64)).length = i := by rw [List.length_map, List.length_take]; omega
              have ho2 : wr.ownsRow wc.heap.size 26 1 u13 ((m.take i).map (floatOfInt .f64)).length (fvals ((m.take i).map (floatOfInt .f64))) := by rw [hln]; exact ho
              have hsz2 : (((m.take i).map (floatOfInt .f64)).length + [X].length) * 8 ≤ 140737488355328 := by rw [hln]; simp; omega
              have hbs2 : ∀ o, wc.heap.size ≤ (wr.alloc o).heap.size := fun o => by simp; omega
              clear hzb
              go_wp2_with (at_builtin; refine wpList_append_floats rfl (.tmp 114) (.tmp 120) rfl wc.heap.size _ _ ((m.take i).map (floatOfInt .f64)) [X] rfl (ho2.alloc _) rfl (Row.one X) hsz2 (hbs2 _) ?_)
              intro v' w3 ho3 hg3
              have hb4 : Hid (Below wc.heap.size wc w3) := (hBw.out.alloc (by omega) _).trans hg3
              have hap : Hid ((m.take (i + 1)).map (floatOfInt .f64) = (m.take i).map (floatOfInt .f64) ++ [X]) := by
                show _ = _
                rw [List.take_succ_eq_append_getElem hil, List.map_append, hx.out, List.map_cons, List.map_nil, hX.out]
              have ho4 : Hid (w3.ownsRow wc.heap.size 26 1 v' (i + 1) (fvals ((m.take (i + 1)).map (floatOfInt .f64)))) := by
                show World.ownsRow ..
                rw [hap.out, List.map_take]
                rw [show min i m.length = i by omega] at ho3
                exact ho3
              clear ho ho2 ho3 hg3 hsz2 hbs2 hln
              go_wp2_with fail
              go_roundw
              case rel => exact ⟨i + 1, z + x, by omega, by go_num, by go_num, hz2.out, hzb2, hzi2.out, ho4.out, hb4.out⟩
              case measure => simp [intOf]; omega
    · obtain ⟨j, rfl⟩ : ∃ j, q = j + 1 := ⟨q - 1, by omega⟩
      have hjl : j < us.length := by have := hn.out; omega
      have hj2 : ((j + 1 : Nat) : Int) - 1 = (j : Int) := by omega
      rw [hj2]
      obtain ⟨x, hx⟩ : ∃ x, Hid (us[j] = x) := ⟨us[j], rfl⟩
      obtain ⟨rb, off, rfl, hcell⟩ := hat2.out j (by simp [fvals]; omega)
      have hcx : wr.cell? ⟨rb, off + j, none⟩ = some (.float .f64 x) := by
        rw [hB.out.cell (p := ⟨rb, off + j, none⟩) (lt_of_cell hcell), hcell, ← hx.out]
        simp [fvals]
      clear hcell h0
      have i1 : (j : Int) < (n : Int) := by omega
      have i2 : (0 : Int) ≤ (j : Int) := by omega
      have hBs := hB.out.size
      have hlen2 : (us.drop (j + 1)).reverse.length = n - (j + 1) := by rw [List.length_reverse, List.length_drop, hn.out]
      have ho2 : wr.ownsRow w2.heap.size 26 1 u8 (us.drop (j + 1)).reverse.length (fvals (us.drop (j + 1)).reverse) := by rw [hlen2]; exact ho
      have hsz2 : ((us.drop (j + 1)).reverse.length + [x].length) * 8 ≤ 140737488355328 := by rw [hlen2]; simp; omega
      have hbs2 : ∀ o, w2.heap.size ≤ (wr.alloc o).heap.size := fun o => by simp; omega
      go_wp2_with (at_builtin; refine wpList_append_floats rfl (.tmp 35) (.tmp 40) rfl w2.heap.size _ _ (us.drop (j + 1)).reverse [x] rfl (ho2.alloc _) rfl (Row.one x) hsz2 (hbs2 _) ?_)
      intro v' w3 ho3 hg3
      have hb4 : Hid (Below w2.heap.size w2 w3) := (hB.out.alloc (by omega) _).trans hg3
      have ho4 : Hid (w3.ownsRow w2.heap.size 26 1 v' (n - j) (fvals (us.drop j).reverse)) := by
        show World.ownsRow ..
        rw [drop_rev us j hjl, hx.out]
        rw [show n - j = n - (j + 1) + 1 by omega]
        exact ho3
      clear ho ho2 ho3 hg3 hsz2 hbs2 hlen2
      go_wp2_with fail
      go_roundw
      case rel => exact ⟨j, by omega, by go_num, ho4.out, hb4.out⟩
      case measure => simp [intOf]
#print axioms sums_walk
end Go.Proofs.YtmmmpdfoigkljaaGreatDoor.Rl
