/-
  CatalogAll: the walk.
-/
import Derived.Test.YtdhjlongdfgejaaCryd
import Derived.Test.YtdhjlongdfgejaaCrye
import Derived.Deep.LoopGhost
import Derived.Deep.RegionHeld3
namespace Go.Proofs.Ytdhjlongdfgejaa.Ct
open Go.RowKit

set_option maxRecDepth 20000 in
set_option maxHeartbeats 8000000 in
theorem all_walk (w : World) (os : List Cat) (ao : Option Addr) (ca : Nat) (o : Ask) (_hl : os.length ≤ 9223372036854775807) (hat : AtCats w ao os) (hok : ∀ c ∈ os, CatOk w c) (ho : AskOk o) :
    Calls Try.prog 3 #[.slice ao os.length ca, .agg #[.int .i64 o.ls, .int .i64 o.en, .int .i64 o.sz, .int .u32 (o.se : Int)]] w fun e w' => e = .returned (.bool true) ∧ Below w.heap.size w w' := by
  obtain ⟨N, hN⟩ : ∃ N, Hid (os.length = N) := ⟨_, rfl⟩
  have HA := hide hat
  have HK := hide hok
  have HO := hide ho
  clear hat hok ho
  rw [hN.out]
  obtain ⟨ls, en, sz, se⟩ := o
  dsimp only at HO ⊢
  have X0 := hide (box_below w (.cells #[.int .i64 ls, .int .i64 en, .int .i64 sz, .int .u32 (se : Int)] 25))
  have Z0 := hide (heap_alloc_new w (.cells #[.int .i64 ls, .int .i64 en, .int .i64 sz, .int .u32 (se : Int)] 25))
  go_enter Try.func3, Try.ntmps3
  go_upto_region 1 with fail
  generalize w.alloc (.cells #[.int .i64 ls, .int .i64 en, .int .i64 sz, .int .u32 (se : Int)] 25) = w0 at *
  go_wp2_with fail
  refine (begun_any w0).mono ?_
  rintro e w1 ⟨rfl, b1⟩
  replace b1 := hide b1
  go_wp2_with fail
  go_loopg [5] 20 (fun kx vi wr => ∃ i : Nat, i ≤ N ∧ i ≤ 20 ∧ 20 - i ≤ kx ∧ vi = .int .i64 (i : Int) ∧ Hid (Below w0.heap.size w0 wr))
  case atStart => exact ⟨0, Nat.zero_le _, by omega, by omega, rfl, b1.out⟩
  case round =>
    obtain ⟨i, hi, hi4, hik, rfl, hB⟩ := hrel
    clear b1
    by_cases hlt : ¬ (i < N ∧ i < 20)
    · have hcond : ((i : Int) < (N : Int) ∧ ¬ (i : Int) < 20) ∨ ¬ (i : Int) < (N : Int) := by omega
      rcases hcond with ⟨hz, hz2⟩ | hz
      all_goals
        go_wp2_with fail
        go_ret
        exact ⟨rfl, keepF X0.out hB.out⟩
    obtain ⟨l1, l2⟩ := Classical.not_not.1 hlt
    clear hlt
    have l1' : (i : Int) < (N : Int) := by omega
    have l2' : (i : Int) < 20 := by omega
    have hil : i < os.length := by rw [hN.out]; exact l1
    obtain ⟨bz, oz, rfl, hcz⟩ := HA.out i hil
    have hcok := HK.out _ (List.getElem_mem hil)
    generalize os[i] = c at *
    obtain ⟨g, fi, v, l⟩ := c
    obtain ⟨g1, g2, f1, f2, hsg⟩ := hcok
    dsimp only [CAt] at hcz g1 g2 f1 f2 hsg
    obtain ⟨M, hM⟩ : ∃ M, Hid (l.length = M) := ⟨_, rfl⟩
    obtain ⟨av, cv, rfl, q1, q2⟩ := hsg.form
    rw [hM.out] at hcz hsg q1
    have KC : Hid (∀ q : World, Below w0.heap.size w0 q → ((q.cell? ⟨bz, oz + i * 3, none⟩ = some (.int .i64 g) ∧ q.cell? ⟨bz, oz + i * 3 + 1, none⟩ = some (.int .i64 fi) ∧ q.cell? ⟨bz, oz + i * 3 + 2, none⟩ = some (.slice av M cv)) ∧ (q.cell? ⟨w.heap.size, 0, none⟩ = some (.int .i64 ls) ∧ q.cell? ⟨w.heap.size, 1, none⟩ = some (.int .i64 en) ∧ q.cell? ⟨w.heap.size, 2, none⟩ = some (.int .i64 sz) ∧ q.cell? ⟨w.heap.size, 3, none⟩ = some (.int .u32 (se : Int))))) := fun q hq => by
      have b := keepF X0.out hq
      refine ⟨⟨?_, ?_, ?_⟩, four_cells (by rw [hq.block _ (heap_lt Z0.out)]; exact Z0.out)⟩
      · rw [b.cell (lt_of_cell hcz.1)]; exact hcz.1
      · rw [b.cell (lt_of_cell hcz.2.1)]; exact hcz.2.1
      · rw [b.cell (lt_of_cell hcz.2.2)]; exact hcz.2.2
    have HV := hide (hsg.below X0.out)
    clear hcz hsg
    obtain ⟨⟨z0, z1, z2⟩, _⟩ := KC.out wr hB.out
    by_cases h80 : 80 < M
    · have h80' : (80 : Int) < (M : Int) := by omega
      go_wp2_with fail
      go_roundg (20 - (i + 1))
      case measure => omega
      case rel => exact ⟨i + 1, by omega, by omega, Nat.le_refl _, by go_num, hB.out⟩
    have h80' : ¬ (80 : Int) < (M : Int) := by omega
    go_wp2_with fail
    refine (twin_any wr g fi _ l (HV.out.below hB.out) (by rw [hM.out]; omega)).mono ?_
    rintro e w2 ⟨vt, rfl, T2, b2⟩
    have T2' := T2
    obtain ⟨tb, tc, rfl, _⟩ := T2'
    rw [hM.out] at T2 ⊢
    have X3 := hide (box_below w2 (.cells #[.int .i64 g, .int .i64 fi, .slice (some ⟨tb, 0, none⟩) M tc] 29))
    have D3 : Hid (Bd w0 (w2.alloc (.cells #[.int .i64 g, .int .i64 fi, .slice (some ⟨tb, 0, none⟩) M tc] 29)) (w2.alloc (.cells #[.int .i64 g, .int .i64 fi, .slice (some ⟨tb, 0, none⟩) M tc] 29)).heap.size w2.heap.size g fi (.slice (some ⟨tb, 0, none⟩) M tc) l) := by
      have hb := keepF (keepF hB.out b2) X3.out
      have hT : Tw w0.heap.size (w2.alloc (.cells #[.int .i64 g, .int .i64 fi, .slice (some ⟨tb, 0, none⟩) M tc] 29)) (.slice (some ⟨tb, 0, none⟩) M tc) l := by
        obtain ⟨tb', tc', e, hh⟩ := T2
        exact ⟨tb', tc', e, (hh.low hB.out.size).below X3.out⟩
      exact ⟨hb, heap_alloc_new _ _, hT, hb.size, by simp, fun k hk => (hT.lt k hk).2, Nat.le_refl _⟩
    clear b2 T2 X3 z0 z1 z2
    go_upto_region 8 with fail
    generalize w2.alloc (.cells #[.int .i64 g, .int .i64 fi, .slice (some ⟨tb, 0, none⟩) M tc] 29) = w3 at *
    generalize w2.heap.size = cb at *
    obtain ⟨lim, hlim⟩ : ∃ lim, Hid (w3.heap.size = lim) := ⟨_, rfl⟩
    rw [hlim.out] at D3
    obtain ⟨c0, c1, c2⟩ := three_cells D3.out.cg
    obtain ⟨WE, hWE⟩ : ∃ W, Hid (writeF g fi l = W) := ⟨_, rfl⟩
    obtain ⟨we, wb⟩ := WE
    have CW := hide (write_any w3 g fi _ l D3.out.tw.sgs g2 f2)
    rw [hWE.out] at CW
    go_wp2_with fail
    refine CW.out.mono ?_
    rintro e w4 ⟨vb, rfl, O4, b4⟩
    dsimp only at O4 ⊢
    have D4 := hide (D3.out.below b4)
    have S4 := hide O4.sl
    obtain ⟨ab, cab, rfl⟩ := O4.form
    clear O4 b4 CW D3 c0 c1 c2
    obtain ⟨⟨z0, z1, z2⟩, _⟩ := KC.out w4 D4.out.be
    have CW := hide (refWrite_any w4 g fi _ l (HV.out.below D4.out.be) g2 f2)
    rw [hWE.out] at CW
    go_wp2_with fail
    refine CW.out.mono ?_
    rintro e w5 ⟨vd, rfl, O5, b5⟩
    dsimp only at O5 ⊢
    have D5 := hide (D4.out.below b5)
    have S5 := hide (Below.sl b5 S4.out)
    have P5 := hide O5.sl
    obtain ⟨ad, cad, rfl⟩ := O5.form
    clear O5 b5 CW D4 S4 z0 z1 z2
    obtain ⟨LB, hLB⟩ : ∃ LB, Hid (wb.length = LB) := ⟨_, rfl⟩
    rw [hLB.out] at S5 P5 ⊢
    obtain ⟨c0, c1, c2⟩ := three_cells D5.out.cg
    obtain ⟨_, z3, z4, z5, z6⟩ := KC.out w5 D5.out.be
    obtain ⟨AE, hAE⟩ : ∃ W, Hid (atF g fi l ls = W) := ⟨_, rfl⟩
    obtain ⟨an, ab2⟩ := AE
    have CA := hide (at_any w5 g fi _ l ls D5.out.tw.sgs)
    rw [hAE.out] at CA
    go_wp2_with fail
    refine CA.out.mono ?_
    rintro e w6 ⟨rfl, b6⟩
    dsimp only
    have D6 := hide (D5.out.below b6)
    have S6 := hide (Below.sl b6 S5.out)
    have P6 := hide (Below.sl b6 P5.out)
    clear b6 CA D5 S5 P5 c0 c1 c2 z3 z4 z5 z6
    go_upto_region 11 with fail
    go_cut [13, 14] from 71 to 80 (fun y13 y14 wx => y13 = .int .i64 (an : Int) ∧ y14 = .bool ab2 ∧ Hid (Below w6.heap.size w6 wx))
    case first =>
      as_aux_lemma =>
        have KS : Hid (∀ q : World, Below w6.heap.size w6 q → Below w6.heap.size w6 q ∧ ((q.cell? ⟨bz, oz + i * 3, none⟩ = some (.int .i64 g) ∧ q.cell? ⟨bz, oz + i * 3 + 1, none⟩ = some (.int .i64 fi) ∧ q.cell? ⟨bz, oz + i * 3 + 2, none⟩ = some (.slice av M cv)) ∧ (q.cell? ⟨w.heap.size, 0, none⟩ = some (.int .i64 ls) ∧ q.cell? ⟨w.heap.size, 1, none⟩ = some (.int .i64 en) ∧ q.cell? ⟨w.heap.size, 2, none⟩ = some (.int .i64 sz) ∧ q.cell? ⟨w.heap.size, 3, none⟩ = some (.int .u32 (se : Int))))) := fun q hq => ⟨hq, KC.out q (keepF D6.out.be hq)⟩
        have hS0 := KS.out w6.drew (Below.refl _ _).drew
        have CA : Hid (∀ q : World, Below w6.heap.size w6 q → Calls Try.prog 12 #[.agg #[.int .i64 g, .int .i64 fi, .slice av M cv], .int .i64 ls] q fun e w' => e = .returned (.tuple #[.int .i64 (an : Int), .bool ab2]) ∧ Below q.heap.size q w') := fun q hq => by
          have := refAt_any q g fi _ l ls (HV.out.below (keepF D6.out.be hq))
          rw [hAE.out] at this
          exact this
        go_region_held3 (fun q => Below w6.heap.size w6 q ∧ ((q.cell? ⟨bz, oz + i * 3, none⟩ = some (.int .i64 g) ∧ q.cell? ⟨bz, oz + i * 3 + 1, none⟩ = some (.int .i64 fi) ∧ q.cell? ⟨bz, oz + i * 3 + 2, none⟩ = some (.slice av M cv)) ∧ (q.cell? ⟨w.heap.size, 0, none⟩ = some (.int .i64 ls) ∧ q.cell? ⟨w.heap.size, 1, none⟩ = some (.int .i64 en) ∧ q.cell? ⟨w.heap.size, 2, none⟩ = some (.int .i64 sz) ∧ q.cell? ⟨w.heap.size, 3, none⟩ = some (.int .u32 (se : Int)))))
          (first | exact hS0 | assumption | exact KS.out _ KP | fail)
          (first
            | (go_at_call 12; refine (CA.out _ (And.left (by assumption))).mono ?_; rintro e u1 ⟨rfl, B1⟩; have KP := keepF (And.left (by assumption)) B1; clear B1)
            | fail)
        all_goals
          go_wp2_with fail
          go_meet
          case rel => exact ⟨rfl, rfl, KP⟩
    case rest =>
      obtain ⟨rfl, rfl, hQ7⟩ := hcut
      have D7 := hide (D6.out.below hQ7.out)
      have S7 := hide (Below.sl hQ7.out S6.out)
      have P7 := hide (Below.sl hQ7.out P6.out)
      clear hQ7 D6 S6 P6
      go_upto_region 12 with fail
      go_cut [109] from 81 to 108 (fun y wx => y = .bool false ∧ Hid (Below wc.heap.size wc wx))
      case first =>
        as_aux_lemma =>
          have KS : Hid (∀ q : World, Below wc.heap.size wc q → Below wc.heap.size wc q ∧ (q.cell? ⟨bz, oz + i * 3, none⟩ = some (.int .i64 g) ∧ q.cell? ⟨bz, oz + i * 3 + 1, none⟩ = some (.int .i64 fi) ∧ q.cell? ⟨bz, oz + i * 3 + 2, none⟩ = some (.slice av M cv)) ∧ (q.cell? ⟨cb, 0, none⟩ = some (.int .i64 g) ∧ q.cell? ⟨cb, 1, none⟩ = some (.int .i64 fi) ∧ q.cell? ⟨cb, 2, none⟩ = some (.slice (some ⟨tb, 0, none⟩) M tc))) := fun q hq => ⟨hq, (KC.out q (keepF D7.out.be hq)).1, three_cells (by rw [hq.block _ (heap_lt D7.out.cg)]; exact D7.out.cg)⟩
          have hS0 := KS.out wc.drew (Below.refl _ _).drew
          obtain ⟨mb, hmb⟩ : ∃ mb, Hid (mayB g fi l = mb) := ⟨_, rfl⟩
          have CM : Hid (∀ q : World, Below wc.heap.size wc q → Calls Try.prog 13 #[.agg #[.int .i64 g, .int .i64 fi, .slice (some ⟨tb, 0, none⟩) M tc]] q fun e w' => e = .returned (.bool mb) ∧ Below q.heap.size q w') := fun q hq => by
            have := may_any q g fi _ l (D7.out.tw.sgs.below hq)
            rw [hmb.out] at this
            exact this
          have CR : Hid (∀ q : World, Below wc.heap.size wc q → Calls Try.prog 14 #[.agg #[.int .i64 g, .int .i64 fi, .slice av M cv]] q fun e w' => e = .returned (.bool mb) ∧ Below q.heap.size q w') := fun q hq => by
            have := refMay_any q g fi _ l (HV.out.below (keepF D7.out.be hq))
            rw [hmb.out] at this
            exact this
          have CE : Hid (∀ q : World, Below wc.heap.size wc q → Calls Try.prog 15 #[.slice ab LB cab, .slice ad LB cad] q fun e w' => e = .returned (.bool true) ∧ Below q.heap.size q w') := fun q hq => by
            refine (eq_sl q _ _ wb wb (Below.sl hq S7.out) (Below.sl hq P7.out)).mono ?_
            rintro e u ⟨rfl, Q⟩
            exact ⟨by rw [decide_eq_true rfl], Q.below _⟩
          have n1 : (mb != mb) = false := by simp
          have n2 : (we != we) = false := by simp
          have n3 : ((an : Int) != (an : Int)) = false := by simp
          have n4 : (ab2 != ab2) = false := by simp
          go_region_held3 (fun q => Below wc.heap.size wc q ∧ (q.cell? ⟨bz, oz + i * 3, none⟩ = some (.int .i64 g) ∧ q.cell? ⟨bz, oz + i * 3 + 1, none⟩ = some (.int .i64 fi) ∧ q.cell? ⟨bz, oz + i * 3 + 2, none⟩ = some (.slice av M cv)) ∧ (q.cell? ⟨cb, 0, none⟩ = some (.int .i64 g) ∧ q.cell? ⟨cb, 1, none⟩ = some (.int .i64 fi) ∧ q.cell? ⟨cb, 2, none⟩ = some (.slice (some ⟨tb, 0, none⟩) M tc)))
            (first | exact hS0 | assumption | exact KS.out _ KP3 | exact KS.out _ KP2 | exact KS.out _ KP1 | fail)
            (first
              | (go_at_call 13; refine (CM.out _ (And.left (by assumption))).mono ?_; rintro e u1 ⟨rfl, B1⟩; have KP1 := keepF (And.left (by assumption)) B1; clear B1)
              | (go_at_call 14; refine (CR.out _ (And.left (by assumption))).mono ?_; rintro e u2 ⟨rfl, B2⟩; have KP2 := keepF (And.left (by assumption)) B2; clear B2)
              | (go_at_call 15; refine (CE.out _ (And.left (by assumption))).mono ?_; rintro e u3 ⟨rfl, B3⟩; have KP3 := keepF (And.left (by assumption)) B3; clear B3)
              | fail)
          all_goals
            go_wp2_with fail
            go_meet
            case rel => exact ⟨by first | rfl | simp, KP3⟩
      case rest =>
        obtain ⟨rfl, hQ8⟩ := hcut
        have D8 := hide (D7.out.below hQ8.out)
        clear hQ8 D7 S7 P7 hAE hWE
        clear hB
        go_wp2_with fail
        go_loopg [15] 2 (fun kx vt wr => ∃ t : Nat, t ≤ 2 ∧ 2 - t ≤ kx ∧ vt = .int .i64 (t : Int) ∧ Hid (Bd w0 wr lim cb g fi (.slice (some ⟨tb, 0, none⟩) M tc) l))
        case atStart => exact ⟨0, by omega, Nat.le_refl _, rfl, D8.out⟩
        case round =>
          obtain ⟨t, ht, htk, rfl, hD⟩ := hrel
          clear D8
          by_cases ht2 : ¬ t < 2
          · obtain rfl : t = 2 := by omega
            have hng : ¬ ((2 : Int) < 2) := by omega
            go_upto_region 31 with fail
            have KS : Hid (∀ q : World, Below wr.heap.size wr q → Below wr.heap.size wr q ∧ (q.cell? ⟨cb, 0, none⟩ = some (.int .i64 g) ∧ q.cell? ⟨cb, 1, none⟩ = some (.int .i64 fi) ∧ q.cell? ⟨cb, 2, none⟩ = some (.slice (some ⟨tb, 0, none⟩) M tc)) ∧ (q.cell? ⟨bz, oz + i * 3, none⟩ = some (.int .i64 g) ∧ q.cell? ⟨bz, oz + i * 3 + 1, none⟩ = some (.int .i64 fi) ∧ q.cell? ⟨bz, oz + i * 3 + 2, none⟩ = some (.slice av M cv))) := fun q hq => ⟨hq, three_cells (by rw [hq.block _ (heap_lt hD.out.cg)]; exact hD.out.cg), (KC.out q (keepF hD.out.be hq)).1⟩
            have hS0 := KS.out wr.drew (Below.refl _ _).drew
            have CK : Hid (∀ q : World, Below wr.heap.size wr q → Calls Try.prog 21 #[.agg #[.int .i64 g, .int .i64 fi, .slice (some ⟨tb, 0, none⟩) M tc], .agg #[.int .i64 g, .int .i64 fi, .slice av M cv]] q fun e w' => e = .returned (.bool true) ∧ Below q.heap.size q w') := fun q hq => kept_any q w0.heap.size g fi _ _ l (hD.out.tw.below hq) (HV.out.below (keepF hD.out.be hq)) (by rw [hM.out]; omega)
            go_region_held3 (fun q => Below wr.heap.size wr q ∧ (q.cell? ⟨cb, 0, none⟩ = some (.int .i64 g) ∧ q.cell? ⟨cb, 1, none⟩ = some (.int .i64 fi) ∧ q.cell? ⟨cb, 2, none⟩ = some (.slice (some ⟨tb, 0, none⟩) M tc)) ∧ (q.cell? ⟨bz, oz + i * 3, none⟩ = some (.int .i64 g) ∧ q.cell? ⟨bz, oz + i * 3 + 1, none⟩ = some (.int .i64 fi) ∧ q.cell? ⟨bz, oz + i * 3 + 2, none⟩ = some (.slice av M cv)))
              (first | exact hS0 | assumption | exact KS.out _ KP3 | fail)
              (first
                | (go_at_call 21; refine (CK.out _ (And.left (by assumption))).mono ?_; rintro e u3 ⟨rfl, B3⟩; have KP3 := keepF (And.left (by assumption)) B3; clear B3)
                | fail)
            all_goals
              go_wp2_with fail
              go_roundg (20 - (i + 1))
              case measure => omega
              case rel => exact ⟨i + 1, by omega, by omega, Nat.le_refl _, by go_num, keepF hD.out.be KP3⟩
          have ht2' : (t : Int) < 2 := by omega
          obtain ⟨c0, c1, c2⟩ := three_cells hD.out.cg
          obtain ⟨_, z3, z4, z5, z6⟩ := KC.out wr hD.out.be
          obtain ⟨RF, hRF⟩ : ∃ R, Hid (rollF g fi l en sz se = R) := ⟨_, rfl⟩
          obtain ⟨er, rg, rf, R⟩ := RF
          have hRl : Hid (R.length ≤ 100) := roll_small hRF.out
          have CR := hide (roll_any wr g fi _ l en sz se hD.out.tw.sgs g2 HO.out.b1 HO.out.b2 HO.out.c1 HO.out.c2 HO.out.d)
          rw [hRF.out] at CR
          go_wp2_with fail
          refine CR.out.mono ?_
          rintro e x1 ⟨vr, rfl, O1, b1⟩
          dsimp only at O1 ⊢
          obtain ⟨Rn, hRn⟩ : ∃ n, Hid (R.length = n) := ⟨_, rfl⟩
          obtain ⟨aor, car, rfl, _, _⟩ := O1.form
          rw [hRn.out] at O1 ⊢
          have Y1 := hide (box_below x1 (.cells #[.int .i64 rg, .int .i64 rf, .slice aor Rn car] 29))
          have E2 := hide (hD.out.below (keepF b1 Y1.out))
          have R2 := hide (heap_alloc_new x1 (.cells #[.int .i64 rg, .int .i64 rf, .slice aor Rn car] 29))
          have O2 : Hid (Own lim (x1.alloc (.cells #[.int .i64 rg, .int .i64 rf, .slice aor Rn car] 29)) (.slice aor Rn car) R) := (O1.low hD.out.l3).below Y1.out
          clear O1 b1 Y1 CR hD c0 c1 c2 z3 z4 z5 z6
          go_upto_region 18 with fail
          generalize x1.alloc (.cells #[.int .i64 rg, .int .i64 rf, .slice aor Rn car] 29) = x2 at *
          generalize x1.heap.size = rb at *
          go_cut [18, 19] from 125 to 138 (fun y18 y19 wx => ∃ sb ao2 ca2, y18 = .pointer (some ⟨sb, 0, none⟩) ∧ y19 = .int .i64 er ∧ Hid (x2.heap.size ≤ sb ∧ Below x2.heap.size x2 wx ∧ Own x2.heap.size wx (.slice ao2 Rn ca2) R ∧ wx.heap[sb]? = some (.cells #[.int .i64 rg, .int .i64 rf, .slice ao2 Rn ca2] 29 (0, 0))))
          case first =>
            as_aux_lemma =>
              have KS : Hid (∀ q : World, Below x2.heap.size x2 q → (q.cell? ⟨bz, oz + i * 3, none⟩ = some (.int .i64 g) ∧ q.cell? ⟨bz, oz + i * 3 + 1, none⟩ = some (.int .i64 fi) ∧ q.cell? ⟨bz, oz + i * 3 + 2, none⟩ = some (.slice av M cv)) ∧ (q.cell? ⟨w.heap.size, 0, none⟩ = some (.int .i64 ls) ∧ q.cell? ⟨w.heap.size, 1, none⟩ = some (.int .i64 en) ∧ q.cell? ⟨w.heap.size, 2, none⟩ = some (.int .i64 sz) ∧ q.cell? ⟨w.heap.size, 3, none⟩ = some (.int .u32 (se : Int)))) := fun q hq => KC.out q (keepF E2.out.be hq)
              have hS0 := KS.out x2.drew (Below.refl _ _).drew
              have CR : Hid (∀ q : World, Below x2.heap.size x2 q → Calls Try.prog 17 #[.agg #[.int .i64 g, .int .i64 fi, .slice av M cv], .int .i64 en, .int .i64 sz, .int .u32 (se : Int)] q fun e w' => ∃ ao2 ca2, e = .returned (.tuple #[.agg #[.int .i64 rg, .int .i64 rf, .slice ao2 Rn ca2], .int .i64 er]) ∧ Own q.heap.size w' (.slice ao2 Rn ca2) R ∧ Below q.heap.size q w') := fun q hq => by
                have := refRoll_any q g fi _ l en sz se (HV.out.below (keepF E2.out.be hq)) g2 HO.out.b1 HO.out.b2 HO.out.c1 HO.out.c2 HO.out.d
                rw [hRF.out] at this
                refine this.mono ?_
                rintro e u ⟨v', rfl, O, b⟩
                obtain ⟨ao2, ca2, e2, _, _⟩ := O.form
                dsimp only at e2 O
                rw [hRn.out] at e2
                subst e2
                exact ⟨ao2, ca2, rfl, O, b⟩
              go_region_held3 (fun q => (q.cell? ⟨bz, oz + i * 3, none⟩ = some (.int .i64 g) ∧ q.cell? ⟨bz, oz + i * 3 + 1, none⟩ = some (.int .i64 fi) ∧ q.cell? ⟨bz, oz + i * 3 + 2, none⟩ = some (.slice av M cv)) ∧ (q.cell? ⟨w.heap.size, 0, none⟩ = some (.int .i64 ls) ∧ q.cell? ⟨w.heap.size, 1, none⟩ = some (.int .i64 en) ∧ q.cell? ⟨w.heap.size, 2, none⟩ = some (.int .i64 sz) ∧ q.cell? ⟨w.heap.size, 3, none⟩ = some (.int .u32 (se : Int))))
                (first | exact hS0 | assumption | exact KS.out _ (box_below x2 _).drew | exact KS.out _ KP.out | exact KS.out _ (keepF KP.out (box_below _ _)) | exact KS.out _ (put3_below KP.out (Nat.le_refl _) _ _ _) | fail)
                (first
                  | (go_at_call 17; refine (CR.out x2.drew (Below.refl _ x2).drew).mono ?_; rintro e u1 ⟨aon, can, rfl, O1, B1⟩; have KP : Hid (Below x2.heap.size x2 u1) := keepF (Below.refl _ x2).drew B1; replace O1 : Hid (Own x2.heap.size u1 (.slice aon Rn can) R) := O1; clear B1)
                  | (go_at_call 17; refine (CR.out (x2.alloc (.cells #[.int .i64 0, .int .i64 0, .slice none 0 0] 29)).drew (box_below x2 _).drew).mono ?_; rintro e u1 ⟨aon, can, rfl, O1, B1⟩; have KP : Hid (Below x2.heap.size x2 u1) := keepF (box_below x2 _).drew B1; replace O1 : Hid (Own x2.heap.size u1 (.slice aon Rn can) R) := O1.low (by simp [World.drew]); have ZB : Hid (u1.heap[x2.heap.size]? = some (.cells #[.int .i64 0, .int .i64 0, .slice none 0 0] 29 (0, 0))) := hide (by rw [B1.block x2.heap.size (by simp [World.drew])]; exact heap_alloc_new x2 _); obtain ⟨y0, y1, y2⟩ := three_cells ZB.out; obtain ⟨x0', x1', x2'⟩ := three_frozen ZB.out; clear B1)
                  | fail)
              · go_wp2_with fail
                go_meet
                case rel => exact ⟨u1.heap.size, aon, can, rfl, rfl, KP.out.size, keepF KP.out (box_below _ _), O1.out.below (box_below _ _), heap_alloc_new _ _⟩
              · go_wp2_with fail
                go_meet
                case rel =>
                  refine ⟨x2.heap.size, aon, can, rfl, rfl, ?_⟩
                  have q1 := put3_below KP.out (Nat.le_refl _) (.int .i64 rg) (.int .i64 rf) (.slice aon Rn can)
                  have q2 := O1.out.put3 ZB.out (by decide) (.int .i64 rg) (.int .i64 rf) (.slice aon Rn can)
                  have q3 := put3_heap ZB.out (.int .i64 rg) (.int .i64 rf) (.slice aon Rn can)
                  exact ⟨Nat.le_refl _, q1, q2, q3⟩
          case rest =>
            obtain ⟨sb, ao2, ca2, rfl, rfl, hc⟩ := hcut
            obtain ⟨_, bb3, O3, S3⟩ := hc.out
            replace O3 := hide O3
            replace S3 := hide S3
            have E3 := hide (E2.out.below bb3)
            have R3 : Hid (wc.heap[rb]? = some (.cells #[.int .i64 rg, .int .i64 rf, .slice aor Rn car] 29 (0, 0))) := by show _ = _; rw [bb3.block _ (heap_lt R2.out)]; exact R2.out
            have Q3 := hide (O2.out.below bb3)
            have hOs : Hid (∀ k, Value.ownBlock (.slice aor Rn car) = some k → k < wc.heap.size) := fun k hk => (Q3.out.lt k hk).2
            clear bb3 hc E2 R2 O2 hRF
            obtain ⟨c0, c1, c2⟩ := three_cells E3.out.cg
            obtain ⟨_, z3, z4, z5, z6⟩ := KC.out wc E3.out.be
            obtain ⟨CF, hCF⟩ : ∃ R, Hid (cutF g fi l ls = R) := ⟨_, rfl⟩
            obtain ⟨ec, cg, cf, D, G⟩ := CF
            have hDG := hide (cut_small hCF.out (by rw [hM.out]; omega))
            have CC := hide (cut_any wc g fi _ l ls E3.out.tw.sgs g2)
            rw [hCF.out] at CC
            go_wp2_with fail
            refine CC.out.mono ?_
            rintro e y1 ⟨vd, vg, rfl, O4, I4, b4⟩
            dsimp only at O4 I4 ⊢
            obtain ⟨Dn, hDn⟩ : ∃ n, Hid (D.length = n) := ⟨_, rfl⟩
            obtain ⟨Gn, hGn⟩ : ∃ n, Hid (G.length = n) := ⟨_, rfl⟩
            obtain ⟨aod, cad, rfl, _, _⟩ := O4.form
            obtain ⟨aog, cag, rfl, _, _⟩ := I4.form
            rw [hDn.out] at O4 ⊢
            rw [hGn.out] at I4 ⊢
            have Y4 := hide (box_below y1 (.cells #[.int .i64 cg, .int .i64 cf, .slice aod Dn cad] 29))
            have b45 := hide (keepF b4 Y4.out)
            have E4 := hide (E3.out.below b45.out)
            have T4 := hide (heap_alloc_new y1 (.cells #[.int .i64 cg, .int .i64 cf, .slice aod Dn cad] 29))
            have R4 : Hid ((y1.alloc (.cells #[.int .i64 cg, .int .i64 cf, .slice aod Dn cad] 29)).heap[rb]? = some (.cells #[.int .i64 rg, .int .i64 rf, .slice aor Rn car] 29 (0, 0))) := by show _ = _; rw [b45.out.block _ (heap_lt R3.out)]; exact R3.out
            have S4 : Hid ((y1.alloc (.cells #[.int .i64 cg, .int .i64 cf, .slice aod Dn cad] 29)).heap[sb]? = some (.cells #[.int .i64 rg, .int .i64 rf, .slice ao2 Rn ca2] 29 (0, 0))) := by show _ = _; rw [b45.out.block _ (heap_lt S3.out)]; exact S3.out
            have Q4 := hide (Q3.out.below b45.out)
            have P4 := hide (O3.out.below b45.out)
            have hne : Hid (∀ k, Value.ownBlock (.slice aor Rn car) = some k → Value.ownBlock (.slice aod Dn cad) ≠ some k) := fun k hk e => by have := hOs.out k hk; have := (O4.lt k e).1; omega
            have A4 : Hid (Own lim (y1.alloc (.cells #[.int .i64 cg, .int .i64 cf, .slice aod Dn cad] 29)) (.slice aod Dn cad) D) := (O4.low E3.out.l3).below Y4.out
            have J4 : Hid (IOwn lim (y1.alloc (.cells #[.int .i64 cg, .int .i64 cf, .slice aod Dn cad] 29)) (.slice aog Gn cag) G) := (I4.low E3.out.l3).below Y4.out
            clear O4 I4 b4 b45 Y4 CC E3 R3 S3 Q3 O3 hOs c0 c1 c2 z3 z4 z5 z6
            go_upto_region 20 with fail
            generalize y1.alloc (.cells #[.int .i64 cg, .int .i64 cf, .slice aod Dn cad] 29) = y2 at *
            generalize y1.heap.size = ub at *
            go_cut [23, 24, 25] from 147 to 157 (fun y23 y24 y25 wx => ∃ vb ao5 ca5 ag5 cg5, y23 = .pointer (some ⟨vb, 0, none⟩) ∧ y24 = .slice ag5 Gn cg5 ∧ y25 = .int .i64 ec ∧ Hid (Below y2.heap.size y2 wx ∧ Own y2.heap.size wx (.slice ao5 Dn ca5) D ∧ IOwn y2.heap.size wx (.slice ag5 Gn cg5) G ∧ wx.heap[vb]? = some (.cells #[.int .i64 cg, .int .i64 cf, .slice ao5 Dn ca5] 29 (0, 0))))
            case first =>
              as_aux_lemma =>
                have KS : Hid (∀ q : World, Below y2.heap.size y2 q → (q.cell? ⟨bz, oz + i * 3, none⟩ = some (.int .i64 g) ∧ q.cell? ⟨bz, oz + i * 3 + 1, none⟩ = some (.int .i64 fi) ∧ q.cell? ⟨bz, oz + i * 3 + 2, none⟩ = some (.slice av M cv)) ∧ (q.cell? ⟨w.heap.size, 0, none⟩ = some (.int .i64 ls) ∧ q.cell? ⟨w.heap.size, 1, none⟩ = some (.int .i64 en) ∧ q.cell? ⟨w.heap.size, 2, none⟩ = some (.int .i64 sz) ∧ q.cell? ⟨w.heap.size, 3, none⟩ = some (.int .u32 (se : Int)))) := fun q hq => KC.out q (keepF E4.out.be hq)
                have hS0 := KS.out y2.drew (Below.refl _ _).drew
                have CR : Hid (∀ q : World, Below y2.heap.size y2 q → Calls Try.prog 19 #[.agg #[.int .i64 g, .int .i64 fi, .slice av M cv], .int .i64 ls] q fun e w' => ∃ ao2 ca2 ag2 cg2, e = .returned (.tuple #[.agg #[.int .i64 cg, .int .i64 cf, .slice ao2 Dn ca2], .slice ag2 Gn cg2, .int .i64 ec]) ∧ Own q.heap.size w' (.slice ao2 Dn ca2) D ∧ IOwn q.heap.size w' (.slice ag2 Gn cg2) G ∧ Below q.heap.size q w') := fun q hq => by
                  have := refCut_any q g fi _ l ls (HV.out.below (keepF E4.out.be hq)) g2
                  rw [hCF.out] at this
                  refine this.mono ?_
                  rintro e u ⟨v', u', rfl, O, I, b⟩
                  obtain ⟨ao2, ca2, e2, _, _⟩ := O.form
                  obtain ⟨ag2, cg2, e3, _, _⟩ := I.form
                  dsimp only at e2 e3 O I
                  rw [hDn.out] at e2
                  rw [hGn.out] at e3
                  subst e2 e3
                  exact ⟨ao2, ca2, ag2, cg2, rfl, O, I, b⟩
                go_region_held3 (fun q => (q.cell? ⟨bz, oz + i * 3, none⟩ = some (.int .i64 g) ∧ q.cell? ⟨bz, oz + i * 3 + 1, none⟩ = some (.int .i64 fi) ∧ q.cell? ⟨bz, oz + i * 3 + 2, none⟩ = some (.slice av M cv)) ∧ (q.cell? ⟨w.heap.size, 0, none⟩ = some (.int .i64 ls) ∧ q.cell? ⟨w.heap.size, 1, none⟩ = some (.int .i64 en) ∧ q.cell? ⟨w.heap.size, 2, none⟩ = some (.int .i64 sz) ∧ q.cell? ⟨w.heap.size, 3, none⟩ = some (.int .u32 (se : Int))))
                  (first | exact hS0 | assumption | exact KS.out _ (box_below y2 _).drew | exact KS.out _ KP.out | exact KS.out _ (keepF KP.out (box_below _ _)) | exact KS.out _ (put3_below KP.out (Nat.le_refl _) _ _ _) | fail)
                  (first
                    | (go_at_call 19; refine (CR.out y2.drew (Below.refl _ y2).drew).mono ?_; rintro e u1 ⟨aon, can, agn, cgn, rfl, O1, I1, B1⟩; have KP : Hid (Below y2.heap.size y2 u1) := keepF (Below.refl _ y2).drew B1; replace O1 : Hid (Own y2.heap.size u1 (.slice aon Dn can) D) := O1; replace I1 : Hid (IOwn y2.heap.size u1 (.slice agn Gn cgn) G) := I1; clear B1)
                    | (go_at_call 19; refine (CR.out (y2.alloc (.cells #[.int .i64 0, .int .i64 0, .slice none 0 0] 29)).drew (box_below y2 _).drew).mono ?_; rintro e u1 ⟨aon, can, agn, cgn, rfl, O1, I1, B1⟩; have KP : Hid (Below y2.heap.size y2 u1) := keepF (box_below y2 _).drew B1; replace O1 : Hid (Own y2.heap.size u1 (.slice aon Dn can) D) := O1.low (by simp [World.drew]); replace I1 : Hid (IOwn y2.heap.size u1 (.slice agn Gn cgn) G) := I1.low (by simp [World.drew]); have ZB : Hid (u1.heap[y2.heap.size]? = some (.cells #[.int .i64 0, .int .i64 0, .slice none 0 0] 29 (0, 0))) := hide (by rw [B1.block y2.heap.size (by simp [World.drew])]; exact heap_alloc_new y2 _); obtain ⟨y0, y1, y2'⟩ := three_cells ZB.out; obtain ⟨x0', x1', x2'⟩ := three_frozen ZB.out; clear B1)
                    | fail)
                · go_wp2_with fail
                  go_meet
                  case rel => exact ⟨u1.heap.size, aon, can, agn, cgn, rfl, rfl, rfl, keepF KP.out (box_below _ _), O1.out.below (box_below _ _), I1.out.below (box_below _ _), heap_alloc_new _ _⟩
                · go_wp2_with fail
                  go_meet
                  case rel =>
                    refine ⟨y2.heap.size, aon, can, agn, cgn, rfl, rfl, rfl, ?_⟩
                    have q1 := put3_below KP.out (Nat.le_refl _) (.int .i64 cg) (.int .i64 cf) (.slice aon Dn can)
                    have q2 := O1.out.put3 ZB.out (by decide) (.int .i64 cg) (.int .i64 cf) (.slice aon Dn can)
                    have q4 := I1.out.put3 ZB.out (by decide) (.int .i64 cg) (.int .i64 cf) (.slice aon Dn can)
                    have q3 := put3_heap ZB.out (.int .i64 cg) (.int .i64 cf) (.slice aon Dn can)
                    exact ⟨q1, q2, q4, q3⟩
            case rest =>
              obtain ⟨vb, ao5, ca5, ag5, cg5, rfl, rfl, rfl, hc⟩ := hcut
              obtain ⟨bb5, A5, J5, U5⟩ := hc.out
              obtain ⟨y5, hy5⟩ : ∃ y5, wc = y5 := ⟨_, rfl⟩
              subst hy5
              replace A5 := hide A5
              replace U5 := hide U5
              have M5 : Hid (Rd w0 wc lim cb g fi (.slice (some ⟨tb, 0, none⟩) M tc) l rb ub #[.int .i64 rg, .int .i64 rf, .slice aor Rn car] #[.int .i64 cg, .int .i64 cf, .slice aod Dn cad] (.slice aor Rn car) (.slice aod Dn cad) R D) := ⟨E4.out.below bb5, by rw [bb5.block _ (heap_lt R4.out)]; exact R4.out, by rw [bb5.block _ (heap_lt T4.out)]; exact T4.out, Q4.out.below bb5, A4.out.below bb5, hne.out⟩
              have S5 : Hid (wc.heap[sb]? = some (.cells #[.int .i64 rg, .int .i64 rf, .slice ao2 Rn ca2] 29 (0, 0))) := by show _ = _; rw [bb5.block _ (heap_lt S4.out)]; exact S4.out
              have P5 := hide (P4.out.below bb5)
              have I5 := hide (J4.out.below bb5)
              have L5 : Hid (IOwn lim wc (.slice ag5 Gn cg5) G) := J5.low (Nat.le_trans E4.out.l3 (Nat.le_refl _))
              have hgl : Hid (∀ k, Value.ownBlock (.slice aog Gn cag) = some k → Value.ownBlock (.slice ag5 Gn cg5) ≠ some k) := fun k hk e => by have := (J4.out.lt' k hk).2; have := (J5.lt' k e).1; omega
              clear bb5 hc J5 E4 R4 S4 T4 Q4 P4 A4 J4 hne hCF
              go_upto_region 21 with fail
              go_cut [193] from 158 to 192 (fun y wx => y = .bool false ∧ Hid (Below wc.heap.size wc wx))
              case first =>
                as_aux_lemma =>
                  obtain ⟨y5, hy5⟩ : ∃ y5, wc = y5 := ⟨_, rfl⟩
                  rw [hy5] at M5 S5 U5 P5 A5 I5 L5 ⊢
                  have KS : Hid (∀ q : World, Below y5.heap.size y5 q → Below y5.heap.size y5 q ∧ (q.cell? ⟨rb, 0, none⟩ = some (.int .i64 rg) ∧ q.cell? ⟨rb, 1, none⟩ = some (.int .i64 rf) ∧ q.cell? ⟨rb, 2, none⟩ = some (.slice aor Rn car)) ∧ (q.cell? ⟨sb, 0, none⟩ = some (.int .i64 rg) ∧ q.cell? ⟨sb, 1, none⟩ = some (.int .i64 rf) ∧ q.cell? ⟨sb, 2, none⟩ = some (.slice ao2 Rn ca2)) ∧ (q.cell? ⟨ub, 0, none⟩ = some (.int .i64 cg) ∧ q.cell? ⟨ub, 1, none⟩ = some (.int .i64 cf) ∧ q.cell? ⟨ub, 2, none⟩ = some (.slice aod Dn cad)) ∧ (q.cell? ⟨vb, 0, none⟩ = some (.int .i64 cg) ∧ q.cell? ⟨vb, 1, none⟩ = some (.int .i64 cf) ∧ q.cell? ⟨vb, 2, none⟩ = some (.slice ao5 Dn ca5)) ∧ (q.cell? ⟨cb, 0, none⟩ = some (.int .i64 g) ∧ q.cell? ⟨cb, 1, none⟩ = some (.int .i64 fi) ∧ q.cell? ⟨cb, 2, none⟩ = some (.slice (some ⟨tb, 0, none⟩) M tc)) ∧ (q.cell? ⟨bz, oz + i * 3, none⟩ = some (.int .i64 g) ∧ q.cell? ⟨bz, oz + i * 3 + 1, none⟩ = some (.int .i64 fi) ∧ q.cell? ⟨bz, oz + i * 3 + 2, none⟩ = some (.slice av M cv))) := fun q hq => ⟨hq, three_cells (by rw [hq.block _ (heap_lt M5.out.rg)]; exact M5.out.rg), three_cells (by rw [hq.block _ (heap_lt S5.out)]; exact S5.out), three_cells (by rw [hq.block _ (heap_lt M5.out.tg)]; exact M5.out.tg), three_cells (by rw [hq.block _ (heap_lt U5.out)]; exact U5.out), three_cells (by rw [hq.block _ (heap_lt M5.out.bd.cg)]; exact M5.out.bd.cg), (KC.out q (keepF M5.out.bd.be hq)).1⟩
                  have hS0 := KS.out y5.drew (Below.refl _ _).drew
                  have CE1 : Hid (∀ q : World, Below y5.heap.size y5 q → Calls Try.prog 20 #[.agg #[.int .i64 rg, .int .i64 rf, .slice aor Rn car], .agg #[.int .i64 rg, .int .i64 rf, .slice ao2 Rn ca2]] q fun e w' => e = .returned (.bool true) ∧ Below q.heap.size q w') := fun q hq => eq_same q rg rf _ _ R (M5.out.ow.sgs.below hq) (P5.out.sgs.below hq)
                  have CE2 : Hid (∀ q : World, Below y5.heap.size y5 q → Calls Try.prog 20 #[.agg #[.int .i64 cg, .int .i64 cf, .slice aod Dn cad], .agg #[.int .i64 cg, .int .i64 cf, .slice ao5 Dn ca5]] q fun e w' => e = .returned (.bool true) ∧ Below q.heap.size q w') := fun q hq => eq_same q cg cf _ _ D (M5.out.od.sgs.below hq) (A5.out.sgs.below hq)
                  have CK : Hid (∀ q : World, Below y5.heap.size y5 q → Calls Try.prog 21 #[.agg #[.int .i64 g, .int .i64 fi, .slice (some ⟨tb, 0, none⟩) M tc], .agg #[.int .i64 g, .int .i64 fi, .slice av M cv]] q fun e w' => e = .returned (.bool true) ∧ Below q.heap.size q w') := fun q hq => kept_any q w0.heap.size g fi _ _ l (M5.out.bd.tw.below hq) (HV.out.below (keepF M5.out.bd.be hq)) (by rw [hM.out]; omega)
                  have n1 : (er != er) = false := by simp
                  have n2 : (ec != ec) = false := by simp
                  have n3 : ((Gn : Int) != (Gn : Int)) = false := by simp
                  go_region_held3 (fun q => Below y5.heap.size y5 q ∧ (q.cell? ⟨rb, 0, none⟩ = some (.int .i64 rg) ∧ q.cell? ⟨rb, 1, none⟩ = some (.int .i64 rf) ∧ q.cell? ⟨rb, 2, none⟩ = some (.slice aor Rn car)) ∧ (q.cell? ⟨sb, 0, none⟩ = some (.int .i64 rg) ∧ q.cell? ⟨sb, 1, none⟩ = some (.int .i64 rf) ∧ q.cell? ⟨sb, 2, none⟩ = some (.slice ao2 Rn ca2)) ∧ (q.cell? ⟨ub, 0, none⟩ = some (.int .i64 cg) ∧ q.cell? ⟨ub, 1, none⟩ = some (.int .i64 cf) ∧ q.cell? ⟨ub, 2, none⟩ = some (.slice aod Dn cad)) ∧ (q.cell? ⟨vb, 0, none⟩ = some (.int .i64 cg) ∧ q.cell? ⟨vb, 1, none⟩ = some (.int .i64 cf) ∧ q.cell? ⟨vb, 2, none⟩ = some (.slice ao5 Dn ca5)) ∧ (q.cell? ⟨cb, 0, none⟩ = some (.int .i64 g) ∧ q.cell? ⟨cb, 1, none⟩ = some (.int .i64 fi) ∧ q.cell? ⟨cb, 2, none⟩ = some (.slice (some ⟨tb, 0, none⟩) M tc)) ∧ (q.cell? ⟨bz, oz + i * 3, none⟩ = some (.int .i64 g) ∧ q.cell? ⟨bz, oz + i * 3 + 1, none⟩ = some (.int .i64 fi) ∧ q.cell? ⟨bz, oz + i * 3 + 2, none⟩ = some (.slice av M cv)))
                    (first | exact hS0 | assumption | exact KS.out _ KP3 | exact KS.out _ KP2 | exact KS.out _ KP1 | fail)
                    (first
                      | (go_at_call 21; refine (CK.out _ (And.left (by assumption))).mono ?_; rintro e u3 ⟨rfl, B3⟩; have KP3 := keepF (And.left (by assumption)) B3; clear B3)
                      | (go_at_call 20; have gd := CE1; refine (CE1.out _ (And.left (by assumption))).mono ?_; rintro e u1 ⟨rfl, B1⟩; have KP1 := keepF (And.left (by assumption)) B1; clear B1 gd CE1)
                      | (go_at_call 20; refine (CE2.out _ (And.left (by assumption))).mono ?_; rintro e u2 ⟨rfl, B2⟩; have KP2 := keepF (And.left (by assumption)) B2; clear B2)
                      | fail)
                  all_goals
                    go_wp2_with fail
                    go_meet
                    case rel => exact ⟨by first | rfl | simp, by rw [hy5]; exact KP3⟩
              case rest =>
                obtain ⟨rfl, hQ6⟩ := hcut
                have M6 := hide (M5.out.below hQ6.out)
                have I6 := hide (I5.out.below hQ6.out)
                have L6 := hide (L5.out.below hQ6.out)
                clear hQ6 M5 S5 U5 P5 A5 I5 L5
                go_wp2_with fail
                go_loopg [26] Gn (fun kx vx wr => ∃ x : Nat, x ≤ Gn ∧ Gn - x ≤ kx ∧ vx = .int .i64 (x : Int) ∧ Hid (Rd w0 wr lim cb g fi (.slice (some ⟨tb, 0, none⟩) M tc) l rb ub #[.int .i64 rg, .int .i64 rf, .slice aor Rn car] #[.int .i64 cg, .int .i64 cf, .slice aod Dn cad] (.slice aor Rn car) (.slice aod Dn cad) R D) ∧ Hid (IOwn lim wr (.slice aog Gn cag) (goneL G x)) ∧ Hid (IOwn lim wr (.slice ag5 Gn cg5) G))
                case atStart => exact ⟨0, Nat.zero_le _, Nat.le_refl _, rfl, M6.out, by show IOwn _ _ _ _; simpa [goneL] using I6.out, L6.out⟩
                case round =>
                  obtain ⟨x, hx, hxk, rfl, hM7, hI7, hL7⟩ := hrel
                  clear M6 I6 L6
                  by_cases hxl : x < Gn
                  · have hxl' : (x : Int) < (Gn : Int) := by omega
                    have hxg : x < G.length := by rw [hGn.out]; exact hxl
                    obtain ⟨yv, hyv⟩ : ∃ y, Hid (G[x]? = some y) := ⟨G[x], List.getElem?_eq_getElem hxg⟩
                    obtain ⟨gb, gc, ex, k0, k1⟩ := hI7.out.cell (j := x) (by rw [goneL_len (by omega)]; exact hxg) (y := yv) (by rw [goneL_get]; exact hyv.out)
                    obtain ⟨hb, hc, ey, m0, m1⟩ := hL7.out.cell (j := x) hxg (y := yv) hyv.out
                    simp only [Value.slice.injEq] at ex ey
                    obtain ⟨rfl, _, rfl⟩ := ex
                    obtain ⟨rfl, _, rfl⟩ := ey
                    have ny : (yv != yv) = false := by simp
                    go_upto_region 26 with fail
                    go_quiet (fail)
                    generalize hWq : wr.drewN _ = Wq
                    have QB : Hid (Below wr.heap.size wr Wq) := (show Qt wr Wq from ⟨_, hWq.symm⟩).below _
                    have M8 := hide (hM7.out.below QB.out)
                    have I8 := hide (hI7.out.below QB.out)
                    have L8 := hide (hL7.out.below QB.out)
                    clear k0 k1 m0 m1 hWq QB hM7 hI7 hL7
                    obtain ⟨gb', gc', ex, k0, k1⟩ := I8.out.cell (j := x) (by rw [goneL_len (by omega)]; exact hxg) (y := yv) (by rw [goneL_get]; exact hyv.out)
                    simp only [Value.slice.injEq, Option.some.injEq, Addr.mk.injEq] at ex
                    obtain ⟨⟨rfl, _⟩, _, _⟩ := ex
                    have BT : Hid (But (fun k => Value.ownBlock (.slice (some ⟨gb, 0, none⟩) Gn cag) = some k) Wq (Wq.setCell ⟨gb, x, none⟩ (.int .i64 (-1)))) := But.of_grownBy (grown_setCell Wq gb x _) fun k e => e
                    have M9 := hide (M8.out.num I8.out BT.out)
                    have I9 := hide (I8.out.stored (by rw [goneL_len (by omega)]; exact hGn.out) x (-1))
                    rw [goneL_set hxg] at I9
                    have L9 := hide (L8.out.but BT.out (fun k hk e => hgl.out k e hk))
                    go_wp2_with fail
                    go_roundg (Gn - (x + 1))
                    case measure => omega
                    case rel => exact ⟨x + 1, by omega, Nat.le_refl _, by go_num, M9.out, I9.out, L9.out⟩
                  · obtain rfl : x = Gn := by omega
                    have hng : ¬ ((x : Int) < (x : Int)) := by omega
                    obtain ⟨c0, c1, c2⟩ := three_cells hM7.out.rg
                    go_wp2_with fail
                    refine (spoil_any wr lim rg rf _ R hM7.out.ow hRl.out).mono ?_
                    rintro e v1 ⟨rfl, B1⟩
                    have D9 := hide (hM7.out.bd.but B1 (fun k hk => (hM7.out.ow.lt k hk).1))
                    have T9 := hide (B1.at hM7.out.tg (hM7.out.ow.no hM7.out.tg (by decide)))
                    have O9 := hide (hM7.out.od.but B1 (fun k hk e => hM7.out.ne k e hk))
                    clear B1 hM7 hI7 hL7 c0 c1 c2
                    obtain ⟨c0, c1, c2⟩ := three_cells T9.out
                    go_wp2_with fail
                    refine (spoil_any v1 lim cg cf _ D O9.out hDG.out.1).mono ?_
                    rintro e v2 ⟨rfl, B2⟩
                    have D10 := hide (D9.out.but B2 (fun k hk => (O9.out.lt k hk).1))
                    clear B2 D9 T9 O9 c0 c1 c2
                    go_wp2_with fail
                    go_roundg (2 - (t + 1))
                    case measure => omega
                    case rel => exact ⟨t + 1, by omega, Nat.le_refl _, by go_num, D10.out⟩
#print axioms all_walk
end Go.Proofs.Ytdhjlongdfgejaa.Ct
