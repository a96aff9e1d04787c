/-
  CatalogRuns: the walk.
-/
import Derived.Test.YtdhjlongdfgejaaCtT
import Derived.Deep.LoopGhost
namespace Go.Proofs.Ytdhjlongdfgejaa.Ct
open Go.RowKit

set_option maxRecDepth 20000 in
set_option maxHeartbeats 2000000 in
theorem runs_walk (w : World) (base : Int) (os : List Ask) (ao : Option Addr) (ca : Nat) (hb2 : base ≤ 9223372036854775807) (hl : os.length ≤ 9223372036854775807) (hat : AtAsks w ao os) (hok : ∀ o ∈ os, AskOk o) :
    Calls Try.prog 5 #[.int .i64 base, .slice ao os.length ca] w fun e w' => e = .returned (.bool true) ∧ Below w.heap.size w w' := by
  obtain ⟨N, hN⟩ : ∃ N, Hid (os.length = N) := ⟨_, rfl⟩
  have HA := hide hat
  have HK := hide hok
  clear hat hok
  rw [hN.out] at hl ⊢
  go_enter Try.func5, Try.ntmps5
  go_wp2_with fail
  refine (begun_any w).mono ?_
  rintro e w1 ⟨rfl, b1⟩
  have B1 := hide b1
  clear b1
  by_cases h1 : base < 1
  · go_wp2_with fail
    go_ret
    exact ⟨rfl, B1.out⟩
  by_cases h2 : 1152921504606846976 < base
  · go_wp2_with fail
    go_ret
    exact ⟨rfl, B1.out⟩
  go_upto_region 6 with fail
  have S3 : Hid (Stc w ((w1.alloc (.cells #[.int .i64 1, .int .i64 base, .int .u32 0, .int .i64 0, .int .i64 0] 53)).alloc (.cells #[.int .i64 1, .int .i64 base, .slice (some ⟨w1.heap.size, 0, none⟩) 1 1] 29)) (w1.heap.size + 1) 1 base (.slice (some ⟨w1.heap.size, 0, none⟩) 1 1) [⟨1, base, 0, 0, 0⟩]) := by
    have o1 := one_own B1.out.size ⟨1, base, 0, 0, 0⟩ (sin_one (by omega) hb2)
    have x1 := box_below w1 (.cells #[.int .i64 1, .int .i64 base, .int .u32 0, .int .i64 0, .int .i64 0] 53)
    have x2 := box_below (w1.alloc (.cells #[.int .i64 1, .int .i64 base, .int .u32 0, .int .i64 0, .int .i64 0] 53)) (.cells #[.int .i64 1, .int .i64 base, .slice (some ⟨w1.heap.size, 0, none⟩) 1 1] 29)
    refine ⟨by have := B1.out.size; omega, keepF (keepF B1.out x1) x2, ?_, o1.below x2, may_one (by omega), by decide, hb2⟩
    have := heap_alloc_new (w1.alloc (.cells #[.int .i64 1, .int .i64 base, .int .u32 0, .int .i64 0, .int .i64 0] 53)) (.cells #[.int .i64 1, .int .i64 base, .slice (some ⟨w1.heap.size, 0, none⟩) 1 1] 29)
    simpa using this
  generalize ((w1.alloc (.cells #[.int .i64 1, .int .i64 base, .int .u32 0, .int .i64 0, .int .i64 0] 53)).alloc (.cells #[.int .i64 1, .int .i64 base, .slice (some ⟨w1.heap.size, 0, none⟩) 1 1] 29)) = w3 at *
  generalize w1.heap.size + 1 = cb at *
  generalize Value.slice (some ⟨w1.heap.size, 0, none⟩) 1 1 = v3 at *
  clear h1 h2 B1
  go_wp2_with fail
  go_loopg [6] N (fun kx vi wr => ∃ i : Nat, i ≤ N ∧ N - i ≤ kx ∧ vi = .int .i64 (i : Int) ∧ Hid (∃ g f v l, Stc w wr cb g f v l))
  case atStart => exact ⟨0, Nat.zero_le _, Nat.le_refl _, rfl, _, _, _, _, S3.out⟩
  case round =>
    obtain ⟨i, hi, hkx, rfl, hS⟩ := hrel
    have hS' := hS.out
    obtain ⟨g, f, v, l, hT⟩ := hS'
    clear hS S3
    have S0 := hide hT
    clear hT
    by_cases hlt : ¬ i < N
    · obtain rfl : i = N := by omega
      have hng : ¬ ((i : Int) < (i : Int)) := by omega
      go_wp2_with fail
      go_ret
      exact ⟨rfl, S0.out.bel⟩
    have hlt' : (i : Int) < (N : Int) := by omega
    by_cases h100 : ¬ i < 100
    · have hng : ¬ ((i : Int) < 100) := by omega
      go_wp2_with fail
      go_ret
      exact ⟨rfl, S0.out.bel⟩
    have h100' : (i : Int) < 100 := by omega
    obtain ⟨qb, qo, rfl, q0, q1, q2, q3⟩ := HA.out i (by rw [hN.out]; omega)
    have hoo := HK.out _ (List.getElem_mem (show i < os.length by rw [hN.out]; omega))
    generalize os[i]'(by rw [hN.out]; omega) = o at *
    obtain ⟨ls, en, sz, se⟩ := o
    dsimp only at q0 q1 q2 q3
    rw [← S0.out.bel.cell (lt_of_cell q0)] at q0
    rw [← S0.out.bel.cell (lt_of_cell q1)] at q1
    rw [← S0.out.bel.cell (lt_of_cell q2)] at q2
    rw [← S0.out.bel.cell (lt_of_cell q3)] at q3
    have HO := hide hoo
    clear hoo
    go_upto_region 10 with fail
    have D1 := hide (heap_alloc_new wr (.cells #[.int .i64 ls, .int .i64 en, .int .i64 sz, .int .u32 (se : Int)] 25))
    have S1 := hide (S0.out.below (box_below wr (.cells #[.int .i64 ls, .int .i64 en, .int .i64 sz, .int .u32 (se : Int)] 25)))
    generalize wr.alloc (.cells #[.int .i64 ls, .int .i64 en, .int .i64 sz, .int .u32 (se : Int)] 25) = Wa at *
    generalize wr.heap.size = ob at *
    clear q0 q1 q2 q3 S0
    obtain ⟨M, hM⟩ : ∃ M, Hid (l.length = M + 1) := ⟨l.length - 1, by have := S1.out.may.n1; show _ = _; omega⟩
    obtain ⟨vb, vo, vc, rfl, vc1, vc2, hc⟩ := S1.out.own.sgs.at (by rw [hM.out]; omega)
    rw [hM.out] at S1 vc1 hc
    have HC := hide hc
    clear hc
    obtain ⟨c0, c1, c2⟩ := three_cells S1.out.blk
    have hM64 : M < 64 := by have := S1.out.may.n2; rw [hM.out] at this; omega
    obtain ⟨k0, k1, k2, k3, k4⟩ := HC.out M (by omega)
    have hls : Hid (lastS l = sg l M) := by show _ = _; unfold lastS; rw [hM.out]; rfl
    have hsin := S1.out.own.1.sg M
    generalize hLS : sg l M = L at *
    obtain ⟨Ln, Lb, Ls, Le, Lz⟩ := L
    dsimp only at k0 k1 k2 k3 k4
    have hw0 : IntKind.i64.wrap (M : Int) = (M : Int) := by rw [IntKind.wrap_i64]; omega
    go_upto_region 11 with fail
    have L2 := hide (heap_alloc_new Wa (.cells #[.int .i64 Ln, .int .i64 Lb, .int .u32 (Ls : Int), .int .i64 Le, .int .i64 Lz] 53))
    have X2 := hide (box_below Wa (.cells #[.int .i64 Ln, .int .i64 Lb, .int .u32 (Ls : Int), .int .i64 Le, .int .i64 Lz] 53))
    have S2 := hide (S1.out.below X2.out)
    have D2 : Hid ((Wa.alloc (.cells #[.int .i64 Ln, .int .i64 Lb, .int .u32 (Ls : Int), .int .i64 Le, .int .i64 Lz] 53)).heap[ob]? = some (.cells #[.int .i64 ls, .int .i64 en, .int .i64 sz, .int .u32 (se : Int)] 25 (0, 0))) := by show _ = _; rw [X2.out.block _ (heap_lt D1.out)]; exact D1.out
    generalize Wa.alloc (.cells #[.int .i64 Ln, .int .i64 Lb, .int .u32 (Ls : Int), .int .i64 Le, .int .i64 Lz] 53) = Wb at *
    generalize Wa.heap.size = lb at *
    clear c0 c1 c2 k0 k1 k2 k3 k4 X2 S1 D1 HC
    obtain ⟨c0, c1, c2⟩ := three_cells S2.out.blk
    obtain ⟨d0, d1, d2, d3⟩ := four_cells D2.out
    obtain ⟨l0, l1, l2, l3, l4⟩ := five_cells L2.out
    have hEN1 : Hid (-9223372036854775808 ≤ wrap64 (Lb + en.tmod 1000) ∧ wrap64 (Lb + en.tmod 1000) ≤ 9223372036854775807) := by unfold wrap64; show _ ∧ _; omega
    have hSZ1 : Hid (-9223372036854775808 ≤ wrap64 (32 + sz.tmod 100000) ∧ wrap64 (32 + sz.tmod 100000) ≤ 9223372036854775807) := by unfold wrap64; show _ ∧ _; omega
    go_wp2_with fail
    generalize wrap64 (Lb + en.tmod 1000) = EN at *
    generalize wrap64 (32 + sz.tmod 100000) = SZ at *
    refine (roll_any Wb g f _ l EN SZ se S2.out.own.sgs S2.out.g2 hEN1.out.1 hEN1.out.2 hSZ1.out.1 hSZ1.out.2 HO.out.d).mono ?_
    rintro e Wd ⟨vd, rfl, O3, b3⟩
    have RC := hide (roll_cases S2.out.may EN SZ se)
    have RI : Hid ((lastS l).nm ≠ 9223372036854775807 → AIn (rolled l EN SZ se)) := fun h => rolled_in S2.out.own.1 (by have := S2.out.own.1.sg (l.length - 1); have := this.a2; unfold lastS at h ⊢; omega) hEN1.out.1 hEN1.out.2 hSZ1.out.1 hSZ1.out.2 HO.out.d
    replace O3 := hide O3
    obtain ⟨R, hR⟩ : ∃ R, Hid (rollF g f l EN SZ se = R) := ⟨_, rfl⟩
    rw [hR.out] at O3 RC ⊢
    obtain ⟨E, g', f', D⟩ := R
    dsimp only at O3 RC ⊢
    obtain ⟨aod, cad, rfl, _, _⟩ := O3.out.form
    obtain ⟨Dn, hDn⟩ : ∃ Dn, Hid (D.length = Dn) := ⟨_, rfl⟩
    rw [hDn.out] at O3 ⊢
    have S3 := hide (S2.out.below b3)
    have D3 : Hid (Wd.heap[ob]? = some (.cells #[.int .i64 ls, .int .i64 en, .int .i64 sz, .int .u32 (se : Int)] 25 (0, 0))) := by show _ = _; rw [b3.block _ (heap_lt D2.out)]; exact D2.out
    have L3 : Hid (Wd.heap[lb]? = some (.cells #[.int .i64 Ln, .int .i64 Lb, .int .u32 (Ls : Int), .int .i64 Le, .int .i64 Lz] 53 (0, 0))) := by show _ = _; rw [b3.block _ (heap_lt L2.out)]; exact L2.out
    have O3' : Hid (Own w.heap.size Wd (.slice aod Dn cad) D) := O3.out.low S2.out.bel.size
    clear c0 c1 c2 d0 d1 d2 d3 l0 l1 l2 l3 l4 b3 O3 S2 D2 L2
    go_upto_if 73 with fail
    have X4 := hide (box_below Wd (.cells #[.int .i64 g', .int .i64 f', .slice aod Dn cad] 29))
    have E4 := hide (heap_alloc_new Wd (.cells #[.int .i64 g', .int .i64 f', .slice aod Dn cad] 29))
    have S4 := hide (S3.out.below X4.out)
    have O4 := hide (O3'.out.below X4.out)
    have D4 : Hid ((Wd.alloc (.cells #[.int .i64 g', .int .i64 f', .slice aod Dn cad] 29)).heap[ob]? = some (.cells #[.int .i64 ls, .int .i64 en, .int .i64 sz, .int .u32 (se : Int)] 25 (0, 0))) := by show _ = _; rw [X4.out.block _ (heap_lt D3.out)]; exact D3.out
    have L4 : Hid ((Wd.alloc (.cells #[.int .i64 g', .int .i64 f', .slice aod Dn cad] 29)).heap[lb]? = some (.cells #[.int .i64 Ln, .int .i64 Lb, .int .u32 (Ls : Int), .int .i64 Le, .int .i64 Lz] 53 (0, 0))) := by show _ = _; rw [X4.out.block _ (heap_lt L3.out)]; exact L3.out
    have hdc : Hid (cb ≠ Wd.heap.size) := by have := heap_lt S3.out.blk; show _ ≠ _; omega
    have hdl : Hid (w.heap.size ≤ Wd.heap.size) := S3.out.bel.size
    generalize Wd.alloc (.cells #[.int .i64 g', .int .i64 f', .slice aod Dn cad] 29) = We at *
    generalize Wd.heap.size = db at *
    clear X4 S3 D3 L3 O3'
    go_cut [11] from 33 to 253 (fun _ wx => Hid (∃ g f v l, Stc w wx cb g f v l ∧ wx.heap[ob]? = some (.cells #[.int .i64 ls, .int .i64 en, .int .i64 sz, .int .u32 (se : Int)] 25 (0, 0)) ∧ ∃ a0 a1 a2, wx.heap[db]? = some (.cells #[a0, a1, a2] 29 (0, 0))))
    case first =>
      as_aux_lemma =>
        have hoc : Hid (ob ≠ cb) := fun e => by have h1 := D4.out; have h2 := S4.out.blk; rw [e, h2] at h1; simp at h1
        by_cases hE : ¬ E = 0
        · go_wp2_with fail
          go_meet
          case rel => exact ⟨g, f, _, l, S4.out, D4.out, _, _, _, E4.out⟩
        rcases RC.out with hc | ⟨hc1, hc2, hc3, hc4⟩
        · exact absurd hc hE
        simp only [Prod.mk.injEq] at hc1
        obtain ⟨hc5, hc6, hc7, hc8⟩ := hc1
        subst hc5 hc6 hc7 hc8
        have hR1 := rolled_sg1 l EN SZ se
        have hR2 := rolled_sg2 (l := l) (by rw [hM.out]; omega) EN SZ se
        have hRl := rolled_len (l := l) (by rw [hM.out]; omega) EN SZ se
        rw [hls.out] at hR1 hR2 hc4
        rw [hM.out] at hR1 hR2 hRl
        rw [Nat.add_sub_cancel] at hR1
        obtain rfl : Dn = M + 2 := by rw [← hDn.out, hRl]
        have hc2' := hide hc2
        generalize rolled l EN SZ se = D at *
        obtain ⟨zb, zo, zc, ez, zc1, zc2, hz⟩ := O4.out.sgs.at (by rw [hDn.out]; omega)
        rw [hDn.out] at ez zc1 hz
        simp only [Value.slice.injEq, true_and] at ez
        obtain ⟨rfl, rfl⟩ := ez
        obtain ⟨z0, z1, z2, z3, z4⟩ := hz M (by omega)
        obtain ⟨y0, y1, y2, y3, y4⟩ := hz (M + 1) (by omega)
        rw [hR1] at z0 z1 z2 z3 z4
        rw [hR2] at y0 y1 y2 y3 y4
        dsimp only at z0 z1 z2 z3 z4 y0 y1 y2 y3 y4 hc4
        obtain ⟨c0, c1, c2⟩ := three_cells S4.out.blk
        obtain ⟨f0, f1, f2⟩ := three_frozen S4.out.blk
        obtain ⟨e0, e1, e2⟩ := three_cells E4.out
        obtain ⟨d0, d1, d2, d3⟩ := four_cells D4.out
        obtain ⟨l0, l1, l2, l3, l4⟩ := five_cells L4.out
        have hg1 : 1 ≤ g := S4.out.may.g1
        have hg2 : g < 9223372036854775807 := by have := S4.out.g2; omega
        have hLn : 1 ≤ Ln := by have := (S4.out.may.nmba (i := M) (by rw [hM.out]; omega)).1; rw [hLS] at this; exact this
        have hLn2 : Ln < 9223372036854775807 := by have := hsin.a2; dsimp only at this; omega
        have S5 := hide (S4.out.put O4.out hc2'.out (by omega) S4.out.f2)
        have hwg : IntKind.i64.wrap (g + 1) = g + 1 := by rw [IntKind.wrap_i64]; omega
        have hwL : IntKind.i64.wrap (Ln + 1) = Ln + 1 := by rw [IntKind.wrap_i64]; omega
        have hwM : IntKind.i64.wrap ((M : Int) + 1 + 1) = (M : Int) + 2 := by rw [IntKind.wrap_i64]; omega
        have hwM0 : IntKind.i64.wrap ((M : Int) + 1 - 1) = (M : Int) := by rw [IntKind.wrap_i64]; omega
        have iM0 : (0 : Int) ≤ (M : Int) := by omega
        have iM1 : (M : Int) < (M : Int) + 2 := by omega
        have iM2 : (M : Int) + 1 < (M : Int) + 2 := by omega
        have iM3 : (0 : Int) ≤ (M : Int) + 1 := by omega
        clear hz hR1 hR2 hRl hc2 hDn hE RC RI hR hc3
        go_upto_region 14 with fail
        go_quiet (fail)
        generalize hWq : We.drewN _ = Wq
        have Q4 : Hid (Below We.heap.size We Wq) := (show Qt We Wq from ⟨_, hWq.symm⟩).below _
        clear c0 c1 c2 f0 f1 f2 e0 e1 e2 d0 d1 d2 d3 l0 l1 l2 l3 l4 z0 z1 z2 z3 z4 y0 y1 y2 y3 y4 hWq
        have Sq := hide (S4.out.below Q4.out)
        have Oq := hide (O4.out.below Q4.out)
        have Eq : Hid (Wq.heap[db]? = some (.cells #[.int .i64 (g + 1), .int .i64 f', .slice (some ⟨zb, zo, none⟩) (M + 2) cad] 29 (0, 0))) := by show _ = _; rw [Q4.out.block _ (heap_lt E4.out)]; exact E4.out
        have Dq : Hid (Wq.heap[ob]? = some (.cells #[.int .i64 ls, .int .i64 en, .int .i64 sz, .int .u32 (se : Int)] 25 (0, 0))) := by show _ = _; rw [Q4.out.block _ (heap_lt D4.out)]; exact D4.out
        obtain ⟨c0, c1, c2⟩ := three_cells Sq.out.blk
        obtain ⟨f0, f1, f2⟩ := three_frozen Sq.out.blk
        obtain ⟨e0, e1, e2⟩ := three_cells Eq.out
        clear hwg hwL hwM hwM0 iM0 iM1 iM2 iM3 hLn hLn2 hM64 vc1 vc2 zc1 zc2 hw0 hsin HA HK HO hEN1 hSZ1
        go_wp2_with fail
        go_meet
        case rel =>
          have r0 := Sq.out.put Oq.out hc2'.out (by omega) S4.out.f2
          have r1 := put3_other Wq cb ob (.int .i64 (g + 1)) (.int .i64 f') (.slice (some ⟨zb, zo, none⟩) (M + 2) cad) hoc.out
          have r2 := put3_other Wq cb db (.int .i64 (g + 1)) (.int .i64 f') (.slice (some ⟨zb, zo, none⟩) (M + 2) cad) (fun e => hdc.out e.symm)
          rw [Dq.out] at r1
          rw [Eq.out] at r2
          exact ⟨_, _, _, _, r0, r1, _, _, _, r2⟩
    case rest =>
      have hx := hcut.out
      obtain ⟨g2, f2, v2, l2, T5, D5, a0, a1, a2, E5⟩ := hx
      replace T5 := hide T5
      replace D5 := hide D5
      replace E5 := hide E5
      clear hcut S4 O4 D4 E4 L4 RC RI hR hDn hls hLS hsin hM hM64 hw0 vc1 vc2 hEN1 hSZ1
      obtain ⟨M2, hM⟩ : ∃ M, Hid (l2.length = M + 1) := ⟨l2.length - 1, by have := T5.out.may.n1; show _ = _; omega⟩
      obtain ⟨xb, xo, xc, rfl, xc1, xc2, hc⟩ := T5.out.own.sgs.at (by rw [hM.out]; omega)
      rw [hM.out] at T5 xc1 hc
      have HC := hide hc
      clear hc
      have hM64 : M2 < 64 := by have := T5.out.may.n2; rw [hM.out] at this; omega
      obtain ⟨c0, c1, c2⟩ := three_cells T5.out.blk
      obtain ⟨d0, d1, d2, d3⟩ := four_cells D5.out
      have hNN : Hid (-9223372036854775808 ≤ wrap64 (f2 + ls.tmod 500) ∧ wrap64 (f2 + ls.tmod 500) ≤ 9223372036854775807) := by unfold wrap64; show _ ∧ _; omega
      go_upto_region 17 with fail
      go_wp2_with fail
      generalize wrap64 (f2 + ls.tmod 500) = NN at *
      refine (cut_any wc g2 f2 _ l2 NN T5.out.own.sgs T5.out.g2).mono ?_
      rintro e Wf ⟨vd, vu, rfl, O6, I6, b6⟩
      have CC := hide (cut_cases T5.out.may NN)
      replace O6 := hide O6
      replace I6 := hide I6
      obtain ⟨R, hR⟩ : ∃ R, Hid (cutF g2 f2 l2 NN = R) := ⟨_, rfl⟩
      rw [hR.out] at O6 I6 CC ⊢
      obtain ⟨E2, g3, f3, D, U⟩ := R
      dsimp only at O6 I6 CC ⊢
      obtain ⟨aoz, caz, rfl, _, _⟩ := O6.out.form
      obtain ⟨aou, cau, rfl, _, _⟩ := I6.out.form
      obtain ⟨Dm, hDm⟩ : ∃ Dn, Hid (D.length = Dn) := ⟨_, rfl⟩
      obtain ⟨Um, hUm⟩ : ∃ Dn, Hid (U.length = Dn) := ⟨_, rfl⟩
      rw [hDm.out] at O6 ⊢
      rw [hUm.out] at I6 ⊢
      have T6 := hide (T5.out.below b6)
      have HC6 : Hid (∀ i, i < M2 + 1 → SAt Wf xb (xo + i * 5) (sg l2 i)) := fun i hi => (HC.out i hi).below b6
      have E6 : Hid (Wf.heap[db]? = some (.cells #[a0, a1, a2] 29 (0, 0))) := by show _ = _; rw [b6.block _ (heap_lt E5.out)]; exact E5.out
      replace O6 : Hid (Own w.heap.size Wf (.slice aoz Dm caz) D) := O6.out.low T5.out.bel.size
      replace I6 : Hid (IOwn w.heap.size Wf (.slice aou Um cau) U) := I6.out.low T5.out.bel.size
      clear c0 c1 c2 d0 d1 d2 d3 b6 T5 D5 E5 HC hR
      obtain ⟨e0, e1, e2⟩ := three_cells E6.out
      obtain ⟨f0, f1, f2'⟩ := three_frozen E6.out
      go_upto_if 151 with fail
      have T7 : Hid (Stc w (((Wf.setCell ⟨db, 0, none⟩ (.int .i64 g3)).setCell ⟨db, 1, none⟩ (.int .i64 f3)).setCell ⟨db, 2, none⟩ (.slice aoz Dm caz)) cb g2 f2 (.slice (some ⟨xb, xo, none⟩) (M2 + 1) xc) l2) := T6.out.other E6.out hdc.out hdl.out _ _ _
      have O7 : Hid (Own w.heap.size (((Wf.setCell ⟨db, 0, none⟩ (.int .i64 g3)).setCell ⟨db, 1, none⟩ (.int .i64 f3)).setCell ⟨db, 2, none⟩ (.slice aoz Dm caz)) (.slice aoz Dm caz) D) := O6.out.put3 E6.out (by decide) _ _ _
      have I7 : Hid (IOwn w.heap.size (((Wf.setCell ⟨db, 0, none⟩ (.int .i64 g3)).setCell ⟨db, 1, none⟩ (.int .i64 f3)).setCell ⟨db, 2, none⟩ (.slice aoz Dm caz)) (.slice aou Um cau) U) := I6.out.put3 E6.out (by decide) _ _ _
      have E7 : Hid ((((Wf.setCell ⟨db, 0, none⟩ (.int .i64 g3)).setCell ⟨db, 1, none⟩ (.int .i64 f3)).setCell ⟨db, 2, none⟩ (.slice aoz Dm caz)).heap[db]? = some (.cells #[.int .i64 g3, .int .i64 f3, .slice aoz Dm caz] 29 (0, 0))) := put3_heap E6.out _ _ _
      generalize (((Wf.setCell ⟨db, 0, none⟩ (.int .i64 g3)).setCell ⟨db, 1, none⟩ (.int .i64 f3)).setCell ⟨db, 2, none⟩ (.slice aoz Dm caz)) = Wg at *
      have HC7 : Hid (∀ i, i < M2 + 1 → SAt Wg xb (xo + i * 5) (sg l2 i)) := by
        obtain ⟨pb, po, pc, pe, _, _, ph⟩ := T7.out.own.sgs.at (by rw [hM.out]; omega)
        rw [hM.out] at pe ph
        simp only [Value.slice.injEq, Option.some.injEq, Addr.mk.injEq, true_and, and_true] at pe
        obtain ⟨⟨rfl, rfl⟩, rfl⟩ := pe
        exact ph
      clear e0 e1 e2 f0 f1 f2' T6 O6 I6 E6 HC6
      go_cut [13, 14, 15] from 33 to 253 (fun _ _ _ wx => Hid (∃ g f v l, Stc w wx cb g f v l))
      case first =>
        as_aux_lemma =>
          by_cases hE : ¬ E2 = 0
          · go_wp2_with fail
            go_meet
            case rel => exact ⟨_, _, _, _, T7.out⟩
          rcases CC.out with hc | ⟨k, hk, hk2, hk3, hk4⟩
          · exact absurd hc hE
          simp only [Prod.mk.injEq] at hk4
          obtain ⟨hc5, hc6, hc7, hc8, hc9⟩ := hk4
          subst hc5 hc6 hc7 hc8 hc9
          have HK2 := hide hk
          have hkl := hk.lt
          have hMay2 := hide (T7.out.may.cut hk hk2)
          rw [hM.out] at hkl
          obtain ⟨Q, hQ⟩ : ∃ Q, Hid (M2 + 1 = k + Q ∧ 1 ≤ Q) := ⟨M2 + 1 - k, by show _ ∧ _; omega⟩
          obtain rfl : Dm = Q := by have := hQ.out; rw [← hDm.out, List.length_drop, hM.out]; omega
          obtain rfl : Um = k := by rw [← hUm.out, List.length_map, List.length_take, hM.out]; omega
          obtain ⟨zb, zo, zc, ez, zc1, zc2, hz⟩ := O7.out.sgs.at (by rw [hDm.out]; exact hQ.out.2)
          rw [hDm.out] at ez zc1 hz
          simp only [Value.slice.injEq, true_and] at ez
          obtain ⟨rfl, rfl⟩ := ez
          have HZ : Hid (∀ i, i < Dm → SAt Wg zb (zo + i * 5) (sg l2 (Um + i))) := fun i hi => by have := hz i hi; rw [sg_drop] at this; exact this
          have HU : Hid (∀ j, j < Um → ∃ ub, aou = some ⟨ub, 0, none⟩ ∧ Wg.cell? ⟨ub, j, none⟩ = some (.int .i64 (sg l2 j).nm)) := by
            intro j hj
            have I7' := I7.out
            rcases I7.out.2 with ⟨_, e⟩ | ⟨gg, cap, cur, hv, _, hh, a, b, c, d⟩
            · rw [hUm.out] at e; omega
            · simp only [Value.slice.injEq] at hv
              obtain ⟨rfl, _, rfl⟩ := hv
              refine ⟨gg, rfl, ?_⟩
              have := World.ownsRow.cells (g := gg) I7' rfl j (.int .i64 (sg l2 j).nm) (by
                unfold ivals
                rw [List.getElem?_map, List.getElem?_map, List.getElem?_take_of_lt hj, List.getElem?_eq_getElem (by rw [hM.out]; omega), sg_get (by rw [hM.out]; omega)]
                rfl)
              rw [addr_add] at this
              simpa using this
          obtain ⟨c0, c1, c2⟩ := three_cells T7.out.blk
          obtain ⟨e0, e1, e2⟩ := three_cells E7.out
          have hg1 : 1 ≤ g2 := T7.out.may.g1
          have hg2 : g2 < 9223372036854775807 := by have := T7.out.g2; omega
          have hwg : IntKind.i64.wrap (g2 + 1) = g2 + 1 := by rw [IntKind.wrap_i64]; omega
          have hwl : IntKind.i64.wrap ((Um : Int) + (Dm : Int)) = (M2 : Int) + 1 := by have := hQ.out; rw [IntKind.wrap_i64]; omega
          clear hz hk hE CC hDm hUm hk2 hk3 zc1 zc2
          go_wp2_with fail
          go_loopg [13] (M2 + 1) (fun kx vj wr => ∃ j : Nat, j ≤ M2 + 1 ∧ M2 + 1 - j ≤ kx ∧ vj = .int .i64 (j : Int) ∧ Hid (Below Wg.heap.size Wg wr))
          case atStart => exact ⟨0, Nat.zero_le _, Nat.le_refl _, rfl, Below.refl _ _⟩
          case round =>
            obtain ⟨j, hj, hjx, rfl, hW⟩ := hrel
            have T8 := hide (T7.out.below hW.out)
            have E8 : Hid (wr.heap[db]? = some (.cells #[.int .i64 (g2 + 1), .int .i64 f3, .slice (some ⟨zb, zo, none⟩) Dm caz] 29 (0, 0))) := by show _ = _; rw [hW.out.block _ (heap_lt E7.out)]; exact E7.out
            clear c0 c1 c2 e0 e1 e2
            obtain ⟨c0, c1, c2⟩ := three_cells T8.out.blk
            obtain ⟨e0, e1, e2⟩ := three_cells E8.out
            by_cases hjl : ¬ j < M2 + 1
            · obtain rfl : j = M2 + 1 := by omega
              have hng : ¬ ((M2 : Int) + 1 < (M2 : Int) + 1) := by omega
              obtain ⟨f0, f1, f2'⟩ := three_frozen T8.out.blk
              have O8 := hide (O7.out.below hW.out)
              clear hwl
              go_wp2_with fail
              go_meet
              case rel => exact ⟨_, _, _, _, T8.out.put O8.out hMay2.out (by omega) hNN.out.2⟩
            have hjl' : (j : Int) < (M2 : Int) + 1 := by omega
            obtain ⟨k0, k1, k2, k3, k4⟩ := (HC7.out j (by omega)).below hW.out
            have CG := hide (cut_goes T7.out.may HK2.out (j := j) (by rw [hM.out]; omega))
            obtain ⟨sJ, hsJ⟩ : ∃ s, Hid (sg l2 j = s) := ⟨_, rfl⟩
            rw [hsJ.out] at CG k0 k1 k2 k3 k4
            obtain ⟨Jn, Jb, Js, Je, Jz⟩ := sJ
            dsimp only at CG k0 k1 k2 k3 k4
            go_upto_region 25 with fail
            have X9 := hide (box_below wr (.cells #[.int .i64 Jn, .int .i64 Jb, .int .u32 (Js : Int), .int .i64 Je, .int .i64 Jz] 53))
            have K9 := hide (heap_alloc_new wr (.cells #[.int .i64 Jn, .int .i64 Jb, .int .u32 (Js : Int), .int .i64 Je, .int .i64 Jz] 53))
            have W9 := hide (keepF hW.out X9.out)
            have E9 : Hid ((wr.alloc (.cells #[.int .i64 Jn, .int .i64 Jb, .int .u32 (Js : Int), .int .i64 Je, .int .i64 Jz] 53)).heap[db]? = some (.cells #[.int .i64 (g2 + 1), .int .i64 f3, .slice (some ⟨zb, zo, none⟩) Dm caz] 29 (0, 0))) := by show _ = _; rw [X9.out.block _ (heap_lt E8.out)]; exact E8.out
            generalize wr.alloc (.cells #[.int .i64 Jn, .int .i64 Jb, .int .u32 (Js : Int), .int .i64 Je, .int .i64 Jz] 53) = Wh at *
            generalize wr.heap.size = jb at *
            clear c0 c1 c2 e0 e1 e2 k0 k1 k2 k3 k4 X9 hW T8 E8
            obtain ⟨e0, e1, e2⟩ := three_cells E9.out
            obtain ⟨k0, k1, k2, k3, k4⟩ := five_cells K9.out
            have hq := segNeq
            by_cases hjk : j < Um
            · obtain ⟨p1, p2⟩ := CG.out.1 hjk
              obtain ⟨ub, rfl, huc⟩ := HU.out j hjk
              rw [hsJ.out, ← W9.out.cell (lt_of_cell huc)] at huc
              have hjk' : (j : Int) < (Um : Int) := by omega
              have p3 : (Je != 0) = true := by simp [p1]
              have p4 : decide (Je ≤ f3) = true := by simp [p2]
              clear CG
              go_upto_region 26 with fail
              go_quiet (fail)
              go_wp2_with fail
              go_roundg (M2 + 1 - (j + 1))
              case measure => omega
              case rel => exact ⟨j + 1, by omega, Nat.le_refl _, by go_num, keepF W9.out ((show Qt Wh _ from ⟨_, rfl⟩).below _)⟩
            · obtain ⟨q, rfl⟩ : ∃ q, j = Um + q := ⟨j - Um, by omega⟩
              have hqD : q < Dm := by have := hQ.out; omega
              obtain ⟨z0, z1, z2, z3, z4⟩ := (HZ.out q hqD).below W9.out
              rw [hsJ.out] at z0 z1 z2 z3 z4
              dsimp only at z0 z1 z2 z3 z4
              have hqD' : (q : Int) < (Dm : Int) := by omega
              have hjk' : ¬ ((Um : Int) + (q : Int) < (Um : Int)) := by omega
              have hwq : IntKind.i64.wrap ((Um : Int) + (q : Int) - (Um : Int)) = (q : Int) := by rw [IntKind.wrap_i64]; omega
              by_cases p1 : Je = 0
              · subst p1
                clear CG
                go_upto_region 26 with fail
                go_quiet (fail)
                go_wp2_with fail
                go_roundg (M2 + 1 - (Um + q + 1))
                case measure => omega
                case rel => exact ⟨Um + q + 1, by omega, Nat.le_refl _, by go_num, keepF W9.out ((show Qt Wh _ from ⟨_, rfl⟩).below _)⟩
              · have p2 : ¬ Je ≤ f3 := by rcases CG.out.2 hjk with h | h; exact absurd h p1; exact h
                have p3 : (Je != 0) = true := by simp [p1]
                have p4 : decide (Je ≤ f3) = false := by simp [p2]
                clear CG
                go_upto_region 26 with fail
                go_quiet (fail)
                go_wp2_with fail
                go_roundg (M2 + 1 - (Um + q + 1))
                case measure => omega
                case rel => exact ⟨Um + q + 1, by omega, Nat.le_refl _, by go_num, keepF W9.out ((show Qt Wh _ from ⟨_, rfl⟩).below _)⟩
      case rest =>
        have hx := hcut.out
        obtain ⟨g4, f4, v4, l4, T8⟩ := hx
        replace T8 := hide T8
        clear hcut T7 O7 I7 E7 HC7 CC hDm hUm hM hM64 xc1 xc2 hNN
        obtain ⟨aoy, cay, rfl, _, _⟩ := T8.out.own.form
        obtain ⟨Y, hY⟩ : ∃ Y, Hid (l4.length = Y) := ⟨_, rfl⟩
        rw [hY.out] at T8
        obtain ⟨c0, c1, c2⟩ := three_cells T8.out.blk
        have hbl := bytesC_len g4 f4 l4 T8.out.may.n2
        have hrb := hide (read_back T8.out.may T8.out.own.1 T8.out.g2 T8.out.f2)
        go_upto_region 29 with fail
        go_wp2_with fail
        refine (write_any wc g4 f4 _ l4 T8.out.own.sgs T8.out.g2 T8.out.f2).mono ?_
        rintro e Wk ⟨vb', rfl, O9, b9⟩
        have hwf : writeF g4 f4 l4 = (0, bytesC g4 f4 l4) := by unfold writeF; rw [if_pos T8.out.may]
        rw [hwf] at O9 ⊢
        dsimp only at O9 ⊢
        have SL9 := hide O9.sl
        obtain ⟨aob, cab, rfl⟩ := O9.form
        have T9 := hide (T8.out.below b9)
        clear O9 b9 T8 c0 c1 c2 hwf
        have RD := hide (read_any Wk _ _ SL9.out (by omega))
        rw [hrb.out] at RD
        generalize bytesC g4 f4 l4 = BB at *
        clear hrb
        go_upto_region 30 with fail
        go_wp2_with fail
        refine RD.out.mono ?_
        rintro e Wm ⟨vr, rfl, O10, b10⟩
        dsimp only at O10 ⊢
        obtain ⟨aor, car, rfl, _, _⟩ := O10.form
        rw [hY.out] at O10 ⊢
        have X10 := hide (box_below Wm (.cells #[.int .i64 g4, .int .i64 f4, .slice aor Y car] 29))
        have R11 := hide (heap_alloc_new Wm (.cells #[.int .i64 g4, .int .i64 f4, .slice aor Y car] 29))
        have O11 := hide (O10.below X10.out)
        have T11 := hide ((T9.out.below b10).below X10.out)
        clear O10 b10 T9 RD SL9 X10 hbl
        go_upto_region 31 with fail
        generalize (Wm.alloc (.cells #[.int .i64 g4, .int .i64 f4, .slice aor Y car] 29)) = Wn at *
        generalize Wm.heap.size = rb at *
        obtain ⟨c0, c1, c2⟩ := three_cells T11.out.blk
        have CM := hide (may_any Wn g4 f4 _ l4 T11.out.own.sgs)
        rw [mayB_t T11.out.may] at CM
        go_wp2_with fail
        refine CM.out.mono ?_
        rintro e Wp ⟨rfl, b12⟩
        have T12 := hide (T11.out.below b12)
        have O12 := hide (O11.out.below b12)
        obtain ⟨s0, s1, s2⟩ := three_cells (show Wp.heap[rb]? = some (.cells #[.int .i64 g4, .int .i64 f4, .slice aor Y car] 29 (0, 0)) by rw [b12.block _ (heap_lt R11.out)]; exact R11.out)
        clear b12 CM c0 c1 c2 R11 T11 O11
        obtain ⟨c0, c1, c2⟩ := three_cells T12.out.blk
        go_wp2_with fail
        refine (eq_same Wp g4 f4 _ _ l4 O12.out.sgs T12.out.own.sgs).mono ?_
        rintro e Wr ⟨rfl, b13⟩
        have T13 := hide (T12.out.below b13)
        clear b13 T12 O12 c0 c1 c2 s0 s1 s2
        go_wp2_with fail
        go_roundg (N - (i + 1))
        case measure => omega
        case rel => exact ⟨i + 1, by omega, Nat.le_refl _, by go_num, _, _, _, _, T13.out⟩
#print axioms runs_walk
end Go.Proofs.Ytdhjlongdfgejaa.Ct
