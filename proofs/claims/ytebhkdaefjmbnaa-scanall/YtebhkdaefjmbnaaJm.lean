/-
  The walk of ScanAll.
-/
import Derived.Test.YtebhkdaefjmbnaaJj
import Derived.Test.YtebhkdaefjmbnaaJq
import Derived.Test.YtebhkdaefjmbnaaIr
import Derived.Test.YtebhkdaefjmbnaaJv
import Derived.Test.YtebhkdaefjmbnaaKz
import Derived.Test.YtebhkdaefjmbnaaLent
import Derived.Deep.CutRange
import Derived.Deep.RegionHeld3
import Derived.BigQuiet
namespace Go.Proofs.Ytebhkdaefjmbnaa
open Go.RowKit Go.Shelf
set_option maxRecDepth 100000
set_option linter.unusedVariables false
attribute [local go_sem] Oper.semAt_some

set_option maxHeartbeats 8000000 in
theorem sall_walk (w : World) (v : Value) (L : List UInt8) (base : Int) (seed : Crc.R) (most : Int) (z : Value) (us : List Int) (hv : Sl w v L) (g0 : -9223372036854775808 ≤ base) (g1 : base ≤ 9223372036854775807) (m0 : -9223372036854775808 ≤ most) (m1 : most ≤ 9223372036854775807) (hz : Row w z (us.map (Value.int .i64))) :
    Calls Try.prog 3 #[v, .int .i64 base, .int .u32 (seed.toNat : Int), .int .i64 most, z] w fun e w' => e = .returned (.bool true) ∧ Below w.heap.size w w' := by
  have HV := hide hv
  obtain ⟨ao, ca, rfl, hrest⟩ := hv
  clear hrest
  obtain ⟨M, hM⟩ : ∃ M, Hid (L.length = M) := ⟨_, rfl⟩
  obtain ⟨a2, c2, rfl, _, n1, n2, ga⟩ := hz
  obtain ⟨un, hun⟩ : ∃ n, Hid ((us.map (Value.int .i64)).length = n) := ⟨_, rfl⟩
  rw [hM.out] at HV ⊢
  rw [hun.out] at n1 ⊢
  have hul : Hid (un ≤ c2 ∧ c2 ≤ maxLen) := by rw [← hun.out]; exact ⟨by rw [hun.out]; exact n1, n2⟩
  replace ga : Hid (At w a2 (us.map (Value.int .i64))) := ga
  have G0 := hide g0
  have G1 := hide g1
  have M0 := hide m0
  have M1 := hide m1
  obtain ⟨ys, hys⟩ := exS L base seed
  obtain ⟨xs, hxs⟩ := exP L base seed
  clear n1 n2 g0 g1 m0 m1
  replace hys := hide hys
  replace hxs := hide hxs
  obtain ⟨w1, hw1⟩ : ∃ w1, Hid (w.alloc (.cells #[.bool false] 4) = w1) := ⟨_, rfl⟩
  have B1 : Hid (Below w.heap.size w w1) := by rw [← hw1.out]; exact box_below _ _
  have r1 : Hid (w1.heap[w.heap.size]? = some (.cells #[.bool false] 4 (0, 0))) := by rw [← hw1.out]; exact heap_alloc_new _ _
  refine calls_marks Try.func3 rfl ?_
  simp only [Try.ntmps3, List.size_toArray, List.length_cons, List.length_nil, Nat.reduceAdd, Nat.reduceSub, Array.replicate_succ, Array.replicate_zero, List.push_toArray, List.append_toArray, List.nil_append, List.cons_append]
  go_wp2_with fail
  rw [hw1.out]
  refine (begun7_any w1).mono ?_
  rintro e w2 ⟨rfl, b2⟩
  have B2 := hide (keepF B1.out b2)
  have r2 := hide ((b2.block _ (heap_lt r1.out)).trans r1.out)
  clear b2 B1 r1 hw1
  have c0 := Boxed.cell r2.out
  have f0 := Boxed.frozen r2.out
  by_cases hlen : (M : Int) > 131072
  · go_wp2_with fail
    have r3 := Boxed.set (.bool true) r2.out
    have B3 := B2.out.setCell (p := ⟨w.heap.size, 0, none⟩) (Nat.le_refl _) (.bool true)
    have c3 := Boxed.cell r3
    exact ⟨_, by simp [results, Try.results3, go_sem, c3], rfl, B3⟩
  have hML : Hid (M ≤ 131072) := by show _ ≤ _; omega
  have hb131 : ¬ (M : Int) > 131072 := hlen
  obtain ⟨z0, z1, z2, z3, z4, hzl⟩ := lastc_form L ys
  have CA : Hid (∀ q : World, Below w.heap.size w q → Calls Try.prog 6 #[.slice ao M ca, .int .i64 base, .int .u32 (seed.toNat : Int), .int .i64 (-1)] q fun e w' => ∃ ps vf, e = .returned (.tuple #[.agg #[.int .i64 z0, .int .i64 z1, .int .i64 z2, .int .u32 z3, .int .i64 z4], vf]) ∧ ps.map (·.1) = xs ∧ Plc q.heap.size L w' ps vf ∧ Below q.heap.size q w') := fun q hq => by
    have := refAll_any q _ L base seed xs ys hxs.out hys.out G1.out (Below.sl hq HV.out) (by have := hML.out; rw [hM.out]; omega)
    rwa [hzl] at this
  have COv : Hid (∀ (q : World) (v : Value), Sl q v L → Calls Try.prog 7 #[v, .int .i64 base, .int .u32 (seed.toNat : Int)] q fun e w' => e = .returned (.agg #[.int .i64 z0, .int .i64 z1, .int .i64 z2, .int .u32 z3, .int .i64 z4]) ∧ Below q.heap.size q w') := fun q v hq => by
    have := over_any q v L base seed ys hys.out G0.out G1.out hq
    rwa [hzl] at this
  clear hzl
  go_wp2_with fail
  refine (lent_any w2 _ L (Below.sl B2.out HV.out) (by have := hML.out; have := hM.out; omega)).mono ?_
  rintro e w3 ⟨lg, lv, rfl, hl3, b3, hlg⟩
  have B3 := hide (keepF B2.out b3)
  have r3 := hide ((b3.block _ (heap_lt r2.out)).trans r2.out)
  obtain ⟨al, cl, rfl⟩ := hl3.sl.form hM.out
  have L3 := hide hl3
  have hlgw : Hid (w.heap.size < lg) := by have := heap_lt r2.out; show _ < _; omega
  clear b3 B2 r2 c0 f0 hl3 hlen hlg
  go_wp2_with fail
  refine (CA.out w3 B3.out).mono ?_
  rintro e w4 ⟨ps, vf, rfl, hps, hP, b4⟩
  obtain ⟨gv, cv, rfl⟩ := owns_form hP.row
  obtain ⟨N, hN⟩ : ∃ N, Hid (ps.length = N) := ⟨_, rfl⟩
  rw [hN.out] at hP ⊢
  go_upto_region 7 with fail
  have e45 := ((Below.refl _ w4).alloc (Nat.le_refl _) (.cells #[.int .i64 z0, .int .i64 z1, .int .i64 z2, .int .u32 z3, .int .i64 z4] 28)).alloc (by simp) (.cells #[.slice gv N cv] 29)
  have P5 := hide (hP.below e45)
  have b35 := keepF b4 e45
  have B5 := hide (keepF B3.out b35)
  have L5 := hide (L3.out.below b35)
  have r5 := hide ((b35.block _ (heap_lt r3.out)).trans r3.out)
  have v5 : Hid (((w4.alloc (.cells #[.int .i64 z0, .int .i64 z1, .int .i64 z2, .int .u32 z3, .int .i64 z4] 28)).alloc (.cells #[.slice gv N cv] 29)).heap[w4.heap.size]? = some (.cells #[.int .i64 z0, .int .i64 z1, .int .i64 z2, .int .u32 z3, .int .i64 z4] 28 (0, 0))) := by
    show _ = _; rw [Below.heap_alloc _ _ _ (by simp)]; exact heap_alloc_new _ _
  have a5 : Hid (((w4.alloc (.cells #[.int .i64 z0, .int .i64 z1, .int .i64 z2, .int .u32 z3, .int .i64 z4] 28)).alloc (.cells #[.slice gv N cv] 29)).heap[w4.heap.size + 1]? = some (.cells #[.slice gv N cv] 29 (0, 0))) := by
    show _ = _
    have := heap_alloc_new (w4.alloc (.cells #[.int .i64 z0, .int .i64 z1, .int .i64 z2, .int .u32 z3, .int .i64 z4] 28)) (.cells #[.slice gv N cv] 29)
    rwa [World.size_alloc] at this
  have hwb : Hid (w3.heap.size ≤ w4.heap.size) := b4.size
  have hl3 : Hid (lg < w3.heap.size) := L3.out.lt
  have hw3 : Hid (w.heap.size < w3.heap.size) := heap_lt r3.out
  replace hps := hide hps
  revert P5 B5 L5 r5 v5 a5
  generalize (w4.alloc (.cells #[.int .i64 z0, .int .i64 z1, .int .i64 z2, .int .u32 z3, .int .i64 z4] 28)).alloc (.cells #[.slice gv N cv] 29) = w5
  intro P5 B5 L5 r5 v5 a5
  generalize w4.heap.size = wb at *
  clear e45 b35 hP b4 B3 r3 L3
  go_cut [49] from 44 to 48 (fun y wx => y = .bool false ∧ Hid (Below w5.heap.size w5 wx))
  case first =>
    have KS : Hid (∀ q : World, Below w5.heap.size w5 q → Below w5.heap.size w5 q ∧ q.cell? ⟨wb, 0, none⟩ = some (.int .i64 z0) ∧ q.cell? ⟨wb, 1, none⟩ = some (.int .i64 z1) ∧ q.cell? ⟨wb, 2, none⟩ = some (.int .i64 z2) ∧ q.cell? ⟨wb, 3, none⟩ = some (.int .u32 z3) ∧ q.cell? ⟨wb, 4, none⟩ = some (.int .i64 z4)) := fun q hq => by
      obtain ⟨d0, d1, d2, d3, d4, -⟩ := five ((hq.block wb (heap_lt v5.out)).trans v5.out)
      exact ⟨hq, d0, d1, d2, d3, d4⟩
    have hS0 := KS.out w5.drew (Below.refl _ _).drew
    have hne := scanNeq
    go_region_held3 (fun q => Below w5.heap.size w5 q ∧ q.cell? ⟨wb, 0, none⟩ = some (.int .i64 z0) ∧ q.cell? ⟨wb, 1, none⟩ = some (.int .i64 z1) ∧ q.cell? ⟨wb, 2, none⟩ = some (.int .i64 z2) ∧ q.cell? ⟨wb, 3, none⟩ = some (.int .u32 z3) ∧ q.cell? ⟨wb, 4, none⟩ = some (.int .i64 z4))
      (first | exact hS0 | assumption | exact KS.out _ KP | fail)
      (first
        | (go_at_call 7; refine (COv.out _ _ ((L5.out.below (And.left (by assumption))).sl)).mono ?_; rintro ee u1 ⟨rfl, B9⟩
           have KP : Below w5.heap.size w5 u1 := keepF (Below.refl _ _).drew B9)
        | fail)
    all_goals
      go_wp2_with fail
      go_meet
      case rel => exact ⟨rfl, KP⟩
  case rest =>
    obtain ⟨w6, hw6⟩ : ∃ w6, w6 = wc := ⟨_, rfl⟩
    subst hw6
    obtain ⟨rfl, b6⟩ := hcut
    have P6 := hide (P5.out.below b6.out)
    have B6 := hide (keepF B5.out b6.out)
    have L6 := hide (L5.out.below b6.out)
    have r6 := hide ((b6.out.block _ (heap_lt r5.out)).trans r5.out)
    have a6 := hide ((b6.out.block _ (heap_lt a5.out)).trans a5.out)
    have hwb6 := hide (Nat.lt_of_lt_of_le (heap_lt a5.out) b6.out.size)
    have CR := hide (records_any w6 _ L base seed most xs hxs.out G0.out G1.out L6.out.sl (by have := hML.out; rw [hM.out]; omega))
    clear P5 B5 L5 r5 a5 v5 b6 CA
    have hxN : Hid (xs.length = N) := by show _ = _; rw [← hps.out, List.length_map]; exact hN.out
    go_wp2_with fail
    refine CR.out.mono ?_
    rintro e w7 ⟨qs, vr, rfl, hqs, hR⟩
    have hql : qs.length = min most.toNat N := by
      have := congrArg List.length hqs
      rw [List.length_map, List.length_take, hxN.out] at this
      exact this
    obtain ⟨nR, hnR⟩ : ∃ nR, Hid (qs.length = nR) := ⟨_, rfl⟩
    obtain ⟨gr, cr, rfl⟩ := hR.form hqs (n := nR) (by rw [← hqs, List.length_map]; exact hnR.out)
    have hmx : Hid (max (0 : Int) (min most (N : Int)) = (nR : Int)) := by
      show _ = _
      rw [← hnR.out, hql]
      have := hML.out
      omega
    have P7 := hide (P6.out.below hR.below)
    have B7 := hide (keepF B6.out hR.below)
    have L7 := hide (L6.out.below hR.below)
    have r7 := hide ((hR.below.block _ (heap_lt r6.out)).trans r6.out)
    have a7 := hide ((hR.below.block _ (heap_lt a6.out)).trans a6.out)
    replace hR := hide hR
    replace hqs := hide hqs
    replace hql := hide hql
    clear P7 B7 L7 r7 CR
    have hwcw : Hid (w.heap.size ≤ w6.heap.size) := B6.out.size
    have c0 := Boxed.cell a7.out
    go_upto_region 11 with fail
    have hif : (if 0 < (if (N : Int) < most then (N : Int) else most) then (if (N : Int) < most then (N : Int) else most) else 0) = (nR : Int) := by
      rw [← hmx.out]
      repeat' split
      all_goals omega
    rw [hif]
    generalize (if (N : Int) < most then (N : Int) else most) = mn
    clear hif c0
    have hq0 : ((nR : Int) != (nR : Int)) = false := by simp
    go_upto_region 14 with fail
    have K8 := hide (L1.start (base := w.heap.size) hR.out hwcw.out)
    have hnd := hide hR.out.nodup
    have hNR : Hid (nR ≤ N) := by have := hql.out; have := hnR.out; show _ ≤ _; omega
    have hdl : Hid (∀ x : Sc, (dat L x).length ≤ 281474976710656) := fun x => by
      have := hML.out; have := hM.out
      have := dat_len L x
      omega
    have hNb : nR ≤ 9223372036854775807 := by
      have := hNR.out
      have := evP_len hxs.out
      have := hxN.out; have := hM.out; have := hML.out
      omega
    have hpq : Hid (∀ i (h : i < qs.length) (h' : i < ps.length), qs[i].1 = ps[i].1) := fun i h h' => by
      have e := hqs.out
      rw [← hps.out] at e
      have := congrArg (fun l => l[i]?) e
      simp only [List.getElem?_map, List.getElem?_take] at this
      have h1 : i < most.toNat := by have := hql.out; omega
      rw [if_pos h1, List.getElem?_eq_getElem h, List.getElem?_eq_getElem h'] at this
      simpa using this
    clear hq0 a7 hmx
    have hkb : Hid (w6.heap.size ≤ w7.heap.size) := hR.out.below.size
    revert K8 hkb
    generalize (w7.alloc _).alloc _ = w8
    generalize w7.heap.size = kb
    intro K8 hkb
    go_wp2_with fail
    go_loopw [17] (fun vi wr => ∃ (i : Nat), vi = .int .i64 (i : Int) ∧ i ≤ nR ∧ Hid (∃ C, L1 w.heap.size w6 L kb (kb + 1) (.slice gr nR cr) qs i wr C)) (fun i _ => nR - (intOf i).toNat)
    case atStart => exact ⟨0, rfl, Nat.zero_le _, _, K8.out⟩
    case round =>
      clear K8
      obtain ⟨i, rfl, hin, hK⟩ := hrel
      by_cases hgo : i < nR
      · have i1 : (i : Int) < (nR : Int) := by omega
        obtain ⟨C, hC⟩ := hK.out
        have HC := hide hC
        have hiq : i < qs.length := by rw [hnR.out]; exact hgo
        have hip : i < ps.length := by have := hNR.out; rw [hN.out]; omega
        obtain ⟨g, rfl, hgl, hcell⟩ := hC.cells hnR.out (by omega)
        obtain ⟨f0, f1⟩ := hcell i hiq
        have PW := P6.out.below hC.bel
        obtain ⟨gp, rfl, pcell⟩ := PW.cells hN.out (by have := hNR.out; omega)
        obtain ⟨-, p1, p2⟩ := pcell i hip
        have aW := (hC.bel.block _ hwb6.out).trans a6.out
        have dq := (hC.data i hiq (Nat.le_refl _)).1
        have dp := PW.data ps[i] (List.getElem_mem hip)
        have hxe := hpq.out i hiq hip
        rw [← hxe] at dp p1
        have KE : Hid (∀ (q : World), Below wr.heap.size wr q → ∀ cc, Calls Try.prog 10 #[.pointer (some ⟨kb, 0, none⟩), .slice (some ⟨q.heap.size, 0, none⟩) 1 cc] (q.alloc (.cells #[qs[i].2] 22)) fun e w' => e = .returned (.tuple #[]) ∧ ∃ C', L1 w.heap.size w6 L kb (kb + 1) (.slice (some ⟨g, 0, none⟩) nR cr) qs (i + 1) w' C') := fun q hq cc => L1.keep (hC.below hq) hiq hnd.out hwcw.out (hdl.out _) cc
        have kpW := hC.ka.ptr
        have KK : Hid (∀ (q : World) (C' : Nat → Prop), L1 w.heap.size w6 L kb (kb + 1) (.slice (some ⟨g, 0, none⟩) nR cr) qs (i + 1) q C' → q.cell? ⟨g, i * 2 + 1, none⟩ = some qs[i].2 ∧ q.cell? ⟨kb + 1, 0, none⟩ = some (.pointer (some ⟨kb, 0, none⟩))) := fun q C' h => by
          obtain ⟨g', e, _, hc⟩ := h.cells hnR.out (by omega)
          simp only [Option.some.injEq, Addr.mk.injEq] at e
          rw [e.1]
          exact ⟨(hc i hiq).2, Boxed.cell h.ka.ptr⟩
        have hxi : qs[i].1 = qs[i].1 := rfl
        clear hcell pcell PW hK hC hxi hxe
        generalize qs[i] = oq at f0 f1 dq dp p1 KE KK
        generalize ps[i].2 = pv at dp p2
        obtain ⟨oS, oV⟩ := oq
        simp only at f0 f1 dq dp p1 KE KK
        generalize dat L oS = D at dq dp
        generalize oS.n = on at f0 p1
        obtain ⟨nd, hnd2⟩ : ∃ nd, Hid (D.length = nd) := ⟨_, rfl⟩
        rw [hnd2.out] at dq dp
        obtain ⟨qa, qc, rfl⟩ := owns_form dq
        obtain ⟨pa, pc, rfl⟩ := owns_form dp
        have KS : Hid (∀ q : World, Below wr.heap.size wr q → Below wr.heap.size wr q ∧ q.cell? ⟨g, i * 2, none⟩ = some (.int .i64 (on : Int)) ∧ q.cell? ⟨g, i * 2 + 1, none⟩ = some (.slice qa nd qc) ∧ q.cell? ⟨wb + 1, 0, none⟩ = some (.slice (some ⟨gp, 0, none⟩) N cv) ∧ q.cell? ⟨gp, i * 3 + 1, none⟩ = some (.int .i64 (on : Int)) ∧ q.cell? ⟨gp, i * 3 + 2, none⟩ = some (.slice pa nd pc) ∧ q.cell? ⟨kb + 1, 0, none⟩ = some (.pointer (some ⟨kb, 0, none⟩))) := fun q hq =>
          ⟨hq, (hq.cell (lt_of_cell f0)).trans f0, (hq.cell (lt_of_cell f1)).trans f1, (hq.cell (heap_lt aW)).trans (Boxed.cell aW), (hq.cell (lt_of_cell p1)).trans p1, (hq.cell (lt_of_cell p2)).trans p2, (hq.cell (heap_lt kpW)).trans (Boxed.cell kpW)⟩
        have KQ : Hid (∀ q : World, Below wr.heap.size wr q → Calls Try.prog 9 #[.agg #[.int .i64 (on : Int), .slice qa nd qc], .agg #[.int .i64 (on : Int), .slice pa nd pc]] q fun e w' => e = .returned (.bool true) ∧ Below q.heap.size q w') := fun q hq => by
          have := eq6_any q (on : Int) (on : Int) _ _ D D (Below.sl hq (Sl.of_owns2 dq hnd2.out)) (Below.sl hq (Sl.of_owns2 dp hnd2.out))
          simpa using this
        clear f0 f1 p1 p2 aW dq dp kpW
        have i0 : (0 : Int) ≤ (i : Int) := by omega
        have i2 : (i : Int) < (N : Int) := by have := hNR.out; omega
        go_upto_region 17 with fail
        go_cut [81] from 71 to 80 (fun y wx => y = .bool false ∧ Hid (Below wr.heap.size wr wx))
        case first =>
          have hS0 := KS.out wr.drew (Below.refl _ _).drew
          go_region_held3 (fun q => Below wr.heap.size wr q ∧ q.cell? ⟨g, i * 2, none⟩ = some (.int .i64 (on : Int)) ∧ q.cell? ⟨g, i * 2 + 1, none⟩ = some (.slice qa nd qc) ∧ q.cell? ⟨wb + 1, 0, none⟩ = some (.slice (some ⟨gp, 0, none⟩) N cv) ∧ q.cell? ⟨gp, i * 3 + 1, none⟩ = some (.int .i64 (on : Int)) ∧ q.cell? ⟨gp, i * 3 + 2, none⟩ = some (.slice pa nd pc) ∧ q.cell? ⟨kb + 1, 0, none⟩ = some (.pointer (some ⟨kb, 0, none⟩)))
            (first | exact hS0 | assumption | exact KS.out _ KP | fail)
            (first
              | (go_at_call 9; refine (KQ.out _ (And.left (by assumption))).mono ?_; rintro ee u1 ⟨rfl, B9⟩
                 have KP : Below wr.heap.size wr u1 := keepF (Below.refl _ _).drew B9)
              | fail)
          all_goals
            go_wp2_with fail
            go_meet
            case rel => exact ⟨rfl, KP⟩
        case rest =>
          obtain ⟨rfl, b9⟩ := hcut
          obtain ⟨w9, hw9⟩ : ∃ w9, w9 = wc := ⟨_, rfl⟩
          subst hw9
          go_upto_region 19 with fail
          obtain ⟨-, -, k1, -, -, -, k2⟩ := KS.out w9.drew b9.out.drew
          have hS0 := And.intro k1 k2
          clear k1 k2
          go_region_held3 (fun q => q.cell? ⟨g, i * 2 + 1, none⟩ = some (.slice qa nd qc) ∧ q.cell? ⟨kb + 1, 0, none⟩ = some (.pointer (some ⟨kb, 0, none⟩)))
            (first | exact hS0 | assumption | exact KK.out _ _ B9 | (obtain ⟨_, _, k1, _, _, _, k2⟩ := KS.out _ (keepF b9.out.drew (box_below _ _)); exact ⟨k1, k2⟩) | fail)
            (first
              | (go_at_call 10; refine (KE.out _ b9.out.drew _).mono ?_; rintro ee u1 ⟨rfl, C9, B9⟩)
              | fail)
          all_goals
            have H9 : Hid (∃ C', L1 w.heap.size w6 L kb (kb + 1) (.slice (some ⟨g, 0, none⟩) nR cr) qs (i + 1) u1 C') := ⟨_, B9⟩
            clear B9
            go_wp2_with fail
            go_roundw
            case rel => exact ⟨i + 1, by go_num, by omega, H9.out⟩
            case measure => simp [intOf]; omega
      · have i1 : ¬ (i : Int) < (nR : Int) := by omega
        obtain ⟨C, hC⟩ := hK.out
        have K8 := hide hC.ka
        have b8 := hide hC.bel
        obtain ⟨w8, hw8⟩ : ∃ w8, w8 = wr := ⟨_, rfl⟩
        subst hw8
        clear hK hC hnd hpq hqs hql hnR hNR
        go_wp2_with fail
        go_loopw [18] (fun vi wr => ∃ (i : Nat), vi = .int .i64 (i : Int) ∧ i ≤ 10 ∧ Hid (∃ C, KA w.heap.size w6.heap.size kb (kb + 1) wr C ∧ Below w6.heap.size w6 wr)) (fun i _ => 10 - (intOf i).toNat)
        case atStart => exact ⟨0, rfl, Nat.zero_le _, _, K8.out, b8.out⟩
        case round =>
          clear K8 b8 hin hgo i1
          obtain ⟨i, rfl, hin, hK⟩ := hrel
          obtain ⟨C, hC, hb⟩ := hK.out
          have HC := hide hC
          have HB := hide hb
          clear hC hb hK
          by_cases hgo : i < un ∧ i < 10
          · obtain ⟨gi, gk⟩ := hgo
            have i1 : (i : Int) < (un : Int) := by omega
            have i2 : (i : Int) < 10 := by omega
            have i0 : (0 : Int) ≤ (i : Int) := by omega
            obtain ⟨zb, o2, rfl, d2⟩ := ga.out i (by rw [hun.out]; omega)
            have HW := hide (keepF B6.out HB.out)
            simp only [List.getElem_map] at d2
            generalize us[i]'(by have := hun.out; simp only [List.length_map] at this; omega) = lsn at d2
            have l2 := lt_of_cell d2
            have hF : Hid (∀ f, DoesFind f → ∀ (q : World) (v : Value), Sl q v L → Calls Try.prog f #[v, .int .i64 base, .int .u32 (seed.toNat : Int), .int .i64 lsn] q fun e w' => ∃ u, e = .returned (.tuple #[.agg #[.int .i64 (fndF L xs lsn).1, u], .int .i64 (fndF L xs lsn).2.2.1, .int .i64 (fndF L xs lsn).2.2.2]) ∧ w'.ownsRow q.heap.size 5 1 u (fndF L xs lsn).2.1.length (bvals (fndF L xs lsn).2.1) ∧ Below q.heap.size q w') := fun f hf q v hq => hf q v L base seed lsn xs hxs.out G0.out G1.out hq (by have := hML.out; rw [hM.out]; omega)
            have hDl : Hid ((fndF L xs lsn).2.1.length ≤ 281474976710656) := by
              show _ ≤ _
              unfold fndF
              split
              · exact hdl.out _
              · simp
            revert hF hDl
            generalize fndF L xs lsn = FF
            obtain ⟨F1, F2, F3, F4⟩ := FF
            intro hF hDl
            simp only at hF hDl
            obtain ⟨nd, hnd⟩ : ∃ nd, Hid (F2.length = nd) := ⟨_, rfl⟩
            rw [hnd.out] at hF hDl
            have e2 := (HW.out.cell l2).trans d2
            go_wp2_with fail
            refine (hF.out _ find_any wr _ (L6.out.below HB.out).sl).mono ?_
            rintro e u1 ⟨v1, rfl, O1, B1⟩
            obtain ⟨va, vc, rfl⟩ := owns_form O1
            clear e2
            go_upto_region 24 with fail
            have b1 := box_below u1 (.cells #[.int .i64 F1, .slice va nd vc] 41)
            have O2 := hide (ownsRow_below O1 b1)
            have B2 := hide (keepF B1 b1)
            have X2 : Hid ((u1.alloc (.cells #[.int .i64 F1, .slice va nd vc] 41)).heap[u1.heap.size]? = some (.cells #[.int .i64 F1, .slice va nd vc] 41 (0, 0))) := heap_alloc_new _ _
            revert O2 B2 X2
            generalize u1.alloc (.cells #[.int .i64 F1, .slice va nd vc] 41) = w2
            generalize u1.heap.size = xb
            intro O2 B2 X2
            clear O1 B1 b1
            have HW2 := hide (keepF HW.out B2.out)
            have e2 := (HW2.out.cell l2).trans d2
            go_wp2_with fail
            refine (hF.out _ refFind_any w2 _ (Below.sl HW2.out HV.out)).mono ?_
            rintro e u1 ⟨v1, rfl, O1, B1⟩
            obtain ⟨ua, uc, rfl⟩ := owns_form O1
            clear e2
            go_upto_region 25 with fail
            have b1 := box_below u1 (.cells #[.int .i64 F1, .slice ua nd uc] 41)
            have b3 := keepF B1 b1
            have O3 := hide (ownsRow_below O2.out b3)
            have B3 := hide (keepF B2.out b3)
            have X3 := hide ((b3.block _ (heap_lt X2.out)).trans X2.out)
            have Y3 : Hid ((u1.alloc (.cells #[.int .i64 F1, .slice ua nd uc] 41)).heap[u1.heap.size]? = some (.cells #[.int .i64 F1, .slice ua nd uc] 41 (0, 0))) := heap_alloc_new _ _
            have U3 := hide (ownsRow_below O1 b1)
            revert O3 B3 X3 Y3 U3
            generalize u1.alloc (.cells #[.int .i64 F1, .slice ua nd uc] 41) = w3
            generalize u1.heap.size = yb
            intro O3 B3 X3 Y3 U3
            clear O1 B1 b1 b3 O2 B2 X2 HW2
            obtain ⟨c1, c2, _, _⟩ := two_cells X3.out
            obtain ⟨c3, c4, _, _⟩ := two_cells Y3.out
            have hq := hide (eq6_any w3 F1 F1 _ _ F2 F2 (Sl.of_owns2 O3.out hnd.out) (Sl.of_owns2 U3.out hnd.out))
            rw [decide_eq_true rfl, decide_eq_true rfl, Bool.and_true] at hq
            go_wp2_with fail
            refine hq.out.mono ?_
            rintro e w4 ⟨rfl, b4⟩
            have B4 := hide (keepF B3.out b4)
            have O4 := hide (ownsRow_below O3.out b4)
            have X4 := (b4.block _ (heap_lt X3.out)).trans X3.out
            obtain ⟨c5, c6, _, _⟩ := two_cells X4
            have hp4 := Boxed.cell (HC.out.below B4.out).ptr
            have n3 : (F3 != F3) = false := by simp
            have n4 : (F4 != F4) = false := by simp
            have KE := hide (HC.out.keep_new B4.out O4.out hnd.out hDl.out hwcw.out HB.out.size)
            clear c1 c2 c3 c4 X4 b4
            go_wp2_with fail
            refine (KE.out _).mono ?_
            rintro e w5 ⟨rfl, C5, K5, b5⟩
            have H5 : Hid (∃ C, KA w.heap.size w6.heap.size kb (kb + 1) w5 C ∧ Below w6.heap.size w6 w5) := ⟨_, K5, (HB.out.trans (B4.out.mono HB.out.size)).trans b5⟩
            clear K5 b5 KE hp4 c5 c6
            go_wp2_with fail
            go_roundw
            case rel => exact ⟨i + 1, by go_num, by omega, H5.out⟩
            case measure => simp [intOf]; omega
          · obtain ⟨w8, hw8⟩ : ∃ w8, w8 = wr := ⟨_, rfl⟩
            subst hw8
            go_upto_region 21 with fail
            go_cut [97] from 90 to 96 (fun y wx => y = .bool false ∧ wx = w8)
            case first =>
              by_cases q1 : (i : Int) < (un : Int)
              · have q3 : ¬ ((i : Int) < 10) := by omega
                go_wp2_with fail
                go_meet
                case rel => exact ⟨rfl, rfl⟩
              · go_wp2_with fail
                go_meet
                case rel => exact ⟨rfl, rfl⟩
            case rest =>
              obtain ⟨rfl, e8⟩ := hcut
              subst e8
              go_wp2_with fail
              refine (each_any _ _ L base seed (L6.out.below HB.out).sl (by have := hML.out; rw [hM.out]; omega)).mono ?_
              rintro e w9 ⟨b1, b2, b3, v9, rfl, E9⟩
              obtain ⟨y1, y2, y3, y4, y5, y6, y7, y8⟩ := E9
              have B9 := hide (keepF B6.out (keepF HB.out y8))
              have H9 := hide (keepF HB.out y8)
              have CB := hide (back_any w w9 lg _ _ L B9.out HV.out (L6.out.below H9.out) (by have := hlgw.out; omega) (by have := hML.out; rw [hM.out]; omega))
              have hfn := eqlFn
              replace y1 := hide y1
              replace y2 := hide y2
              replace y3 := hide y3
              replace y4 := hide y4
              replace y8 := hide y8
              go_wp2_with fail
              refine CB.out.mono ?_
              rintro e wA ⟨rfl, gA⟩
              have bA : But (fun k => k = lg) w9 wA := But.of_grownBy gA (fun k e => by cases e; rfl)
              have q1 := hl3.out
              have q2 := hwb.out
              have q3 := hwb6.out
              have q4 := hkb.out
              have q5 := hlgw.out
              have q6 := HB.out.size
              have q7 := y8.out.size
              have q8 := hw3.out
              have P9 := P6.out.below H9.out
              have KAA := hide ((HC.out.below y8.out).but bA fun k e => ⟨fun h => by have := HC.out.low k h; omega, by omega⟩)
              have PA : Hid (Plc w3.heap.size L wA ps (.slice gv N cv)) := ⟨owns_but P9.row bA (fun k hk e => by have := (P9.row.lt k hk).1; omega), fun p hp => owns_but (P9.data p hp) bA (fun k hk e => by have := ((P9.data p hp).lt k hk).1; omega)⟩
              have aA := hide (bA.at ((H9.out.block _ hwb6.out).trans a6.out) (by omega))
              have rA := hide (bA.at ((H9.out.block _ (heap_lt r6.out)).trans r6.out) (by omega))
              have BA := hide (B9.out.trans (bA.below (n := w.heap.size) (by omega) (fun k e => by omega)))
              have y1A := hide (bA.at y1.out (by omega))
              have y2A := hide (bA.at y2.out (by omega))
              have y3A := hide (bA.at y3.out (by omega))
              have y4A := hide (owns_but y4.out bA (fun k hk e => by have := (y4.out.lt k hk).1; omega))
              have qA := hide (Nat.le_trans q7 bA.size)
              have q68 := hide q6
              have q23 := hide q2
              have q6A : Hid (w6.heap.size ≤ wA.heap.size) := by have := bA.size; show _ ≤ _; omega
              have hlow1 : Hid (∀ k, (Value.slice gv N cv).ownBlock = some k → k < w6.heap.size) := fun k hk => (P6.out.row.lt k hk).2
              have hlow2 : Hid (∀ p ∈ ps, ∀ k, p.2.ownBlock = some k → k < w6.heap.size) := fun p hp k hk => ((P6.out.data p hp).lt k hk).2
              have hClt : Hid (∀ k, C k → k < wc.heap.size) := fun k hk => (HC.out.kpr.lt k hk).1
              have hwA : Hid (wc.heap.size ≤ wA.heap.size) := by have := bA.size; show _ ≤ _; omega
              clear q1 q2 q3 q4 q5 q6 q7 q8 P9 y1 y2 y3 y4 y8 bA gA CB B9 H9 HC HB P6 L6 r6 a6 B6
              replace y5 := hide y5
              replace y6 := hide y6
              replace y7 := hide y7
              have q60 := hide (heap_lt rA.out)
              have htb := hide (heap_alloc_new wA (.cells #[.int .i64 0] 3))
              have bB := box_below wA (.cells #[.int .i64 0] 3)
              have KB := hide (KAA.out.below bB)
              have PB := hide (PA.out.below bB)
              have aB := hide ((bB.block _ (heap_lt aA.out)).trans aA.out)
              have rB := hide ((bB.block _ (heap_lt rA.out)).trans rA.out)
              have y1B := hide ((bB.block _ (heap_lt y1A.out)).trans y1A.out)
              have y2B := hide ((bB.block _ (heap_lt y2A.out)).trans y2A.out)
              have y3B := hide ((bB.block _ (heap_lt y3A.out)).trans y3A.out)
              have y4B := hide (ownsRow_below y4A.out bB)
              have BB := hide (keepF BA.out bB)
              have qB := hide bB.size
              go_wp2_with fail
              revert htb KB PB aB rB y1B y2B y3B y4B BB qB
              generalize wA.alloc (.cells #[.int .i64 0] 3) = wB
              intro htb KB PB aB rB y1B y2B y3B y4B BB qB
              clear bB KAA PA aA rA y1A y2A y3A y4A BA
              revert htb q6A hwA qB
              generalize wA.heap.size = tb
              intro q6A hwA htb qB
              refine wp_loop_rounds 3 ?_
              rw [rounds_succ]
              have c0 := Boxed.cell htb.out
              have hRd : Hid (∀ k, RdOf b1 b2 b3 v9 L k → wc.heap.size ≤ k ∧ k < wB.heap.size) := by
                rintro k (rfl | rfl | rfl | ⟨_, hk⟩)
                · exact ⟨y5.out, heap_lt y1B.out⟩
                · exact ⟨y6.out, heap_lt y2B.out⟩
                · exact ⟨y7.out, heap_lt y3B.out⟩
                · exact y4B.out.lt k hk
              have hCn : Hid (∀ k, C k → ¬ RdOf b1 b2 b3 v9 L k) := fun k hk h => by
                have := (hRd.out k h).1
                have := hClt.out k hk
                omega
              go_upto_region 35 with fail
              have W0 : ∃ W0, wB.alloc (.cells #[.int .i64 0] 3) = W0 := ⟨_, rfl⟩
              obtain ⟨W0, hW0⟩ := W0
              rw [hW0]
              have bD : Hid (Below wB.heap.size wB W0) := by rw [← hW0]; exact box_below _ _
              have hib : Hid (W0.heap[wB.heap.size]? = some (.cells #[.int .i64 0] 3 (0, 0))) := by rw [← hW0]; exact heap_alloc_new _ _
              obtain ⟨ib, hibe⟩ : ∃ ib, Hid (wB.heap.size = ib) := ⟨_, rfl⟩
              rw [hibe.out] at hib
              rw [hibe.out]
              clear c0 hW0
              go_wp2_with fail
              have y1D := (bD.out.block _ (heap_lt y1B.out)).trans y1B.out
              have y2D := (bD.out.block _ (heap_lt y2B.out)).trans y2B.out
              have y3D := (bD.out.block _ (heap_lt y3B.out)).trans y3B.out
              have hsD := bD.out.size
              have hilt := heap_lt hib.out
              have hkpl := heap_lt KB.out.ptr
              have hie := hibe.out
              refine wp_range_blk (gf := 30) rfl (enters_of Try.func30 (by kernel_rfl) rfl) (places_seq W0 _ _ _ _ L base seed xs hxs.out G0.out G1.out y1D y2D y3D (Below.sl bD.out (Sl.of_owns y4B.out))) (Nat.le_refl _) (fun k hk => ⟨rfl, by have := (hRd.out k hk).2; omega⟩)
                (fun x args W D h => by obtain ⟨v', rfl, _⟩ := h; rfl)
                (fun pre C' W => pre.length < 3 ∧ L3 w.heap.size w6.heap.size kb (kb + 1) ib (fun k => C k ∨ k = ib) W0 pre.length C' W)
                (fun pre C' W => pre.length = 3 ∧ L3 w.heap.size w6.heap.size kb (kb + 1) ib (fun k => C k ∨ k = ib) W0 pre.length C' W)
                ?hI ?hIx (fun k => C k ∨ k = ib) ?hC0 ?h0 ?round ?mid
              case hI =>
                rintro pre C' A B ⟨i1, i2⟩ hb
                exact ⟨i1, i2.of_but hb (fun k hk => hk) (by omega)⟩
              case hIx =>
                rintro pre C' A B ⟨i1, i2⟩ hb
                exact ⟨i1, i2.of_but hb (fun k hk => hk) (by omega)⟩
              case hC0 =>
                rintro k (hk | hk)
                · exact ⟨hCn.out k hk, by have := (KB.out.kpr.lt k hk).1; omega⟩
                · exact ⟨fun h => by have := (hRd.out k h).2; omega, by omega⟩
              case h0 => exact ⟨by simp, ⟨C, KB.out.below bD.out, fun k => Iff.rfl⟩, hib.out, But.refl _ _, fun k hk => .inl hk⟩
              case round =>
                rintro m pre x rest C1 D args W1 hxs1 ⟨i1, i2⟩ ⟨u, rfl, ho, hDk⟩ hlt hD hl hlW nl nD
                have hpx : pre.length < xs.length := by rw [hxs1]; simp
                have hip : pre.length < ps.length := by have := hxN.out; have := hN.out; omega
                have hxe : x = ps[pre.length].1 := by
                  have e := congrArg (fun l => l[pre.length]?) (hps.out.trans hxs1)
                  simp only [List.getElem?_map, List.getElem?_eq_getElem hip] at e
                  simpa using e.symm
                replace hxe := hide hxe
                obtain ⟨j, hj⟩ : ∃ j, pre.length = j := ⟨_, rfl⟩
                replace hxs1 := hide hxs1
                replace i2 := hide i2
                replace hD := hide hD
                replace hDk := hide hDk
                have ho' := hide (owns_raise ho (b := w6.heap.size) fun k hk => by have := (hD.out k ((hDk.out k).2 hk)).2.1; have := q6A.out; have := qB.out; omega)
                clear ho y1D y2D y3D
                obtain ⟨dn, hdn⟩ : ∃ dn, Hid ((dat L x).length = dn) := ⟨_, rfl⟩
                rw [hdn.out] at ho'
                obtain ⟨va, vc, rfl⟩ := own_slice ho'.out
                simp only [List.zip_toArray, List.zip_cons_cons, List.zip_nil_right, List.foldl_toArray, List.foldl_cons, List.foldl_nil]
                gi_wp2
                refine ⟨But.alloc _ _ _, ?_⟩
                intro Wb hWb hsb
                have sb : Wb.heap.size = W1.heap.size + 1 := by rw [hsb]; simp
                have n1 := hide (hWb.at (heap_alloc_new _ _) (by omega))
                have bW : Hid (But (fun k => k = m) W1 Wb) := (But.alloc _ _ _).trans hWb
                have n2 := hide (i2.out.of_but bW.out (fun k e => ⟨by omega, by rw [e]; exact nl⟩) (by omega))
                have nO := hide (owns_but ho'.out bW.out fun k hk e => nD (by rw [← e]; exact (hDk.out k).2 hk))
                have nB : Hid (Below w6.heap.size W0 Wb) := n2.out.but.below (by have := q6A.out; have := qB.out; omega) (by
                  rintro k (hk | hk)
                  · exact KB.out.low k hk
                  · have := q6A.out; have := qB.out; omega)
                have nP : Hid (Plc w3.heap.size L Wb ps (.slice gv N cv)) := (PB.out.below bD.out).low hlow1.out hlow2.out nB.out
                have na := (nB.out.block _ hwb6.out).trans ((bD.out.block _ (heap_lt aB.out)).trans aB.out)
                have nt := n2.out.but.at ((bD.out.block _ (heap_lt htb.out)).trans htb.out) (by
                  rintro (hk | hk)
                  · exact KB.out.kpr.not htb.out (by decide) (by decide) (by decide) hk
                  · have := heap_lt htb.out; omega)
                obtain ⟨gp, rfl, pcell⟩ := nP.out.cells hN.out (by have := hN.out; omega)
                obtain ⟨p0, p1, p2⟩ := pcell pre.length hip
                have dp := nP.out.data ps[pre.length] (List.getElem_mem hip)
                rw [← hxe.out] at p0 p1 dp
                have nib := n2.out.box
                generalize ps[pre.length].2 = pv at dp p2
                rw [hj] at p0 p1 p2 nib i1
                rw [hdn.out] at dp
                obtain ⟨pa, pc, rfl⟩ := owns_form dp
                clear hWb hsb i2 ho' pcell
                have KS : Hid (∀ q : World, Below Wb.heap.size Wb q → Below Wb.heap.size Wb q ∧ q.cell? ⟨ib, 0, none⟩ = some (.int .i64 (j : Int)) ∧ q.cell? ⟨wb + 1, 0, none⟩ = some (.slice (some ⟨gp, 0, none⟩) N cv) ∧ q.cell? ⟨gp, j * 3, none⟩ = some (.int .i64 (x.e : Int)) ∧ q.cell? ⟨gp, j * 3 + 1, none⟩ = some (.int .i64 (x.n : Int)) ∧ q.cell? ⟨gp, j * 3 + 2, none⟩ = some (.slice pa dn pc) ∧ q.cell? ⟨W1.heap.size, 0, none⟩ = some (.int .i64 (x.n : Int)) ∧ q.cell? ⟨W1.heap.size, 1, none⟩ = some (.slice va dn vc)) := fun q hq => by
                  obtain ⟨c1, c2, _, _⟩ := two_cells n1.out
                  exact ⟨hq, (hq.cell (heap_lt nib)).trans (Boxed.cell nib), (hq.cell (heap_lt na)).trans (Boxed.cell na), (hq.cell (lt_of_cell p0)).trans p0, (hq.cell (lt_of_cell p1)).trans p1, (hq.cell (lt_of_cell p2)).trans p2, (hq.cell (heap_lt n1.out)).trans c1, (hq.cell (heap_lt n1.out)).trans c2⟩
                have KQ : Hid (∀ q : World, Below Wb.heap.size Wb q → Calls Try.prog 9 #[.agg #[.int .i64 (x.n : Int), .slice va dn vc], .agg #[.int .i64 (x.n : Int), .slice pa dn pc]] q fun e w' => e = .returned (.bool true) ∧ Below q.heap.size q w') := fun q hq => by
                  have := eq6_any q (x.n : Int) (x.n : Int) _ _ (dat L x) (dat L x) (Below.sl hq (Sl.of_owns2 nO.out hdn.out)) (Below.sl hq (Sl.of_owns2 dp hdn.out))
                  simpa using this
                have j0 : (0 : Int) ≤ (j : Int) := by omega
                have j1 : (j : Int) < (N : Int) := by have := hN.out; omega
                have hS0 := KS.out Wb.drew (Below.refl _ _).drew
                gi_wp2
                refine wpIn_region_heldR (S := fun q => Below Wb.heap.size Wb q ∧ q.cell? ⟨ib, 0, none⟩ = some (.int .i64 (j : Int)) ∧ q.cell? ⟨wb + 1, 0, none⟩ = some (.slice (some ⟨gp, 0, none⟩) N cv) ∧ q.cell? ⟨gp, j * 3, none⟩ = some (.int .i64 (x.e : Int)) ∧ q.cell? ⟨gp, j * 3 + 1, none⟩ = some (.int .i64 (x.n : Int)) ∧ q.cell? ⟨gp, j * 3 + 2, none⟩ = some (.slice pa dn pc) ∧ q.cell? ⟨W1.heap.size, 0, none⟩ = some (.int .i64 (x.n : Int)) ∧ q.cell? ⟨W1.heap.size, 1, none⟩ = some (.slice va dn vc)) (by kernel_rfl) (by kernel_rfl) ?hL ?_
                case hL => rintro ⟨_, _, h⟩; exact h
                have hNm : (N : Int) ≤ 9223372036854775807 := by
                  have := evP_len hxs.out
                  have := hxN.out; have := hM.out; have := hML.out
                  omega
                refine reg38 (fun _ _ _ _ _ h => h) (by omega) hNm KS hS0 KQ ?_
                intro q s162 s163 s164 s165 s166 s167 s168 s169 s170 s171 s172 s173 s174 s175 s176 s177 s178 s179 s180 s181 s182 s183 Bq
                dsimp only
                have Bq' := hide Bq
                have CK := hide (L3.keep n2.out Bq (ownsRow_below nO.out Bq) hdn.out (by
                    have := hML.out; have := hM.out
                    have := dat_len L x
                    have := hdn.out
                    omega) (fun k hk => by
                    have h1 := hD.out k ((hDk.out k).2 hk)
                    exact ⟨h1.1, by omega, by omega⟩) hwcw.out (by have := q6A.out; have := qB.out; omega))
                rw [hj] at CK
                have d1 : q.cell? ⟨kb + 1, 0, none⟩ = some (.pointer (some ⟨kb, 0, none⟩)) := by
                  obtain ⟨Ck, k1, _⟩ := n2.out.ka
                  exact (Bq.cell (p := ⟨kb + 1, 0, none⟩) (heap_lt k1.ptr)).trans (Boxed.cell k1.ptr)
                have d2 := (KS.out q Bq).2.2.2.2.2.2.2
                clear KS KQ hS0 nO p0 p1 p2 dp
                have ntC : Hid (¬ C1 tb ∧ tb ≠ ib) := by
                  refine ⟨fun h => ?_, by have := heap_lt htb.out; omega⟩
                  rcases n2.out.sub tb h with (hk | hk) | hk
                  · exact KB.out.kpr.not htb.out (by decide) (by decide) (by decide) hk
                  · have := heap_lt htb.out; omega
                  · have := heap_lt htb.out; omega
                have nt' := hide nt
                clear na nt nib
                gi_wp2
                refine ⟨trivial, rfl, CallsIn.mono (callsIn_wide.2 (CK.out 1)) ?_⟩
                rintro e W4 ⟨rfl, bt4, bx4, C2, l4, bu4, hC2⟩
                have c1 := Boxed.cell bx4
                have f1 := Boxed.frozen bx4
                have c2 := Boxed.cell (bt4.at nt'.out ntC.out.1)
                have hne := ntC.out.2
                replace bt4 := hide bt4
                replace l4 := hide l4
                replace bu4 := hide bu4
                replace hC2 := hide hC2
                have hlx : (pre ++ [x]).length = j + 1 := by rw [List.length_append, hj]; rfl
                have hC3 : Hid (∀ k, C2 k → (C1 k ∨ D k ∨ W1.heap.size ≤ k) ∧ k < (W4.setCell ⟨ib, 0, none⟩ (.int .i64 ((j : Int) + 1))).heap.size) := fun k hk => by
                  obtain ⟨h1, h2⟩ := hC2.out k hk
                  refine ⟨?_, h2⟩
                  rcases h1 with h1 | h1 | h1
                  · exact .inl h1
                  · exact .inr (.inl ((hDk.out k).2 h1))
                  · exact .inr (.inr (by omega))
                replace hlx := hide hlx
                by_cases hj3 : j = 2
                · have e3 : ((j : Int) + 1 == 3) = true := by subst hj3; rfl
                  have hjj := hide hj3
                  clear hj3
                  gi_wp2
                  exact ⟨C2, ⟨rfl, by rw [hlx.out, hjj.out], by rw [hlx.out]; exact l4.out⟩, bu4.out, hC3.out⟩
                · have e3 : ((j : Int) + 1 == 3) = false := by simp; omega
                  have hjj : Hid (j + 1 < 3) := by show _ < _; omega
                  clear hj3
                  gi_wp2
                  exact ⟨C2, ⟨by rw [hlx.out]; exact hjj.out, by rw [hlx.out]; exact l4.out⟩, bu4.out, hC3.out⟩
              case mid =>
                rintro C2 W hW hK nK
                obtain ⟨ii, hii, hL3⟩ : ∃ ii : Nat, ((ii = N ∧ ii < 3) ∨ (ii = 3 ∧ ii ≤ N)) ∧ L3 w.heap.size w6.heap.size kb (kb + 1) ib (fun k => C k ∨ k = ib) W0 ii C2 W := by
                  rcases hW with ⟨h1, h2⟩ | ⟨pre, hp, h1, h2⟩
                  · exact ⟨xs.length, .inl ⟨hxN.out, h1⟩, h2⟩
                  · exact ⟨pre.length, .inr ⟨h1, by have := hp.length_le; have := hxN.out; omega⟩, h2⟩
                clear hW
                obtain ⟨Ck, kaW, hCk⟩ := hL3.ka
                have ncC : ∀ k, k < w6.heap.size → ¬ (C k ∨ k = ib) := by
                  rintro k hk (h | h)
                  · have := KB.out.low k h; omega
                  · have := q6A.out; have := qB.out; omega
                have BW6 : Hid (Below w6.heap.size W0 W) := hL3.but.below (by have := q6A.out; have := qB.out; omega) (by
                  rintro k (hk | hk)
                  · exact KB.out.low k hk
                  · have := q6A.out; have := qB.out; omega)
                have PW := hide ((PB.out.below bD.out).low hlow1.out hlow2.out BW6.out)
                have aW := hide ((BW6.out.block _ hwb6.out).trans ((bD.out.block _ (heap_lt aB.out)).trans aB.out))
                have rW := hide ((BW6.out.block _ (by have := hwcw.out; have := hlgw.out; have := hl3.out; have := hwb.out; have := hwb6.out; omega)).trans ((bD.out.block _ (heap_lt rB.out)).trans rB.out))
                have BWw : Hid (Below w.heap.size w W) := (keepF BB.out bD.out).trans (BW6.out.mono hwcw.out)
                have ntb : ¬ (C tb ∨ tb = ib) := by
                  rintro (hk | hk)
                  · exact KB.out.kpr.not htb.out (by decide) (by decide) (by decide) hk
                  · have := heap_lt htb.out; omega
                have tW := hL3.but.at ((bD.out.block _ (heap_lt htb.out)).trans htb.out) ntb
                have nRd : ∀ k, RdOf b1 b2 b3 v9 L k → ¬ (C k ∨ k = ib) := by
                  rintro k hk (h | h)
                  · exact hCn.out k h hk
                  · have := (hRd.out k hk).2; omega
                have y1W := hide (hL3.but.at y1D (nRd _ (.inl rfl)))
                have y2W := hide (hL3.but.at y2D (nRd _ (.inr (.inl rfl))))
                have y3W := hide (hL3.but.at y3D (nRd _ (.inr (.inr (.inl rfl)))))
                have y4W := hide (owns_but (ownsRow_below y4B.out bD.out) hL3.but (fun k hk h => by
                  rcases h with h | h
                  · have := hClt.out k h; have := (y4B.out.lt k hk).1; omega
                  · have := (y4B.out.lt k hk).2; omega))
                have bxW := hL3.box
                have hsW := hL3.but.size
                have c1 := Boxed.cell bxW
                have c2 := Boxed.cell tW
                have c3 := Boxed.cell aW.out
                replace hK := hide hK
                replace nK := hide nK
                replace kaW := hide kaW
                replace hCk := hide hCk
                replace hL3 := hide hL3
                clear y1D y2D y3D PB aB rB y1B y2B y3B BB KB htb hib
                have hgo : ∀ P : Prop, (∀ _ : ((ii : Int) != (N : Int)) = false, P) → (∀ (_ : ((ii : Int) != (N : Int)) = true) (_ : ((ii : Int) != 3) = false), P) → P := fun P h1 h2 => by
                  rcases hii with ⟨h, _⟩ | ⟨h, _⟩
                  · exact h1 (by simp [h])
                  · by_cases e : ii = N
                    · exact h1 (by simp [e])
                    · exact h2 (by simp; omega) (by simp [h])
                replace hii := hide hii
                replace hgo := hide hgo
                dsimp only
                go_upto_region 43 with fail
                go_cut [209] from 198 to 208 (fun y wx => y = .bool false ∧ wx = W)
                case first =>
                  refine hgo.out _ (fun e1 => ?_) (fun e1 e2 => ?_)
                  · go_wp2_with fail
                    go_meet
                    case rel => exact ⟨rfl, rfl⟩
                  · go_wp2_with fail
                    go_meet
                    case rel => exact ⟨rfl, rfl⟩
                case rest =>
                  obtain ⟨rfl, e8⟩ := hcut
                  have e9 := e8.symm
                  subst e9
                  clear c1 c3 e8
                  obtain ⟨m1, hm1⟩ : ∃ m1, Hid (W0.heap.size = m1) := ⟨_, rfl⟩
                  have hmW : Hid (m1 < W.heap.size) := by rw [← hm1.out]; exact heap_lt hK.out
                  have hm6 : Hid (w6.heap.size ≤ m1) := by rw [← hm1.out]; have := q6A.out; have := qB.out; show _ ≤ _; omega
                  rw [hm1.out] at hK nK
                  rw [hm1.out]
                  have bB2 := box_below W (.cells #[.int .i64 1] 3)
                  have htb2 := hide (heap_alloc_new W (.cells #[.int .i64 1] 3))
                  have KB2 := hide (kaW.out.below bB2)
                  have PB2 := hide (PW.out.below bB2)
                  have aB2 := hide ((bB2.block _ (heap_lt aW.out)).trans aW.out)
                  have rB2 := hide ((bB2.block _ (heap_lt rW.out)).trans rW.out)
                  have y1B2 := hide ((bB2.block _ (heap_lt y1W.out)).trans y1W.out)
                  have y2B2 := hide ((bB2.block _ (heap_lt y2W.out)).trans y2W.out)
                  have y3B2 := hide ((bB2.block _ (heap_lt y3W.out)).trans y3W.out)
                  have y4B2 := hide (ownsRow_below y4W.out bB2)
                  have BB2 := hide (keepF BWw.out bB2)
                  have qB2 := hide bB2.size
                  have q6A2 : Hid (w6.heap.size ≤ W.heap.size) := by have := q6A.out; have := qB.out; show _ ≤ _; omega
                  have mB2 := hide ((bB2.block _ (heap_lt hK.out)).trans hK.out)
                  have nKk : Hid (¬ Ck m1) := fun h => nK.out ((hCk.out m1).2 (.inl h))
                  have hRd2 : Hid (∀ k, RdOf b1 b2 b3 v9 L k → True ∧ k < (W.alloc (.cells #[.int .i64 1] 3)).heap.size) := fun k hk => ⟨trivial, by have := (hRd.out k hk).2; have := qB2.out; omega⟩
                  have hCn2 : Hid (∀ k, Ck k → ¬ RdOf b1 b2 b3 v9 L k) := fun k hk h => by
                    have hlt := (hRd.out k h).2
                    rcases hL3.out.sub k ((hCk.out k).2 (.inl hk)) with (h1 | h1) | h1
                    · exact hCn.out k h1 h
                    · omega
                    · omega
                  go_wp2_with fail
                  revert htb2 KB2 PB2 aB2 rB2 y1B2 y2B2 y3B2 y4B2 BB2 qB2 mB2 hRd2
                  generalize W.alloc (.cells #[.int .i64 1] 3) = wB2
                  intro htb2 KB2 PB2 aB2 rB2 y1B2 y2B2 y3B2 y4B2 BB2 qB2 mB2 hRd2
                  clear bB2 hK nK kaW PW aW rW y1W y2W y3W y4W BWw hL3 hCk bxW tW c2 hgo hii hCn hRd hClt bD BW6 hm1 hsW hsD hilt hie hibe
                  revert hmW q6A2 htb2 qB2
                  generalize W.heap.size = tb2
                  intro hmW q6A2 htb2 qB2
                  rw [rounds_succ]
                  have c0 := Boxed.cell htb2.out
                  go_upto_region 35 with fail
                  have W02 : ∃ W02, wB2.alloc (.cells #[.int .i64 0] 3) = W02 := ⟨_, rfl⟩
                  obtain ⟨W02, hW02⟩ := W02
                  rw [hW02]
                  have bD2 : Hid (Below wB2.heap.size wB2 W02) := by rw [← hW02]; exact box_below _ _
                  have hib2 : Hid (W02.heap[wB2.heap.size]? = some (.cells #[.int .i64 0] 3 (0, 0))) := by rw [← hW02]; exact heap_alloc_new _ _
                  obtain ⟨ib2, hibe2⟩ : ∃ ib2, Hid (wB2.heap.size = ib2) := ⟨_, rfl⟩
                  rw [hibe2.out] at hib2
                  rw [hibe2.out]
                  clear c0 hW02
                  go_wp2_with fail
                  have y1D2 := (bD2.out.block _ (heap_lt y1B2.out)).trans y1B2.out
                  have y2D2 := (bD2.out.block _ (heap_lt y2B2.out)).trans y2B2.out
                  have y3D2 := (bD2.out.block _ (heap_lt y3B2.out)).trans y3B2.out
                  have hsD2 := bD2.out.size
                  have hilt2 := heap_lt hib2.out
                  have hkpl2 := heap_lt KB2.out.ptr
                  have hie2 := hibe2.out
                  refine wp_range_blk (gf := 30) rfl (enters_of Try.func30 (by kernel_rfl) rfl) (places_seq W02 _ _ _ _ L base seed xs hxs.out G0.out G1.out y1D2 y2D2 y3D2 (Below.sl bD2.out (Sl.of_owns y4B2.out))) (Nat.le_refl _) (fun k hk => ⟨rfl, by have := (hRd2.out k hk).2; omega⟩)
                    (fun x args W D h => by obtain ⟨v', rfl, _⟩ := h; rfl)
                    (fun pre C' W => L3 w.heap.size w6.heap.size kb (kb + 1) ib2 (fun k => Ck k ∨ k = ib2) W02 pre.length C' W)
                    (fun _ _ _ => False)
                    ?hI ?hIx (fun k => Ck k ∨ k = ib2) ?hC0 ?h0 ?round ?mid
                  case hI =>
                    rintro pre C' A B i2 hb
                    exact i2.of_but hb (fun k hk => hk) (by omega)
                  case hIx =>
                    rintro pre C' A B h hb
                    exact h
                  case hC0 =>
                    rintro k (hk | hk)
                    · exact ⟨hCn2.out k hk, by have := (KB2.out.kpr.lt k hk).1; omega⟩
                    · exact ⟨fun h => by have := (hRd2.out k h).2; omega, by omega⟩
                  case h0 => exact ⟨⟨Ck, KB2.out.below bD2.out, fun k => Iff.rfl⟩, hib2.out, But.refl _ _, fun k hk => .inl hk⟩
                  case round =>
                    rintro m pre x rest C1 D args W1 hxs1 i2 ⟨u, rfl, ho, hDk⟩ hlt hD hl hlW nl nD
                    have hpx : pre.length < xs.length := by rw [hxs1]; simp
                    have hip : pre.length < ps.length := by have := hxN.out; have := hN.out; omega
                    have hxe : x = ps[pre.length].1 := by
                      have e := congrArg (fun l => l[pre.length]?) (hps.out.trans hxs1)
                      simp only [List.getElem?_map, List.getElem?_eq_getElem hip] at e
                      simpa using e.symm
                    replace hxe := hide hxe
                    obtain ⟨j, hj⟩ : ∃ j, pre.length = j := ⟨_, rfl⟩
                    replace hxs1 := hide hxs1
                    replace i2 := hide i2
                    replace hD := hide hD
                    replace hDk := hide hDk
                    have ho' := hide (owns_raise ho (b := w6.heap.size) fun k hk => by have := (hD.out k ((hDk.out k).2 hk)).2.1; have := q6A2.out; have := qB2.out; omega)
                    clear ho y1D2 y2D2 y3D2
                    obtain ⟨dn, hdn⟩ : ∃ dn, Hid ((dat L x).length = dn) := ⟨_, rfl⟩
                    rw [hdn.out] at ho'
                    obtain ⟨va, vc, rfl⟩ := own_slice ho'.out
                    simp only [List.zip_toArray, List.zip_cons_cons, List.zip_nil_right, List.foldl_toArray, List.foldl_cons, List.foldl_nil]
                    gi_wp2
                    refine ⟨But.alloc _ _ _, ?_⟩
                    intro Wb hWb hsb
                    have sb : Wb.heap.size = W1.heap.size + 1 := by rw [hsb]; simp
                    have n1 := hide (hWb.at (heap_alloc_new _ _) (by omega))
                    have bW : Hid (But (fun k => k = m) W1 Wb) := (But.alloc _ _ _).trans hWb
                    have n2 := hide (i2.out.of_but bW.out (fun k e => ⟨by omega, by rw [e]; exact nl⟩) (by omega))
                    have nO := hide (owns_but ho'.out bW.out fun k hk e => nD (by rw [← e]; exact (hDk.out k).2 hk))
                    have nB : Hid (Below w6.heap.size W02 Wb) := n2.out.but.below (by have := q6A2.out; have := qB2.out; omega) (by
                      rintro k (hk | hk)
                      · exact KB2.out.low k hk
                      · have := q6A2.out; have := qB2.out; omega)
                    have nP : Hid (Plc w3.heap.size L Wb ps (.slice gv N cv)) := (PB2.out.below bD2.out).low hlow1.out hlow2.out nB.out
                    have na := (nB.out.block _ hwb6.out).trans ((bD2.out.block _ (heap_lt aB2.out)).trans aB2.out)
                    have nt := n2.out.but.at ((bD2.out.block _ (heap_lt htb2.out)).trans htb2.out) (by
                      rintro (hk | hk)
                      · exact KB2.out.kpr.not htb2.out (by decide) (by decide) (by decide) hk
                      · have := heap_lt htb2.out; omega)
                    obtain ⟨gp, rfl, pcell⟩ := nP.out.cells hN.out (by have := hN.out; omega)
                    obtain ⟨p0, p1, p2⟩ := pcell pre.length hip
                    have dp := nP.out.data ps[pre.length] (List.getElem_mem hip)
                    rw [← hxe.out] at p0 p1 dp
                    have nib := n2.out.box
                    generalize ps[pre.length].2 = pv at dp p2
                    rw [hj] at p0 p1 p2 nib
                    rw [hdn.out] at dp
                    obtain ⟨pa, pc, rfl⟩ := owns_form dp
                    clear hWb hsb i2 ho' pcell
                    have KS : Hid (∀ q : World, Below Wb.heap.size Wb q → Below Wb.heap.size Wb q ∧ q.cell? ⟨ib2, 0, none⟩ = some (.int .i64 (j : Int)) ∧ q.cell? ⟨wb + 1, 0, none⟩ = some (.slice (some ⟨gp, 0, none⟩) N cv) ∧ q.cell? ⟨gp, j * 3, none⟩ = some (.int .i64 (x.e : Int)) ∧ q.cell? ⟨gp, j * 3 + 1, none⟩ = some (.int .i64 (x.n : Int)) ∧ q.cell? ⟨gp, j * 3 + 2, none⟩ = some (.slice pa dn pc) ∧ q.cell? ⟨W1.heap.size, 0, none⟩ = some (.int .i64 (x.n : Int)) ∧ q.cell? ⟨W1.heap.size, 1, none⟩ = some (.slice va dn vc)) := fun q hq => by
                      obtain ⟨c1, c2, _, _⟩ := two_cells n1.out
                      exact ⟨hq, (hq.cell (heap_lt nib)).trans (Boxed.cell nib), (hq.cell (heap_lt na)).trans (Boxed.cell na), (hq.cell (lt_of_cell p0)).trans p0, (hq.cell (lt_of_cell p1)).trans p1, (hq.cell (lt_of_cell p2)).trans p2, (hq.cell (heap_lt n1.out)).trans c1, (hq.cell (heap_lt n1.out)).trans c2⟩
                    have KQ : Hid (∀ q : World, Below Wb.heap.size Wb q → Calls Try.prog 9 #[.agg #[.int .i64 (x.n : Int), .slice va dn vc], .agg #[.int .i64 (x.n : Int), .slice pa dn pc]] q fun e w' => e = .returned (.bool true) ∧ Below q.heap.size q w') := fun q hq => by
                      have := eq6_any q (x.n : Int) (x.n : Int) _ _ (dat L x) (dat L x) (Below.sl hq (Sl.of_owns2 nO.out hdn.out)) (Below.sl hq (Sl.of_owns2 dp hdn.out))
                      simpa using this
                    have j0 : (0 : Int) ≤ (j : Int) := by omega
                    have j1 : (j : Int) < (N : Int) := by have := hN.out; omega
                    have hS0 := KS.out Wb.drew (Below.refl _ _).drew
                    gi_wp2
                    refine wpIn_region_heldR (S := fun q => Below Wb.heap.size Wb q ∧ q.cell? ⟨ib2, 0, none⟩ = some (.int .i64 (j : Int)) ∧ q.cell? ⟨wb + 1, 0, none⟩ = some (.slice (some ⟨gp, 0, none⟩) N cv) ∧ q.cell? ⟨gp, j * 3, none⟩ = some (.int .i64 (x.e : Int)) ∧ q.cell? ⟨gp, j * 3 + 1, none⟩ = some (.int .i64 (x.n : Int)) ∧ q.cell? ⟨gp, j * 3 + 2, none⟩ = some (.slice pa dn pc) ∧ q.cell? ⟨W1.heap.size, 0, none⟩ = some (.int .i64 (x.n : Int)) ∧ q.cell? ⟨W1.heap.size, 1, none⟩ = some (.slice va dn vc)) (by kernel_rfl) (by kernel_rfl) ?hL ?_
                    case hL => rintro ⟨_, _, h⟩; exact h
                    have hNm : (N : Int) ≤ 9223372036854775807 := by
                      have := evP_len hxs.out
                      have := hxN.out; have := hM.out; have := hML.out
                      omega
                    refine reg38 (fun _ _ _ _ _ h => h) (by omega) hNm KS hS0 KQ ?_
                    intro q s162 s163 s164 s165 s166 s167 s168 s169 s170 s171 s172 s173 s174 s175 s176 s177 s178 s179 s180 s181 s182 s183 Bq
                    dsimp only
                    have Bq' := hide Bq
                    have CK := hide (L3.keep n2.out Bq (ownsRow_below nO.out Bq) hdn.out (by
                        have := hML.out; have := hM.out
                        have := dat_len L x
                        have := hdn.out
                        omega) (fun k hk => by
                        have h1 := hD.out k ((hDk.out k).2 hk)
                        exact ⟨h1.1, by omega, by omega⟩) hwcw.out (by have := q6A2.out; have := qB2.out; omega))
                    rw [hj] at CK
                    have d1 : q.cell? ⟨kb + 1, 0, none⟩ = some (.pointer (some ⟨kb, 0, none⟩)) := by
                      obtain ⟨Ck, k1, _⟩ := n2.out.ka
                      exact (Bq.cell (p := ⟨kb + 1, 0, none⟩) (heap_lt k1.ptr)).trans (Boxed.cell k1.ptr)
                    have d2 := (KS.out q Bq).2.2.2.2.2.2.2
                    clear KS KQ hS0 nO p0 p1 p2 dp
                    have ntC : Hid (¬ C1 tb2 ∧ tb2 ≠ ib2) := by
                      refine ⟨fun h => ?_, by have := heap_lt htb2.out; omega⟩
                      rcases n2.out.sub tb2 h with (hk | hk) | hk
                      · exact KB2.out.kpr.not htb2.out (by decide) (by decide) (by decide) hk
                      · have := heap_lt htb2.out; omega
                      · have := heap_lt htb2.out; omega
                    have nt' := hide nt
                    clear na nt nib
                    gi_wp2
                    refine ⟨trivial, rfl, CallsIn.mono (callsIn_wide.2 (CK.out 1)) ?_⟩
                    rintro e W4 ⟨rfl, bt4, bx4, C2, l4, bu4, hC2⟩
                    have c1 := Boxed.cell bx4
                    have f1 := Boxed.frozen bx4
                    have c2 := Boxed.cell (bt4.at nt'.out ntC.out.1)
                    have hne := ntC.out.2
                    replace bt4 := hide bt4
                    replace l4 := hide l4
                    replace bu4 := hide bu4
                    replace hC2 := hide hC2
                    have hlx : (pre ++ [x]).length = j + 1 := by rw [List.length_append, hj]; rfl
                    have hC3 : Hid (∀ k, C2 k → (C1 k ∨ D k ∨ W1.heap.size ≤ k) ∧ k < (W4.setCell ⟨ib2, 0, none⟩ (.int .i64 ((j : Int) + 1))).heap.size) := fun k hk => by
                      obtain ⟨h1, h2⟩ := hC2.out k hk
                      refine ⟨?_, h2⟩
                      rcases h1 with h1 | h1 | h1
                      · exact .inl h1
                      · exact .inr (.inl ((hDk.out k).2 h1))
                      · exact .inr (.inr (by omega))
                    replace hlx := hide hlx
                    gi_wp2
                    exact ⟨C2, by have h := l4.out; rw [← hlx.out] at h; exact h, bu4.out, hC3.out⟩
                  case mid =>
                    rintro C3 WX hWX hKX nKX
                    have hL4 : L3 w.heap.size w6.heap.size kb (kb + 1) ib2 (fun k => Ck k ∨ k = ib2) W02 N C3 WX := by
                      rcases hWX with h | ⟨_, _, h⟩
                      · rw [← hxN.out]; exact h
                      · exact h.elim
                    clear hWX
                    obtain ⟨Cl, kaX, hCl⟩ := hL4.ka
                    have BX6 : Hid (Below w6.heap.size W02 WX) := hL4.but.below (by have := q6A2.out; have := qB2.out; omega) (by
                      rintro k (hk | hk)
                      · exact KB2.out.low k hk
                      · have := q6A2.out; have := qB2.out; omega)
                    have aX := hide ((BX6.out.block _ hwb6.out).trans ((bD2.out.block _ (heap_lt aB2.out)).trans aB2.out))
                    have hr6 : Hid (w.heap.size < w6.heap.size) := by have := hwcw.out; have := hlgw.out; have := hl3.out; have := hwb.out; have := hwb6.out; show _ < _; omega
                    have rX := hide ((BX6.out.block _ hr6.out).trans ((bD2.out.block _ (heap_lt rB2.out)).trans rB2.out))
                    have BXw : Hid (Below w.heap.size w WX) := (keepF BB2.out bD2.out).trans (BX6.out.mono hwcw.out)
                    have tX := hL4.but.at ((bD2.out.block _ (heap_lt htb2.out)).trans htb2.out) (by
                      rintro (hk | hk)
                      · exact KB2.out.kpr.not htb2.out (by decide) (by decide) (by decide) hk
                      · have := heap_lt htb2.out; omega)
                    have mX := hide (hL4.but.at ((bD2.out.block _ (heap_lt mB2.out)).trans mB2.out) (by
                      rintro (hk | hk)
                      · exact nKk.out hk
                      · have := heap_lt mB2.out; omega))
                    have hm12 : Hid (m1 ≠ W02.heap.size) := by have := heap_lt mB2.out; show _ ≠ _; omega
                    have c1 := Boxed.cell hL4.box
                    have c2 := Boxed.cell tX
                    have c3 := Boxed.cell aX.out
                    have q0 : ((N : Int) != (N : Int)) = false := by simp
                    have kpX := hide (kaX.kpr.raise kaX.low)
                    have ptX := hide kaX.ptr
                    replace hKX := hide hKX
                    clear hL4 kaX hCl tX nKX y1D2 y2D2 y3D2
                    dsimp only
                    go_wp2_with fail
                    rw [rounds_succ]
                    have bZ := box_below WX (.cells #[.int .i64 2] 3)
                    have cZ := Boxed.cell (heap_alloc_new WX (.cells #[.int .i64 2] 3))
                    have pZ := Boxed.cell ((bZ.block _ (heap_lt ptX.out)).trans ptX.out)
                    have CA := hide ((kpX.out.but (But.of_below bZ fun _ => False) (fun k h => h.elim)).apartD)
                    have rZ := hide ((bZ.block _ (heap_lt rX.out)).trans rX.out)
                    have mZ := hide ((bZ.block _ (heap_lt mX.out)).trans mX.out)
                    have kZ := hide ((bZ.block _ (heap_lt hKX.out)).trans hKX.out)
                    have BZ := hide (keepF BXw.out bZ)
                    clear bZ c1 c2 c3
                    go_wp2_with fail
                    refine CA.out.mono ?_
                    rintro e wY ⟨rfl, bd⟩
                    have rY := hide ((bd.b.block _ hr6.out).trans rZ.out)
                    have mY := hide (bd.d _ _ mZ.out)
                    have kY := hide (bd.d _ _ kZ.out)
                    have BY := hide (BZ.out.trans (bd.b.mono hwcw.out))
                    have c4 := Boxed.cell rY.out
                    have f4 := Boxed.frozen rY.out
                    clear CA bd
                    go_wp2_with fail
                    have r5 := Boxed.set (.bool true) rY.out
                    have bS := (BD.refl 0 wY).setCell (p := ⟨w.heap.size, 0, none⟩) (Nat.zero_le _) (.bool true)
                    have kS := bS.d _ _ kY.out
                    have mS := bS.d _ _ mY.out
                    have BS := BY.out.setCell (p := ⟨w.heap.size, 0, none⟩) (Nat.le_refl _) (.bool true)
                    have g1 : w.heap.size ≠ W02.heap.size := by have := hr6.out; have := q6A2.out; have := qB2.out; omega
                    have g2 : w.heap.size ≠ m1 := by have := hr6.out; have := hm6.out; omega
                    have zS := BS.size
                    clear bS
                    generalize wY.setCell ⟨w.heap.size, 0, none⟩ (.bool true) = wS at *
                    have mS2 : (wS.putObj W02.heap.size (.deferred none)).heap[m1]? = some (.deferred (some [])) := (World.putObj_heap_other (by have := hm12.out; omega)).trans mS
                    refine ⟨by simp, .inl ⟨_, _, rfl, run_takeDeferred kS, ⟨by simp, .inl ⟨_, _, rfl, run_takeDeferred mS2, ?_⟩⟩⟩⟩
                    have rT : Boxed ((wS.putObj W02.heap.size (.deferred none)).putObj m1 (.deferred none)) w.heap.size 4 (.bool true) := by
                      show _ = _
                      rw [World.putObj_heap_other (by omega), World.putObj_heap_other (by omega)]
                      exact r5
                    have BT : Below w.heap.size w ((wS.putObj W02.heap.size (.deferred none)).putObj m1 (.deferred none)) := by
                      refine (BS.trans ((But.putObj (X := fun k => k = W02.heap.size) wS _ _ rfl).below zS (fun k e => by have := hr6.out; have := q6A2.out; have := qB2.out; omega))).trans ((But.putObj (X := fun k => k = m1) _ _ _ rfl).below (by simpa using zS) (fun k e => by have := hr6.out; have := hm6.out; omega))
                    have cT := Boxed.cell rT
                    exact ⟨_, by simp [results, Try.results3, go_sem, cT], rfl, BT⟩

#print axioms sall_walk
end Go.Proofs.Ytebhkdaefjmbnaa
