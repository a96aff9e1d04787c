/-
  The walk of IndexAll. (Written by gen_IxY.py.)
-/
import Derived.Test.YtoffahbnffhliaaIxz
namespace Go.Proofs.Ytoffahbnffhliaa.Ix
open Go.RowKit
set_option linter.unusedVariables false

set_option maxRecDepth 100000 in
set_option maxHeartbeats 16000000 in
theorem all_walk (w : World) (step : Int) (ao : Option Addr) (ca : Nat) (os : List (Int × Int × Int)) (h0 : -9223372036854775808 ≤ step) (h1 : step ≤ 9223372036854775807) (hln : os.length ≤ 9223372036854775807) (hat : AtIops w ao os) (hok : ∀ o ∈ os, IopOk o) :
    Calls Try.prog 3 #[.int .i64 step, .slice ao os.length ca] w fun e w' => e = .returned (.bool true) ∧ Below w.heap.size w w' := by
  have HAT := hide hat
  have HOP := hide hok
  obtain ⟨n, hn⟩ : ∃ n, Hid (os.length = n) := ⟨_, rfl⟩
  rw [hn.out] at hln ⊢
  have hq : ∀ (a b c d : Int) (u : World), (binOp .eql 35 (.agg #[.int .i64 a, .int .i64 b]) (.agg #[.int .i64 c, .int .i64 d])).run Try.prog u = .ok (.bool (decide (a = c ∧ b = d))) u := fun a b c d u => entEql u a b c d
  clear hat hok
  go_enter Try.func3, Try.ntmps3
  go_wp2_with fail
  refine (begun_any w).mono ?_
  rintro e w0 ⟨rfl, b0⟩
  replace b0 := hide b0
  go_wp2_with fail
  refine (new_any w0 step h0 h1).mono ?_
  rintro e w1 ⟨B1, ⟨h, rfl⟩ | ⟨q0, q1, b1, lo1, rfl, A1⟩⟩
  · have hB := hide (keepF b0.out B1)
    clear B1
    go_wp2_with fail
    refine (refNew_any w1 step h0 h1).mono ?_
    rintro e w2 ⟨B2, ⟨h', rfl⟩ | ⟨q0, q1, _⟩⟩
    · have hB2 := hide (keepF hB.out B2)
      clear B2 hB
      go_wp2_with fail
      go_ret
      exact ⟨rfl, hB2.out⟩
    · exact absurd ⟨q0, q1⟩ h
  have hB := hide (keepF b0.out B1)
  have M1 : Hid (Mine TI w w1 b1 ⟨step.toNat, [], (0, 0)⟩ (.slice none 0 0)) := ⟨A1, hB.out, Nat.le_trans b0.out.size lo1, fun k hk => by simp [Value.ownBlock] at hk⟩
  clear A1 B1 lo1 b0
  go_wp2_with fail
  refine (refNew_any w1 step h0 h1).mono ?_
  rintro e w2 ⟨B2, ⟨h', rfl⟩ | ⟨_, _, b2, lo2, rfl, A2⟩⟩
  · exact absurd ⟨q0, q1⟩ h'
  have hbl1 : b1 < w1.heap.size := M1.out.at0.lt b1 (.inl rfl)
  have P2 : Hid (Pair TI TR w w2 b1 ⟨step.toNat, [], (0, 0)⟩ (.slice none 0 0) b2 ⟨step.toNat, [], (0, 0)⟩ (.slice none 0 0)) :=
    ⟨M1.out.below B2, ⟨A2, keepF hB.out B2, Nat.le_trans hB.out.size lo2, fun k hk => by simp [Value.ownBlock] at hk⟩, by omega, fun k hk => by simp [Value.ownBlock] at hk⟩
  have OK2 : Hid (Ok ⟨step.toNat, [], (0, 0)⟩) := Ok.new (by omega) (by omega)
  clear A2 B2 lo2 M1 hB hbl1
  go_wp2_with fail
  go_loopg [5, 6, 7, 8, 9] 300 (fun kx y5 y6 y7 y8 vi wr => ∃ (i b1 b2 : Nat) (v1 v2 : Value) (x : X), i ≤ n ∧ i ≤ 300 ∧ 300 - i ≤ kx ∧ y5 = .pointer (some ⟨b1, 0, none⟩) ∧ y6 = .int .i64 0 ∧ y7 = .pointer (some ⟨b2, 0, none⟩) ∧ y8 = .int .i64 0 ∧ vi = .int .i64 (i : Int) ∧ Hid (Pair TI TR w wr b1 x v1 b2 x v2) ∧ Hid (Ok x))
  case atStart => exact ⟨0, b1, b2, _, _, _, Nat.zero_le _, by omega, by omega, rfl, rfl, rfl, rfl, rfl, P2.out, OK2.out⟩
  case round =>
    clear P2 OK2
    obtain ⟨i, b1, b2, v1, v2, x, hi, hi3, hik, rfl, rfl, rfl, rfl, rfl, hP, hO⟩ := hrel
    by_cases hlt : i < n ∧ i < 300
    · obtain ⟨l1, l2⟩ := hlt
      have l1' : (i : Int) < (n : Int) := by omega
      have l2' : (i : Int) < 300 := by omega
      have hiv : i < os.length := by rw [hn.out]; exact l1
      obtain ⟨bz, oz, rfl, k0, k1, k2⟩ := HAT.out i hiv
      obtain ⟨⟨o0, o1⟩, ⟨o2, o3⟩, o4, o5⟩ := HOP.out _ (List.getElem_mem hiv)
      generalize os[i] = op at *
      obtain ⟨kd, ln, of⟩ := op
      simp only at k0 k1 k2 o0 o1 o2 o3 o4 o5
      have e0 : wr.cell? ⟨bz, oz + i * 3, none⟩ = some (.int .i64 kd) := by rw [hP.out.m1.bel.cell (lt_of_cell k0)]; exact k0
      have e1 : wr.cell? ⟨bz, oz + i * 3 + 1, none⟩ = some (.int .i64 ln) := by rw [hP.out.m1.bel.cell (lt_of_cell k1)]; exact k1
      have e2 : wr.cell? ⟨bz, oz + i * 3 + 2, none⟩ = some (.int .i64 of) := by rw [hP.out.m1.bel.cell (lt_of_cell k2)]; exact k2
      have P3 := hide (hP.out.below (box_below wr (.cells #[.int .i64 kd, .int .i64 ln, .int .i64 of] 32)))
      have O3 : Hid ((wr.alloc (.cells #[.int .i64 kd, .int .i64 ln, .int .i64 of] 32)).heap[wr.heap.size]? = some (.cells #[.int .i64 kd, .int .i64 ln, .int .i64 of] 32 (0, 0))) := heap_alloc_new _ _
      obtain ⟨c0, c1, c2⟩ := three_cells O3.out
      clear k0 k1 k2 hP
      go_upto_region 12 with fail
      repeat ((fail_if_success (with_reducible show Code.wp _ (Code.block 2 _) _ _ _)); first | go_values | go_skip | go_guarded | go_step | go_upon | go_back)
      generalize wr.alloc (.cells #[.int .i64 kd, .int .i64 ln, .int .i64 of] 32) = w3 at *
      generalize wr.heap.size = ob at *
      clear e0 e1 e2
      go_cut [5, 6, 7, 8, 11] from 214 (fun y5 y6 y7 y8 y11 wc => ∃ (b1 b2 : Nat) (v1 v2 : Value) (x : X), y5 = .pointer (some ⟨b1, 0, none⟩) ∧ y6 = .int .i64 0 ∧ y7 = .pointer (some ⟨b2, 0, none⟩) ∧ y8 = .int .i64 0 ∧ y11 = .bool true ∧ Hid (Pair TI TR w wc b1 x v1 b2 x v2) ∧ Hid (Ok x))
      case rest =>
        clear P3 O3 c0 c1 c2 hO
        obtain ⟨b1, b2, v1, v2, x, rfl, rfl, rfl, rfl, rfl, PP, hO⟩ := hcut
        by_cases h16 : (i : Int) % 16 = 0
        · go_wp2_with fail
          refine (same_any _ b1 b2 x _ _ PP.out.m1.at0 PP.out.m2.at0 hO.out).mono ?_
          rintro e w9 ⟨rfl, b9⟩
          have P9 := hide (PP.out.below b9)
          clear b9
          go_wp2_with fail
          go_roundg (300 - (i + 1))
          case measure => omega
          case rel => exact ⟨i + 1, b1, b2, _, _, x, by omega, by omega, Nat.le_refl _, rfl, rfl, rfl, rfl, by go_num, P9.out, hO.out⟩
        · go_wp2_with fail
          go_roundg (300 - (i + 1))
          case measure => omega
          case rel => exact ⟨i + 1, b1, b2, _, _, x, by omega, by omega, Nat.le_refl _, rfl, rfl, rfl, rfl, by go_num, PP.out, hO.out⟩
      by_cases hk1 : kd = 1
      · subst hk1
        go_upto_region 14 with fail
        have OK4 := hide (hO.out.add ln of o3)
        have P3d := hide (P3.out.below (Below.refl _ _).drew)
        have O3d : Hid (w3.drew.heap[ob]? = some (.cells #[.int .i64 1, .int .i64 ln, .int .i64 of] 32 (0, 0))) := O3.out
        have SS : Hid (∀ q : World, q.heap[ob]? = some (.cells #[.int .i64 1, .int .i64 ln, .int .i64 of] 32 (0, 0)) → q.cell? ⟨ob, 1, none⟩ = some (.int .i64 ln) ∧ q.cell? ⟨ob, 2, none⟩ = some (.int .i64 of)) := fun q hq => ⟨(three_cells hq).2.1, (three_cells hq).2.2⟩
        have hS0 := SS.out _ O3d.out
        clear c0 c1 c2
        go_region_held3 (fun q => q.cell? ⟨ob, 1, none⟩ = some (.int .i64 ln) ∧ q.cell? ⟨ob, 2, none⟩ = some (.int .i64 of))
          (first | exact hS0 | assumption | exact SS.out _ O4.out | exact SS.out _ O5.out | fail)
          (first
            | (go_at_call 11; refine (add_any _ b1 x v1 ln of P3d.out.m1.at0 hO.out o2 o3 o4 o5).mono ?_; rintro e u1 ⟨rfl, v4, A4, B4, F4⟩; have P4 := hide (P3d.out.next (by decide) (by decide) A4 B4 F4); have O4 := hide (P3d.out.far B4 O3d.out); clear A4 B4 F4)
            | (go_at_call 12; refine (refAdd_any _ b2 x v2 ln of P4.out.m2.at0 hO.out o2 o3 o4 o5).mono ?_; rintro e u2 ⟨rfl, v5, A5, B5, F5⟩; have P5 := hide (P4.out.symm.next (by decide) (by decide) A5 B5 F5).symm; have O5 := hide (P4.out.far2 B5 O4.out); clear A5 B5 F5)
            | fail)
        all_goals
          generalize (addF x ln of).2 = x' at *
          clear P3 O3
          go_wp2_with fail
          go_meet
          case rel => exact ⟨b1, b2, _, _, x', rfl, rfl, rfl, rfl, by first | rfl | simp, P5.out, OK4.out⟩
      by_cases hk2 : kd = 2
      · subst hk2
        obtain ⟨d0, d1, d2, d3⟩ := P3.out.m2.at0.cells
        obtain ⟨z1, z2, z3, z4, _⟩ := hO.out.la
        obtain ⟨p1, hp1⟩ : ∃ p1, Hid (x.la.1 = p1) := ⟨_, rfl⟩
        obtain ⟨p2, hp2⟩ : ∃ p2, Hid (x.la.2 = p2) := ⟨_, rfl⟩
        rw [hp1.out] at d2 z1 z3
        rw [hp2.out] at d3 z2 z4
        clear d0 d1
        by_cases g1 : (1073741824 : Int) < p2
        · go_wp2_with fail
          go_roundg (300 - (i + 1))
          case measure => omega
          case rel => exact ⟨i + 1, b1, b2, _, _, x, by omega, by omega, Nat.le_refl _, rfl, rfl, rfl, rfl, by go_num, P3.out, hO.out⟩
        by_cases g2 : (1073741824 : Int) < of
        · go_wp2_with fail
          go_roundg (300 - (i + 1))
          case measure => omega
          case rel => exact ⟨i + 1, b1, b2, _, _, x, by omega, by omega, Nat.le_refl _, rfl, rfl, rfl, rfl, by go_num, P3.out, hO.out⟩
        by_cases g3 : p1 = 9223372036854775807
        · have g3b : (p1 == 9223372036854775807) = true := by simpa using g3
          go_wp2_with fail
          go_roundg (300 - (i + 1))
          case measure => omega
          case rel => exact ⟨i + 1, b1, b2, _, _, x, by omega, by omega, Nat.le_refl _, rfl, rfl, rfl, rfl, by go_num, P3.out, hO.out⟩
        · have g3b : (p1 == 9223372036854775807) = false := by simpa using g3
          have hw1 : IntKind.i64.wrap (p1 + 1) = p1 + 1 := by rw [IntKind.wrap_i64]; omega
          have hw2 : IntKind.i64.wrap (p2 + of) = p2 + of := by rw [IntKind.wrap_i64]; omega
          have OK4 := hide (hO.out.add (p1 + 1) (p2 + of) (by omega))
          go_upto_region 17 with fail
          clear c0 c1 c2 d2 d3
          refine region17 P3.out hO.out O3.out hp1.out hp2.out z1 (by omega) z2 (by omega) (by omega) o4 (fun _ _ d _ _ h => by cases d <;> exact h) ?_
          intro v1' v2' u2 t94 t95 t96 t97 t98 t99 t100 t101 t102 t103 t104 t105 t106 t107 t108 t109 t110 t111 t112 t113 t114 t115 t116 t117 t118 t119 t120 t121 t122 t123 t124 t125 t126 P5'
          have P5 := hide P5'
          clear P5'
          generalize (addF x (p1 + 1) (p2 + of)).2 = x' at *
          clear P3 O3
          go_wp2_with fail
          go_meet
          case rel => exact ⟨b1, b2, _, _, x', rfl, rfl, rfl, rfl, by first | rfl | simp, P5.out, OK4.out⟩
      by_cases hk3 : kd = 3
      · subst hk3
        have hne1 : ¬ ((3 : Int) = 1) := by decide
        go_wp2_with fail
        refine (find_any w3 b1 x v1 ln P3.out.m1.at0 hO.out o2 o3).mono ?_
        rintro e w4 ⟨rfl, b4⟩
        obtain ⟨⟨F1, F2⟩, FB, hF⟩ : ∃ (F : Int × Int) (FB : Bool), Hid (findF x.l ln = (F, FB)) := ⟨_, _, rfl⟩
        rw [hF.out]
        simp only [entv]
        have P4 := hide ((P3.out.below b4).below (box_below w4 (.cells #[.int .i64 F1, .int .i64 F2] 35)))
        have O4 : Hid ((w4.alloc (.cells #[.int .i64 F1, .int .i64 F2] 35)).heap[ob]? = some (.cells #[.int .i64 3, .int .i64 ln, .int .i64 of] 32 (0, 0))) := by
          show _ = _
          have hob := heap_lt O3.out
          rw [Below.heap_alloc _ _ _ (by have := b4.size; omega), b4.block ob hob]; exact O3.out
        have T4 : Hid ((w4.alloc (.cells #[.int .i64 F1, .int .i64 F2] 35)).heap[w4.heap.size]? = some (.cells #[.int .i64 F1, .int .i64 F2] 35 (0, 0))) := heap_alloc_new _ _
        clear b4 c0 c1 c2 P3 O3
        obtain ⟨c0, c1, c2⟩ := three_cells O4.out
        go_wp2_with fail
        generalize w4.alloc (.cells #[.int .i64 F1, .int .i64 F2] 35) = w5 at *
        generalize w4.heap.size = tb at *
        refine (refFind_any w5 b2 x v2 ln P4.out.m2.at0 hO.out o2 o3).mono ?_
        rintro e w6 ⟨rfl, b6⟩
        rw [hF.out]
        simp only [entv]
        have P6 := hide ((P4.out.below b6).below (box_below w6 (.cells #[.int .i64 F1, .int .i64 F2] 35)))
        have T6 : Hid ((w6.alloc (.cells #[.int .i64 F1, .int .i64 F2] 35)).heap[tb]? = some (.cells #[.int .i64 F1, .int .i64 F2] 35 (0, 0))) := by
          show _ = _
          have htb := heap_lt T4.out
          rw [Below.heap_alloc _ _ _ (by have := b6.size; omega), b6.block tb htb]; exact T4.out
        have T7 : Hid ((w6.alloc (.cells #[.int .i64 F1, .int .i64 F2] 35)).heap[w6.heap.size]? = some (.cells #[.int .i64 F1, .int .i64 F2] 35 (0, 0))) := heap_alloc_new _ _
        clear b6 c0 c1 c2 P4 O4 T4
        obtain ⟨t0, t1, _, _⟩ := two_cells T6.out
        obtain ⟨t2, t3, _, _⟩ := two_cells T7.out
        have hdd : decide (F1 = F1 ∧ F2 = F2) = true := by simp
        go_wp2_with fail
        go_meet
        case rel => exact ⟨b1, b2, _, _, x, rfl, rfl, rfl, rfl, by first | rfl | simp, P6.out, hO.out⟩
      by_cases hk4 : kd = 4
      · subst hk4
        go_upto_region 23 with fail
        have OK4 := hide (hO.out.cut ln)
        have P3d := hide (P3.out.below (Below.refl _ _).drew)
        have O3d : Hid (w3.drew.heap[ob]? = some (.cells #[.int .i64 4, .int .i64 ln, .int .i64 of] 32 (0, 0))) := O3.out
        have SS : Hid (∀ q : World, q.heap[ob]? = some (.cells #[.int .i64 4, .int .i64 ln, .int .i64 of] 32 (0, 0)) → q.cell? ⟨ob, 1, none⟩ = some (.int .i64 ln)) := fun q hq => (three_cells hq).2.1
        have hS0 := SS.out _ O3d.out
        clear c0 c1 c2
        go_region_held3 (fun q => q.cell? ⟨ob, 1, none⟩ = some (.int .i64 ln))
          (first | exact hS0 | assumption | exact SS.out _ O4.out | exact SS.out _ O5.out | fail)
          (first
            | (go_at_call 15; refine (cut_any _ b1 x v1 ln P3d.out.m1.at0 hO.out o2 o3).mono ?_; rintro e u1 ⟨rfl, v4, A4, B4, F4⟩; have P4 := hide (P3d.out.next (by decide) (by decide) A4 B4 fun k hk => Or.inl (F4 k hk)); have O4 := hide (P3d.out.far B4 O3d.out); clear A4 B4 F4)
            | (go_at_call 16; refine (refCut_any _ b2 x v2 ln P4.out.m2.at0 hO.out o2 o3).mono ?_; rintro e u2 ⟨rfl, v5, A5, B5, F5⟩; have P5 := hide (P4.out.symm.next (by decide) (by decide) A5 B5 fun k hk => Or.inl (F5 k hk)).symm; have O5 := hide (P4.out.far2 B5 O4.out); clear A5 B5 F5)
            | fail)
        all_goals
          generalize (cutF x ln).2 = x' at *
          clear P3 O3
          go_wp2_with fail
          go_meet
          case rel => exact ⟨b1, b2, _, _, x', rfl, rfl, rfl, rfl, by first | rfl | simp, P5.out, OK4.out⟩
      by_cases hk5 : kd = 5
      · subst hk5
        have hBl : Hid ((bytesF x).length ≤ 140737488355328) := by
          show _ ≤ _
          have a := front_len x
          have b := hO.out.srt.len
          rw [bytesF, List.length_append, fx_len]
          omega
        have hLS := hide (load_saved hO.out)
        have OK4 := hide (Ok.last hO.out.srt)
        obtain ⟨x', hx'⟩ : ∃ x', Hid ((⟨x.st, x.l, lastE x.l⟩ : X) = x') := ⟨_, rfl⟩
        rw [hx'.out] at hLS OK4
        go_wp2_with fail
        refine (bytes_any w3 b1 x v1 P3.out.m1.at0 hO.out).mono ?_
        rintro e w4 ⟨u4, rfl, s4, b4⟩
        have P4 := hide (P3.out.below b4)
        have S4 := hide (Sl.of_owns s4)
        obtain ⟨ao4, ca4, rfl⟩ := Bs.form s4
        clear b4 s4 P3 O3 c0 c1 c2
        go_wp2_with fail
        refine (load_any w4 _ _ S4.out hBl.out).mono ?_
        rintro e w5 ⟨p5, rfl, ld5, b5⟩
        rw [hLS.out] at ld5 ⊢
        obtain ⟨b1', v1', rfl, g5, A5, F5⟩ := ld5.good rfl
        have P5 := hide (P4.out.below b5)
        have A5' := hide A5
        have F5' : Hid (∀ k, v1'.ownBlock = some k → w.heap.size ≤ k ∧ k < w5.heap.size) := fun k hk => ⟨Nat.le_trans P4.out.m1.bel.size (F5 k hk), A5.row.lt k hk⟩
        have g5' : w.heap.size ≤ b1' := Nat.le_trans P4.out.m1.bel.size g5
        have g6' : b1' < w5.heap.size := A5.lt b1' (.inl rfl)
        clear ld5 A5 F5 g5 b5 P4 S4
        go_wp2_with fail
        refine (refBytes_any w5 b2 x v2 P5.out.m2.at0 hO.out).mono ?_
        rintro e w6 ⟨u6, rfl, s6, b6⟩
        have P6 := hide (P5.out.below b6)
        have A6 := hide (A5'.out.below b6)
        have S6 := hide (Sl.of_owns s6)
        have z6 := b6.size
        obtain ⟨ao6, ca6, rfl⟩ := Bs.form s6
        clear b6 s6 P5 A5'
        go_wp2_with fail
        refine (refLoad_any w6 _ _ S6.out hBl.out).mono ?_
        rintro e w7 ⟨p7, rfl, ld7, b7⟩
        rw [hLS.out] at ld7 ⊢
        obtain ⟨b2', v2', rfl, g7, A7, F7⟩ := ld7.good rfl
        have P9 : Hid (Pair TI TR w w7 b1' x' v1' b2' x' v2') := by
          refine ⟨⟨A6.out.below b7, keepF P6.out.m1.bel b7, g5', fun k hk => (F5'.out k hk).1⟩, ⟨A7, keepF P6.out.m1.bel b7, Nat.le_trans P6.out.m1.bel.size g7, fun k hk => Nat.le_trans P6.out.m1.bel.size (F7 k hk)⟩, by omega, fun k hk e => ?_⟩
          have := (F5'.out k hk).2
          have := F7 k e
          omega
        clear ld7 A7 F7 b7 P6 A6 S6 g7
        go_wp2_with fail
        go_meet
        case rel => exact ⟨b1', b2', _, _, x', rfl, rfl, rfl, rfl, by first | rfl | simp, P9.out, OK4.out⟩
      · have m1 : (kd == 1) = false := by simpa using hk1
        have m2 : (kd == 2) = false := by simpa using hk2
        have m3 : (kd == 3) = false := by simpa using hk3
        have m4 : (kd == 4) = false := by simpa using hk4
        have m5 : (kd == 5) = false := by simpa using hk5
        go_wp2_with fail
        go_meet
        case rel => exact ⟨b1, b2, _, _, x, rfl, rfl, rfl, rfl, by first | rfl | simp, P3.out, hO.out⟩
    · have hcond : ((i : Int) < (n : Int) ∧ ¬ (i : Int) < 300) ∨ ¬ (i : Int) < (n : Int) := by omega
      rcases hcond with ⟨hz, hz2⟩ | hz
      all_goals
        go_wp2_with fail
        refine (same_any _ b1 b2 x _ _ hP.out.m1.at0 hP.out.m2.at0 hO.out).mono ?_
        rintro e w9 ⟨rfl, b9⟩
        have P9 := hide (hP.out.below b9)
        clear b9
        go_wp2_with fail
        go_ret
        exact ⟨rfl, P9.out.m1.bel⟩
#print axioms all_walk
end Go.Proofs.Ytoffahbnffhliaa.Ix
