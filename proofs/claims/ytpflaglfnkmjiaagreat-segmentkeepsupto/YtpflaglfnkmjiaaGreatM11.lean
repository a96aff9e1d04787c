/-
  SegmentKeeps: the walk.
-/
import Derived.Test.YtpflaglfnkmjiaaGreatM10
import Derived.Deep.LoopGhost
import Derived.Deep.RegionHeld3
import Derived.BigQuiet
import Derived.Test.YtpflaglfnkmjiaaGreatM02
import Derived.Test.YtpflaglfnkmjiaaGreatM01
set_option maxRecDepth 100000
set_option maxHeartbeats 40000000
set_option linter.unusedVariables false
namespace Go.Proofs.YtpflaglfnkmjiaaGreat.Sg
open Go.RowKit Go.Maps Go.Sort Go.Shelf Go.Proofs.YtpflaglfnkmjiaaGreat.Nm Go.Proofs.YtpflaglfnkmjiaaGreat.Dk
open Ix (wp_region_T wpAnyT wpAnyT_take wpAnyT_one wpAnyT_done vac)
theorem wpList_append_runS {w : World} {ops : Array Oper} {rest : List Oper} {o : Oper} {a : Act} {Q : Exit → Act → World → Prop} (hgd : o.guard = none) (s x : Operand) {vs vx v' : Value} {w' : World}
    (ho : o.op = .call { callee := .builtin .append, args := #[s, x], argTypes := #[35, 35] }) (hs : a.eval s = vs) (hx : a.eval x = vx)
    (hr : (Builtin.append_ #[35, 35] o.type #[vs, vx]).run Tryz.prog w = .ok v' w') (h : wpList Tryz.prog ops Q rest (a.put o.dst v') w') : wpList Tryz.prog ops Q (o :: rest) a w := by
 refine wpList_plain hgd fun K hK => ?_
 exact Lib.wp_append_run _ s x 35 35 ho vs vx hs hx v' w' hr (hK _ _ h)
theorem sin_of {w : World} {v : Value} {l : List UInt8} {Z : Nat → Prop} (h : Sl w v l) (hz : ∀ k, k < w.heap.size → Z k) : SIn Z v := by
 rintro b off n c e hn
 obtain ⟨ao, ca, e2, _, _, _, h5⟩ := h
 rw [e] at e2
 simp only [Value.slice.injEq] at e2
 obtain ⟨rfl, rfl, rfl⟩ := e2
 obtain ⟨b', off', e', hc⟩ := h5 0 hn
 simp only [Option.some.injEq, Addr.mk.injEq] at e'
 obtain ⟨rfl, _, _⟩ := e'
 exact hz _ (lt_of_cell hc)
theorem keeps_walk (w : World) (bs : Int) (b0 : -9223372036854775808 ≤ bs) (b1 : bs ≤ 9223372036854775807) (vF : Value) (us : List Value) (fs : List (List UInt8)) (hrF : Row w vF us) (hsF : Sls w us fs) (hzF : (fs.map List.length).sum ≤ 1048576) (hcF : fs.length ≤ 1048576)
    (vM : Value) (ts : List Value) (ms : List (List UInt8)) (hrM : Row w vM ts) (hsM : Sls w ts ms) (hzM : (ms.map List.length).sum ≤ 1048576) (hcM : ms.length ≤ 1048576) (n : Int) (n0 : -9223372036854775808 ≤ n) (n1 : n ≤ 9223372036854775807) (vJ : Value) (J : List UInt8) (hJ : Sl w vJ J) :
    Calls Tryz.prog 4 #[.int .i64 bs, vF, vM, .int .i64 n, vJ] w fun e w' => e = .returned (.bool true) ∧ Below w.heap.size w w' := by
 have ef : Hid (us.length = fs.length) := hsF.1
 have em : Hid (ts.length = ms.length) := hsM.1
 have zf : Hid (smN fs fs.length = (smS fs : Int)) := hide (by
  have := smN_sum (by omega) hzF fs.length (Nat.le_refl _)
  rwa [List.take_length] at this)
 have zm : Hid (smN ms ms.length = (smS ms : Int)) := hide (by
  have := smN_sum (by omega) hzM ms.length (Nat.le_refl _)
  rwa [List.take_length] at this)
 obtain ⟨NF, hNF⟩ : ∃ n, Hid (us.length = n) := ⟨_, rfl⟩
 obtain ⟨NM, hNM⟩ : ∃ n, Hid (ts.length = n) := ⟨_, rfl⟩
 obtain ⟨NJ, hNJ⟩ : ∃ n, Hid (J.length = n) := ⟨_, rfl⟩
 have HF := hide hrF
 have HM := hide hrM
 have HJ := hide hJ
 replace hsF := hide hsF
 replace hsM := hide hsM
 obtain ⟨fa, fc, rfl, _, _, _, _⟩ := hrF
 obtain ⟨ma, mc, rfl, _, _, _, _⟩ := hrM
 obtain ⟨ja, jc, rfl⟩ := Sl.form hJ rfl
 rw [hNF.out] at HF ⊢
 rw [hNM.out] at HM ⊢
 rw [hNJ.out] at HJ ⊢
 have hNJ1 : NJ ≤ 9223372036854775807 := by
  obtain ⟨_, _, e, _, a, b, _⟩ := hJ
  rw [← hNJ.out]
  unfold maxLen at b
  omega
 clear hJ hzF hzM hcF hcM
 have hB := hide (begun13_any w)
 have hSF : Hid (∀ q, Below w.heap.size w q → Calls Tryz.prog 12 #[.slice fa NF fc] q fun e w' => e = .returned (.bool (decide ((smS fs : Int) ≤ 65536))) ∧ w' = q) := hide fun q hq => by
  have := small_any _ _ _ (Below.row hq HF.out) (Below.sls hq hsF.out)
  rwa [zf.out] at this
 have hSM : Hid (∀ q, Below w.heap.size w q → Calls Tryz.prog 12 #[.slice ma NM mc] q fun e w' => e = .returned (.bool (decide ((smS ms : Int) ≤ 65536))) ∧ w' = q) := hide fun q hq => by
  have := small_any _ _ _ (Below.row hq HM.out) (Below.sls hq hsM.out)
  rwa [zm.out] at this
 have hD : Hid (∀ q, _) := fun q => new_dsk q 262144 (by decide) (by decide)
 go_enter Tryz.func4, Tryz.ntmps4
 go_upto_region 3 with (first
  | (go_at_call 6; refine hB.out.mono ?_; rintro e w1 ⟨rfl, B1⟩; replace B1 := hide B1)
  | fail)
 by_cases hb : bs < 1
 ·go_wp2_with fail
  go_ret
  exact ⟨rfl, B1.out⟩
 by_cases hb2 : 1152921504606846976 < bs
 ·go_wp2_with fail
  go_ret
  exact ⟨rfl, B1.out⟩
 by_cases hcF : ¬ (smS fs : Int) ≤ 65536
 ·rw [show decide ((smS fs : Int) ≤ 65536) = false by simpa using hcF] at hSF
  replace hcF := hide hcF
  go_wp2_with (first
   | (go_at_call 12; refine (hSF.out _ B1.out).mono ?_; rintro e w5 ⟨rfl, e5⟩; rw [e5]; clear e5 w5)
   | fail)
  go_ret
  exact ⟨rfl, B1.out⟩
 have hcF' : smS fs ≤ 65536 := by omega
 rw [show decide ((smS fs : Int) ≤ 65536) = true by simpa using hcF] at hSF
 clear hcF
 replace hcF' := hide hcF'
 by_cases hcM : ¬ (smS ms : Int) ≤ 65536
 ·rw [show decide ((smS ms : Int) ≤ 65536) = false by simpa using hcM] at hSM
  replace hcM := hide hcM
  go_wp2_with (first
   | (have d1 := k1; go_at_call 12; refine (hSM.out _ B1.out).mono ?_; rintro e w5 ⟨rfl, e5⟩; rw [e5]; clear e5 w5)
   | (go_at_call 12; refine (hSF.out _ B1.out).mono ?_; rintro e w5 ⟨rfl, e5⟩; rw [e5]; have k1 := trivial; clear e5 w5)
   | fail)
  go_ret
  exact ⟨rfl, B1.out⟩
 have hcM' : smS ms ≤ 65536 := by omega
 rw [show decide ((smS ms : Int) ≤ 65536) = true by simpa using hcM] at hSM
 clear hcM
 replace hcM' := hide hcM'
 by_cases hf0 : (NF : Int) < 1
 ·go_wp2_with (first
    | (have d1 := k1; go_at_call 12; refine (hSM.out _ B1.out).mono ?_; rintro e w5 ⟨rfl, e5⟩; rw [e5]; clear e5 w5)
    | (go_at_call 12; refine (hSF.out _ B1.out).mono ?_; rintro e w5 ⟨rfl, e5⟩; rw [e5]; have k1 := trivial; clear e5 w5)
    | fail)
  go_ret
  exact ⟨rfl, B1.out⟩
 by_cases hm0 : (NM : Int) < 1
 ·go_wp2_with (first
    | (have d1 := k1; go_at_call 12; refine (hSM.out _ B1.out).mono ?_; rintro e w5 ⟨rfl, e5⟩; rw [e5]; clear e5 w5)
    | (go_at_call 12; refine (hSF.out _ B1.out).mono ?_; rintro e w5 ⟨rfl, e5⟩; rw [e5]; have k1 := trivial; clear e5 w5)
    | fail)
  go_ret
  exact ⟨rfl, B1.out⟩
 by_cases hj0 : (512 : Int) < (NJ : Int)
 ·go_wp2_with (first
    | (have d1 := k1; go_at_call 12; refine (hSM.out _ B1.out).mono ?_; rintro e w5 ⟨rfl, e5⟩; rw [e5]; clear e5 w5)
    | (go_at_call 12; refine (hSF.out _ B1.out).mono ?_; rintro e w5 ⟨rfl, e5⟩; rw [e5]; have k1 := trivial; clear e5 w5)
    | fail)
  go_ret
  exact ⟨rfl, B1.out⟩
 have lf : NF ≤ 4000 := by
  have := smS_len fs
  have := hcF'.out
  have := hNF.out
  have := ef.out
  omega
 have lm : NM ≤ 4000 := by
  have := smS_len ms
  have := hcM'.out
  have := hNM.out
  have := em.out
  omega
 have q2 := hNF.out
 have q3 := hNM.out
 have HX : Hid (∃ a1 c1 w2 a2 c2 w3, Hid ((Builtin.append_ #[35, 35] 35 #[.slice none 0 0, .slice fa NF fc]).run Tryz.prog w1 = .ok (.slice a1 NF c1) w2) ∧ Hid ((Builtin.append_ #[35, 35] 35 #[.slice a1 NF c1, .slice ma NM mc]).run Tryz.prog w2 = .ok (.slice a2 (NF + NM) c2) w3) ∧ Hid (Below w1.heap.size w1 w3) ∧ Hid (Row w3 (.slice a2 (NF + NM) c2) (us ++ ts))) := hide (by
  obtain ⟨v1, w2, e1, e2, e3, e4⟩ := run_catS (VL.nil w1.heap.size w1) (Below.row B1.out HF.out) (Below.sls B1.out hsF.out) (by simp; omega) (Nat.le_refl _) 35
  have bb1 : Below w1.heap.size w1 w2 := (Below.refl _ _).grown e3 (Nat.le_refl _) (fun k hk => by simp [Value.ownBlock] at hk)
  rw [List.nil_append] at e2
  have g1 := keepF B1.out bb1
  obtain ⟨v2, w3, f1, f2, f3, f4⟩ := run_catS e2 (Below.row g1 HM.out) (Below.sls g1 hsM.out) (by omega) bb1.size 35
  have bb2 : Below w1.heap.size w1 w3 := bb1.grown f3 bb1.size (fun k hk => (World.ownsRow.lt e2 k hk).1)
  obtain ⟨a1, c1, rfl, _⟩ := e2.row
  have hrow := f2.row
  obtain ⟨a2, c2, rfl, _⟩ := f2.row
  rw [List.length_append] at hrow f1
  rw [hNF.out] at e1 f1 hrow
  rw [hNM.out] at f1 hrow
  exact ⟨a1, c1, w2, a2, c2, w3, e1, f1, bb2, hrow⟩)
 obtain ⟨a1, c1, w2, a2, c2, w3, r1, r2, B3, R3⟩ := HX.out
 clear HX
 go_upto_region 6 with (first
  | (have d1 := k1; go_at_call 12; refine (hSM.out _ B1.out).mono ?_; rintro e w5 ⟨rfl, e5⟩; rw [e5]; clear e5 w5)
  | (go_at_call 12; refine (hSF.out _ B1.out).mono ?_; rintro e w5 ⟨rfl, e5⟩; rw [e5]; have k1 := trivial; clear e5 w5)
  | (at_builtin; refine wpList_append_runS rfl (.const (.slice none 0 0)) (.tmp 56) rfl rfl rfl r1.out ?_)
  | (at_builtin; refine wpList_append_runS rfl (.tmp 57) (.tmp 58) rfl rfl rfl r2.out ?_)
  | fail)
 clear r1 r2 hSF hSM
 have F3 := hide (keepF B1.out B3.out)
 have S3 := hide (Below.sls F3.out (Sls.cat hsF.out hsM.out))
 clear B3 B1
 obtain ⟨N, hN⟩ : ∃ n, Hid (NF + NM = n) := ⟨_, rfl⟩
 rw [hN.out] at R3 ⊢
 have hN9 : N ≤ 8000 := by have := hN.out; omega
 have hlen : Hid ((us ++ ts).length = N ∧ (fs ++ ms).length = N) := hide (by
  have q1 := hN.out
  have q2 := hNF.out
  have q3 := hNM.out
  have q4 := ef.out
  have q5 := em.out
  rw [List.length_append, List.length_append]
  omega)
 have hne : Hid (fs ≠ [] ∧ ms ≠ []) := hide (by
  have q4 := ef.out
  have q5 := em.out
  refine ⟨fun c => ?_, fun c => ?_⟩
  ·have : us.length = 0 := by rw [q4, c]; rfl
   omega
  ·have : ts.length = 0 := by rw [q5, c]; rfl
   omega)
 have hfl : Hid (fs.length = NF) := hide (by have q4 := ef.out; omega)
 have h1 : 1 ≤ bs := by omega
 have h2 : bs ≤ 1152921504606846976 := by omega
 have hJ5 : NJ ≤ 512 := by omega
 have HF3 := hide (Below.row F3.out HF.out)
 have HM3 := hide (Below.row F3.out HM.out)
 have HFs := hide (Below.sls F3.out hsF.out)
 have HMs := hide (Below.sls F3.out hsM.out)
 have HJ3 := hide (Below.sl F3.out HJ.out)
 replace R3 := hide R3.out
 clear q2 q3 hb hb2 hj0 hf0 hm0 zf zm HF HM HJ hsF hsM hNF hNM ef em
 go_wp2_with fail
 go_loopg [12] N (fun kx v12 wr => ∃ i : Nat, i ≤ N ∧ N - i ≤ kx ∧ v12 = .int .i64 (i : Int) ∧ wr = w3 ∧ Hid (∀ k, k < i → ((fs ++ ms).getD k []).length ≤ 4096))
 case atStart => exact ⟨0, Nat.zero_le _, Nat.le_refl _, rfl, rfl, hide fun k hk => by omega⟩
 case round =>
  obtain ⟨i, hi, hkx, rfl, hwr, hD4⟩ := hrel
  rw [hwr]
  clear hwr wr
  have i0 : (0 : Int) ≤ (i : Int) := by omega
  by_cases hlt : i < N
  ·have hlt' : (i : Int) < (N : Int) := by omega
   obtain ⟨ea, ec, hev, _⟩ := sls_at S3.out (i := i) (by rw [hlen.out.2]; omega)
   obtain ⟨M, hM⟩ : ∃ M, Hid (((fs ++ ms).getD i []).length = M) := ⟨_, rfl⟩
   rw [hM.out] at hev
   obtain ⟨rb, off, rfl, d0⟩ := row_at R3.out hev
   by_cases h4 : (4096 : Int) < (M : Int)
   ·go_wp2_with fail
    go_ret
    exact ⟨rfl, F3.out⟩
   ·go_wp2_with fail
    go_roundg (N - (i + 1))
    case measure => omega
    case rel => exact ⟨i + 1, by omega, Nat.le_refl _, by go_num, rfl, hide fun k hk => by
     by_cases e : k = i
     ·subst e; rw [hM.out]; omega
     ·exact hD4.out k (by omega)⟩
  have hlt' : ¬ (i : Int) < (N : Int) := by omega
  have hA : Hid ((∀ d ∈ fs, d.length ≤ 4096) ∧ ∀ d ∈ ms, d.length ≤ 4096) := hide (by
   have key : ∀ d ∈ fs ++ ms, d.length ≤ 4096 := fun d hd => by
    obtain ⟨k, hk, rfl⟩ := List.getElem_of_mem hd
    have := hD4.out k (by have := hlen.out.2; omega)
    have e : (fs ++ ms).getD k [] = (fs ++ ms)[k] := by unfold List.getD; rw [List.getElem?_eq_getElem hk]; rfl
    rw [e] at this
    exact this
   exact ⟨fun d hd => key d (List.mem_append_left _ hd), fun d hd => key d (List.mem_append_right _ hd)⟩)
  clear hD4 hkx
  go_upto_region 12 with (first
   | (go_at_call 7; refine (hD.out _).mono ?_; rintro e w4 ⟨b, O2, rfl, D2, B2, L2⟩; replace D2 := hide D2; replace B2 := hide B2; replace L2 := hide L2)
   | fail)
  have hC := hide (kj_new D2.out B2.out L2.out bs h1 h2)
  clear hD D2 B2 L2
  go_upto_region 13 with (first
   | (go_at_call 13; refine hC.out.mono ?_; rintro e w5 ⟨sb, s5, S5, rfl, C5, K5⟩)
   | fail)
  have hSd := hide (kj_syncDir C5 K5 (by decide))
  clear hC
  go_upto_region 15 with (first
   | (go_at_call 14; refine hSd.out.mono ?_; rintro e w6 ⟨rfl, s6, S6, C6, K6⟩)
   | fail)
  clear hSd C5 K5 S5 s5
  have hP : Hid (Calls Tryz.prog 15 #[.pointer (some ⟨sb, 0, none⟩), .slice fa NF fc] w6 fun e w' => e = .returned (.tuple #[.int .i64 bs, .int .i64 0]) ∧ ∃ s' S', CS w3 w' sb s' S' ∧ KJ s' S' b bs fs (hd3 bs) true (3 + 1 + 1)) := hide (by
   have := kj_put C6 K6 (by decide) h1 h2 fs hne.out.1 hA.out.1 (by simp [smS]) hcF'.out _ us (Below.row C6.bel HF3.out) (Below.sls C6.bel HFs.out)
   rw [List.nil_append, show bs + (([] : List (List UInt8)).length : Int) = bs by simp] at this
   exact this)
  clear K6 C6
  go_upto_region 16 with (first
   | (go_at_call 15; refine hP.out.mono ?_; rintro e w7 ⟨rfl, s7, S7, C7, K7⟩)
   | fail)
  clear hP S6 s6
  have hSy := hide (kj_sync C7 K7 (by decide) ⟨_, rfl⟩)
  go_upto_region 18 with (first
   | (go_at_call 16; refine hSy.out.mono ?_; rintro e w8 ⟨rfl, s8, S8, C8, K8⟩)
   | fail)
  clear hSy C7 K7 S7 s7
  have hP : Hid (Calls Tryz.prog 15 #[.pointer (some ⟨sb, 0, none⟩), .slice ma NM mc] w8 fun e w' => e = .returned (.tuple #[.int .i64 (bs + (NF : Int)), .int .i64 0]) ∧ ∃ s' S', CS w3 w' sb s' S' ∧ KJ s' S' b bs (fs ++ ms) (hd3 bs ++ (wk (sd3 bs) bs fs fs.length).1) true (3 + 1 + 1 + 1 + 1)) := hide (by
   have := kj_put C8 K8 (by decide) h1 h2 ms hne.out.2 hA.out.2 hcF'.out hcM'.out _ ts (Below.row C8.bel HM3.out) (Below.sls C8.bel HMs.out)
   rw [hfl.out] at this
   rw [hfl.out]
   exact this)
  clear K8 C8
  have vN : IntKind.i64.wrap (bs + (NF : Int)) = bs + (NF : Int) := by rw [IntKind.wrap_i64]; omega
  go_upto_region 19 with (first
   | (go_at_call 15; refine hP.out.mono ?_; rintro e w9 ⟨rfl, s9, S9, C9, K9⟩)
   | fail)
  clear hP S8 s8
  have hCr : Hid (Calls Tryz.prog 17 #[.pointer (some ⟨b, 0, none⟩), .agg #[.int .i64 0, .slice (some ⟨w9.heap.size, 0, none⟩) 1 1]] (w9.alloc (.cells #[.int .i64 n, .slice ja NJ jc] 60)) fun e w' => e = .returned (.tuple #[]) ∧ ∃ S' m j, DI w3 w' b S' ∧ Has S' fileB (hd3 bs ++ ((wk (sd3 bs) bs fs fs.length).1 ++ ((rst bs fs ms).take m ++ J.take j)))) := hide (by
   have hx := box_below w9 (.cells #[.int .i64 n, .slice ja NJ jc] 60)
   exact kj_crash C9 hx K9 (by decide) n J _ (kp_one (heap_alloc_new w9 _) (Or.inr ⟨Nat.le_refl _, by simp⟩) (Below.sl (keepF C9.bel hx) HJ3.out) (sin_of HJ3.out fun k hk => Or.inl hk) n0 n1))
  clear K9
  go_upto_region 22 with (first
   | (go_at_call 17; refine hCr.out.mono ?_; rintro e w11 ⟨rfl, S11, m, j, D11, H11⟩)
   | fail)
  clear hCr vN C9 S9 s9
  have hO := hide (kj_open D11 H11 h1 h2 hA.out.1 hA.out.2 hcF'.out hcM'.out (by rw [hNJ.out]; exact hJ5))
  clear H11
  go_upto_region 23 with (first
   | (go_at_call 18; refine hO.out.mono ?_; rintro e w12 ⟨tb, z1, z2, z3, z4, t, K, D, rfl, C12, b12, okt, tbs, tfl, kf, kl, kj, hrd, hDD⟩)
   | fail)
  clear hO
  have X13 := box_below w12 (.cells #[.int .i64 (K : Int), .int .i64 z1, .int .i64 z2, .int .u32 z3, .int .i64 z4] 62)
  have N13 := heap_alloc_new w12 (.cells #[.int .i64 (K : Int), .int .i64 z1, .int .i64 z2, .int .u32 z3, .int .i64 z4] 62)
  replace C12 := hide (C12.below X13)
  obtain ⟨w13, hw13⟩ : ∃ w13, Hid (w12.alloc (.cells #[.int .i64 (K : Int), .int .i64 z1, .int .i64 z2, .int .u32 z3, .int .i64 z4] 62) = w13) := ⟨_, rfl⟩
  obtain ⟨g13, hg13⟩ : ∃ g13, Hid (w12.heap.size = g13) := ⟨_, rfl⟩
  rw [hw13.out] at N13 C12
  rw [hg13.out] at N13
  rw [hw13.out, hg13.out]
  have s0 : w13.cell? ⟨g13, 0, none⟩ = some (.int .i64 (K : Int)) := by rw [cell_of N13]; rfl
  have ok : Hid (SOk t ∧ 1 ≤ t.base ∧ t.file.size ≤ maxLen) := hide ⟨okt, by rw [tbs]; omega, by rw [tfl]; exact fileB_len.1⟩
  have kF : ¬ (K : Int) < (NF : Int) := by have := hfl.out; omega
  have F13 := hide (keepF F3.out C12.out.bel)
  replace hrd := hide hrd
  replace hDD := hide hDD
  replace kj := hide kj
  have jn : Hid (J = [] ↔ NJ = 0) := hide (by
   rw [← hNJ.out]
   exact List.length_eq_zero_iff.symm)
  clear X13 hw13 hg13 N13 okt tbs tfl kf b12 D11 HF3 HM3 HFs HMs HJ3 hcF' hcM' hA hne
  go_upto_region 25 with fail
  go_wp2_with fail
  go_loopg [20] K (fun kx v20 wq => ∃ i : Nat, i ≤ K ∧ K - i ≤ kx ∧ v20 = .int .i64 (i : Int) ∧ Hid (Below w13.heap.size w13 wq))
  case atStart => exact ⟨0, Nat.zero_le _, Nat.le_refl _, rfl, hide (Below.refl _ _)⟩
  case round =>
   obtain ⟨i, hi, hkx, rfl, hB⟩ := hrel
   have hFq : Hid (Below w.heap.size w wr) := hide (keepF F13.out hB.out)
   have i0 : (0 : Int) ≤ (i : Int) := by omega
   have sq := (hB.out.cell (lt_of_cell s0)).trans s0
   by_cases hin : ¬ (i < K ∧ i < N)
   ·have hout : ¬ (i : Int) < (K : Int) ∨ ((i : Int) < (K : Int) ∧ ¬ (i : Int) < (N : Int)) := by omega
    rcases hout with hx | ⟨hx, hy⟩
    ·by_cases hjz : (0 : Int) < (NJ : Int)
     ·go_wp2_with fail
      go_ret
      exact ⟨rfl, hFq.out⟩
     ·have hle : (K : Int) ≤ (N : Int) := by
        have := kj.out (jn.out.2 (by omega))
        have := hlen.out.2
        omega
      go_wp2_with fail
      go_ret
      exact ⟨rfl, hFq.out⟩
    ·by_cases hjz : (0 : Int) < (NJ : Int)
     ·go_wp2_with fail
      go_ret
      exact ⟨rfl, hFq.out⟩
     ·exfalso
      have := kj.out (jn.out.2 (by omega))
      have := hlen.out.2
      omega
   have hiK : (i : Int) < (K : Int) := by omega
   have hiN : (i : Int) < (N : Int) := by omega
   have vi : IntKind.i64.wrap (bs + (i : Int)) = bs + (i : Int) := by rw [IntKind.wrap_i64]; omega
   obtain ⟨ea, ec, hev, esl⟩ := sls_at S3.out (i := i) (by rw [hlen.out.2]; omega)
   obtain ⟨rb, off, rfl, d3⟩ := row_at R3.out hev
   have hr := hrd.out i (by omega)
   have hDi := hDD.out i (by omega)
   generalize D i = Di at hr hDi
   generalize (fs ++ ms).getD i [] = Ei at hev esl d3 hDi
   obtain ⟨M, hM⟩ : ∃ M, Hid (Di.length = M) := ⟨_, rfl⟩
   obtain ⟨Me, hMe⟩ : ∃ M, Hid (Ei.length = M) := ⟨_, rfl⟩
   rw [hMe.out] at d3 esl
   replace d3 := hide d3
   replace esl := hide esl
   have hR : Hid (∀ q, Below w13.heap.size w13 q → Calls Tryz.prog 19 #[.pointer (some ⟨tb, 0, none⟩), .int .i64 (bs + (i : Int))] q fun e w' => ∃ va vc, e = .returned (.tuple #[.agg #[.int .i64 (bs + (i : Int)), .slice va M vc], .int .i64 0]) ∧ Sl w' (.slice va M vc) Di ∧ Below q.heap.size q w') := hide fun q hq => by
    have := cs_read (C12.out.below hq) ok.out.1 (bs + (i : Int)) (by omega) (by omega) ok.out.2.1 ok.out.2.2
    rw [hr] at this
    refine this.mono ?_
    rintro e w' ⟨vd, he, ho, hb⟩
    obtain ⟨va, vc, hv⟩ := Sl.form ho.sl rfl
    rw [hM.out] at hv
    subst hv
    exact ⟨va, vc, he, ho.sl, hb⟩
   clear hr hev
   go_upto_region 29 with (first
    | (go_at_call 19; refine (hR.out _ hB.out).mono ?_; rintro e w14 ⟨va, vc, rfl, o14, b14⟩; replace o14 := hide o14; replace b14 := hide b14)
    | fail)
   have X15 := box_below w14 (.cells #[.int .i64 (bs + (i : Int)), .slice va M vc] 66)
   have N15 := heap_alloc_new w14 (.cells #[.int .i64 (bs + (i : Int)), .slice va M vc] 66)
   have K15 := hide (keepF hB.out (keepF b14.out X15))
   have L15 := hide (Below.sl X15 o14.out)
   obtain ⟨w15, hw15⟩ : ∃ w15, Hid (w14.alloc (.cells #[.int .i64 (bs + (i : Int)), .slice va M vc] 66) = w15) := ⟨_, rfl⟩
   obtain ⟨g15, hg15⟩ : ∃ g15, Hid (w14.heap.size = g15) := ⟨_, rfl⟩
   rw [hw15.out] at N15 K15 L15
   rw [hg15.out] at N15
   rw [hw15.out, hg15.out]
   clear X15 hw15 hg15 o14 b14 hR sq
   have KS : Hid (∀ q : World, Below w15.heap.size w15 q → Below w15.heap.size w15 q ∧ q.cell? ⟨g15, 0, none⟩ = some (.int .i64 (bs + (i : Int))) ∧ q.cell? ⟨g15, 1, none⟩ = some (.slice va M vc) ∧ q.cell? ⟨rb, off + i, none⟩ = some (.slice ea Me ec)) := hide fun q hq => by
    have e15 := (hq.block _ (heap_lt N15)).trans N15
    have hq3 := keepF C12.out.bel (keepF K15.out hq)
    exact ⟨hq, by rw [cell_of e15]; rfl, by rw [cell_of e15]; rfl, (hq3.cell (lt_of_cell d3.out)).trans d3.out⟩
   have U15 := hide (Below.sl (keepF C12.out.bel K15.out) esl.out)
   have KQ : Hid (Di = Ei → ∀ (q : World), Below w15.heap.size w15 q → Calls Tryz.prog 20 #[.agg #[.int .i64 (bs + (i : Int)), .slice va M vc], .agg #[.int .i64 (bs + (i : Int)), .slice ea Me ec]] q fun e w' => e = .returned (.bool true) ∧ Below q.heap.size q w') := hide fun hde q hq => by
    have := eq6_any q (bs + (i : Int)) (bs + (i : Int)) _ _ Di Ei (Below.sl hq L15.out) (Below.sl hq U15.out)
    simpa [hde] using this
   clear N15 L15 U15 d3 esl
   go_upto_region 31 with fail
   by_cases hg : (i : Int) < (NF : Int)
   ·have hde : Hid (Di = Ei) := hide (hDi (Or.inl (by have := hfl.out; omega)))
    have kg : decide ((i : Int) < (NF : Int)) = true := by simpa using hg
    have hgn : i < NF := by omega
    have kgn : decide (i < NF) = true := by simpa using hgn
    clear hDi
    go_cut [194] from 173 to 193 (fun y wx => y = .bool false ∧ Hid (Below w15.heap.size w15 wx))
    case first =>
     have DB : Hid (Below w15.heap.size w15 w15.drew) := hide (Below.refl _ _).drew
     have KP := hide (KS.out _ DB.out)
     refine wp_region_T (fun q => Below w15.heap.size w15 q ∧ q.cell? ⟨g15, 0, none⟩ = some (.int .i64 (bs + (i : Int))) ∧ q.cell? ⟨g15, 1, none⟩ = some (.slice va M vc) ∧ q.cell? ⟨rb, off + i, none⟩ = some (.slice ea Me ec)) 19 (by kernel_rfl) ?_
     generalize w15.drew = qq at *
     refine Ix.tk 0 ⟨some 173, .move (.tmp 20), _, _, _, _⟩ (.int .i64 (i : Int)) [3,4,8,9,10,19] ?_ KP.out ?_
     ·intro wq hSw; go_simp
     (try simp only [zzp, zzb, zzc])
     refine Ix.tk 1 ⟨some 174, .move (.tmp 1), _, _, _, _⟩ (.slice fa NF fc) [2,3,4,8,9,10,19] ?_ KP.out ?_
     ·intro wq hSw; go_simp
     (try simp only [zzp, zzb, zzc])
     refine Ix.tk 2 ⟨some 175, .call { callee := .builtin .len, args := #[.tmp 174], argTypes := #[35] }, _, _, _, _⟩ (.int .i64 (NF : Int)) [3,4,8,9,10,19] ?_ KP.out ?_
     ·intro wq hSw
      obtain ⟨x9, x0, x1, x2⟩ := hSw
      go_simp
     (try simp only [zzp, zzb, zzc])
     refine Ix.tk 3 ⟨some 176, .binOp .lss 3 (.tmp 173) (.tmp 175) 3, _, _, _, _⟩ (.bool true) [4,8,9,10,19] ?_ KP.out ?_
     ·intro wq hSw
      obtain ⟨x9, x0, x1, x2⟩ := hSw
      go_simp
     (try simp only [zzp, zzb, zzc])
     refine Ix.tk 4 ⟨some 177, .move (.tmp 176), _, _, _, _⟩ (.bool true) [8,9,10,19] ?_ KP.out ?_
     ·intro wq hSw; go_simp
     (try simp only [zzp, zzb, zzc])
     refine wpAnyT_take (i := 5) (oi := ⟨some 178, .move (.tmp 4), _, _, _, _⟩) (v := undef) [6, 7, 8, 9, 10, 19] rfl (by kernel_rfl) (by kernel_rfl) (by kernel_rfl) (by kernel_rfl) (fun _ _ _ h => h) (Or.inr ⟨by rfl, rfl⟩) KP.out ?_
     (try simp only [zzp, zzb, zzc])
     refine wpAnyT_take (i := 6) (oi := ⟨some 179, .call { callee := .builtin .len, args := #[.tmp 178], argTypes := #[39] }, _, _, _, _⟩) (v := undef) [7, 8, 9, 10, 19] rfl (by kernel_rfl) (by kernel_rfl) (by kernel_rfl) (by kernel_rfl) (fun _ _ _ h => h) (Or.inr ⟨by rfl, rfl⟩) KP.out ?_
     (try simp only [zzp, zzb, zzc])
     refine wpAnyT_take (i := 7) (oi := ⟨some 180, .binOp .eql 3 (.tmp 179) (.const (Value.int IntKind.i64 0)) 3, _, _, _, _⟩) (v := undef) [8, 9, 10, 19] rfl (by kernel_rfl) (by kernel_rfl) (by kernel_rfl) (by kernel_rfl) (fun _ _ _ h => h) (Or.inr ⟨by rfl, rfl⟩) KP.out ?_
     (try simp only [zzp, zzb, zzc])
     refine Ix.tk 8 ⟨some 181, .pick (.tmp 177) (.const (Value.bool true)) (.tmp 180), _, _, _, _⟩ (.bool true) [9,10,19] ?_ KP.out ?_
     ·intro wq hSw
      obtain ⟨x9, x0, x1, x2⟩ := hSw
      go_simp
     (try simp only [zzp, zzb, zzc])
     refine Ix.tk 9 ⟨some 182, .move (.tmp 181), _, _, _, _⟩ (.bool true) [10,19] ?_ KP.out ?_
     ·intro wq hSw; go_simp
     (try simp only [zzp, zzb, zzc])
     refine Ix.tk 10 ⟨some 183, .load 66 (.tmp 21), _, _, _, _⟩ (.agg #[.int .i64 (bs + (i : Int)), .slice va M vc]) [19] ?_ KP.out ?_
     ·intro wq hSw
      obtain ⟨x9, x0, x1, x2⟩ := hSw
      go_simp
     (try simp only [zzp, zzb, zzc])
     refine Ix.tk 11 ⟨some 184, .move (.tmp 0), _, _, _, _⟩ (.int .i64 bs) [13,18,19] ?_ KP.out ?_
     ·intro wq hSw; go_simp
     (try simp only [zzp, zzb, zzc])
     refine Ix.tk 12 ⟨some 185, .move (.tmp 20), _, _, _, _⟩ (.int .i64 (i : Int)) [13,18,19] ?_ KP.out ?_
     ·intro wq hSw; go_simp
     (try simp only [zzp, zzb, zzc])
     refine Ix.tk 13 ⟨some 186, .binOp .add 2 (.tmp 184) (.tmp 185) 2, _, _, _, _⟩ (.int .i64 (bs + (i : Int))) [18,19] ?_ KP.out ?_
     ·intro wq hSw
      obtain ⟨x9, x0, x1, x2⟩ := hSw
      go_simp
     (try simp only [zzp, zzb, zzc])
     refine Ix.tk 14 ⟨some 187, .move (.tmp 11), _, _, _, _⟩ (.slice (some ⟨rb, off, none⟩) N c2) [16,17,18,19] ?_ KP.out ?_
     ·intro wq hSw; go_simp
     (try simp only [zzp, zzb, zzc])
     refine Ix.tk 15 ⟨some 188, .move (.tmp 20), _, _, _, _⟩ (.int .i64 (i : Int)) [16,17,18,19] ?_ KP.out ?_
     ·intro wq hSw; go_simp
     (try simp only [zzp, zzb, zzc])
     refine Ix.tk 16 ⟨some 189, .indexAddr 35 (.tmp 187) (.tmp 188), _, _, _, _⟩ (.pointer (some ⟨rb, off + i, none⟩)) [17,18,19] ?_ KP.out ?_
     ·intro wq hSw
      obtain ⟨x9, x0, x1, x2⟩ := hSw
      go_simp
     (try simp only [zzp, zzb, zzc])
     refine Ix.tk 17 ⟨some 190, .load 39 (.tmp 189), _, _, _, _⟩ (.slice ea Me ec) [18,19] ?_ KP.out ?_
     ·intro wq hSw
      obtain ⟨x9, x0, x1, x2⟩ := hSw
      go_simp
     (try simp only [zzp, zzb, zzc])
     refine Ix.tk 18 ⟨some 191, .build 66 #[(0, .tmp 186), (1, .tmp 190)], _, _, _, _⟩ (.agg #[.int .i64 (bs + (i : Int)), .slice ea Me ec]) [19] ?_ KP.out ?_
     ·intro wq hSw
      obtain ⟨x9, x0, x1, x2⟩ := hSw
      go_simp
     (try simp only [zzp, zzb, zzc])
     refine wpAnyT_one (i := 19) (o := ⟨some 192, .call { callee := .value (.func 20), args := #[.tmp 183, .tmp 191], argTypes := #[66, 66] }, _, _, _, _⟩) (by kernel_rfl) rfl (fun K hK => ?_)
     go_simp
     go_at_call 20
     refine (KQ.out hde.out _ DB.out).mono ?_
     rintro ee u1 ⟨rfl, B9⟩
     replace B9 := hide B9
     (try go_simp)
     refine hK.out _ _ (vac (by kernel_rfl)) ?_
     clear hK K
     (try simp only [zzp, zzb, zzc])
     refine wpAnyT_one (i := 20) (o := ⟨some 193, .unOp .not 4 (.tmp 192), _, _, _, _⟩) (by kernel_rfl) rfl (fun K hK => ?_)
     go_simp
     refine hK.out _ _ (vac (by kernel_rfl)) ?_
     clear hK K
     (try simp only [zzp, zzb, zzc])
     refine wpAnyT_one (i := 21) (o := ⟨some 194, .pick (.tmp 182) (.tmp 193) (.const (Value.bool false)), _, _, _, _⟩) (by kernel_rfl) rfl (fun K hK => ?_)
     go_simp
     refine hK.out _ _ (vac (by kernel_rfl)) ?_
     clear hK K
     (try simp only [zzp, zzb, zzc])
     refine wpAnyT_done (by kernel_rfl) ?_ _
     go_wp2_with fail
     go_meet
     case rel => exact ⟨rfl, hide (keepF DB.out B9.out)⟩
    case rest =>
     obtain ⟨rfl, b16⟩ := hcut
     go_wp2_with fail
     go_roundg (K - (i + 1))
     case measure => omega
     case rel => exact ⟨i + 1, by omega, Nat.le_refl _, by go_num, hide (keepF K15.out b16.out)⟩
   ·by_cases hjz : NJ = 0
    ·have hde : Hid (Di = Ei) := hide (hDi (Or.inr (jn.out.2 hjz)))
     have kz : decide ((NJ : Int) = 0) = true := by simpa using hjz
     have kz2 : ((NJ : Int) == 0) = true := by simpa using hjz
     replace hjz := hide hjz
     clear hDi
     go_cut [194] from 173 to 193 (fun y wx => y = .bool false ∧ Hid (Below w15.heap.size w15 wx))
     case first =>
      have hS0 := KS.out w15.drew (Below.refl _ _).drew
      go_region_held3 (fun q => Below w15.heap.size w15 q ∧ q.cell? ⟨g15, 0, none⟩ = some (.int .i64 (bs + (i : Int))) ∧ q.cell? ⟨g15, 1, none⟩ = some (.slice va M vc) ∧ q.cell? ⟨rb, off + i, none⟩ = some (.slice ea Me ec))
       (first | exact hS0 | assumption | exact KS.out _ KP | fail)
       (first
        | (go_at_call 20; refine (KQ.out hde.out _ (And.left (by assumption))).mono ?_; rintro ee u1 ⟨rfl, B9⟩
           have KP : Below w15.heap.size w15 u1 := keepF (Below.refl _ _).drew B9)
        | fail)
      all_goals
       go_wp2_with fail
       go_meet
       case rel => exact ⟨rfl, KP⟩
     case rest =>
      obtain ⟨rfl, b16⟩ := hcut
      go_wp2_with fail
      go_roundg (K - (i + 1))
      case measure => omega
      case rel => exact ⟨i + 1, by omega, Nat.le_refl _, by go_num, hide (keepF K15.out b16.out)⟩
    ·have kg : decide ((i : Int) < (NF : Int)) = false := by simpa using hg
     have kz : decide ((NJ : Int) = 0) = false := by simpa using hjz
     have hjz2 : ¬ (NJ : Int) = 0 := by omega
     replace hjz := hide hjz
     clear hDi
     go_cut [194] from 173 to 193 (fun y wx => y = .bool false ∧ Hid (Below w15.heap.size w15 wx))
     case first =>
      have DB : Hid (Below w15.heap.size w15 w15.drew) := hide (Below.refl _ _).drew
      have KP := hide (KS.out _ DB.out)
      refine wp_region_T (fun q => Below w15.heap.size w15 q ∧ q.cell? ⟨g15, 0, none⟩ = some (.int .i64 (bs + (i : Int))) ∧ q.cell? ⟨g15, 1, none⟩ = some (.slice va M vc) ∧ q.cell? ⟨rb, off + i, none⟩ = some (.slice ea Me ec)) 21 (by kernel_rfl) ?_
      generalize w15.drew = qq at *
      refine Ix.tk 0 ⟨some 173, .move (.tmp 20), _, _, _, _⟩ (.int .i64 (i : Int)) [3,4,8,9,21] ?_ KP.out ?_
      ·intro wq hSw; go_simp
      (try simp only [zzp, zzb, zzc])
      refine Ix.tk 1 ⟨some 174, .move (.tmp 1), _, _, _, _⟩ (.slice fa NF fc) [2,3,4,8,9,21] ?_ KP.out ?_
      ·intro wq hSw; go_simp
      (try simp only [zzp, zzb, zzc])
      refine Ix.tk 2 ⟨some 175, .call { callee := .builtin .len, args := #[.tmp 174], argTypes := #[35] }, _, _, _, _⟩ (.int .i64 (NF : Int)) [3,4,8,9,21] ?_ KP.out ?_
      ·intro wq hSw
       obtain ⟨x9, x0, x1, x2⟩ := hSw
       go_simp
      (try simp only [zzp, zzb, zzc])
      refine Ix.tk 3 ⟨some 176, .binOp .lss 3 (.tmp 173) (.tmp 175) 3, _, _, _, _⟩ (.bool false) [4,8,9,21] ?_ KP.out ?_
      ·intro wq hSw
       obtain ⟨x9, x0, x1, x2⟩ := hSw
       go_simp
      (try simp only [zzp, zzb, zzc])
      refine Ix.tk 4 ⟨some 177, .move (.tmp 176), _, _, _, _⟩ (.bool false) [8,9,21] ?_ KP.out ?_
      ·intro wq hSw; go_simp
      (try simp only [zzp, zzb, zzc])
      refine Ix.tk 5 ⟨some 178, .move (.tmp 4), _, _, _, _⟩ (.slice ja NJ jc) [6,7,8,9,21] ?_ KP.out ?_
      ·intro wq hSw; go_simp
      (try simp only [zzp, zzb, zzc])
      refine Ix.tk 6 ⟨some 179, .call { callee := .builtin .len, args := #[.tmp 178], argTypes := #[39] }, _, _, _, _⟩ (.int .i64 (NJ : Int)) [7,8,9,21] ?_ KP.out ?_
      ·intro wq hSw
       obtain ⟨x9, x0, x1, x2⟩ := hSw
       go_simp
      (try simp only [zzp, zzb, zzc])
      refine Ix.tk 7 ⟨some 180, .binOp .eql 3 (.tmp 179) (.const (Value.int IntKind.i64 0)) 3, _, _, _, _⟩ (.bool false) [8,9,21] ?_ KP.out ?_
      ·intro wq hSw
       obtain ⟨x9, x0, x1, x2⟩ := hSw
       have z9 := hjz.out
       go_simp
      (try simp only [zzp, zzb, zzc])
      refine Ix.tk 8 ⟨some 181, .pick (.tmp 177) (.const (Value.bool true)) (.tmp 180), _, _, _, _⟩ (.bool false) [9,21] ?_ KP.out ?_
      ·intro wq hSw
       obtain ⟨x9, x0, x1, x2⟩ := hSw
       go_simp
      (try simp only [zzp, zzb, zzc])
      refine Ix.tk 9 ⟨some 182, .move (.tmp 181), _, _, _, _⟩ (.bool false) [21] ?_ KP.out ?_
      ·intro wq hSw; go_simp
      (try simp only [zzp, zzb, zzc])
      refine wpAnyT_take (i := 10) (oi := ⟨some 183, .load 66 (.tmp 21), _, _, _, _⟩) (v := undef) [19, 20, 21] rfl (by kernel_rfl) (by kernel_rfl) (by kernel_rfl) (by kernel_rfl) (fun _ _ _ h => h) (Or.inr ⟨by rfl, rfl⟩) KP.out ?_
      (try simp only [zzp, zzb, zzc])
      refine wpAnyT_take (i := 11) (oi := ⟨some 184, .move (.tmp 0), _, _, _, _⟩) (v := undef) [13, 18, 19, 20, 21] rfl (by kernel_rfl) (by kernel_rfl) (by kernel_rfl) (by kernel_rfl) (fun _ _ _ h => h) (Or.inr ⟨by rfl, rfl⟩) KP.out ?_
      (try simp only [zzp, zzb, zzc])
      refine wpAnyT_take (i := 12) (oi := ⟨some 185, .move (.tmp 20), _, _, _, _⟩) (v := undef) [13, 18, 19, 20, 21] rfl (by kernel_rfl) (by kernel_rfl) (by kernel_rfl) (by kernel_rfl) (fun _ _ _ h => h) (Or.inr ⟨by rfl, rfl⟩) KP.out ?_
      (try simp only [zzp, zzb, zzc])
      refine wpAnyT_take (i := 13) (oi := ⟨some 186, .binOp .add 2 (.tmp 184) (.tmp 185) 2, _, _, _, _⟩) (v := undef) [18, 19, 20, 21] rfl (by kernel_rfl) (by kernel_rfl) (by kernel_rfl) (by kernel_rfl) (fun _ _ _ h => h) (Or.inr ⟨by rfl, rfl⟩) KP.out ?_
      (try simp only [zzp, zzb, zzc])
      refine wpAnyT_take (i := 14) (oi := ⟨some 187, .move (.tmp 11), _, _, _, _⟩) (v := undef) [16, 17, 18, 19, 20, 21] rfl (by kernel_rfl) (by kernel_rfl) (by kernel_rfl) (by kernel_rfl) (fun _ _ _ h => h) (Or.inr ⟨by rfl, rfl⟩) KP.out ?_
      (try simp only [zzp, zzb, zzc])
      refine wpAnyT_take (i := 15) (oi := ⟨some 188, .move (.tmp 20), _, _, _, _⟩) (v := undef) [16, 17, 18, 19, 20, 21] rfl (by kernel_rfl) (by kernel_rfl) (by kernel_rfl) (by kernel_rfl) (fun _ _ _ h => h) (Or.inr ⟨by rfl, rfl⟩) KP.out ?_
      (try simp only [zzp, zzb, zzc])
      refine wpAnyT_take (i := 16) (oi := ⟨some 189, .indexAddr 35 (.tmp 187) (.tmp 188), _, _, _, _⟩) (v := undef) [17, 18, 19, 20, 21] rfl (by kernel_rfl) (by kernel_rfl) (by kernel_rfl) (by kernel_rfl) (fun _ _ _ h => h) (Or.inr ⟨by rfl, rfl⟩) KP.out ?_
      (try simp only [zzp, zzb, zzc])
      refine wpAnyT_take (i := 17) (oi := ⟨some 190, .load 39 (.tmp 189), _, _, _, _⟩) (v := undef) [18, 19, 20, 21] rfl (by kernel_rfl) (by kernel_rfl) (by kernel_rfl) (by kernel_rfl) (fun _ _ _ h => h) (Or.inr ⟨by rfl, rfl⟩) KP.out ?_
      (try simp only [zzp, zzb, zzc])
      refine wpAnyT_take (i := 18) (oi := ⟨some 191, .build 66 #[(0, .tmp 186), (1, .tmp 190)], _, _, _, _⟩) (v := undef) [19, 20, 21] rfl (by kernel_rfl) (by kernel_rfl) (by kernel_rfl) (by kernel_rfl) (fun _ _ _ h => h) (Or.inr ⟨by rfl, rfl⟩) KP.out ?_
      (try simp only [zzp, zzb, zzc])
      refine wpAnyT_take (i := 19) (oi := ⟨some 192, .call { callee := .value (.func 20), args := #[.tmp 183, .tmp 191], argTypes := #[66, 66] }, _, _, _, _⟩) (v := undef) [20, 21] rfl (by kernel_rfl) (by kernel_rfl) (by kernel_rfl) (by kernel_rfl) (fun _ _ _ h => h) (Or.inr ⟨by rfl, rfl⟩) KP.out ?_
      (try simp only [zzp, zzb, zzc])
      refine wpAnyT_take (i := 20) (oi := ⟨some 193, .unOp .not 4 (.tmp 192), _, _, _, _⟩) (v := undef) [21] rfl (by kernel_rfl) (by kernel_rfl) (by kernel_rfl) (by kernel_rfl) (fun _ _ _ h => h) (Or.inr ⟨by rfl, rfl⟩) KP.out ?_
      (try simp only [zzp, zzb, zzc])
      refine wpAnyT_one (i := 21) (o := ⟨some 194, .pick (.tmp 182) (.tmp 193) (.const (Value.bool false)), _, _, _, _⟩) (by kernel_rfl) rfl (fun K hK => ?_)
      go_simp
      refine hK.out _ _ (vac (by kernel_rfl)) ?_
      clear hK K
      (try simp only [zzp, zzb, zzc])
      refine wpAnyT_done (by kernel_rfl) ?_ _
      go_wp2_with fail
      go_meet
      case rel => exact ⟨rfl, DB⟩
     case rest =>
      obtain ⟨rfl, b16⟩ := hcut
      go_wp2_with fail
      go_roundg (K - (i + 1))
      case measure => omega
      case rel => exact ⟨i + 1, by omega, Nat.le_refl _, by go_num, hide (keepF K15.out b16.out)⟩
end Go.Proofs.YtpflaglfnkmjiaaGreat.Sg
namespace Go.Proofs.YtpflaglfnkmjiaaGreat.Sg
open Go.RowKit
theorem bulk_pos {H : Type} (d : DataW H) : 1 ≤ Rows.uptoBulk d := by
 cases d with
 | lit l => cases l <;> simp [Rows.uptoBulk]
 | nil => simp [Rows.uptoBulk]
 | ptr d => simp [Rows.uptoBulk]
 | slice a b => simp [Rows.uptoBulk]
 | agg a => simp [Rows.uptoBulk]
 | iface t d => simp [Rows.uptoBulk]
 | map e => simp [Rows.uptoBulk]
 | held h => simp [Rows.uptoBulk]
theorem bulkAll_count {H : Type} (l : List (DataW H)) : l.length ≤ Rows.uptoBulkAll l := by
 induction l with
 | nil => simp
 | cons d r ih =>
  have := bulk_pos d
  simp only [List.length_cons, Rows.uptoBulkAll]
  omega
theorem byteses_count {H : Type} {d : DataW H} {ls : List (List UInt8)} (h : (d = .nil ∧ ls = []) ∨ ∃ elems sp, d = .slice elems sp ∧ elems.length = ls.length ∧ ∀ i (h1 : i < elems.length) (h2 : i < ls.length), (elems[i] = .nil ∧ ls[i] = []) ∨ ∃ es sp', elems[i] = .slice es sp' ∧ es.length = ls[i].length) : ls.length ≤ Rows.uptoBulk d := by
 rcases h with ⟨_, rfl⟩ | ⟨elems, sp, rfl, he, _⟩
 ·simp
 ·have := bulkAll_count elems
  simp only [Rows.uptoBulk]
  omega
end Go.Proofs.YtpflaglfnkmjiaaGreat.Sg
