/-
  CrashEach: the walk.
-/
import Derived.Test.YtdelknejmapeaaaCwP
namespace Go.Proofs.Ytdelknejmapeaaa.Dk
open Go.RowKit Go.Maps Go.Sort Go.Shelf Go.Proofs.Ytdelknejmapeaaa.Nm
set_option linter.unusedVariables false

set_option maxRecDepth 100000 in
set_option maxHeartbeats 1000000 in
theorem each_short (w : World) (va vb vc : Value) (A B C : List UInt8) (ha : Sl w va A) (hb : Sl w vb B) (hc : Sl w vc C) (lA : A.length ≤ 20) (lB : B.length ≤ 20) (lC : C.length ≤ 20) :
    Calls Try.prog 4 #[va, vb, vc] w fun e w' => e = .returned (.bool true) ∧ Below w.heap.size w w' := by
  have hB := begun12_any w
  have SA := hide ha
  have SB := hide hb
  have SC := hide hc
  obtain ⟨aa, ca, rfl, z1a, a3, a4, z2a⟩ := ha
  clear z1a z2a
  obtain ⟨ab, cb, rfl, z1b, b3, b4, z2b⟩ := hb
  clear z1b z2b
  obtain ⟨ac, cc, rfl, z1c, c3, c4, z2c⟩ := hc
  clear z1c z2c
  have a4' : ca ≤ 9223372036854775807 := by unfold maxLen at a4; omega
  have b4' : cb ≤ 9223372036854775807 := by unfold maxLen at b4; omega
  have c4' : cc ≤ 9223372036854775807 := by unfold maxLen at c4; omega
  clear a4 b4 c4
  have k1 : ¬ (A.length : Int) > 20 := by omega
  have k2 : ¬ (B.length : Int) > 20 := by omega
  have k3 : ¬ (C.length : Int) > 20 := by omega
  have s1 : sA.size ≤ 140737488355328 := by decide
  have s2 : (sM 110).size ≤ 140737488355328 := by decide
  have s3 : sA.size ≤ maxLen := by decide
  have s4 : (sM 110).size ≤ maxLen := by decide
  have hN : Hid (∀ q, Below w.heap.size w q → Calls Try.prog 26 #[.int .i64 4096] q fun e w' => ∃ b, e = .returned (.pointer (some ⟨b, 0, none⟩)) ∧ CI w w' b 4096 [] [] noF 0) := fun q hq => ci_new q 4096 (by decide) hq
  have h1 : Hid (∀ q b, CI w q b 4096 [] [] noF 0 → Calls Try.prog 11 #[.pointer (some ⟨b, 0, none⟩), .string ⟨#[97]⟩] q fun e w' => e = .returned (.int .i64 0) ∧ ∃ p, CI w w' b 4096 [] [.cr sA p] noF 1) := fun q b h => by
    refine (ci_create h (by decide) sA s1 may_a rfl (by decide)).mono ?_
    rintro e w' ⟨he, p, _, hc⟩
    rw [upd_noF] at hc
    exact ⟨he, p, hc⟩
  have h2 : Hid (∀ q b p, CI w q b 4096 [] [.cr sA p] noF 1 → Calls Try.prog 16 #[.pointer (some ⟨b, 0, none⟩)] q fun e w' => e = .returned (.int .i64 0) ∧ CI w w' b 4096 [([97], p)] [] noF 2) := fun q b p h => ci_syncDir h (by decide)
  have h3 : Hid (∀ q b p, CI w q b 4096 [([97], p)] [] noF 2 → Calls Try.prog 6 #[.pointer (some ⟨b, 0, none⟩), .string ⟨#[97]⟩, .slice aa A.length ca] q fun e w' => e = .returned (.tuple #[.int .i64 (A.length : Int), .int .i64 0]) ∧ CI w w' b 4096 [([97], p)] [] (upd noF p ⟨A, [], 0⟩) 3) := fun q b p h => ci_append h (by decide) sA s3 may_a (get_one _ _) _ _ SA.out (by simp [sumL, noF, runs]; omega)
  have h4 : Hid (∀ q b p, CI w q b 4096 [([97], p)] [] (upd noF p ⟨A, [], 0⟩) 3 → Calls Try.prog 12 #[.pointer (some ⟨b, 0, none⟩), .string ⟨#[97]⟩] q fun e w' => e = .returned (.int .i64 0) ∧ CI w w' b 4096 [([97], p)] [] (upd noF p ⟨A, A, 0⟩) 4) := fun q b p h => by
    have := ci_sync h (by decide) sA s3 may_a (p := p) (get_one _ _)
    rw [upd_same, upd_updC, syF_newC] at this
    exact this
  have h5 : Hid (∀ q b p, CI w q b 4096 [([97], p)] [] (upd noF p ⟨A, A, 0⟩) 4 → Calls Try.prog 6 #[.pointer (some ⟨b, 0, none⟩), .string ⟨#[97]⟩, .slice ab B.length cb] q fun e w' => e = .returned (.tuple #[.int .i64 (B.length : Int), .int .i64 0]) ∧ CI w w' b 4096 [([97], p)] [] (upd noF p ⟨A ++ B, A, 0⟩) 5) := fun q b p h => by
    have := ci_append h (by decide) sA s3 may_a (p := p) (get_one _ _) _ _ SB.out (by simp [sumL, upd_same, runs]; omega)
    rw [upd_same, upd_updC] at this
    exact this
  have h6 : Hid (∀ q b p, CI w q b 4096 [([97], p)] [] (upd noF p ⟨A ++ B, A, 0⟩) 5 → Calls Try.prog 11 #[.pointer (some ⟨b, 0, none⟩), .string ⟨#[110]⟩] q fun e w' => e = .returned (.int .i64 0) ∧ ∃ r, p ≠ r ∧ CI w w' b 4096 [([97], p)] [.cr (sM 110) r] (upd (upd noF p ⟨A ++ B, A, 0⟩) r ⟨[], [], 0⟩) 6) := fun q b p h => by
    refine (ci_create h (by decide) (sM 110) s2 (may_m (.inr rfl)) rfl (by simp [runs])).mono ?_
    rintro e w' ⟨he, r, hr, hc⟩
    exact ⟨he, r, fun e => hr (by simp [e]), hc⟩
  have h7 : Hid (∀ q b p r, p ≠ r → CI w q b 4096 [([97], p)] [.cr (sM 110) r] (upd (upd noF p ⟨A ++ B, A, 0⟩) r ⟨[], [], 0⟩) 6 → Calls Try.prog 6 #[.pointer (some ⟨b, 0, none⟩), .string ⟨#[110]⟩, .slice ac C.length cc] q fun e w' => e = .returned (.tuple #[.int .i64 (C.length : Int), .int .i64 0]) ∧ ∃ S, EI w w' b S 110 A B C) := fun q b p r hn h => by
    refine (ci_append h (by decide) (sM 110) s4 (may_m (.inr rfl)) (get_an p r) _ _ SC.out ?_).mono ?_
    · show sumL _ [([97], p), ([110], r)] + C.length ≤ 4096
      simp [sumL, upd, hn]
      omega
    · rintro e w' ⟨he, hc⟩
      refine ⟨he, hc.each (.inr rfl) ?_ ?_ hn (by decide)⟩
      · rw [upd_ne _ _ hn, upd_ne _ _ hn, upd_same]
      · rw [upd_same, upd_same]; rfl
  obtain ⟨N, hNN⟩ : ∃ N, Hid ((B.length + 1) * (C.length + 2) = N) := ⟨_, rfl⟩
  have N1 : N ≤ 462 := by rw [← hNN.out]; exact Nat.mul_le_mul (show B.length + 1 ≤ 21 by omega) (show C.length + 2 ≤ 22 by omega)
  have e40 : (B.length + 1) * (C.length + 2) ≤ M40 := by rw [hNN.out]; unfold M40; omega
  have h8 : Hid (∀ q b S, EI w q b S 110 A B C → Calls Try.prog 27 #[.pointer (some ⟨b, 0, none⟩)] q fun e w' => e = .returned (.tuple #[.int .i64 (N : Int), .int .i64 0]) ∧ Below q.heap.size q w') := fun q b S h => by
    have := ei_ways h e40
    rw [hNN.out] at this
    exact this
  have h9 : Hid (∀ q b S, EI w q b S 110 A B C → ∀ i, i < N → Calls Try.prog 28 #[.pointer (some ⟨b, 0, none⟩), .int .i64 (i : Int)] q fun e w' => ∃ b', e = .returned (.tuple #[.pointer (some ⟨b', 0, none⟩), .int .i64 0]) ∧ EA q.heap.size w' b' A B C i ∧ Below q.heap.size q w') := fun q b S h i hi => ea_after h e40 i (by rw [hNN.out]; exact hi)
  have t1 : ((B.length : Int) + 1) * ((C.length : Int) + 2) = (N : Int) := by rw [← hNN.out]; norm_cast
  clear s1 s2 s3 s4 e40
  go_enter Try.func4, Try.ntmps4
  go_upto_region 8 with (first
    | (go_at_call 25; refine hB.mono ?_; rintro e w0 ⟨rfl, b0⟩; replace b0 := hide b0)
    | (go_at_call 26; refine (hN.out _ b0.out).mono ?_; rintro e w1 ⟨b, rfl, D1⟩; replace D1 := hide D1)
    | (go_at_call 11; refine (h1.out _ _ D1.out).mono ?_; rintro e w2 ⟨rfl, p, D2⟩; replace D2 := hide D2)
    | (go_at_call 16; refine (h2.out _ _ _ D2.out).mono ?_; rintro e w3 ⟨rfl, D3⟩; replace D3 := hide D3))
  clear hB hN h1 h2
  go_upto_region 10 with (first
    | (go_at_call 6; refine (h3.out _ _ _ D3.out).mono ?_; rintro e w4 ⟨rfl, D4⟩; replace D4 := hide D4)
    | (go_at_call 12; refine (h4.out _ _ _ D4.out).mono ?_; rintro e w5 ⟨rfl, D5⟩; replace D5 := hide D5))
  clear h3 h4
  go_upto_region 12 with (first
    | (go_at_call 6; refine (h5.out _ _ _ D5.out).mono ?_; rintro e w6 ⟨rfl, D6⟩; replace D6 := hide D6)
    | (go_at_call 11; refine (h6.out _ _ _ D6.out).mono ?_; rintro e w7 ⟨rfl, r, hn, D7⟩; replace D7 := hide D7; replace hn := hide hn))
  clear h5 h6
  go_upto_region 14 with (first
    | (go_at_call 6; refine (h7.out _ _ _ _ hn.out D7.out).mono ?_; rintro e w8 ⟨rfl, S, D8⟩; replace D8 := hide D8)
    | (go_at_call 27; refine (h8.out _ _ _ D8.out).mono ?_; rintro e w9 ⟨rfl, b9⟩; have D9 := hide (D8.out.below b9); clear b9))
  clear h7 h8 D1 D2 D3 D4 D5 D6 D7 D8
  go_upto_region 16 with fail
  have BW := hide D9.out.bel
  obtain ⟨v10, w10, r10, Q10, G10, _⟩ := run_app (Ob.nil w9.heap.size w9) (Below.sl BW.out SA.out) (by simp; omega) (Nat.le_refl _) 22
  have X10 : Below w9.heap.size w9 w10 := (Below.refl _ _).grown G10 (Nat.le_refl _) (fun k hk => by simp [Value.ownBlock] at hk)
  rw [List.nil_append] at Q10
  obtain ⟨v11, w11, r11, Q11, G11, _⟩ := run_app Q10 (Below.sl (BW.out.trans (X10.mono BW.out.size)) SB.out) (by omega) X10.size 22
  have X11 : Below w9.heap.size w9 w11 := X10.grown G11 X10.size (fun k hk => (Q10.lt k hk).1)
  replace Q11 := hide Q11
  have D11 := hide (D9.out.below X11)
  replace X11 := hide X11
  clear Q10 G10 G11 X10
  go_upto_region 17 with (first
    | (at_builtin; refine Lib.wpList_append_run _ rfl (.const (.slice none 0 0)) (.tmp 76) 22 22 rfl _ _ rfl rfl _ _ r10 ?_)
    | (at_builtin; refine Lib.wpList_append_run _ rfl (.tmp 77) (.tmp 78) 22 22 rfl _ _ rfl rfl _ _ r11 ?_))
  clear r10 r11 D9
  obtain ⟨al, cl, ev, hl1, hl2⟩ := Q11.out.form
  subst ev
  have SL : Hid (Sl w11 (.slice al (A ++ B).length cl) (A ++ B)) := Q11.out.sl
  rw [show (A ++ B).length = A.length + B.length by simp] at hl1 SL ⊢
  obtain ⟨i0, hi0, hz0, hz1, hz2⟩ := info_parts infoInt
  go_wp2_with (at_make; refine wpList_make_full w11 rfl _ _ 65 rfl w11.heap.size 3 i0 (.int .i64 0) 1 Try.underlying65 hi0 hz0 hz1 .i64 .i64 _ _ (B.length + 1) rfl rfl (by omega) (by omega) (by rw [hz2]; omega) (by unfold maxLen; omega) (Nat.le_refl _) ?_)
  intro w12 ho12 hg12
  have hb12 : Hid (Below w11.heap.size w11 w12) := (Below.refl _ _).grown hg12 (Nat.le_refl _) (fun k hk => by simp at hk)
  rw [toList_madeCells_one, ← svs_zero B.length C.length] at ho12
  replace ho12 := hide ho12
  clear hg12 hi0 hz0 hz1 hz2
  go_wp2_with fail
  replace lA := hide lA
  replace lB := hide lB
  replace lC := hide lC
  replace N1 := hide N1
  clear t1
  go_loopw [12] (fun vi wr => ∃ i : Nat, vi = .int .i64 (i : Int) ∧ i ≤ N ∧ Hid (Below w11.heap.size w11 wr) ∧ Hid (wr.ownsRow w11.heap.size 3 1 (.slice (some ⟨w11.heap.size, 0, none⟩) (B.length + 1) (B.length + 1)) (B.length + 1) (svs B.length C.length i))) (fun vi _ => N - (intOf vi).toNat)
  case atStart => exact ⟨0, rfl, Nat.zero_le _, hb12, ho12⟩
  case round =>
    obtain ⟨i, rfl, hiN, hW, hO⟩ := hrel
    by_cases hlt : i < N
    · have i1 : (i : Int) < (N : Int) := by omega
      have hA := h9.out wr b S (D11.out.below hW.out) i hlt
      have hkey : Hid (keyE B.length C.length i ≤ B.length) := keyE_le (by rw [hNN.out]; exact hlt)
      obtain ⟨ky, hky⟩ : ∃ ky, Hid (keyE B.length C.length i = ky) := ⟨_, rfl⟩
      have kS : Hid (∀ q b', EA wr.heap.size q b' A B C i → Calls Try.prog 8 #[.pointer (some ⟨b', 0, none⟩), .string ⟨#[97]⟩] q fun e w' => e = .returned (.tuple #[.int .i64 ((A.length + ky : Nat) : Int), .int .i64 0]) ∧ Below q.heap.size q w') := fun q b' h => by
        have := ea_size h
        rw [hky.out] at this
        exact this
      have kR : Hid (∀ q b', EA wr.heap.size q b' A B C i → Calls Try.prog 7 #[.pointer (some ⟨b', 0, none⟩), .string ⟨#[97]⟩, .int .i64 0, .int .i64 ((A.length + ky : Nat) : Int)] q fun e w' => ∃ v, e = .returned (.tuple #[v, .int .i64 0]) ∧ Ob q.heap.size w' v ((A ++ B.take ky).take (A.length + ky)) ∧ Below q.heap.size q w') := fun q b' h => by
        have := ea_read h
        rw [hky.out] at this
        exact this
      have hst : Hid ((svs B.length C.length i).set ky (.int .i64 ((cfE B.length C.length ky i : Int) + 1)) = svs B.length C.length (i + 1)) := by
        have := svs_step (lb := B.length) (lc := C.length) (i := i) (by rw [hNN.out]; exact hlt)
        rw [hky.out] at this
        exact this
      rw [hky.out] at hkey
      have hsg : Hid ((svs B.length C.length i)[ky]? = some (.int .i64 (cfE B.length C.length ky i : Int))) := svs_get hkey.out
      have hcf : Hid ((cfE B.length C.length ky i : Int) ≤ 100) := by have := cfE_le B.length C.length ky i; have := lC.out; show _ ≤ _; omega
      obtain ⟨K, hK⟩ : ∃ K, Hid (A.length + ky = K) := ⟨_, rfl⟩
      rw [hK.out] at kS kR
      obtain ⟨T, hT⟩ : ∃ T, Hid ((A ++ B.take ky).take K = T) := ⟨_, rfl⟩
      rw [hT.out] at kR
      have hTl : Hid (T.length = K) := by show _ = _; rw [← hT.out, ← hK.out]; have := hkey.out; simp; omega
      have hTa : Hid (∀ j, j < K → T[j]? = (A ++ B)[j]?) := fun j hj => by rw [← hT.out, ← hK.out]; exact front_at A B ky j hkey.out (by rw [hK.out]; exact hj)
      have K1 : ¬ ((K : Int) < (A.length : Int)) := by have := hK.out; omega
      have K2 : ¬ ((K : Int) > (A.length : Int) + (B.length : Int)) := by have := hK.out; have := hkey.out; omega
      have K3 : (K : Int) - (A.length : Int) = (ky : Int) := by have := hK.out; omega
      have K4 : (ky : Int) < (B.length : Int) + 1 := by have := hkey.out; omega
      replace K3 := hide K3
      replace K4 := hide K4
      clear h9
      go_upto_region 28 with (first
        | (go_at_call 28; refine hA.mono ?_; rintro e w2 ⟨b', rfl, E2, b2⟩; replace E2 := hide E2; replace b2 := hide b2)
        | (go_at_call 8; refine (kS.out _ _ E2.out).mono ?_; rintro e w3 ⟨rfl, b3⟩; have E3 := hide (E2.out.below b3); replace b3 := hide b3)
        | (go_at_call 7; refine (kR.out _ _ E3.out).mono ?_; rintro e w4 ⟨v4, rfl, r4, b4⟩; have E4 := hide (E3.out.below b4); replace b4 := hide b4; obtain ⟨a4, c4, ev, q41, q42⟩ := r4.form; subst ev; replace r4 := hide r4))
      rw [hTl.out] at q41 ⊢
      have W4 : Hid (Below wr.heap.size wr w4) := b2.out.trans ((b3.out.trans (b4.out.mono b3.out.size)).mono b2.out.size)
      have W5 : Hid (Below w11.heap.size w11 w4) := hW.out.trans (W4.out.mono hW.out.size)
      have hRd : Hid (∀ q, Below w4.heap.size w4 q → ∀ j, j < K → ∃ (rb ro ab ao : Nat) (u : Value), a4 = some ⟨rb, ro, none⟩ ∧ al = some ⟨ab, ao, none⟩ ∧ q.cell? ⟨rb, ro + j, none⟩ = some u ∧ q.cell? ⟨ab, ao + j, none⟩ = some u ∧ ∃ z : Nat, z < 256 ∧ u = .int .u8 (z : Int)) := fun q hq j hj => by
        obtain ⟨ao1, cp1, e1, _, _, _, g5⟩ := Below.sl hq r4.out.sl
        obtain ⟨ao2, cp2, e2, _, _, _, g6⟩ := Below.sl ((W5.out.trans (hq.mono W5.out.size)).mono (Nat.le_refl _)) SL.out
        simp only [Value.slice.injEq] at e1 e2
        obtain ⟨rfl, _, _⟩ := e1
        obtain ⟨rfl, _, _⟩ := e2
        obtain ⟨rb, ro, x1, x2⟩ := g5 j (by rw [hTl.out]; exact hj)
        have hj2 : j < (A ++ B).length := by have := hK.out; have := hkey.out; simp; omega
        obtain ⟨ab', ao', x3, x4⟩ := g6 j hj2
        have ht := hTa.out j hj
        rw [List.getElem?_eq_getElem (by rw [hTl.out]; exact hj), List.getElem?_eq_getElem hj2] at ht
        rw [Option.some.inj ht] at x2
        exact ⟨rb, ro, ab', ao', _, x1, x3, x2, x4, _, UInt8.toNat_lt _, rfl⟩
      have hlK : (K : Int) ≤ (A.length : Int) + (B.length : Int) := by omega
      have hsz : Hid (w11.heap.size < wr.heap.size) := by
        rcases hO.out.2 with ⟨c, _⟩ | ⟨g, cap, cur, e, _, hh, _⟩
        · simp at c
        · simp only [Value.slice.injEq, Option.some.injEq, Addr.mk.injEq] at e
          rw [← e.1.1] at hh
          exact heap_lt hh
      obtain ⟨cf, hcfe⟩ : ∃ cf, Hid (cfE B.length C.length ky i = cf) := ⟨_, rfl⟩
      rw [hcfe.out] at hst hsg hcf
      obtain ⟨Bq, hBq⟩ : ∃ Bq, Hid (wr.heap.size = Bq) := ⟨_, rfl⟩
      have KO : Hid (∀ q, Below w4.heap.size w4 q → q.cell? ⟨w11.heap.size, ky, none⟩ = some (.int .i64 (cf : Int)) ∧ q.frozen? ⟨w11.heap.size, ky, none⟩ = false ∧ (q.setCell ⟨w11.heap.size, ky, none⟩ (.int .i64 ((cf : Int) + 1))).ownsRow w11.heap.size 3 1 (.slice (some ⟨w11.heap.size, 0, none⟩) (B.length + 1) (B.length + 1)) (B.length + 1) (svs B.length C.length (i + 1)) ∧ Below w11.heap.size w11 (q.setCell ⟨w11.heap.size, ky, none⟩ (.int .i64 ((cf : Int) + 1))) ∧ EA Bq (q.setCell ⟨w11.heap.size, ky, none⟩ (.int .i64 ((cf : Int) + 1))) b' A B C i) := fun q hq => by
        have O5 := owns_belowN hO.out (W4.out.trans (hq.mono W4.out.size))
        refine ⟨?_, O5.frozenAt ky, ?_, (W5.out.trans (hq.mono W5.out.size)).setCell (Nat.le_refl _) _, ?_⟩
        · rw [O5.cellAt ky (by have := hkey.out; omega)]; exact hsg.out
        · rw [← hst.out]; exact (O5.stored ky _).1
        · rw [← hBq.out]
          refine (E4.out.below hq).but (X := fun k => k = w11.heap.size) (But.of_grownBy (grown_setCell q w11.heap.size ky _) fun k e => by cases e; rfl) ?_
          intro k hk
          rw [hk]
          exact hsz.out
      clear hA K1 K2
      go_wp2_with fail
      go_loopw [18] (fun vj wx => ∃ j : Nat, vj = .int .i64 (j : Int) ∧ j ≤ K ∧ Hid (Below w4.heap.size w4 wx)) (fun vj _ => K - (intOf vj).toNat)
      case atStart => exact ⟨0, rfl, Nat.zero_le _, Below.refl _ _⟩
      case round =>
        obtain ⟨j, rfl, hjK, hWx⟩ := hrel
        by_cases hjl : j < K
        · have j1 : (j : Int) < (K : Int) := by omega
          have j2 : (j : Int) < (A.length : Int) + (B.length : Int) := by omega
          obtain ⟨rb, ro, ab', ao', u, rfl, rfl, x1, x2, z, hz, rfl⟩ := hRd.out _ hWx.out j hjl
          replace hz := hide hz
          go_wp2_with fail
          go_quiet (fail)
          go_wp2_with fail
          have B3 : Hid (Below w4.heap.size w4 (wr.drewN nq)) := hWx.out.trans ((Qt.below ⟨nq, rfl⟩ _).mono hWx.out.size)
          generalize wr.drewN nq = wy at *
          go_roundw
          case rel => exact ⟨j + 1, by go_num, by omega, B3⟩
          case measure => simp [intOf]; omega
        · have j1 : ¬ ((j : Int) < (K : Int)) := by omega
          obtain rfl : j = K := by omega
          obtain ⟨c5, f5, O6, W6, E6⟩ := KO.out wr hWx.out
          replace O6 := hide O6
          replace W6 := hide W6
          replace E6 := hide E6
          have cf1 := hcf.out
          have k4 := K4.out
          have k3 := K3.out
          by_cases hil : i ≤ B.length
          · have i2 : ¬ ((i : Int) > (B.length : Int)) := by omega
            have hS0 := ea_size0 E6.out hil
            go_wp2_with (first
              | (go_at_call 8; refine hS0.mono ?_; rintro e w7 ⟨rfl, b7⟩; replace b7 := hide b7)
              | fail)
            refine ⟨⟨i + 1, by go_num, by omega, W6.out.trans (b7.out.mono W6.out.size), hide (owns_belowN O6.out b7.out)⟩, by simp [intOf]; omega⟩
          · have i2 : (i : Int) > (B.length : Int) := by omega
            have i3 : (i : Int) ≤ 462 := by have := N1.out; omega
            have hS1 := ea_size1 E6.out hil
            go_wp2_with (first
              | (go_at_call 8; refine hS1.mono ?_; rintro e w7 ⟨z, hz, rfl, b7⟩; replace b7 := hide b7; have z1 : ¬ ((z : Int) > (C.length : Int)) := (by omega))
              | fail)
            refine ⟨⟨i + 1, by go_num, by omega, W6.out.trans (b7.out.mono W6.out.size), hide (owns_belowN O6.out b7.out)⟩, by simp [intOf]; omega⟩
    · obtain rfl : i = N := by omega
      have i1 : ¬ ((i : Int) < (i : Int)) := by omega
      have hcl : Hid (∀ j, j ≤ B.length → wr.cell? ⟨w11.heap.size, j, none⟩ = some (.int .i64 ((C.length : Int) + 2))) := fun j hj => by
        rw [hO.out.cellAt j (by omega), svs_get hj, ← hNN.out, cfE_end hj]
        rfl
      have lb2 := lB.out
      have lc2 := lC.out
      go_wp2_with fail
      go_loopw [20] (fun vj wx => ∃ j : Nat, vj = .int .i64 (j : Int) ∧ j ≤ B.length + 1 ∧ Hid (wx = wr)) (fun vj _ => B.length + 1 - (intOf vj).toNat)
      case atStart => exact ⟨0, rfl, Nat.zero_le _, rfl⟩
      case round =>
        obtain ⟨j, rfl, hj, hwx⟩ := hrel
        by_cases hjl : j < B.length + 1
        · have j1 : (j : Int) < (B.length : Int) + 1 := by omega
          have hc := hcl.out j (by omega)
          rw [← hwx.out] at hc
          go_wp2_with fail
          go_roundw
          case rel => exact ⟨j + 1, by go_num, by omega, hwx⟩
          case measure => simp [intOf]; omega
        · have j1 : ¬ ((j : Int) < (B.length : Int) + 1) := by omega
          go_wp2_with fail
          go_ret
          rw [hwx.out]
          have q1 := D11.out.bel
          exact ⟨rfl, q1.trans (hW.out.mono q1.size)⟩
theorem each_walk (w : World) (va vb vc : Value) (A B C : List UInt8) (ha : Sl w va A) (hb : Sl w vb B) (hc : Sl w vc C) :
    Calls Try.prog 4 #[va, vb, vc] w fun e w' => e = .returned (.bool true) ∧ Below w.heap.size w w' := by
  by_cases h : 20 < A.length ∨ 20 < B.length ∨ 20 < C.length
  · exact each_long w va vb vc A B C ha hb hc h
  · exact each_short w va vb vc A B C ha hb hc (by omega) (by omega) (by omega)
#print axioms each_walk
end Go.Proofs.Ytdelknejmapeaaa.Dk
