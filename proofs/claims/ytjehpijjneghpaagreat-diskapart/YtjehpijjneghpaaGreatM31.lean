/-
  The document's disk: Crash.
-/
import Derived.Test.YtjehpijjneghpaaGreatM30
namespace Go.Proofs.YtjehpijjneghpaaGreat.Re
open Go.RowKit Go.Maps Go.Sort Go.Shelf Go.Proofs.YtjehpijjneghpaaGreat.Nm Go.Proofs.YtjehpijjneghpaaGreat.Dk
set_option linter.unusedVariables false
set_option maxRecDepth 100000 in
set_option maxHeartbeats 4000000 in
theorem crash_rm {w : World} {b : Nat} {R : RB} {V : RV} (h : RM w b R V) (hl : ((R.old.length + R.pe.length : Nat) : Int) ≤ 1000000000) (hf : ∀ c ∈ R.pe, -9223372036854775808 ≤ c.fi ∧ c.fi ≤ 9223372036854775807) (d : Int) (hgL : ∀ e ∈ R.front d, e.2 < R.F.length) (hla : ∀ f ∈ R.F, f.2.1.length ≤ f.1.length ∧ (f.1.length : Int) ≤ 100000000)
    (vk : Value) (Z : Nat → Prop) (ks : List Kep) (hk : Kp Z w vk ks) (hZ : ∀ k, Z k → (∀ x, blk b V x ≠ some k) ∧ k < w.heap.size) :
    Calls Tryz.prog 38 #[.pointer (some ⟨b, 0, none⟩), .agg #[.int .i64 d, vk]] w fun e w' => e = .returned (.tuple #[]) ∧ Rgo w w' b V (R.crash d ks) := by
  have hLn := front_len R d
  have hE : Hid (R.crash d ks = (crR (R.front d) ks (R.front d).length R).reset (R.front d)) := rfl
  rw [hE.out]
  have hDi : Hid (∀ q, RM q b R V → _) := fun q hq => dir_rm hq hl hf d
  obtain ⟨L, hL⟩ : ∃ L, Hid (R.front d = L) := ⟨_, rfl⟩
  rw [hL.out] at hDi hgL hLn ⊢
  have HM := hide h
  replace hgL := hide hgL
  have hLA := hide (crR_la L ks hla)
  have hLL := hide (crR_len L ks R)
  have HK := hide hk
  obtain ⟨ka, kc, rfl, kl1, kl2, _⟩ := hk
  replace hZ := hide hZ
  obtain ⟨N, hN⟩ : ∃ N, Hid (L.length = N) := ⟨_, rfl⟩
  rw [hN.out]
  have hN3 : Hid ((N : Int) ≤ 1000000000) := by show _ ≤ _; rw [← hN.out]; omega
  have BF := hide (box_below w (.cells #[.int .i64 d, .slice ka ks.length kc] 34))
  have NF := hide (heap_alloc_new w (.cells #[.int .i64 d, .slice ka ks.length kc] 34))
  obtain ⟨KN, hKN⟩ : ∃ KN, Hid (ks.length = KN) := ⟨_, rfl⟩
  rw [hKN.out] at kl1 BF NF ⊢
  have kc2 : kc ≤ 9223372036854775807 := by unfold maxLen at kl2; omega
  clear h hf hl hLn hla kl2
  go_enter Tryz.func38, Tryz.ntmps38
  go_upto_region 1 with fail
  obtain ⟨wf, hwf⟩ : ∃ wf, Hid (w.alloc (.cells #[.int .i64 d, .slice ka KN kc] 34) = wf) := ⟨_, rfl⟩
  rw [hwf.out] at BF NF ⊢
  have f0 : wf.cell? ⟨w.heap.size, 0, none⟩ = some (.int .i64 d) := by simp [World.cell?, NF.out]
  have MF := hide (HM.out.below BF.out)
  go_wp2_with (go_at_call 89; refine (hDi.out _ MF.out).mono ?_; rintro e w1 ⟨v1, rfl, E1, b1⟩; obtain ⟨da, dc, rfl, dl1, dl2, q3⟩ := E1.tr; replace b1 := hide b1)
  rw [hN.out] at dl1 E1 ⊢
  have M1 := hide (MF.out.below b1.out)
  have EE := hide E1
  replace q3 := hide q3
  have B1 : Hid (Below w.heap.size w w1) := BF.out.trans (b1.out.mono BF.out.size)
  have zf1 : Hid (w.heap.size < wf.heap.size ∧ wf.heap.size ≤ w1.heap.size) := ⟨heap_lt NF.out, b1.out.size⟩
  have NF1 : Hid (w1.heap[w.heap.size]? = some (.cells #[.int .i64 d, .slice ka KN kc] 34 (0, 0))) := (b1.out.block _ zf1.out.1).trans NF.out
  clear E1 hDi f0 MF
  -- what survives a step of the disk
  have KO : Hid (∀ q, But (fun k => ∃ x, blk b V x = some k) w1 q → (∀ i (hi : i < L.length), ∃ gb off, da = some ⟨gb, off, none⟩ ∧ q.cell? ⟨gb, off + i * 2 + 1, none⟩ = some (.int .i64 (L[i].2 : Int))) ∧ q.heap[w.heap.size]? = some (.cells #[.int .i64 d, .slice ka KN kc] 34 (0, 0)) ∧ Kp Z q (.slice ka KN kc) ks ∧ En wf.heap.size q (.slice da N dc) L) := fun q hq => by
    have hoff : ∀ k, w.heap.size ≤ k → ¬ ∃ x, blk b V x = some k := fun k hk ⟨x, hx⟩ => by have := HM.out.lt x k hx; omega
    refine ⟨fun i hi => ?_, ?_, ?_, ?_⟩
    · obtain ⟨gb, off, rfl, y0, y1⟩ := q3.out i hi
      refine ⟨gb, off, rfl, cell_but y1 hq (hoff gb ?_)⟩
      have := (EE.out.lt gb (own_zero EE.out rfl)).1
      have := zf1.out
      omega
    · exact hq.at NF1.out (hoff _ (Nat.le_refl _))
    · have := (HK.out.below B1.out).but hq (fun k hz c => by obtain ⟨x, hx⟩ := c; exact (hZ.out k hz).1 x hx)
      rw [hKN.out] at this
      exact this
    · exact EE.out.but hq (fun k hk => hoff k (by have := (EE.out.lt k hk).1; have := zf1.out; omega))
  have R1 : Hid (Rgo w1 w1 b V R) := Rgo.refl M1.out
  go_loopw [5] (fun i wr => ∃ k : Nat, i = .int .i64 k ∧ k ≤ N ∧ Hid (Rgo w1 wr b V (crR L ks k R))) (fun i _ => N - (intOf i).toNat)
  case atStart => exact ⟨0, rfl, Nat.zero_le _, R1.out⟩
  case round =>
    obtain ⟨k, rfl, hk, hG⟩ := hrel
    obtain ⟨⟨VK, MK, XK⟩, UK⟩ := hG.out
    obtain ⟨k1, k2, k3, k4⟩ := KO.out wr UK
    replace MK := hide MK
    replace XK := hide XK
    replace UK := hide UK
    by_cases hlt : k < N
    · have i1 : (k : Int) < (N : Int) := by omega
      have hkl : k < L.length := by rw [hN.out]; exact hlt
      obtain ⟨gb, off, rfl, y1⟩ := k1 k hkl
      have hp : L[k].2 < (crR L ks k R).F.length := by rw [hLL.out k]; exact hgL.out L[k] (List.getElem_mem hkl)
      have hLk : Hid (((L[k]?).map (·.2)).getD 0 = L[k].2) := by show _ = _; rw [List.getElem?_eq_getElem hkl]; rfl
      have hst : Hid (crR L ks (k + 1) R = (crR L ks k R).one L[k].2 (crD ((crR L ks k R).fOf L[k].2) (ks.getD k (0, [])))) := by
        show _ = _
        show (crR L ks k R).one (((L[k]?).map (·.2)).getD 0) (crD ((crR L ks k R).fOf (((L[k]?).map (·.2)).getD 0)) (ks.getD k (0, []))) = _
        rw [hLk.out]
      have hlap := hLA.out k _ (List.getElem_mem hp)
      generalize hRk : crR L ks k R = Rk at *
      have hfo : Rk.fOf L[k].2 = Rk.F[L[k].2] := by unfold RB.fOf; rw [List.getElem?_eq_getElem hp]; rfl
      rw [hfo] at hst
      generalize hpp : L[k].2 = p at *
      obtain ⟨g, cap, evf, fl1, fl2, hl', z0, z1, z2⟩ := MK.out.at hp
      have c1 : wr.cell? ⟨b, 1, none⟩ = some VK.vF := (MK.out.cell 1).trans rfl
      rw [evf] at c1
      have OB1 := hide (MK.out.nn _ hp).1
      have OB2 := hide (MK.out.nn _ hp).2
      obtain ⟨f0, hf0⟩ : ∃ f0 : FD, Hid (Rk.F[p]'hp = f0) := ⟨Rk.F[p]'hp, rfl⟩
      rw [hf0.out] at OB1 OB2 hst hlap z2
      obtain ⟨ta, tc, et, tl1, tl2⟩ := OB1.out.form
      obtain ⟨la, lc, eL, ll1, ll2⟩ := OB2.out.form
      have z0s := hide z0
      have z1s := hide z1
      rw [et] at z0
      rw [eL] at z1
      have hg1 : VK.vF.ownBlock = some g := by rw [evf]; exact own_some _ _ _
      have ip : (p : Int) < (Rk.F.length : Int) := by omega
      obtain ⟨fl, hfl⟩ : ∃ fl, Hid (Rk.F.length = fl) := ⟨_, rfl⟩
      have evs := hide evf
      rw [hfl.out] at ip c1 fl1
      obtain ⟨bl, hbl⟩ : ∃ bl : Nat, Hid (f0.1.length = bl) := ⟨f0.1.length, rfl⟩
      obtain ⟨ll, hll⟩ : ∃ ll : Nat, Hid (f0.2.1.length = ll) := ⟨f0.2.1.length, rfl⟩
      rw [hbl.out] at z0 tl1 hlap
      rw [hll.out] at z1 ll1 hlap
      obtain ⟨lb1, lb2⟩ := hlap
      have hwr : IntKind.i64.wrap ((bl : Int) - (ll : Int)) = (bl : Int) - (ll : Int) := by rw [IntKind.wrap_i64]; omega
      have hk1 : w.heap.size < wr.heap.size := heap_lt k2
      clear hpp hfo evf k1 k4 et eL
      -- the keep of this file
      obtain ⟨KK, hKK⟩ : ∃ KK : Kep, Hid (ks.getD k (0, []) = KK) := ⟨_, rfl⟩
      rw [hKK.out] at hst
      obtain ⟨kn, J⟩ := KK
      by_cases hin : k < KN
      · have i2 : (k : Int) < (KN : Int) := by omega
        obtain ⟨ka2, kc3, e3, _, _, hks⟩ := k3
        simp only [Value.slice.injEq] at e3
        obtain ⟨e31, e32, e33⟩ := e3
        subst e31
        subst e33
        obtain ⟨kb, ko, vj, rfl, hkz, n0, n1, hsj, hsi, nb0, nb1⟩ := hks k (by rw [hKN.out]; exact hin)
        have hks2 : ks[k]'(by rw [hKN.out]; exact hin) = (kn, J) := by rw [← hKK.out, List.getD_eq_getElem?_getD, List.getElem?_eq_getElem (by rw [hKN.out]; exact hin)]; rfl
        rw [hks2] at n0 hsj nb0 nb1
        obtain ⟨ja, jc, rfl, _, j3, j4, _⟩ := id hsj
        have VJ : Hid (Sl wr (.slice ja J.length jc) J) := hsj
        clear hsj hks hks2 e32
        go_upto_region 5 with fail
        go_quiet (fail)
        have B3 : Hid (Below wr.heap.size wr (wr.drewN nq)) := Qt.below ⟨nq, rfl⟩ _
        generalize wr.drewN nq = Y at *
        have BK := hide (box_below Y (.cells #[.int .i64 0, .slice none 0 0] 88))
        have NK := hide (heap_alloc_new Y (.cells #[.int .i64 0, .slice none 0 0] 88))
        have k2Y : Hid ((Y.alloc (.cells #[.int .i64 0, .slice none 0 0] 88)).heap[w.heap.size]? = some (.cells #[.int .i64 d, .slice (some ⟨kb, ko, none⟩) KN kc] 34 (0, 0))) := (BK.out.block _ (Nat.lt_of_lt_of_le hk1 B3.out.size)).trans ((B3.out.block _ hk1).trans k2)
        go_upto_region 7 with fail
        obtain ⟨YK, hYK⟩ : ∃ YK, Hid (Y.alloc (.cells #[.int .i64 0, .slice none 0 0] 88) = YK) := ⟨_, rfl⟩
        rw [hYK.out] at BK NK k2Y ⊢
        have u0 : YK.cell? ⟨w.heap.size, 1, none⟩ = some (.slice (some ⟨kb, ko, none⟩) KN kc) := by simp [World.cell?, k2Y.out]
        have BY : Hid (Below wr.heap.size wr YK) := B3.out.trans (BK.out.mono B3.out.size)
        have yz : Hid (wr.heap.size ≤ Y.heap.size) := B3.out.size
        have n0Y : YK.cell? ⟨kb, ko + k * 2, none⟩ = some (.int .i64 kn) := by rw [BY.out.cell (lt_of_cell n0)]; exact n0
        have n1Y : YK.cell? ⟨kb, ko + k * 2 + 1, none⟩ = some (.slice ja J.length jc) := by rw [BY.out.cell (lt_of_cell n1)]; exact n1
        obtain ⟨d1, d2, d3, d4, d5, d6, _, _⟩ := two_store (.int .i64 kn) (.slice ja J.length jc) NK.out
        replace d5 := hide d5
        replace d6 := hide d6
        have BW : Hid (Below wr.heap.size wr ((YK.setCell ⟨Y.heap.size, 0, none⟩ (.int .i64 kn)).setCell ⟨Y.heap.size, 1, none⟩ (.slice ja J.length jc))) := below_new BY.out d6.out yz.out
        go_upto_region 9 with fail
        obtain ⟨W, hW⟩ : ∃ W, Hid ((YK.setCell ⟨Y.heap.size, 0, none⟩ (.int .i64 kn)).setCell ⟨Y.heap.size, 1, none⟩ (.slice ja J.length jc) = W) := ⟨_, rfl⟩
        rw [hW.out] at d5 BW ⊢
        have s0 : W.cell? ⟨Y.heap.size, 0, none⟩ = some (.int .i64 kn) := by simp [World.cell?, d5.out]
        have s1 : W.cell? ⟨Y.heap.size, 1, none⟩ = some (.slice ja J.length jc) := by simp [World.cell?, d5.out]
        clear d1 d2 d3 d4 d6 n0Y n1Y u0
        have a0 : W.cell? ⟨g, p * 3, none⟩ = some (.slice ta bl tc) := by rw [BW.out.cell (lt_of_cell z0)]; exact z0
        have a1 : W.cell? ⟨g, p * 3 + 1, none⟩ = some (.slice la ll lc) := by rw [BW.out.cell (lt_of_cell z1)]; exact z1
        go_quiet (fail)
        have B4 : Hid (Below W.heap.size W (W.drewN nq)) := Qt.below ⟨nq, rfl⟩ _
        have s0' : (W.drewN nq).cell? ⟨Y.heap.size, 0, none⟩ = some (.int .i64 kn) := by rw [B4.out.cell (lt_of_cell s0)]; exact s0
        have s1' : (W.drewN nq).cell? ⟨Y.heap.size, 1, none⟩ = some (.slice ja J.length jc) := by rw [B4.out.cell (lt_of_cell s1)]; exact s1
        generalize W.drewN nq = W2 at *
        have BV : Hid (Below wr.heap.size wr W2) := BW.out.trans (B4.out.mono BW.out.size)
        have hn : max 0 (min (kn : Int) ((bl : Int) - (ll : Int))) = (wthn kn (bl - ll) : Int) := by unfold wthn; omega
        have hnl : wthn kn (bl - ll) ≤ bl - ll := by unfold wthn; omega
        have hjn : Hid (jnk (flD f0) kn J = min J.length (min (bl - ll - wthn kn (bl - ll)) 512)) := by show _ = _; unfold jnk; rw [show (flD f0).by_.length = bl from hbl.out, show (flD f0).la.length = ll from hll.out]
        have hcr : Hid (crD f0 (kn, J) = (f0.2.1 ++ svd (flD f0) (wthn kn (bl - ll)) ++ J.take (jnk (flD f0) kn J), f0.2.1 ++ svd (flD f0) (wthn kn (bl - ll)) ++ J.take (jnk (flD f0) kn J), 0)) := by
          show _ = _
          unfold crD crF
          rw [show (flD f0).by_.length = bl from hbl.out, show (flD f0).la.length = ll from hll.out, List.append_assoc]
          rfl
        rw [hcr.out] at hst
        obtain ⟨nn, hnn⟩ : ∃ nn, Hid (wthn kn (bl - ll) = nn) := ⟨_, rfl⟩
        rw [hnn.out] at hn hnl hjn hst
        obtain ⟨jn, hjj⟩ : ∃ jn, Hid (jnk (flD f0) kn J = jn) := ⟨_, rfl⟩
        rw [hjj.out] at hjn hst
        have hjl : jn ≤ J.length ∧ jn ≤ 512 := by have := hjn.out; omega
        have hwr2 : IntKind.i64.wrap ((bl : Int) - (ll : Int) - (nn : Int)) = (bl : Int) - (ll : Int) - (nn : Int) := by rw [IntKind.wrap_i64]; omega
        have hLs : Hid (∀ q, Below wr.heap.size wr q → Calls Tryz.prog 90 #[.pointer (some ⟨g, p * 3, none⟩), .int .i64 (nn : Int)] q fun e w' => ∃ v', e = .returned v' ∧ Ob q.heap.size w' v' (f0.2.1 ++ svd (flD f0) nn) ∧ Below q.heap.size q w') := fun q hq => by
          refine lasting_ref q g (p * 3) VK.T[p].1 VK.T[p].2 (flD f0) f0.2.2 nn (by rw [hq.cell (lt_of_cell z0s.out)]; exact z0s.out) (by rw [hq.cell (lt_of_cell z1s.out)]; exact z1s.out) (by rw [hq.cell (lt_of_cell z2)]; exact z2) (OB1.out.below hq).sl (OB2.out.below hq).sl (by show f0.2.1.length + nn ≤ f0.1.length; rw [hbl.out, hll.out]; omega) (fun j => ?_) (by show (f0.1.length : Int) ≤ _; rw [hbl.out]; exact lb2)
          show ((f0.2.1.length + j : Nat) : Int) < f0.2.2 ↔ j < (f0.2.2 - (f0.2.1.length : Int)).toNat
          omega
        have svl : Hid ((f0.2.1 ++ svd (flD f0) nn).length ≤ 100000000) := by
          show _ ≤ _
          have := svd_len (flD f0) nn (by show f0.2.1.length + nn ≤ f0.1.length; rw [hbl.out, hll.out]; omega)
          rw [List.length_append, this, hll.out]
          omega
        obtain ⟨vN, hvN⟩ : ∃ vN, Hid ((f0.2.1 ++ svd (flD f0) nn).length = vN) := ⟨_, rfl⟩
        clear a0 a1 s0 s1
        go_upto_region 12 with (go_at_call 90; refine (hLs.out _ BV.out).mono ?_; rintro e w5 ⟨v5, rfl, O5, b5⟩; obtain ⟨va, vc, ev5, vl1, vl2⟩ := O5.form; rw [hvN.out] at ev5 vl1; subst ev5; replace O5 := hide O5; replace b5 := hide b5)
        have B5 : Hid (Below wr.heap.size wr w5) := BV.out.trans (b5.out.mono BV.out.size)
        have e1 : w5.cell? ⟨Y.heap.size, 1, none⟩ = some (.slice ja J.length jc) := by rw [b5.out.cell (lt_of_cell s1')]; exact s1'
        clear s0' s1'
        have V6 : Sl w5 (.slice ja jn jc) (J.take jn) := sl_take (Below.sl B5.out VJ.out) hjl.1
        obtain ⟨v6, w6, r6, O6, G6, A6⟩ := run_app O5.out V6 (by have := svl.out; rw [List.length_take]; omega) b5.out.size 30
        have wz : Hid (wr.heap.size ≤ W2.heap.size) := BV.out.size
        have X6 : Hid (Below wr.heap.size wr w6) := B5.out.grown G6 (Nat.le_trans BV.out.size b5.out.size) (fun j hj => by have q1 := (O5.out.lt j hj).1; have q2 := wz.out; omega)
        obtain ⟨c6a, c6c, e6, l61, l62⟩ := O6.form
        replace O6 : Hid (Ob W2.heap.size w6 v6 _) := hide O6
        have q1 : w6.cell? ⟨g, p * 3, none⟩ = some VK.T[p].1 := by rw [X6.out.cell (lt_of_cell z0s.out)]; exact z0s.out
        have FF := (MK.out.below X6.out).ff
        rw [evs.out] at FF
        have q2 : w6.frozen? ⟨g, p * 3, none⟩ = false := FF.frozenAt _
        have t1 := (FF.stored (p * 3) v6).1
        rw [fcells_setN _ _ p _ (f0.2.1 ++ svd (flD f0) nn ++ J.take jn) MK.out.ln hp hl'] at t1
        have g1 := But.of_grownBy (X := fun j => j = g) (grown_setCell w6 g (p * 3) v6) fun j e => by cases e; rfl
        have gz : Hid (g < wr.heap.size) := lt_of_cell z0s.out
        have v6n : Hid (∀ j, v6.ownBlock = some j → wr.heap.size ≤ j) := fun j hj => by have q1 := (O6.out.lt j hj).1; have q2 := wz.out; omega
        have O6' : Ob W2.heap.size (w6.setCell ⟨g, p * 3, none⟩ v6) v6 (f0.2.1 ++ svd (flD f0) nn ++ J.take jn) := O6.out.but g1 (fun j hj e => by have q1 := v6n.out j hj; have q2 := gz.out; omega)
        obtain ⟨v7, w7, r7, O7, G7, A7⟩ := run_app (w := w6.setCell ⟨g, p * 3, none⟩ v6) (Ob.nil (w6.setCell ⟨g, p * 3, none⟩ v6).heap.size _) O6'.sl (by have := svl.out; simp only [List.length_nil, List.length_append, List.length_take] at *; omega) (Nat.le_refl _) 30
        rw [List.nil_append] at O7
        have X7 : Hid (Below (w6.setCell ⟨g, p * 3, none⟩ v6).heap.size (w6.setCell ⟨g, p * 3, none⟩ v6) w7) := (Below.refl _ _).grown G7 (Nat.le_refl _) (fun j hj => by simp [Value.ownBlock] at hj)
        have t2 := owns_belowN t1 X7.out
        have L1 : p < (Rk.F.set p (f0.2.1 ++ svd (flD f0) nn ++ J.take jn, Rk.F[p].2)).length := by rw [List.length_set]; exact hp
        have L2 : p < (VK.T.set p (v6, VK.T[p].2)).length := by rw [List.length_set]; exact hl'
        have L3 : (VK.T.set p (v6, VK.T[p].2)).length = (Rk.F.set p (f0.2.1 ++ svd (flD f0) nn ++ J.take jn, Rk.F[p].2)).length := by rw [List.length_set, List.length_set]; exact MK.out.ln
        have hx := fcells_at _ _ L3 p L1 L2
        have q3 : w7.cell? ⟨g, p * 3 + 1, none⟩ = some VK.T[p].2 := by
          have := World.ownsRow.cells t2 (g := g) rfl _ _ hx.2.1
          rw [addr_add, Nat.zero_add, List.getElem_set_self] at this
          exact this
        have q4 : w7.frozen? ⟨g, p * 3 + 1, none⟩ = false := t2.frozenAt _
        have t3 := (t2.stored (p * 3 + 1) v7).1
        rw [fcells_setL _ _ p _ (f0.2.1 ++ svd (flD f0) nn ++ J.take jn) L3 L1 L2] at t3
        simp only [List.getElem_set_self, List.set_set] at t3
        have g3 := But.of_grownBy (X := fun j => j = g) (grown_setCell w7 g (p * 3 + 1) v7) fun j e => by cases e; rfl
        have L1' : p < (Rk.F.set p (f0.2.1 ++ svd (flD f0) nn ++ J.take jn, f0.2.1 ++ svd (flD f0) nn ++ J.take jn, Rk.F[p].2.2)).length := by rw [List.length_set]; exact hp
        have L2' : p < (VK.T.set p (v6, v7)).length := by rw [List.length_set]; exact hl'
        have L3' : (VK.T.set p (v6, v7)).length = (Rk.F.set p (f0.2.1 ++ svd (flD f0) nn ++ J.take jn, f0.2.1 ++ svd (flD f0) nn ++ J.take jn, Rk.F[p].2.2)).length := by rw [List.length_set, List.length_set]; exact MK.out.ln
        have hx' := fcells_at _ _ L3' p L1' L2'
        have q5 : (w7.setCell ⟨g, p * 3 + 1, none⟩ v7).cell? ⟨g, p * 3 + 2, none⟩ = some (.int .i64 f0.2.2) := by
          have := World.ownsRow.cells t3 (g := g) rfl _ _ hx'.2.2
          rw [addr_add, Nat.zero_add, List.getElem_set_self] at this
          rw [this]
          show some (Value.int .i64 (Rk.F[p]'hp).2.2) = _
          rw [hf0.out]
        have q6 : (w7.setCell ⟨g, p * 3 + 1, none⟩ v7).frozen? ⟨g, p * 3 + 2, none⟩ = false := t3.frozenAt _
        have t4 := (t3.stored (p * 3 + 2) (.int .i64 0)).1
        rw [fcells_setS _ _ p _ L3' L1' L2'] at t4
        simp only [List.getElem_set_self, List.set_set] at t4
        have g4 := But.of_grownBy (X := fun j => j = g) (grown_setCell (w7.setCell ⟨g, p * 3 + 1, none⟩ v7) g (p * 3 + 2) (.int .i64 0)) fun j e => by cases e; rfl
        have g34 := g3.trans g4
        have z6 : Hid (wr.heap.size ≤ (w6.setCell ⟨g, p * 3, none⟩ v6).heap.size) := Nat.le_trans X6.out.size g1.size
        have v7n : Hid (∀ j, v7.ownBlock = some j → (w6.setCell ⟨g, p * 3, none⟩ v6).heap.size ≤ j) := fun j hj => (O7.lt j hj).1
        have fin : Hid (Rgo wr ((w7.setCell ⟨g, p * 3 + 1, none⟩ v7).setCell ⟨g, p * 3 + 2, none⟩ (.int .i64 0)) b VK (Rk.one p (f0.2.1 ++ svd (flD f0) nn ++ J.take jn, f0.2.1 ++ svd (flD f0) nn ++ J.take jn, 0))) := by
          refine RM.file MK.out (i := p) hp hl' (t := (v6, v7)) ?_ ?_ ?_ ?_ (.inr v6n.out) (.inr fun j hj => ?_) ?_
          · rw [evs.out]; exact t4
          · exact Oc.of (((O6'.below X7.out).but g34 (fun j hj e => by have q1 := v6n.out j hj; have q2 := gz.out; omega)).low (Nat.zero_le _))
          · exact Oc.of ((O7.but g34 (fun j hj e => by have q1 := v7n.out j hj; have q2 := gz.out; have q3 := z6.out; omega)).low (Nat.zero_le _))
          · exact (((But.of_below X6.out _).trans (g1.mono fun j _ e => .inl (by rw [hg1, e]))).trans (But.of_below X7.out _)).trans (g34.mono fun j _ e => .inl (by rw [hg1, e]))
          · have q1 := v7n.out j hj; have q3 := z6.out; omega
          · intro j j1 j2
            have q1 := v7n.out j j2
            have q2 := (O6'.lt j j1).2
            omega
        have fin2 : Hid (Rgo w1 ((w7.setCell ⟨g, p * 3 + 1, none⟩ v7).setCell ⟨g, p * 3 + 2, none⟩ (.int .i64 0)) b V (crR L ks (k + 1) R)) := by
          show Rgo _ _ _ _ _
          rw [hst.out]
          exact fin.out.then XK.out UK.out
        obtain ⟨c7a, c7c, e7, l71, l72⟩ := O7.form
        obtain ⟨m6, hm6⟩ : ∃ m6, Hid ((f0.2.1 ++ svd (flD f0) nn ++ J.take jn).length = m6) := ⟨_, rfl⟩
        rw [hm6.out] at e6 e7 l61 l71
        subst e6
        subst e7
        have hmn : (if (512 : Int) < (if (bl : Int) - (ll : Int) - (nn : Int) < (J.length : Int) then (bl : Int) - (ll : Int) - (nn : Int) else (J.length : Int)) then (512 : Int) else (if (bl : Int) - (ll : Int) - (nn : Int) < (J.length : Int) then (bl : Int) - (ll : Int) - (nn : Int) else (J.length : Int))) = (jn : Int) := by have := hjn.out; (try simp only [List.length_nil] at this); split <;> split at * <;> omega
        have jc2 : jn ≤ jc := by omega
        have jc4 : jc ≤ 9223372036854775807 := by unfold maxLen at j4; omega
        replace r6 := hide r6
        replace r7 := hide r7
        clear t1 t2 t3 t4 FF g1 g3 g4 g34 fin L1 L2 L3 L1' L2' L3' hx hx' O6' O7 X7 G6 G7 A6 A7 V6
        go_upto_region 14 with (at_builtin; refine Lib.wpList_append_run _ rfl (.tmp 60) (.tmp 70) 30 30 rfl _ _ rfl rfl _ _ r6.out ?_)
        go_wp2_with (at_builtin; refine Lib.wpList_append_run _ rfl (.const (.slice none 0 0)) (.tmp 77) 30 30 rfl _ _ rfl rfl _ _ r7.out ?_)
        go_roundw
        case rel => exact ⟨k + 1, by go_num, by omega, fin2.out⟩
        case measure => simp [intOf]; omega
      · have i2 : ¬ ((k : Int) < (KN : Int)) := by omega
        have hks2 : (kn, J) = ((0 : Int), ([] : List UInt8)) := by rw [← hKK.out, List.getD_eq_getElem?_getD, List.getElem?_eq_none (by rw [hKN.out]; omega)]; rfl
        simp only [Prod.mk.injEq] at hks2
        obtain ⟨rfl, rfl⟩ := hks2
        have VJ : Hid (Sl wr (.slice none 0 0) []) := (Ob.nil 0 wr).sl
        clear k3
        go_upto_region 5 with fail
        go_quiet (fail)
        have B3 : Hid (Below wr.heap.size wr (wr.drewN nq)) := Qt.below ⟨nq, rfl⟩ _
        generalize wr.drewN nq = Y at *
        have BK := hide (box_below Y (.cells #[.int .i64 0, .slice none 0 0] 88))
        have NK := hide (heap_alloc_new Y (.cells #[.int .i64 0, .slice none 0 0] 88))
        have k2Y : Hid ((Y.alloc (.cells #[.int .i64 0, .slice none 0 0] 88)).heap[w.heap.size]? = some (.cells #[.int .i64 d, .slice ka KN kc] 34 (0, 0))) := (BK.out.block _ (Nat.lt_of_lt_of_le hk1 B3.out.size)).trans ((B3.out.block _ hk1).trans k2)
        go_upto_region 7 with fail
        obtain ⟨YK, hYK⟩ : ∃ YK, Hid (Y.alloc (.cells #[.int .i64 0, .slice none 0 0] 88) = YK) := ⟨_, rfl⟩
        rw [hYK.out] at BK NK k2Y ⊢
        have u0 : YK.cell? ⟨w.heap.size, 1, none⟩ = some (.slice ka KN kc) := by simp [World.cell?, k2Y.out]
        have BY : Hid (Below wr.heap.size wr YK) := B3.out.trans (BK.out.mono B3.out.size)
        have yz : Hid (wr.heap.size ≤ Y.heap.size) := B3.out.size
        have s0 : YK.cell? ⟨Y.heap.size, 0, none⟩ = some (.int .i64 0) := by simp [World.cell?, NK.out]
        have s1 : YK.cell? ⟨Y.heap.size, 1, none⟩ = some (.slice none 0 0) := by simp [World.cell?, NK.out]
        have BW := BY
        go_upto_region 9 with fail
        obtain ⟨W, hW⟩ : ∃ W, Hid (YK = W) := ⟨_, rfl⟩
        rw [hW.out] at s0 s1 BW ⊢
        clear u0
        have a0 : W.cell? ⟨g, p * 3, none⟩ = some (.slice ta bl tc) := by rw [BW.out.cell (lt_of_cell z0)]; exact z0
        have a1 : W.cell? ⟨g, p * 3 + 1, none⟩ = some (.slice la ll lc) := by rw [BW.out.cell (lt_of_cell z1)]; exact z1
        go_quiet (fail)
        have B4 : Hid (Below W.heap.size W (W.drewN nq)) := Qt.below ⟨nq, rfl⟩ _
        have s0' : (W.drewN nq).cell? ⟨Y.heap.size, 0, none⟩ = some (.int .i64 0) := by rw [B4.out.cell (lt_of_cell s0)]; exact s0
        have s1' : (W.drewN nq).cell? ⟨Y.heap.size, 1, none⟩ = some (.slice none 0 0) := by rw [B4.out.cell (lt_of_cell s1)]; exact s1
        generalize W.drewN nq = W2 at *
        have BV : Hid (Below wr.heap.size wr W2) := BW.out.trans (B4.out.mono BW.out.size)
        have hn : max 0 (min (0 : Int) ((bl : Int) - (ll : Int))) = (wthn 0 (bl - ll) : Int) := by unfold wthn; omega
        have hnl : wthn 0 (bl - ll) ≤ bl - ll := by unfold wthn; omega
        have hjn : Hid (jnk (flD f0) 0 ([] : List UInt8) = min ([] : List UInt8).length (min (bl - ll - wthn 0 (bl - ll)) 512)) := by show _ = _; unfold jnk; rw [show (flD f0).by_.length = bl from hbl.out, show (flD f0).la.length = ll from hll.out]
        have hcr : Hid (crD f0 (0, ([] : List UInt8)) = (f0.2.1 ++ svd (flD f0) (wthn 0 (bl - ll)) ++ ([] : List UInt8).take (jnk (flD f0) 0 ([] : List UInt8)), f0.2.1 ++ svd (flD f0) (wthn 0 (bl - ll)) ++ ([] : List UInt8).take (jnk (flD f0) 0 ([] : List UInt8)), 0)) := by
          show _ = _
          unfold crD crF
          rw [show (flD f0).by_.length = bl from hbl.out, show (flD f0).la.length = ll from hll.out, List.append_assoc]
          rfl
        rw [hcr.out] at hst
        obtain ⟨nn, hnn⟩ : ∃ nn, Hid (wthn 0 (bl - ll) = nn) := ⟨_, rfl⟩
        rw [hnn.out] at hn hnl hjn hst
        obtain ⟨jn, hjj⟩ : ∃ jn, Hid (jnk (flD f0) 0 ([] : List UInt8) = jn) := ⟨_, rfl⟩
        rw [hjj.out] at hjn hst
        have hjl : jn ≤ ([] : List UInt8).length ∧ jn ≤ 512 := by have := hjn.out; omega
        have hwr2 : IntKind.i64.wrap ((bl : Int) - (ll : Int) - (nn : Int)) = (bl : Int) - (ll : Int) - (nn : Int) := by rw [IntKind.wrap_i64]; omega
        have hLs : Hid (∀ q, Below wr.heap.size wr q → Calls Tryz.prog 90 #[.pointer (some ⟨g, p * 3, none⟩), .int .i64 (nn : Int)] q fun e w' => ∃ v', e = .returned v' ∧ Ob q.heap.size w' v' (f0.2.1 ++ svd (flD f0) nn) ∧ Below q.heap.size q w') := fun q hq => by
          refine lasting_ref q g (p * 3) VK.T[p].1 VK.T[p].2 (flD f0) f0.2.2 nn (by rw [hq.cell (lt_of_cell z0s.out)]; exact z0s.out) (by rw [hq.cell (lt_of_cell z1s.out)]; exact z1s.out) (by rw [hq.cell (lt_of_cell z2)]; exact z2) (OB1.out.below hq).sl (OB2.out.below hq).sl (by show f0.2.1.length + nn ≤ f0.1.length; rw [hbl.out, hll.out]; omega) (fun j => ?_) (by show (f0.1.length : Int) ≤ _; rw [hbl.out]; exact lb2)
          show ((f0.2.1.length + j : Nat) : Int) < f0.2.2 ↔ j < (f0.2.2 - (f0.2.1.length : Int)).toNat
          omega
        have svl : Hid ((f0.2.1 ++ svd (flD f0) nn).length ≤ 100000000) := by
          show _ ≤ _
          have := svd_len (flD f0) nn (by show f0.2.1.length + nn ≤ f0.1.length; rw [hbl.out, hll.out]; omega)
          rw [List.length_append, this, hll.out]
          omega
        obtain ⟨vN, hvN⟩ : ∃ vN, Hid ((f0.2.1 ++ svd (flD f0) nn).length = vN) := ⟨_, rfl⟩
        clear a0 a1 s0 s1
        go_upto_region 12 with (go_at_call 90; refine (hLs.out _ BV.out).mono ?_; rintro e w5 ⟨v5, rfl, O5, b5⟩; obtain ⟨va, vc, ev5, vl1, vl2⟩ := O5.form; rw [hvN.out] at ev5 vl1; subst ev5; replace O5 := hide O5; replace b5 := hide b5)
        have B5 : Hid (Below wr.heap.size wr w5) := BV.out.trans (b5.out.mono BV.out.size)
        have e1 : w5.cell? ⟨Y.heap.size, 1, none⟩ = some (.slice none 0 0) := by rw [b5.out.cell (lt_of_cell s1')]; exact s1'
        clear s0' s1'
        have V6 : Sl w5 (.slice none jn 0) (([] : List UInt8).take jn) := sl_take (Below.sl B5.out VJ.out) hjl.1
        obtain ⟨v6, w6, r6, O6, G6, A6⟩ := run_app O5.out V6 (by have := svl.out; rw [List.length_take]; omega) b5.out.size 30
        have wz : Hid (wr.heap.size ≤ W2.heap.size) := BV.out.size
        have X6 : Hid (Below wr.heap.size wr w6) := B5.out.grown G6 (Nat.le_trans BV.out.size b5.out.size) (fun j hj => by have q1 := (O5.out.lt j hj).1; have q2 := wz.out; omega)
        obtain ⟨c6a, c6c, e6, l61, l62⟩ := O6.form
        replace O6 : Hid (Ob W2.heap.size w6 v6 _) := hide O6
        have q1 : w6.cell? ⟨g, p * 3, none⟩ = some VK.T[p].1 := by rw [X6.out.cell (lt_of_cell z0s.out)]; exact z0s.out
        have FF := (MK.out.below X6.out).ff
        rw [evs.out] at FF
        have q2 : w6.frozen? ⟨g, p * 3, none⟩ = false := FF.frozenAt _
        have t1 := (FF.stored (p * 3) v6).1
        rw [fcells_setN _ _ p _ (f0.2.1 ++ svd (flD f0) nn ++ ([] : List UInt8).take jn) MK.out.ln hp hl'] at t1
        have g1 := But.of_grownBy (X := fun j => j = g) (grown_setCell w6 g (p * 3) v6) fun j e => by cases e; rfl
        have gz : Hid (g < wr.heap.size) := lt_of_cell z0s.out
        have v6n : Hid (∀ j, v6.ownBlock = some j → wr.heap.size ≤ j) := fun j hj => by have q1 := (O6.out.lt j hj).1; have q2 := wz.out; omega
        have O6' : Ob W2.heap.size (w6.setCell ⟨g, p * 3, none⟩ v6) v6 (f0.2.1 ++ svd (flD f0) nn ++ ([] : List UInt8).take jn) := O6.out.but g1 (fun j hj e => by have q1 := v6n.out j hj; have q2 := gz.out; omega)
        obtain ⟨v7, w7, r7, O7, G7, A7⟩ := run_app (w := w6.setCell ⟨g, p * 3, none⟩ v6) (Ob.nil (w6.setCell ⟨g, p * 3, none⟩ v6).heap.size _) O6'.sl (by have := svl.out; simp only [List.length_nil, List.length_append, List.length_take] at *; omega) (Nat.le_refl _) 30
        rw [List.nil_append] at O7
        have X7 : Hid (Below (w6.setCell ⟨g, p * 3, none⟩ v6).heap.size (w6.setCell ⟨g, p * 3, none⟩ v6) w7) := (Below.refl _ _).grown G7 (Nat.le_refl _) (fun j hj => by simp [Value.ownBlock] at hj)
        have t2 := owns_belowN t1 X7.out
        have L1 : p < (Rk.F.set p (f0.2.1 ++ svd (flD f0) nn ++ ([] : List UInt8).take jn, Rk.F[p].2)).length := by rw [List.length_set]; exact hp
        have L2 : p < (VK.T.set p (v6, VK.T[p].2)).length := by rw [List.length_set]; exact hl'
        have L3 : (VK.T.set p (v6, VK.T[p].2)).length = (Rk.F.set p (f0.2.1 ++ svd (flD f0) nn ++ ([] : List UInt8).take jn, Rk.F[p].2)).length := by rw [List.length_set, List.length_set]; exact MK.out.ln
        have hx := fcells_at _ _ L3 p L1 L2
        have q3 : w7.cell? ⟨g, p * 3 + 1, none⟩ = some VK.T[p].2 := by
          have := World.ownsRow.cells t2 (g := g) rfl _ _ hx.2.1
          rw [addr_add, Nat.zero_add, List.getElem_set_self] at this
          exact this
        have q4 : w7.frozen? ⟨g, p * 3 + 1, none⟩ = false := t2.frozenAt _
        have t3 := (t2.stored (p * 3 + 1) v7).1
        rw [fcells_setL _ _ p _ (f0.2.1 ++ svd (flD f0) nn ++ ([] : List UInt8).take jn) L3 L1 L2] at t3
        simp only [List.getElem_set_self, List.set_set] at t3
        have g3 := But.of_grownBy (X := fun j => j = g) (grown_setCell w7 g (p * 3 + 1) v7) fun j e => by cases e; rfl
        have L1' : p < (Rk.F.set p (f0.2.1 ++ svd (flD f0) nn ++ ([] : List UInt8).take jn, f0.2.1 ++ svd (flD f0) nn ++ ([] : List UInt8).take jn, Rk.F[p].2.2)).length := by rw [List.length_set]; exact hp
        have L2' : p < (VK.T.set p (v6, v7)).length := by rw [List.length_set]; exact hl'
        have L3' : (VK.T.set p (v6, v7)).length = (Rk.F.set p (f0.2.1 ++ svd (flD f0) nn ++ ([] : List UInt8).take jn, f0.2.1 ++ svd (flD f0) nn ++ ([] : List UInt8).take jn, Rk.F[p].2.2)).length := by rw [List.length_set, List.length_set]; exact MK.out.ln
        have hx' := fcells_at _ _ L3' p L1' L2'
        have q5 : (w7.setCell ⟨g, p * 3 + 1, none⟩ v7).cell? ⟨g, p * 3 + 2, none⟩ = some (.int .i64 f0.2.2) := by
          have := World.ownsRow.cells t3 (g := g) rfl _ _ hx'.2.2
          rw [addr_add, Nat.zero_add, List.getElem_set_self] at this
          rw [this]
          show some (Value.int .i64 (Rk.F[p]'hp).2.2) = _
          rw [hf0.out]
        have q6 : (w7.setCell ⟨g, p * 3 + 1, none⟩ v7).frozen? ⟨g, p * 3 + 2, none⟩ = false := t3.frozenAt _
        have t4 := (t3.stored (p * 3 + 2) (.int .i64 0)).1
        rw [fcells_setS _ _ p _ L3' L1' L2'] at t4
        simp only [List.getElem_set_self, List.set_set] at t4
        have g4 := But.of_grownBy (X := fun j => j = g) (grown_setCell (w7.setCell ⟨g, p * 3 + 1, none⟩ v7) g (p * 3 + 2) (.int .i64 0)) fun j e => by cases e; rfl
        have g34 := g3.trans g4
        have z6 : Hid (wr.heap.size ≤ (w6.setCell ⟨g, p * 3, none⟩ v6).heap.size) := Nat.le_trans X6.out.size g1.size
        have v7n : Hid (∀ j, v7.ownBlock = some j → (w6.setCell ⟨g, p * 3, none⟩ v6).heap.size ≤ j) := fun j hj => (O7.lt j hj).1
        have fin : Hid (Rgo wr ((w7.setCell ⟨g, p * 3 + 1, none⟩ v7).setCell ⟨g, p * 3 + 2, none⟩ (.int .i64 0)) b VK (Rk.one p (f0.2.1 ++ svd (flD f0) nn ++ ([] : List UInt8).take jn, f0.2.1 ++ svd (flD f0) nn ++ ([] : List UInt8).take jn, 0))) := by
          refine RM.file MK.out (i := p) hp hl' (t := (v6, v7)) ?_ ?_ ?_ ?_ (.inr v6n.out) (.inr fun j hj => ?_) ?_
          · rw [evs.out]; exact t4
          · exact Oc.of (((O6'.below X7.out).but g34 (fun j hj e => by have q1 := v6n.out j hj; have q2 := gz.out; omega)).low (Nat.zero_le _))
          · exact Oc.of ((O7.but g34 (fun j hj e => by have q1 := v7n.out j hj; have q2 := gz.out; have q3 := z6.out; omega)).low (Nat.zero_le _))
          · exact (((But.of_below X6.out _).trans (g1.mono fun j _ e => .inl (by rw [hg1, e]))).trans (But.of_below X7.out _)).trans (g34.mono fun j _ e => .inl (by rw [hg1, e]))
          · have q1 := v7n.out j hj; have q3 := z6.out; omega
          · intro j j1 j2
            have q1 := v7n.out j j2
            have q2 := (O6'.lt j j1).2
            omega
        have fin2 : Hid (Rgo w1 ((w7.setCell ⟨g, p * 3 + 1, none⟩ v7).setCell ⟨g, p * 3 + 2, none⟩ (.int .i64 0)) b V (crR L ks (k + 1) R)) := by
          show Rgo _ _ _ _ _
          rw [hst.out]
          exact fin.out.then XK.out UK.out
        obtain ⟨c7a, c7c, e7, l71, l72⟩ := O7.form
        obtain ⟨m6, hm6⟩ : ∃ m6, Hid ((f0.2.1 ++ svd (flD f0) nn ++ ([] : List UInt8).take jn).length = m6) := ⟨_, rfl⟩
        rw [hm6.out] at e6 e7 l61 l71
        subst e6
        subst e7
        have hmn : (if (512 : Int) < (if (bl : Int) - (ll : Int) - (nn : Int) < (0 : Int) then (bl : Int) - (ll : Int) - (nn : Int) else (0 : Int)) then (512 : Int) else (if (bl : Int) - (ll : Int) - (nn : Int) < (0 : Int) then (bl : Int) - (ll : Int) - (nn : Int) else (0 : Int))) = (jn : Int) := by have := hjn.out; (try simp only [List.length_nil] at this); split <;> split at * <;> omega
        have hx0 : ¬ ((bl : Int) - (ll : Int) - (nn : Int) < 0) := by omega
        obtain rfl : jn = 0 := by simpa using hjl.1
        replace r6 := hide r6
        replace r7 := hide r7
        clear t1 t2 t3 t4 FF g1 g3 g4 g34 fin L1 L2 L3 L1' L2' L3' hx hx' O6' O7 X7 G6 G7 A6 A7 V6
        go_upto_region 14 with (at_builtin; refine Lib.wpList_append_run _ rfl (.tmp 60) (.tmp 70) 30 30 rfl _ _ rfl rfl _ _ r6.out ?_)
        go_wp2_with (at_builtin; refine Lib.wpList_append_run _ rfl (.const (.slice none 0 0)) (.tmp 77) 30 30 rfl _ _ rfl rfl _ _ r7.out ?_)
        go_roundw
        case rel => exact ⟨k + 1, by go_num, by omega, fin2.out⟩
        case measure => simp [intOf]; omega
    · have i1 : ¬ ((k : Int) < (N : Int)) := by omega
      obtain rfl : k = N := by omega
      clear k1 k2 k3
      have hbx := MK.out.box
      obtain ⟨vo, wo, ro, Qo, Go_⟩ := run_appE (w := wr.setCell ⟨b, 2, none⟩ (.slice da k dc)) (En.nil wr.heap.size _) ((k4.but (But.of_grownBy (X := fun j => j = b) (grown_setCell wr b 2 (.slice da k dc)) fun j e => by cases e; rfl) (fun j hj e => by have q1 := (k4.lt j hj).1; have q2 := MK.out.lt 0 b rfl; have q3 := HM.out.lt 0 b rfl; have q4 := zf1.out; omega)).er) (by simp; have := hN3.out; have := hN.out; omega) (by simp) 100
      rw [List.nil_append] at Qo
      have X1 := But.of_grownBy (X := fun j => j = b) (grown_setCell wr b 2 (.slice da k dc)) fun j e => by cases e; rfl
      have Xo : Below (wr.setCell ⟨b, 2, none⟩ (.slice da k dc)).heap.size (wr.setCell ⟨b, 2, none⟩ (.slice da k dc)) wo := (Below.refl _ _).grown Go_ (Nat.le_refl _) (fun j hj => by simp [Value.ownBlock] at hj)
      have h1 := heap_setCell_same wr b 2 _ _ (.slice da k dc) hbx
      have h2 : wo.heap[b]? = _ := (Xo.block b (heap_lt h1)).trans h1
      obtain ⟨oa, on, oc, rfl⟩ : ∃ oa on oc, vo = .slice oa on oc := by rcases Qo.form with ⟨e, _⟩ | ⟨g, cap, e, _⟩ <;> exact ⟨_, _, _, e⟩
      have h3 := heap_setCell_same wo b 3 _ _ (.slice oa on oc) h2
      have h4 := heap_setCell_same _ b 4 _ _ (.slice none 0 0) h3
      have h5 := heap_setCell_same _ b 5 _ _ (.slice none 0 0) h4
      have h6 := heap_setCell_same _ b 16 _ _ (.bool false) h5
      have X3 := But.of_grownBy (X := fun j => j = b) (grown_setCell wo b 3 (.slice oa on oc)) fun j e => by cases e; rfl
      have X4 := But.of_grownBy (X := fun j => j = b) (grown_setCell (wo.setCell ⟨b, 3, none⟩ (.slice oa on oc)) b 4 (.slice none 0 0)) fun j e => by cases e; rfl
      have X5 := But.of_grownBy (X := fun j => j = b) (grown_setCell ((wo.setCell ⟨b, 3, none⟩ (.slice oa on oc)).setCell ⟨b, 4, none⟩ (.slice none 0 0)) b 5 (.slice none 0 0)) fun j e => by cases e; rfl
      have X6 := But.of_grownBy (X := fun j => j = b) (grown_setCell (((wo.setCell ⟨b, 3, none⟩ (.slice oa on oc)).setCell ⟨b, 4, none⟩ (.slice none 0 0)).setCell ⟨b, 5, none⟩ (.slice none 0 0)) b 16 (.bool false)) fun j e => by cases e; rfl
      have XA := ((X3.trans X4).trans X5).trans X6
      have XB := (X1.trans (But.of_below Xo _)).trans XA
      have hbk : ∀ j, (Value.slice da k dc).ownBlock = some j → w.heap.size ≤ j ∧ j < wr.heap.size ∧ j < w1.heap.size := fun j hj => by have q1 := k4.lt j hj; have q2 := (EE.out.lt j hj).2; have q4 := zf1.out; omega
      have Eo : En wr.heap.size ((((wo.setCell ⟨b, 3, none⟩ (.slice oa on oc)).setCell ⟨b, 4, none⟩ (.slice none 0 0)).setCell ⟨b, 5, none⟩ (.slice none 0 0)).setCell ⟨b, 16, none⟩ (.bool false)) (.slice oa on oc) L := Qo.but XA (fun j hj e => by have q1 := (Qo.lt j hj).1; have q2 := MK.out.lt 0 b rfl; omega)
      have Ed : En 0 ((((wo.setCell ⟨b, 3, none⟩ (.slice oa on oc)).setCell ⟨b, 4, none⟩ (.slice none 0 0)).setCell ⟨b, 5, none⟩ (.slice none 0 0)).setCell ⟨b, 16, none⟩ (.bool false)) (.slice da k dc) L := owns_lower2 (k4.but XB (fun j hj e => by have q1 := (hbk j hj).1; have q3 := HM.out.lt 0 b rfl; omega)) (Nat.zero_le _)
      have fin := MK.out.reset Ed (fun j hj => ⟨fun x hx => by
        rcases XK.out x j hx with c | c
        · have q1 := (hbk j hj).1; have q2 := HM.out.lt x j c; omega
        · have q1 := (hbk j hj).2.2; omega, (hbk j hj).2.1⟩) Eo XB h6
      have fin2 : Hid (Rgo w ((((wo.setCell ⟨b, 3, none⟩ (.slice oa on oc)).setCell ⟨b, 4, none⟩ (.slice none 0 0)).setCell ⟨b, 5, none⟩ (.slice none 0 0)).setCell ⟨b, 16, none⟩ (.bool false)) b V ((crR L ks k R).reset L)) := by
        refine ⟨⟨_, fin, fun x j hx => ?_⟩, ?_⟩
        · by_cases x2 : x = 2
          · subst x2; exact .inr (hbk j hx).1
          · by_cases x3 : x = 3
            · subst x3; right; have q1 := (Eo.lt j hx).1; have q2 := B1.out.size; have q3 := UK.out.size; omega
            · by_cases x4 : x = 4
              · subst x4; simp [blk, RV.reset, Value.ownBlock] at hx
              · by_cases x5 : x = 5
                · subst x5; simp [blk, RV.reset, Value.ownBlock] at hx
                · rw [blk_reset b VK _ _ x x2 x3 x4 x5] at hx
                  exact (XK.out x j hx).imp id fun c => Nat.le_trans B1.out.size c
        · exact ((But.of_below B1.out _).trans UK.out).trans (XB.mono fun j _ e => ⟨0, by rw [e]; rfl⟩)
      have t2 : wr.cell? ⟨b, 2, none⟩ = some VK.vD := (MK.out.cell 2).trans rfl
      have t3 : wr.frozen? ⟨b, 2, none⟩ = false := by simp [World.frozen?, hbx]
      have t4 : wo.cell? ⟨b, 3, none⟩ = some VK.vO := by simp [World.cell?, h2, RB.cs]
      have t5 : wo.frozen? ⟨b, 3, none⟩ = false := by simp [World.frozen?, h2]
      have t6 : (wo.setCell ⟨b, 3, none⟩ (.slice oa on oc)).cell? ⟨b, 4, none⟩ = some VK.vP := by simp [World.cell?, h3, RB.cs]
      have t7 : (wo.setCell ⟨b, 3, none⟩ (.slice oa on oc)).frozen? ⟨b, 4, none⟩ = false := by simp [World.frozen?, h3]
      have t8 : ((wo.setCell ⟨b, 3, none⟩ (.slice oa on oc)).setCell ⟨b, 4, none⟩ (.slice none 0 0)).cell? ⟨b, 5, none⟩ = some VK.vA := by simp [World.cell?, h4, RB.cs]
      have t9 : ((wo.setCell ⟨b, 3, none⟩ (.slice oa on oc)).setCell ⟨b, 4, none⟩ (.slice none 0 0)).frozen? ⟨b, 5, none⟩ = false := by simp [World.frozen?, h4]
      have t10 : (((wo.setCell ⟨b, 3, none⟩ (.slice oa on oc)).setCell ⟨b, 4, none⟩ (.slice none 0 0)).setCell ⟨b, 5, none⟩ (.slice none 0 0)).cell? ⟨b, 16, none⟩ = some (.bool (crR L ks k R).down) := by simp [World.cell?, h5, RB.cs]
      have t11 : (((wo.setCell ⟨b, 3, none⟩ (.slice oa on oc)).setCell ⟨b, 4, none⟩ (.slice none 0 0)).setCell ⟨b, 5, none⟩ (.slice none 0 0)).frozen? ⟨b, 16, none⟩ = false := by simp [World.frozen?, h5]
      replace ro := hide ro
      clear h1 h2 h3 h4 h5 h6 X1 X3 X4 X5 X6 XA XB Xo Eo Ed fin Qo Go_ k4 hbk hbx
      go_wp2_with (at_builtin; refine Lib.wpList_append_run _ rfl (.const (.slice none 0 0)) (.tmp 89) 100 100 rfl _ _ rfl rfl _ _ ro.out ?_)
      go_end0
      exact ⟨rfl, fin2.out⟩
end Go.Proofs.YtjehpijjneghpaaGreat.Re
