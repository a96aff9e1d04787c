/-
  The document's disk: Cut.
-/
import Derived.Test.YtjehpijjneghpaaGreatM25
namespace Go.Proofs.YtjehpijjneghpaaGreat.Re
open Go.RowKit Go.Maps Go.Sort Go.Shelf Go.Proofs.YtjehpijjneghpaaGreat.Nm Go.Proofs.YtjehpijjneghpaaGreat.Dk
set_option linter.unusedVariables false
def ctF (f : FD) (n : Int) : FD := (f.1.take n.toNat, f.2.1.take n.toNat, min f.2.2 n)
def RB.cut (R : RB) (s : ByteArray) (n : Int) : RB × Int :=
  if refN R.down R.dir s true ≠ 0 then (R, refN R.down R.dir s true)
  else if n < 0 ∨ (R.lenOf (R.pOf s) : Int) < n then (R, 8)
  else if strN R.flt.2.1 ≠ 0 then (R.beg 3, strN R.flt.2.1)
  else ((R.beg 3).one (R.pOf s) (ctF (R.fOf (R.pOf s)) n), 0)
theorem own_cut (ao : Option Addr) (n c k : Nat) : (Value.slice ao k k).ownBlock = (Value.slice ao n c).ownBlock := by cases ao <;> rfl
set_option maxRecDepth 100000 in
set_option maxHeartbeats 2000000 in
theorem cut_rm {w : World} {b : Nat} {R : RB} {V : RV} (h : RM w b R V) (ho : R.ok) (hc : R.c7 ≤ 1000000000) (hg : ∀ e ∈ R.dir, e.2 < R.F.length) (hla : ∀ f ∈ R.F, f.2.1.length ≤ f.1.length ∧ (f.1.length : Int) ≤ 100000000) (s : ByteArray) (hs : s.size ≤ maxLen) (n : Int) :
    Calls Tryz.prog 50 #[.pointer (some ⟨b, 0, none⟩), .string s, .int .i64 n] w fun e w' => e = .returned (.int .i64 (R.cut s n).2) ∧ Rgo w w' b V (R.cut s n).1 := by
  obtain ⟨X, hX⟩ : ∃ X, Hid (R.cut s n = X) := ⟨_, rfl⟩
  rw [hX.out]
  have hR := refused_rm h s hs true
  by_cases h0 : refN R.down R.dir s true = 0
  · rw [h0] at hR
    have HM := hide h
    clear h
    have hB : Hid (∀ q, RM q b R V → _) := fun q hq => begins_rm hq ho hc 3 (by omega)
    obtain ⟨hf, hp, _⟩ := refN_there hg h0
    obtain ⟨be1, be2, _⟩ := beg_same R 3
    have hFi : Hid (∀ q, RM q b R V → Calls Tryz.prog 96 #[V.vD, .string s] q fun e w' => e = .returned (.int .i64 (R.pOf s : Int)) ∧ w' = q) := fun q hq => by
      have := find_ref q V.vD R.dir s hq.dd.tr
      rw [hf] at this
      exact this
    have hvd : ∃ da dn dc, V.vD = .slice da dn dc := by rcases HM.out.dd.form with ⟨e, _⟩ | ⟨g, cap, e, _⟩ <;> exact ⟨_, _, _, e⟩
    obtain ⟨da, dn, dc, hvd⟩ := hvd
    obtain ⟨F, hF⟩ : ∃ F : Ft, Hid (R.flt = F) := ⟨R.flt, rfl⟩
    rw [hF.out] at hB
    obtain ⟨fa, fk, fp⟩ := F
    unfold fv at hB
    dsimp only at hB
    rw [hvd] at hFi
    have hfo : R.fOf (R.pOf s) = R.F[R.pOf s] := by unfold RB.fOf; rw [List.getElem?_eq_getElem hp]; rfl
    have hlo : R.lenOf (R.pOf s) = R.F[R.pOf s].1.length := by unfold RB.lenOf; rw [List.getElem?_eq_getElem hp]
    have hlap := hla _ (List.getElem_mem hp)
    obtain ⟨g, cap, hvf, fl1, fl2, hl, z0, z1, z2⟩ := HM.out.at hp
    have c1 : w.cell? ⟨b, 1, none⟩ = some V.vF := (HM.out.cell 1).trans rfl
    have c2 : w.cell? ⟨b, 2, none⟩ = some V.vD := (HM.out.cell 2).trans rfl
    rw [hvf] at c1
    rw [hvd] at c2
    obtain ⟨ob1, ob2⟩ := HM.out.nn (R.pOf s) hp
    have hg1 : V.vF.ownBlock = some g := by rw [hvf]; exact own_some _ _ _
    have hgb : Hid (g ≠ b) := fun e => HM.out.ds 0 1 (by omega) b rfl (by show V.vF.ownBlock = _; rw [hg1, e])
    obtain ⟨ta, tc, et, tl1, tl2⟩ := ob1.form
    obtain ⟨la, lc, eL, ll1, ll2⟩ := ob2.form
    have z0s := hide z0
    have z1s := hide z1
    rw [et] at z0
    rw [eL] at z1
    have e0 : Hid (X = if n < 0 ∨ (R.F[R.pOf s].1.length : Int) < n then (R, 8) else if strN fk ≠ 0 then (R.beg 3, strN fk) else ((R.beg 3).one (R.pOf s) (ctF R.F[R.pOf s] n), 0)) := by show _ = _; rw [← hX.out]; unfold RB.cut; rw [if_neg (by rw [h0]; simp), hF.out, hfo, hlo]
    have hiF : R.pOf s < (R.beg 3).F.length := by rw [be1]; exact hp
    have hln : Hid (V.T.length = (R.beg 3).F.length) := by show _ = _; rw [be1]; exact HM.out.ln
    have hf0' : Hid ((R.beg 3).F[R.pOf s]'hiF = R.F[R.pOf s]'hp) := by show _ = _; simp only [be1]
    generalize hpp : R.pOf s = p at *
    have ip : (p : Int) < (R.F.length : Int) := by omega
    obtain ⟨f0, hf0⟩ : ∃ f0 : FD, Hid (R.F[p]'hp = f0) := ⟨R.F[p]'hp, rfl⟩
    rw [hf0.out] at ob1 ob2 tl1 ll1 z0 z1 z2 hlap e0 hf0' et eL
    replace hf0 := hide hf0
    have et2 := hide et
    have eL2 := hide eL
    have OB1 := hide ob1
    have OB2 := hide ob2
    obtain ⟨bl, hbl⟩ : ∃ bl : Nat, Hid (f0.1.length = bl) := ⟨f0.1.length, rfl⟩
    obtain ⟨ll, hll⟩ : ∃ ll : Nat, Hid (f0.2.1.length = ll) := ⟨f0.2.1.length, rfl⟩
    rw [hbl.out] at tl1 z0 e0 hlap
    rw [hll.out] at ll1 z1 hlap
    have lb2 := hlap.2
    have lb1 := hlap.1
    have hTs : Hid (V.T.set p V.T[p] = V.T) := List.set_getElem_self hl
    clear ho hc hpp hlo hfo ob1 ob2 hlap et eL
    by_cases hn : n < 0 ∨ (bl : Int) < n
    · rw [if_pos hn] at e0
      by_cases n0 : n < 0
      · go_enter Tryz.func50, Tryz.ntmps50
        go_upto_region 4 with (go_at_call 95; refine hR.mono ?_; rintro e w1 ⟨rfl, e1'⟩; subst w1)
        go_quiet ((go_at_call 96; exact Calls.quiet_of_same (hFi.out _ (HM.out.below (Qt.below ⟨_, rfl⟩ _)))))
        have B3 : Hid (Below w.heap.size w (w.drewN nq)) := Qt.below ⟨nq, rfl⟩ _
        go_wp2_with fail
        go_ret
        rw [e0.out]
        exact ⟨rfl, Rgo.same (HM.out.below B3.out) (But.of_below B3.out _)⟩
      · have n1 : n > (bl : Int) := by omega
        go_enter Tryz.func50, Tryz.ntmps50
        go_upto_region 4 with (go_at_call 95; refine hR.mono ?_; rintro e w1 ⟨rfl, e1'⟩; subst w1)
        go_quiet ((go_at_call 96; exact Calls.quiet_of_same (hFi.out _ (HM.out.below (Qt.below ⟨_, rfl⟩ _)))))
        have B3 : Hid (Below w.heap.size w (w.drewN nq)) := Qt.below ⟨nq, rfl⟩ _
        go_wp2_with fail
        go_ret
        rw [e0.out]
        exact ⟨rfl, Rgo.same (HM.out.below B3.out) (But.of_below B3.out _)⟩
    · rw [if_neg hn] at e0
      obtain ⟨k, rfl⟩ : ∃ k : Nat, n = (k : Int) := ⟨n.toNat, by omega⟩
      have n0 : ¬ ((k : Int) < 0) := by omega
      have n1 : ¬ ((k : Int) > (bl : Int)) := by omega
      have kb : k ≤ bl := by omega
      have kc : k ≤ tc := by omega
      clear hn
      by_cases hk : fk = 0 ∨ fk = 2
      · have e1 : Hid (X = ((R.beg 3).one p (ctF f0 (k : Int)), 0)) := by show _ = _; rw [e0.out, if_neg (by unfold strN; rw [if_pos hk]; simp)]
        clear e0
        rcases hk with rfl | rfl
        · go_enter Tryz.func50, Tryz.ntmps50
          go_upto_region 4 with (go_at_call 95; refine hR.mono ?_; rintro e w1 ⟨rfl, e1'⟩; subst w1)
          go_quiet ((go_at_call 96; exact Calls.quiet_of_same (hFi.out _ (HM.out.below (Qt.below ⟨_, rfl⟩ _)))))
          have B3 : Hid (Below w.heap.size w (w.drewN nq)) := Qt.below ⟨nq, rfl⟩ _
          have M3 := hide (HM.out.below B3.out)
          have y0 : (w.drewN nq).cell? ⟨g, p * 3, none⟩ = some (.slice ta bl tc) := by rw [B3.out.cell (lt_of_cell z0)]; exact z0
          generalize w.drewN nq = Y at *
          go_upto_region 8 with (go_at_call 97; refine (hB.out _ M3.out).mono ?_; rintro e w1 ⟨rfl, M1, b1⟩; replace M1 := hide M1; replace b1 := hide b1)
          have v1 := heap_alloc_new w1 (.cells #[.int .i64 fa, .int .i64 0, .int .i64 fp] 118)
          have BX := hide (box_below w1 (.cells #[.int .i64 fa, .int .i64 0, .int .i64 fp] 118))
          obtain ⟨Z, hY⟩ : ∃ Y, Hid (w1.alloc (.cells #[.int .i64 fa, .int .i64 0, .int .i64 fp] 118) = Y) := ⟨_, rfl⟩
          rw [hY.out] at v1 BX ⊢
          have y1 : Z.cell? ⟨w1.heap.size, 1, none⟩ = some (.int .i64 0) := by simp [World.cell?, v1]
          have MZ := hide (M1.out.below BX.out)
          have bZ : Hid (But (fun k => k = b) w Z) := (But.of_below B3.out _).trans (b1.out.trans (But.of_below BX.out _))
          have x0 : Z.cell? ⟨g, p * 3, none⟩ = some (.slice ta bl tc) := cell_but z0 bZ.out hgb.out
          have x1 : Z.cell? ⟨g, p * 3 + 1, none⟩ = some (.slice la ll lc) := cell_but z1 bZ.out hgb.out
          have x2 : Z.cell? ⟨g, p * 3 + 2, none⟩ = some (.int .i64 f0.2.2) := cell_but z2 bZ.out hgb.out
          have O1 : Hid (Oc 0 Z (.slice ta f0.1.length tc) f0.1) := by rw [← et2.out]; exact OB1.out.but bZ.out fun j hj e => MZ.out.ds 0 (2 * p + 6) (by omega) b rfl (by rw [blk_N b V hl, hj, e])
          have O2 : Hid (Oc 0 Z (.slice la f0.2.1.length lc) f0.2.1) := by rw [← eL2.out]; exact OB2.out.but bZ.out fun j hj e => MZ.out.ds 0 (2 * p + 7) (by omega) b rfl (by rw [blk_L b V hl, hj, e])
          have FF := MZ.out.ff
          rw [hvf] at FF
          have fr0 : Z.frozen? ⟨g, p * 3, none⟩ = false := FF.frozenAt _
          have s1 := (FF.stored (p * 3) (.slice ta k k)).1
          rw [fcells_setN _ _ p _ (f0.1.take k) hln.out hiF hl, hf0'.out] at s1
          have g1 := But.of_grownBy (X := fun k => k = g) (grown_setCell Z g (p * 3) (.slice ta k k)) fun k e => by cases e; rfl
          have L1 : p < ((R.beg 3).F.set p (f0.1.take k, f0.2)).length := by rw [List.length_set]; exact hiF
          have L2 : p < (V.T.set p (.slice ta k k, V.T[p].2)).length := by rw [List.length_set]; exact hl
          have L3 : (V.T.set p (.slice ta k k, V.T[p].2)).length = ((R.beg 3).F.set p (f0.1.take k, f0.2)).length := by rw [List.length_set, List.length_set]; exact hln.out
          have hx := fcells_at _ _ L3 p L1 L2
          have a1 : (Z.setCell ⟨g, p * 3, none⟩ (.slice ta k k)).cell? ⟨g, p * 3 + 1, none⟩ = some (.slice la ll lc) := by
            have := World.ownsRow.cells s1 (g := g) rfl _ _ hx.2.1
            rw [addr_add, Nat.zero_add, List.getElem_set_self] at this
            rw [this, ← hll.out]
            exact congrArg some eL2.out
          have a2 : (Z.setCell ⟨g, p * 3, none⟩ (.slice ta k k)).cell? ⟨g, p * 3 + 2, none⟩ = some (.int .i64 f0.2.2) := by
            have := World.ownsRow.cells s1 (g := g) rfl _ _ hx.2.2
            rw [addr_add, Nat.zero_add, List.getElem_set_self] at this
            exact this
          have hmn : Hid (ctF f0 (k : Int) = (f0.1.take k, f0.2.1.take k, min f0.2.2 (k : Int))) := rfl
          rw [hmn.out] at e1
          obtain ⟨ms, hms⟩ : ∃ ms, min f0.2.2 (k : Int) = ms := ⟨_, rfl⟩
          rw [hms] at e1
          clear v1
          by_cases hlk : k < ll
          · have i3 : (ll : Int) > (k : Int) := by omega
            have kc2 : k ≤ lc := by omega
            have fr1 : (Z.setCell ⟨g, p * 3, none⟩ (.slice ta k k)).frozen? ⟨g, p * 3 + 1, none⟩ = false := s1.frozenAt _
            have s2 := (s1.stored (p * 3 + 1) (.slice la k k)).1
            rw [fcells_setL _ _ p _ (f0.2.1.take k) L3 L1 L2] at s2
            simp only [List.getElem_set_self, List.set_set] at s2
            have g2 := But.of_grownBy (X := fun k => k = g) (grown_setCell (Z.setCell ⟨g, p * 3, none⟩ (.slice ta k k)) g (p * 3 + 1) (.slice la k k)) fun k e => by cases e; rfl
            have L1 : p < ((R.beg 3).F.set p (f0.1.take k, f0.2.1.take k, f0.2.2)).length := by rw [List.length_set]; exact hiF
            have L2 : p < (V.T.set p (.slice ta k k, .slice la k k)).length := by rw [List.length_set]; exact hl
            have L3 : (V.T.set p (.slice ta k k, .slice la k k)).length = ((R.beg 3).F.set p (f0.1.take k, f0.2.1.take k, f0.2.2)).length := by rw [List.length_set, List.length_set]; exact hln.out
            have hx := fcells_at _ _ L3 p L1 L2
            have a3 : ((Z.setCell ⟨g, p * 3, none⟩ (.slice ta k k)).setCell ⟨g, p * 3 + 1, none⟩ (.slice la k k)).cell? ⟨g, p * 3 + 2, none⟩ = some (.int .i64 f0.2.2) := by
              have := World.ownsRow.cells s2 (g := g) rfl _ _ hx.2.2
              rw [addr_add, Nat.zero_add, List.getElem_set_self] at this
              exact this
            have fr2 : ((Z.setCell ⟨g, p * 3, none⟩ (.slice ta k k)).setCell ⟨g, p * 3 + 1, none⟩ (.slice la k k)).frozen? ⟨g, p * 3 + 2, none⟩ = false := s2.frozenAt _
            have s3 := (s2.stored (p * 3 + 2) (.int .i64 ms)).1
            rw [fcells_setS _ _ p _ L3 L1 L2] at s3
            simp only [List.getElem_set_self, List.set_set] at s3
            have g3 := But.of_grownBy (X := fun k => k = g) (grown_setCell ((Z.setCell ⟨g, p * 3, none⟩ (.slice ta k k)).setCell ⟨g, p * 3 + 1, none⟩ (.slice la k k)) g (p * 3 + 2) (.int .i64 ms)) fun k e => by cases e; rfl
            have gX := (g1.trans g2).trans g3
            have fin : Hid (Rgo Z (((Z.setCell ⟨g, p * 3, none⟩ (.slice ta k k)).setCell ⟨g, p * 3 + 1, none⟩ (.slice la k k)).setCell ⟨g, p * 3 + 2, none⟩ (.int .i64 ms)) b V ((R.beg 3).one p (f0.1.take k, f0.2.1.take k, ms))) := by
              have oN : (Value.slice ta k k).ownBlock = V.T[p].1.ownBlock := by rw [et2.out]; exact own_cut _ _ _ _
              have oL : (Value.slice la k k).ownBlock = V.T[p].2.ownBlock := by rw [eL2.out]; exact own_cut _ _ _ _
              refine RM.file MZ.out (i := p) hiF hl (t := (.slice ta k k, .slice la k k)) ?_ ?_ ?_ (gX.mono fun j _ e => .inl (by rw [hg1, e])) (.inl oN) (.inl oL) ?_
              · rw [hvf]; exact s3
              · exact (O1.out.cut (by rw [hbl.out]; exact kb)).but gX (fun j hj e => MZ.out.ds 1 (2 * p + 6) (by omega) g hg1 (by rw [blk_N b V hl, ← oN, hj, e]))
              · exact (O2.out.cut (by rw [hll.out]; omega)).but gX (fun j hj e => MZ.out.ds 1 (2 * p + 7) (by omega) g hg1 (by rw [blk_L b V hl, ← oL, hj, e]))
              · intro j j1 j2
                exact MZ.out.ds (2 * p + 6) (2 * p + 7) (by omega) j (by rw [blk_N b V hl, ← oN]; exact j1) (by rw [blk_L b V hl, ← oL]; exact j2)
            have fin2 := hide (fin.out.behind bZ.out)
            clear fin gX g1 g2 g3 s1 s2 s3 FF hx L1 L2 L3
            go_wp2_with fail
            go_ret
            rw [e1.out]
            exact ⟨rfl, fin2.out⟩
          · have i3 : ¬ ((ll : Int) > (k : Int)) := by omega
            have htk : f0.2.1.take k = f0.2.1 := List.take_of_length_le (by rw [hll.out]; omega)
            rw [htk] at e1
            have fr2 : (Z.setCell ⟨g, p * 3, none⟩ (.slice ta k k)).frozen? ⟨g, p * 3 + 2, none⟩ = false := s1.frozenAt _
            have s3 := (s1.stored (p * 3 + 2) (.int .i64 ms)).1
            rw [fcells_setS _ _ p _ L3 L1 L2] at s3
            simp only [List.getElem_set_self, List.set_set] at s3
            have g3 := But.of_grownBy (X := fun k => k = g) (grown_setCell (Z.setCell ⟨g, p * 3, none⟩ (.slice ta k k)) g (p * 3 + 2) (.int .i64 ms)) fun k e => by cases e; rfl
            have gX := g1.trans g3
            have fin : Hid (Rgo Z ((Z.setCell ⟨g, p * 3, none⟩ (.slice ta k k)).setCell ⟨g, p * 3 + 2, none⟩ (.int .i64 ms)) b V ((R.beg 3).one p (f0.1.take k, f0.2.1, ms))) := by
              have oN : (Value.slice ta k k).ownBlock = V.T[p].1.ownBlock := by rw [et2.out]; exact own_cut _ _ _ _
              refine RM.file MZ.out (i := p) hiF hl (t := (.slice ta k k, V.T[p].2)) ?_ ?_ ?_ (gX.mono fun j _ e => .inl (by rw [hg1, e])) (.inl oN) (.inl rfl) ?_
              · rw [hvf]; exact s3
              · exact (O1.out.cut (by rw [hbl.out]; exact kb)).but gX (fun j hj e => MZ.out.ds 1 (2 * p + 6) (by omega) g hg1 (by rw [blk_N b V hl, ← oN, hj, e]))
              · have := O2.out.but gX (fun j hj e => MZ.out.ds 1 (2 * p + 7) (by omega) g hg1 (by rw [blk_L b V hl, eL2.out, hj, e]))
                rw [← eL2.out] at this
                exact this
              · intro j j1 j2
                exact MZ.out.ds (2 * p + 6) (2 * p + 7) (by omega) j (by rw [blk_N b V hl, ← oN]; exact j1) (by rw [blk_L b V hl]; exact j2)
            have fin2 := hide (fin.out.behind bZ.out)
            clear fin gX g1 g3 s1 s3 FF hx L1 L2 L3
            go_wp2_with fail
            go_ret
            rw [e1.out]
            exact ⟨rfl, fin2.out⟩
        · go_enter Tryz.func50, Tryz.ntmps50
          go_upto_region 4 with (go_at_call 95; refine hR.mono ?_; rintro e w1 ⟨rfl, e1'⟩; subst w1)
          go_quiet ((go_at_call 96; exact Calls.quiet_of_same (hFi.out _ (HM.out.below (Qt.below ⟨_, rfl⟩ _)))))
          have B3 : Hid (Below w.heap.size w (w.drewN nq)) := Qt.below ⟨nq, rfl⟩ _
          have M3 := hide (HM.out.below B3.out)
          have y0 : (w.drewN nq).cell? ⟨g, p * 3, none⟩ = some (.slice ta bl tc) := by rw [B3.out.cell (lt_of_cell z0)]; exact z0
          generalize w.drewN nq = Y at *
          go_upto_region 8 with (go_at_call 97; refine (hB.out _ M3.out).mono ?_; rintro e w1 ⟨rfl, M1, b1⟩; replace M1 := hide M1; replace b1 := hide b1)
          have v1 := heap_alloc_new w1 (.cells #[.int .i64 fa, .int .i64 2, .int .i64 fp] 118)
          have BX := hide (box_below w1 (.cells #[.int .i64 fa, .int .i64 2, .int .i64 fp] 118))
          obtain ⟨Z, hY⟩ : ∃ Y, Hid (w1.alloc (.cells #[.int .i64 fa, .int .i64 2, .int .i64 fp] 118) = Y) := ⟨_, rfl⟩
          rw [hY.out] at v1 BX ⊢
          have y1 : Z.cell? ⟨w1.heap.size, 1, none⟩ = some (.int .i64 2) := by simp [World.cell?, v1]
          have MZ := hide (M1.out.below BX.out)
          have bZ : Hid (But (fun k => k = b) w Z) := (But.of_below B3.out _).trans (b1.out.trans (But.of_below BX.out _))
          have x0 : Z.cell? ⟨g, p * 3, none⟩ = some (.slice ta bl tc) := cell_but z0 bZ.out hgb.out
          have x1 : Z.cell? ⟨g, p * 3 + 1, none⟩ = some (.slice la ll lc) := cell_but z1 bZ.out hgb.out
          have x2 : Z.cell? ⟨g, p * 3 + 2, none⟩ = some (.int .i64 f0.2.2) := cell_but z2 bZ.out hgb.out
          have O1 : Hid (Oc 0 Z (.slice ta f0.1.length tc) f0.1) := by rw [← et2.out]; exact OB1.out.but bZ.out fun j hj e => MZ.out.ds 0 (2 * p + 6) (by omega) b rfl (by rw [blk_N b V hl, hj, e])
          have O2 : Hid (Oc 0 Z (.slice la f0.2.1.length lc) f0.2.1) := by rw [← eL2.out]; exact OB2.out.but bZ.out fun j hj e => MZ.out.ds 0 (2 * p + 7) (by omega) b rfl (by rw [blk_L b V hl, hj, e])
          have FF := MZ.out.ff
          rw [hvf] at FF
          have fr0 : Z.frozen? ⟨g, p * 3, none⟩ = false := FF.frozenAt _
          have s1 := (FF.stored (p * 3) (.slice ta k k)).1
          rw [fcells_setN _ _ p _ (f0.1.take k) hln.out hiF hl, hf0'.out] at s1
          have g1 := But.of_grownBy (X := fun k => k = g) (grown_setCell Z g (p * 3) (.slice ta k k)) fun k e => by cases e; rfl
          have L1 : p < ((R.beg 3).F.set p (f0.1.take k, f0.2)).length := by rw [List.length_set]; exact hiF
          have L2 : p < (V.T.set p (.slice ta k k, V.T[p].2)).length := by rw [List.length_set]; exact hl
          have L3 : (V.T.set p (.slice ta k k, V.T[p].2)).length = ((R.beg 3).F.set p (f0.1.take k, f0.2)).length := by rw [List.length_set, List.length_set]; exact hln.out
          have hx := fcells_at _ _ L3 p L1 L2
          have a1 : (Z.setCell ⟨g, p * 3, none⟩ (.slice ta k k)).cell? ⟨g, p * 3 + 1, none⟩ = some (.slice la ll lc) := by
            have := World.ownsRow.cells s1 (g := g) rfl _ _ hx.2.1
            rw [addr_add, Nat.zero_add, List.getElem_set_self] at this
            rw [this, ← hll.out]
            exact congrArg some eL2.out
          have a2 : (Z.setCell ⟨g, p * 3, none⟩ (.slice ta k k)).cell? ⟨g, p * 3 + 2, none⟩ = some (.int .i64 f0.2.2) := by
            have := World.ownsRow.cells s1 (g := g) rfl _ _ hx.2.2
            rw [addr_add, Nat.zero_add, List.getElem_set_self] at this
            exact this
          have hmn : Hid (ctF f0 (k : Int) = (f0.1.take k, f0.2.1.take k, min f0.2.2 (k : Int))) := rfl
          rw [hmn.out] at e1
          obtain ⟨ms, hms⟩ : ∃ ms, min f0.2.2 (k : Int) = ms := ⟨_, rfl⟩
          rw [hms] at e1
          clear v1
          by_cases hlk : k < ll
          · have i3 : (ll : Int) > (k : Int) := by omega
            have kc2 : k ≤ lc := by omega
            have fr1 : (Z.setCell ⟨g, p * 3, none⟩ (.slice ta k k)).frozen? ⟨g, p * 3 + 1, none⟩ = false := s1.frozenAt _
            have s2 := (s1.stored (p * 3 + 1) (.slice la k k)).1
            rw [fcells_setL _ _ p _ (f0.2.1.take k) L3 L1 L2] at s2
            simp only [List.getElem_set_self, List.set_set] at s2
            have g2 := But.of_grownBy (X := fun k => k = g) (grown_setCell (Z.setCell ⟨g, p * 3, none⟩ (.slice ta k k)) g (p * 3 + 1) (.slice la k k)) fun k e => by cases e; rfl
            have L1 : p < ((R.beg 3).F.set p (f0.1.take k, f0.2.1.take k, f0.2.2)).length := by rw [List.length_set]; exact hiF
            have L2 : p < (V.T.set p (.slice ta k k, .slice la k k)).length := by rw [List.length_set]; exact hl
            have L3 : (V.T.set p (.slice ta k k, .slice la k k)).length = ((R.beg 3).F.set p (f0.1.take k, f0.2.1.take k, f0.2.2)).length := by rw [List.length_set, List.length_set]; exact hln.out
            have hx := fcells_at _ _ L3 p L1 L2
            have a3 : ((Z.setCell ⟨g, p * 3, none⟩ (.slice ta k k)).setCell ⟨g, p * 3 + 1, none⟩ (.slice la k k)).cell? ⟨g, p * 3 + 2, none⟩ = some (.int .i64 f0.2.2) := by
              have := World.ownsRow.cells s2 (g := g) rfl _ _ hx.2.2
              rw [addr_add, Nat.zero_add, List.getElem_set_self] at this
              exact this
            have fr2 : ((Z.setCell ⟨g, p * 3, none⟩ (.slice ta k k)).setCell ⟨g, p * 3 + 1, none⟩ (.slice la k k)).frozen? ⟨g, p * 3 + 2, none⟩ = false := s2.frozenAt _
            have s3 := (s2.stored (p * 3 + 2) (.int .i64 ms)).1
            rw [fcells_setS _ _ p _ L3 L1 L2] at s3
            simp only [List.getElem_set_self, List.set_set] at s3
            have g3 := But.of_grownBy (X := fun k => k = g) (grown_setCell ((Z.setCell ⟨g, p * 3, none⟩ (.slice ta k k)).setCell ⟨g, p * 3 + 1, none⟩ (.slice la k k)) g (p * 3 + 2) (.int .i64 ms)) fun k e => by cases e; rfl
            have gX := (g1.trans g2).trans g3
            have fin : Hid (Rgo Z (((Z.setCell ⟨g, p * 3, none⟩ (.slice ta k k)).setCell ⟨g, p * 3 + 1, none⟩ (.slice la k k)).setCell ⟨g, p * 3 + 2, none⟩ (.int .i64 ms)) b V ((R.beg 3).one p (f0.1.take k, f0.2.1.take k, ms))) := by
              have oN : (Value.slice ta k k).ownBlock = V.T[p].1.ownBlock := by rw [et2.out]; exact own_cut _ _ _ _
              have oL : (Value.slice la k k).ownBlock = V.T[p].2.ownBlock := by rw [eL2.out]; exact own_cut _ _ _ _
              refine RM.file MZ.out (i := p) hiF hl (t := (.slice ta k k, .slice la k k)) ?_ ?_ ?_ (gX.mono fun j _ e => .inl (by rw [hg1, e])) (.inl oN) (.inl oL) ?_
              · rw [hvf]; exact s3
              · exact (O1.out.cut (by rw [hbl.out]; exact kb)).but gX (fun j hj e => MZ.out.ds 1 (2 * p + 6) (by omega) g hg1 (by rw [blk_N b V hl, ← oN, hj, e]))
              · exact (O2.out.cut (by rw [hll.out]; omega)).but gX (fun j hj e => MZ.out.ds 1 (2 * p + 7) (by omega) g hg1 (by rw [blk_L b V hl, ← oL, hj, e]))
              · intro j j1 j2
                exact MZ.out.ds (2 * p + 6) (2 * p + 7) (by omega) j (by rw [blk_N b V hl, ← oN]; exact j1) (by rw [blk_L b V hl, ← oL]; exact j2)
            have fin2 := hide (fin.out.behind bZ.out)
            clear fin gX g1 g2 g3 s1 s2 s3 FF hx L1 L2 L3
            go_wp2_with fail
            go_ret
            rw [e1.out]
            exact ⟨rfl, fin2.out⟩
          · have i3 : ¬ ((ll : Int) > (k : Int)) := by omega
            have htk : f0.2.1.take k = f0.2.1 := List.take_of_length_le (by rw [hll.out]; omega)
            rw [htk] at e1
            have fr2 : (Z.setCell ⟨g, p * 3, none⟩ (.slice ta k k)).frozen? ⟨g, p * 3 + 2, none⟩ = false := s1.frozenAt _
            have s3 := (s1.stored (p * 3 + 2) (.int .i64 ms)).1
            rw [fcells_setS _ _ p _ L3 L1 L2] at s3
            simp only [List.getElem_set_self, List.set_set] at s3
            have g3 := But.of_grownBy (X := fun k => k = g) (grown_setCell (Z.setCell ⟨g, p * 3, none⟩ (.slice ta k k)) g (p * 3 + 2) (.int .i64 ms)) fun k e => by cases e; rfl
            have gX := g1.trans g3
            have fin : Hid (Rgo Z ((Z.setCell ⟨g, p * 3, none⟩ (.slice ta k k)).setCell ⟨g, p * 3 + 2, none⟩ (.int .i64 ms)) b V ((R.beg 3).one p (f0.1.take k, f0.2.1, ms))) := by
              have oN : (Value.slice ta k k).ownBlock = V.T[p].1.ownBlock := by rw [et2.out]; exact own_cut _ _ _ _
              refine RM.file MZ.out (i := p) hiF hl (t := (.slice ta k k, V.T[p].2)) ?_ ?_ ?_ (gX.mono fun j _ e => .inl (by rw [hg1, e])) (.inl oN) (.inl rfl) ?_
              · rw [hvf]; exact s3
              · exact (O1.out.cut (by rw [hbl.out]; exact kb)).but gX (fun j hj e => MZ.out.ds 1 (2 * p + 6) (by omega) g hg1 (by rw [blk_N b V hl, ← oN, hj, e]))
              · have := O2.out.but gX (fun j hj e => MZ.out.ds 1 (2 * p + 7) (by omega) g hg1 (by rw [blk_L b V hl, eL2.out, hj, e]))
                rw [← eL2.out] at this
                exact this
              · intro j j1 j2
                exact MZ.out.ds (2 * p + 6) (2 * p + 7) (by omega) j (by rw [blk_N b V hl, ← oN]; exact j1) (by rw [blk_L b V hl]; exact j2)
            have fin2 := hide (fin.out.behind bZ.out)
            clear fin gX g1 g3 s1 s3 FF hx L1 L2 L3
            go_wp2_with fail
            go_ret
            rw [e1.out]
            exact ⟨rfl, fin2.out⟩
      · have hk0 : ¬ fk = 0 := fun c => hk (.inl c)
        have hk2 : ¬ fk = 2 := fun c => hk (.inr c)
        have e1 : Hid (X = (R.beg 3, toldN fk)) := by
          show _ = _
          have hst : strN fk = toldN fk := by unfold strN; rw [if_neg hk]
          rw [e0.out, hst, if_pos (toldN_ne fk)]
        have hTo2 : Hid (∀ q, Calls Tryz.prog 98 #[.int .i64 fk] q fun e w' => e = .returned (.int .i64 (toldN fk)) ∧ w' = q) := fun q => told_ref q fk
        obtain ⟨tn, htn⟩ : ∃ tn, Hid (toldN fk = tn) := ⟨_, rfl⟩
        rw [htn.out] at hTo2 e1
        have q0 : (fk != 0) = true := by simpa using hk0
        have q2 : (fk != 2) = true := by simpa using hk2
        clear e0 hk
        go_enter Tryz.func50, Tryz.ntmps50
        go_upto_region 4 with (go_at_call 95; refine hR.mono ?_; rintro e w1 ⟨rfl, e1'⟩; subst w1)
        go_quiet ((go_at_call 96; exact Calls.quiet_of_same (hFi.out _ (HM.out.below (Qt.below ⟨_, rfl⟩ _)))))
        have B3 : Hid (Below w.heap.size w (w.drewN nq)) := Qt.below ⟨nq, rfl⟩ _
        have M3 := hide (HM.out.below B3.out)
        have y0 : (w.drewN nq).cell? ⟨g, p * 3, none⟩ = some (.slice ta bl tc) := by rw [B3.out.cell (lt_of_cell z0)]; exact z0
        generalize w.drewN nq = Y at *
        go_upto_region 8 with (go_at_call 97; refine (hB.out _ M3.out).mono ?_; rintro e w1 ⟨rfl, M1, b1⟩; replace M1 := hide M1; replace b1 := hide b1)
        have v1 := heap_alloc_new w1 (.cells #[.int .i64 fa, .int .i64 fk, .int .i64 fp] 118)
        have BX := hide (box_below w1 (.cells #[.int .i64 fa, .int .i64 fk, .int .i64 fp] 118))
        obtain ⟨Z, hY⟩ : ∃ Y, Hid (w1.alloc (.cells #[.int .i64 fa, .int .i64 fk, .int .i64 fp] 118) = Y) := ⟨_, rfl⟩
        rw [hY.out] at v1 BX ⊢
        have y1 : Z.cell? ⟨w1.heap.size, 1, none⟩ = some (.int .i64 fk) := by simp [World.cell?, v1]
        have MZ := hide (M1.out.below BX.out)
        have bZ : Hid (But (fun k => k = b) w Z) := (But.of_below B3.out _).trans (b1.out.trans (But.of_below BX.out _))
        clear v1
        go_wp2_with (go_at_call 98; refine (hTo2.out _).mono ?_; rintro e w2 ⟨rfl, e2⟩; subst w2)
        go_ret
        rw [e1.out]
        exact ⟨rfl, Rgo.same MZ.out bZ.out⟩
  · have e1 : X = (R, refN R.down R.dir s true) := by rw [← hX.out]; unfold RB.cut; rw [if_pos h0]
    have H := hide h
    rw [e1]
    clear h e1 hg
    generalize refN R.down R.dir s true = rn at *
    have h0' : (rn != 0) = true := by simpa using h0
    go_enter Tryz.func50, Tryz.ntmps50
    go_wp2_with (go_at_call 95; refine hR.mono ?_; rintro e w1 ⟨rfl, e1'⟩; subst w1)
    go_ret
    exact ⟨rfl, Rgo.refl H.out⟩
end Go.Proofs.YtjehpijjneghpaaGreat.Re
