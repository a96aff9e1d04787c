/-
  The document's Load.
-/
import Derived.Test.YtoffahbnffhliaaIxJ
import Derived.Test.YtoffahbnffhliaaRefRd
import Derived.Test.YtoffahbnffhliaaCrcR
namespace Go.Proofs.Ytoffahbnffhliaa.Ix
open Go.RowKit

theorem rf_at {T : TypeId} {w w' : World} {qb b : Nat} {l : List UInt8} {k : Nat} {er : Int} {x : X} {v : Value} (ha : At T w b x v) (h : RefAt w qb l k er) (hg : w.grownBy w' (some qb)) : At T w' b x v := by
  obtain ⟨vr, h1, _⟩ := h
  refine ha.but (Y := fun j => j = qb) (But.of_grownBy hg fun k e => by cases e; rfl) ?_
  rintro j (e | e) e2
  · rw [← e2, e, ha.box] at h1
    simp at h1
  · rw [e2] at e; exact ha.row.no h1 (by decide) e
theorem vr_max (l : List UInt8) (k : Nat) : vr l k 18446744073709551615 = if (rv (l.drop k)).2.2 ≠ 0 then (0, 0, (rv (l.drop k)).2.2) else rv (l.drop k) := by
  have hb := (rv_bounds (l.drop k)).1
  unfold vr
  split
  · rfl
  · rw [if_neg (by omega)]
/-- The reading of a varint that may be whatever it is. -/
theorem qvar_any (w : World) (qb : Nat) (l : List UInt8) (k : Nat) (h : RefAt w qb l k 0) :
    Calls Try.prog 38 #[.pointer (some ⟨qb, 0, none⟩), .int .u64 18446744073709551615] w fun e w' =>
      ((rv (l.drop k)).2.2 ≠ 0 ∧ e = .returned (.int .u64 0) ∧ RefAt w' qb l k (rv (l.drop k)).2.2 ∨ (rv (l.drop k)).2.2 = 0 ∧ e = .returned (.int .u64 ((rv (l.drop k)).1 : Int)) ∧ RefAt w' qb l (k + (rv (l.drop k)).2.1) 0) ∧ w.grownBy w' (some qb) := by
  refine (qVarint_go w qb l k 18446744073709551615 h (by omega)).mono ?_
  rintro e w' ⟨rfl, r, g⟩
  rw [vr_max] at r ⊢
  refine ⟨?_, g⟩
  by_cases h0 : (rv (l.drop k)).2.2 ≠ 0
  · rw [if_pos h0] at r ⊢
    exact .inl ⟨h0, rfl, r⟩
  · rw [if_neg h0] at r ⊢
    have h0' := Classical.not_not.1 h0
    rw [h0'] at r
    exact .inr ⟨h0', rfl, r⟩
theorem fld_err {r : List UInt8} (h : (rv r).2.2 ≠ 0) (a b : Nat) : fldE r a b = (rv r).2.2 := by
  unfold fldE
  rcases rv_errs r with e | e | e
  · exact absurd e h
  · rw [if_pos e, e]
  · rw [if_neg (by omega), if_pos (by omega), e]
theorem fld_val {r : List UInt8} (h : (rv r).2.2 = 0) (a b : Nat) : fldE r a b = if b < (rv r).1 ∨ (rv r).1 < a then 4 else 0 := by
  unfold fldE
  rw [if_neg (by omega)]
  by_cases c : b < (rv r).1 ∨ (rv r).1 < a
  · rw [if_pos (by omega), if_pos c]
  · rw [if_neg (by omega), if_neg c]
structure Rdq (w : World) (b qb : Nat) (l : List UInt8) (st c : Nat) (R : Int × List (Int × Int) × List UInt8) (i : Nat) (wr : World) (v : Value) (li : List (Int × Int)) (k : Nat) : Prop where
  at0 : At TR wr b ⟨st, li, lastE li⟩ v
  rd : RefAt wr qb l k 0
  srt : Srt st li
  len : li.length = i
  same : loadL st (c - i) li (lastE li) (l.drop k) = R
  bel : Below w.heap.size w wr
  lo : w.heap.size ≤ b
  lq : w.heap.size ≤ qb
  bq : qb < b
  own : ∀ k, v.ownBlock = some k → qb < k
theorem rf_own {w w' : World} {qb b : Nat} {l : List UInt8} {k : Nat} {er : Int} {v : Value} (h : RefAt w qb l k er) (hq : ∀ j, Own b v j → qb < j) (hb : But (Own b v) w w') : RefAt w' qb l k er := by
  obtain ⟨vr, h1, ⟨ao, cap, rfl, g2, g3, g4, g5⟩, h3, h4, h5⟩ := h
  have n1 : ¬ Own b v qb := fun e => by have := hq qb e; omega
  refine ⟨_, hb.at h1 n1, ⟨ao, cap, rfl, g2, g3, g4, fun i hi => ?_⟩, h3, h4, h5⟩
  obtain ⟨b', off, rfl, hc⟩ := g5 i hi
  refine ⟨b', off, rfl, ?_⟩
  have hlt : b' < qb := h5 ⟨b', off, none⟩ l.length cap rfl (by omega)
  rw [World.cell?_of_block (a := ⟨b', off + i, none⟩) (hb.block b' (lt_of_cell hc) fun e => by have := hq b' e; omega)]
  exact hc
theorem rf_new {w : World} {v : Value} {l : List UInt8} (hv : Sl w v l) (hl : l.length ≤ 140737488355328) : RefAt (w.alloc (.cells #[v, .int .i64 0, .int .i64 0] 79)) w.heap.size l 0 0 := by
  refine ⟨v, heap_alloc_new _ _, Below.sl (box_below _ _) hv, Nat.zero_le _, hl, ?_⟩
  rintro a n c rfl hn
  obtain ⟨ao, cap, e, _, _, _, g5⟩ := hv
  simp only [Value.slice.injEq] at e
  obtain ⟨rfl, rfl, _⟩ := e
  obtain ⟨b, off, e2, hc⟩ := g5 0 hn
  simp only [Option.some.injEq] at e2
  subst e2
  exact lt_of_cell hc
set_option maxRecDepth 100000 in
set_option maxHeartbeats 8000000 in
theorem refLoad_any : DoesLoad TR 19 := by
  intro w v l hv hlen
  obtain ⟨n, hn⟩ : ∃ n, Hid (l.length = n) := ⟨_, rfl⟩
  obtain ⟨ao, ca, rfl⟩ := hv.form hn.out
  by_cases h4 : n < 4
  · have hE : Hid (loadF l = (2, zX)) := by show _ = _; rw [loadF, if_pos (by rw [hn.out]; exact h4)]
    clear hv
    go_enter Try.func19, Try.ntmps19
    go_wp2_with fail
    go_ret2
    rw [hE.out]
    exact ⟨_, rfl, .inl ⟨by simp, rfl⟩, Below.refl _ _⟩
  · have HV := hide hv
    have hcap : n ≤ ca ∧ ca ≤ 9223372036854775807 := by
      obtain ⟨_, _, e, _, g3, g4, _⟩ := hv
      simp only [Value.slice.injEq] at e
      obtain ⟨_, _, rfl⟩ := e
      rw [hn.out] at g3
      unfold maxLen at g4
      omega
    obtain ⟨hc1, hc2⟩ := hcap
    obtain ⟨k, hk⟩ : ∃ k, Hid (n = k + 4) := ⟨n - 4, by show _ = _; omega⟩
    have hk' := hk.out
    have hnl := hn.out
    have sT : Hid (Sl w (.slice ao k ca) (l.take k)) := sl_take k (by omega) HV.out hn.out
    have sD : Hid (Sl w (.slice (if ca = k then ao else Option.map (fun x => x.add k) ao) (n - k) (ca - k)) (l.drop k)) := by
      obtain ⟨ao', ca', e, g2, g3, g4, g5⟩ := id hv
      simp only [Value.slice.injEq] at e
      obtain ⟨rfl, _, rfl⟩ := e
      have := sl_drop k (by omega) g2 g3 g4 g5
      rw [hn.out] at this
      exact this
    have hne : ¬ ca = k := by omega
    rw [if_neg hne] at sD
    have hdl : Hid ((l.drop k).length = 4) := by show _ = _; rw [List.length_drop, hnl]; omega
    have htl : Hid ((l.take k).length = k) := by show _ = _; rw [List.length_take, hnl]; omega
    obtain ⟨D, hD⟩ : ∃ D, Hid (l.drop k = D) := ⟨_, rfl⟩
    obtain ⟨M, hM⟩ : ∃ M, Hid (l.take k = M) := ⟨_, rfl⟩
    have hE : Hid (loadF l = if num D ≠ (Crc.more 0#32 M).toNat then (5, zX) else readF M) := by
      show _ = _
      rw [loadF, hnl, if_neg (by omega), show n - 4 = k by omega, hD.out, hM.out]
    rw [hD.out] at sD hdl
    rw [hM.out] at sT htl
    have hnl2 := num_le D 4 (by rw [hdl.out]; omega)
    have hcl := (Crc.more 0#32 M).isLt
    obtain ⟨nD, hnD⟩ : ∃ nD, Hid (num D = nD) := ⟨_, rfl⟩
    obtain ⟨nC, hnC⟩ : ∃ nC, Hid ((Crc.more 0#32 M).toNat = nC) := ⟨_, rfl⟩
    rw [hnD.out, hnC.out] at hE
    rw [hnD.out] at hnl2
    rw [hnC.out] at hcl
    have NUM : Hid (∀ u : World, Qt w u → Calls Try.prog 36 #[.slice (Option.map (fun x => x.add k) ao) (n - k) (ca - k)] u fun e w' => e = .returned (.int .u64 (nD : Int)) ∧ w' = u) := fun u hu => by
      have := number_any u _ D (hu.sl sD.out) (by rw [hdl.out]; omega)
      rw [hnD.out] at this
      exact this
    have SUM : Hid (∀ u : World, Qt w u → Calls Try.prog 37 #[.slice ao k ca] u fun e w' => e = .returned (.int .u32 (nC : Int)) ∧ w' = u) := fun u hu => by
      have := Crc.refSum_any u _ M (hu.sl sT.out)
      rw [hnC.out] at this
      exact this
    have hkl : k ≤ 140737488355328 := by omega
    have hwc : IntKind.u64.wrap (nC : Int) = (nC : Int) := wrap_u64_in _ (by omega) (by omega)
    have hw : (n : Int) - 4 = (k : Int) := by omega
    have hw' : IntKind.i64.wrap (k : Int) = (k : Int) := by rw [IntKind.wrap_i64]; omega
    have hkc : k ≤ ca := by omega
    have hkn : k ≤ n := by omega
    have i0 : (0 : Int) ≤ (k : Int) := by omega
    have i1 : (k : Int) ≤ (n : Int) := by omega
    have i2 : (n : Int) ≤ (ca : Int) := by omega
    have i3 : (k : Int) ≤ (ca : Int) := by omega
    have h4' : ¬ (n : Int) < 4 := by omega
    clear hv hnl hk'
    go_enter Try.func19, Try.ntmps19
    go_upto_region 4 with fail
    go_cut [27] from 18 to 26 (fun y wx => y = .bool ((nD : Int) != (nC : Int)) ∧ Hid (Qt w wx))
    case first =>
      go_quiet (first | (go_at_call 36; exact Calls.quiet_of_same (NUM.out _ ⟨_, rfl⟩)) | (go_at_call 37; exact Calls.quiet_of_same (SUM.out _ ⟨_, rfl⟩)))
      go_wp2_with fail
      go_meet
      case rel => exact ⟨by first | rfl | simp, ⟨_, rfl⟩⟩
    case rest =>
      obtain ⟨rfl, hQ⟩ := hcut
      by_cases hz : ¬ nD = nC
      · rw [if_pos hz] at hE
        have hbt : ((nD : Int) != (nC : Int)) = true := by simp; omega
        rw [hbt]
        clear hbt
        go_wp2_with fail
        go_ret2
        rw [hE.out]
        exact ⟨_, rfl, .inl ⟨by simp, rfl⟩, hQ.out.below _⟩
      replace hz := Classical.not_not.1 hz
      subst hz
      rw [if_neg (by simp)] at hE
      have hbt : ((nD : Int) != (nD : Int)) = false := by simp
      rw [hbt]
      clear hbt NUM SUM sD
      have R1 := hide (rf_new (hQ.out.sl sT.out) (by rw [htl.out]; omega))
      have B1 : Hid (Below w.heap.size w (wc.alloc (.cells #[.slice ao k ca, .int .i64 0, .int .i64 0] 79))) := keepF (hQ.out.below _) (box_below _ _)
      have lq : w.heap.size ≤ wc.heap.size := (hQ.out.below w.heap.size).size
      go_wp2_with fail
      generalize wc.alloc (.cells #[.slice ao k ca, .int .i64 0, .int .i64 0] 79) = w1 at *
      generalize hqb : wc.heap.size = qb at *
      clear hQ hqb sT
      refine (qvar_any w1 qb M 0 R1.out).mono ?_
      rintro e w2 ⟨hcs, g2⟩
      have B2 : Hid (Below w.heap.size w w2) := below_block B1.out g2 lq
      clear g2 R1 B1
      rw [List.drop_zero] at hcs
      rcases hcs with ⟨h0, rfl, r2⟩ | ⟨h0, rfl, r2⟩
      · have hRF : Hid (readF M = ((rv M).2.2, zX)) := by show _ = _; rw [readF, fld_err h0, if_pos h0]
        obtain ⟨_, _, _, c1, c2, _, _, _⟩ := r2.cells
        generalize (rv M).2.2 = er at *
        have hb0 : (er == 0) = false := by simpa using h0
        clear r2
        go_wp2_with fail
        go_quiet (fail)
        go_wp2_with fail
        go_ret2
        rw [hE.out, hRF.out]
        exact ⟨_, rfl, .inl ⟨h0, rfl⟩, keepF B2.out (Qt.below ⟨_, rfl⟩ _)⟩
      have R2 := hide r2
      obtain ⟨_, _, _, c1, c2, _, _, _⟩ := r2.cells
      rw [Nat.zero_add] at R2
      have hst64 := (rv_bounds M).1
      have hF1 := hide (fld_val h0 1 1048576)
      obtain ⟨st, hst⟩ : ∃ st, Hid ((rv M).1 = st) := ⟨_, rfl⟩
      obtain ⟨k1, hk1⟩ : ∃ k1, Hid ((rv M).2.1 = k1) := ⟨_, rfl⟩
      have hr1 : Hid (M.drop k1 = nx M) := by show _ = _; rw [← hk1.out, nx]
      rw [hst.out] at hst64 hF1 ⊢
      rw [hk1.out] at R2
      clear r2
      by_cases hbad : 1048576 < st ∨ st < 1
      · rw [if_pos hbad] at hF1
        have hRF : Hid (readF M = (4, zX)) := by show _ = _; rw [readF, hF1.out, if_pos (by simp)]
        by_cases hs1 : (st : Int) < 1
        · go_wp2_with fail
          go_ret2
          rw [hE.out, hRF.out]
          exact ⟨_, rfl, .inl ⟨by simp, rfl⟩, B2.out⟩
        · have hs2 : (1048576 : Int) < (st : Int) := by omega
          go_wp2_with fail
          go_ret2
          rw [hE.out, hRF.out]
          exact ⟨_, rfl, .inl ⟨by simp, rfl⟩, B2.out⟩
      rw [if_neg hbad] at hF1
      have hs1 : ¬ (st : Int) < 1 := by omega
      have hs2 : ¬ (1048576 : Int) < (st : Int) := by omega
      have hw1 : IntKind.i64.wrap (st : Int) = (st : Int) := by rw [IntKind.wrap_i64]; omega
      have hqlt := R2.out.lt
      have A3 : Hid (At TR (w2.alloc (.cells #[.int .i64 (st : Int), .slice none 0 0, .int .i64 0, .int .i64 0] 38)) w2.heap.size ⟨st, [], (0, 0)⟩ (.slice none 0 0)) := ⟨heap_alloc_new _ _, Ents.nil _⟩
      have R3 := hide (R2.out.below (box_below w2 (.cells #[.int .i64 (st : Int), .slice none 0 0, .int .i64 0, .int .i64 0] 38)))
      have B3 := hide (keepF B2.out (box_below w2 (.cells #[.int .i64 (st : Int), .slice none 0 0, .int .i64 0, .int .i64 0] 38)))
      have lo3 := B2.out.size
      go_wp2_with fail
      generalize w2.alloc (.cells #[.int .i64 (st : Int), .slice none 0 0, .int .i64 0, .int .i64 0] 38) = w3 at *
      generalize w2.heap.size = b at *
      clear R2 B2 c1 c2
      refine (qvar_any w3 qb M k1 R3.out).mono ?_
      rintro e w4 ⟨hcs, g4⟩
      have B4 : Hid (Below w.heap.size w w4) := below_block B3.out g4 lq
      have A4 := hide (rf_at A3.out R3.out g4)
      clear g4 R3 B3 A3
      rcases hcs with ⟨h0', rfl, r4⟩ | ⟨h0', rfl, r4⟩
      · have hRF : Hid (readF M = ((rv (M.drop k1)).2.2, zX)) := by show _ = _; rw [readF, hF1.out, if_neg (by simp), ← hr1.out, fld_err h0', if_pos h0']
        obtain ⟨_, _, _, c1, c2, _, _, _⟩ := r4.cells
        generalize (rv (M.drop k1)).2.2 = er at *
        have hb0 : (er == 0) = false := by simpa using h0'
        clear r4 A4
        go_wp2_with fail
        go_loopw [9] (fun vi wr => vi = .int .u64 0 ∧ w4 = wr) (fun _ _ => 0)
        case atStart => exact ⟨rfl, rfl⟩
        case round =>
          obtain ⟨rfl, rfl⟩ := hrel
          go_wp2_with fail
          go_quiet (fail)
          go_wp2_with fail
          go_ret2
          rw [hE.out, hRF.out]
          exact ⟨_, rfl, .inl ⟨h0', rfl⟩, keepF B4.out (Qt.below ⟨_, rfl⟩ _)⟩
      have hc64 := (rv_bounds (M.drop k1)).1
      have hF2 := hide (fld_val h0' 0 18446744073709551615)
      rw [if_neg (by omega)] at hF2
      obtain ⟨c, hc⟩ : ∃ c, Hid ((rv (M.drop k1)).1 = c) := ⟨_, rfl⟩
      obtain ⟨k2, hk2⟩ : ∃ k2, Hid (k1 + (rv (M.drop k1)).2.1 = k2) := ⟨_, rfl⟩
      have hr2 : Hid (M.drop k2 = nx (nx M)) := by show _ = _; rw [← hk2.out, drop_nx, hr1.out]
      rw [hc.out] at hc64 ⊢
      rw [hk2.out] at r4
      obtain ⟨R, hRR⟩ : ∃ R, Hid (loadL st c [] (0, 0) (M.drop k2) = R) := ⟨_, rfl⟩
      have hRF : Hid (readF M = if R.1 ≠ 0 then (R.1, zX) else if R.2.2 ≠ [] then (4, zX) else (0, ⟨st, R.2.1, lastE R.2.1⟩)) := by
        show _ = _
        rw [readF, hF1.out, if_neg (by simp), ← hr1.out, hF2.out, if_neg (by simp), hst.out, hc.out, hr1.out, ← hr2.out, hRR.out]
      have W0 : Hid (Rdq w b qb M st c R 0 w4 (.slice none 0 0) [] k2) :=
        ⟨A4.out, r4, ⟨by omega, by omega, List.Pairwise.nil, fun e he => by simp at he⟩, rfl, by rw [Nat.sub_zero, lastE_nil]; exact hRR.out, B4.out, lo3, lq, by omega, fun k hk => by simp [Value.ownBlock] at hk⟩
      clear A4 r4 B4
      go_wp2_with fail
      go_loopg [9] c (fun kx vi wr => ∃ (i : Nat) (v : Value) (li : List (Int × Int)) (k' : Nat), i ≤ c ∧ c - i ≤ kx ∧ vi = .int .u64 (i : Int) ∧ Hid (Rdq w b qb M st c R i wr v li k'))
      case atStart => exact ⟨0, _, [], k2, Nat.zero_le _, by omega, rfl, W0.out⟩
      case round =>
        obtain ⟨i, v, li, k', hi, hik, rfl, hW⟩ := hrel
        obtain ⟨_, _, _, c1, c2, _, _, _⟩ := hW.out.rd.cells
        by_cases hlt : i < c
        · have hli : (i : Int) < (c : Int) := by omega
          have hsm : Hid (loadL st (c - i) li (lastE li) (M.drop k') = R) := hW.out.same
          have hstep : Hid ((if entE st li (lastE li) (M.drop k') ≠ 0 then (entE st li (lastE li) (M.drop k'), [], []) else loadL st (c - (i + 1)) (li ++ [entV (lastE li) (M.drop k')]) (entV (lastE li) (M.drop k')) (nx (nx (M.drop k')))) = R) := by
            show _ = _
            have := hsm.out
            rw [show c - i = (c - (i + 1)) + 1 by omega, loadL] at this
            exact this
          have hok : Ok ⟨st, li, lastE li⟩ := Ok.last hW.out.srt
          obtain ⟨z1, z2, z3, z4, _⟩ := hok.la
          simp only at z1 z2 z3 z4
          have hlen' := hW.out.srt.len
          have hleni := hW.out.len
          go_wp2_with fail
          refine (qvar_any wr qb M k' hW.out.rd).mono ?_
          rintro e w5 ⟨hcs, g5⟩
          have B5 : Hid (Below w.heap.size w w5) := below_block hW.out.bel g5 lq
          have A5 := hide (rf_at hW.out.at0 hW.out.rd g5)
          clear g5 c1 c2
          rcases hcs with ⟨h0, rfl, r5⟩ | ⟨h0, rfl, r5⟩
          · have hEE : Hid (entE st li (lastE li) (M.drop k') = (rv (M.drop k')).2.2) := by show _ = _; rw [entE, fld_err h0, if_pos h0]
            rw [hEE.out, if_pos h0] at hstep
            have hRF2 : Hid (readF M = ((rv (M.drop k')).2.2, zX)) := by show _ = _; rw [hRF.out, ← hstep.out, if_pos h0]
            obtain ⟨_, _, _, c1, c2, _, _, _⟩ := r5.cells
            clear hsm hstep hEE hRF
            generalize (rv (M.drop k')).2.2 = er at *
            have hb0 : (er == 0) = false := by simpa using h0
            clear r5 A5
            go_wp2_with fail
            go_quiet (fail)
            go_wp2_with fail
            go_ret2
            rw [hE.out, hRF2.out]
            exact ⟨_, rfl, .inl ⟨h0, rfl⟩, keepF B5.out (Qt.below ⟨_, rfl⟩ _)⟩
          have hV1 := hide (fld_val h0 1 (9223372036854775807 - (lastE li).1).toNat)
          have hn64 := (rv_bounds (M.drop k')).1
          obtain ⟨n1, hn1⟩ : ∃ n1, Hid ((rv (M.drop k')).1 = n1) := ⟨_, rfl⟩
          obtain ⟨k3, hk3⟩ : ∃ k3, Hid (k' + (rv (M.drop k')).2.1 = k3) := ⟨_, rfl⟩
          have hr3 : Hid (M.drop k3 = nx (M.drop k')) := by show _ = _; rw [← hk3.out, drop_nx]
          have hEV1 : Hid (entV (lastE li) (M.drop k') = ((lastE li).1 + (n1 : Int), (lastE li).2 + ((rv (nx (M.drop k'))).1 : Int))) := by show _ = _; rw [entV, hn1.out]
          rw [hn1.out] at hV1 hn64 ⊢
          rw [hk3.out] at r5
          have R5 := hide r5
          obtain ⟨_, _, _, c1, c2, _, _, _⟩ := r5.cells
          obtain ⟨d0, d1, d2, d3⟩ := A5.out.cells
          simp only at d0 d2 d3
          obtain ⟨p1, hp1⟩ : ∃ p1, Hid ((lastE li).1 = p1) := ⟨_, rfl⟩
          obtain ⟨p2, hp2⟩ : ∃ p2, Hid ((lastE li).2 = p2) := ⟨_, rfl⟩
          rw [hp1.out] at d2 z1 z3 hV1 hEV1
          rw [hp2.out] at d3 z2 z4 hEV1
          have hw3 : IntKind.i64.wrap (9223372036854775807 - p1) = 9223372036854775807 - p1 := by rw [IntKind.wrap_i64]; omega
          have hw4 : IntKind.u64.wrap (9223372036854775807 - p1) = 9223372036854775807 - p1 := wrap_u64_in _ (by omega) (by omega)
          have hw5 : IntKind.i64.wrap (2147483647 - p2) = 2147483647 - p2 := by rw [IntKind.wrap_i64]; omega
          have hw6 : IntKind.u64.wrap (2147483647 - p2) = 2147483647 - p2 := wrap_u64_in _ (by omega) (by omega)
          clear r5
          by_cases hbad : (9223372036854775807 - p1).toNat < n1 ∨ n1 < 1
          · rw [if_pos hbad] at hV1
            have hEE : Hid (entE st li (lastE li) (M.drop k') = 4) := by show _ = _; rw [entE, hp1.out, hV1.out, if_pos (by simp)]
            rw [hEE.out, if_pos (by simp)] at hstep
            have hRF2 : Hid (readF M = (4, zX)) := by show _ = _; rw [hRF.out, ← hstep.out, if_pos (by simp)]
            clear hsm hstep hEE hRF
            by_cases hs5 : (n1 : Int) < 1
            · go_wp2_with fail
              go_ret2
              rw [hE.out, hRF2.out]
              exact ⟨_, rfl, .inl ⟨by simp, rfl⟩, B5.out⟩
            · have hs6 : 9223372036854775807 - p1 < (n1 : Int) := by omega
              go_wp2_with fail
              go_ret2
              rw [hE.out, hRF2.out]
              exact ⟨_, rfl, .inl ⟨by simp, rfl⟩, B5.out⟩
          rw [if_neg hbad] at hV1
          have hs5 : ¬ (n1 : Int) < 1 := by omega
          have hs6 : ¬ 9223372036854775807 - p1 < (n1 : Int) := by omega
          have hEE : Hid (entE st li (lastE li) (M.drop k') = fldE (M.drop k3) (if li = [] then 0 else st) (2147483647 - p2).toNat) := by show _ = _; rw [entE, hp1.out, hp2.out, hV1.out, if_neg (by simp), hr3.out]
          go_wp2_with fail
          refine (qvar_any w5 qb M k3 R5.out).mono ?_
          rintro e w6 ⟨hcs, g6⟩
          have B6 : Hid (Below w.heap.size w w6) := below_block B5.out g6 lq
          have A6 := hide (rf_at A5.out R5.out g6)
          clear g6 c1 c2 A5 R5 B5 d0 d1 d2 d3
          rcases hcs with ⟨h6, rfl, r6⟩ | ⟨h6, rfl, r6⟩
          · rw [fld_err h6] at hEE
            rw [hEE.out, if_pos h6] at hstep
            have hRF2 : Hid (readF M = ((rv (M.drop k3)).2.2, zX)) := by show _ = _; rw [hRF.out, ← hstep.out, if_pos h6]
            obtain ⟨_, _, _, c1, c2, _, _, _⟩ := r6.cells
            clear hsm hstep hEE hRF
            generalize (rv (M.drop k3)).2.2 = er at *
            have hb0 : (er == 0) = false := by simpa using h6
            clear r6 A6
            go_wp2_with fail
            go_quiet (fail)
            go_wp2_with fail
            go_ret2
            rw [hE.out, hRF2.out]
            exact ⟨_, rfl, .inl ⟨h6, rfl⟩, keepF B6.out (Qt.below ⟨_, rfl⟩ _)⟩
          rw [fld_val h6] at hEE
          have hn64' := (rv_bounds (M.drop k3)).1
          obtain ⟨n2, hn2⟩ : ∃ n2, Hid ((rv (M.drop k3)).1 = n2) := ⟨_, rfl⟩
          obtain ⟨k4, hk4⟩ : ∃ k4, Hid (k3 + (rv (M.drop k3)).2.1 = k4) := ⟨_, rfl⟩
          have hr4 : Hid (M.drop k4 = nx (nx (M.drop k'))) := by show _ = _; rw [← hk4.out, drop_nx, hr3.out]
          rw [← hr3.out, hn2.out] at hEV1
          rw [hn2.out] at hEE hn64' ⊢
          rw [hk4.out] at r6
          have R6 := hide r6
          obtain ⟨_, _, _, c1, c2, _, _, _⟩ := r6.cells
          obtain ⟨d0, d1, d2, d3⟩ := A6.out.cells
          obtain ⟨f0, f1, f2, f3⟩ := A6.out.frozen
          simp only at d0 d2 d3
          rw [hp1.out] at d2
          rw [hp2.out] at d3
          obtain ⟨ap, hap⟩ : ∃ ap, Hid ((if li = [] then 0 else st) = ap) := ⟨_, rfl⟩
          rw [hap.out] at hEE
          have hip : (0 < i ∧ ap = st) ∨ (i = 0 ∧ ap = 0) := by
            by_cases e : li = []
            · right
              rw [e] at hleni
              exact ⟨hleni.symm, by rw [← hap.out, if_pos e]⟩
            · left
              have := List.length_pos_iff.2 e
              exact ⟨by omega, by rw [← hap.out, if_neg e]⟩
          clear r6
          by_cases hbad2 : (2147483647 - p2).toNat < n2 ∨ n2 < ap
          · rw [if_pos hbad2] at hEE
            rw [hEE.out, if_pos (by simp)] at hstep
            have hRF2 : Hid (readF M = (4, zX)) := by show _ = _; rw [hRF.out, ← hstep.out, if_pos (by simp)]
            clear hsm hstep hEE hRF
            by_cases hs7 : 2147483647 - p2 < (n2 : Int)
            · go_wp2_with fail
              go_ret2
              rw [hE.out, hRF2.out]
              exact ⟨_, rfl, .inl ⟨by simp, rfl⟩, B6.out⟩
            · have hs8 : (0 : Int) < (i : Int) := by omega
              have hs9 : (n2 : Int) < (st : Int) := by omega
              go_wp2_with fail
              go_ret2
              rw [hE.out, hRF2.out]
              exact ⟨_, rfl, .inl ⟨by simp, rfl⟩, B6.out⟩
          rw [if_neg hbad2] at hEE
          have hs7 : ¬ 2147483647 - p2 < (n2 : Int) := by omega
          have hs8 : ¬ (0 : Int) < (i : Int) ∨ ¬ (n2 : Int) < (st : Int) := by omega
          have hE0 := hide hEE.out
          rw [hEE.out, if_neg (by simp)] at hstep
          have hw7 : IntKind.i64.wrap (n1 : Int) = (n1 : Int) := by rw [IntKind.wrap_i64]; omega
          have hw8 : IntKind.i64.wrap (n2 : Int) = (n2 : Int) := by rw [IntKind.wrap_i64]; omega
          have hw9 : IntKind.i64.wrap (p1 + (n1 : Int)) = p1 + (n1 : Int) := by rw [IntKind.wrap_i64]; omega
          have hw10 : IntKind.i64.wrap (p2 + (n2 : Int)) = p2 + (n2 : Int) := by rw [IntKind.wrap_i64]; omega
          obtain ⟨aov, cav, rfl, q1, q2⟩ := A6.out.row.form
          simp only at q2
          rw [show (⟨st, li, lastE li⟩ : X).l.length = i from hleni] at A6 d1
          rw [hleni] at q2 hlen'
          have hWo : Hid (∀ j, (Value.slice aov i cav).ownBlock = some j → qb < j) := by have := hW.out.own; rw [show (⟨st, li, lastE li⟩ : X).l.length = i from hleni] at this; exact this
          have hWb := hW.out.bq
          have hWl := hW.out.lo
          have hWs := hide hW.out.srt
          have hL := hide (A6.out.setLa (by decide) (p1 + (n1 : Int)) (p2 + (n2 : Int)))
          have hBl := hide (but_la w6 b (.int .i64 (p1 + (n1 : Int))) (.int .i64 (p2 + (n2 : Int))) (.slice aov i cav))
          simp only at hL
          clear hW hsm
          go_upto_region 25 with fail
          go_cut [120] from 103 to 119 (fun y wx => y = .bool false ∧ w6 = wx)
          case first =>
            rcases hs8 with hs8 | hs8
            · go_wp2_with fail
              go_meet
              case rel => exact ⟨by rw [decide_eq_false (by omega)], rfl⟩
            · by_cases hs9 : (0 : Int) < (i : Int)
              · go_wp2_with fail
                go_meet
                case rel => exact ⟨by rw [decide_eq_false (by omega), decide_eq_false (by omega)]; rfl, rfl⟩
              · go_wp2_with fail
                go_meet
                case rel => exact ⟨by rw [decide_eq_false (by omega)], rfl⟩
          case rest =>
            obtain ⟨rfl, rfl⟩ := hcut
            clear hs8
            go_upto_region 27 with fail
            go_cut [] from 121 to 140 (fun wx => Hid (At TR wx b ⟨st, li, (p1 + (n1 : Int), p2 + (n2 : Int))⟩ (.slice aov i cav) ∧ But (Own b (.slice aov i cav)) w6 wx))
            case first =>
              go_region
              all_goals
                go_wp2_with fail
                go_meet
                case rel => exact ⟨hL.out.below (Below.refl _ _).drew, hBl.out.trans (But.of_below (Below.refl _ _).drew _)⟩
            case rest =>
              have AC := hide hcut.out.1
              have BC := hide hcut.out.2
              clear hL hBl hcut d0 d1 d2 d3 f0 f1 f2 f3 hw7 hw8 hw9 hw10 c1 c2
              obtain ⟨a1, ha1⟩ : ∃ a1, Hid (p1 + (n1 : Int) = a1) := ⟨_, rfl⟩
              obtain ⟨a2, ha2⟩ : ∃ a2, Hid (p2 + (n2 : Int) = a2) := ⟨_, rfl⟩
              rw [ha1.out, ha2.out] at AC hEV1
              obtain ⟨d0, d1, d2, d3⟩ := AC.out.cells
              obtain ⟨f0, f1, f2, f3⟩ := AC.out.frozen
              simp only at d0 d2 d3
              obtain ⟨ii, hi', hz0, hz1, hz2⟩ := info_parts infoEnt
              have ROW : Hid (wc.ownsRow 0 35 2 (.slice aov i cav) i (ecells li)) := by have := AC.out.row; unfold Ents at this; simp only at this; rw [hleni] at this; exact this
              have hbl2 : b < wc.heap.size := lt_of_cell d0
              go_wp2_with fail
              go_region_law (first | (refine step_append_lies _ rfl (.tmp 145) (.tmp 150) 36 rfl 0 35 ii (.agg #[.int .i64 0, .int .i64 0]) 2 16 Try.underlying36 hi' hz0 hz1 hz2 rfl (by decide) (.slice aov i cav) i (ecells li) (by simp [Act.eval]) (ROW.out.alloc _) ⟨wc.heap.size, 0, none⟩ 1 1 [.int .i64 a1, .int .i64 a2] (by simp [Act.eval]) rfl (two_newE _ _ _ _) (by simp [Value.oneCell']) (by decide) (by unfold maxLen; omega) (by omega) (Nat.zero_le _) (wc.heap.size + 1) (by simp) ?_; intro g2 cap2 w7 hown3 hgrow3 hat hlt3; obtain ⟨F1, F2, F3, F4⟩ := At.app AC.out (by decide) (by first | exact (box_below wc _).drew | exact (box_below wc.drew _) | exact box_below wc _) hgrow3 (by simp only; rw [hleni]; exact hown3) (hat_of hat (by omega)); have cc3 := (show w7.cell? ⟨b, 1, none⟩ = some (.slice aov i cav) by simp [World.cell?, F1]); have ff3 := (show w7.frozen? ⟨b, 1, none⟩ = false by simp [World.frozen?, F1])))
              all_goals
                clear d0 d1 d2 d3 f0 f1 f2 f3 cc3 ff3 F1 hown3 hgrow3 hat hlt3 ROW hbl2
                simp only at F2
                replace F3 := hide F3
                replace F4 := hide F4
                replace F2 := hide F2
                generalize w7.setCell ⟨b, 1, none⟩ (.slice (some ⟨g2, 0, none⟩) (i + 1) cap2) = w8 at *
                go_wp2_with fail
                go_roundg (c - (i + 1))
                case measure => omega
                case rel =>
                  have hBB := BC.out.trans F3.out
                  have hOw : ∀ j, Own b (.slice aov i cav) j → qb < j := by
                    rintro j (e | e)
                    · rw [e]; exact hWb
                    · exact hWo.out j e
                  refine ⟨i + 1, .slice (some ⟨g2, 0, none⟩) (i + 1) cap2, li ++ [entV (lastE li) (M.drop k')], k4, by omega, Nat.le_refl _, by go_num, ?_⟩
                  refine ⟨by rw [lastE_snoc, hEV1.out]; exact F2.out, rf_own R6.out hOw hBB, ent_ok hWs.out hE0.out, by rw [List.length_append, hleni]; rfl, by rw [lastE_snoc, hr4.out]; exact hstep.out, B6.out.trans (hBB.below B6.out.size fun j hj => by have := hOw j hj; omega), hWl, lq, hWb, fun j hj => ?_⟩
                  rcases F4.out j hj with h | h
                  · exact hWo.out j h
                  · have := R6.out.lt
                    have := BC.out.size
                    omega
        · obtain rfl : i = c := by omega
          have hli : ¬ (i : Int) < (i : Int) := by omega
          have hsm := hW.out.same
          rw [Nat.sub_self, loadL] at hsm
          have hkl2 : k' ≤ M.length := by obtain ⟨_, _, _, h, _⟩ := hW.out.rd; exact h
          rw [htl.out] at hkl2
          replace hsm := hide hsm
          by_cases hz : (k' : Int) < (k : Int)
          · have hRF2 : Hid (readF M = (4, zX)) := by
              show _ = _
              rw [hRF.out, ← hsm.out, if_neg (by simp), if_pos]
              intro e
              have := congrArg List.length e
              rw [List.length_drop, htl.out] at this
              simp at this
              omega
            go_wp2_with fail
            go_ret2
            rw [hE.out, hRF2.out]
            exact ⟨_, rfl, .inl ⟨by simp, rfl⟩, hW.out.bel⟩
          · have hRF2 : Hid (readF M = (0, ⟨st, li, lastE li⟩)) := by
              show _ = _
              rw [hRF.out, ← hsm.out, if_neg (by simp), if_neg]
              refine fun e => e ?_
              rw [List.drop_eq_nil_iff, htl.out]
              omega
            go_wp2_with fail
            go_ret2
            rw [hE.out, hRF2.out]
            exact ⟨_, rfl, .inr ⟨rfl, b, v, rfl, hW.out.lo, hW.out.at0, fun j hj => by have := hW.out.own j hj; omega⟩, hW.out.bel⟩
#print axioms refLoad_any
end Go.Proofs.Ytoffahbnffhliaa.Ix
