/-
  The document's Copy and Roll.
-/
import Derived.Test.YtdhjlongdfgejaaCtV
import Derived.Test.YtdhjlongdfgejaaCtH
import Derived.Test.YtdhjlongdfgejaaCtL
namespace Go.Proofs.Ytdhjlongdfgejaa.Ct
open Go.RowKit

set_option maxHeartbeats 1000000 in
theorem refCopy_any (w : World) (g fi : Int) (v : Value) (l : List Sg) (hv : Sgs w v l) (h1 : 1 ≤ l.length) (hl : l.length ≤ 100) :
    Calls Try.prog 38 #[.agg #[.int .i64 g, .int .i64 fi, v]] w fun e w' => ∃ v', e = .returned (.agg #[.int .i64 g, .int .i64 fi, v']) ∧ Own w.heap.size w' v' l ∧ Below w.heap.size w w' := by
  obtain ⟨N, hN⟩ : ∃ N, Hid (l.length = N) := ⟨_, rfl⟩
  obtain ⟨b, off, ca, rfl, q1, q2, hc⟩ := hv.at h1
  have hB0 := hide (box_below w (.cells #[.int .i64 g, .int .i64 fi, .slice (some ⟨b, off, none⟩) l.length ca] 29))
  have hB := hide (keepF hB0.out (box_below _ (.cells #[.int .i64 0, .int .i64 0, .slice none 0 0] 29)))
  have hb1 : Hid (((w.alloc (.cells #[.int .i64 g, .int .i64 fi, .slice (some ⟨b, off, none⟩) l.length ca] 29)).alloc (.cells #[.int .i64 0, .int .i64 0, .slice none 0 0] 29)).heap[w.heap.size]? = some (.cells #[.int .i64 g, .int .i64 fi, .slice (some ⟨b, off, none⟩) l.length ca] 29 (0, 0))) := by
    show _ = _
    rw [(box_below _ _).block w.heap.size (by simp), heap_alloc_new]
  have hb2 : Hid (((w.alloc (.cells #[.int .i64 g, .int .i64 fi, .slice (some ⟨b, off, none⟩) l.length ca] 29)).alloc (.cells #[.int .i64 0, .int .i64 0, .slice none 0 0] 29)).heap[w.heap.size + 1]? = some (.cells #[.int .i64 0, .int .i64 0, .slice none 0 0] 29 (0, 0))) := by
    show _ = _
    have := heap_alloc_new (w.alloc (.cells #[.int .i64 g, .int .i64 fi, .slice (some ⟨b, off, none⟩) l.length ca] 29)) (.cells #[.int .i64 0, .int .i64 0, .slice none 0 0] 29)
    simpa using this
  have HN := hide (hv.below hB.out).news
  have hcl := hide (scells_len l)
  have hA := hide hv.1
  obtain ⟨i0, hi, hz0, hz1, hz2⟩ := info_parts infoSeg
  rw [hN.out] at hB hb1 hb2 HN hcl hl q1 ⊢
  clear hv hc hB0
  go_enter Try.func38, Try.ntmps38
  go_upto_region 1 with fail
  generalize ((w.alloc (.cells #[.int .i64 g, .int .i64 fi, .slice (some ⟨b, off, none⟩) N ca] 29)).alloc (.cells #[.int .i64 0, .int .i64 0, .slice none 0 0] 29)) = w1 at *
  obtain ⟨c0, c1, c2⟩ := three_cells hb1.out
  go_upto_region 2 with (at_builtin; refine wpList_append_own_at _ rfl (.const (.slice none 0 0)) (.tmp 4) 27 rfl w.heap.size 53 i0 (.agg #[.int .i64 0, .int .i64 0, .int .u32 0, .int .i64 0, .int .i64 0]) 5 40 Try.underlying27 hi hz0 hz1 hz2 rfl (by decide) (.slice none 0 0) 0 [] rfl (World.ownsRow_nil _ _ _ _) ⟨b, off, none⟩ N ca (scells l) rfl hcl.out HN.out (scells_one l) (by unfold maxLen; omega) (by omega) hB.out.size ?_; intro v' w2 hown hgr hnil hat; rw [List.nil_append, Nat.zero_add] at hown; have O2 : Hid (Own w.heap.size w2 v' l) := ⟨hA.out, by rw [hN.out]; exact hown⟩; obtain ⟨aon, can, ex, _, _⟩ := O2.out.form; rw [hN.out] at ex; subst ex; have e1 : Hid (w2.heap[w.heap.size]? = some (.cells #[.int .i64 g, .int .i64 fi, .slice (some ⟨b, off, none⟩) N ca] 29 (0, 0))) := hide (by rw [hgr.block _ (heap_lt hb1.out) (by simp [Value.ownBlock])]; exact hb1.out); have e2 : Hid (w2.heap[w.heap.size + 1]? = some (.cells #[.int .i64 0, .int .i64 0, .slice none 0 0] 29 (0, 0))) := hide (by rw [hgr.block _ (heap_lt hb2.out) (by simp [Value.ownBlock])]; exact hb2.out); obtain ⟨m0, m1, m2⟩ := three_cells e1.out; obtain ⟨n0, n1, n2⟩ := three_frozen e1.out; have B2 := hide (Below.grown hB.out hgr hB.out.size (fun k hk => by simp [Value.ownBlock] at hk)); clear hown hgr hnil hat)
  have e3 : Hid ((w2.setCell ⟨w.heap.size, 2, none⟩ (.slice aon N can)).heap[w.heap.size]? = some (.cells #[.int .i64 g, .int .i64 fi, .slice aon N can] 29 (0, 0))) := by show _ = _; rw [heap_setCell_same _ _ _ _ _ _ e1.out]; simp
  have e4 : Hid ((w2.setCell ⟨w.heap.size, 2, none⟩ (.slice aon N can)).heap[w.heap.size + 1]? = some (.cells #[.int .i64 0, .int .i64 0, .slice none 0 0] 29 (0, 0))) := by show _ = _; rw [heap_setCell_other _ _ _ _ (by show w.heap.size + 1 ≠ w.heap.size; omega)]; exact e2.out
  have O3 : Hid (Own w.heap.size (w2.setCell ⟨w.heap.size, 2, none⟩ (.slice aon N can)) (.slice aon N can) l) := ⟨O2.out.1, ownsRow_setCell_other O2.out.2 (O2.out.no e1.out (by decide)) _⟩
  have B3 := hide (B2.out.setCell (p := ⟨w.heap.size, 2, none⟩) (Nat.le_refl _) (.slice aon N can))
  generalize w2.setCell ⟨w.heap.size, 2, none⟩ (.slice aon N can) = w3 at *
  clear m0 m1 m2 n0 n1 n2 c0 c1 c2 e1 e2 O2 B2
  obtain ⟨c0, c1, c2⟩ := three_cells e3.out
  obtain ⟨d0, d1, d2⟩ := three_cells e4.out
  obtain ⟨f0, f1, f2⟩ := three_frozen e4.out
  have F := hide (three_cells (put3_heap e4.out (.int .i64 g) (.int .i64 fi) (.slice aon N can)))
  have BF := hide (put3_below B3.out (Nat.le_succ _) (.int .i64 g) (.int .i64 fi) (.slice aon N can))
  have OF := hide (O3.out.put3 e4.out (by decide) (.int .i64 g) (.int .i64 fi) (.slice aon N can))
  go_wp2_with fail
  show bodyPost _ _ _ _ _ (put3 w3 (w.heap.size + 1) (.int .i64 g) (.int .i64 fi) (.slice aon N can))
  generalize put3 w3 (w.heap.size + 1) (.int .i64 g) (.int .i64 fi) (.slice aon N can) = w5 at *
  obtain ⟨k0, k1, k2⟩ := F.out
  refine bodyPost_ret (by simp [results, Try.results38, go_sem, k0, k1, k2]; rfl) rfl ?_
  exact ⟨_, rfl, OF.out, BF.out⟩
#print axioms refCopy_any
/-- One cell of a list of one's own is written. -/
theorem Own.stored {B : Nat} {w : World} {b n ca : Nat} {l l' : List Sg} (h : Own B w (.slice (some ⟨b, 0, none⟩) n ca) l) (hn : l.length = n) (j : Nat) (x : Value) (hl : (scells l).set j x = scells l') (hi : AIn l') (hn' : l'.length = n) : Own B (w.setCell ⟨b, j, none⟩ x) (.slice (some ⟨b, 0, none⟩) n ca) l' := by
  have h2 := h.2
  rw [hn] at h2
  have := (World.ownsRow.stored h2 j x).1
  rw [hl] at this
  exact ⟨hi, by rw [hn']; exact this⟩
theorem set_end (T : List Sg) (s : Sg) (j : Nat) (x : Value) (s' : Sg) (h : (scell s).set j x = scell s') : (scells (T ++ [s])).set (T.length * 5 + j) x = scells (T ++ [s']) := by
  rw [scells_append, scells_append, List.set_append_right _ _ (by rw [scells_len]; omega), scells_len, Nat.add_sub_cancel_left]
  simp only [scells, List.flatMap_cons, List.flatMap_nil, List.append_nil]
  rw [h]
set_option maxRecDepth 20000 in
set_option maxHeartbeats 4000000 in
theorem refRoll_any : DoesRoll 17 := by
  intro w g fi v l en sz se hv hg n1 n2 n3 n4 n5
  obtain ⟨N, hN⟩ : ∃ N, Hid (l.length = N) := ⟨_, rfl⟩
  obtain ⟨ao, ca, rfl, q1, q2⟩ := hv.form
  rw [hN.out] at hv q1 ⊢
  have hB0 := hide (box_below w (.cells #[.int .i64 g, .int .i64 fi, .slice ao N ca] 29))
  have hB := hide (keepF hB0.out (box_below _ (.cells #[.int .i64 0, .int .i64 0, .slice none 0 0] 29)))
  have CALL := hide (refMay_any _ g fi _ l (hv.below hB.out))
  have hb1 : Hid (((w.alloc (.cells #[.int .i64 g, .int .i64 fi, .slice ao N ca] 29)).alloc (.cells #[.int .i64 0, .int .i64 0, .slice none 0 0] 29)).heap[w.heap.size]? = some (.cells #[.int .i64 g, .int .i64 fi, .slice ao N ca] 29 (0, 0))) := by
    show _ = _
    rw [(box_below _ _).block w.heap.size (by simp), heap_alloc_new]
  have hb2 : Hid (((w.alloc (.cells #[.int .i64 g, .int .i64 fi, .slice ao N ca] 29)).alloc (.cells #[.int .i64 0, .int .i64 0, .slice none 0 0] 29)).heap[w.heap.size + 1]? = some (.cells #[.int .i64 0, .int .i64 0, .slice none 0 0] 29 (0, 0))) := by
    show _ = _
    have := heap_alloc_new (w.alloc (.cells #[.int .i64 g, .int .i64 fi, .slice ao N ca] 29)) (.cells #[.int .i64 0, .int .i64 0, .slice none 0 0] 29)
    simpa using this
  clear hB0
  by_cases hm : ¬ May g fi l
  · rw [mayB_f hm] at CALL
    have hE : Hid (rollF g fi l en sz se = (4, 0, 0, [])) := by show _ = _; unfold rollF; rw [if_pos hm]
    clear hv hm
    go_enter Try.func17, Try.ntmps17
    go_wp2_with fail
    refine CALL.out.mono ?_
    rintro e w2 ⟨rfl, b2⟩
    have B2 := hide (keepF hB.out b2)
    have r2 : Hid (w2.heap[w.heap.size + 1]? = some (.cells #[.int .i64 0, .int .i64 0, .slice none 0 0] 29 (0, 0))) := by show _ = _; rw [b2.block _ (heap_lt hb2.out)]; exact hb2.out
    obtain ⟨d0, d1, d2⟩ := three_cells r2.out
    obtain ⟨f0, f1, f2⟩ := three_frozen r2.out
    have F := hide (three_cells (put3_heap r2.out (.int .i64 0) (.int .i64 0) (.slice none 0 0)))
    have BF := hide (put3_below B2.out (Nat.le_succ _) (.int .i64 0) (.int .i64 0) (.slice none 0 0))
    clear b2 CALL
    go_wp2_with fail
    show bodyPost _ _ _ _ _ (put3 w2 (w.heap.size + 1) (.int .i64 0) (.int .i64 0) (.slice none 0 0))
    generalize put3 w2 (w.heap.size + 1) (.int .i64 0) (.int .i64 0) (.slice none 0 0) = w5 at *
    obtain ⟨k0, k1, k2⟩ := F.out
    refine bodyPost_ret (by simp [results, Try.results17, go_sem, k0, k1, k2]; rfl) rfl ?_
    rw [hE.out]
    exact ⟨_, rfl, Own.nil _ _, BF.out⟩
  replace hm := Classical.not_not.1 hm
  rw [mayB_t hm] at CALL
  have HM := hide hm
  have HV := hide hv
  obtain ⟨b, off, ca', e, _, _, hc⟩ := hv.at hm.n1
  rw [hN.out] at e hc
  simp only [Value.slice.injEq, true_and] at e
  obtain ⟨rfl, rfl⟩ := e
  have hn1 := hm.n1
  have hn2 := hm.n2
  have hA := hide hv.1
  rw [hN.out] at hn1 hn2
  have HC := hide hc
  clear hv hm hc
  by_cases h64 : N = 64
  · subst h64
    have hE : Hid (rollF g fi l en sz se = (9, 0, 0, [])) := by show _ = _; unfold rollF; rw [if_neg (fun c => c HM.out), if_pos hN.out]
    go_enter Try.func17, Try.ntmps17
    go_wp2_with fail
    refine CALL.out.mono ?_
    rintro e w2 ⟨rfl, b2⟩
    have B2 := hide (keepF hB.out b2)
    have r2 : Hid (w2.heap[w.heap.size + 1]? = some (.cells #[.int .i64 0, .int .i64 0, .slice none 0 0] 29 (0, 0))) := by show _ = _; rw [b2.block _ (heap_lt hb2.out)]; exact hb2.out
    obtain ⟨c0, c1, c2⟩ := three_cells (show w2.heap[w.heap.size]? = _ by rw [b2.block _ (heap_lt hb1.out)]; exact hb1.out)
    obtain ⟨d0, d1, d2⟩ := three_cells r2.out
    obtain ⟨f0, f1, f2⟩ := three_frozen r2.out
    have F := hide (three_cells (put3_heap r2.out (.int .i64 0) (.int .i64 0) (.slice none 0 0)))
    have BF := hide (put3_below B2.out (Nat.le_succ _) (.int .i64 0) (.int .i64 0) (.slice none 0 0))
    clear b2 CALL
    go_wp2_with fail
    show bodyPost _ _ _ _ _ (put3 w2 (w.heap.size + 1) (.int .i64 0) (.int .i64 0) (.slice none 0 0))
    generalize put3 w2 (w.heap.size + 1) (.int .i64 0) (.int .i64 0) (.slice none 0 0) = w5 at *
    obtain ⟨k0, k1, k2⟩ := F.out
    refine bodyPost_ret (by simp [results, Try.results17, go_sem, k0, k1, k2]; rfl) rfl ?_
    rw [hE.out]
    exact ⟨_, rfl, Own.nil _ _, BF.out⟩
  obtain ⟨M, rfl⟩ : ∃ M, N = M + 1 := ⟨N - 1, by omega⟩
  have hlast : Hid (sg l M = lastS l) := by show _ = _; rw [lastS, hN.out]; rfl
  have hop := HM.out.op
  have hLA := hA.out.sg M
  have hLS := HC.out M (by omega)
  rw [hN.out, Nat.add_sub_cancel] at hop
  have hRIN : Hid ((lastS l).nm < 9223372036854775807 → AIn (rolled l en sz se)) := fun c => rolled_in hA.out c n1 n2 n3 n4 n5
  have hTR : Hid (rolled l en sz se = l.take M ++ [⟨(lastS l).nm, (lastS l).ba, (lastS l).se, en, sz⟩, ⟨(lastS l).nm + 1, en, se, 0, 0⟩]) := by show _ = _; unfold rolled; rw [hN.out]; rfl
  rw [hlast.out] at hop hLA hLS
  have hE : Hid (rollF g fi l en sz se = if g = 9223372036854775807 ∨ (lastS l).nm = 9223372036854775807 then (1, 0, 0, []) else @ite _ (¬ May (g + 1) fi (rolled l en sz se)) (Classical.propDecidable _) (1, 0, 0, []) (0, g + 1, fi, rolled l en sz se)) := by
    show _ = _
    unfold rollF
    rw [if_neg (fun c => c HM.out), if_neg (by rw [hN.out]; exact h64)]
    by_cases c : g = 9223372036854775807 ∨ (lastS l).nm = 9223372036854775807
    · rw [if_pos c, if_pos c]
    · rw [if_neg c, if_neg c]
      by_cases d : ¬ May (g + 1) fi (rolled l en sz se)
      · rw [if_pos d, if_pos d]
      · rw [if_neg d, if_neg d]
  generalize lastS l = la at *
  obtain ⟨nm, ba, so, en0, sz0⟩ := la
  dsimp only at hE hTR hRIN hlast
  obtain ⟨o1, o2, o3⟩ := hop
  obtain ⟨rfl, rfl⟩ : en0 = 0 ∧ sz0 = 0 := by
    refine ⟨Classical.byContradiction fun c => o3 (.inl c), Classical.byContradiction fun c => o3 (.inr c)⟩
  have o4 := hLA.a2
  dsimp only at o1 o2 o4
  have hw0 : IntKind.i64.wrap (M : Int) = (M : Int) := by rw [IntKind.wrap_i64]; omega
  have hM64 : ¬ (M : Int) + 1 = 64 := by omega
  have hM64' : ((M : Int) + 1 == 64) = false := by simpa using hM64
  have hMlt : (M : Int) < (M : Int) + 1 := by omega
  have hg1 := HM.out.g1
  clear o3 hLA h64
  by_cases hx : g = 9223372036854775807 ∨ nm = 9223372036854775807
  · rw [if_pos hx] at hE
    go_enter Try.func17, Try.ntmps17
    go_wp2_with fail
    refine CALL.out.mono ?_
    rintro e w2 ⟨rfl, b2⟩
    have B2 := hide (keepF hB.out b2)
    have hBS := hide (box_below w2 (.cells #[.int .i64 nm, .int .i64 ba, .int .u32 (so : Int), .int .i64 0, .int .i64 0] 53))
    have r2 : Hid (w2.heap[w.heap.size + 1]? = some (.cells #[.int .i64 0, .int .i64 0, .slice none 0 0] 29 (0, 0))) := by show _ = _; rw [b2.block _ (heap_lt hb2.out)]; exact hb2.out
    have r3 : Hid ((w2.alloc (.cells #[.int .i64 nm, .int .i64 ba, .int .u32 (so : Int), .int .i64 0, .int .i64 0] 53)).heap[w.heap.size + 1]? = some (.cells #[.int .i64 0, .int .i64 0, .slice none 0 0] 29 (0, 0))) := by show _ = _; rw [hBS.out.block _ (heap_lt r2.out)]; exact r2.out
    have r4 : Hid (w2.heap[w.heap.size]? = some (.cells #[.int .i64 g, .int .i64 fi, .slice (some ⟨b, off, none⟩) (M + 1) ca] 29 (0, 0))) := by show _ = _; rw [b2.block _ (heap_lt hb1.out)]; exact hb1.out
    obtain ⟨c0, c1, c2⟩ := three_cells r4.out
    obtain ⟨z0, z1, z2⟩ := three_cells (show (w2.alloc (.cells #[.int .i64 nm, .int .i64 ba, .int .u32 (so : Int), .int .i64 0, .int .i64 0] 53)).heap[w.heap.size]? = _ by rw [hBS.out.block _ (heap_lt r4.out)]; exact r4.out)
    obtain ⟨k0, k1, k2, k3, k4⟩ := hLS.below B2.out
    dsimp only at k0 k1 k2 k3 k4
    obtain ⟨y0, y1, y2, y3, y4⟩ := five_cells (heap_alloc_new w2 (.cells #[.int .i64 nm, .int .i64 ba, .int .u32 (so : Int), .int .i64 0, .int .i64 0] 53))
    obtain ⟨d0, d1, d2⟩ := three_cells r3.out
    obtain ⟨f0, f1, f2⟩ := three_frozen r3.out
    have F := hide (three_cells (put3_heap r3.out (.int .i64 0) (.int .i64 0) (.slice none 0 0)))
    have BF := hide (put3_below (keepF B2.out hBS.out) (Nat.le_succ _) (.int .i64 0) (.int .i64 0) (.slice none 0 0))
    clear b2 CALL hLS
    go_upto_region 7 with fail
    generalize w2.alloc (.cells #[.int .i64 nm, .int .i64 ba, .int .u32 (so : Int), .int .i64 0, .int .i64 0] 53) = w3 at *
    generalize w2.heap.size = ob at *
    clear k0 k1 k2 k3 k4 c0 c1 c2
    by_cases h3 : g = 9223372036854775807
    · subst h3
      go_wp2_with fail
      show bodyPost _ _ _ _ _ (put3 w3 (w.heap.size + 1) (.int .i64 0) (.int .i64 0) (.slice none 0 0))
      generalize put3 w3 (w.heap.size + 1) (.int .i64 0) (.int .i64 0) (.slice none 0 0) = w5 at *
      obtain ⟨k0, k1, k2⟩ := F.out
      refine bodyPost_ret (by simp [results, Try.results17, go_sem, k0, k1, k2]; rfl) rfl ?_
      rw [hE.out]
      exact ⟨_, rfl, Own.nil _ _, BF.out⟩
    · have h4 : nm = 9223372036854775807 := hx.resolve_left h3
      have h3' : (g == 9223372036854775807) = false := by simpa using h3
      subst h4
      go_wp2_with fail
      show bodyPost _ _ _ _ _ (put3 w3 (w.heap.size + 1) (.int .i64 0) (.int .i64 0) (.slice none 0 0))
      generalize put3 w3 (w.heap.size + 1) (.int .i64 0) (.int .i64 0) (.slice none 0 0) = w5 at *
      obtain ⟨k0, k1, k2⟩ := F.out
      refine bodyPost_ret (by simp [results, Try.results17, go_sem, k0, k1, k2]; rfl) rfl ?_
      rw [hE.out]
      exact ⟨_, rfl, Own.nil _ _, BF.out⟩
  · rw [if_neg hx] at hE
    have h3 : ¬ g = 9223372036854775807 := fun c => hx (.inl c)
    have h4 : ¬ nm = 9223372036854775807 := fun c => hx (.inr c)
    have h3' : (g == 9223372036854775807) = false := by simpa using h3
    have h4' : (nm == 9223372036854775807) = false := by simpa using h4
    have hwg : IntKind.i64.wrap (g + 1) = g + 1 := by rw [IntKind.wrap_i64]; omega
    have hwn : IntKind.i64.wrap (nm + 1) = nm + 1 := by rw [IntKind.wrap_i64]; omega
    have hRin := hide (hRIN.out (by omega))
    clear hx hRIN
    go_enter Try.func17, Try.ntmps17
    go_wp2_with fail
    refine CALL.out.mono ?_
    rintro e w2 ⟨rfl, b2⟩
    have B2 := hide (keepF hB.out b2)
    have hBS := hide (box_below w2 (.cells #[.int .i64 nm, .int .i64 ba, .int .u32 (so : Int), .int .i64 0, .int .i64 0] 53))
    have r1 : Hid (w2.heap[w.heap.size]? = some (.cells #[.int .i64 g, .int .i64 fi, .slice (some ⟨b, off, none⟩) (M + 1) ca] 29 (0, 0))) := by show _ = _; rw [b2.block _ (heap_lt hb1.out)]; exact hb1.out
    have r2 : Hid (w2.heap[w.heap.size + 1]? = some (.cells #[.int .i64 0, .int .i64 0, .slice none 0 0] 29 (0, 0))) := by show _ = _; rw [b2.block _ (heap_lt hb2.out)]; exact hb2.out
    have s1 : Hid ((w2.alloc (.cells #[.int .i64 nm, .int .i64 ba, .int .u32 (so : Int), .int .i64 0, .int .i64 0] 53)).heap[w.heap.size]? = some (.cells #[.int .i64 g, .int .i64 fi, .slice (some ⟨b, off, none⟩) (M + 1) ca] 29 (0, 0))) := by show _ = _; rw [hBS.out.block _ (heap_lt r1.out)]; exact r1.out
    have s2 : Hid ((w2.alloc (.cells #[.int .i64 nm, .int .i64 ba, .int .u32 (so : Int), .int .i64 0, .int .i64 0] 53)).heap[w.heap.size + 1]? = some (.cells #[.int .i64 0, .int .i64 0, .slice none 0 0] 29 (0, 0))) := by show _ = _; rw [hBS.out.block _ (heap_lt r2.out)]; exact r2.out
    have s3 := hide (heap_alloc_new w2 (.cells #[.int .i64 nm, .int .i64 ba, .int .u32 (so : Int), .int .i64 0, .int .i64 0] 53))
    have B3 := hide (keepF B2.out hBS.out)
    obtain ⟨c0, c1, c2⟩ := three_cells r1.out
    obtain ⟨k0, k1, k2, k3, k4⟩ := hLS.below B2.out
    dsimp only at k0 k1 k2 k3 k4
    clear b2 CALL hLS r1 r2
    go_upto_region 7 with fail
    generalize w2.alloc (.cells #[.int .i64 nm, .int .i64 ba, .int .u32 (so : Int), .int .i64 0, .int .i64 0] 53) = w3 at *
    generalize w2.heap.size = ob at *
    clear k0 k1 k2 k3 k4 c0 c1 c2 hBS B2
    obtain ⟨c0, c1, c2⟩ := three_cells s1.out
    obtain ⟨y0, y1, y2, y3, y4⟩ := five_cells s3.out
    have CP := hide (refCopy_any w3 g fi _ l (HV.out.below B3.out) (by rw [hN.out]; omega) (by rw [hN.out]; omega))
    go_wp2_with fail
    refine CP.out.mono ?_
    rintro e w4 ⟨vd, rfl, O4, b4⟩
    obtain ⟨ao4, ca4, ex, _, _⟩ := O4.form
    rw [hN.out] at ex
    subst ex
    have X4 := hide (box_below w4 (.cells #[.int .i64 g, .int .i64 fi, .slice ao4 (M + 1) ca4] 29))
    have b45 := hide (keepF b4 X4.out)
    have d5 := hide (heap_alloc_new w4 (.cells #[.int .i64 g, .int .i64 fi, .slice ao4 (M + 1) ca4] 29))
    have O5 := hide ((O4.low (B' := w.heap.size) B3.out.size).below X4.out)
    have B5 := hide (keepF B3.out b45.out)
    have s5 : Hid ((w4.alloc (.cells #[.int .i64 g, .int .i64 fi, .slice ao4 (M + 1) ca4] 29)).heap[w.heap.size + 1]? = some (.cells #[.int .i64 0, .int .i64 0, .slice none 0 0] 29 (0, 0))) := by show _ = _; rw [b45.out.block _ (heap_lt s2.out)]; exact s2.out
    have t5 : Hid ((w4.alloc (.cells #[.int .i64 g, .int .i64 fi, .slice ao4 (M + 1) ca4] 29)).heap[ob]? = some (.cells #[.int .i64 nm, .int .i64 ba, .int .u32 (so : Int), .int .i64 0, .int .i64 0] 53 (0, 0))) := by show _ = _; rw [b45.out.block _ (heap_lt s3.out)]; exact s3.out
    have hob : Hid (∀ k, Value.ownBlock (.slice ao4 (M + 1) ca4) = some k → k ≠ ob) := fun k hk e => by have := (O4.lt k hk).1; have := heap_lt s3.out; omega
    have hdz : Hid (w.heap.size + 1 ≠ w4.heap.size) := by have := heap_lt s2.out; have := b4.size; show _ ≠ _; omega
    have hdo : Hid (w.heap.size ≤ w4.heap.size) := by have := heap_lt s2.out; have := b4.size; show _ ≤ _; omega
    clear O4 b4 b45 X4 CP s1 s2 s3 c0 c1 c2 y0 y1 y2 y3 y4
    go_upto_region 10 with fail
    generalize w4.alloc (.cells #[.int .i64 g, .int .i64 fi, .slice ao4 (M + 1) ca4] 29) = w5 at *
    generalize w4.heap.size = db at *
    obtain ⟨T, hT⟩ : ∃ T, Hid (l.take M = T) := ⟨_, rfl⟩
    have hTl : Hid (T.length = M) := by show _ = _; rw [← hT.out, List.length_take, hN.out]; omega
    have hLT : Hid (l = T ++ [⟨nm, ba, so, 0, 0⟩]) := by
      show _ = _
      have hix : M < l.length := by rw [hN.out]; omega
      rw [← hT.out, ← hlast.out, sg_get hix]
      have e2 := List.take_succ_eq_append_getElem hix
      rw [show M + 1 = l.length by rw [hN.out], List.take_length] at e2
      exact e2
    have hS0 : Hid (SIn ⟨nm, ba, so, 0, 0⟩) := by have := hA.out.sg M; rw [hlast.out] at this; exact this
    have hTA : Hid (AIn T) := by rw [← hT.out]; exact hA.out.take M
    have hA1 : Hid (AIn (T ++ [⟨nm, ba, so, en, 0⟩])) := fun x hx => by
      rcases List.mem_append.1 hx with h | h
      · exact hTA.out x h
      · simp only [List.mem_singleton] at h
        subst h
        exact ⟨hS0.out.a1, hS0.out.a2, hS0.out.b1, hS0.out.b2, hS0.out.c, n1, n2, hS0.out.e1, hS0.out.e2⟩
    have hA2 : Hid (AIn (T ++ [⟨nm, ba, so, en, sz⟩])) := fun x hx => by
      rcases List.mem_append.1 hx with h | h
      · exact hTA.out x h
      · simp only [List.mem_singleton] at h
        subst h
        exact ⟨hS0.out.a1, hS0.out.a2, hS0.out.b1, hS0.out.b2, hS0.out.c, n1, n2, n3, n4⟩
    rw [hT.out] at hTR
    obtain ⟨R, hR⟩ : ∃ R, Hid (rolled l en sz se = R) := ⟨_, rfl⟩
    rw [hR.out] at hE hTR hRin
    rw [hLT.out] at O5
    obtain ⟨lb, rfl⟩ : ∃ lb, ao4 = some ⟨lb, 0, none⟩ := by
      rcases O5.out.2.2 with ⟨e, _⟩ | ⟨g', cap', cur, h', _⟩
      · simp at e
      · simp only [Value.slice.injEq] at h'
        exact ⟨g', h'.1⟩
    have hl1 : Hid ((T ++ [(⟨nm, ba, so, 0, 0⟩ : Sg)]).length = M + 1) := by show _ = _; simp [hTl.out]
    have hl2 : Hid ((T ++ [(⟨nm, ba, so, en, 0⟩ : Sg)]).length = M + 1) := by show _ = _; simp [hTl.out]
    have hl3 : Hid ((T ++ [(⟨nm, ba, so, en, sz⟩ : Sg)]).length = M + 1) := by show _ = _; simp [hTl.out]
    have hlo : Hid (lb ≠ ob) := hob.out lb rfl
    have hld : Hid (lb ≠ db ∧ lb ≠ w.heap.size + 1) := ⟨fun e => by have := O5.out.no d5.out (by decide); simp [Value.ownBlock] at this; exact this e, fun e => by have := O5.out.no s5.out (by decide); simp [Value.ownBlock] at this; exact this e⟩
    obtain ⟨c0, c1, c2⟩ := three_cells d5.out
    obtain ⟨f0, f1, f2⟩ := three_frozen d5.out
    have d6 : Hid ((w5.setCell ⟨db, 0, none⟩ (.int .i64 (g + 1))).heap[db]? = some (.cells #[.int .i64 (g + 1), .int .i64 fi, .slice (some ⟨lb, 0, none⟩) (M + 1) ca4] 29 (0, 0))) := by show _ = _; rw [heap_setCell_same _ _ _ _ _ _ d5.out]; simp
    have s6 : Hid ((w5.setCell ⟨db, 0, none⟩ (.int .i64 (g + 1))).heap[w.heap.size + 1]? = some (.cells #[.int .i64 0, .int .i64 0, .slice none 0 0] 29 (0, 0))) := by show _ = _; rw [heap_setCell_other _ _ _ _ hdz.out]; exact s5.out
    have t6 : Hid ((w5.setCell ⟨db, 0, none⟩ (.int .i64 (g + 1))).heap[ob]? = some (.cells #[.int .i64 nm, .int .i64 ba, .int .u32 (so : Int), .int .i64 0, .int .i64 0] 53 (0, 0))) := by show _ = _; rw [heap_setCell_other _ _ _ _ (by show ob ≠ db; intro e; have h := t5.out; rw [e, d5.out] at h; simp at h)]; exact t5.out
    have O6 : Hid (Own w.heap.size (w5.setCell ⟨db, 0, none⟩ (.int .i64 (g + 1))) (.slice (some ⟨lb, 0, none⟩) (M + 1) ca4) (T ++ [⟨nm, ba, so, 0, 0⟩])) := ⟨O5.out.1, ownsRow_setCell_other O5.out.2 (O5.out.no d5.out (by decide)) _⟩
    have B6 := hide (B5.out.setCell (p := ⟨db, 0, none⟩) hdo.out (.int .i64 (g + 1)))
    go_upto_region 11 with fail
    generalize w5.setCell ⟨db, 0, none⟩ (.int .i64 (g + 1)) = w6 at *
    clear c0 c1 c2 f0 f1 f2 d5 s5 t5 O5 B5 hob
    have mid : ∀ (u : World) (s : Sg) (hO : Own w.heap.size u (.slice (some ⟨lb, 0, none⟩) (M + 1) ca4) (T ++ [s])) (hl : (T ++ [s]).length = M + 1), SAt u lb (M * 5) s ∧ ∀ j, u.frozen? ⟨lb, j, none⟩ = false := by
      intro u s hO hl
      obtain ⟨pb, po, pc, pe, _, _, ph⟩ := hO.sgs.at (by rw [hl]; omega)
      simp only [Value.slice.injEq, Option.some.injEq, Addr.mk.injEq] at pe
      obtain ⟨⟨rfl, rfl, _⟩, _, rfl⟩ := pe
      have a := ph M (by rw [hl]; omega)
      have e : sg (T ++ [s]) M = s := by unfold sg; rw [List.getD_eq_getElem?_getD, List.getElem?_append_right (by rw [hTl.out]; exact Nat.le_refl _), hTl.out, Nat.sub_self]; rfl
      rw [e, Nat.zero_add] at a
      have h2 := hO.2
      rw [hl] at h2
      exact ⟨a, fun j => World.ownsRow.frozenAt h2 j⟩
    have MID := hide mid
    clear mid
    obtain ⟨⟨k0, k1, k2, k3, k4⟩, kf⟩ := MID.out w6 _ O6.out hl1.out
    have kf3 := kf (M * 5 + 3)
    obtain ⟨c0, c1, c2⟩ := three_cells d6.out
    have O7 : Hid (Own w.heap.size (w6.setCell ⟨lb, M * 5 + 3, none⟩ (.int .i64 en)) (.slice (some ⟨lb, 0, none⟩) (M + 1) ca4) (T ++ [⟨nm, ba, so, en, 0⟩])) := O6.out.stored hl1.out (M * 5 + 3) _ (by rw [← hTl.out]; exact set_end T _ 3 _ _ rfl) hA1.out hl2.out
    have lbB : Hid (w.heap.size ≤ lb) := (O6.out.lt lb rfl).1
    have oth : Hid (∀ (u : World) (k j : Nat) (x : Value), k ≠ lb → (u.setCell ⟨lb, j, none⟩ x).heap[k]? = u.heap[k]?) := fun u k j x h => heap_setCell_other _ _ _ _ h
    have d7 : Hid ((w6.setCell ⟨lb, M * 5 + 3, none⟩ (.int .i64 en)).heap[db]? = some (.cells #[.int .i64 (g + 1), .int .i64 fi, .slice (some ⟨lb, 0, none⟩) (M + 1) ca4] 29 (0, 0))) := by show _ = _; rw [oth.out _ _ _ _ (fun e => hld.out.1 e.symm)]; exact d6.out
    have s7 : Hid ((w6.setCell ⟨lb, M * 5 + 3, none⟩ (.int .i64 en)).heap[w.heap.size + 1]? = some (.cells #[.int .i64 0, .int .i64 0, .slice none 0 0] 29 (0, 0))) := by show _ = _; rw [oth.out _ _ _ _ (fun e => hld.out.2 e.symm)]; exact s6.out
    have t7 : Hid ((w6.setCell ⟨lb, M * 5 + 3, none⟩ (.int .i64 en)).heap[ob]? = some (.cells #[.int .i64 nm, .int .i64 ba, .int .u32 (so : Int), .int .i64 0, .int .i64 0] 53 (0, 0))) := by show _ = _; rw [oth.out _ _ _ _ (fun e => hlo.out e.symm)]; exact t6.out
    have B7 := hide (B6.out.setCell (p := ⟨lb, M * 5 + 3, none⟩) lbB.out (.int .i64 en))
    dsimp only at k0 k1 k2 k3 k4
    clear kf
    go_upto_region 12 with fail
    generalize w6.setCell ⟨lb, M * 5 + 3, none⟩ (.int .i64 en) = w7 at *
    clear c0 c1 c2 k0 k1 k2 k3 k4 kf3 d6 s6 t6 O6 B6
    obtain ⟨⟨k0, k1, k2, k3, k4⟩, kf⟩ := MID.out w7 _ O7.out hl2.out
    have kf4 := kf (M * 5 + 4)
    obtain ⟨c0, c1, c2⟩ := three_cells d7.out
    have O8 : Hid (Own w.heap.size (w7.setCell ⟨lb, M * 5 + 4, none⟩ (.int .i64 sz)) (.slice (some ⟨lb, 0, none⟩) (M + 1) ca4) (T ++ [⟨nm, ba, so, en, sz⟩])) := O7.out.stored hl2.out (M * 5 + 4) _ (by rw [← hTl.out]; exact set_end T _ 4 _ _ rfl) hA2.out hl3.out
    have d8 : Hid ((w7.setCell ⟨lb, M * 5 + 4, none⟩ (.int .i64 sz)).heap[db]? = some (.cells #[.int .i64 (g + 1), .int .i64 fi, .slice (some ⟨lb, 0, none⟩) (M + 1) ca4] 29 (0, 0))) := by show _ = _; rw [oth.out _ _ _ _ (fun e => hld.out.1 e.symm)]; exact d7.out
    have s8 : Hid ((w7.setCell ⟨lb, M * 5 + 4, none⟩ (.int .i64 sz)).heap[w.heap.size + 1]? = some (.cells #[.int .i64 0, .int .i64 0, .slice none 0 0] 29 (0, 0))) := by show _ = _; rw [oth.out _ _ _ _ (fun e => hld.out.2 e.symm)]; exact s7.out
    have t8 : Hid ((w7.setCell ⟨lb, M * 5 + 4, none⟩ (.int .i64 sz)).heap[ob]? = some (.cells #[.int .i64 nm, .int .i64 ba, .int .u32 (so : Int), .int .i64 0, .int .i64 0] 53 (0, 0))) := by show _ = _; rw [oth.out _ _ _ _ (fun e => hlo.out e.symm)]; exact t7.out
    have B8 := hide (B7.out.setCell (p := ⟨lb, M * 5 + 4, none⟩) lbB.out (.int .i64 sz))
    dsimp only at k0 k1 k2 k3 k4
    clear kf
    go_upto_region 13 with fail
    generalize w7.setCell ⟨lb, M * 5 + 4, none⟩ (.int .i64 sz) = w8 at *
    clear c0 c1 c2 k0 k1 k2 k3 k4 kf4 d7 s7 t7 O7 B7 MID
    obtain ⟨i0, hi, hz0, hz1, hz2⟩ := info_parts infoSeg
    have NB := hide (heap_alloc_new w8 (.cells #[.int .i64 (nm + 1), .int .i64 en, .int .u32 (se : Int), .int .i64 0, .int .i64 0] 53))
    have Y8 := hide (box_below w8 (.cells #[.int .i64 (nm + 1), .int .i64 en, .int .u32 (se : Int), .int .i64 0, .int .i64 0] 53))
    have hown := hide (O8.out.below Y8.out).2
    rw [hl3.out] at hown
    have hbs := hide (keepF B8.out Y8.out).size
    have d9 : Hid ((w8.alloc (.cells #[.int .i64 (nm + 1), .int .i64 en, .int .u32 (se : Int), .int .i64 0, .int .i64 0] 53)).heap[db]? = some (.cells #[.int .i64 (g + 1), .int .i64 fi, .slice (some ⟨lb, 0, none⟩) (M + 1) ca4] 29 (0, 0))) := by show _ = _; rw [Y8.out.block _ (heap_lt d8.out)]; exact d8.out
    have s9 : Hid ((w8.alloc (.cells #[.int .i64 (nm + 1), .int .i64 en, .int .u32 (se : Int), .int .i64 0, .int .i64 0] 53)).heap[w.heap.size + 1]? = some (.cells #[.int .i64 0, .int .i64 0, .slice none 0 0] 29 (0, 0))) := by show _ = _; rw [Y8.out.block _ (heap_lt s8.out)]; exact s8.out
    have B9 := hide (keepF B8.out Y8.out)
    have hRl : Hid (R.length = M + 2) := by show _ = _; rw [hTR.out]; simp [hTl.out]
    have hRs : Hid (scells R = scells (T ++ [⟨nm, ba, so, en, sz⟩]) ++ [.int .i64 (nm + 1), .int .i64 en, .int .u32 (se : Int), .int .i64 0, .int .i64 0]) := by show _ = _; rw [hTR.out]; simp [scells, scell]
    obtain ⟨c0, c1, c2⟩ := three_cells d8.out
    obtain ⟨y0, y1, y2, y3, y4⟩ := five_cells t8.out
    go_upto_region 14 with (at_builtin; refine wpList_append_own_at _ rfl (.tmp 59) (.tmp 66) 27 rfl w.heap.size 53 i0 (.agg #[.int .i64 0, .int .i64 0, .int .u32 0, .int .i64 0, .int .i64 0]) 5 40 Try.underlying27 hi hz0 hz1 hz2 rfl (by decide) (.slice (some ⟨lb, 0, none⟩) (M + 1) ca4) (M + 1) (scells (T ++ [⟨nm, ba, so, en, sz⟩])) rfl hown.out ⟨w8.heap.size, 0, none⟩ 1 1 [.int .i64 (nm + 1), .int .i64 en, .int .u32 (se : Int), .int .i64 0, .int .i64 0] (by first | rfl | simp [Act.eval]) rfl (five_new NB.out) (by simp [Value.oneCell']) (by unfold maxLen; omega) (by omega) hbs.out ?_; intro vx wx ho6 hg6 _ _; have V2 : Hid (Own w.heap.size wx vx R) := ⟨hRin.out, by rw [hRl.out, hRs.out]; exact ho6⟩; obtain ⟨aox, cax, ex, _, _⟩ := V2.out.form; rw [hRl.out] at ex; subst ex; have e1 : Hid (wx.heap[db]? = some (.cells #[.int .i64 (g + 1), .int .i64 fi, .slice (some ⟨lb, 0, none⟩) (M + 1) ca4] 29 (0, 0))) := hide (by rw [hg6.block _ (heap_lt d9.out) (fun e => hld.out.1 (by cases e; rfl))]; exact d9.out); have e2 : Hid (wx.heap[w.heap.size + 1]? = some (.cells #[.int .i64 0, .int .i64 0, .slice none 0 0] 29 (0, 0))) := hide (by rw [hg6.block _ (heap_lt s9.out) (fun e => hld.out.2 (by cases e; rfl))]; exact s9.out); have BX := hide (Below.grown B9.out hg6 hbs.out (fun k hk => by cases hk; exact lbB.out)); obtain ⟨m0, m1, m2⟩ := three_cells e1.out; obtain ⟨n0', n1', n2'⟩ := three_frozen e1.out; clear ho6 hg6)
    have d10 : Hid ((wx.setCell ⟨db, 2, none⟩ (.slice aox (M + 2) cax)).heap[db]? = some (.cells #[.int .i64 (g + 1), .int .i64 fi, .slice aox (M + 2) cax] 29 (0, 0))) := by show _ = _; rw [heap_setCell_same _ _ _ _ _ _ e1.out]; simp
    have s10 : Hid ((wx.setCell ⟨db, 2, none⟩ (.slice aox (M + 2) cax)).heap[w.heap.size + 1]? = some (.cells #[.int .i64 0, .int .i64 0, .slice none 0 0] 29 (0, 0))) := by show _ = _; rw [heap_setCell_other _ _ _ _ hdz.out]; exact e2.out
    have O10 : Hid (Own w.heap.size (wx.setCell ⟨db, 2, none⟩ (.slice aox (M + 2) cax)) (.slice aox (M + 2) cax) R) := ⟨V2.out.1, ownsRow_setCell_other V2.out.2 (V2.out.no e1.out (by decide)) _⟩
    have B10 := hide (BX.out.setCell (p := ⟨db, 2, none⟩) hdo.out (.slice aox (M + 2) cax))
    generalize wx.setCell ⟨db, 2, none⟩ (.slice aox (M + 2) cax) = w10 at *
    clear c0 c1 c2 y0 y1 y2 y3 y4 m0 m1 m2 n0' n1' n2' e1 e2 V2 BX d8 s8 t8 O8 B8 d9 s9 B9 NB Y8 hown hbs
    obtain ⟨c0, c1, c2⟩ := three_cells d10.out
    have CM := hide (refMay_any w10 (g + 1) fi _ R O10.out.sgs)
    by_cases hm : May (g + 1) fi R
    · rw [mayB_t hm] at CM
      rw [if_neg (fun c => c hm)] at hE
      go_wp2_with fail
      refine CM.out.mono ?_
      rintro e w11 ⟨rfl, b11⟩
      have d11 : Hid (w11.heap[db]? = some (.cells #[.int .i64 (g + 1), .int .i64 fi, .slice aox (M + 2) cax] 29 (0, 0))) := by show _ = _; rw [b11.block _ (heap_lt d10.out)]; exact d10.out
      have s11 : Hid (w11.heap[w.heap.size + 1]? = some (.cells #[.int .i64 0, .int .i64 0, .slice none 0 0] 29 (0, 0))) := by show _ = _; rw [b11.block _ (heap_lt s10.out)]; exact s10.out
      have O11 := hide (O10.out.below b11)
      have B11 := hide (keepF B10.out b11)
      clear b11 CM c0 c1 c2 d10 s10 O10 B10
      obtain ⟨c0, c1, c2⟩ := three_cells d11.out
      obtain ⟨e0, e1, e2⟩ := three_cells s11.out
      obtain ⟨f0, f1, f2⟩ := three_frozen s11.out
      have F := hide (three_cells (put3_heap s11.out (.int .i64 (g + 1)) (.int .i64 fi) (.slice aox (M + 2) cax)))
      have BF := hide (put3_below B11.out (Nat.le_succ _) (.int .i64 (g + 1)) (.int .i64 fi) (.slice aox (M + 2) cax))
      have OF := hide (O11.out.put3 s11.out (by decide) (.int .i64 (g + 1)) (.int .i64 fi) (.slice aox (M + 2) cax))
      go_wp2_with fail
      show bodyPost _ _ _ _ _ (put3 w11 (w.heap.size + 1) (.int .i64 (g + 1)) (.int .i64 fi) (.slice aox (M + 2) cax))
      generalize put3 w11 (w.heap.size + 1) (.int .i64 (g + 1)) (.int .i64 fi) (.slice aox (M + 2) cax) = w12 at *
      obtain ⟨k0, k1, k2⟩ := F.out
      refine bodyPost_ret (by simp [results, Try.results17, go_sem, k0, k1, k2]; rfl) rfl ?_
      rw [hE.out]
      exact ⟨_, rfl, OF.out, BF.out⟩
    · rw [mayB_f hm] at CM
      rw [if_pos hm] at hE
      go_wp2_with fail
      refine CM.out.mono ?_
      rintro e w11 ⟨rfl, b11⟩
      have s11 : Hid (w11.heap[w.heap.size + 1]? = some (.cells #[.int .i64 0, .int .i64 0, .slice none 0 0] 29 (0, 0))) := by show _ = _; rw [b11.block _ (heap_lt s10.out)]; exact s10.out
      have B11 := hide (keepF B10.out b11)
      clear b11 CM c0 c1 c2 d10 s10 O10 B10
      obtain ⟨e0, e1, e2⟩ := three_cells s11.out
      obtain ⟨f0, f1, f2⟩ := three_frozen s11.out
      have F := hide (three_cells (put3_heap s11.out (.int .i64 0) (.int .i64 0) (.slice none 0 0)))
      have BF := hide (put3_below B11.out (Nat.le_succ _) (.int .i64 0) (.int .i64 0) (.slice none 0 0))
      go_wp2_with fail
      show bodyPost _ _ _ _ _ (put3 w11 (w.heap.size + 1) (.int .i64 0) (.int .i64 0) (.slice none 0 0))
      generalize put3 w11 (w.heap.size + 1) (.int .i64 0) (.int .i64 0) (.slice none 0 0) = w12 at *
      obtain ⟨k0, k1, k2⟩ := F.out
      refine bodyPost_ret (by simp [results, Try.results17, go_sem, k0, k1, k2]; rfl) rfl ?_
      rw [hE.out]
      exact ⟨_, rfl, Own.nil _ _, BF.out⟩
#print axioms refRoll_any
end Go.Proofs.Ytdhjlongdfgejaa.Ct

/-
  The document's Cut.
-/
namespace Go.Proofs.Ytdhjlongdfgejaa.Ct
open Go.RowKit

/-- The document's Cut on its way: c in block cb, what is answered in zb, d in db with the list vd, what goes in vg. -/
structure Cq (w u : World) (cb zb db : Nat) (A : Array Value) (g n : Int) (vd : Value) (ld : List Sg) (vg : Value) (lg : List Int) : Prop where
  be : Below w.heap.size w u
  cg : u.heap[cb]? = some (.cells A 29 (0, 0))
  zg : u.heap[zb]? = some (.cells #[.int .i64 0, .int .i64 0, .slice none 0 0] 29 (0, 0))
  dg : u.heap[db]? = some (.cells #[.int .i64 g, .int .i64 n, vd] 29 (0, 0))
  od : Own w.heap.size u vd ld
  og : IOwn w.heap.size u vg lg
  l1 : w.heap.size ≤ db
  n1 : zb ≠ db
  n2 : cb ≠ db
theorem Cq.below {w u u' : World} {cb zb db : Nat} {A : Array Value} {g n : Int} {vd : Value} {ld : List Sg} {vg : Value} {lg : List Int} (h : Cq w u cb zb db A g n vd ld vg lg) (hb : Below u.heap.size u u') : Cq w u' cb zb db A g n vd ld vg lg :=
  ⟨keepF h.be hb, by rw [hb.block _ (heap_lt h.cg)]; exact h.cg, by rw [hb.block _ (heap_lt h.zg)]; exact h.zg, by rw [hb.block _ (heap_lt h.dg)]; exact h.dg, h.od.below hb, h.og.below hb, h.l1, h.n1, h.n2⟩
theorem IOwn.lt' {B : Nat} {w : World} {v : Value} {l : List Int} (h : IOwn B w v l) : ∀ k, v.ownBlock = some k → B ≤ k ∧ k < w.heap.size := fun k hk => World.ownsRow.lt h k hk
theorem IOwn.but {X : Nat → Prop} {B : Nat} {w w' : World} {v : Value} {l : List Int} (h : IOwn B w v l) (hb : But X w w') (hx : ∀ k, v.ownBlock = some k → ¬ X k) : IOwn B w' v l := by
  refine ⟨h.1, ?_⟩
  rcases h.2 with h | ⟨g, cap, cur, rfl, hg, hh, r⟩
  · exact .inl h
  · exact .inr ⟨g, cap, cur, rfl, hg, hb.at hh (hx g rfl), r⟩
theorem own_iown {B : Nat} {w : World} {v v' : Value} {l : List Sg} {l' : List Int} (h : Own B w v l) (h' : IOwn B w v' l') : ∀ k, v.ownBlock = some k → v'.ownBlock ≠ some k := by
  intro k hk e
  rcases h.2.2 with ⟨h1, _⟩ | ⟨gg, cap, cur, h1, _, hh, _⟩
  · rw [h1] at hk; simp [Value.ownBlock] at hk
  · rw [h1] at hk
    simp [Value.ownBlock] at hk
    subst hk
    exact h'.no hh (by decide) e
theorem Cq.gone {w u u' : World} {cb zb db : Nat} {A : Array Value} {g n : Int} {vd : Value} {ld : List Sg} {vg vg' : Value} {lg lg' : List Int} (h : Cq w u cb zb db A g n vd ld vg lg) (ho : IOwn w.heap.size u' vg' lg') (hg : u.grownBy u' vg.ownBlock) : Cq w u' cb zb db A g n vd ld vg' lg' := by
  have hb : But (fun k => vg.ownBlock = some k) u u' := But.of_grownBy hg fun k e => e
  exact ⟨Below.grown h.be hg h.be.size (fun k hk => (h.og.lt' k hk).1), hb.at h.cg (h.og.no h.cg (by decide)), hb.at h.zg (h.og.no h.zg (by decide)), hb.at h.dg (h.og.no h.dg (by decide)), h.od.but hb (own_iown h.od h.og), ho, h.l1, h.n1, h.n2⟩
theorem Cq.app {w u u' : World} {cb zb db : Nat} {A : Array Value} {g n : Int} {vd vd' : Value} {ld ld' : List Sg} {vg : Value} {lg : List Int} (h : Cq w u cb zb db A g n vd ld vg lg) (ho : Own w.heap.size u' vd' ld') (hg : u.grownBy u' vd.ownBlock) : u'.heap[db]? = some (.cells #[.int .i64 g, .int .i64 n, vd] 29 (0, 0)) ∧ Cq w (u'.setCell ⟨db, 2, none⟩ vd') cb zb db A g n vd' ld' vg lg := by
  have hb : But (fun k => vd.ownBlock = some k) u u' := But.of_grownBy hg fun k e => e
  have e1 := hb.at h.dg (h.od.no h.dg (by decide))
  have e2 := hb.at h.cg (h.od.no h.cg (by decide))
  have e3 := hb.at h.zg (h.od.no h.zg (by decide))
  have hi : IOwn w.heap.size u' vg lg := IOwn.but h.og hb (fun k hk e => own_iown h.od h.og k e hk)
  refine ⟨e1, (Below.grown h.be hg h.be.size (fun k hk => (h.od.lt k hk).1)).setCell h.l1 _, ?_, ?_, ?_, ⟨ho.1, ownsRow_setCell_other ho.2 (ho.no e1 (by decide)) _⟩, ownsRow_setCell_other hi (hi.no e1 (by decide)) _, h.l1, h.n1, h.n2⟩
  · rw [heap_setCell_other _ _ _ _ h.n2]; exact e2
  · rw [heap_setCell_other _ _ _ _ h.n1]; exact e3
  · rw [heap_setCell_same _ _ _ _ _ _ e1]; simp
theorem take_goes {l : List Sg} {i k : Nat} (hi : i < l.length) (h : i < k) : ((l.take (i + 1)).take k).map Sg.nm = ((l.take i).take k).map Sg.nm ++ [(sg l i).nm] ∧ (l.take (i + 1)).drop k = (l.take i).drop k := by
  constructor
  · rw [List.take_take, List.take_take, Nat.min_eq_right (by omega), Nat.min_eq_right (by omega), List.take_succ_eq_append_getElem hi, List.map_append, sg_get hi]
    rfl
  · rw [List.drop_eq_nil_of_le (by simp; omega), List.drop_eq_nil_of_le (by simp; omega)]
theorem take_stays {l : List Sg} {i k : Nat} (hi : i < l.length) (h : ¬ i < k) : ((l.take (i + 1)).take k).map Sg.nm = ((l.take i).take k).map Sg.nm ∧ (l.take (i + 1)).drop k = (l.take i).drop k ++ [sg l i] := by
  constructor
  · rw [List.take_take, List.take_take, Nat.min_eq_left (by omega), Nat.min_eq_left (by omega)]
  · rw [List.take_succ_eq_append_getElem hi, List.drop_append_of_le_length (by simp; omega), sg_get hi]
set_option maxHeartbeats 2000000 in
theorem refCut_any : DoesCut 19 := by
  intro w g fi v l n hv hg
  obtain ⟨N, hN⟩ : ∃ N, Hid (l.length = N) := ⟨_, rfl⟩
  obtain ⟨ao, ca, rfl, q1, q2⟩ := hv.form
  rw [hN.out] at hv q1 ⊢
  have hB0 := hide (box_below w (.cells #[.int .i64 g, .int .i64 fi, .slice ao N ca] 29))
  have hB := hide (keepF hB0.out (box_below _ (.cells #[.int .i64 0, .int .i64 0, .slice none 0 0] 29)))
  have CALL := hide (refMay_any _ g fi _ l (hv.below hB.out))
  have hb1 : Hid (((w.alloc (.cells #[.int .i64 g, .int .i64 fi, .slice ao N ca] 29)).alloc (.cells #[.int .i64 0, .int .i64 0, .slice none 0 0] 29)).heap[w.heap.size]? = some (.cells #[.int .i64 g, .int .i64 fi, .slice ao N ca] 29 (0, 0))) := by
    show _ = _
    rw [(box_below _ _).block w.heap.size (by simp), heap_alloc_new]
  have hb2 : Hid (((w.alloc (.cells #[.int .i64 g, .int .i64 fi, .slice ao N ca] 29)).alloc (.cells #[.int .i64 0, .int .i64 0, .slice none 0 0] 29)).heap[w.heap.size + 1]? = some (.cells #[.int .i64 0, .int .i64 0, .slice none 0 0] 29 (0, 0))) := by
    show _ = _
    have := heap_alloc_new (w.alloc (.cells #[.int .i64 g, .int .i64 fi, .slice ao N ca] 29)) (.cells #[.int .i64 0, .int .i64 0, .slice none 0 0] 29)
    simpa using this
  clear hB0
  by_cases hm : May g fi l
  · rw [mayB_t hm] at CALL
    have HM := hide hm
    have HV := hide hv
    obtain ⟨b, off, ca', e, _, _, hc⟩ := hv.at hm.n1
    rw [hN.out] at e hc
    simp only [Value.slice.injEq, true_and] at e
    obtain ⟨rfl, rfl⟩ := e
    have hn1 := hm.n1
    have hn2 := hm.n2
    rw [hN.out] at hn1 hn2
    clear hv hm hc
    by_cases h2 : n < fi ∨ g = 9223372036854775807
    · have hE := hide (cutF_arg HM.out h2)
      go_enter Try.func19, Try.ntmps19
      go_wp2_with fail
      refine CALL.out.mono ?_
      rintro e w2 ⟨rfl, b2⟩
      have B2 := hide (keepF hB.out b2)
      have r2 : Hid (w2.heap[w.heap.size + 1]? = some (.cells #[.int .i64 0, .int .i64 0, .slice none 0 0] 29 (0, 0))) := by show _ = _; rw [b2.block _ (heap_lt hb2.out)]; exact hb2.out
      obtain ⟨c0, c1, c2⟩ := three_cells (show w2.heap[w.heap.size]? = _ by rw [b2.block _ (heap_lt hb1.out)]; exact hb1.out)
      obtain ⟨d0, d1, d2⟩ := three_cells r2.out
      obtain ⟨f0, f1, f2⟩ := three_frozen r2.out
      have F := hide (three_cells (put3_heap r2.out (.int .i64 0) (.int .i64 0) (.slice none 0 0)))
      have BF := hide (put3_below B2.out (Nat.le_succ _) (.int .i64 0) (.int .i64 0) (.slice none 0 0))
      clear b2 CALL
      by_cases h3 : n < fi
      · go_wp2_with fail
        show bodyPost _ _ _ _ _ (put3 w2 (w.heap.size + 1) (.int .i64 0) (.int .i64 0) (.slice none 0 0))
        generalize put3 w2 (w.heap.size + 1) (.int .i64 0) (.int .i64 0) (.slice none 0 0) = w5 at *
        obtain ⟨k0, k1, k2⟩ := F.out
        refine bodyPost_ret (by simp [results, Try.results19, go_sem, k0, k1, k2]; rfl) rfl ?_
        rw [hE.out]
        exact ⟨_, _, rfl, Own.nil _ _, IOwn.nil _ _, BF.out⟩
      · have h4 : g = 9223372036854775807 := h2.resolve_left h3
        subst h4
        go_wp2_with fail
        show bodyPost _ _ _ _ _ (put3 w2 (w.heap.size + 1) (.int .i64 0) (.int .i64 0) (.slice none 0 0))
        generalize put3 w2 (w.heap.size + 1) (.int .i64 0) (.int .i64 0) (.slice none 0 0) = w5 at *
        obtain ⟨k0, k1, k2⟩ := F.out
        refine bodyPost_ret (by simp [results, Try.results19, go_sem, k0, k1, k2]; rfl) rfl ?_
        rw [hE.out]
        exact ⟨_, _, rfl, Own.nil _ _, IOwn.nil _ _, BF.out⟩
    · obtain ⟨k, hk⟩ := HM.out.isCut n
      have hE := hide (cutF_at HM.out h2 hk)
      have HK := hide hk
      have hkN := hk.lt
      have h3 : ¬ n < fi := fun c => h2 (.inl c)
      have h4 : ¬ g = 9223372036854775807 := fun c => h2 (.inr c)
      have h4' : (g == 9223372036854775807) = false := by simpa using h4
      have hg1 := HM.out.g1
      have hw : IntKind.i64.wrap (g + 1) = g + 1 := by rw [IntKind.wrap_i64]; omega
      rw [hN.out] at hkN
      clear h2 hk
      go_enter Try.func19, Try.ntmps19
      go_wp2_with fail
      refine CALL.out.mono ?_
      rintro e w2 ⟨rfl, b2⟩
      have B2 := hide (keepF hB.out b2)
      have r1 : Hid (w2.heap[w.heap.size]? = some (.cells #[.int .i64 g, .int .i64 fi, .slice (some ⟨b, off, none⟩) N ca] 29 (0, 0))) := by show _ = _; rw [b2.block _ (heap_lt hb1.out)]; exact hb1.out
      have r2 : Hid (w2.heap[w.heap.size + 1]? = some (.cells #[.int .i64 0, .int .i64 0, .slice none 0 0] 29 (0, 0))) := by show _ = _; rw [b2.block _ (heap_lt hb2.out)]; exact hb2.out
      obtain ⟨c0, c1, c2⟩ := three_cells r1.out
      clear b2 CALL
      go_upto_region 6 with fail
      have X3 := hide (box_below w2 (.cells #[.int .i64 (g + 1), .int .i64 n, .slice none 0 0] 29))
      have Q3 : Hid (Cq w (w2.alloc (.cells #[.int .i64 (g + 1), .int .i64 n, .slice none 0 0] 29)) w.heap.size (w.heap.size + 1) w2.heap.size #[.int .i64 g, .int .i64 fi, .slice (some ⟨b, off, none⟩) N ca] (g + 1) n (.slice none 0 0) [] (.slice none 0 0) []) := ⟨keepF B2.out X3.out, by rw [X3.out.block _ (heap_lt r1.out)]; exact r1.out, by rw [X3.out.block _ (heap_lt r2.out)]; exact r2.out, heap_alloc_new _ _, Own.nil _ _, IOwn.nil _ _, B2.out.size, by have := heap_lt r2.out; omega, by have := heap_lt r1.out; omega⟩
      generalize w2.alloc (.cells #[.int .i64 (g + 1), .int .i64 n, .slice none 0 0] 29) = w3 at *
      generalize w2.heap.size = db at *
      clear c0 c1 c2 X3 r1 r2 B2 hb1 hb2 hB
      obtain ⟨M, rfl⟩ : ∃ M, N = M + 1 := ⟨N - 1, by omega⟩
      have hwM : IntKind.i64.wrap (M : Int) = (M : Int) := by rw [IntKind.wrap_i64]; omega
      obtain ⟨pb, po, pc, pe, _, _, ph⟩ := HV.out.at (by rw [hN.out]; omega)
      rw [hN.out] at pe ph
      simp only [Value.slice.injEq, Option.some.injEq, Addr.mk.injEq, true_and, and_true] at pe
      obtain ⟨⟨rfl, rfl⟩, rfl⟩ := pe
      have HC := hide ph
      clear ph
      obtain ⟨i0, hi, hz0, hz1, hz2⟩ := info_parts infoSeg
      obtain ⟨j0, hj, hy0, hy1, hy2⟩ := info_parts infoI64
      go_wp2_with fail
      go_loopg [8, 9] (M + 1) (fun kx vg vi wr => ∃ i : Nat, i ≤ M + 1 ∧ M + 1 - i ≤ kx ∧ vi = .int .i64 (i : Int) ∧ ∃ vd, Hid (Cq w wr w.heap.size (w.heap.size + 1) db #[.int .i64 g, .int .i64 fi, .slice (some ⟨b, off, none⟩) (M + 1) ca] (g + 1) n vd ((l.take i).drop k) vg (((l.take i).take k).map Sg.nm)))
      case atStart => exact ⟨0, by omega, Nat.le_refl _, rfl, _, by show Cq _ _ _ _ _ _ _ _ _ _ _ _; simpa using Q3.out⟩
      case round =>
        obtain ⟨i, hi', hkx, rfl, vd, hQ⟩ := hrel
        clear Q3
        obtain ⟨c0, c1, c2⟩ := three_cells hQ.out.cg
        by_cases hlt : ¬ i < M + 1
        · obtain rfl : i = M + 1 := by omega
          have hng : ¬ ((M : Int) + 1 < (M : Int) + 1) := by omega
          have hTe : Hid (l.take (M + 1) = l) := by show _ = _; rw [← hN.out, List.take_length]
          rw [hTe.out] at hQ
          have hMd := hide (HM.out.cut HK.out (show fi ≤ n by omega))
          have CM := hide (refMay_any wr (g + 1) n _ (l.drop k) hQ.out.od.sgs)
          rw [mayB_t hMd.out] at CM
          obtain ⟨aod, cad, ex, _, _⟩ := hQ.out.od.form
          obtain ⟨aog, cag, ey, _, _⟩ := hQ.out.og.form
          subst ex ey
          obtain ⟨Dn, hDn⟩ : ∃ Dn, Hid ((l.drop k).length = Dn) := ⟨_, rfl⟩
          obtain ⟨Gn, hGn⟩ : ∃ Gn, Hid (((l.take k).map Sg.nm).length = Gn) := ⟨_, rfl⟩
          rw [hDn.out, hGn.out] at hQ
          rw [hDn.out] at CM
          rw [hGn.out]
          obtain ⟨e0, e1, e2⟩ := three_cells hQ.out.dg
          go_wp2_with fail
          refine CM.out.mono ?_
          rintro e w5 ⟨rfl, b5⟩
          have Q5 := hide (hQ.out.below b5)
          clear b5 CM c0 c1 c2 e0 e1 e2
          obtain ⟨e0, e1, e2⟩ := three_cells Q5.out.dg
          obtain ⟨d0, d1, d2⟩ := three_cells Q5.out.zg
          obtain ⟨f0, f1, f2⟩ := three_frozen Q5.out.zg
          have F := hide (three_cells (put3_heap Q5.out.zg (.int .i64 (g + 1)) (.int .i64 n) (.slice aod Dn cad)))
          have BF := hide (put3_below Q5.out.be (Nat.le_succ _) (.int .i64 (g + 1)) (.int .i64 n) (.slice aod Dn cad))
          have OF := hide (Q5.out.od.put3 Q5.out.zg (by decide) (.int .i64 (g + 1)) (.int .i64 n) (.slice aod Dn cad))
          have IF := hide (Q5.out.og.put3 Q5.out.zg (by decide) (.int .i64 (g + 1)) (.int .i64 n) (.slice aod Dn cad))
          go_wp2_with fail
          show bodyPost _ _ _ _ _ (put3 w5 (w.heap.size + 1) (.int .i64 (g + 1)) (.int .i64 n) (.slice aod Dn cad))
          generalize put3 w5 (w.heap.size + 1) (.int .i64 (g + 1)) (.int .i64 n) (.slice aod Dn cad) = w6 at *
          obtain ⟨k0, k1, k2⟩ := F.out
          refine bodyPost_ret (by simp [results, Try.results19, go_sem, k0, k1, k2]; rfl) rfl ?_
          rw [hE.out]
          exact ⟨_, _, rfl, OF.out, IF.out, BF.out⟩
        have hlt' : (i : Int) < (M : Int) + 1 := by omega
        have hix : i < l.length := by rw [hN.out]; omega
        have GAP := hide (HK.out.gap HM.out i hix)
        have SLD := hide (HM.out.sld hix)
        obtain ⟨k0, k1, k2, k3, k4⟩ := (HC.out i (by omega)).below hQ.out.be
        have hsin := hide (HV.out.1.sg i)
        have TG := hide (fun h => take_goes (l := l) (i := i) (k := k) hix h)
        have TS := hide (fun h => take_stays (l := l) (i := i) (k := k) hix h)
        have hdin : Hid (AIn ((l.take i).drop k ++ [sg l i])) := fun x hx => by
          rcases List.mem_append.1 hx with h | h
          · exact HV.out.1 x (List.mem_of_mem_take (List.mem_of_mem_drop h))
          · simp only [List.mem_singleton] at h; subst h; exact HV.out.1.sg i
        have hdl : Hid (((l.take i).drop k).length ≤ 64 ∧ (((l.take i).take k).map Sg.nm).length ≤ 64) := by show _ ∧ _; simp; omega
        obtain ⟨s, hs⟩ : ∃ s, Hid (sg l i = s) := ⟨_, rfl⟩
        rw [hs.out] at k0 k1 k2 k3 k4 GAP SLD hsin TG TS hdin
        obtain ⟨nm, ba, se, en, sz⟩ := s
        dsimp only at k0 k1 k2 k3 k4 GAP TG TS
        obtain ⟨D, hD⟩ : ∃ D, Hid ((l.take i).drop k = D) := ⟨_, rfl⟩
        obtain ⟨G, hG⟩ : ∃ G, Hid (((l.take i).take k).map Sg.nm = G) := ⟨_, rfl⟩
        rw [hD.out, hG.out] at hQ TG TS hdl
        rw [hD.out] at hdin
        obtain ⟨hd64, hg64⟩ := hdl.out
        clear hdl
        by_cases hik : i < k
        · obtain ⟨p1, p2⟩ := GAP.out.1 hik
          have p3 := SLD.out.1 p1
          rw [hN.out] at p3
          have p3' : (i : Int) < (M : Int) := by omega
          obtain ⟨T1, T2⟩ := TG.out hik
          replace T1 := hide T1
          replace T2 := hide T2
          clear p1 GAP SLD TG TS hdin
          obtain ⟨aog, cag, ey, _, _⟩ := hQ.out.og.form
          subst ey
          obtain ⟨Gn, hGn⟩ : ∃ Gn, Hid (G.length = Gn) := ⟨_, rfl⟩
          rw [hGn.out] at hQ hg64
          rw [hGn.out]
          have NB := hide (one_new wr nm 2)
          have Y1 := hide (box_below wr (.cells #[.int .i64 nm] 2))
          have QN := hide (hQ.out.below Y1.out)
          have hown := hide QN.out.og
          unfold IOwn at hown
          rw [hGn.out] at hown
          go_wp2_with (at_builtin; refine wpList_append_own_at _ rfl (.tmp 52) (.tmp 59) 41 rfl w.heap.size 2 j0 (.int .i64 0) 1 8 Try.underlying41 hj hy0 hy1 hy2 rfl (by decide) (.slice aog Gn cag) Gn (ivals G) rfl hown.out ⟨wr.heap.size, 0, none⟩ 1 1 [.int .i64 nm] (by first | rfl | simp [Act.eval]) rfl NB.out (by simp [Value.oneCell']) (by unfold maxLen; omega) (by omega) QN.out.be.size ?_; intro vx wx ho6 hg6 _ _)
          have O6 : Hid (IOwn w.heap.size wx vx (G ++ [nm])) := by
            show IOwn _ _ _ _
            unfold IOwn
            rw [List.length_append, hGn.out]
            simp only [ivals, List.map_append] at ho6 ⊢
            exact ho6
          have Q6 := hide (QN.out.gone O6.out hg6)
          rw [← T1.out, ← T2.out] at Q6
          clear ho6 hg6 O6 QN Y1 NB hown c0 c1 c2 k0 k1 k2 k3 k4
          go_wp2_with fail
          go_roundg (M + 1 - (i + 1))
          case measure => omega
          case rel => exact ⟨i + 1, by omega, Nat.le_refl _, by go_num, _, Q6⟩
        · obtain ⟨T1, T2⟩ := TS.out hik
          replace T1 := hide T1
          replace T2 := hide T2
          have hcond : Hid (¬ (i : Int) < (M : Int) ∨ ¬ en ≤ n) := by
            by_cases a : i < M
            · refine .inr fun c => hik (GAP.out.2 ⟨SLD.out.2 (by rw [hN.out]; omega), c⟩)
            · exact .inl (by omega)
          clear GAP SLD TG TS
          go_upto_region 10 with fail
          go_cut [51] from 36 to 50 (fun y wx => y = .bool false ∧ wr = wx)
          case first =>
            rcases hcond.out with h | h
            · go_wp2_with fail
              go_meet
              case rel => exact ⟨by first | rfl | simp [h], rfl⟩
            · by_cases h' : (i : Int) < (M : Int)
              · go_wp2_with fail
                go_meet
                case rel => exact ⟨by first | rfl | simp [h], rfl⟩
              · go_wp2_with fail
                go_meet
                case rel => exact ⟨by first | rfl | simp [h'], rfl⟩
          case rest =>
            obtain ⟨rfl, rfl⟩ := hcut
            obtain ⟨aod, cad, ex, _, _⟩ := hQ.out.od.form
            subst ex
            obtain ⟨Dn, hDn⟩ : ∃ Dn, Hid (D.length = Dn) := ⟨_, rfl⟩
            rw [hDn.out] at hQ hd64
            obtain ⟨e0, e1, e2⟩ := three_cells hQ.out.dg
            obtain ⟨f0, f1, f2⟩ := three_frozen hQ.out.dg
            have ROW := hide hQ.out.od.2
            rw [hDn.out] at ROW
            have HB : Hid (w.heap.size ≤ wr.heap.size) := hQ.out.be.size
            have hbl2 : db < wr.heap.size := heap_lt hQ.out.dg
            have hbl3 : w.heap.size < wr.heap.size := heap_lt hQ.out.cg
            go_wp2_with fail
            go_region_law (first | (refine step_append_lies _ rfl (.tmp 62) (.tmp 68) 27 rfl w.heap.size 53 i0 (.agg #[.int .i64 0, .int .i64 0, .int .u32 0, .int .i64 0, .int .i64 0]) 5 40 Try.underlying27 hi hz0 hz1 hz2 rfl (by decide) (.slice aod Dn cad) Dn (scells D) (by simp [Act.eval]) (ROW.out.alloc _) ⟨wr.heap.size, 0, none⟩ 1 1 [.int .i64 nm, .int .i64 ba, .int .u32 (se : Int), .int .i64 en, .int .i64 sz] (by simp [Act.eval]) rfl (five_new (heap_alloc_new _ _)) (by simp [Value.oneCell']) (by decide) (by unfold maxLen; omega) (by omega) (by have := HB.out; simp [World.drew]; omega) (wr.heap.size + 1) (by simp) ?_; intro g2 cap2 w3 hown3 hgrow3 hat hlt3; obtain ⟨F1, F2⟩ := Cq.app (vd' := .slice (some ⟨g2, 0, none⟩) (Dn + 1) cap2) (ld' := D ++ [⟨nm, ba, se, en, sz⟩]) (hQ.out.below (by first | exact (box_below wr _).drew | exact (box_below wr.drew _) | exact box_below wr _)) ⟨hdin.out, by rw [List.length_append, hDn.out, scells_append]; exact hown3⟩ hgrow3; have cc3 := (show w3.cell? ⟨db, 2, none⟩ = some (.slice aod Dn cad) by simp [World.cell?, F1]); have ff3 := (show w3.frozen? ⟨db, 2, none⟩ = false by simp [World.frozen?, F1])))
            all_goals
              clear e0 e1 e2 f0 f1 f2 cc3 ff3 F1 hown3 hgrow3 hat hlt3 ROW HB hbl2 hbl3 c0 c1 c2 k0 k1 k2 k3 k4
              replace F2 := hide F2
              rw [← T1.out, ← T2.out] at F2
              generalize w3.setCell ⟨db, 2, none⟩ (.slice (some ⟨g2, 0, none⟩) (Dn + 1) cap2) = w4 at *
              go_wp2_with fail
              go_roundg (M + 1 - (i + 1))
              case measure => omega
              case rel => exact ⟨i + 1, by omega, Nat.le_refl _, by go_num, _, F2⟩
  · rw [mayB_f hm] at CALL
    have hE := hide (cutF_no (n := n) hm)
    clear hv hm
    go_enter Try.func19, Try.ntmps19
    go_wp2_with fail
    refine CALL.out.mono ?_
    rintro e w2 ⟨rfl, b2⟩
    have B2 := hide (keepF hB.out b2)
    have r2 : Hid (w2.heap[w.heap.size + 1]? = some (.cells #[.int .i64 0, .int .i64 0, .slice none 0 0] 29 (0, 0))) := by show _ = _; rw [b2.block _ (heap_lt hb2.out)]; exact hb2.out
    obtain ⟨d0, d1, d2⟩ := three_cells r2.out
    obtain ⟨f0, f1, f2⟩ := three_frozen r2.out
    have F := hide (three_cells (put3_heap r2.out (.int .i64 0) (.int .i64 0) (.slice none 0 0)))
    have BF := hide (put3_below B2.out (Nat.le_succ _) (.int .i64 0) (.int .i64 0) (.slice none 0 0))
    clear b2 CALL
    go_wp2_with fail
    show bodyPost _ _ _ _ _ (put3 w2 (w.heap.size + 1) (.int .i64 0) (.int .i64 0) (.slice none 0 0))
    generalize put3 w2 (w.heap.size + 1) (.int .i64 0) (.int .i64 0) (.slice none 0 0) = w5 at *
    obtain ⟨k0, k1, k2⟩ := F.out
    refine bodyPost_ret (by simp [results, Try.results19, go_sem, k0, k1, k2]; rfl) rfl ?_
    rw [hE.out]
    exact ⟨_, _, rfl, Own.nil _ _, IOwn.nil _ _, BF.out⟩
#print axioms refCut_any
end Go.Proofs.Ytdhjlongdfgejaa.Ct

