/-
  Roll: the program's. (Written by gen_CtH.py.)
-/
import Derived.Test.YtdhjlongdfgejaaCtG
namespace Go.Proofs.Ytdhjlongdfgejaa.Ct
open Go.RowKit

/-- What Roll owes. -/
def DoesRoll (f : Nat) : Prop := ∀ (w : World) (g fi : Int) (v : Value) (l : List Sg) (en sz : Int) (se : Nat), Sgs w v l → g ≤ 9223372036854775807 → -9223372036854775808 ≤ en → en ≤ 9223372036854775807 → -9223372036854775808 ≤ sz → sz ≤ 9223372036854775807 → se < 4294967296 →
  Calls Try.prog f #[.agg #[.int .i64 g, .int .i64 fi, v], .int .i64 en, .int .i64 sz, .int .u32 (se : Int)] w fun e w' => ∃ v', e = .returned (.tuple #[.agg #[.int .i64 (rollF g fi l en sz se).2.1, .int .i64 (rollF g fi l en sz se).2.2.1, v'], .int .i64 (rollF g fi l en sz se).1]) ∧ Own w.heap.size w' v' (rollF g fi l en sz se).2.2.2 ∧ Below w.heap.size w w'
theorem ten_new {w : World} {b : Nat} {a0 a1 a2 a3 a4 a5 a6 a7 a8 a9 : Value} {T : TypeId} (h : w.heap[b]? = some (.cells #[a0, a1, a2, a3, a4, a5, a6, a7, a8, a9] T (0, 0))) : ∀ j u, ([a0, a1, a2, a3, a4, a5, a6, a7, a8, a9] : List Value)[j]? = some u → w.cell? ((⟨b, 0, none⟩ : Addr).add j) = some u := by
  intro j u hu
  rw [addr_add, Nat.zero_add]
  simp only [World.cell?, h]
  simpa using hu
theorem put5_heap {w : World} {b : Nat} {a0 a1 a2 a3 a4 : Value} {T : TypeId} (h : w.heap[b]? = some (.cells #[a0, a1, a2, a3, a4] T (0, 0))) (x y : Value) : ((w.setCell ⟨b, 3, none⟩ x).setCell ⟨b, 4, none⟩ y).heap[b]? = some (.cells #[a0, a1, a2, x, y] T (0, 0)) := by
  rw [heap_setCell_same _ _ _ _ _ _ (heap_setCell_same _ _ _ _ _ _ h)]
  simp
theorem five_frozen {w : World} {b : Nat} {a0 a1 a2 a3 a4 : Value} {T : TypeId} (h : w.heap[b]? = some (.cells #[a0, a1, a2, a3, a4] T (0, 0))) : w.frozen? ⟨b, 3, none⟩ = false ∧ w.frozen? ⟨b, 4, none⟩ = false := by
  simp [World.frozen?, h]
set_option maxHeartbeats 4000000 in
theorem roll_any : DoesRoll 16 := by
  intro w g fi v l en sz se hv hg n1 n2 n3 n4 n5
  obtain ⟨N, hN⟩ : ∃ N, Hid (l.length = N) := ⟨_, rfl⟩
  obtain ⟨ao, ca, rfl, q1, q2⟩ := hv.form
  rw [hN.out] at hv q1 ⊢
  have hB0 := hide (box_below w (.cells #[.int .i64 g, .int .i64 fi, .slice ao N ca] 29))
  have hB := hide (keepF hB0.out (box_below _ (.cells #[.int .i64 0, .int .i64 0, .slice none 0 0] 29)))
  have CALL := hide (may_any _ g fi _ l (hv.below hB.out))
  have hb1 : Hid (((w.alloc (.cells #[.int .i64 g, .int .i64 fi, .slice ao N ca] 29)).alloc (.cells #[.int .i64 0, .int .i64 0, .slice none 0 0] 29)).heap[w.heap.size]? = some (.cells #[.int .i64 g, .int .i64 fi, .slice ao N ca] 29 (0, 0))) := by
    show _ = _
    rw [(box_below _ _).block w.heap.size (by simp), heap_alloc_new]
  have hb2 : Hid (((w.alloc (.cells #[.int .i64 g, .int .i64 fi, .slice ao N ca] 29)).alloc (.cells #[.int .i64 0, .int .i64 0, .slice none 0 0] 29)).heap[w.heap.size + 1]? = some (.cells #[.int .i64 0, .int .i64 0, .slice none 0 0] 29 (0, 0))) := by
    show _ = _
    have := heap_alloc_new (w.alloc (.cells #[.int .i64 g, .int .i64 fi, .slice ao N ca] 29)) (.cells #[.int .i64 0, .int .i64 0, .slice none 0 0] 29)
    simpa using this
  clear hB0
  by_cases hm : ¬ May g fi l
  · rw [mayB_f hm] at CALL
    have hE : Hid (rollF g fi l en sz se = (4, 0, 0, [])) := by show _ = _; unfold rollF; rw [if_pos hm]
    clear hv hm
    go_enter Try.func16, Try.ntmps16
    go_wp2_with fail
    refine CALL.out.mono ?_
    rintro e w2 ⟨rfl, b2⟩
    have B2 := hide (keepF hB.out b2)
    have r2 : Hid (w2.heap[w.heap.size + 1]? = some (.cells #[.int .i64 0, .int .i64 0, .slice none 0 0] 29 (0, 0))) := by show _ = _; rw [b2.block _ (heap_lt hb2.out)]; exact hb2.out
    obtain ⟨d0, d1, d2⟩ := three_cells r2.out
    obtain ⟨f0, f1, f2⟩ := three_frozen r2.out
    have F := hide (three_cells (put3_heap r2.out (.int .i64 0) (.int .i64 0) (.slice none 0 0)))
    have BF := hide (put3_below B2.out (Nat.le_succ _) (.int .i64 0) (.int .i64 0) (.slice none 0 0))
    clear b2 CALL
    go_wp2_with fail
    show bodyPost _ _ _ _ _ (put3 w2 (w.heap.size + 1) (.int .i64 0) (.int .i64 0) (.slice none 0 0))
    generalize put3 w2 (w.heap.size + 1) (.int .i64 0) (.int .i64 0) (.slice none 0 0) = w5 at *
    obtain ⟨k0, k1, k2⟩ := F.out
    refine bodyPost_ret (by simp [results, Try.results16, go_sem, k0, k1, k2]; rfl) rfl ?_
    rw [hE.out]
    exact ⟨_, rfl, Own.nil _ _, BF.out⟩
  replace hm := Classical.not_not.1 hm
  rw [mayB_t hm] at CALL
  have HM := hide hm
  have HV := hide hv
  obtain ⟨b, off, ca', e, _, _, hc⟩ := hv.at hm.n1
  rw [hN.out] at e hc
  simp only [Value.slice.injEq, true_and] at e
  obtain ⟨rfl, rfl⟩ := e
  have hn1 := hm.n1
  have hn2 := hm.n2
  have hA := hide hv.1
  rw [hN.out] at hn1 hn2
  have HC := hide hc
  clear hv hm hc
  by_cases h64 : N = 64
  · subst h64
    have hE : Hid (rollF g fi l en sz se = (9, 0, 0, [])) := by show _ = _; unfold rollF; rw [if_neg (fun c => c HM.out), if_pos hN.out]
    go_enter Try.func16, Try.ntmps16
    go_wp2_with fail
    refine CALL.out.mono ?_
    rintro e w2 ⟨rfl, b2⟩
    have B2 := hide (keepF hB.out b2)
    have r2 : Hid (w2.heap[w.heap.size + 1]? = some (.cells #[.int .i64 0, .int .i64 0, .slice none 0 0] 29 (0, 0))) := by show _ = _; rw [b2.block _ (heap_lt hb2.out)]; exact hb2.out
    obtain ⟨c0, c1, c2⟩ := three_cells (show w2.heap[w.heap.size]? = _ by rw [b2.block _ (heap_lt hb1.out)]; exact hb1.out)
    obtain ⟨d0, d1, d2⟩ := three_cells r2.out
    obtain ⟨f0, f1, f2⟩ := three_frozen r2.out
    have F := hide (three_cells (put3_heap r2.out (.int .i64 0) (.int .i64 0) (.slice none 0 0)))
    have BF := hide (put3_below B2.out (Nat.le_succ _) (.int .i64 0) (.int .i64 0) (.slice none 0 0))
    clear b2 CALL
    go_wp2_with fail
    show bodyPost _ _ _ _ _ (put3 w2 (w.heap.size + 1) (.int .i64 0) (.int .i64 0) (.slice none 0 0))
    generalize put3 w2 (w.heap.size + 1) (.int .i64 0) (.int .i64 0) (.slice none 0 0) = w5 at *
    obtain ⟨k0, k1, k2⟩ := F.out
    refine bodyPost_ret (by simp [results, Try.results16, go_sem, k0, k1, k2]; rfl) rfl ?_
    rw [hE.out]
    exact ⟨_, rfl, Own.nil _ _, BF.out⟩
  obtain ⟨M, rfl⟩ : ∃ M, N = M + 1 := ⟨N - 1, by omega⟩
  have hlast : Hid (sg l M = lastS l) := by show _ = _; rw [lastS, hN.out]; rfl
  have hop := HM.out.op
  have hLA := hA.out.sg M
  have hLS := HC.out M (by omega)
  rw [hN.out, Nat.add_sub_cancel] at hop
  have hRIN : Hid ((lastS l).nm < 9223372036854775807 → AIn (rolled l en sz se)) := fun c => rolled_in hA.out c n1 n2 n3 n4 n5
  have hTR : Hid (rolled l en sz se = l.take M ++ [⟨(lastS l).nm, (lastS l).ba, (lastS l).se, en, sz⟩, ⟨(lastS l).nm + 1, en, se, 0, 0⟩]) := by show _ = _; unfold rolled; rw [hN.out]; rfl
  rw [hlast.out] at hop hLA hLS
  have hE : Hid (rollF g fi l en sz se = if g = 9223372036854775807 ∨ (lastS l).nm = 9223372036854775807 then (1, 0, 0, []) else @ite _ (¬ May (g + 1) fi (rolled l en sz se)) (Classical.propDecidable _) (1, 0, 0, []) (0, g + 1, fi, rolled l en sz se)) := by
    show _ = _
    unfold rollF
    rw [if_neg (fun c => c HM.out), if_neg (by rw [hN.out]; exact h64)]
    by_cases c : g = 9223372036854775807 ∨ (lastS l).nm = 9223372036854775807
    · rw [if_pos c, if_pos c]
    · rw [if_neg c, if_neg c]
      by_cases d : ¬ May (g + 1) fi (rolled l en sz se)
      · rw [if_pos d, if_pos d]
      · rw [if_neg d, if_neg d]
  generalize lastS l = la at *
  obtain ⟨nm, ba, so, en0, sz0⟩ := la
  dsimp only at hE hTR hRIN hlast
  obtain ⟨o1, o2, o3⟩ := hop
  obtain ⟨rfl, rfl⟩ : en0 = 0 ∧ sz0 = 0 := by
    refine ⟨Classical.byContradiction fun c => o3 (.inl c), Classical.byContradiction fun c => o3 (.inr c)⟩
  have o4 := hLA.a2
  dsimp only at o1 o2 o4
  have hw0 : IntKind.i64.wrap (M : Int) = (M : Int) := by rw [IntKind.wrap_i64]; omega
  have hM64 : ¬ (M : Int) + 1 = 64 := by omega
  have hM64' : ((M : Int) + 1 == 64) = false := by simpa using hM64
  have hMlt : (M : Int) < (M : Int) + 1 := by omega
  have hg1 := HM.out.g1
  clear o3 hLA h64
  by_cases hx : g = 9223372036854775807 ∨ nm = 9223372036854775807
  · rw [if_pos hx] at hE
    go_enter Try.func16, Try.ntmps16
    go_wp2_with fail
    refine CALL.out.mono ?_
    rintro e w2 ⟨rfl, b2⟩
    have B2 := hide (keepF hB.out b2)
    have hBS := hide (box_below w2 (.cells #[.int .i64 nm, .int .i64 ba, .int .u32 (so : Int), .int .i64 0, .int .i64 0] 53))
    have r2 : Hid (w2.heap[w.heap.size + 1]? = some (.cells #[.int .i64 0, .int .i64 0, .slice none 0 0] 29 (0, 0))) := by show _ = _; rw [b2.block _ (heap_lt hb2.out)]; exact hb2.out
    have r3 : Hid ((w2.alloc (.cells #[.int .i64 nm, .int .i64 ba, .int .u32 (so : Int), .int .i64 0, .int .i64 0] 53)).heap[w.heap.size + 1]? = some (.cells #[.int .i64 0, .int .i64 0, .slice none 0 0] 29 (0, 0))) := by show _ = _; rw [hBS.out.block _ (heap_lt r2.out)]; exact r2.out
    have r4 : Hid (w2.heap[w.heap.size]? = some (.cells #[.int .i64 g, .int .i64 fi, .slice (some ⟨b, off, none⟩) (M + 1) ca] 29 (0, 0))) := by show _ = _; rw [b2.block _ (heap_lt hb1.out)]; exact hb1.out
    obtain ⟨c0, c1, c2⟩ := three_cells r4.out
    obtain ⟨z0, z1, z2⟩ := three_cells (show (w2.alloc (.cells #[.int .i64 nm, .int .i64 ba, .int .u32 (so : Int), .int .i64 0, .int .i64 0] 53)).heap[w.heap.size]? = _ by rw [hBS.out.block _ (heap_lt r4.out)]; exact r4.out)
    obtain ⟨k0, k1, k2, k3, k4⟩ := hLS.below B2.out
    dsimp only at k0 k1 k2 k3 k4
    obtain ⟨y0, y1, y2, y3, y4⟩ := five_cells (heap_alloc_new w2 (.cells #[.int .i64 nm, .int .i64 ba, .int .u32 (so : Int), .int .i64 0, .int .i64 0] 53))
    obtain ⟨d0, d1, d2⟩ := three_cells r3.out
    obtain ⟨f0, f1, f2⟩ := three_frozen r3.out
    have F := hide (three_cells (put3_heap r3.out (.int .i64 0) (.int .i64 0) (.slice none 0 0)))
    have BF := hide (put3_below (keepF B2.out hBS.out) (Nat.le_succ _) (.int .i64 0) (.int .i64 0) (.slice none 0 0))
    clear b2 CALL hLS
    go_upto_region 7 with fail
    generalize w2.alloc (.cells #[.int .i64 nm, .int .i64 ba, .int .u32 (so : Int), .int .i64 0, .int .i64 0] 53) = w3 at *
    generalize w2.heap.size = ob at *
    clear k0 k1 k2 k3 k4 c0 c1 c2
    by_cases h3 : g = 9223372036854775807
    · subst h3
      go_wp2_with fail
      show bodyPost _ _ _ _ _ (put3 w3 (w.heap.size + 1) (.int .i64 0) (.int .i64 0) (.slice none 0 0))
      generalize put3 w3 (w.heap.size + 1) (.int .i64 0) (.int .i64 0) (.slice none 0 0) = w5 at *
      obtain ⟨k0, k1, k2⟩ := F.out
      refine bodyPost_ret (by simp [results, Try.results16, go_sem, k0, k1, k2]; rfl) rfl ?_
      rw [hE.out]
      exact ⟨_, rfl, Own.nil _ _, BF.out⟩
    · have h4 : nm = 9223372036854775807 := hx.resolve_left h3
      have h3' : (g == 9223372036854775807) = false := by simpa using h3
      subst h4
      go_wp2_with fail
      show bodyPost _ _ _ _ _ (put3 w3 (w.heap.size + 1) (.int .i64 0) (.int .i64 0) (.slice none 0 0))
      generalize put3 w3 (w.heap.size + 1) (.int .i64 0) (.int .i64 0) (.slice none 0 0) = w5 at *
      obtain ⟨k0, k1, k2⟩ := F.out
      refine bodyPost_ret (by simp [results, Try.results16, go_sem, k0, k1, k2]; rfl) rfl ?_
      rw [hE.out]
      exact ⟨_, rfl, Own.nil _ _, BF.out⟩
  · rw [if_neg hx] at hE
    have h3 : ¬ g = 9223372036854775807 := fun c => hx (.inl c)
    have h4 : ¬ nm = 9223372036854775807 := fun c => hx (.inr c)
    have h3' : (g == 9223372036854775807) = false := by simpa using h3
    have h4' : (nm == 9223372036854775807) = false := by simpa using h4
    have hwg : IntKind.i64.wrap (g + 1) = g + 1 := by rw [IntKind.wrap_i64]; omega
    have hwn : IntKind.i64.wrap (nm + 1) = nm + 1 := by rw [IntKind.wrap_i64]; omega
    have hRin := hide (hRIN.out (by omega))
    clear hx hRIN
    go_enter Try.func16, Try.ntmps16
    go_wp2_with fail
    refine CALL.out.mono ?_
    rintro e w2 ⟨rfl, b2⟩
    have B2 := hide (keepF hB.out b2)
    have r1 : Hid (w2.heap[w.heap.size]? = some (.cells #[.int .i64 g, .int .i64 fi, .slice (some ⟨b, off, none⟩) (M + 1) ca] 29 (0, 0))) := by show _ = _; rw [b2.block _ (heap_lt hb1.out)]; exact hb1.out
    have r2 : Hid (w2.heap[w.heap.size + 1]? = some (.cells #[.int .i64 0, .int .i64 0, .slice none 0 0] 29 (0, 0))) := by show _ = _; rw [b2.block _ (heap_lt hb2.out)]; exact hb2.out
    obtain ⟨c0, c1, c2⟩ := three_cells r1.out
    obtain ⟨k0, k1, k2, k3, k4⟩ := hLS.below B2.out
    dsimp only at k0 k1 k2 k3 k4
    have X0 := hide (box_below w2 (.cells #[.int .i64 nm, .int .i64 ba, .int .u32 (so : Int), .int .i64 0, .int .i64 0] 53))
    have s1 : Hid ((w2.alloc (.cells #[.int .i64 nm, .int .i64 ba, .int .u32 (so : Int), .int .i64 0, .int .i64 0] 53)).heap[w.heap.size]? = some (.cells #[.int .i64 g, .int .i64 fi, .slice (some ⟨b, off, none⟩) (M + 1) ca] 29 (0, 0))) := by show _ = _; rw [X0.out.block _ (heap_lt r1.out)]; exact r1.out
    have s2 : Hid ((w2.alloc (.cells #[.int .i64 nm, .int .i64 ba, .int .u32 (so : Int), .int .i64 0, .int .i64 0] 53)).heap[w.heap.size + 1]? = some (.cells #[.int .i64 0, .int .i64 0, .slice none 0 0] 29 (0, 0))) := by show _ = _; rw [X0.out.block _ (heap_lt r2.out)]; exact r2.out
    have s3 := hide (heap_alloc_new w2 (.cells #[.int .i64 nm, .int .i64 ba, .int .u32 (so : Int), .int .i64 0, .int .i64 0] 53))
    have B3 := hide (keepF B2.out X0.out)
    have hob := hide B2.out.size
    have hob2 := hide (heap_lt r2.out)
    clear b2 CALL hLS
    go_upto_region 7 with fail
    generalize w2.alloc (.cells #[.int .i64 nm, .int .i64 ba, .int .u32 (so : Int), .int .i64 0, .int .i64 0] 53) = w3 at *
    generalize w2.heap.size = ob at *
    clear k0 k1 k2 k3 k4 c0 c1 c2 r1 r2 X0 B2
    obtain ⟨c0, c1, c2⟩ := three_cells s1.out
    obtain ⟨k0, k1, k2, k3, k4⟩ := five_cells s3.out
    have X0 := hide (box_below w3 (.cells #[.int .i64 (nm + 1), .int .i64 en, .int .u32 (se : Int), .int .i64 0, .int .i64 0] 53))
    have t1 : Hid ((w3.alloc (.cells #[.int .i64 (nm + 1), .int .i64 en, .int .u32 (se : Int), .int .i64 0, .int .i64 0] 53)).heap[w.heap.size]? = some (.cells #[.int .i64 g, .int .i64 fi, .slice (some ⟨b, off, none⟩) (M + 1) ca] 29 (0, 0))) := by show _ = _; rw [X0.out.block _ (heap_lt s1.out)]; exact s1.out
    have t2 : Hid ((w3.alloc (.cells #[.int .i64 (nm + 1), .int .i64 en, .int .u32 (se : Int), .int .i64 0, .int .i64 0] 53)).heap[w.heap.size + 1]? = some (.cells #[.int .i64 0, .int .i64 0, .slice none 0 0] 29 (0, 0))) := by show _ = _; rw [X0.out.block _ (heap_lt s2.out)]; exact s2.out
    have t3 : Hid ((w3.alloc (.cells #[.int .i64 (nm + 1), .int .i64 en, .int .u32 (se : Int), .int .i64 0, .int .i64 0] 53)).heap[ob]? = some (.cells #[.int .i64 nm, .int .i64 ba, .int .u32 (so : Int), .int .i64 0, .int .i64 0] 53 (0, 0))) := by show _ = _; rw [X0.out.block _ (heap_lt s3.out)]; exact s3.out
    have t4 := hide (heap_alloc_new w3 (.cells #[.int .i64 (nm + 1), .int .i64 en, .int .u32 (se : Int), .int .i64 0, .int .i64 0] 53))
    have B4 := hide (keepF B3.out X0.out)
    have hxb := hide (heap_lt s3.out)
    go_upto_region 10 with fail
    generalize w3.alloc (.cells #[.int .i64 (nm + 1), .int .i64 en, .int .u32 (se : Int), .int .i64 0, .int .i64 0] 53) = w4 at *
    generalize w3.heap.size = xb at *
    clear k0 k1 k2 k3 k4 c0 c1 c2 s1 s2 s3 X0 B3
    obtain ⟨k0, k1, k2, k3, k4⟩ := five_cells t3.out
    obtain ⟨f3, f4⟩ := five_frozen t3.out
    have B5 := hide ((B4.out.setCell hob.out (p := ⟨ob, 3, none⟩) (.int .i64 en)).setCell hob.out (p := ⟨ob, 4, none⟩) (.int .i64 sz))
    have u1 : Hid (((w4.setCell ⟨ob, 3, none⟩ (.int .i64 en)).setCell ⟨ob, 4, none⟩ (.int .i64 sz)).heap[w.heap.size]? = some (.cells #[.int .i64 g, .int .i64 fi, .slice (some ⟨b, off, none⟩) (M + 1) ca] 29 (0, 0))) := by show _ = _; rw [heap_setCell_other _ _ _ _ (by have := hob2.out; have := hob.out; show w.heap.size ≠ ob; omega), heap_setCell_other _ _ _ _ (by have := hob2.out; have := hob.out; show w.heap.size ≠ ob; omega)]; exact t1.out
    have u2 : Hid (((w4.setCell ⟨ob, 3, none⟩ (.int .i64 en)).setCell ⟨ob, 4, none⟩ (.int .i64 sz)).heap[w.heap.size + 1]? = some (.cells #[.int .i64 0, .int .i64 0, .slice none 0 0] 29 (0, 0))) := by show _ = _; rw [heap_setCell_other _ _ _ _ (by have := hob2.out; show w.heap.size + 1 ≠ ob; omega), heap_setCell_other _ _ _ _ (by have := hob2.out; show w.heap.size + 1 ≠ ob; omega)]; exact t2.out
    have u3 := hide (put5_heap t3.out (.int .i64 en) (.int .i64 sz))
    have u4 : Hid (((w4.setCell ⟨ob, 3, none⟩ (.int .i64 en)).setCell ⟨ob, 4, none⟩ (.int .i64 sz)).heap[xb]? = some (.cells #[.int .i64 (nm + 1), .int .i64 en, .int .u32 (se : Int), .int .i64 0, .int .i64 0] 53 (0, 0))) := by show _ = _; rw [heap_setCell_other _ _ _ _ (by have := hxb.out; show xb ≠ ob; omega), heap_setCell_other _ _ _ _ (by have := hxb.out; show xb ≠ ob; omega)]; exact t4.out
    go_upto_region 11 with fail
    generalize (w4.setCell ⟨ob, 3, none⟩ (.int .i64 en)).setCell ⟨ob, 4, none⟩ (.int .i64 sz) = w5 at *
    clear k0 k1 k2 k3 k4 f3 f4 t1 t2 t3 t4 B4 hxb
    have VT : Hid (Sgs w5 (.slice (some ⟨b, off, none⟩) M ca) (l.take M)) := (HV.out.below B5.out).take M (by rw [hN.out]; omega)
    have hTl : Hid ((l.take M).length ≤ 100) := by show _ ≤ _; simp; omega
    have hRl : Hid ((rolled l en sz se).length = (l.take M).length + 2) := by show _ = _; rw [hTR.out]; simp
    have hRs : Hid (scells (rolled l en sz se) = scells (l.take M) ++ [.int .i64 nm, .int .i64 ba, .int .u32 (so : Int), .int .i64 en, .int .i64 sz, .int .i64 (nm + 1), .int .i64 en, .int .u32 (se : Int), .int .i64 0, .int .i64 0]) := by show _ = _; rw [hTR.out, scells_append]; rfl
    generalize l.take M = T at *
    generalize rolled l en sz se = R at *
    obtain ⟨cb, hcb⟩ : ∃ cb, Hid (w.heap.size = cb) := ⟨_, rfl⟩
    rw [hcb.out] at u1 u2 B5 hob hob2 ⊢
    have KC : Hid (∀ q, Below w5.heap.size w5 q → q.cell? ⟨cb, 0, none⟩ = some (.int .i64 g) ∧ q.cell? ⟨cb, 1, none⟩ = some (.int .i64 fi) ∧ q.cell? ⟨cb, 2, none⟩ = some (.slice (some ⟨b, off, none⟩) (M + 1) ca) ∧ q.cell? ⟨ob, 0, none⟩ = some (.int .i64 nm) ∧ q.cell? ⟨ob, 1, none⟩ = some (.int .i64 ba) ∧ q.cell? ⟨ob, 2, none⟩ = some (.int .u32 (so : Int)) ∧ q.cell? ⟨ob, 3, none⟩ = some (.int .i64 en) ∧ q.cell? ⟨ob, 4, none⟩ = some (.int .i64 sz) ∧ q.cell? ⟨xb, 0, none⟩ = some (.int .i64 (nm + 1)) ∧ q.cell? ⟨xb, 1, none⟩ = some (.int .i64 en) ∧ q.cell? ⟨xb, 2, none⟩ = some (.int .u32 (se : Int)) ∧ q.cell? ⟨xb, 3, none⟩ = some (.int .i64 0) ∧ q.cell? ⟨xb, 4, none⟩ = some (.int .i64 0)) := by
      intro q hb
      obtain ⟨c0, c1, c2⟩ := three_cells (show q.heap[cb]? = _ by rw [hb.block _ (heap_lt u1.out)]; exact u1.out)
      obtain ⟨d0, d1, d2, d3, d4⟩ := five_cells (show q.heap[ob]? = _ by rw [hb.block _ (heap_lt u3.out)]; exact u3.out)
      obtain ⟨e0, e1, e2, e3, e4⟩ := five_cells (show q.heap[xb]? = _ by rw [hb.block _ (heap_lt u4.out)]; exact u4.out)
      exact ⟨c0, c1, c2, d0, d1, d2, d3, d4, e0, e1, e2, e3, e4⟩
    obtain ⟨i0, hi, hz0, hz1, hz2⟩ := info_parts infoSeg
    have hMca : M ≤ ca := by omega
    go_cut [13] from 49 to 64 (fun y wx => ∃ nb v2, y = .pointer (some ⟨nb, 0, none⟩) ∧ Hid (w5.heap.size ≤ nb ∧ Below w5.heap.size w5 wx ∧ Own w5.heap.size wx v2 R ∧ wx.heap[nb]? = some (.cells #[.int .i64 (g + 1), .int .i64 fi, v2] 29 (0, 0))))
    case first =>
      have KP : Hid (Below w5.heap.size w5 w5.drew) := (Below.refl _ _).drew
      refine wp_region_held_drew (S := fun q => Below w5.heap.size w5 q) (by kernel_rfl) KP.out (fun hHeld => ?_)
      clear hHeld
      have VT0 := VT
      generalize w5.drew = q at *
      refine wpAnyH_take (i := 0) (oi := { dst := some 49, op := Op.fieldAddr 29 (Operand.tmp 4) 0, type := 0, pos := "catalog.go:81", after := #[], guard := none }) (v := .pointer (some ⟨cb, 0, none⟩)) rfl (by kernel_rfl) (by kernel_rfl) (by kernel_rfl) (fun _ _ _ h => h) (Or.inl ⟨by rfl, ?_⟩) KP.out ?_
      · intro wq hSw
        obtain ⟨c0, c1, c2, d0, d1, d2, d3, d4, e0, e1, e2, e3, e4⟩ := KC.out wq hSw
        go_simp
      (try simp only [Act.put, List.setIfInBounds_toArray, List.set_cons_zero, List.set_cons_succ])
      refine wpAnyH_take (i := 1) (oi := { dst := some 50, op := Op.load 2 (Operand.tmp 49), type := 2, pos := "catalog.go:81", after := #[{ on := 0, ground := Ground.data }], guard := none }) (v := .int .i64 g) rfl (by kernel_rfl) (by kernel_rfl) (by kernel_rfl) (fun _ _ _ h => h) (Or.inl ⟨by rfl, ?_⟩) KP.out ?_
      · intro wq hSw
        obtain ⟨c0, c1, c2, d0, d1, d2, d3, d4, e0, e1, e2, e3, e4⟩ := KC.out wq hSw
        go_simp
      (try simp only [Act.put, List.setIfInBounds_toArray, List.set_cons_zero, List.set_cons_succ])
      refine wpAnyH_take (i := 2) (oi := { dst := some 51, op := Op.binOp BinOp.add 2 (Operand.tmp 50) (Operand.const (Value.int IntKind.i64 1)) 2, type := 2, pos := "catalog.go:81", after := #[{ on := 1, ground := Ground.data }], guard := none }) (v := .int .i64 (g + 1)) rfl (by kernel_rfl) (by kernel_rfl) (by kernel_rfl) (fun _ _ _ h => h) (Or.inl ⟨by rfl, ?_⟩) KP.out ?_
      · intro wq hSw
        obtain ⟨c0, c1, c2, d0, d1, d2, d3, d4, e0, e1, e2, e3, e4⟩ := KC.out wq hSw
        go_simp
      (try simp only [Act.put, List.setIfInBounds_toArray, List.set_cons_zero, List.set_cons_succ])
      refine wpAnyH_take (i := 3) (oi := { dst := some 52, op := Op.fieldAddr 29 (Operand.tmp 4) 1, type := 0, pos := "catalog.go:81", after := #[], guard := none }) (v := .pointer (some ⟨cb, 1, none⟩)) rfl (by kernel_rfl) (by kernel_rfl) (by kernel_rfl) (fun _ _ _ h => h) (Or.inl ⟨by rfl, ?_⟩) KP.out ?_
      · intro wq hSw
        obtain ⟨c0, c1, c2, d0, d1, d2, d3, d4, e0, e1, e2, e3, e4⟩ := KC.out wq hSw
        go_simp
      (try simp only [Act.put, List.setIfInBounds_toArray, List.set_cons_zero, List.set_cons_succ])
      refine wpAnyH_take (i := 4) (oi := { dst := some 53, op := Op.load 2 (Operand.tmp 52), type := 2, pos := "catalog.go:81", after := #[{ on := 3, ground := Ground.data }], guard := none }) (v := .int .i64 fi) rfl (by kernel_rfl) (by kernel_rfl) (by kernel_rfl) (fun _ _ _ h => h) (Or.inl ⟨by rfl, ?_⟩) KP.out ?_
      · intro wq hSw
        obtain ⟨c0, c1, c2, d0, d1, d2, d3, d4, e0, e1, e2, e3, e4⟩ := KC.out wq hSw
        go_simp
      (try simp only [Act.put, List.setIfInBounds_toArray, List.set_cons_zero, List.set_cons_succ])
      refine wpAnyH_take (i := 5) (oi := { dst := some 54, op := Op.fieldAddr 29 (Operand.tmp 4) 2, type := 0, pos := "catalog.go:81", after := #[], guard := none }) (v := .pointer (some ⟨cb, 2, none⟩)) rfl (by kernel_rfl) (by kernel_rfl) (by kernel_rfl) (fun _ _ _ h => h) (Or.inl ⟨by rfl, ?_⟩) KP.out ?_
      · intro wq hSw
        obtain ⟨c0, c1, c2, d0, d1, d2, d3, d4, e0, e1, e2, e3, e4⟩ := KC.out wq hSw
        go_simp
      (try simp only [Act.put, List.setIfInBounds_toArray, List.set_cons_zero, List.set_cons_succ])
      refine wpAnyH_take (i := 6) (oi := { dst := some 55, op := Op.load 27 (Operand.tmp 54), type := 27, pos := "catalog.go:81", after := #[{ on := 5, ground := Ground.data }], guard := none }) (v := .slice (some ⟨b, off, none⟩) (M + 1) ca) rfl (by kernel_rfl) (by kernel_rfl) (by kernel_rfl) (fun _ _ _ h => h) (Or.inl ⟨by rfl, ?_⟩) KP.out ?_
      · intro wq hSw
        obtain ⟨c0, c1, c2, d0, d1, d2, d3, d4, e0, e1, e2, e3, e4⟩ := KC.out wq hSw
        go_simp
      (try simp only [Act.put, List.setIfInBounds_toArray, List.set_cons_zero, List.set_cons_succ])
      refine wpAnyH_take (i := 7) (oi := { dst := some 56, op := Op.move (Operand.tmp 10), type := 3, pos := "catalog.go:81", after := #[], guard := none }) (v := .int .i64 ((M : Int) + 1)) rfl (by kernel_rfl) (by kernel_rfl) (by kernel_rfl) (fun _ _ _ h => h) (Or.inl ⟨by rfl, ?_⟩) KP.out ?_
      · intro wq hSw
        obtain ⟨c0, c1, c2, d0, d1, d2, d3, d4, e0, e1, e2, e3, e4⟩ := KC.out wq hSw
        go_simp
      (try simp only [Act.put, List.setIfInBounds_toArray, List.set_cons_zero, List.set_cons_succ])
      refine wpAnyH_take (i := 8) (oi := { dst := some 57, op := Op.binOp BinOp.sub 3 (Operand.tmp 56) (Operand.const (Value.int IntKind.i64 1)) 3, type := 3, pos := "catalog.go:81", after := #[{ on := 7, ground := Ground.data }], guard := none }) (v := .int .i64 (M : Int)) rfl (by kernel_rfl) (by kernel_rfl) (by kernel_rfl) (fun _ _ _ h => h) (Or.inl ⟨by rfl, ?_⟩) KP.out ?_
      · intro wq hSw
        obtain ⟨c0, c1, c2, d0, d1, d2, d3, d4, e0, e1, e2, e3, e4⟩ := KC.out wq hSw
        go_simp
      (try simp only [Act.put, List.setIfInBounds_toArray, List.set_cons_zero, List.set_cons_succ])
      refine wpAnyH_take (i := 9) (oi := { dst := some 58, op := Op.slice 27 (Operand.tmp 55) none (some (Operand.tmp 57)) none, type := 27, pos := "catalog.go:81", after := #[{ on := 6, ground := Ground.data }, { on := 8, ground := Ground.data }], guard := none }) (v := .slice (some ⟨b, off, none⟩) M ca) rfl (by kernel_rfl) (by kernel_rfl) (by kernel_rfl) (fun _ _ _ h => h) (Or.inl ⟨by rfl, ?_⟩) KP.out ?_
      · intro wq hSw
        obtain ⟨c0, c1, c2, d0, d1, d2, d3, d4, e0, e1, e2, e3, e4⟩ := KC.out wq hSw
        go_simp
        (try (intro h; exfalso; omega))
      (try simp only [Act.put, List.setIfInBounds_toArray, List.set_cons_zero, List.set_cons_succ])
      refine wpAnyH_take (i := 11) (oi := { dst := some 60, op := Op.load 53 (Operand.tmp 11), type := 53, pos := "catalog.go:81", after := #[], guard := none }) (v := .agg #[.int .i64 nm, .int .i64 ba, .int .u32 (so : Int), .int .i64 en, .int .i64 sz]) rfl (by kernel_rfl) (by kernel_rfl) (by kernel_rfl) (fun _ _ _ h => h) (Or.inl ⟨by rfl, ?_⟩) KP.out ?_
      · intro wq hSw
        obtain ⟨c0, c1, c2, d0, d1, d2, d3, d4, e0, e1, e2, e3, e4⟩ := KC.out wq hSw
        go_simp
      (try simp only [Act.put, List.setIfInBounds_toArray, List.set_cons_zero, List.set_cons_succ])
      refine wpAnyH_take (i := 12) (oi := { dst := some 61, op := Op.load 53 (Operand.tmp 12), type := 53, pos := "catalog.go:81", after := #[], guard := none }) (v := .agg #[.int .i64 (nm + 1), .int .i64 en, .int .u32 (se : Int), .int .i64 0, .int .i64 0]) rfl (by kernel_rfl) (by kernel_rfl) (by kernel_rfl) (fun _ _ _ h => h) (Or.inl ⟨by rfl, ?_⟩) KP.out ?_
      · intro wq hSw
        obtain ⟨c0, c1, c2, d0, d1, d2, d3, d4, e0, e1, e2, e3, e4⟩ := KC.out wq hSw
        go_simp
      (try simp only [Act.put, List.setIfInBounds_toArray, List.set_cons_zero, List.set_cons_succ])
      refine wpAnyH_ready (rs := [10, 13, 16]) (by kernel_rfl) (by simp) ?_
      refine AllReadyH.cons (o := { dst := some 59, op := Op.call { callee := Callee.value (Operand.func 37), args := #[Operand.tmp 58], argTypes := #[27] }, type := 27, pos := "catalog.go:84", after := #[{ on := 9, ground := Ground.data }], guard := none }) rfl (fun K hK => ?_) ?_
      · go_simp
        refine (clone_any q _ T (VT.out.below KP.out) hTl.out).mono ?_
        rintro e q1 ⟨vn, rfl, O1, B1⟩
        have KP1 := hide (keepF KP.out B1)
        replace O1 : Hid (Own w5.heap.size q1 vn T) := O1.low KP.out.size
        obtain ⟨aon, can, rfl, _, _⟩ := O1.out.form
        refine hK.out _ _ KP1.out (fun hHeld => ?_)
        clear hK K hHeld KP B1
        (try simp only [Act.put, List.setIfInBounds_toArray, List.set_cons_zero, List.set_cons_succ])
        clear q
        refine wpAnyH_ready (rs := [13, 16]) (by kernel_rfl) (by simp) ?_
        refine AllReadyH.cons (o := { dst := some 62, op := Op.buildSlice 27 2 #[(0, Operand.tmp 60), (1, Operand.tmp 61)], type := 27, pos := "catalog.go:81", after := #[{ on := 11, ground := Ground.data }, { on := 12, ground := Ground.data }], guard := none }) rfl (fun K hK => ?_) ?_
        · go_simp
          have KP2 := hide (keepF KP1.out (box_below q1 (.cells #[.int .i64 nm, .int .i64 ba, .int .u32 (so : Int), .int .i64 en, .int .i64 sz, .int .i64 (nm + 1), .int .i64 en, .int .u32 (se : Int), .int .i64 0, .int .i64 0] 53)))
          replace O1 := hide (O1.out.below (box_below q1 (.cells #[.int .i64 nm, .int .i64 ba, .int .u32 (so : Int), .int .i64 en, .int .i64 sz, .int .i64 (nm + 1), .int .i64 en, .int .u32 (se : Int), .int .i64 0, .int .i64 0] 53)))
          have SB := hide (heap_alloc_new q1 (.cells #[.int .i64 nm, .int .i64 ba, .int .u32 (so : Int), .int .i64 en, .int .i64 sz, .int .i64 (nm + 1), .int .i64 en, .int .u32 (se : Int), .int .i64 0, .int .i64 0] 53))
          refine hK.out _ _ KP2.out (fun hHeld => ?_)
          clear hK K hHeld KP1
          (try simp only [Act.put, List.setIfInBounds_toArray, List.set_cons_zero, List.set_cons_succ])
          generalize q1.alloc (.cells #[.int .i64 nm, .int .i64 ba, .int .u32 (so : Int), .int .i64 en, .int .i64 sz, .int .i64 (nm + 1), .int .i64 en, .int .u32 (se : Int), .int .i64 0, .int .i64 0] 53) = q2 at *
          generalize q1.heap.size = sb at *
          clear q1
          refine wpAnyH_ready (rs := [14, 16]) (by kernel_rfl) (by simp) ?_
          refine AllReadyH.cons (o := { dst := some 63, op := Op.call { callee := Callee.builtin Builtin.append, args := #[Operand.tmp 59, Operand.tmp 62], argTypes := #[27, 27] }, type := 27, pos := "catalog.go:81", after := #[{ on := 10, ground := Ground.data }, { on := 13, ground := Ground.data }, { on := 10, ground := Ground.chain }], guard := none }) rfl (fun K hK => ?_) ?_
          · refine step_append_lies _ rfl (.tmp 59) (.tmp 62) 27 rfl w5.heap.size 53 i0 (.agg #[.int .i64 0, .int .i64 0, .int .u32 0, .int .i64 0, .int .i64 0]) 5 40 Try.underlying27 hi hz0 hz1 hz2 rfl (by decide) (.slice aon T.length can) T.length (scells T) (by simp [Act.eval]) O1.out.2 ⟨sb, 0, none⟩ 2 2 [.int .i64 nm, .int .i64 ba, .int .u32 (so : Int), .int .i64 en, .int .i64 sz, .int .i64 (nm + 1), .int .i64 en, .int .u32 (se : Int), .int .i64 0, .int .i64 0] (by simp [Act.eval]) rfl (ten_new SB.out) (by simp [Value.oneCell']) (by decide) (by have := hTl.out; unfold maxLen; omega) (by have := hTl.out; omega) KP2.out.size q2.heap.size rfl ?_
            intro g2 cap2 q3 ho hgr hat hlt
            have KP3 := hide (Below.grown KP2.out hgr KP2.out.size (fun k hk => (O1.out.lt k hk).1))
            have V2 : Hid (Own w5.heap.size q3 (.slice (some ⟨g2, 0, none⟩) (T.length + 2) cap2) R) := ⟨hRin.out, by rw [hRl.out, hRs.out]; exact ho⟩
            refine hK.out _ _ KP3.out (fun hHeld => ?_)
            clear hK K hHeld KP2 hgr ho SB O1 hat hlt
            (try simp only [Act.put, List.setIfInBounds_toArray, List.set_cons_zero, List.set_cons_succ])
            clear q2
            refine wpAnyH_take (i := 15) (oi := { dst := some 64, op := Op.build 29 #[(0, Operand.tmp 51), (1, Operand.tmp 53), (2, Operand.tmp 63)], type := 29, pos := "catalog.go:81", after := #[{ on := 2, ground := Ground.data }, { on := 4, ground := Ground.data }, { on := 14, ground := Ground.data }], guard := none }) (v := .agg #[.int .i64 (g + 1), .int .i64 fi, (.slice (some ⟨g2, 0, none⟩) (T.length + 2) cap2)]) rfl (by kernel_rfl) (by kernel_rfl) (by kernel_rfl) (fun _ _ _ h => h) (Or.inl ⟨by rfl, ?_⟩) KP3.out ?_
            · intro wq hSw
              go_simp
            (try simp only [Act.put, List.setIfInBounds_toArray, List.set_cons_zero, List.set_cons_succ])
            refine wpAnyH_ready (rs := [16]) (by kernel_rfl) (by simp) ?_
            refine AllReadyH.cons (o := { dst := some 13, op := Op.alloc 29, type := 0, pos := "catalog.go:81", after := #[], guard := none }) rfl (fun K hK => ?_) ?_
            · go_simp
              have KP4 := hide (keepF KP3.out (box_below q3 (.cells #[.int .i64 0, .int .i64 0, .slice none 0 0] 29)))
              replace V2 := hide (V2.out.below (box_below q3 (.cells #[.int .i64 0, .int .i64 0, .slice none 0 0] 29)))
              have LB := hide (heap_alloc_new q3 (.cells #[.int .i64 0, .int .i64 0, .slice none 0 0] 29))
              have LL := hide KP3.out.size
              refine hK.out _ _ KP4.out (fun hHeld => ?_)
              clear hK K hHeld KP3
              (try simp only [Act.put, List.setIfInBounds_toArray, List.set_cons_zero, List.set_cons_succ])
              generalize q3.alloc (.cells #[.int .i64 0, .int .i64 0, .slice none 0 0] 29) = q4 at *
              generalize q3.heap.size = lb at *
              clear q3
              refine wpAnyH_ready (rs := [17]) (by kernel_rfl) (by simp) ?_
              refine AllReadyH.cons (o := { dst := none, op := Op.store 29 (Operand.tmp 13) (Operand.tmp 64), type := 0, pos := "catalog.go:81", after := #[{ on := 16, ground := Ground.data }, { on := 15, ground := Ground.data }, { on := 14, ground := Ground.chain }, { on := 0, ground := Ground.phase }, { on := 1, ground := Ground.phase }, { on := 2, ground := Ground.phase }, { on := 3, ground := Ground.phase }, { on := 4, ground := Ground.phase }, { on := 5, ground := Ground.phase }, { on := 6, ground := Ground.phase }, { on := 7, ground := Ground.phase }, { on := 8, ground := Ground.phase }, { on := 9, ground := Ground.phase }, { on := 10, ground := Ground.phase }, { on := 11, ground := Ground.phase }, { on := 12, ground := Ground.phase }, { on := 13, ground := Ground.phase }, { on := 14, ground := Ground.phase }, { on := 15, ground := Ground.phase }, { on := 16, ground := Ground.phase }], guard := none }) rfl (fun K hK => ?_) AllReadyH.nil
              have yy := three_cells LB.out
              have y0 := yy.1
              have y1 := yy.2.1
              have y2 := yy.2.2
              clear yy
              have xx := three_frozen LB.out
              have x0 := xx.1
              have x1 := xx.2.1
              have x2 := xx.2.2
              clear xx
              have KP5 := put3_below KP4.out LL.out (.int .i64 (g + 1)) (.int .i64 fi) (.slice (some ⟨g2, 0, none⟩) (T.length + 2) cap2)
              go_simp
              refine hK.out _ _ KP5 (fun hHeld => ?_)
              clear hK K hHeld y0 y1 y2 x0 x1 x2
              refine wpAnyH_done (by kernel_rfl) ?_ _
              go_wp2_with fail
              go_meet
              case rel =>
                refine ⟨lb, (.slice (some ⟨g2, 0, none⟩) (T.length + 2) cap2), rfl, ?_⟩
                have z1 := V2.out.put3 LB.out (by decide) (.int .i64 (g + 1)) (.int .i64 fi) (.slice (some ⟨g2, 0, none⟩) (T.length + 2) cap2)
                have z2 := put3_heap LB.out (.int .i64 (g + 1)) (.int .i64 fi) (.slice (some ⟨g2, 0, none⟩) (T.length + 2) cap2)
                exact ⟨LL.out, KP5, z1, z2⟩
            exact AllReadyH.nil
          refine AllReadyH.cons (o := { dst := some 13, op := Op.alloc 29, type := 0, pos := "catalog.go:81", after := #[], guard := none }) rfl (fun K hK => ?_) ?_
          · go_simp
            have KP6 := hide (keepF KP2.out (box_below q2 (.cells #[.int .i64 0, .int .i64 0, .slice none 0 0] 29)))
            replace O1 := hide (O1.out.below (box_below q2 (.cells #[.int .i64 0, .int .i64 0, .slice none 0 0] 29)))
            replace SB : Hid ((q2.alloc (.cells #[.int .i64 0, .int .i64 0, .slice none 0 0] 29)).heap[sb]? = some (.cells #[.int .i64 nm, .int .i64 ba, .int .u32 (so : Int), .int .i64 en, .int .i64 sz, .int .i64 (nm + 1), .int .i64 en, .int .u32 (se : Int), .int .i64 0, .int .i64 0] 53 (0, 0))) := hide (by rw [(box_below q2 _).block sb (heap_lt SB.out)]; exact SB.out)
            have LB := hide (heap_alloc_new q2 (.cells #[.int .i64 0, .int .i64 0, .slice none 0 0] 29))
            have LL := hide KP2.out.size
            refine hK.out _ _ KP6.out (fun hHeld => ?_)
            clear hK K hHeld KP2
            (try simp only [Act.put, List.setIfInBounds_toArray, List.set_cons_zero, List.set_cons_succ])
            generalize q2.alloc (.cells #[.int .i64 0, .int .i64 0, .slice none 0 0] 29) = q6 at *
            generalize q2.heap.size = lb at *
            clear q2
            refine wpAnyH_ready (rs := [14]) (by kernel_rfl) (by simp) ?_
            refine AllReadyH.cons (o := { dst := some 63, op := Op.call { callee := Callee.builtin Builtin.append, args := #[Operand.tmp 59, Operand.tmp 62], argTypes := #[27, 27] }, type := 27, pos := "catalog.go:81", after := #[{ on := 10, ground := Ground.data }, { on := 13, ground := Ground.data }, { on := 10, ground := Ground.chain }], guard := none }) rfl (fun K hK => ?_) ?_
            · refine step_append_lies _ rfl (.tmp 59) (.tmp 62) 27 rfl w5.heap.size 53 i0 (.agg #[.int .i64 0, .int .i64 0, .int .u32 0, .int .i64 0, .int .i64 0]) 5 40 Try.underlying27 hi hz0 hz1 hz2 rfl (by decide) (.slice aon T.length can) T.length (scells T) (by simp [Act.eval]) O1.out.2 ⟨sb, 0, none⟩ 2 2 [.int .i64 nm, .int .i64 ba, .int .u32 (so : Int), .int .i64 en, .int .i64 sz, .int .i64 (nm + 1), .int .i64 en, .int .u32 (se : Int), .int .i64 0, .int .i64 0] (by simp [Act.eval]) rfl (ten_new SB.out) (by simp [Value.oneCell']) (by decide) (by have := hTl.out; unfold maxLen; omega) (by have := hTl.out; omega) KP6.out.size q6.heap.size rfl ?_
              intro g2 cap2 q7 ho hgr hat hlt
              have KP7 := hide (Below.grown KP6.out hgr KP6.out.size (fun k hk => (O1.out.lt k hk).1))
              have V2 : Hid (Own w5.heap.size q7 (.slice (some ⟨g2, 0, none⟩) (T.length + 2) cap2) R) := ⟨hRin.out, by rw [hRl.out, hRs.out]; exact ho⟩
              replace LB : Hid (q7.heap[lb]? = some (.cells #[.int .i64 0, .int .i64 0, .slice none 0 0] 29 (0, 0))) := hide (by rw [hgr.block lb (heap_lt LB.out) (fun e => O1.out.no LB.out (by decide) e.symm)]; exact LB.out)
              refine hK.out _ _ KP7.out (fun hHeld => ?_)
              clear hK K hHeld KP6 hgr ho SB O1 hat hlt
              (try simp only [Act.put, List.setIfInBounds_toArray, List.set_cons_zero, List.set_cons_succ])
              clear q6
              refine wpAnyH_take (i := 15) (oi := { dst := some 64, op := Op.build 29 #[(0, Operand.tmp 51), (1, Operand.tmp 53), (2, Operand.tmp 63)], type := 29, pos := "catalog.go:81", after := #[{ on := 2, ground := Ground.data }, { on := 4, ground := Ground.data }, { on := 14, ground := Ground.data }], guard := none }) (v := .agg #[.int .i64 (g + 1), .int .i64 fi, (.slice (some ⟨g2, 0, none⟩) (T.length + 2) cap2)]) rfl (by kernel_rfl) (by kernel_rfl) (by kernel_rfl) (fun _ _ _ h => h) (Or.inl ⟨by rfl, ?_⟩) KP7.out ?_
              · intro wq hSw
                go_simp
              (try simp only [Act.put, List.setIfInBounds_toArray, List.set_cons_zero, List.set_cons_succ])
              refine wpAnyH_ready (rs := [17]) (by kernel_rfl) (by simp) ?_
              refine AllReadyH.cons (o := { dst := none, op := Op.store 29 (Operand.tmp 13) (Operand.tmp 64), type := 0, pos := "catalog.go:81", after := #[{ on := 16, ground := Ground.data }, { on := 15, ground := Ground.data }, { on := 14, ground := Ground.chain }, { on := 0, ground := Ground.phase }, { on := 1, ground := Ground.phase }, { on := 2, ground := Ground.phase }, { on := 3, ground := Ground.phase }, { on := 4, ground := Ground.phase }, { on := 5, ground := Ground.phase }, { on := 6, ground := Ground.phase }, { on := 7, ground := Ground.phase }, { on := 8, ground := Ground.phase }, { on := 9, ground := Ground.phase }, { on := 10, ground := Ground.phase }, { on := 11, ground := Ground.phase }, { on := 12, ground := Ground.phase }, { on := 13, ground := Ground.phase }, { on := 14, ground := Ground.phase }, { on := 15, ground := Ground.phase }, { on := 16, ground := Ground.phase }], guard := none }) rfl (fun K hK => ?_) AllReadyH.nil
              have yy := three_cells LB.out
              have y0 := yy.1
              have y1 := yy.2.1
              have y2 := yy.2.2
              clear yy
              have xx := three_frozen LB.out
              have x0 := xx.1
              have x1 := xx.2.1
              have x2 := xx.2.2
              clear xx
              have KP8 := put3_below KP7.out LL.out (.int .i64 (g + 1)) (.int .i64 fi) (.slice (some ⟨g2, 0, none⟩) (T.length + 2) cap2)
              go_simp
              refine hK.out _ _ KP8 (fun hHeld => ?_)
              clear hK K hHeld y0 y1 y2 x0 x1 x2
              refine wpAnyH_done (by kernel_rfl) ?_ _
              go_wp2_with fail
              go_meet
              case rel =>
                refine ⟨lb, (.slice (some ⟨g2, 0, none⟩) (T.length + 2) cap2), rfl, ?_⟩
                have z1 := V2.out.put3 LB.out (by decide) (.int .i64 (g + 1)) (.int .i64 fi) (.slice (some ⟨g2, 0, none⟩) (T.length + 2) cap2)
                have z2 := put3_heap LB.out (.int .i64 (g + 1)) (.int .i64 fi) (.slice (some ⟨g2, 0, none⟩) (T.length + 2) cap2)
                exact ⟨LL.out, KP8, z1, z2⟩
            exact AllReadyH.nil
          exact AllReadyH.nil
        refine AllReadyH.cons (o := { dst := some 13, op := Op.alloc 29, type := 0, pos := "catalog.go:81", after := #[], guard := none }) rfl (fun K hK => ?_) ?_
        · go_simp
          have KP9 := hide (keepF KP1.out (box_below q1 (.cells #[.int .i64 0, .int .i64 0, .slice none 0 0] 29)))
          replace O1 := hide (O1.out.below (box_below q1 (.cells #[.int .i64 0, .int .i64 0, .slice none 0 0] 29)))
          have LB := hide (heap_alloc_new q1 (.cells #[.int .i64 0, .int .i64 0, .slice none 0 0] 29))
          have LL := hide KP1.out.size
          refine hK.out _ _ KP9.out (fun hHeld => ?_)
          clear hK K hHeld KP1
          (try simp only [Act.put, List.setIfInBounds_toArray, List.set_cons_zero, List.set_cons_succ])
          generalize q1.alloc (.cells #[.int .i64 0, .int .i64 0, .slice none 0 0] 29) = q9 at *
          generalize q1.heap.size = lb at *
          clear q1
          refine wpAnyH_ready (rs := [13]) (by kernel_rfl) (by simp) ?_
          refine AllReadyH.cons (o := { dst := some 62, op := Op.buildSlice 27 2 #[(0, Operand.tmp 60), (1, Operand.tmp 61)], type := 27, pos := "catalog.go:81", after := #[{ on := 11, ground := Ground.data }, { on := 12, ground := Ground.data }], guard := none }) rfl (fun K hK => ?_) ?_
          · go_simp
            have KP10 := hide (keepF KP9.out (box_below q9 (.cells #[.int .i64 nm, .int .i64 ba, .int .u32 (so : Int), .int .i64 en, .int .i64 sz, .int .i64 (nm + 1), .int .i64 en, .int .u32 (se : Int), .int .i64 0, .int .i64 0] 53)))
            replace O1 := hide (O1.out.below (box_below q9 (.cells #[.int .i64 nm, .int .i64 ba, .int .u32 (so : Int), .int .i64 en, .int .i64 sz, .int .i64 (nm + 1), .int .i64 en, .int .u32 (se : Int), .int .i64 0, .int .i64 0] 53)))
            replace LB : Hid ((q9.alloc (.cells #[.int .i64 nm, .int .i64 ba, .int .u32 (so : Int), .int .i64 en, .int .i64 sz, .int .i64 (nm + 1), .int .i64 en, .int .u32 (se : Int), .int .i64 0, .int .i64 0] 53)).heap[lb]? = some (.cells #[.int .i64 0, .int .i64 0, .slice none 0 0] 29 (0, 0))) := hide (by rw [(box_below q9 _).block lb (heap_lt LB.out)]; exact LB.out)
            have SB := hide (heap_alloc_new q9 (.cells #[.int .i64 nm, .int .i64 ba, .int .u32 (so : Int), .int .i64 en, .int .i64 sz, .int .i64 (nm + 1), .int .i64 en, .int .u32 (se : Int), .int .i64 0, .int .i64 0] 53))
            refine hK.out _ _ KP10.out (fun hHeld => ?_)
            clear hK K hHeld KP9
            (try simp only [Act.put, List.setIfInBounds_toArray, List.set_cons_zero, List.set_cons_succ])
            generalize q9.alloc (.cells #[.int .i64 nm, .int .i64 ba, .int .u32 (so : Int), .int .i64 en, .int .i64 sz, .int .i64 (nm + 1), .int .i64 en, .int .u32 (se : Int), .int .i64 0, .int .i64 0] 53) = q10 at *
            generalize q9.heap.size = sb at *
            clear q9
            refine wpAnyH_ready (rs := [14]) (by kernel_rfl) (by simp) ?_
            refine AllReadyH.cons (o := { dst := some 63, op := Op.call { callee := Callee.builtin Builtin.append, args := #[Operand.tmp 59, Operand.tmp 62], argTypes := #[27, 27] }, type := 27, pos := "catalog.go:81", after := #[{ on := 10, ground := Ground.data }, { on := 13, ground := Ground.data }, { on := 10, ground := Ground.chain }], guard := none }) rfl (fun K hK => ?_) ?_
            · refine step_append_lies _ rfl (.tmp 59) (.tmp 62) 27 rfl w5.heap.size 53 i0 (.agg #[.int .i64 0, .int .i64 0, .int .u32 0, .int .i64 0, .int .i64 0]) 5 40 Try.underlying27 hi hz0 hz1 hz2 rfl (by decide) (.slice aon T.length can) T.length (scells T) (by simp [Act.eval]) O1.out.2 ⟨sb, 0, none⟩ 2 2 [.int .i64 nm, .int .i64 ba, .int .u32 (so : Int), .int .i64 en, .int .i64 sz, .int .i64 (nm + 1), .int .i64 en, .int .u32 (se : Int), .int .i64 0, .int .i64 0] (by simp [Act.eval]) rfl (ten_new SB.out) (by simp [Value.oneCell']) (by decide) (by have := hTl.out; unfold maxLen; omega) (by have := hTl.out; omega) KP10.out.size q10.heap.size rfl ?_
              intro g2 cap2 q11 ho hgr hat hlt
              have KP11 := hide (Below.grown KP10.out hgr KP10.out.size (fun k hk => (O1.out.lt k hk).1))
              have V2 : Hid (Own w5.heap.size q11 (.slice (some ⟨g2, 0, none⟩) (T.length + 2) cap2) R) := ⟨hRin.out, by rw [hRl.out, hRs.out]; exact ho⟩
              replace LB : Hid (q11.heap[lb]? = some (.cells #[.int .i64 0, .int .i64 0, .slice none 0 0] 29 (0, 0))) := hide (by rw [hgr.block lb (heap_lt LB.out) (fun e => O1.out.no LB.out (by decide) e.symm)]; exact LB.out)
              refine hK.out _ _ KP11.out (fun hHeld => ?_)
              clear hK K hHeld KP10 hgr ho SB O1 hat hlt
              (try simp only [Act.put, List.setIfInBounds_toArray, List.set_cons_zero, List.set_cons_succ])
              clear q10
              refine wpAnyH_take (i := 15) (oi := { dst := some 64, op := Op.build 29 #[(0, Operand.tmp 51), (1, Operand.tmp 53), (2, Operand.tmp 63)], type := 29, pos := "catalog.go:81", after := #[{ on := 2, ground := Ground.data }, { on := 4, ground := Ground.data }, { on := 14, ground := Ground.data }], guard := none }) (v := .agg #[.int .i64 (g + 1), .int .i64 fi, (.slice (some ⟨g2, 0, none⟩) (T.length + 2) cap2)]) rfl (by kernel_rfl) (by kernel_rfl) (by kernel_rfl) (fun _ _ _ h => h) (Or.inl ⟨by rfl, ?_⟩) KP11.out ?_
              · intro wq hSw
                go_simp
              (try simp only [Act.put, List.setIfInBounds_toArray, List.set_cons_zero, List.set_cons_succ])
              refine wpAnyH_ready (rs := [17]) (by kernel_rfl) (by simp) ?_
              refine AllReadyH.cons (o := { dst := none, op := Op.store 29 (Operand.tmp 13) (Operand.tmp 64), type := 0, pos := "catalog.go:81", after := #[{ on := 16, ground := Ground.data }, { on := 15, ground := Ground.data }, { on := 14, ground := Ground.chain }, { on := 0, ground := Ground.phase }, { on := 1, ground := Ground.phase }, { on := 2, ground := Ground.phase }, { on := 3, ground := Ground.phase }, { on := 4, ground := Ground.phase }, { on := 5, ground := Ground.phase }, { on := 6, ground := Ground.phase }, { on := 7, ground := Ground.phase }, { on := 8, ground := Ground.phase }, { on := 9, ground := Ground.phase }, { on := 10, ground := Ground.phase }, { on := 11, ground := Ground.phase }, { on := 12, ground := Ground.phase }, { on := 13, ground := Ground.phase }, { on := 14, ground := Ground.phase }, { on := 15, ground := Ground.phase }, { on := 16, ground := Ground.phase }], guard := none }) rfl (fun K hK => ?_) AllReadyH.nil
              have yy := three_cells LB.out
              have y0 := yy.1
              have y1 := yy.2.1
              have y2 := yy.2.2
              clear yy
              have xx := three_frozen LB.out
              have x0 := xx.1
              have x1 := xx.2.1
              have x2 := xx.2.2
              clear xx
              have KP12 := put3_below KP11.out LL.out (.int .i64 (g + 1)) (.int .i64 fi) (.slice (some ⟨g2, 0, none⟩) (T.length + 2) cap2)
              go_simp
              refine hK.out _ _ KP12 (fun hHeld => ?_)
              clear hK K hHeld y0 y1 y2 x0 x1 x2
              refine wpAnyH_done (by kernel_rfl) ?_ _
              go_wp2_with fail
              go_meet
              case rel =>
                refine ⟨lb, (.slice (some ⟨g2, 0, none⟩) (T.length + 2) cap2), rfl, ?_⟩
                have z1 := V2.out.put3 LB.out (by decide) (.int .i64 (g + 1)) (.int .i64 fi) (.slice (some ⟨g2, 0, none⟩) (T.length + 2) cap2)
                have z2 := put3_heap LB.out (.int .i64 (g + 1)) (.int .i64 fi) (.slice (some ⟨g2, 0, none⟩) (T.length + 2) cap2)
                exact ⟨LL.out, KP12, z1, z2⟩
            exact AllReadyH.nil
          exact AllReadyH.nil
        exact AllReadyH.nil
      refine AllReadyH.cons (o := { dst := some 62, op := Op.buildSlice 27 2 #[(0, Operand.tmp 60), (1, Operand.tmp 61)], type := 27, pos := "catalog.go:81", after := #[{ on := 11, ground := Ground.data }, { on := 12, ground := Ground.data }], guard := none }) rfl (fun K hK => ?_) ?_
      · go_simp
        have KP13 := hide (keepF KP.out (box_below q (.cells #[.int .i64 nm, .int .i64 ba, .int .u32 (so : Int), .int .i64 en, .int .i64 sz, .int .i64 (nm + 1), .int .i64 en, .int .u32 (se : Int), .int .i64 0, .int .i64 0] 53)))
        have SB := hide (heap_alloc_new q (.cells #[.int .i64 nm, .int .i64 ba, .int .u32 (so : Int), .int .i64 en, .int .i64 sz, .int .i64 (nm + 1), .int .i64 en, .int .u32 (se : Int), .int .i64 0, .int .i64 0] 53))
        refine hK.out _ _ KP13.out (fun hHeld => ?_)
        clear hK K hHeld KP
        (try simp only [Act.put, List.setIfInBounds_toArray, List.set_cons_zero, List.set_cons_succ])
        generalize q.alloc (.cells #[.int .i64 nm, .int .i64 ba, .int .u32 (so : Int), .int .i64 en, .int .i64 sz, .int .i64 (nm + 1), .int .i64 en, .int .u32 (se : Int), .int .i64 0, .int .i64 0] 53) = q13 at *
        generalize q.heap.size = sb at *
        clear q
        refine wpAnyH_ready (rs := [10, 16]) (by kernel_rfl) (by simp) ?_
        refine AllReadyH.cons (o := { dst := some 59, op := Op.call { callee := Callee.value (Operand.func 37), args := #[Operand.tmp 58], argTypes := #[27] }, type := 27, pos := "catalog.go:84", after := #[{ on := 9, ground := Ground.data }], guard := none }) rfl (fun K hK => ?_) ?_
        · go_simp
          refine (clone_any q13 _ T (VT.out.below KP13.out) hTl.out).mono ?_
          rintro e q14 ⟨vn, rfl, O1, B1⟩
          have KP14 := hide (keepF KP13.out B1)
          replace O1 : Hid (Own w5.heap.size q14 vn T) := O1.low KP13.out.size
          obtain ⟨aon, can, rfl, _, _⟩ := O1.out.form
          replace SB : Hid (q14.heap[sb]? = some (.cells #[.int .i64 nm, .int .i64 ba, .int .u32 (so : Int), .int .i64 en, .int .i64 sz, .int .i64 (nm + 1), .int .i64 en, .int .u32 (se : Int), .int .i64 0, .int .i64 0] 53 (0, 0))) := hide (by rw [B1.block sb (heap_lt SB.out)]; exact SB.out)
          refine hK.out _ _ KP14.out (fun hHeld => ?_)
          clear hK K hHeld KP13 B1
          (try simp only [Act.put, List.setIfInBounds_toArray, List.set_cons_zero, List.set_cons_succ])
          clear q13
          refine wpAnyH_ready (rs := [14, 16]) (by kernel_rfl) (by simp) ?_
          refine AllReadyH.cons (o := { dst := some 63, op := Op.call { callee := Callee.builtin Builtin.append, args := #[Operand.tmp 59, Operand.tmp 62], argTypes := #[27, 27] }, type := 27, pos := "catalog.go:81", after := #[{ on := 10, ground := Ground.data }, { on := 13, ground := Ground.data }, { on := 10, ground := Ground.chain }], guard := none }) rfl (fun K hK => ?_) ?_
          · refine step_append_lies _ rfl (.tmp 59) (.tmp 62) 27 rfl w5.heap.size 53 i0 (.agg #[.int .i64 0, .int .i64 0, .int .u32 0, .int .i64 0, .int .i64 0]) 5 40 Try.underlying27 hi hz0 hz1 hz2 rfl (by decide) (.slice aon T.length can) T.length (scells T) (by simp [Act.eval]) O1.out.2 ⟨sb, 0, none⟩ 2 2 [.int .i64 nm, .int .i64 ba, .int .u32 (so : Int), .int .i64 en, .int .i64 sz, .int .i64 (nm + 1), .int .i64 en, .int .u32 (se : Int), .int .i64 0, .int .i64 0] (by simp [Act.eval]) rfl (ten_new SB.out) (by simp [Value.oneCell']) (by decide) (by have := hTl.out; unfold maxLen; omega) (by have := hTl.out; omega) KP14.out.size q14.heap.size rfl ?_
            intro g2 cap2 q15 ho hgr hat hlt
            have KP15 := hide (Below.grown KP14.out hgr KP14.out.size (fun k hk => (O1.out.lt k hk).1))
            have V2 : Hid (Own w5.heap.size q15 (.slice (some ⟨g2, 0, none⟩) (T.length + 2) cap2) R) := ⟨hRin.out, by rw [hRl.out, hRs.out]; exact ho⟩
            refine hK.out _ _ KP15.out (fun hHeld => ?_)
            clear hK K hHeld KP14 hgr ho SB O1 hat hlt
            (try simp only [Act.put, List.setIfInBounds_toArray, List.set_cons_zero, List.set_cons_succ])
            clear q14
            refine wpAnyH_take (i := 15) (oi := { dst := some 64, op := Op.build 29 #[(0, Operand.tmp 51), (1, Operand.tmp 53), (2, Operand.tmp 63)], type := 29, pos := "catalog.go:81", after := #[{ on := 2, ground := Ground.data }, { on := 4, ground := Ground.data }, { on := 14, ground := Ground.data }], guard := none }) (v := .agg #[.int .i64 (g + 1), .int .i64 fi, (.slice (some ⟨g2, 0, none⟩) (T.length + 2) cap2)]) rfl (by kernel_rfl) (by kernel_rfl) (by kernel_rfl) (fun _ _ _ h => h) (Or.inl ⟨by rfl, ?_⟩) KP15.out ?_
            · intro wq hSw
              go_simp
            (try simp only [Act.put, List.setIfInBounds_toArray, List.set_cons_zero, List.set_cons_succ])
            refine wpAnyH_ready (rs := [16]) (by kernel_rfl) (by simp) ?_
            refine AllReadyH.cons (o := { dst := some 13, op := Op.alloc 29, type := 0, pos := "catalog.go:81", after := #[], guard := none }) rfl (fun K hK => ?_) ?_
            · go_simp
              have KP16 := hide (keepF KP15.out (box_below q15 (.cells #[.int .i64 0, .int .i64 0, .slice none 0 0] 29)))
              replace V2 := hide (V2.out.below (box_below q15 (.cells #[.int .i64 0, .int .i64 0, .slice none 0 0] 29)))
              have LB := hide (heap_alloc_new q15 (.cells #[.int .i64 0, .int .i64 0, .slice none 0 0] 29))
              have LL := hide KP15.out.size
              refine hK.out _ _ KP16.out (fun hHeld => ?_)
              clear hK K hHeld KP15
              (try simp only [Act.put, List.setIfInBounds_toArray, List.set_cons_zero, List.set_cons_succ])
              generalize q15.alloc (.cells #[.int .i64 0, .int .i64 0, .slice none 0 0] 29) = q16 at *
              generalize q15.heap.size = lb at *
              clear q15
              refine wpAnyH_ready (rs := [17]) (by kernel_rfl) (by simp) ?_
              refine AllReadyH.cons (o := { dst := none, op := Op.store 29 (Operand.tmp 13) (Operand.tmp 64), type := 0, pos := "catalog.go:81", after := #[{ on := 16, ground := Ground.data }, { on := 15, ground := Ground.data }, { on := 14, ground := Ground.chain }, { on := 0, ground := Ground.phase }, { on := 1, ground := Ground.phase }, { on := 2, ground := Ground.phase }, { on := 3, ground := Ground.phase }, { on := 4, ground := Ground.phase }, { on := 5, ground := Ground.phase }, { on := 6, ground := Ground.phase }, { on := 7, ground := Ground.phase }, { on := 8, ground := Ground.phase }, { on := 9, ground := Ground.phase }, { on := 10, ground := Ground.phase }, { on := 11, ground := Ground.phase }, { on := 12, ground := Ground.phase }, { on := 13, ground := Ground.phase }, { on := 14, ground := Ground.phase }, { on := 15, ground := Ground.phase }, { on := 16, ground := Ground.phase }], guard := none }) rfl (fun K hK => ?_) AllReadyH.nil
              have yy := three_cells LB.out
              have y0 := yy.1
              have y1 := yy.2.1
              have y2 := yy.2.2
              clear yy
              have xx := three_frozen LB.out
              have x0 := xx.1
              have x1 := xx.2.1
              have x2 := xx.2.2
              clear xx
              have KP17 := put3_below KP16.out LL.out (.int .i64 (g + 1)) (.int .i64 fi) (.slice (some ⟨g2, 0, none⟩) (T.length + 2) cap2)
              go_simp
              refine hK.out _ _ KP17 (fun hHeld => ?_)
              clear hK K hHeld y0 y1 y2 x0 x1 x2
              refine wpAnyH_done (by kernel_rfl) ?_ _
              go_wp2_with fail
              go_meet
              case rel =>
                refine ⟨lb, (.slice (some ⟨g2, 0, none⟩) (T.length + 2) cap2), rfl, ?_⟩
                have z1 := V2.out.put3 LB.out (by decide) (.int .i64 (g + 1)) (.int .i64 fi) (.slice (some ⟨g2, 0, none⟩) (T.length + 2) cap2)
                have z2 := put3_heap LB.out (.int .i64 (g + 1)) (.int .i64 fi) (.slice (some ⟨g2, 0, none⟩) (T.length + 2) cap2)
                exact ⟨LL.out, KP17, z1, z2⟩
            exact AllReadyH.nil
          refine AllReadyH.cons (o := { dst := some 13, op := Op.alloc 29, type := 0, pos := "catalog.go:81", after := #[], guard := none }) rfl (fun K hK => ?_) ?_
          · go_simp
            have KP18 := hide (keepF KP14.out (box_below q14 (.cells #[.int .i64 0, .int .i64 0, .slice none 0 0] 29)))
            replace O1 := hide (O1.out.below (box_below q14 (.cells #[.int .i64 0, .int .i64 0, .slice none 0 0] 29)))
            replace SB : Hid ((q14.alloc (.cells #[.int .i64 0, .int .i64 0, .slice none 0 0] 29)).heap[sb]? = some (.cells #[.int .i64 nm, .int .i64 ba, .int .u32 (so : Int), .int .i64 en, .int .i64 sz, .int .i64 (nm + 1), .int .i64 en, .int .u32 (se : Int), .int .i64 0, .int .i64 0] 53 (0, 0))) := hide (by rw [(box_below q14 _).block sb (heap_lt SB.out)]; exact SB.out)
            have LB := hide (heap_alloc_new q14 (.cells #[.int .i64 0, .int .i64 0, .slice none 0 0] 29))
            have LL := hide KP14.out.size
            refine hK.out _ _ KP18.out (fun hHeld => ?_)
            clear hK K hHeld KP14
            (try simp only [Act.put, List.setIfInBounds_toArray, List.set_cons_zero, List.set_cons_succ])
            generalize q14.alloc (.cells #[.int .i64 0, .int .i64 0, .slice none 0 0] 29) = q18 at *
            generalize q14.heap.size = lb at *
            clear q14
            refine wpAnyH_ready (rs := [14]) (by kernel_rfl) (by simp) ?_
            refine AllReadyH.cons (o := { dst := some 63, op := Op.call { callee := Callee.builtin Builtin.append, args := #[Operand.tmp 59, Operand.tmp 62], argTypes := #[27, 27] }, type := 27, pos := "catalog.go:81", after := #[{ on := 10, ground := Ground.data }, { on := 13, ground := Ground.data }, { on := 10, ground := Ground.chain }], guard := none }) rfl (fun K hK => ?_) ?_
            · refine step_append_lies _ rfl (.tmp 59) (.tmp 62) 27 rfl w5.heap.size 53 i0 (.agg #[.int .i64 0, .int .i64 0, .int .u32 0, .int .i64 0, .int .i64 0]) 5 40 Try.underlying27 hi hz0 hz1 hz2 rfl (by decide) (.slice aon T.length can) T.length (scells T) (by simp [Act.eval]) O1.out.2 ⟨sb, 0, none⟩ 2 2 [.int .i64 nm, .int .i64 ba, .int .u32 (so : Int), .int .i64 en, .int .i64 sz, .int .i64 (nm + 1), .int .i64 en, .int .u32 (se : Int), .int .i64 0, .int .i64 0] (by simp [Act.eval]) rfl (ten_new SB.out) (by simp [Value.oneCell']) (by decide) (by have := hTl.out; unfold maxLen; omega) (by have := hTl.out; omega) KP18.out.size q18.heap.size rfl ?_
              intro g2 cap2 q19 ho hgr hat hlt
              have KP19 := hide (Below.grown KP18.out hgr KP18.out.size (fun k hk => (O1.out.lt k hk).1))
              have V2 : Hid (Own w5.heap.size q19 (.slice (some ⟨g2, 0, none⟩) (T.length + 2) cap2) R) := ⟨hRin.out, by rw [hRl.out, hRs.out]; exact ho⟩
              replace LB : Hid (q19.heap[lb]? = some (.cells #[.int .i64 0, .int .i64 0, .slice none 0 0] 29 (0, 0))) := hide (by rw [hgr.block lb (heap_lt LB.out) (fun e => O1.out.no LB.out (by decide) e.symm)]; exact LB.out)
              refine hK.out _ _ KP19.out (fun hHeld => ?_)
              clear hK K hHeld KP18 hgr ho SB O1 hat hlt
              (try simp only [Act.put, List.setIfInBounds_toArray, List.set_cons_zero, List.set_cons_succ])
              clear q18
              refine wpAnyH_take (i := 15) (oi := { dst := some 64, op := Op.build 29 #[(0, Operand.tmp 51), (1, Operand.tmp 53), (2, Operand.tmp 63)], type := 29, pos := "catalog.go:81", after := #[{ on := 2, ground := Ground.data }, { on := 4, ground := Ground.data }, { on := 14, ground := Ground.data }], guard := none }) (v := .agg #[.int .i64 (g + 1), .int .i64 fi, (.slice (some ⟨g2, 0, none⟩) (T.length + 2) cap2)]) rfl (by kernel_rfl) (by kernel_rfl) (by kernel_rfl) (fun _ _ _ h => h) (Or.inl ⟨by rfl, ?_⟩) KP19.out ?_
              · intro wq hSw
                go_simp
              (try simp only [Act.put, List.setIfInBounds_toArray, List.set_cons_zero, List.set_cons_succ])
              refine wpAnyH_ready (rs := [17]) (by kernel_rfl) (by simp) ?_
              refine AllReadyH.cons (o := { dst := none, op := Op.store 29 (Operand.tmp 13) (Operand.tmp 64), type := 0, pos := "catalog.go:81", after := #[{ on := 16, ground := Ground.data }, { on := 15, ground := Ground.data }, { on := 14, ground := Ground.chain }, { on := 0, ground := Ground.phase }, { on := 1, ground := Ground.phase }, { on := 2, ground := Ground.phase }, { on := 3, ground := Ground.phase }, { on := 4, ground := Ground.phase }, { on := 5, ground := Ground.phase }, { on := 6, ground := Ground.phase }, { on := 7, ground := Ground.phase }, { on := 8, ground := Ground.phase }, { on := 9, ground := Ground.phase }, { on := 10, ground := Ground.phase }, { on := 11, ground := Ground.phase }, { on := 12, ground := Ground.phase }, { on := 13, ground := Ground.phase }, { on := 14, ground := Ground.phase }, { on := 15, ground := Ground.phase }, { on := 16, ground := Ground.phase }], guard := none }) rfl (fun K hK => ?_) AllReadyH.nil
              have yy := three_cells LB.out
              have y0 := yy.1
              have y1 := yy.2.1
              have y2 := yy.2.2
              clear yy
              have xx := three_frozen LB.out
              have x0 := xx.1
              have x1 := xx.2.1
              have x2 := xx.2.2
              clear xx
              have KP20 := put3_below KP19.out LL.out (.int .i64 (g + 1)) (.int .i64 fi) (.slice (some ⟨g2, 0, none⟩) (T.length + 2) cap2)
              go_simp
              refine hK.out _ _ KP20 (fun hHeld => ?_)
              clear hK K hHeld y0 y1 y2 x0 x1 x2
              refine wpAnyH_done (by kernel_rfl) ?_ _
              go_wp2_with fail
              go_meet
              case rel =>
                refine ⟨lb, (.slice (some ⟨g2, 0, none⟩) (T.length + 2) cap2), rfl, ?_⟩
                have z1 := V2.out.put3 LB.out (by decide) (.int .i64 (g + 1)) (.int .i64 fi) (.slice (some ⟨g2, 0, none⟩) (T.length + 2) cap2)
                have z2 := put3_heap LB.out (.int .i64 (g + 1)) (.int .i64 fi) (.slice (some ⟨g2, 0, none⟩) (T.length + 2) cap2)
                exact ⟨LL.out, KP20, z1, z2⟩
            exact AllReadyH.nil
          exact AllReadyH.nil
        refine AllReadyH.cons (o := { dst := some 13, op := Op.alloc 29, type := 0, pos := "catalog.go:81", after := #[], guard := none }) rfl (fun K hK => ?_) ?_
        · go_simp
          have KP21 := hide (keepF KP13.out (box_below q13 (.cells #[.int .i64 0, .int .i64 0, .slice none 0 0] 29)))
          replace SB : Hid ((q13.alloc (.cells #[.int .i64 0, .int .i64 0, .slice none 0 0] 29)).heap[sb]? = some (.cells #[.int .i64 nm, .int .i64 ba, .int .u32 (so : Int), .int .i64 en, .int .i64 sz, .int .i64 (nm + 1), .int .i64 en, .int .u32 (se : Int), .int .i64 0, .int .i64 0] 53 (0, 0))) := hide (by rw [(box_below q13 _).block sb (heap_lt SB.out)]; exact SB.out)
          have LB := hide (heap_alloc_new q13 (.cells #[.int .i64 0, .int .i64 0, .slice none 0 0] 29))
          have LL := hide KP13.out.size
          refine hK.out _ _ KP21.out (fun hHeld => ?_)
          clear hK K hHeld KP13
          (try simp only [Act.put, List.setIfInBounds_toArray, List.set_cons_zero, List.set_cons_succ])
          generalize q13.alloc (.cells #[.int .i64 0, .int .i64 0, .slice none 0 0] 29) = q21 at *
          generalize q13.heap.size = lb at *
          clear q13
          refine wpAnyH_ready (rs := [10]) (by kernel_rfl) (by simp) ?_
          refine AllReadyH.cons (o := { dst := some 59, op := Op.call { callee := Callee.value (Operand.func 37), args := #[Operand.tmp 58], argTypes := #[27] }, type := 27, pos := "catalog.go:84", after := #[{ on := 9, ground := Ground.data }], guard := none }) rfl (fun K hK => ?_) ?_
          · go_simp
            refine (clone_any q21 _ T (VT.out.below KP21.out) hTl.out).mono ?_
            rintro e q22 ⟨vn, rfl, O1, B1⟩
            have KP22 := hide (keepF KP21.out B1)
            replace O1 : Hid (Own w5.heap.size q22 vn T) := O1.low KP21.out.size
            obtain ⟨aon, can, rfl, _, _⟩ := O1.out.form
            replace SB : Hid (q22.heap[sb]? = some (.cells #[.int .i64 nm, .int .i64 ba, .int .u32 (so : Int), .int .i64 en, .int .i64 sz, .int .i64 (nm + 1), .int .i64 en, .int .u32 (se : Int), .int .i64 0, .int .i64 0] 53 (0, 0))) := hide (by rw [B1.block sb (heap_lt SB.out)]; exact SB.out)
            replace LB : Hid (q22.heap[lb]? = some (.cells #[.int .i64 0, .int .i64 0, .slice none 0 0] 29 (0, 0))) := hide (by rw [B1.block lb (heap_lt LB.out)]; exact LB.out)
            refine hK.out _ _ KP22.out (fun hHeld => ?_)
            clear hK K hHeld KP21 B1
            (try simp only [Act.put, List.setIfInBounds_toArray, List.set_cons_zero, List.set_cons_succ])
            clear q21
            refine wpAnyH_ready (rs := [14]) (by kernel_rfl) (by simp) ?_
            refine AllReadyH.cons (o := { dst := some 63, op := Op.call { callee := Callee.builtin Builtin.append, args := #[Operand.tmp 59, Operand.tmp 62], argTypes := #[27, 27] }, type := 27, pos := "catalog.go:81", after := #[{ on := 10, ground := Ground.data }, { on := 13, ground := Ground.data }, { on := 10, ground := Ground.chain }], guard := none }) rfl (fun K hK => ?_) ?_
            · refine step_append_lies _ rfl (.tmp 59) (.tmp 62) 27 rfl w5.heap.size 53 i0 (.agg #[.int .i64 0, .int .i64 0, .int .u32 0, .int .i64 0, .int .i64 0]) 5 40 Try.underlying27 hi hz0 hz1 hz2 rfl (by decide) (.slice aon T.length can) T.length (scells T) (by simp [Act.eval]) O1.out.2 ⟨sb, 0, none⟩ 2 2 [.int .i64 nm, .int .i64 ba, .int .u32 (so : Int), .int .i64 en, .int .i64 sz, .int .i64 (nm + 1), .int .i64 en, .int .u32 (se : Int), .int .i64 0, .int .i64 0] (by simp [Act.eval]) rfl (ten_new SB.out) (by simp [Value.oneCell']) (by decide) (by have := hTl.out; unfold maxLen; omega) (by have := hTl.out; omega) KP22.out.size q22.heap.size rfl ?_
              intro g2 cap2 q23 ho hgr hat hlt
              have KP23 := hide (Below.grown KP22.out hgr KP22.out.size (fun k hk => (O1.out.lt k hk).1))
              have V2 : Hid (Own w5.heap.size q23 (.slice (some ⟨g2, 0, none⟩) (T.length + 2) cap2) R) := ⟨hRin.out, by rw [hRl.out, hRs.out]; exact ho⟩
              replace LB : Hid (q23.heap[lb]? = some (.cells #[.int .i64 0, .int .i64 0, .slice none 0 0] 29 (0, 0))) := hide (by rw [hgr.block lb (heap_lt LB.out) (fun e => O1.out.no LB.out (by decide) e.symm)]; exact LB.out)
              refine hK.out _ _ KP23.out (fun hHeld => ?_)
              clear hK K hHeld KP22 hgr ho SB O1 hat hlt
              (try simp only [Act.put, List.setIfInBounds_toArray, List.set_cons_zero, List.set_cons_succ])
              clear q22
              refine wpAnyH_take (i := 15) (oi := { dst := some 64, op := Op.build 29 #[(0, Operand.tmp 51), (1, Operand.tmp 53), (2, Operand.tmp 63)], type := 29, pos := "catalog.go:81", after := #[{ on := 2, ground := Ground.data }, { on := 4, ground := Ground.data }, { on := 14, ground := Ground.data }], guard := none }) (v := .agg #[.int .i64 (g + 1), .int .i64 fi, (.slice (some ⟨g2, 0, none⟩) (T.length + 2) cap2)]) rfl (by kernel_rfl) (by kernel_rfl) (by kernel_rfl) (fun _ _ _ h => h) (Or.inl ⟨by rfl, ?_⟩) KP23.out ?_
              · intro wq hSw
                go_simp
              (try simp only [Act.put, List.setIfInBounds_toArray, List.set_cons_zero, List.set_cons_succ])
              refine wpAnyH_ready (rs := [17]) (by kernel_rfl) (by simp) ?_
              refine AllReadyH.cons (o := { dst := none, op := Op.store 29 (Operand.tmp 13) (Operand.tmp 64), type := 0, pos := "catalog.go:81", after := #[{ on := 16, ground := Ground.data }, { on := 15, ground := Ground.data }, { on := 14, ground := Ground.chain }, { on := 0, ground := Ground.phase }, { on := 1, ground := Ground.phase }, { on := 2, ground := Ground.phase }, { on := 3, ground := Ground.phase }, { on := 4, ground := Ground.phase }, { on := 5, ground := Ground.phase }, { on := 6, ground := Ground.phase }, { on := 7, ground := Ground.phase }, { on := 8, ground := Ground.phase }, { on := 9, ground := Ground.phase }, { on := 10, ground := Ground.phase }, { on := 11, ground := Ground.phase }, { on := 12, ground := Ground.phase }, { on := 13, ground := Ground.phase }, { on := 14, ground := Ground.phase }, { on := 15, ground := Ground.phase }, { on := 16, ground := Ground.phase }], guard := none }) rfl (fun K hK => ?_) AllReadyH.nil
              have yy := three_cells LB.out
              have y0 := yy.1
              have y1 := yy.2.1
              have y2 := yy.2.2
              clear yy
              have xx := three_frozen LB.out
              have x0 := xx.1
              have x1 := xx.2.1
              have x2 := xx.2.2
              clear xx
              have KP24 := put3_below KP23.out LL.out (.int .i64 (g + 1)) (.int .i64 fi) (.slice (some ⟨g2, 0, none⟩) (T.length + 2) cap2)
              go_simp
              refine hK.out _ _ KP24 (fun hHeld => ?_)
              clear hK K hHeld y0 y1 y2 x0 x1 x2
              refine wpAnyH_done (by kernel_rfl) ?_ _
              go_wp2_with fail
              go_meet
              case rel =>
                refine ⟨lb, (.slice (some ⟨g2, 0, none⟩) (T.length + 2) cap2), rfl, ?_⟩
                have z1 := V2.out.put3 LB.out (by decide) (.int .i64 (g + 1)) (.int .i64 fi) (.slice (some ⟨g2, 0, none⟩) (T.length + 2) cap2)
                have z2 := put3_heap LB.out (.int .i64 (g + 1)) (.int .i64 fi) (.slice (some ⟨g2, 0, none⟩) (T.length + 2) cap2)
                exact ⟨LL.out, KP24, z1, z2⟩
            exact AllReadyH.nil
          exact AllReadyH.nil
        exact AllReadyH.nil
      refine AllReadyH.cons (o := { dst := some 13, op := Op.alloc 29, type := 0, pos := "catalog.go:81", after := #[], guard := none }) rfl (fun K hK => ?_) ?_
      · go_simp
        have KP25 := hide (keepF KP.out (box_below q (.cells #[.int .i64 0, .int .i64 0, .slice none 0 0] 29)))
        have LB := hide (heap_alloc_new q (.cells #[.int .i64 0, .int .i64 0, .slice none 0 0] 29))
        have LL := hide KP.out.size
        refine hK.out _ _ KP25.out (fun hHeld => ?_)
        clear hK K hHeld KP
        (try simp only [Act.put, List.setIfInBounds_toArray, List.set_cons_zero, List.set_cons_succ])
        generalize q.alloc (.cells #[.int .i64 0, .int .i64 0, .slice none 0 0] 29) = q25 at *
        generalize q.heap.size = lb at *
        clear q
        refine wpAnyH_ready (rs := [10, 13]) (by kernel_rfl) (by simp) ?_
        refine AllReadyH.cons (o := { dst := some 59, op := Op.call { callee := Callee.value (Operand.func 37), args := #[Operand.tmp 58], argTypes := #[27] }, type := 27, pos := "catalog.go:84", after := #[{ on := 9, ground := Ground.data }], guard := none }) rfl (fun K hK => ?_) ?_
        · go_simp
          refine (clone_any q25 _ T (VT.out.below KP25.out) hTl.out).mono ?_
          rintro e q26 ⟨vn, rfl, O1, B1⟩
          have KP26 := hide (keepF KP25.out B1)
          replace O1 : Hid (Own w5.heap.size q26 vn T) := O1.low KP25.out.size
          obtain ⟨aon, can, rfl, _, _⟩ := O1.out.form
          replace LB : Hid (q26.heap[lb]? = some (.cells #[.int .i64 0, .int .i64 0, .slice none 0 0] 29 (0, 0))) := hide (by rw [B1.block lb (heap_lt LB.out)]; exact LB.out)
          refine hK.out _ _ KP26.out (fun hHeld => ?_)
          clear hK K hHeld KP25 B1
          (try simp only [Act.put, List.setIfInBounds_toArray, List.set_cons_zero, List.set_cons_succ])
          clear q25
          refine wpAnyH_ready (rs := [13]) (by kernel_rfl) (by simp) ?_
          refine AllReadyH.cons (o := { dst := some 62, op := Op.buildSlice 27 2 #[(0, Operand.tmp 60), (1, Operand.tmp 61)], type := 27, pos := "catalog.go:81", after := #[{ on := 11, ground := Ground.data }, { on := 12, ground := Ground.data }], guard := none }) rfl (fun K hK => ?_) ?_
          · go_simp
            have KP27 := hide (keepF KP26.out (box_below q26 (.cells #[.int .i64 nm, .int .i64 ba, .int .u32 (so : Int), .int .i64 en, .int .i64 sz, .int .i64 (nm + 1), .int .i64 en, .int .u32 (se : Int), .int .i64 0, .int .i64 0] 53)))
            replace O1 := hide (O1.out.below (box_below q26 (.cells #[.int .i64 nm, .int .i64 ba, .int .u32 (so : Int), .int .i64 en, .int .i64 sz, .int .i64 (nm + 1), .int .i64 en, .int .u32 (se : Int), .int .i64 0, .int .i64 0] 53)))
            replace LB : Hid ((q26.alloc (.cells #[.int .i64 nm, .int .i64 ba, .int .u32 (so : Int), .int .i64 en, .int .i64 sz, .int .i64 (nm + 1), .int .i64 en, .int .u32 (se : Int), .int .i64 0, .int .i64 0] 53)).heap[lb]? = some (.cells #[.int .i64 0, .int .i64 0, .slice none 0 0] 29 (0, 0))) := hide (by rw [(box_below q26 _).block lb (heap_lt LB.out)]; exact LB.out)
            have SB := hide (heap_alloc_new q26 (.cells #[.int .i64 nm, .int .i64 ba, .int .u32 (so : Int), .int .i64 en, .int .i64 sz, .int .i64 (nm + 1), .int .i64 en, .int .u32 (se : Int), .int .i64 0, .int .i64 0] 53))
            refine hK.out _ _ KP27.out (fun hHeld => ?_)
            clear hK K hHeld KP26
            (try simp only [Act.put, List.setIfInBounds_toArray, List.set_cons_zero, List.set_cons_succ])
            generalize q26.alloc (.cells #[.int .i64 nm, .int .i64 ba, .int .u32 (so : Int), .int .i64 en, .int .i64 sz, .int .i64 (nm + 1), .int .i64 en, .int .u32 (se : Int), .int .i64 0, .int .i64 0] 53) = q27 at *
            generalize q26.heap.size = sb at *
            clear q26
            refine wpAnyH_ready (rs := [14]) (by kernel_rfl) (by simp) ?_
            refine AllReadyH.cons (o := { dst := some 63, op := Op.call { callee := Callee.builtin Builtin.append, args := #[Operand.tmp 59, Operand.tmp 62], argTypes := #[27, 27] }, type := 27, pos := "catalog.go:81", after := #[{ on := 10, ground := Ground.data }, { on := 13, ground := Ground.data }, { on := 10, ground := Ground.chain }], guard := none }) rfl (fun K hK => ?_) ?_
            · refine step_append_lies _ rfl (.tmp 59) (.tmp 62) 27 rfl w5.heap.size 53 i0 (.agg #[.int .i64 0, .int .i64 0, .int .u32 0, .int .i64 0, .int .i64 0]) 5 40 Try.underlying27 hi hz0 hz1 hz2 rfl (by decide) (.slice aon T.length can) T.length (scells T) (by simp [Act.eval]) O1.out.2 ⟨sb, 0, none⟩ 2 2 [.int .i64 nm, .int .i64 ba, .int .u32 (so : Int), .int .i64 en, .int .i64 sz, .int .i64 (nm + 1), .int .i64 en, .int .u32 (se : Int), .int .i64 0, .int .i64 0] (by simp [Act.eval]) rfl (ten_new SB.out) (by simp [Value.oneCell']) (by decide) (by have := hTl.out; unfold maxLen; omega) (by have := hTl.out; omega) KP27.out.size q27.heap.size rfl ?_
              intro g2 cap2 q28 ho hgr hat hlt
              have KP28 := hide (Below.grown KP27.out hgr KP27.out.size (fun k hk => (O1.out.lt k hk).1))
              have V2 : Hid (Own w5.heap.size q28 (.slice (some ⟨g2, 0, none⟩) (T.length + 2) cap2) R) := ⟨hRin.out, by rw [hRl.out, hRs.out]; exact ho⟩
              replace LB : Hid (q28.heap[lb]? = some (.cells #[.int .i64 0, .int .i64 0, .slice none 0 0] 29 (0, 0))) := hide (by rw [hgr.block lb (heap_lt LB.out) (fun e => O1.out.no LB.out (by decide) e.symm)]; exact LB.out)
              refine hK.out _ _ KP28.out (fun hHeld => ?_)
              clear hK K hHeld KP27 hgr ho SB O1 hat hlt
              (try simp only [Act.put, List.setIfInBounds_toArray, List.set_cons_zero, List.set_cons_succ])
              clear q27
              refine wpAnyH_take (i := 15) (oi := { dst := some 64, op := Op.build 29 #[(0, Operand.tmp 51), (1, Operand.tmp 53), (2, Operand.tmp 63)], type := 29, pos := "catalog.go:81", after := #[{ on := 2, ground := Ground.data }, { on := 4, ground := Ground.data }, { on := 14, ground := Ground.data }], guard := none }) (v := .agg #[.int .i64 (g + 1), .int .i64 fi, (.slice (some ⟨g2, 0, none⟩) (T.length + 2) cap2)]) rfl (by kernel_rfl) (by kernel_rfl) (by kernel_rfl) (fun _ _ _ h => h) (Or.inl ⟨by rfl, ?_⟩) KP28.out ?_
              · intro wq hSw
                go_simp
              (try simp only [Act.put, List.setIfInBounds_toArray, List.set_cons_zero, List.set_cons_succ])
              refine wpAnyH_ready (rs := [17]) (by kernel_rfl) (by simp) ?_
              refine AllReadyH.cons (o := { dst := none, op := Op.store 29 (Operand.tmp 13) (Operand.tmp 64), type := 0, pos := "catalog.go:81", after := #[{ on := 16, ground := Ground.data }, { on := 15, ground := Ground.data }, { on := 14, ground := Ground.chain }, { on := 0, ground := Ground.phase }, { on := 1, ground := Ground.phase }, { on := 2, ground := Ground.phase }, { on := 3, ground := Ground.phase }, { on := 4, ground := Ground.phase }, { on := 5, ground := Ground.phase }, { on := 6, ground := Ground.phase }, { on := 7, ground := Ground.phase }, { on := 8, ground := Ground.phase }, { on := 9, ground := Ground.phase }, { on := 10, ground := Ground.phase }, { on := 11, ground := Ground.phase }, { on := 12, ground := Ground.phase }, { on := 13, ground := Ground.phase }, { on := 14, ground := Ground.phase }, { on := 15, ground := Ground.phase }, { on := 16, ground := Ground.phase }], guard := none }) rfl (fun K hK => ?_) AllReadyH.nil
              have yy := three_cells LB.out
              have y0 := yy.1
              have y1 := yy.2.1
              have y2 := yy.2.2
              clear yy
              have xx := three_frozen LB.out
              have x0 := xx.1
              have x1 := xx.2.1
              have x2 := xx.2.2
              clear xx
              have KP29 := put3_below KP28.out LL.out (.int .i64 (g + 1)) (.int .i64 fi) (.slice (some ⟨g2, 0, none⟩) (T.length + 2) cap2)
              go_simp
              refine hK.out _ _ KP29 (fun hHeld => ?_)
              clear hK K hHeld y0 y1 y2 x0 x1 x2
              refine wpAnyH_done (by kernel_rfl) ?_ _
              go_wp2_with fail
              go_meet
              case rel =>
                refine ⟨lb, (.slice (some ⟨g2, 0, none⟩) (T.length + 2) cap2), rfl, ?_⟩
                have z1 := V2.out.put3 LB.out (by decide) (.int .i64 (g + 1)) (.int .i64 fi) (.slice (some ⟨g2, 0, none⟩) (T.length + 2) cap2)
                have z2 := put3_heap LB.out (.int .i64 (g + 1)) (.int .i64 fi) (.slice (some ⟨g2, 0, none⟩) (T.length + 2) cap2)
                exact ⟨LL.out, KP29, z1, z2⟩
            exact AllReadyH.nil
          exact AllReadyH.nil
        refine AllReadyH.cons (o := { dst := some 62, op := Op.buildSlice 27 2 #[(0, Operand.tmp 60), (1, Operand.tmp 61)], type := 27, pos := "catalog.go:81", after := #[{ on := 11, ground := Ground.data }, { on := 12, ground := Ground.data }], guard := none }) rfl (fun K hK => ?_) ?_
        · go_simp
          have KP30 := hide (keepF KP25.out (box_below q25 (.cells #[.int .i64 nm, .int .i64 ba, .int .u32 (so : Int), .int .i64 en, .int .i64 sz, .int .i64 (nm + 1), .int .i64 en, .int .u32 (se : Int), .int .i64 0, .int .i64 0] 53)))
          replace LB : Hid ((q25.alloc (.cells #[.int .i64 nm, .int .i64 ba, .int .u32 (so : Int), .int .i64 en, .int .i64 sz, .int .i64 (nm + 1), .int .i64 en, .int .u32 (se : Int), .int .i64 0, .int .i64 0] 53)).heap[lb]? = some (.cells #[.int .i64 0, .int .i64 0, .slice none 0 0] 29 (0, 0))) := hide (by rw [(box_below q25 _).block lb (heap_lt LB.out)]; exact LB.out)
          have SB := hide (heap_alloc_new q25 (.cells #[.int .i64 nm, .int .i64 ba, .int .u32 (so : Int), .int .i64 en, .int .i64 sz, .int .i64 (nm + 1), .int .i64 en, .int .u32 (se : Int), .int .i64 0, .int .i64 0] 53))
          refine hK.out _ _ KP30.out (fun hHeld => ?_)
          clear hK K hHeld KP25
          (try simp only [Act.put, List.setIfInBounds_toArray, List.set_cons_zero, List.set_cons_succ])
          generalize q25.alloc (.cells #[.int .i64 nm, .int .i64 ba, .int .u32 (so : Int), .int .i64 en, .int .i64 sz, .int .i64 (nm + 1), .int .i64 en, .int .u32 (se : Int), .int .i64 0, .int .i64 0] 53) = q30 at *
          generalize q25.heap.size = sb at *
          clear q25
          refine wpAnyH_ready (rs := [10]) (by kernel_rfl) (by simp) ?_
          refine AllReadyH.cons (o := { dst := some 59, op := Op.call { callee := Callee.value (Operand.func 37), args := #[Operand.tmp 58], argTypes := #[27] }, type := 27, pos := "catalog.go:84", after := #[{ on := 9, ground := Ground.data }], guard := none }) rfl (fun K hK => ?_) ?_
          · go_simp
            refine (clone_any q30 _ T (VT.out.below KP30.out) hTl.out).mono ?_
            rintro e q31 ⟨vn, rfl, O1, B1⟩
            have KP31 := hide (keepF KP30.out B1)
            replace O1 : Hid (Own w5.heap.size q31 vn T) := O1.low KP30.out.size
            obtain ⟨aon, can, rfl, _, _⟩ := O1.out.form
            replace SB : Hid (q31.heap[sb]? = some (.cells #[.int .i64 nm, .int .i64 ba, .int .u32 (so : Int), .int .i64 en, .int .i64 sz, .int .i64 (nm + 1), .int .i64 en, .int .u32 (se : Int), .int .i64 0, .int .i64 0] 53 (0, 0))) := hide (by rw [B1.block sb (heap_lt SB.out)]; exact SB.out)
            replace LB : Hid (q31.heap[lb]? = some (.cells #[.int .i64 0, .int .i64 0, .slice none 0 0] 29 (0, 0))) := hide (by rw [B1.block lb (heap_lt LB.out)]; exact LB.out)
            refine hK.out _ _ KP31.out (fun hHeld => ?_)
            clear hK K hHeld KP30 B1
            (try simp only [Act.put, List.setIfInBounds_toArray, List.set_cons_zero, List.set_cons_succ])
            clear q30
            refine wpAnyH_ready (rs := [14]) (by kernel_rfl) (by simp) ?_
            refine AllReadyH.cons (o := { dst := some 63, op := Op.call { callee := Callee.builtin Builtin.append, args := #[Operand.tmp 59, Operand.tmp 62], argTypes := #[27, 27] }, type := 27, pos := "catalog.go:81", after := #[{ on := 10, ground := Ground.data }, { on := 13, ground := Ground.data }, { on := 10, ground := Ground.chain }], guard := none }) rfl (fun K hK => ?_) ?_
            · refine step_append_lies _ rfl (.tmp 59) (.tmp 62) 27 rfl w5.heap.size 53 i0 (.agg #[.int .i64 0, .int .i64 0, .int .u32 0, .int .i64 0, .int .i64 0]) 5 40 Try.underlying27 hi hz0 hz1 hz2 rfl (by decide) (.slice aon T.length can) T.length (scells T) (by simp [Act.eval]) O1.out.2 ⟨sb, 0, none⟩ 2 2 [.int .i64 nm, .int .i64 ba, .int .u32 (so : Int), .int .i64 en, .int .i64 sz, .int .i64 (nm + 1), .int .i64 en, .int .u32 (se : Int), .int .i64 0, .int .i64 0] (by simp [Act.eval]) rfl (ten_new SB.out) (by simp [Value.oneCell']) (by decide) (by have := hTl.out; unfold maxLen; omega) (by have := hTl.out; omega) KP31.out.size q31.heap.size rfl ?_
              intro g2 cap2 q32 ho hgr hat hlt
              have KP32 := hide (Below.grown KP31.out hgr KP31.out.size (fun k hk => (O1.out.lt k hk).1))
              have V2 : Hid (Own w5.heap.size q32 (.slice (some ⟨g2, 0, none⟩) (T.length + 2) cap2) R) := ⟨hRin.out, by rw [hRl.out, hRs.out]; exact ho⟩
              replace LB : Hid (q32.heap[lb]? = some (.cells #[.int .i64 0, .int .i64 0, .slice none 0 0] 29 (0, 0))) := hide (by rw [hgr.block lb (heap_lt LB.out) (fun e => O1.out.no LB.out (by decide) e.symm)]; exact LB.out)
              refine hK.out _ _ KP32.out (fun hHeld => ?_)
              clear hK K hHeld KP31 hgr ho SB O1 hat hlt
              (try simp only [Act.put, List.setIfInBounds_toArray, List.set_cons_zero, List.set_cons_succ])
              clear q31
              refine wpAnyH_take (i := 15) (oi := { dst := some 64, op := Op.build 29 #[(0, Operand.tmp 51), (1, Operand.tmp 53), (2, Operand.tmp 63)], type := 29, pos := "catalog.go:81", after := #[{ on := 2, ground := Ground.data }, { on := 4, ground := Ground.data }, { on := 14, ground := Ground.data }], guard := none }) (v := .agg #[.int .i64 (g + 1), .int .i64 fi, (.slice (some ⟨g2, 0, none⟩) (T.length + 2) cap2)]) rfl (by kernel_rfl) (by kernel_rfl) (by kernel_rfl) (fun _ _ _ h => h) (Or.inl ⟨by rfl, ?_⟩) KP32.out ?_
              · intro wq hSw
                go_simp
              (try simp only [Act.put, List.setIfInBounds_toArray, List.set_cons_zero, List.set_cons_succ])
              refine wpAnyH_ready (rs := [17]) (by kernel_rfl) (by simp) ?_
              refine AllReadyH.cons (o := { dst := none, op := Op.store 29 (Operand.tmp 13) (Operand.tmp 64), type := 0, pos := "catalog.go:81", after := #[{ on := 16, ground := Ground.data }, { on := 15, ground := Ground.data }, { on := 14, ground := Ground.chain }, { on := 0, ground := Ground.phase }, { on := 1, ground := Ground.phase }, { on := 2, ground := Ground.phase }, { on := 3, ground := Ground.phase }, { on := 4, ground := Ground.phase }, { on := 5, ground := Ground.phase }, { on := 6, ground := Ground.phase }, { on := 7, ground := Ground.phase }, { on := 8, ground := Ground.phase }, { on := 9, ground := Ground.phase }, { on := 10, ground := Ground.phase }, { on := 11, ground := Ground.phase }, { on := 12, ground := Ground.phase }, { on := 13, ground := Ground.phase }, { on := 14, ground := Ground.phase }, { on := 15, ground := Ground.phase }, { on := 16, ground := Ground.phase }], guard := none }) rfl (fun K hK => ?_) AllReadyH.nil
              have yy := three_cells LB.out
              have y0 := yy.1
              have y1 := yy.2.1
              have y2 := yy.2.2
              clear yy
              have xx := three_frozen LB.out
              have x0 := xx.1
              have x1 := xx.2.1
              have x2 := xx.2.2
              clear xx
              have KP33 := put3_below KP32.out LL.out (.int .i64 (g + 1)) (.int .i64 fi) (.slice (some ⟨g2, 0, none⟩) (T.length + 2) cap2)
              go_simp
              refine hK.out _ _ KP33 (fun hHeld => ?_)
              clear hK K hHeld y0 y1 y2 x0 x1 x2
              refine wpAnyH_done (by kernel_rfl) ?_ _
              go_wp2_with fail
              go_meet
              case rel =>
                refine ⟨lb, (.slice (some ⟨g2, 0, none⟩) (T.length + 2) cap2), rfl, ?_⟩
                have z1 := V2.out.put3 LB.out (by decide) (.int .i64 (g + 1)) (.int .i64 fi) (.slice (some ⟨g2, 0, none⟩) (T.length + 2) cap2)
                have z2 := put3_heap LB.out (.int .i64 (g + 1)) (.int .i64 fi) (.slice (some ⟨g2, 0, none⟩) (T.length + 2) cap2)
                exact ⟨LL.out, KP33, z1, z2⟩
            exact AllReadyH.nil
          exact AllReadyH.nil
        exact AllReadyH.nil
      exact AllReadyH.nil
    case rest =>
      obtain ⟨nb, v2, rfl, hc⟩ := hcut
      obtain ⟨hnb, BW, OW, HW⟩ := hc.out
      obtain ⟨ao2, ca2, rfl, _, _⟩ := OW.form
      obtain ⟨e0, e1, e2⟩ := three_cells HW
      have Z1 : Hid (wc.heap[cb + 1]? = some (.cells #[.int .i64 0, .int .i64 0, .slice none 0 0] 29 (0, 0))) := by show _ = _; rw [BW.block _ (heap_lt u2.out)]; exact u2.out
      have CALL := hide (may_any wc (g + 1) fi _ R OW.sgs)
      have hlo := hide B5.out.size
      have hlt2 := hide (heap_lt u2.out)
      have BW5 := hide (show Below w.heap.size w wc from by rw [hcb.out]; exact B5.out.trans (BW.mono (by rw [← hcb.out]; exact B5.out.size)))
      replace hnb := hide hnb
      replace BW := hide BW
      replace OW := hide OW
      replace HW := hide HW
      have hcb2 : Hid (w.heap.size ≤ cb + 1) := by show _ ≤ _; rw [hcb.out]; omega
      have hcb3 : Hid (w.heap.size ≤ w5.heap.size) := by show _ ≤ _; exact hlo.out
      clear hc KC u1 u2 u3 u4 hRl hRs hTl VT
      by_cases hm2 : May (g + 1) fi R
      · rw [mayB_t hm2] at CALL
        rw [if_neg (fun c => c hm2)] at hE
        go_wp2_with fail
        refine CALL.out.mono ?_
        rintro e w6 ⟨rfl, b6⟩
        have Z6 : Hid (w6.heap[cb + 1]? = some (.cells #[.int .i64 0, .int .i64 0, .slice none 0 0] 29 (0, 0))) := by show _ = _; rw [b6.block _ (heap_lt Z1.out)]; exact Z1.out
        have H6 : Hid (w6.heap[nb]? = some (.cells #[.int .i64 (g + 1), .int .i64 fi, .slice ao2 R.length ca2] 29 (0, 0))) := by show _ = _; rw [b6.block _ (heap_lt HW.out)]; exact HW.out
        have O6 := hide (OW.out.below b6)
        have B6 := hide (keepF BW5.out b6)
        clear b6 CALL e0 e1 e2
        obtain ⟨e0, e1, e2⟩ := three_cells H6.out
        obtain ⟨d0, d1, d2⟩ := three_cells Z6.out
        obtain ⟨f0, f1, f2⟩ := three_frozen Z6.out
        have F := hide (three_cells (put3_heap Z6.out (.int .i64 (g + 1)) (.int .i64 fi) (.slice ao2 R.length ca2)))
        have BF := hide (put3_below B6.out hcb2.out (.int .i64 (g + 1)) (.int .i64 fi) (.slice ao2 R.length ca2))
        have OF := hide ((O6.out.put3 Z6.out (by decide) (.int .i64 (g + 1)) (.int .i64 fi) (.slice ao2 R.length ca2)).low hcb3.out)
        go_wp2_with fail
        show bodyPost _ _ _ _ _ (put3 w6 (cb + 1) (.int .i64 (g + 1)) (.int .i64 fi) (.slice ao2 R.length ca2))
        generalize put3 w6 (cb + 1) (.int .i64 (g + 1)) (.int .i64 fi) (.slice ao2 R.length ca2) = w7 at *
        obtain ⟨k0, k1, k2⟩ := F.out
        refine bodyPost_ret (by simp [results, Try.results16, go_sem, k0, k1, k2]; rfl) rfl ?_
        rw [hE.out]
        exact ⟨_, rfl, OF.out, BF.out⟩
      · rw [mayB_f hm2] at CALL
        rw [if_pos hm2] at hE
        go_wp2_with fail
        refine CALL.out.mono ?_
        rintro e w6 ⟨rfl, b6⟩
        have Z6 : Hid (w6.heap[cb + 1]? = some (.cells #[.int .i64 0, .int .i64 0, .slice none 0 0] 29 (0, 0))) := by show _ = _; rw [b6.block _ (heap_lt Z1.out)]; exact Z1.out
        have B6 := hide (keepF BW5.out b6)
        clear b6 CALL e0 e1 e2
        obtain ⟨d0, d1, d2⟩ := three_cells Z6.out
        obtain ⟨f0, f1, f2⟩ := three_frozen Z6.out
        have F := hide (three_cells (put3_heap Z6.out (.int .i64 0) (.int .i64 0) (.slice none 0 0)))
        have BF := hide (put3_below B6.out hcb2.out (.int .i64 0) (.int .i64 0) (.slice none 0 0))
        go_wp2_with fail
        show bodyPost _ _ _ _ _ (put3 w6 (cb + 1) (.int .i64 0) (.int .i64 0) (.slice none 0 0))
        generalize put3 w6 (cb + 1) (.int .i64 0) (.int .i64 0) (.slice none 0 0) = w7 at *
        obtain ⟨k0, k1, k2⟩ := F.out
        refine bodyPost_ret (by simp [results, Try.results16, go_sem, k0, k1, k2]; rfl) rfl ?_
        rw [hE.out]
        exact ⟨_, rfl, Own.nil _ _, BF.out⟩
#print axioms roll_any
end Go.Proofs.Ytdhjlongdfgejaa.Ct
