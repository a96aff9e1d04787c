/-
  frame's own reader: titled, head.
-/
import Derived.Test.YtophaolgmpdimaaFl
namespace Go.Proofs.Ytophaolgmpdimaa
open Go.RowKit

theorem RdrAt.put {w : World} {rb b i : Nat} {l : List UInt8} {k : Nat} {er : Int} {cs : Array Value} {T : TypeId} {v : Value} (h : RdrAt w rb l k er) (hb : w.heap[b]? = some (.cells cs T (0, 0))) (hne : b ≠ rb) (hT : T ≠ 5 := by decide) : RdrAt (w.setCell ⟨b, i, none⟩ v) rb l k er := by
  obtain ⟨v0, h1, h2, h3, h4⟩ := h
  refine ⟨v0, ?_, ?_, h3, h4⟩
  · rw [heap_setCell_other w ⟨b, i, none⟩ rb v (fun e => hne e.symm)]; exact h1
  · refine ownsRow_setCell_other h2 (fun e => ?_) _
    obtain ⟨_, p⟩ := id h2
    rcases p with ⟨rfl, _⟩ | ⟨g, cap, cur, rfl, _, hg, _⟩
    · simp [Value.ownBlock] at e
    · simp [Value.ownBlock] at e
      subst e
      rw [hb] at hg
      simp at hg
      exact hT hg.2
theorem grown_new {w u : World} {b i : Nat} {row : Option Nat} (h : w.grownBy u row) (hb : w.heap.size ≤ b) (v : Value) : w.grownBy (u.setCell ⟨b, i, none⟩ v) row :=
  ⟨h.os, h.tape, h.output, by simpa [World.setCell] using h.size, fun k hk hr => by rw [heap_setCell_other u ⟨b, i, none⟩ k v (by show k ≠ b; omega)]; exact h.block k hk hr⟩
theorem grown_keep {w u : World} {b rb : Nat} {o : Obj} (h : w.grownBy u (some rb)) (hb : w.heap[b]? = some o) (hne : b ≠ rb) : u.heap[b]? = some o := by
  rw [h.block b (heap_lt hb) (by simpa using hne)]; exact hb
theorem heap_set {w : World} {b i : Nat} {cs : Array Value} {T : TypeId} (h : w.heap[b]? = some (.cells cs T (0, 0))) (v : Value) : (w.setCell ⟨b, i, none⟩ v).heap[b]? = some (.cells (cs.setIfInBounds i v) T (0, 0)) := by
  rw [heap_setCell_same _ _ _ _ _ _ h]
theorem heap_set_other (w : World) (b c i : Nat) (v : Value) (h : c ≠ b) : (w.setCell ⟨b, i, none⟩ v).heap[c]? = w.heap[c]? := heap_setCell_other w ⟨b, i, none⟩ c v h

set_option maxHeartbeats 400000 in
theorem titled_any (w : World) (rb : Nat) (v : Value) (l : List UInt8) (s : Nat × Int) (h : RdrAt w rb l s.1 s.2) :
    Calls Try.prog 46 #[.agg #[.pointer (some ⟨rb, 0, none⟩), v]] w fun e w' => e = .returned (.bool (decide (fx 8 (stv l 8 s) = ttl))) ∧ RdrAt w' rb l (stp l 8 s).1 (stp l 8 s).2 ∧ w.grownBy w' (some rb) := by
  have hN := hide (stv_lt l 8 s)
  have hr := hide (h.below (box_below w (.cells #[.pointer (some ⟨rb, 0, none⟩), v] 67)))
  obtain ⟨N, hNe⟩ : ∃ N, Hid (stv l 8 s = N) := ⟨_, rfl⟩
  rw [hNe.out]
  rw [hNe.out] at hN
  have hNb : Hid (N < 18446744073709551616) := by simpa [Hid] using hN.out
  obtain ⟨D, hD⟩ : ∃ D, Hid (decide (fx 8 N = ttl) = D) := ⟨_, rfl⟩
  rw [hD.out]
  go_enter Try.func46, Try.ntmps46
  go_wp2_with fail
  refine (fixed64_tot _ rb l s hr.out).mono ?_
  rintro e w1 ⟨rfl, hr1, hg1⟩
  rw [hNe.out]
  replace hr1 := hide hr1
  have hg := hide (box_grown hg1)
  clear hg1
  go_wp2_with fail
  refine (fixed64_any w1 (N : Int) (by omega) (by have := hNb.out; omega)).mono ?_
  rintro e w2 ⟨v2, rfl, ho2, hb2⟩
  rw [Int.toNat_natCast] at ho2
  have s2 := Sl.of_owns ho2
  have k8 := conv8_any w2 v2 (fx 8 N) s2 (by simp [fx_len])
  have kt : ((fstr (fx 8 N)).toList == ([70, 76, 85, 77, 69, 76, 79, 71] : List UInt8)) = D := by
    rw [fstr_list, ← hD.out, Bool.eq_iff_iff, beq_iff_eq, decide_eq_true_eq]; rfl
  have hr2 := hide (hr1.out.below hb2)
  have hg2 := hide (grown_trans hg.out (Below.grownAny hb2 _))
  clear s2 ho2 hb2
  go_wp2_with fail
  go_ret
  exact ⟨rfl, hr2.out, hg2.out⟩

set_option maxHeartbeats 1000000 in
theorem head_any (w : World) (rb : Nat) (v : Value) (l : List UInt8) (s : Nat × Int) (h : RdrAt w rb l s.1 s.2) :
    Calls Try.prog 47 #[.agg #[.pointer (some ⟨rb, 0, none⟩), v]] w fun e w' => e = .returned (.agg #[.int .i64 (sg64 (stv l 8 s)), .int .i64 (sg64 (stv l 8 (stp l 8 s))), .int .u32 (stv l 4 (stp l 8 (stp l 8 s)) : Int)]) ∧ RdrAt w' rb l (stp l 4 (stp l 8 (stp l 8 s))).1 (stp l 4 (stp l 8 (stp l 8 s))).2 ∧ w.grownBy w' (some rb) := by
  have hlt := h.lt
  obtain ⟨w3, hw3⟩ : ∃ w3, Hid (((w.alloc (.cells #[.pointer (some ⟨rb, 0, none⟩), v] 67)).alloc (.cells #[.int .i64 0, .int .i64 0, .int .u32 0] 50)).alloc (.cells #[.int .i64 0, .int .i64 0, .int .u32 0] 50) = w3) := ⟨_, rfl⟩
  have x1 : Hid (w3.heap[w.heap.size]? = some (.cells #[.pointer (some ⟨rb, 0, none⟩), v] 67 (0, 0))) := by
    show _ = _
    rw [← hw3.out, (box_below _ _).block w.heap.size (by simp; omega), (box_below _ _).block w.heap.size (by simp)]; exact heap_alloc_new _ _
  have x2 : Hid (w3.heap[w.heap.size + 1]? = some (.cells #[.int .i64 0, .int .i64 0, .int .u32 0] 50 (0, 0))) := by
    show _ = _
    rw [← hw3.out, (box_below _ _).block (w.heap.size + 1) (by simp)]
    have := heap_alloc_new (w.alloc (.cells #[.pointer (some ⟨rb, 0, none⟩), v] 67)) (.cells #[.int .i64 0, .int .i64 0, .int .u32 0] 50)
    simpa using this
  have x3 : Hid (w3.heap[w.heap.size + 1 + 1]? = some (.cells #[.int .i64 0, .int .i64 0, .int .u32 0] 50 (0, 0))) := by
    show _ = _
    rw [← hw3.out]
    have := heap_alloc_new ((w.alloc (.cells #[.pointer (some ⟨rb, 0, none⟩), v] 67)).alloc (.cells #[.int .i64 0, .int .i64 0, .int .u32 0] 50)) (.cells #[.int .i64 0, .int .i64 0, .int .u32 0] 50)
    simpa [Nat.add_assoc] using this
  have b3 : Hid (Below w.heap.size w w3) := by
    rw [← hw3.out]; exact keepF (keepF (box_below _ _) (box_below _ _)) (box_below _ _)
  have r3 := hide (h.below b3.out)
  have g3 := hide (Below.grownAny b3.out (some rb))
  obtain ⟨A, hA⟩ : ∃ A, Hid (stv l 8 s = A) := ⟨_, rfl⟩
  obtain ⟨B, hB⟩ : ∃ B, Hid (stv l 8 (stp l 8 s) = B) := ⟨_, rfl⟩
  obtain ⟨C, hC⟩ : ∃ C, Hid (stv l 4 (stp l 8 (stp l 8 s)) = C) := ⟨_, rfl⟩
  obtain ⟨s1, hs1⟩ : ∃ s1, Hid (stp l 8 s = s1) := ⟨_, rfl⟩
  obtain ⟨s2, hs2⟩ : ∃ s2, Hid (stp l 8 s1 = s2) := ⟨_, rfl⟩
  obtain ⟨s3, hs3⟩ : ∃ s3, Hid (stp l 4 s2 = s3) := ⟨_, rfl⟩
  rw [hs1.out, hs2.out] at hC
  rw [hs1.out] at hB
  rw [hs1.out, hs2.out, hs3.out, hA.out, hB.out, hC.out]
  have n1 : Hid (w.heap.size ≠ rb) := by show _ ≠ _; omega
  have n2 : Hid (w.heap.size + 1 ≠ rb) := by show _ ≠ _; omega
  have n3 : Hid (w.heap.size + 1 + 1 ≠ rb) := by show _ ≠ _; omega
  clear h hlt
  go_enter Try.func47, Try.ntmps47
  go_wp2_with fail
  rw [hw3.out]
  clear hw3
  refine (number_any w3 rb v l s r3.out).mono ?_
  rintro e w4 ⟨rfl, hr4, hg4⟩
  rw [hs1.out] at hr4
  rw [hA.out]
  have y1 := hide (grown_keep hg4 x1.out n1.out)
  have y2 := hide (grown_keep hg4 x2.out n2.out)
  have y3 := hide (grown_keep hg4 x3.out n3.out)
  have g4 := hide (grown_trans g3.out hg4)
  replace hr4 := hide hr4
  clear hg4 x1 x2 x3 g3 r3 b3
  obtain ⟨c0, c1, c2, f0, f1, f2⟩ := three_cells y3.out
  have z1 : Hid ((w4.setCell ⟨w.heap.size + 1 + 1, 0, none⟩ (.int .i64 (sg64 A))).heap[w.heap.size]? = some (.cells #[.pointer (some ⟨rb, 0, none⟩), v] 67 (0, 0))) := by show _ = _; rw [heap_set_other _ _ _ _ _ (by omega)]; exact y1.out
  have z2 : Hid ((w4.setCell ⟨w.heap.size + 1 + 1, 0, none⟩ (.int .i64 (sg64 A))).heap[w.heap.size + 1]? = some (.cells #[.int .i64 0, .int .i64 0, .int .u32 0] 50 (0, 0))) := by show _ = _; rw [heap_set_other _ _ _ _ _ (by omega)]; exact y2.out
  have z3 : Hid ((w4.setCell ⟨w.heap.size + 1 + 1, 0, none⟩ (.int .i64 (sg64 A))).heap[w.heap.size + 1 + 1]? = some (.cells #[.int .i64 (sg64 A), .int .i64 0, .int .u32 0] 50 (0, 0))) := by show _ = _; rw [heap_set y3.out]; simp
  have r5 := hide (hr4.out.put (i := 0) (v := .int .i64 (sg64 A)) y3.out n3.out)
  have g5 := hide (grown_new (i := 0) g4.out (show w.heap.size ≤ w.heap.size + 1 + 1 by omega) (.int .i64 (sg64 A)))
  obtain ⟨d0, d1, _, _⟩ := two_cells y1.out
  go_wp2_with fail
  clear c0 c1 c2 f0 f1 f2 d0 d1 y1 y2 y3 hr4 g4
  generalize w4.setCell ⟨w.heap.size + 1 + 1, 0, none⟩ (.int .i64 (sg64 A)) = w5 at *
  refine (number_any w5 rb v l s1 r5.out).mono ?_
  rintro e w6 ⟨rfl, hr6, hg6⟩
  rw [hs2.out] at hr6
  rw [hB.out]
  have y1 := hide (grown_keep hg6 z1.out n1.out)
  have y2 := hide (grown_keep hg6 z2.out n2.out)
  have y3 := hide (grown_keep hg6 z3.out n3.out)
  have g6 := hide (grown_trans g5.out hg6)
  replace hr6 := hide hr6
  clear hg6 z1 z2 z3 g5 r5
  obtain ⟨c0, c1, c2, f0, f1, f2⟩ := three_cells y3.out
  have z1 : Hid ((w6.setCell ⟨w.heap.size + 1 + 1, 1, none⟩ (.int .i64 (sg64 B))).heap[w.heap.size]? = some (.cells #[.pointer (some ⟨rb, 0, none⟩), v] 67 (0, 0))) := by show _ = _; rw [heap_set_other _ _ _ _ _ (by omega)]; exact y1.out
  have z2 : Hid ((w6.setCell ⟨w.heap.size + 1 + 1, 1, none⟩ (.int .i64 (sg64 B))).heap[w.heap.size + 1]? = some (.cells #[.int .i64 0, .int .i64 0, .int .u32 0] 50 (0, 0))) := by show _ = _; rw [heap_set_other _ _ _ _ _ (by omega)]; exact y2.out
  have z3 : Hid ((w6.setCell ⟨w.heap.size + 1 + 1, 1, none⟩ (.int .i64 (sg64 B))).heap[w.heap.size + 1 + 1]? = some (.cells #[.int .i64 (sg64 A), .int .i64 (sg64 B), .int .u32 0] 50 (0, 0))) := by show _ = _; rw [heap_set y3.out]; simp
  have r7 := hide (hr6.out.put (i := 1) (v := .int .i64 (sg64 B)) y3.out n3.out)
  have g7 := hide (grown_new (i := 1) g6.out (show w.heap.size ≤ w.heap.size + 1 + 1 by omega) (.int .i64 (sg64 B)))
  obtain ⟨d0, d1, _, _⟩ := two_cells y1.out
  go_wp2_with fail
  clear c0 c1 c2 f0 f1 f2 d0 d1 y1 y2 y3 hr6 g6
  generalize w6.setCell ⟨w.heap.size + 1 + 1, 1, none⟩ (.int .i64 (sg64 B)) = w7 at *
  refine (fixed32_tot w7 rb l s2 r7.out).mono ?_
  rintro e w8 ⟨rfl, hr8, hg8⟩
  rw [hs3.out] at hr8
  rw [hC.out]
  have y1 := hide (grown_keep hg8 z1.out n1.out)
  have y2 := hide (grown_keep hg8 z2.out n2.out)
  have y3 := hide (grown_keep hg8 z3.out n3.out)
  have g8 := hide (grown_trans g7.out hg8)
  replace hr8 := hide hr8
  clear hg8 z1 z2 z3 g7 r7
  obtain ⟨c0, c1, c2, f0, f1, f2⟩ := three_cells y3.out
  obtain ⟨e0, e1, e2, h0, h1, h2⟩ := three_cells y2.out
  obtain ⟨w9, hw9⟩ : ∃ w9, Hid (w8.setCell ⟨w.heap.size + 1 + 1, 2, none⟩ (.int .u32 (C : Int)) = w9) := ⟨_, rfl⟩
  have z2 : Hid (w9.heap[w.heap.size + 1]? = some (.cells #[.int .i64 0, .int .i64 0, .int .u32 0] 50 (0, 0))) := by show _ = _; rw [← hw9.out, heap_set_other _ _ _ _ _ (by omega)]; exact y2.out
  have z3 : Hid (w9.heap[w.heap.size + 1 + 1]? = some (.cells #[.int .i64 (sg64 A), .int .i64 (sg64 B), .int .u32 (C : Int)] 50 (0, 0))) := by show _ = _; rw [← hw9.out, heap_set y3.out]; simp
  have r9 : Hid (RdrAt w9 rb l s3.1 s3.2) := by rw [← hw9.out]; exact hr8.out.put y3.out n3.out
  have g9 : Hid (w.grownBy w9 (some rb)) := by rw [← hw9.out]; exact grown_new g8.out (by omega) _
  go_upto_region 5 with fail
  rw [hw9.out]
  clear hw9 c0 c1 c2 f0 f1 f2 e0 e1 e2 h0 h1 h2 y1 y2 y3 hr8 g8
  obtain ⟨c0, c1, c2, _, _, _⟩ := three_cells z3.out
  obtain ⟨e0, e1, e2, h0, h1, h2⟩ := three_cells z2.out
  have hP := hide (three_cells (put3_heap z2.out (.int .i64 (sg64 A)) (.int .i64 (sg64 B)) (.int .u32 (C : Int))))
  have hR : Hid (RdrAt (put3 w9 (w.heap.size + 1) (.int .i64 (sg64 A)) (.int .i64 (sg64 B)) (.int .u32 (C : Int))) rb l s3.1 s3.2) := by
    have a1 := r9.out.put (i := 0) (v := .int .i64 (sg64 A)) z2.out n2.out
    have a2 := a1.put (i := 1) (v := .int .i64 (sg64 B)) (heap_set z2.out _) n2.out
    exact a2.put (i := 2) (v := .int .u32 (C : Int)) (heap_set (heap_set z2.out _) _) n2.out
  have hG : Hid (w.grownBy (put3 w9 (w.heap.size + 1) (.int .i64 (sg64 A)) (.int .i64 (sg64 B)) (.int .u32 (C : Int))) (some rb)) := grown_new (grown_new (grown_new g9.out (by omega) _) (by omega) _) (by omega) _
  go_wp2_with fail
  show bodyPost _ _ _ _ _ (put3 w9 (w.heap.size + 1) (.int .i64 (sg64 A)) (.int .i64 (sg64 B)) (.int .u32 (C : Int)))
  obtain ⟨wX, hwX⟩ : ∃ wX, Hid (put3 w9 (w.heap.size + 1) (.int .i64 (sg64 A)) (.int .i64 (sg64 B)) (.int .u32 (C : Int)) = wX) := ⟨_, rfl⟩
  rw [hwX.out] at hP hR hG ⊢
  obtain ⟨k0, k1, k2, _, _, _⟩ := hP.out
  refine bodyPost_ret (by simp [results, Try.results47, go_sem, k0, k1, k2]; rfl) rfl ?_
  exact ⟨rfl, hR.out, hG.out⟩
#print axioms head_any
end Go.Proofs.Ytophaolgmpdimaa
