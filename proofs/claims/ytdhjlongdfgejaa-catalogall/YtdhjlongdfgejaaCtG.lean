/-
  Cut: the program's.
-/
import Derived.Test.YtdhjlongdfgejaaCtF
namespace Go.Proofs.Ytdhjlongdfgejaa.Ct
open Go.RowKit

/-- What Cut owes. -/
def DoesCut (f : Nat) : Prop := ∀ (w : World) (g fi : Int) (v : Value) (l : List Sg) (n : Int), Sgs w v l → g ≤ 9223372036854775807 →
  Calls Try.prog f #[.agg #[.int .i64 g, .int .i64 fi, v], .int .i64 n] w fun e w' => ∃ v' u', e = .returned (.tuple #[.agg #[.int .i64 (cutF g fi l n).2.1, .int .i64 (cutF g fi l n).2.2.1, v'], u', .int .i64 (cutF g fi l n).1]) ∧ Own w.heap.size w' v' (cutF g fi l n).2.2.2.1 ∧ IOwn w.heap.size w' u' (cutF g fi l n).2.2.2.2 ∧ Below w.heap.size w w'
/-- Three cells of a block, written. -/
def put3 (w : World) (b : Nat) (a0 a1 a2 : Value) : World := ((w.setCell ⟨b, 0, none⟩ a0).setCell ⟨b, 1, none⟩ a1).setCell ⟨b, 2, none⟩ a2
theorem put3_heap {w : World} {b : Nat} {z0 z1 z2 : Value} {T : TypeId} (h : w.heap[b]? = some (.cells #[z0, z1, z2] T (0, 0))) (a0 a1 a2 : Value) : (put3 w b a0 a1 a2).heap[b]? = some (.cells #[a0, a1, a2] T (0, 0)) := by
  unfold put3
  rw [heap_setCell_same _ _ _ _ _ _ (heap_setCell_same _ _ _ _ _ _ (heap_setCell_same _ _ _ _ _ _ h))]
  simp
theorem put3_other (w : World) (b k : Nat) (a0 a1 a2 : Value) (h : k ≠ b) : (put3 w b a0 a1 a2).heap[k]? = w.heap[k]? := by
  unfold put3
  rw [heap_setCell_other _ _ k _ h, heap_setCell_other _ _ k _ h, heap_setCell_other _ _ k _ h]
theorem put3_below {B : Nat} {u w : World} (h : Below B u w) {b : Nat} (hb : B ≤ b) (a0 a1 a2 : Value) : Below B u (put3 w b a0 a1 a2) := ((h.setCell hb a0).setCell hb a1).setCell hb a2
theorem three_frozen {w : World} {b : Nat} {a0 a1 a2 : Value} {T : TypeId} (h : w.heap[b]? = some (.cells #[a0, a1, a2] T (0, 0))) : w.frozen? ⟨b, 0, none⟩ = false ∧ w.frozen? ⟨b, 1, none⟩ = false ∧ w.frozen? ⟨b, 2, none⟩ = false := by
  simp [World.frozen?, h]
theorem Own.put3 {B : Nat} {w : World} {v : Value} {l : List Sg} (h : Own B w v l) {b : Nat} {cs : Array Value} {T : TypeId} {fz : Nat × Nat} (hb : w.heap[b]? = some (.cells cs T fz)) (hT : T ≠ 53) (a0 a1 a2 : Value) : Own B (put3 w b a0 a1 a2) v l := by
  refine ⟨h.1, ?_⟩
  have hn := h.no hb hT
  exact ownsRow_setCell_other (ownsRow_setCell_other (ownsRow_setCell_other h.2 hn _) hn _) hn _
theorem IOwn.no {B : Nat} {w : World} {v : Value} {l : List Int} {b : Nat} {cs : Array Value} {T : TypeId} {fz : Nat × Nat} (h : IOwn B w v l) (hb : w.heap[b]? = some (.cells cs T fz)) (hT : T ≠ 2) : v.ownBlock ≠ some b := fun e1 => by
  rcases h.2 with ⟨rfl, _⟩ | ⟨g, cap, cur, rfl, hg, hh, r⟩
  · simp [Value.ownBlock] at e1
  · simp [Value.ownBlock] at e1
    subst e1
    rw [hb] at hh
    simp at hh
    exact hT hh.2.1
theorem IOwn.put3 {B : Nat} {w : World} {v : Value} {l : List Int} (h : IOwn B w v l) {b : Nat} {cs : Array Value} {T : TypeId} {fz : Nat × Nat} (hb : w.heap[b]? = some (.cells cs T fz)) (hT : T ≠ 2) (a0 a1 a2 : Value) : IOwn B (put3 w b a0 a1 a2) v l := by
  have hn := h.no hb hT
  exact ownsRow_setCell_other (ownsRow_setCell_other (ownsRow_setCell_other h hn _) hn _) hn _
set_option maxHeartbeats 2000000 in
theorem cut_any : DoesCut 18 := by
  intro w g fi v l n hv hg
  obtain ⟨N, hN⟩ : ∃ N, Hid (l.length = N) := ⟨_, rfl⟩
  obtain ⟨ao, ca, rfl, q1, q2⟩ := hv.form
  rw [hN.out] at hv q1 ⊢
  have hB0 := hide (box_below w (.cells #[.int .i64 g, .int .i64 fi, .slice ao N ca] 29))
  have hB := hide (keepF hB0.out (box_below _ (.cells #[.int .i64 0, .int .i64 0, .slice none 0 0] 29)))
  have CALL := hide (may_any _ g fi _ l (hv.below hB.out))
  have hb1 : Hid (((w.alloc (.cells #[.int .i64 g, .int .i64 fi, .slice ao N ca] 29)).alloc (.cells #[.int .i64 0, .int .i64 0, .slice none 0 0] 29)).heap[w.heap.size]? = some (.cells #[.int .i64 g, .int .i64 fi, .slice ao N ca] 29 (0, 0))) := by
    show _ = _
    rw [(box_below _ _).block w.heap.size (by simp), heap_alloc_new]
  have hb2 : Hid (((w.alloc (.cells #[.int .i64 g, .int .i64 fi, .slice ao N ca] 29)).alloc (.cells #[.int .i64 0, .int .i64 0, .slice none 0 0] 29)).heap[w.heap.size + 1]? = some (.cells #[.int .i64 0, .int .i64 0, .slice none 0 0] 29 (0, 0))) := by
    show _ = _
    have := heap_alloc_new (w.alloc (.cells #[.int .i64 g, .int .i64 fi, .slice ao N ca] 29)) (.cells #[.int .i64 0, .int .i64 0, .slice none 0 0] 29)
    simpa using this
  clear hB0
  by_cases hm : May g fi l
  · rw [mayB_t hm] at CALL
    have HM := hide hm
    have HV := hide hv
    obtain ⟨b, off, ca', e, _, _, hc⟩ := hv.at hm.n1
    rw [hN.out] at e hc
    simp only [Value.slice.injEq, true_and] at e
    obtain ⟨rfl, rfl⟩ := e
    have hn1 := hm.n1
    have hn2 := hm.n2
    rw [hN.out] at hn1 hn2
    clear hv hm hc
    by_cases h2 : n < fi ∨ g = 9223372036854775807
    · have hE := hide (cutF_arg HM.out h2)
      go_enter Try.func18, Try.ntmps18
      go_wp2_with fail
      refine CALL.out.mono ?_
      rintro e w2 ⟨rfl, b2⟩
      have B2 := hide (keepF hB.out b2)
      have r2 : Hid (w2.heap[w.heap.size + 1]? = some (.cells #[.int .i64 0, .int .i64 0, .slice none 0 0] 29 (0, 0))) := by show _ = _; rw [b2.block _ (heap_lt hb2.out)]; exact hb2.out
      obtain ⟨c0, c1, c2⟩ := three_cells (show w2.heap[w.heap.size]? = _ by rw [b2.block _ (heap_lt hb1.out)]; exact hb1.out)
      obtain ⟨d0, d1, d2⟩ := three_cells r2.out
      obtain ⟨f0, f1, f2⟩ := three_frozen r2.out
      have F := hide (three_cells (put3_heap r2.out (.int .i64 0) (.int .i64 0) (.slice none 0 0)))
      have BF := hide (put3_below B2.out (Nat.le_succ _) (.int .i64 0) (.int .i64 0) (.slice none 0 0))
      clear b2 CALL
      by_cases h3 : n < fi
      · go_wp2_with fail
        show bodyPost _ _ _ _ _ (put3 w2 (w.heap.size + 1) (.int .i64 0) (.int .i64 0) (.slice none 0 0))
        generalize put3 w2 (w.heap.size + 1) (.int .i64 0) (.int .i64 0) (.slice none 0 0) = w5 at *
        obtain ⟨k0, k1, k2⟩ := F.out
        refine bodyPost_ret (by simp [results, Try.results18, go_sem, k0, k1, k2]; rfl) rfl ?_
        rw [hE.out]
        exact ⟨_, _, rfl, Own.nil _ _, IOwn.nil _ _, BF.out⟩
      · have h4 : g = 9223372036854775807 := h2.resolve_left h3
        subst h4
        go_wp2_with fail
        show bodyPost _ _ _ _ _ (put3 w2 (w.heap.size + 1) (.int .i64 0) (.int .i64 0) (.slice none 0 0))
        generalize put3 w2 (w.heap.size + 1) (.int .i64 0) (.int .i64 0) (.slice none 0 0) = w5 at *
        obtain ⟨k0, k1, k2⟩ := F.out
        refine bodyPost_ret (by simp [results, Try.results18, go_sem, k0, k1, k2]; rfl) rfl ?_
        rw [hE.out]
        exact ⟨_, _, rfl, Own.nil _ _, IOwn.nil _ _, BF.out⟩
    · obtain ⟨k, hk⟩ := HM.out.isCut n
      have hE := hide (cutF_at HM.out h2 hk)
      have HK := hide hk
      have hkN := hk.lt
      have h3 : ¬ n < fi := fun c => h2 (.inl c)
      have h4 : ¬ g = 9223372036854775807 := fun c => h2 (.inr c)
      have h4' : (g == 9223372036854775807) = false := by simpa using h4
      have hg1 := HM.out.g1
      have hw : IntKind.i64.wrap (g + 1) = g + 1 := by rw [IntKind.wrap_i64]; omega
      rw [hN.out] at hkN
      clear h2 hk
      go_enter Try.func18, Try.ntmps18
      go_wp2_with fail
      refine CALL.out.mono ?_
      rintro e w2 ⟨rfl, b2⟩
      have B2 := hide (keepF hB.out b2)
      have r1 : Hid (w2.heap[w.heap.size]? = some (.cells #[.int .i64 g, .int .i64 fi, .slice (some ⟨b, off, none⟩) N ca] 29 (0, 0))) := by show _ = _; rw [b2.block _ (heap_lt hb1.out)]; exact hb1.out
      have r2 : Hid (w2.heap[w.heap.size + 1]? = some (.cells #[.int .i64 0, .int .i64 0, .slice none 0 0] 29 (0, 0))) := by show _ = _; rw [b2.block _ (heap_lt hb2.out)]; exact hb2.out
      obtain ⟨c0, c1, c2⟩ := three_cells r1.out
      clear b2 CALL
      go_wp2_with fail
      refine (below_any _ _ g fi l n k (HV.out.below B2.out) HM.out HK.out).mono ?_
      rintro e w3 ⟨rfl, b3⟩
      have B3 := hide (keepF B2.out b3)
      have p1 : Hid (w3.heap[w.heap.size]? = some (.cells #[.int .i64 g, .int .i64 fi, .slice (some ⟨b, off, none⟩) N ca] 29 (0, 0))) := by show _ = _; rw [b3.block _ (heap_lt r1.out)]; exact r1.out
      have p2 : Hid (w3.heap[w.heap.size + 1]? = some (.cells #[.int .i64 0, .int .i64 0, .slice none 0 0] 29 (0, 0))) := by show _ = _; rw [b3.block _ (heap_lt r2.out)]; exact r2.out
      clear b3 c0 c1 c2 r1 r2 B2
      have V3 := hide (HV.out.below B3.out)
      have VD : Hid (Sgs w3 (.slice (some ⟨b, off + k * 5, none⟩) (N - k) (ca - k)) (l.drop k)) := V3.out.drop k (by rw [hN.out]; omega)
      have hdl : Hid ((l.drop k).length ≤ 100) := by show _ ≤ _; rw [List.length_drop, hN.out]; omega
      obtain ⟨D, hD⟩ : ∃ D, Hid (l.drop k = D) := ⟨_, rfl⟩
      rw [hD.out] at VD hdl
      have VT : Hid (Sgs w3 (.slice (some ⟨b, off, none⟩) k ca) (l.take k)) := V3.out.take k (by rw [hN.out]; omega)
      have i0 : (0 : Int) ≤ (k : Int) := by omega
      have i1 : (k : Int) ≤ (N : Int) := by omega
      have i2 : (N : Int) ≤ (ca : Int) := by omega
      have i3 : ¬ ca = k := by omega
      obtain ⟨c0, c1, c2⟩ := three_cells p1.out
      go_upto_region 6 with fail
      go_cut [8] from 27 to 36 (fun y wx => ∃ nb vn, y = .pointer (some ⟨nb, 0, none⟩) ∧ Hid (w3.heap.size ≤ nb ∧ Below w3.heap.size w3 wx ∧ Own w3.heap.size wx vn D ∧ wx.heap[nb]? = some (.cells #[.int .i64 (g + 1), .int .i64 n, vn] 29 (0, 0))))
      case first =>
        have KC : Hid (∀ q, Below w3.heap.size w3 q → q.cell? ⟨w.heap.size, 0, none⟩ = some (.int .i64 g) ∧ q.cell? ⟨w.heap.size, 2, none⟩ = some (.slice (some ⟨b, off, none⟩) N ca)) := by
          intro q hb
          obtain ⟨z0, _, z2⟩ := three_cells (show q.heap[w.heap.size]? = _ by rw [hb.block _ (heap_lt p1.out)]; exact p1.out)
          exact ⟨z0, z2⟩
        go_region_held3 (fun q => q.cell? ⟨w.heap.size, 0, none⟩ = some (.int .i64 g) ∧ q.cell? ⟨w.heap.size, 2, none⟩ = some (.slice (some ⟨b, off, none⟩) N ca))
          (first | exact ⟨c0, c2⟩ | assumption | exact KC.out _ (box_below w3 _).drew | exact KC.out _ KP.out | exact KC.out _ (keepF KP.out (box_below _ _)) | exact KC.out _ (put3_below KP.out (Nat.le_refl _) _ _ _) | fail)
          (first
            | (go_at_call 37; refine (clone_any w3.drew _ D (VD.out.below (Below.refl _ w3).drew) hdl.out).mono ?_; rintro e u1 ⟨vn, rfl, O1, B1⟩; have KP : Hid (Below w3.heap.size w3 u1) := keepF (Below.refl _ w3).drew B1; replace O1 : Hid (Own w3.heap.size u1 vn D) := O1; obtain ⟨aon, can, rfl, _, _⟩ := O1.out.form; clear B1)
            | (go_at_call 37; refine (clone_any (w3.alloc (.cells #[.int .i64 0, .int .i64 0, .slice none 0 0] 29)).drew _ D (VD.out.below (box_below w3 _).drew) hdl.out).mono ?_; rintro e u1 ⟨vn, rfl, O1, B1⟩; have KP : Hid (Below w3.heap.size w3 u1) := keepF (box_below w3 _).drew B1; replace O1 : Hid (Own w3.heap.size u1 vn D) := O1.low (by simp [World.drew]); obtain ⟨aon, can, rfl, _, _⟩ := O1.out.form; have ZB : Hid (u1.heap[w3.heap.size]? = some (.cells #[.int .i64 0, .int .i64 0, .slice none 0 0] 29 (0, 0))) := hide (by rw [B1.block w3.heap.size (by simp [World.drew])]; exact heap_alloc_new w3 _); obtain ⟨y0, y1, y2⟩ := three_cells ZB.out; obtain ⟨x0, x1, x2⟩ := three_frozen ZB.out; clear B1)
            | fail)
        · go_wp2_with fail
          go_meet
          case rel => exact ⟨u1.heap.size, .slice aon D.length can, rfl, KP.out.size, keepF KP.out (box_below _ _), O1.out.below (box_below _ _), heap_alloc_new _ _⟩
        · go_wp2_with fail
          go_meet
          case rel =>
            refine ⟨w3.heap.size, .slice aon D.length can, rfl, ?_⟩
            have q1 := put3_below KP.out (Nat.le_refl _) (.int .i64 (g + 1)) (.int .i64 n) (.slice aon D.length can)
            have q2 := O1.out.put3 ZB.out (by decide) (.int .i64 (g + 1)) (.int .i64 n) (.slice aon D.length can)
            have q3 := put3_heap ZB.out (.int .i64 (g + 1)) (.int .i64 n) (.slice aon D.length can)
            exact ⟨Nat.le_refl _, q1, q2, q3⟩
      case rest =>
        obtain ⟨nb, vn, rfl, hc⟩ := hcut
        obtain ⟨hnb, BW, OW, HW⟩ := hc.out
        replace hnb := hide hnb
        replace BW := hide BW
        replace OW := hide OW
        replace HW := hide HW
        clear hc
        have s1 : Hid (wc.heap[w.heap.size]? = some (.cells #[.int .i64 g, .int .i64 fi, .slice (some ⟨b, off, none⟩) N ca] 29 (0, 0))) := by show _ = _; rw [BW.out.block _ (heap_lt p1.out)]; exact p1.out
        have s2 : Hid (wc.heap[w.heap.size + 1]? = some (.cells #[.int .i64 0, .int .i64 0, .slice none 0 0] 29 (0, 0))) := by show _ = _; rw [BW.out.block _ (heap_lt p2.out)]; exact p2.out
        have BW2 := hide (keepF B3.out BW.out)
        have VT2 := hide (VT.out.below BW.out)
        have hlo := hide B3.out.size
        clear c0 c1 c2
        go_upto_region 7 with fail
        obtain ⟨aon, can, rfl, _, _⟩ := OW.out.form
        have KC : Hid (∀ q, Below wc.heap.size wc q → q.cell? ⟨nb, 0, none⟩ = some (.int .i64 (g + 1)) ∧ q.cell? ⟨nb, 1, none⟩ = some (.int .i64 n) ∧ q.cell? ⟨nb, 2, none⟩ = some (.slice aon D.length can) ∧ q.cell? ⟨w.heap.size, 2, none⟩ = some (.slice (some ⟨b, off, none⟩) N ca)) := by
          intro q hb
          obtain ⟨_, _, z2⟩ := three_cells (show q.heap[w.heap.size]? = _ by rw [hb.block _ (heap_lt s1.out)]; exact s1.out)
          obtain ⟨y0, y1, y2⟩ := three_cells (show q.heap[nb]? = _ by rw [hb.block _ (heap_lt HW.out)]; exact HW.out)
          exact ⟨y0, y1, y2, z2⟩
        have hsz3 := hide (heap_lt p2.out)
        have KC3 : Hid (∀ q, Below wc.heap.size wc q → ∀ a0 a1 a2, (put3 q (w.heap.size + 1) a0 a1 a2).cell? ⟨nb, 0, none⟩ = some (.int .i64 (g + 1)) ∧ (put3 q (w.heap.size + 1) a0 a1 a2).cell? ⟨nb, 1, none⟩ = some (.int .i64 n) ∧ (put3 q (w.heap.size + 1) a0 a1 a2).cell? ⟨nb, 2, none⟩ = some (.slice aon D.length can) ∧ (put3 q (w.heap.size + 1) a0 a1 a2).cell? ⟨w.heap.size, 2, none⟩ = some (.slice (some ⟨b, off, none⟩) N ca)) := by
          intro q hb a0 a1 a2
          obtain ⟨_, _, z2⟩ := three_cells (show (put3 q (w.heap.size + 1) a0 a1 a2).heap[w.heap.size]? = _ by rw [put3_other _ _ _ _ _ _ (by omega), hb.block _ (heap_lt s1.out)]; exact s1.out)
          obtain ⟨y0, y1, y2⟩ := three_cells (show (put3 q (w.heap.size + 1) a0 a1 a2).heap[nb]? = _ by rw [put3_other _ _ _ _ _ _ (by have := hnb.out; have := hsz3.out; omega), hb.block _ (heap_lt HW.out)]; exact HW.out)
          exact ⟨y0, y1, y2, z2⟩
        clear p1 p2
        have i4 : k ≤ ca := by omega
        have hS0 := KC.out wc.drew (Below.refl _ _).drew
        have htl : Hid ((l.take k).length ≤ 64) := by show _ ≤ _; simp; omega
        obtain ⟨T, hT⟩ : ∃ T, Hid (l.take k = T) := ⟨_, rfl⟩
        rw [hT.out] at VT2 htl
        rw [hT.out, hD.out] at hE
        go_region_held3 (fun q => q.cell? ⟨nb, 0, none⟩ = some (.int .i64 (g + 1)) ∧ q.cell? ⟨nb, 1, none⟩ = some (.int .i64 n) ∧ q.cell? ⟨nb, 2, none⟩ = some (.slice aon D.length can) ∧ q.cell? ⟨w.heap.size, 2, none⟩ = some (.slice (some ⟨b, off, none⟩) N ca))
          (first | exact hS0 | assumption | exact KC.out _ KP.out | exact KC3.out _ KP.out _ _ _ | fail)
          (first
            | (go_at_call 40; refine (nums_any wc.drew _ T (VT2.out.below (Below.refl _ wc).drew) htl.out).mono ?_; rintro e u1 ⟨vt, rfl, O1, B1⟩; have KP : Hid (Below wc.heap.size wc u1) := keepF (Below.refl _ wc).drew B1; replace O1 : Hid (IOwn wc.heap.size u1 vt (T.map Sg.nm)) := O1; have ZB : Hid (u1.heap[w.heap.size + 1]? = some (.cells #[.int .i64 0, .int .i64 0, .slice none 0 0] 29 (0, 0))) := hide (by rw [B1.block _ (heap_lt s2.out)]; exact s2.out); obtain ⟨y0, y1, y2⟩ := three_cells ZB.out; obtain ⟨x0, x1, x2⟩ := three_frozen ZB.out; clear B1)
            | fail)
        all_goals
          go_wp2_with fail
          have q1 := hide (put3_below (keepF B3.out (keepF BW.out KP.out)) (Nat.le_succ _) (.int .i64 (g + 1)) (.int .i64 n) (.slice aon D.length can))
          have q2 := hide (((OW.out.below KP.out).put3 ZB.out (by decide) (.int .i64 (g + 1)) (.int .i64 n) (.slice aon D.length can)).low hlo.out)
          have q3 := hide ((O1.out.put3 ZB.out (by decide) (.int .i64 (g + 1)) (.int .i64 n) (.slice aon D.length can)).low (Nat.le_trans hlo.out BW.out.size))
          have F := hide (three_cells (put3_heap ZB.out (.int .i64 (g + 1)) (.int .i64 n) (.slice aon D.length can)))
          show bodyPost _ _ _ _ _ (put3 u1 (w.heap.size + 1) (.int .i64 (g + 1)) (.int .i64 n) (.slice aon D.length can))
          generalize put3 u1 (w.heap.size + 1) (.int .i64 (g + 1)) (.int .i64 n) (.slice aon D.length can) = w5 at *
          obtain ⟨k0, k1, k2⟩ := F.out
          refine bodyPost_ret (by simp [results, Try.results18, go_sem, k0, k1, k2]; rfl) rfl ?_
          rw [hE.out]
          exact ⟨_, _, rfl, q2.out, q3.out, q1.out⟩
  · rw [mayB_f hm] at CALL
    have hE := hide (cutF_no (n := n) hm)
    clear hv hm
    go_enter Try.func18, Try.ntmps18
    go_wp2_with fail
    refine CALL.out.mono ?_
    rintro e w2 ⟨rfl, b2⟩
    have B2 := hide (keepF hB.out b2)
    have r2 : Hid (w2.heap[w.heap.size + 1]? = some (.cells #[.int .i64 0, .int .i64 0, .slice none 0 0] 29 (0, 0))) := by show _ = _; rw [b2.block _ (heap_lt hb2.out)]; exact hb2.out
    obtain ⟨d0, d1, d2⟩ := three_cells r2.out
    obtain ⟨f0, f1, f2⟩ := three_frozen r2.out
    have F := hide (three_cells (put3_heap r2.out (.int .i64 0) (.int .i64 0) (.slice none 0 0)))
    have BF := hide (put3_below B2.out (Nat.le_succ _) (.int .i64 0) (.int .i64 0) (.slice none 0 0))
    clear b2 CALL
    go_wp2_with fail
    show bodyPost _ _ _ _ _ (put3 w2 (w.heap.size + 1) (.int .i64 0) (.int .i64 0) (.slice none 0 0))
    generalize put3 w2 (w.heap.size + 1) (.int .i64 0) (.int .i64 0) (.slice none 0 0) = w5 at *
    obtain ⟨k0, k1, k2⟩ := F.out
    refine bodyPost_ret (by simp [results, Try.results18, go_sem, k0, k1, k2]; rfl) rfl ?_
    rw [hE.out]
    exact ⟨_, _, rfl, Own.nil _ _, IOwn.nil _ _, BF.out⟩
#print axioms cut_any
end Go.Proofs.Ytdhjlongdfgejaa.Ct
