/-
  Read: the program's.
-/
import Derived.Test.YtdhjlongdfgejaaCtL
import Derived.Lib.SlBytesRow
namespace Go.Proofs.Ytdhjlongdfgejaa.Ct
open Go.RowKit

def fstr (t : List UInt8) : ByteArray := ⟨t.toArray⟩
theorem fstr_list (t : List UInt8) : (fstr t).toList = t := by
  exact ByteArray.toList_mk t
theorem conv8_any (w : World) (v : Value) (t : List UInt8) (h : Sl w v t) (h0 : 0 < t.length) : (convert 31 9 v).run Try.prog w = .ok (.string (fstr t)) w := by
  obtain ⟨ao, c, rfl, h1, h2, h3, h4⟩ := h
  obtain ⟨b, off, rfl, _⟩ := h4 0 (by omega)
  have hb : Lib.Bytes w b off (fstr t) := fun i hi => by
    obtain ⟨b', off', e', hc⟩ := h4 i hi
    simp only [Option.some.injEq, Addr.mk.injEq] at e'
    obtain ⟨rfl, rfl, _⟩ := e'
    rw [hc]
    rfl
  have := Lib.run_convert_window w 31 5 9 Try.underlying31 Try.underlying5 Try.underlying9 b off (fstr t) hb 0 t.length c (by show 0 + t.length ≤ t.length; omega)
  rw [Nat.add_zero] at this
  rw [this]
  congr 2
  apply ByteArray.ext
  simp [fstr]
/-- What Read owes. -/
def DoesRead (f : Nat) : Prop := ∀ (w : World) (v : Value) (l : List UInt8), Sl w v l → l.length ≤ 140737488355328 →
  Calls Try.prog f #[v] w fun e w' => ∃ v', e = .returned (.tuple #[.agg #[.int .i64 (readF l).2.1, .int .i64 (readF l).2.2.1, v'], .int .i64 (readF l).1]) ∧ Own w.heap.size w' v' (readF l).2.2.2 ∧ Below w.heap.size w w'
set_option maxRecDepth 20000 in
set_option maxHeartbeats 2000000 in
theorem read_any : DoesRead 24 := by
  intro w v l hv hlen
  obtain ⟨n, hn⟩ : ∃ n, Hid (l.length = n) := ⟨_, rfl⟩
  obtain ⟨ao, ca, rfl⟩ := hv.form hn.out
  have Z0 := hide (heap_alloc_new w (.cells #[.int .i64 0, .int .i64 0, .slice none 0 0] 29))
  have B0 := hide (box_below w (.cells #[.int .i64 0, .int .i64 0, .slice none 0 0] 29))
  have V0 := hide (Below.sl B0.out hv)
  have hcap : n ≤ ca ∧ ca ≤ 9223372036854775807 := by
    obtain ⟨_, _, e, _, g3, g4, _⟩ := hv
    simp only [Value.slice.injEq] at e
    obtain ⟨_, _, rfl⟩ := e
    rw [hn.out] at g3
    unfold maxLen at g4
    omega
  obtain ⟨hc1, hc2⟩ := hcap
  obtain ⟨w1, hw1⟩ : ∃ w1, Hid (w.alloc (.cells #[.int .i64 0, .int .i64 0, .slice none 0 0] 29) = w1) := ⟨_, rfl⟩
  rw [hw1.out] at Z0 B0 V0
  obtain ⟨d0, d1, d2⟩ := three_cells Z0.out
  obtain ⟨f0, f1, f2⟩ := three_frozen Z0.out
  have F := hide (three_cells (put3_heap Z0.out (.int .i64 0) (.int .i64 0) (.slice none 0 0)))
  have BF := hide (put3_below B0.out (Nat.le_refl _) (.int .i64 0) (.int .i64 0) (.slice none 0 0))
  clear hv
  by_cases h8 : n < 8
  · have hE : Hid (readF l = (2, 0, 0, [])) := by show _ = _; unfold readF; rw [if_pos (by rw [hn.out]; exact h8)]
    have h8' : (n : Int) < 8 := by omega
    go_enter Try.func24, Try.ntmps24
    go_upto_region 1 with fail
    rw [hw1.out]
    go_wp2_with fail
    show bodyPost _ _ _ _ _ (put3 w1 w.heap.size (.int .i64 0) (.int .i64 0) (.slice none 0 0))
    generalize put3 w1 w.heap.size (.int .i64 0) (.int .i64 0) (.slice none 0 0) = w5 at *
    obtain ⟨k0, k1, k2⟩ := F.out
    refine bodyPost_ret (by simp [results, Try.results24, go_sem, k0, k1, k2]; rfl) rfl ?_
    rw [hE.out]
    exact ⟨_, rfl, Own.nil _ _, BF.out⟩
  have h8' : ¬ (n : Int) < 8 := by omega
  have i4 : (4 : Int) ≤ (ca : Int) := by omega
  have i4' : 4 ≤ ca := by omega
  have sM : Hid (Sl w1 (.slice ao 4 ca) (l.take 4)) := sl_take 4 (by rw [hn.out]; omega) V0.out hn.out
  have hml : Hid ((l.take 4).length = 4) := by show _ = _; have := hn.out; simp; omega
  have kc : (convert 31 9 (.slice ao 4 ca)).run Try.prog w1 = .ok (.string (fstr (l.take 4))) w1 := conv8_any w1 _ _ sM.out (by rw [hml.out]; omega)
  by_cases hmk : l.take 4 ≠ markC
  · have hE : Hid (readF l = (4, 0, 0, [])) := by show _ = _; unfold readF; rw [if_neg (by rw [hn.out]; exact h8), if_pos hmk]
    have kt : ((fstr (l.take 4)).toList == ([70, 67, 65, 84] : List UInt8)) = false := by rw [fstr_list]; simpa [markC] using hmk
    generalize l.take 4 = T at *
    go_enter Try.func24, Try.ntmps24
    go_upto_region 1 with fail
    rw [hw1.out]
    go_wp2_with fail
    show bodyPost _ _ _ _ _ (put3 w1 w.heap.size (.int .i64 0) (.int .i64 0) (.slice none 0 0))
    generalize put3 w1 w.heap.size (.int .i64 0) (.int .i64 0) (.slice none 0 0) = w5 at *
    obtain ⟨k0, k1, k2⟩ := F.out
    refine bodyPost_ret (by simp [results, Try.results24, go_sem, k0, k1, k2]; rfl) rfl ?_
    rw [hE.out]
    exact ⟨_, rfl, Own.nil _ _, BF.out⟩
  replace hmk := Classical.not_not.1 hmk
  have kt : ((fstr (l.take 4)).toList == ([70, 67, 65, 84] : List UInt8)) = true := by rw [fstr_list, hmk]; rfl
  obtain ⟨k, hk⟩ : ∃ k, Hid (n = k + 4) := ⟨n - 4, by show _ = _; omega⟩
  have hk' := hk.out
  have hnl := hn.out
  have sT : Hid (Sl w1 (.slice ao k ca) (l.take k)) := sl_take k (by omega) V0.out hn.out
  have hao : ∃ b off, ao = some ⟨b, off, none⟩ := by
    obtain ⟨ao', ca', e, g2, g3, g4, g5⟩ := V0.out
    simp only [Value.slice.injEq] at e
    obtain ⟨rfl, _, _⟩ := e
    obtain ⟨b, off, e, _⟩ := g5 0 (by omega)
    exact ⟨b, off, e⟩
  obtain ⟨b, off, rfl⟩ := hao
  have sD : Hid (Sl w1 (.slice (some ⟨b, off + k, none⟩) (n - k) (ca - k)) (l.drop k)) := by
    obtain ⟨ao', ca', e, g2, g3, g4, g5⟩ := V0.out
    simp only [Value.slice.injEq] at e
    obtain ⟨rfl, _, rfl⟩ := e
    have := sl_drop k (by omega) g2 g3 g4 g5
    rw [hn.out, if_neg (by omega), Option.map_some, addr_add] at this
    exact this
  have sB : Hid (Sl w1 (.slice (some ⟨b, off + 4, none⟩) (k - 4) (ca - 4)) ((l.take k).drop 4)) := by
    obtain ⟨ao', ca', e, g2, g3, g4, g5⟩ := sT.out
    simp only [Value.slice.injEq] at e
    obtain ⟨rfl, e2, rfl⟩ := e
    have := sl_drop 4 (by rw [← e2]; omega) g2 g3 g4 g5
    rw [← e2, if_neg (by omega), Option.map_some, addr_add] at this
    exact this
  have hdl : Hid ((l.drop k).length = 4) := by show _ = _; rw [List.length_drop, hnl]; omega
  have htl : Hid (((l.take k).drop 4).length ≤ 140737488355328) := by show _ ≤ _; simp; omega
  have hE : Hid (readF l = if num (l.drop k) ≠ (Crc.more 0#32 (l.take k)).toNat then (5, 0, 0, []) else betwF ((l.take k).drop 4)) := by
    show _ = _
    unfold readF
    rw [hnl, if_neg h8, if_neg (fun c => c hmk), show n - 4 = k by omega]
  obtain ⟨D, hD⟩ : ∃ D, Hid (l.drop k = D) := ⟨_, rfl⟩
  obtain ⟨M, hM⟩ : ∃ M, Hid (l.take k = M) := ⟨_, rfl⟩
  obtain ⟨E, hEE⟩ : ∃ E, Hid (M.drop 4 = E) := ⟨_, rfl⟩
  rw [hM.out, hEE.out, hD.out] at hE
  rw [hM.out, hEE.out] at sB htl
  rw [hM.out] at sT
  rw [hD.out] at sD hdl
  have hD4 : Hid ((D.drop 0).take 4 = D) := by show _ = _; rw [List.drop_zero, List.take_of_length_le (by rw [hdl.out]; omega)]
  obtain ⟨nD, hnD⟩ : ∃ nD, Hid (num D = nD) := ⟨_, rfl⟩
  obtain ⟨nC, hnC⟩ : ∃ nC, Hid ((Crc.more 0#32 M).toNat = nC) := ⟨_, rfl⟩
  rw [hnD.out, hnC.out] at hE
  have hw : (n : Int) - 4 = (k : Int) := by omega
  have hw' : IntKind.i64.wrap (k : Int) = (k : Int) := by rw [IntKind.wrap_i64]; omega
  have hkc : k ≤ ca := by omega
  have hkn : k ≤ n := by omega
  have hk4 : 4 ≤ k := by omega
  have j0 : (0 : Int) ≤ (k : Int) := by omega
  have j1 : (k : Int) ≤ (n : Int) := by omega
  have j2 : (n : Int) ≤ (ca : Int) := by omega
  have j3 : (k : Int) ≤ (ca : Int) := by omega
  have j4 : (4 : Int) ≤ (k : Int) := by omega
  have hne1 : ¬ ca = k := by omega
  have hne2 : ¬ ca = 4 := by omega
  generalize l.take 4 = T at *
  clear hnl hk' hmk
  go_enter Try.func24, Try.ntmps24
  go_upto_region 1 with fail
  rw [hw1.out]
  go_upto_region 6 with fail
  go_cut [26] from 17 to 26 (fun y wx => y = .bool ((nD : Int) != (nC : Int)) ∧ Hid (Below w1.heap.size w1 wx))
  case first =>
    have hS0 : Below w1.heap.size w1 w1.drew := (Below.refl _ _).drew
    go_region_held3 (fun q => Below w1.heap.size w1 q)
      (first | exact hS0 | assumption | exact KP | exact Below.drew KP | fail)
      (first
        | (go_at_call 42; refine (newReader_any _ _ D (Below.sl (by assumption) sD.out) (by rw [hdl.out]; omega)).mono ?_; rintro e u1 ⟨rb, rfl, R1, B1, L1⟩; have KP := keepF (by assumption) B1; have LR := hide (Nat.le_trans (Below.size (by assumption)) L1); have RK := hide R1; clear R1 L1)
        | (go_at_call 43; refine (Fixed32_good _ _ D 0 RK.out (by rw [hdl.out]; omega)).mono ?_; rintro e u2 ⟨rfl, R2, G2⟩; rw [hD4.out, hnD.out]; have KP2 := below_block (by assumption) G2 LR.out; clear R2 G2)
        | (go_at_call 29; refine (Crc.sum_any _ _ M (Below.sl (by assumption) sT.out)).mono ?_; rintro e u3 ⟨rfl, B3⟩; rw [hnC.out]; have KP3 := keepF (by assumption) B3)
        | fail)
    all_goals
      go_wp2_with fail
      go_meet
      case rel => exact ⟨by first | rfl | simp, by assumption⟩
  case rest =>
    obtain ⟨rfl, hB⟩ := hcut
    have ZC : Hid (wc.heap[w.heap.size]? = some (.cells #[.int .i64 0, .int .i64 0, .slice none 0 0] 29 (0, 0))) := by show _ = _; rw [hB.out.block _ (heap_lt Z0.out)]; exact Z0.out
    have BC := hide (keepF B0.out hB.out)
    clear d0 d1 d2 f0 f1 f2 F BF
    by_cases hz : nD = nC
    · subst hz
      rw [if_neg (by simp)] at hE
      have sB2 := hide (Below.sl hB.out sB.out)
      have hbt : ((nD : Int) != (nD : Int)) = false := by simp
      rw [hbt]
      clear hbt
      go_wp2_with fail
      refine (newReader_any _ _ E sB2.out htl.out).mono ?_
      rintro e u1 ⟨rb, rfl, R1, B1, L1⟩
      have B1' := hide (keepF BC.out B1)
      have CALL := hide (between_any u1 rb E ⟨0, R1, by simp⟩)
      have Z1 : Hid (u1.heap[w.heap.size]? = some (.cells #[.int .i64 0, .int .i64 0, .slice none 0 0] 29 (0, 0))) := by show _ = _; rw [B1.block _ (heap_lt ZC.out)]; exact ZC.out
      have hrb : Hid (w.heap.size < rb) := by show _ < _; have := heap_lt ZC.out; omega
      clear R1 B1 L1
      go_wp2_with fail
      refine CALL.out.mono ?_
      rintro e u2 ⟨v2, rfl, O2, BT⟩
      have Z2 : Hid (u2.heap[w.heap.size]? = some (.cells #[.int .i64 0, .int .i64 0, .slice none 0 0] 29 (0, 0))) := BT.at Z1.out (by have := hrb.out; omega)
      have B2 := hide (B1'.out.trans (BT.below B1'.out.size (fun j hj => by have := hrb.out; omega)))
      replace O2 := hide (O2.low B1'.out.size)
      clear BT CALL
      generalize betwF E = R at *
      obtain ⟨er, ge, fi, li⟩ := R
      dsimp only at O2 ⊢
      obtain ⟨aov, cav, rfl, _, _⟩ := O2.out.form
      obtain ⟨d0, d1, d2⟩ := three_cells Z2.out
      obtain ⟨f0, f1, f2⟩ := three_frozen Z2.out
      have F := hide (three_cells (put3_heap Z2.out (.int .i64 ge) (.int .i64 fi) (.slice aov li.length cav)))
      have BF := hide (put3_below B2.out (Nat.le_refl _) (.int .i64 ge) (.int .i64 fi) (.slice aov li.length cav))
      have OF := hide (O2.out.put3 Z2.out (by decide) (.int .i64 ge) (.int .i64 fi) (.slice aov li.length cav))
      go_wp2_with fail
      show bodyPost _ _ _ _ _ (put3 u2 w.heap.size (.int .i64 ge) (.int .i64 fi) (.slice aov li.length cav))
      generalize put3 u2 w.heap.size (.int .i64 ge) (.int .i64 fi) (.slice aov li.length cav) = w5 at *
      obtain ⟨k0, k1, k2⟩ := F.out
      refine bodyPost_ret (by simp [results, Try.results24, go_sem, k0, k1, k2]; rfl) rfl ?_
      rw [hE.out]
      exact ⟨_, rfl, OF.out, BF.out⟩
    · rw [if_pos hz] at hE
      have hbt : ((nD : Int) != (nC : Int)) = true := by simp; omega
      rw [hbt]
      clear hbt
      obtain ⟨d0, d1, d2⟩ := three_cells ZC.out
      obtain ⟨f0, f1, f2⟩ := three_frozen ZC.out
      have F := hide (three_cells (put3_heap ZC.out (.int .i64 0) (.int .i64 0) (.slice none 0 0)))
      have BF := hide (put3_below BC.out (Nat.le_refl _) (.int .i64 0) (.int .i64 0) (.slice none 0 0))
      go_wp2_with fail
      show bodyPost _ _ _ _ _ (put3 wc w.heap.size (.int .i64 0) (.int .i64 0) (.slice none 0 0))
      generalize put3 wc w.heap.size (.int .i64 0) (.int .i64 0) (.slice none 0 0) = w5 at *
      obtain ⟨k0, k1, k2⟩ := F.out
      refine bodyPost_ret (by simp [results, Try.results24, go_sem, k0, k1, k2]; rfl) rfl ?_
      rw [hE.out]
      exact ⟨_, rfl, Own.nil _ _, BF.out⟩
#print axioms read_any
end Go.Proofs.Ytdhjlongdfgejaa.Ct
