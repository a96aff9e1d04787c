/-
  Write: the program's, whole.
-/
import Derived.Test.YtdhjlongdfgejaaCtI
namespace Go.Proofs.Ytdhjlongdfgejaa.Ct
open Go.RowKit

open Classical in
/-- The error's number, the bytes. -/
noncomputable def writeF (g f : Int) (l : List Sg) : Int × List UInt8 := if May g f l then (0, bytesC g f l) else (4, [])
/-- What Write owes. -/
def DoesWrite (f : Nat) : Prop := ∀ (w : World) (g fi : Int) (v : Value) (l : List Sg), Sgs w v l → g ≤ 9223372036854775807 → fi ≤ 9223372036854775807 →
  Calls Try.prog f #[.agg #[.int .i64 g, .int .i64 fi, v]] w fun e w' => ∃ v', e = .returned (.tuple #[v', .int .i64 (writeF g fi l).1]) ∧ Bs w.heap.size w' v' (writeF g fi l).2 ∧ Below w.heap.size w w'
theorem Bs.lit (w : World) (m : List UInt8) (hm : m.length ≤ maxLen) (B : Nat) (hB : B ≤ w.heap.size) : Bs B (w.alloc (.cells (bvals m).toArray 5)) (.slice (some ⟨w.heap.size, 0, none⟩) m.length m.length) m := by
  exact ⟨by simp [bvals], .inr ⟨w.heap.size, m.length, (bvals m).toArray, rfl, hB, heap_alloc_new w _, Nat.le_refl _, hm, by simp [bvals], by rw [List.take_of_length_le (by simp [bvals])]⟩⟩
theorem May.range {g fi : Int} {l : List Sg} (h : May g fi l) {i : Nat} (hi : i < l.length) : 0 ≤ (sg l i).nm ∧ 0 ≤ (sg l i).ba ∧ 0 ≤ (sg l i).en ∧ 0 ≤ (sg l i).sz := by
  obtain ⟨a, b⟩ := h.nmba hi
  by_cases e : i + 1 < l.length
  · obtain ⟨⟨_, _, c, d, _⟩, _⟩ := h.lk i e
    exact ⟨by omega, by omega, by omega, by omega⟩
  · have h3 : ¬ sldF (sg l i) := fun c => e ((h.sld hi).1 c)
    have h4 : (sg l i).en = 0 := Classical.byContradiction fun c => h3 (.inl c)
    have h5 : (sg l i).sz = 0 := Classical.byContradiction fun c => h3 (.inr c)
    exact ⟨by omega, by omega, by omega, by omega⟩
set_option maxRecDepth 20000 in
set_option maxHeartbeats 2000000 in
theorem write_any : DoesWrite 9 := by
  intro w g fi v l hv hg hfi
  obtain ⟨N, hN⟩ : ∃ N, Hid (l.length = N) := ⟨_, rfl⟩
  obtain ⟨ao, ca, rfl, q1, q2⟩ := hv.form
  rw [hN.out] at hv q1 ⊢
  have hB := hide (box_below w (.cells #[.int .i64 g, .int .i64 fi, .slice ao N ca] 29))
  have CALL := hide (may_any _ g fi _ l (hv.below hB.out))
  have hb1 := hide (heap_alloc_new w (.cells #[.int .i64 g, .int .i64 fi, .slice ao N ca] 29))
  by_cases hm : ¬ May g fi l
  · rw [mayB_f hm] at CALL
    have hE : Hid (writeF g fi l = (4, [])) := by show _ = _; unfold writeF; rw [if_neg hm]
    clear hv hm
    go_enter Try.func9, Try.ntmps9
    go_wp2_with fail
    refine CALL.out.mono ?_
    rintro e w2 ⟨rfl, b2⟩
    have B2 := hide (keepF hB.out b2)
    clear b2 CALL
    go_wp2_with fail
    go_ret2
    rw [hE.out]
    exact ⟨_, rfl, World.ownsRow_nil _ _ _ _, B2.out⟩
  replace hm := Classical.not_not.1 hm
  rw [mayB_t hm] at CALL
  have HM := hide hm
  have HA := hide hv.1
  have hE : Hid (writeF g fi l = (0, bytesC g fi l)) := by show _ = _; unfold writeF; rw [if_pos hm]
  obtain ⟨b, off, ca', e, _, _, hc⟩ := hv.at hm.n1
  rw [hN.out] at e hc
  simp only [Value.slice.injEq, true_and] at e
  obtain ⟨rfl, rfl⟩ := e
  have hn1 := hm.n1
  have hn2 := hm.n2
  rw [hN.out] at hn1 hn2
  have HC := hide hc
  have hg1 := hm.g1
  have hf1 := hm.f0
  have hcb : Hid (w.heap.size < (w.alloc (.cells #[.int .i64 g, .int .i64 fi, .slice (some ⟨b, off, none⟩) N ca] 29)).heap.size) := heap_lt hb1.out
  clear hv hm hc
  go_enter Try.func9, Try.ntmps9
  go_wp2_with fail
  refine CALL.out.mono ?_
  rintro e w2 ⟨rfl, b2⟩
  have B2 := hide (keepF hB.out b2)
  have r1 : Hid (w2.heap[w.heap.size]? = some (.cells #[.int .i64 g, .int .i64 fi, .slice (some ⟨b, off, none⟩) N ca] 29 (0, 0))) := by show _ = _; rw [b2.block _ (heap_lt hb1.out)]; exact hb1.out
  obtain ⟨c0, c1, c2⟩ := three_cells r1.out
  clear b2 CALL
  have ke := hide (Lib.run_convert_bytes_const (P := Try.prog) w2 31 5 #[.int .u8 70, .int .u8 67, .int .u8 65, .int .u8 84] 4 4 Try.underlying31 Try.underlying5)
  go_wp2_with fail
  rw [ke.out]
  have hb3 := hide (box_below w2 (.cells #[.int .u8 70, .int .u8 67, .int .u8 65, .int .u8 84] 5 (4, 5)))
  have F0 : Hid (Bf w.heap.size (w2.alloc (.cells #[.int .u8 70, .int .u8 67, .int .u8 65, .int .u8 84] 5 (4, 5))) (.slice (some ⟨w2.heap.size, 0, none⟩) 4 4) markC) := .inr ⟨w2.heap.size, (4, 5), rfl, heap_alloc_new _ _, B2.out.size, by decide⟩
  have B3 := hide (keepF B2.out hb3.out)
  have r3 : Hid ((w2.alloc (.cells #[.int .u8 70, .int .u8 67, .int .u8 65, .int .u8 84] 5 (4, 5))).heap[w.heap.size]? = some (.cells #[.int .i64 g, .int .i64 fi, .slice (some ⟨b, off, none⟩) N ca] 29 (0, 0))) := by show _ = _; rw [hb3.out.block _ (heap_lt r1.out)]; exact r1.out
  generalize hq : (w2.alloc (.cells #[.int .u8 70, .int .u8 67, .int .u8 65, .int .u8 84] 5 (4, 5))) = w3 at *
  generalize hq2 : w2.heap.size = mb at *
  clear ke hb3 hq hq2 c0 c1 c2 r1
  obtain ⟨c0, c1, c2⟩ := three_cells r3.out
  have X0 := hide (box_below w3 (.cells #[.int .i64 g, .int .i64 fi, .int .i64 (N : Int)] 2))
  have X1 := hide (heap_alloc_new w3 (.cells #[.int .i64 g, .int .i64 fi, .int .i64 (N : Int)] 2))
  have F1 := hide (F0.out.below X0.out)
  have r4 : Hid ((w3.alloc (.cells #[.int .i64 g, .int .i64 fi, .int .i64 (N : Int)] 2)).heap[w.heap.size]? = some (.cells #[.int .i64 g, .int .i64 fi, .slice (some ⟨b, off, none⟩) N ca] 29 (0, 0))) := by show _ = _; rw [X0.out.block _ (heap_lt r3.out)]; exact r3.out
  have B4 := hide (keepF B3.out X0.out)
  have CALL := hide (numbers_any (w3.alloc (.cells #[.int .i64 g, .int .i64 fi, .int .i64 (N : Int)] 2)) w.heap.size _ markC w3.heap.size [g, fi, (N : Int)] 2 F1.out B4.out.size X1.out (by intro n hn; simp at hn; rcases hn with rfl | rfl | rfl <;> omega) (by decide) (by simp) (by decide))
  go_wp2_with fail
  refine CALL.out.mono ?_
  rintro e w4 ⟨v4, rfl, W4⟩
  have r5 : Hid (w4.heap[w.heap.size]? = some (.cells #[.int .i64 g, .int .i64 fi, .slice (some ⟨b, off, none⟩) N ca] 29 (0, 0))) := W4.but.at r4.out (F1.out.no r4.out (by decide))
  have B5 : Hid (Below w.heap.size w w4) := B4.out.trans (W4.low F1.out B4.out.size)
  have F5 := hide W4.bs
  obtain ⟨P, hP⟩ : ∃ P, Hid (markC ++ encs [g, fi, (N : Int)] = P) := ⟨_, rfl⟩
  rw [hP.out] at F5
  have hfr : Hid (frontC g fi l = P ++ bodyC l) := by
    show _ = _
    rw [← hP.out, frontC, midC, hN.out]
    simp [encs]
  have hPl : P.length ≤ 34 := by
    have := encs_len [g, fi, (N : Int)]
    rw [← hP.out, List.length_append]
    simp [markC] at this ⊢; omega
  clear W4 CALL c0 c1 c2 F0 F1 B3 B4 X0 X1 r3 r4 B2
  obtain ⟨c0, c1, c2⟩ := three_cells r5.out
  go_wp2_with fail
  go_loopw [4, 24] (fun vb vi wr => ∃ i : Nat, i ≤ N ∧ vi = .int .i64 (i : Int) ∧ Hid (Below w.heap.size w wr) ∧ Hid (Bf w.heap.size wr vb (P ++ bodyC (l.take i)))) (fun _ vi _ => N - (intOf vi).toNat)
  case atStart => exact ⟨0, Nat.zero_le _, rfl, B5, by show Bf _ _ _ _; rw [List.take_zero, show bodyC [] = [] from rfl, List.append_nil]; exact F5.out⟩
  case round =>
    obtain ⟨i, hi, rfl, hW, hO⟩ := hrel
    have hol : (P ++ bodyC (l.take i)).length ≤ 4000 := by
      have := bodyC_len (l.take i)
      simp at this ⊢
      omega
    obtain ⟨aov, cav, rfl⟩ := hO.out.form
    by_cases hlt : i < N
    · have hix : i < l.length := by rw [hN.out]; exact hlt
      obtain ⟨k0, k1, k2, k3, k4⟩ := (HC.out i hlt).below hW.out
      obtain ⟨m1, m2, m3, m4⟩ := HM.out.range hix
      have hin := HA.out.sg i
      have z1 := hin.a2
      have z2 := hin.b2
      have z3 := hin.c
      have z4 := hin.d2
      have z5 := hin.e2
      have hsn : Hid (P ++ bodyC (l.take (i + 1)) = (P ++ bodyC (l.take i)) ++ segB (sg l i)) := by
        show _ = _
        rw [List.take_succ_eq_append_getElem hix, bodyC_snoc, ← sg_get hix, List.append_assoc]
      clear hin
      generalize sg l i = s at *
      obtain ⟨nm, ba, se, en, sz⟩ := s
      dsimp only at k0 k1 k2 k3 k4 m1 m2 m3 m4 z1 z2 z3 z4 z5
      generalize P ++ bodyC (l.take i) = O at *
      have Y0 := hide (box_below wr (.cells #[.int .i64 nm, .int .i64 ba, .int .u32 (se : Int), .int .i64 en, .int .i64 sz] 53))
      have S0 := hide (heap_alloc_new wr (.cells #[.int .i64 nm, .int .i64 ba, .int .u32 (se : Int), .int .i64 en, .int .i64 sz] 53))
      have O0 := hide (hO.out.below Y0.out)
      have B0 := hide (keepF hW.out Y0.out)
      have hlt' : (i : Int) < (N : Int) := by omega
      go_upto_region 7 with fail
      generalize wr.alloc (.cells #[.int .i64 nm, .int .i64 ba, .int .u32 (se : Int), .int .i64 en, .int .i64 sz] 53) = w5 at *
      generalize wr.heap.size = sb at *
      clear k0 k1 k2 k3 k4 Y0
      obtain ⟨d0, d1, d2, d3, d4⟩ := five_cells S0.out
      have Y1 := hide (box_below w5 (.cells #[.int .i64 nm, .int .i64 ba] 2))
      have O1 := hide (O0.out.below Y1.out)
      have B1 := hide (keepF B0.out Y1.out)
      have S1 : Hid ((w5.alloc (.cells #[.int .i64 nm, .int .i64 ba] 2)).heap[sb]? = some (.cells #[.int .i64 nm, .int .i64 ba, .int .u32 (se : Int), .int .i64 en, .int .i64 sz] 53 (0, 0))) := by show _ = _; rw [Y1.out.block _ (heap_lt S0.out)]; exact S0.out
      have CALL := hide (numbers_any (w5.alloc (.cells #[.int .i64 nm, .int .i64 ba] 2)) w.heap.size _ O w5.heap.size [nm, ba] 2 O1.out B1.out.size (heap_alloc_new _ _) (by intro n hn; simp at hn; rcases hn with rfl | rfl <;> omega) (by decide) (by simp) (by omega))
      go_wp2_with fail
      refine CALL.out.mono ?_
      rintro e w6 ⟨v6, rfl, W6⟩
      have S6 : Hid (w6.heap[sb]? = some (.cells #[.int .i64 nm, .int .i64 ba, .int .u32 (se : Int), .int .i64 en, .int .i64 sz] 53 (0, 0))) := W6.but.at S1.out (O1.out.no S1.out (by decide))
      have B6 : Hid (Below w.heap.size w w6) := B1.out.trans (W6.low O1.out B1.out.size)
      have O6 := hide W6.bs
      obtain ⟨Oa, hOa⟩ : ∃ Oa, Hid (O ++ encs [nm, ba] = Oa) := ⟨_, rfl⟩
      rw [hOa.out] at O6
      have hla : Oa.length ≤ 4020 := by
        have := encs_len [nm, ba]
        rw [← hOa.out, List.length_append]; simp at this; omega
      clear W6 CALL d0 d1 d2 d3 d4 S0 S1 O0 O1 B0 B1 Y1
      obtain ⟨d0, d1, d2, d3, d4⟩ := five_cells S6.out
      obtain ⟨ao6, ca6, rfl⟩ := O6.out.form
      go_wp2_with fail
      refine (fixed32_any _ (se : Int) (by omega) (by omega)).mono ?_
      rintro e w7 ⟨v7, rfl, o7, b7⟩
      rw [Int.toNat_natCast] at o7
      have s7 := hide (Sl.of_owns o7)
      have O7 := hide (O6.out.below b7)
      have B7 := hide (keepF B6.out b7)
      have S7 : Hid (w7.heap[sb]? = some (.cells #[.int .i64 nm, .int .i64 ba, .int .u32 (se : Int), .int .i64 en, .int .i64 sz] 53 (0, 0))) := by show _ = _; rw [b7.block _ (heap_lt S6.out)]; exact S6.out
      have hf4 := fx_len 4 se
      clear o7 b7 d0 d1 d2 d3 d4 S6 O6 B6
      obtain ⟨Ob, hOb⟩ : ∃ Ob, Hid (Oa ++ fx 4 se = Ob) := ⟨_, rfl⟩
      have hlb : Ob.length ≤ 4030 := by rw [← hOb.out, List.length_append]; omega
      go_wp2_with (at_builtin; refine wpList_append_bytesF rfl (.tmp 35) (.tmp 38) 31 rfl w.heap.size Try.infoU8 Try.underlying31 (.slice ao6 Oa.length ca6) v7 Oa (fx 4 se) rfl O7.out rfl s7.out (by omega) (by omega) (by omega) B7.out.size ?_; intro v8 w8 o8 g8 h8; have S8 : Hid (w8.heap[sb]? = some (.cells #[.int .i64 nm, .int .i64 ba, .int .u32 (se : Int), .int .i64 en, .int .i64 sz] 53 (0, 0))) := hide (by rw [g8.block _ (heap_lt S7.out) (fun e => O7.out.no S7.out (by decide) e.symm)]; exact S7.out); obtain ⟨d0, d1, d2, d3, d4⟩ := five_cells S8.out; have B8 := hide (Below.grown B7.out g8 B7.out.size (fun k hk => (O7.out.lt k hk).1)); rw [hOb.out] at o8; have O8 : Hid (Bf w.heap.size w8 v8 Ob) := .inl o8; clear o8 g8 h8; obtain ⟨ao8, ca8, rfl⟩ := O8.out.form)
      clear S7 O7 B7 s7
      have Y1 := hide (box_below w8 (.cells #[.int .i64 en, .int .i64 sz] 2))
      have O9 := hide (O8.out.below Y1.out)
      have B9 := hide (keepF B8.out Y1.out)
      have CALL := hide (numbers_any (w8.alloc (.cells #[.int .i64 en, .int .i64 sz] 2)) w.heap.size _ Ob w8.heap.size [en, sz] 2 O9.out B9.out.size (heap_alloc_new _ _) (by intro n hn; simp at hn; rcases hn with rfl | rfl <;> omega) (by decide) (by simp) (by omega))
      (try go_wp2_with fail)
      refine CALL.out.mono ?_
      rintro e w9 ⟨v9, rfl, W9⟩
      have BF : Hid (Below w.heap.size w w9) := B9.out.trans (W9.low O9.out B9.out.size)
      have OF : Hid (Bf w.heap.size w9 v9 (P ++ bodyC (l.take (i + 1)))) := by
        show Bf _ _ _ _
        rw [hsn.out]
        have := W9.bs
        rw [← hOb.out, ← hOa.out] at this
        simpa [segB, encs] using this
      clear W9 CALL d0 d1 d2 d3 d4 S8 O8 O9 B8 B9 Y1
      go_wp2_with fail
      go_roundw
      case rel => exact ⟨i + 1, by omega, by go_num, BF, OF⟩
      case measure => simp [intOf]; omega
    · obtain rfl : i = N := by omega
      have hTe : Hid (l.take i = l) := by show _ = _; rw [← hN.out, List.take_length]
      rw [hTe.out, ← hfr.out] at hO hol ⊢
      have hE2 : Hid (writeF g fi l = (0, frontC g fi l ++ fx 4 (Crc.more 0#32 (frontC g fi l)).toNat)) := hE.out
      generalize frontC g fi l = F at *
      have sl0 := hide hO.out.sl
      go_wp2_with fail
      refine (Crc.sum_any _ _ F sl0.out).mono ?_
      rintro e w5 ⟨rfl, b5⟩
      have hcr := (Crc.more 0#32 F).isLt
      obtain ⟨cr, hcre⟩ : ∃ cr, Hid ((Crc.more 0#32 F).toNat = cr) := ⟨_, rfl⟩
      rw [hcre.out] at hcr hE2 ⊢
      have O5 := hide (hO.out.below b5)
      have B5' := hide (keepF hW.out b5)
      clear b5 sl0
      go_wp2_with fail
      refine (fixed32_any _ (cr : Int) (by omega) (by omega)).mono ?_
      rintro e w7 ⟨v7, rfl, o7, b7⟩
      rw [Int.toNat_natCast] at o7
      have s7 := hide (Sl.of_owns o7)
      have O7 := hide (O5.out.below b7)
      have B7 := hide (keepF B5'.out b7)
      have hf4 := fx_len 4 cr
      clear o7 b7 O5 B5'
      go_wp2_with (at_builtin; refine wpList_append_bytesF rfl (.tmp 48) (.tmp 51) 31 rfl w.heap.size Try.infoU8 Try.underlying31 (.slice aov F.length cav) v7 F (fx 4 cr) rfl O7.out rfl s7.out (by omega) (by omega) (by omega) B7.out.size ?_; intro v8 w8 o8 g8 h8)
      have B8 := hide (Below.grown B7.out g8 B7.out.size (fun k hk => (O7.out.lt k hk).1))
      replace o8 := hide o8
      clear g8 h8
      go_wp2_with fail
      go_ret2
      rw [hE2.out]
      exact ⟨_, rfl, o8.out, B8.out⟩
#print axioms write_any
end Go.Proofs.Ytdhjlongdfgejaa.Ct
