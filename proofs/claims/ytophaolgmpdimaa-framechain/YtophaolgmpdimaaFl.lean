/-
  The document's ReadHead.
-/
import Derived.Test.YtophaolgmpdimaaFk
import Derived.Lib.SlBytesRow
import Derived.BigQuiet
import Derived.Deep.CutRange
namespace Go.Proofs.Ytophaolgmpdimaa
open Go.RowKit

def fstr (t : List UInt8) : ByteArray := ⟨t.toArray⟩
theorem fstr_list (t : List UInt8) : (fstr t).toList = t := by
  exact ByteArray.toList_mk t
theorem conv8_any (w : World) (v : Value) (t : List UInt8) (h : Sl w v t) (h0 : 0 < t.length) : (convert 31 9 v).run Try.prog w = .ok (.string (fstr t)) w := by
  obtain ⟨ao, c, rfl, h1, h2, h3, h4⟩ := h
  obtain ⟨b, off, rfl, _⟩ := h4 0 (by omega)
  have hb : Lib.Bytes w b off (fstr t) := fun i hi => by
    obtain ⟨b', off', e', hc⟩ := h4 i hi
    simp only [Option.some.injEq, Addr.mk.injEq] at e'
    obtain ⟨rfl, rfl, _⟩ := e'
    rw [hc]
    rfl
  have := Lib.run_convert_window w 31 5 9 Try.underlying31 Try.underlying5 Try.underlying9 b off (fstr t) hb 0 t.length c (by show 0 + t.length ≤ t.length; omega)
  rw [Nat.add_zero] at this
  rw [this]
  congr 2
  apply ByteArray.ext
  simp [fstr]

/-- A slice whose number a call of Number tells. -/
structure NumOf (w2 : World) (x : Value) (y : Nat) : Prop where
  out : ∀ q : World, Below w2.heap.size w2 q → Calls Try.prog 40 #[x] q fun e w' => e = .returned (.int .u64 (y : Int)) ∧ w' = q

set_option maxRecDepth 100000 in
set_option maxHeartbeats 2000000 in
theorem refRH_any : DoesRH 24 := by
  intro w v l hv
  have HV := hide hv
  obtain ⟨n, hn⟩ : ∃ n, Hid (l.length = n) := ⟨_, rfl⟩
  obtain ⟨w2, hw2⟩ : ∃ w2, Hid (w.alloc (.cells #[.int .i64 0, .int .i64 0, .int .u32 0] 50) = w2) := ⟨_, rfl⟩
  have hb0 : Hid (Below w.heap.size w w2) := by rw [← hw2.out]; exact box_below _ _
  have hh0 : Hid (w2.heap[w.heap.size]? = some (.cells #[.int .i64 0, .int .i64 0, .int .u32 0] 50 (0, 0))) := by rw [← hw2.out]; exact heap_alloc_new _ _
  have HV2 := hide (Below.sl hb0.out hv)
  obtain ⟨F, hF⟩ : ∃ F, Hid (rhF l = F) := ⟨_, rfl⟩
  rw [hF.out]
  by_cases h32 : n < 32
  · obtain ⟨ao, ca, rfl⟩ := hv.form hn.out
    clear hv
    obtain rfl : F = (0, 0, 0#32, 0#32, 2) := by
      rw [← hF.out]
      have e : rhE l = 2 := by rw [rhE, if_pos (by rw [hn.out]; exact h32)]
      rw [rhF, e]; rfl
    go_enter Try.func24, Try.ntmps24
    go_wp2_with fail
    go_returns
    exact ⟨rfl, box_below _ _⟩
  · obtain ⟨b, off, ca, rfl, hc1, hc2⟩ := hv.some (by rw [hn.out]; omega)
    rw [hn.out] at hc1 HV HV2 ⊢
    clear hv
    have i8 : (8 : Int) ≤ (ca : Int) := by omega
    have i16 : (16 : Int) ≤ (ca : Int) := by omega
    have i24 : (24 : Int) ≤ (ca : Int) := by omega
    have i28 : (28 : Int) ≤ (ca : Int) := by omega
    have i32 : (32 : Int) ≤ (ca : Int) := by omega
    have q8 : ¬ (ca = 8) := by omega
    have q16 : ¬ (ca = 16) := by omega
    have q24 : ¬ (ca = 24) := by omega
    have q28 : ¬ (ca = 28) := by omega
    have s8 := hide (sl_mid 8 8 HV2.out hn.out (by omega))
    have s16 := hide (sl_mid 16 8 HV2.out hn.out (by omega))
    have s24 := hide (sl_mid 24 4 HV2.out hn.out (by omega))
    have E32 : Hid (¬ l.length < 32) := by show ¬ _; rw [hn.out]; exact h32
    obtain ⟨N, e1⟩ : ∃ N, Hid (N = gN l) := ⟨_, rfl⟩
    obtain ⟨X, e2⟩ : ∃ N, Hid (N = gB l) := ⟨_, rfl⟩
    obtain ⟨Z, e3⟩ : ∃ N, Hid (N = gS l) := ⟨_, rfl⟩
    have hNb : N < 18446744073709551616 := by rw [e1.out]; have := num_le ((l.drop 8).take 8) 8 (by simp; omega); simpa [gN] using this
    have hXb : X < 18446744073709551616 := by rw [e2.out]; have := num_le ((l.drop 16).take 8) 8 (by simp; omega); simpa [gB] using this
    have hZb : Z < 4294967296 := by rw [e3.out]; have := num_le ((l.drop 24).take 4) 4 (by simp; omega); simpa [gS] using this
    have n1 : IntKind.i64.wrap (N : Int) = sg64 N := sg64_wrap N hNb
    have n2 : IntKind.i64.wrap (X : Int) = sg64 X := sg64_wrap X hXb
    have n3 : IntKind.u32.wrap (Z : Int) = (Z : Int) := by rw [IntKind.wrap_u32]; omega
    have r8 : NumOf w2 (.slice (some ⟨b, off + 8, none⟩) 8 (ca - 8)) N := ⟨fun q hb => by
      have := refNum_any q _ _ (Below.sl hb s8.out) (by simp; omega)
      rw [show num ((l.drop 8).take 8) = N from e1.out.symm] at this
      exact this⟩
    have r16 : NumOf w2 (.slice (some ⟨b, off + 16, none⟩) 8 (ca - 16)) X := ⟨fun q hb => by
      have := refNum_any q _ _ (Below.sl hb s16.out) (by simp; omega)
      rw [show num ((l.drop 16).take 8) = X from e2.out.symm] at this
      exact this⟩
    have r24 : NumOf w2 (.slice (some ⟨b, off + 24, none⟩) 4 (ca - 24)) Z := ⟨fun q hb => by
      have := refNum_any q _ _ (Below.sl hb s24.out) (by simp; omega)
      rw [show num ((l.drop 24).take 4) = Z from e3.out.symm] at this
      exact this⟩
    have hS0 : Below w2.heap.size w2 w2.drew := (Below.refl _ _).drew
    go_enter Try.func24, Try.ntmps24
    go_upto_region 3 with fail
    go_cut [5] from 11 to 23 (fun s wx => s = .pointer (some ⟨w2.heap.size, 0, none⟩) ∧ wx = (w2.alloc (.cells #[.int .i64 (sg64 N), .int .i64 (sg64 X), .int .u32 (Z : Int)] 50)).drew)
    case first =>
      rw [hw2.out]
      go_region_held3 (fun q => Below w2.heap.size w2 q) (first | exact hS0 | assumption | exact Below.alloc (by assumption) (Below.size (by assumption)) _ | exact (box_below _ _).drew | fail)
        (first
          | (go_at_call 40; refine (NumOf.out (w2 := w2) (by assumption) _ (by assumption)).mono ?_; rintro e u ⟨rfl, hu⟩; obtain rfl := hu.symm)
          | fail)
      all_goals
        go_wp2_with fail
        go_meet
        case rel => exact ⟨rfl, rfl⟩
    case rest =>
      obtain ⟨rfl, rfl⟩ := hcut
      have hold : Below w2.heap.size w2 (w2.alloc (.cells #[.int .i64 (sg64 N), .int .i64 (sg64 X), .int .u32 (Z : Int)] 50)).drew := (box_below _ _).drew
      have hbW := hide (keepF hb0.out hold)
      have sW := hide (Below.sl hold HV2.out)
      have hhN : Hid ((w2.alloc (.cells #[.int .i64 (sg64 N), .int .i64 (sg64 X), .int .u32 (Z : Int)] 50)).drew.heap[w2.heap.size]? = some (.cells #[.int .i64 (sg64 N), .int .i64 (sg64 X), .int .u32 (Z : Int)] 50 (0, 0))) := heap_alloc_new _ _
      have hhW : Hid ((w2.alloc (.cells #[.int .i64 (sg64 N), .int .i64 (sg64 X), .int .u32 (Z : Int)] 50)).drew.heap[w.heap.size]? = some (.cells #[.int .i64 0, .int .i64 0, .int .u32 0] 50 (0, 0))) := by
        show _ = _
        rw [hold.block w.heap.size (heap_lt hh0.out)]; exact hh0.out
      generalize (w2.alloc (.cells #[.int .i64 (sg64 N), .int .i64 (sg64 X), .int .u32 (Z : Int)] 50)).drew = W at *
      clear hold hb0 hh0 HV2 HV s8 s16 s24 r8 r16 r24 n1 n2 n3 hw2 hS0
      have HNP : Hid (sg64 (gN l) = sg64 N) := by rw [e1.out]; rfl
      have HXP : Hid (sg64 (gB l) = sg64 X) := by rw [e2.out]; rfl
      obtain ⟨c0, c1, c2, _, _, _⟩ := three_cells hhN.out
      have t8 := hide (sl_take 8 (by rw [hn.out]; omega) sW.out hn.out)
      have k8 := conv8_any W _ (l.take 8) t8.out (by rw [List.length_take, hn.out]; omega)
      generalize sg64 N = P at *
      generalize sg64 X = R at *
      clear t8
      by_cases hT : l.take 8 = ttl
      · rw [hT] at k8
        have hTT : Hid (l.take 8 = ttl) := hT
        clear hT
        have kt : ((fstr ttl).toList == ([70, 76, 85, 77, 69, 76, 79, 71] : List UInt8)) = true := by rw [fstr_list]; rfl
        have kf : fstr ttl = ⟨#[70, 76, 85, 77, 69, 76, 79, 71]⟩ := rfl
        rw [kf] at k8
        clear kt kf
        by_cases hP1 : P < 1
        · obtain rfl : F = (0, 0, 0#32, 0#32, 4) := by
            rw [← hF.out]
            have e : rhE l = 4 := by rw [rhE, if_neg E32.out, if_pos (by rw [HNP.out, HXP.out]; exact Or.inr (Or.inl hP1))]
            rw [rhF, e]; rfl
          have hP := hide (three_cells (put3_heap hhW.out (.int .i64 0) (.int .i64 0) (.int .u32 0)))
          have hB2 := hide (put3_below hbW.out (Nat.le_refl _) (.int .i64 0) (.int .i64 0) (.int .u32 0))
          obtain ⟨p0, p1, p2, p3, p4, p5⟩ := three_cells hhW.out
          go_wp2_with fail
          show bodyPost _ _ _ _ _ (put3 W w.heap.size (.int .i64 0) (.int .i64 0) (.int .u32 0))
          obtain ⟨w9, hw9⟩ : ∃ w9, Hid (put3 W w.heap.size (.int .i64 0) (.int .i64 0) (.int .u32 0) = w9) := ⟨_, rfl⟩
          rw [hw9.out] at hP hB2 ⊢
          obtain ⟨k0, k1, k2, _, _, _⟩ := hP.out
          refine bodyPost_ret (by simp [results, Try.results24, go_sem, k0, k1, k2]; rfl) rfl ?_
          exact ⟨rfl, hB2.out⟩
        by_cases hR1 : R < 1
        · obtain rfl : F = (0, 0, 0#32, 0#32, 4) := by
            rw [← hF.out]
            have e : rhE l = 4 := by rw [rhE, if_neg E32.out, if_pos (by rw [HNP.out, HXP.out]; exact Or.inr (Or.inr hR1))]
            rw [rhF, e]; rfl
          have hP := hide (three_cells (put3_heap hhW.out (.int .i64 0) (.int .i64 0) (.int .u32 0)))
          have hB2 := hide (put3_below hbW.out (Nat.le_refl _) (.int .i64 0) (.int .i64 0) (.int .u32 0))
          obtain ⟨p0, p1, p2, p3, p4, p5⟩ := three_cells hhW.out
          go_wp2_with fail
          show bodyPost _ _ _ _ _ (put3 W w.heap.size (.int .i64 0) (.int .i64 0) (.int .u32 0))
          obtain ⟨w9, hw9⟩ : ∃ w9, Hid (put3 W w.heap.size (.int .i64 0) (.int .i64 0) (.int .u32 0) = w9) := ⟨_, rfl⟩
          rw [hw9.out] at hP hB2 ⊢
          obtain ⟨k0, k1, k2, _, _, _⟩ := hP.out
          refine bodyPost_ret (by simp [results, Try.results24, go_sem, k0, k1, k2]; rfl) rfl ?_
          exact ⟨rfl, hB2.out⟩
        have hnb : Hid (¬ (l.take 8 ≠ ttl ∨ sg64 (gN l) < 1 ∨ sg64 (gB l) < 1)) := by
          show ¬ _
          rw [HNP.out, HXP.out, hTT.out]
          simp; omega
        have t28 := hide (sl_take 28 (by rw [hn.out]; omega) sW.out hn.out)
        have t4 := hide (sl_mid 28 4 sW.out hn.out (by omega))
        obtain ⟨S, hS⟩ : ∃ S, Hid (Crc.more 0#32 (l.take 28) = S) := ⟨_, rfl⟩
        obtain ⟨M, e4⟩ : ∃ M, Hid (M = gM l) := ⟨_, rfl⟩
        have hk32 := Crc.lt32 (Crc.maskOf S)
        have hZv : Hid ((BitVec.ofNat 32 Z).toNat = Z) := by show _ = _; rw [BitVec.toNat_ofNat]; exact Nat.mod_eq_of_lt hZb
        go_wp2_with fail
        refine (Crc.refSum_any _ _ _ t28.out).mono ?_
        rintro e w0 ⟨rfl, hw⟩
        obtain rfl := hw.symm
        rw [hS.out]
        go_wp2_with fail
        go_quiet (first
          | (go_at_call 32; exact Calls.quiet_of_same (Crc.refMask_any _ S))
          | (go_at_call 40; exact Calls.quiet_of_same (refNum_any _ _ ((l.drop 28).take 4) (Below.sl (Qt.below ⟨_, rfl⟩ _) t4.out) (by simp; omega))))
        rw [show num ((l.drop 28).take 4) = M from e4.out.symm]
        have hhQ : Hid ((W.drewN nq).heap[w.heap.size]? = some (.cells #[.int .i64 0, .int .i64 0, .int .u32 0] 50 (0, 0))) := hhW.out
        have hhM : Hid ((W.drewN nq).heap[w2.heap.size]? = some (.cells #[.int .i64 P, .int .i64 R, .int .u32 (Z : Int)] 50 (0, 0))) := hhN.out
        have hbQ : Hid (Below w.heap.size w (W.drewN nq)) := keepF hbW.out (Qt.below ⟨_, rfl⟩ _)
        generalize W.drewN nq = V at *
        clear c0 c1 c2
        by_cases hm : (Crc.maskOf S).toNat = M
        · have hmi : (((Crc.maskOf S).toNat : Int) != (M : Int)) = false := by simp; omega
          obtain rfl : F = (P, R, BitVec.ofNat 32 Z, S, 0) := by
            rw [← hF.out]
            have e : rhE l = 0 := by rw [rhE, if_neg E32.out, if_neg hnb.out, if_neg (by rw [hS.out, ← e4.out]; simpa using hm)]
            rw [rhF, e, if_pos rfl, HNP.out, HXP.out, hS.out, ← e3.out]
          obtain ⟨c0, c1, c2, _, _, _⟩ := three_cells hhM.out
          clear hm hk32
          generalize (Crc.maskOf S).toNat = K at *
          have hP := hide (three_cells (put3_heap hhQ.out (.int .i64 P) (.int .i64 R) (.int .u32 (Z : Int))))
          have hB2 := hide (put3_below hbQ.out (Nat.le_refl _) (.int .i64 P) (.int .i64 R) (.int .u32 (Z : Int)))
          obtain ⟨p0, p1, p2, p3, p4, p5⟩ := three_cells hhQ.out
          go_wp2_with fail
          show bodyPost _ _ _ _ _ (put3 V w.heap.size (.int .i64 P) (.int .i64 R) (.int .u32 (Z : Int)))
          obtain ⟨w9, hw9⟩ : ∃ w9, Hid (put3 V w.heap.size (.int .i64 P) (.int .i64 R) (.int .u32 (Z : Int)) = w9) := ⟨_, rfl⟩
          rw [hw9.out] at hP hB2 ⊢
          obtain ⟨k0, k1, k2, _, _, _⟩ := hP.out
          refine bodyPost_ret (by simp [results, Try.results24, go_sem, k0, k1, k2]; rfl) rfl ?_
          exact ⟨by first | rfl | (simp; omega), hB2.out⟩
        · have hmi : (((Crc.maskOf S).toNat : Int) != (M : Int)) = true := by simp; omega
          obtain rfl : F = (0, 0, 0#32, 0#32, 5) := by
            rw [← hF.out]
            have e : rhE l = 5 := by rw [rhE, if_neg E32.out, if_neg hnb.out, if_pos (by rw [hS.out, ← e4.out]; simpa using hm)]
            rw [rhF, e]; rfl
          clear hm hk32
          generalize (Crc.maskOf S).toNat = K at *
          have hP := hide (three_cells (put3_heap hhQ.out (.int .i64 0) (.int .i64 0) (.int .u32 0)))
          have hB2 := hide (put3_below hbQ.out (Nat.le_refl _) (.int .i64 0) (.int .i64 0) (.int .u32 0))
          obtain ⟨p0, p1, p2, p3, p4, p5⟩ := three_cells hhQ.out
          go_wp2_with fail
          show bodyPost _ _ _ _ _ (put3 V w.heap.size (.int .i64 0) (.int .i64 0) (.int .u32 0))
          obtain ⟨w9, hw9⟩ : ∃ w9, Hid (put3 V w.heap.size (.int .i64 0) (.int .i64 0) (.int .u32 0) = w9) := ⟨_, rfl⟩
          rw [hw9.out] at hP hB2 ⊢
          obtain ⟨k0, k1, k2, _, _, _⟩ := hP.out
          refine bodyPost_ret (by simp [results, Try.results24, go_sem, k0, k1, k2]; rfl) rfl ?_
          exact ⟨rfl, hB2.out⟩
      · obtain rfl : F = (0, 0, 0#32, 0#32, 4) := by
          rw [← hF.out]
          have e : rhE l = 4 := by rw [rhE, if_neg E32.out, if_pos (Or.inl hT)]
          rw [rhF, e]; rfl
        have kt : ((fstr (l.take 8)).toList == ([70, 76, 85, 77, 69, 76, 79, 71] : List UInt8)) = false := by
          rw [fstr_list]; simpa [ttl] using hT
        clear hT
        have hP := hide (three_cells (put3_heap hhW.out (.int .i64 0) (.int .i64 0) (.int .u32 0)))
        have hB2 := hide (put3_below hbW.out (Nat.le_refl _) (.int .i64 0) (.int .i64 0) (.int .u32 0))
        obtain ⟨p0, p1, p2, p3, p4, p5⟩ := three_cells hhW.out
        go_wp2_with fail
        show bodyPost _ _ _ _ _ (put3 W w.heap.size (.int .i64 0) (.int .i64 0) (.int .u32 0))
        obtain ⟨w9, hw9⟩ : ∃ w9, Hid (put3 W w.heap.size (.int .i64 0) (.int .i64 0) (.int .u32 0) = w9) := ⟨_, rfl⟩
        rw [hw9.out] at hP hB2 ⊢
        obtain ⟨k0, k1, k2, _, _, _⟩ := hP.out
        refine bodyPost_ret (by simp [results, Try.results24, go_sem, k0, k1, k2]; rfl) rfl ?_
        exact ⟨rfl, hB2.out⟩
#print axioms refRH_any
end Go.Proofs.Ytophaolgmpdimaa
