/-
  What frame.ReadHead answers.
-/
import Derived.Test.YtophaolgmpdimaaFm
import Derived.Test.YtophaolgmpdimaaFo
import Derived.Deep.CutRange
namespace Go.Proofs.Ytophaolgmpdimaa
open Go.RowKit

/-- What stands behind ReadHead's readings. -/
def RHx (w q : World) (b8 rb b7 : Nat) (v : Value) (l : List UInt8) (A B : Int) (C : Nat) (s : Nat × Int) : Prop :=
  RSH w q w.heap.size b8 rb #[.int .i64 0, .int .i64 0, .int .u32 0] 50 v l s ∧ q.heap[b7]? = some (.cells #[.int .i64 A, .int .i64 B, .int .u32 (C : Int)] 50 (0, 0)) ∧ w.heap.size ≠ b7
theorem RHx.below {w q q' : World} {b8 rb b7 : Nat} {v : Value} {l : List UInt8} {A B : Int} {C : Nat} {s : Nat × Int} (h : RHx w q b8 rb b7 v l A B C s) (hb : Below q.heap.size q q') : RHx w q' b8 rb b7 v l A B C s :=
  ⟨⟨h.1.out.below hb⟩, by rw [hb.block b7 (heap_lt h.2.1)]; exact h.2.1, h.2.2⟩
theorem RHx.late {w q : World} {b8 rb : Nat} {v : Value} {l : List UInt8} {A B : Int} {C : Nat} {s : Nat × Int} (h : RSH w q w.heap.size b8 rb #[.int .i64 0, .int .i64 0, .int .u32 0] 50 v l s) : RHx w (q.alloc (.cells #[.int .i64 A, .int .i64 B, .int .u32 (C : Int)] 50)) b8 rb q.heap.size v l A B C s :=
  ⟨h.al _, heap_alloc_new _ _, by have := h.lt; omega⟩
theorem RHx.early {w q : World} {b8 rb b7 : Nat} {v : Value} {l : List UInt8} {A B : Int} {C : Nat} {s : Nat × Int} (h : RSH w q w.heap.size b8 rb #[.int .i64 0, .int .i64 0, .int .u32 0] 50 v l s) (hb : q.heap[b7]? = some (.cells #[.int .i64 0, .int .i64 0, .int .u32 0] 50 (0, 0))) (h0 : w.heap.size < b7) (h8 : b8 < b7) (hr : rb < b7) : RHx w (put3 q b7 (.int .i64 A) (.int .i64 B) (.int .u32 (C : Int))) b8 rb b7 v l A B C s :=
  ⟨h.put3 hb (by omega) (by omega) (by omega) (by omega), put3_heap hb _ _ _, by omega⟩
theorem alloc_at (q : World) (o : Obj) : (q.alloc o).heap[q.heap.size]? = some o := heap_alloc_new _ _

set_option maxRecDepth 100000 in
set_option maxHeartbeats 4000000 in
theorem readHead_any : DoesRH 23 := by
  intro w v l hv
  have HV := hide hv
  obtain ⟨n, hn⟩ : ∃ n, Hid (l.length = n) := ⟨_, rfl⟩
  obtain ⟨ao, ca, rfl⟩ := hv.form hn.out
  have HV1 := hide (Below.sl (box_below w (.cells #[.int .i64 0, .int .i64 0, .int .u32 0] 50)) hv)
  clear hv
  obtain ⟨F, hF⟩ : ∃ F, Hid (rhF l = F) := ⟨_, rfl⟩
  rw [hF.out]
  obtain ⟨m, hm⟩ : ∃ m, Hid (l.take 32 = m) := ⟨_, rfl⟩
  go_enter Try.func23, Try.ntmps23
  go_upto_region 1 with fail
  go_wp2_with fail
  refine (newR_any _ _ l 32 (by omega) HV1.out).mono ?_
  rintro e w1 ⟨rb, rfl, hr, hb, hrb⟩
  rw [hm.out] at hr
  have hB : Hid (Below w.heap.size w w1) := keepF (box_below _ _) hb
  have hh := hb.block w.heap.size (by simp)
  rw [heap_alloc_new] at hh
  have hrb' : Hid (w.heap.size + 1 ≤ rb) := by simpa [Hid] using hrb
  replace hh := hide hh
  replace hr := hide hr
  clear hb hrb
  go_upto_region 2 with fail
  obtain ⟨T, hT⟩ : ∃ T, Hid (decide (fx 8 (stv m 8 (0, 0)) = ttl) = T) := ⟨_, rfl⟩
  obtain ⟨s1, hs1⟩ : ∃ s, Hid (stp m 8 (0, 0) = s) := ⟨_, rfl⟩
  obtain ⟨s4, hs4⟩ : ∃ s, Hid (stp m 4 (stp m 8 (stp m 8 s1)) = s) := ⟨_, rfl⟩
  obtain ⟨s5, hs5⟩ : ∃ s, Hid (stp m 4 s4 = s) := ⟨_, rfl⟩
  obtain ⟨A, hA⟩ : ∃ A, Hid (stv m 8 s1 = A) := ⟨_, rfl⟩
  obtain ⟨B, hB1⟩ : ∃ B, Hid (stv m 8 (stp m 8 s1) = B) := ⟨_, rfl⟩
  obtain ⟨C, hC⟩ : ∃ C, Hid (stv m 4 (stp m 8 (stp m 8 s1)) = C) := ⟨_, rfl⟩
  obtain ⟨M, hM⟩ : ∃ M, Hid (stv m 4 s4 = M) := ⟨_, rfl⟩
  go_cut [6, 7, 8] from 12 to 18 (fun v6 v7 v8 wx => ∃ b7, v6 = .bool T ∧ v7 = .pointer (some ⟨b7, 0, none⟩) ∧ v8 = .int .u32 (M : Int) ∧ Hid (RHx w wx w1.heap.size rb b7 (.slice ao n ca) m (sg64 A) (sg64 B) C s5))
  case first =>
    have R0 : RSH w (w1.alloc (.cells #[.pointer (some ⟨rb, 0, none⟩), .slice ao n ca] 67)) w.heap.size w1.heap.size rb #[.int .i64 0, .int .i64 0, .int .u32 0] 50 (.slice ao n ca) m (0, 0) := by
      have hlt := hr.out.lt
      have hbx := box_below w1 (.cells #[.pointer (some ⟨rb, 0, none⟩), .slice ao n ca] 67)
      refine ⟨⟨?_, heap_alloc_new _ _, hr.out.below hbx, keepF hB.out hbx, by have := hrb'.out; omega, by omega, by have := hrb'.out; omega⟩⟩
      show (w1.alloc _).heap[w.heap.size]? = _
      rw [hbx.block w.heap.size (heap_lt hh.out)]; exact hh.out
    obtain ⟨W, hW⟩ : ∃ W, Hid (w1.alloc (.cells #[.pointer (some ⟨rb, 0, none⟩), .slice ao n ca] 67) = W) := ⟨_, rfl⟩
    rw [hW.out] at R0 ⊢
    clear hh hr hrb' hB hW
    have hS0 := R0.dr.cells
    have L0 := R0.lt
    have HL0 := hide L0
    clear L0
    have T1 : Hid (∀ q, RSH w q w.heap.size w1.heap.size rb #[.int .i64 0, .int .i64 0, .int .u32 0] 50 (.slice ao n ca) m (0, 0) → Calls Try.prog 46 #[.agg #[.pointer (some ⟨rb, 0, none⟩), .slice ao n ca]] q fun e w' => e = .returned (.bool T) ∧ RSH w w' w.heap.size w1.heap.size rb #[.int .i64 0, .int .i64 0, .int .u32 0] 50 (.slice ao n ca) m s1 ∧ q.grownBy w' (some rb)) := fun q h => by
      have := h.titled
      rw [hT.out, hs1.out] at this
      exact this
    have T2 : Hid (∀ q, RSH w q w.heap.size w1.heap.size rb #[.int .i64 0, .int .i64 0, .int .u32 0] 50 (.slice ao n ca) m s1 → Calls Try.prog 47 #[.agg #[.pointer (some ⟨rb, 0, none⟩), .slice ao n ca]] q fun e w' => e = .returned (.agg #[.int .i64 (sg64 A), .int .i64 (sg64 B), .int .u32 (C : Int)]) ∧ RSH w w' w.heap.size w1.heap.size rb #[.int .i64 0, .int .i64 0, .int .u32 0] 50 (.slice ao n ca) m s4 ∧ q.grownBy w' (some rb)) := fun q h => by
      have := h.head
      rw [hA.out, hB1.out, hC.out, hs4.out] at this
      exact this
    have T3 : Hid (∀ q, RSH w q w.heap.size w1.heap.size rb #[.int .i64 0, .int .i64 0, .int .u32 0] 50 (.slice ao n ca) m s4 → Calls Try.prog 35 #[.pointer (some ⟨rb, 0, none⟩)] q fun e w' => e = .returned (.int .u32 (M : Int)) ∧ RSH w w' w.heap.size w1.heap.size rb #[.int .i64 0, .int .i64 0, .int .u32 0] 50 (.slice ao n ca) m s5 ∧ q.grownBy w' (some rb)) := fun q h => by
      have := h.f32
      rw [hM.out, hs5.out] at this
      exact this
    go_region_held3 (fun q => q.cell? ⟨w1.heap.size, 0, none⟩ = some (.pointer (some ⟨rb, 0, none⟩)) ∧ q.cell? ⟨w1.heap.size, 1, none⟩ = some (.slice ao n ca))
      (first | exact hS0 | assumption | exact RSH.cells R3 | exact RSH.cells R2 | exact RSH.cells R1 | exact RSH.cells (P3 _ _ _) | exact (R3.al _).cells | exact (R2.al _).cells | exact (R1.al _).cells | exact (R0.al _).dr.cells | fail)
      (first
        | (go_at_call 46; refine (T1.out _ (by first | exact R0.dr | exact (R0.al _).dr | fail)).mono ?_; rintro e u1 ⟨rfl, R1, G1⟩
           have N1 : rb < W.heap.size ∧ w.heap.size < W.heap.size ∧ w1.heap.size < W.heap.size ∧ W.heap.size ≤ u1.heap.size := ⟨HL0.out.1, HL0.out.2.1, HL0.out.2.2.1, by first | exact G1.size | exact Nat.le_trans (box_below W _).size G1.size⟩
           replace N1 := hide N1
           try (have A1 : Hid (u1.heap[W.heap.size]? = some (.cells #[.int .i64 0, .int .i64 0, .int .u32 0] 50 (0, 0))) := grown_keep G1 (alloc_at W _) (by have := N1.out.1; omega)))
        | (go_at_call 47; refine (T2.out _ (by first | exact R1 | exact R1.al _ | fail)).mono ?_; rintro e u2 ⟨rfl, R2, G2⟩
           have N2 : u1.heap.size ≤ u2.heap.size := by first | exact G2.size | exact Nat.le_trans (box_below u1 _).size G2.size
           replace N2 := hide N2
           first
             | (have A2 : Hid (u2.heap[W.heap.size]? = some (.cells #[.int .i64 0, .int .i64 0, .int .u32 0] 50 (0, 0))) := grown_keep G2 A1.out (by have := N1.out.1; omega))
             | (have A2 : Hid (u2.heap[u1.heap.size]? = some (.cells #[.int .i64 0, .int .i64 0, .int .u32 0] 50 (0, 0))) := grown_keep G2 (alloc_at u1 _) (by have := N1.out.1; have := N1.out.2.2.2; omega))
             | skip)
        | (go_at_call 35; refine (T3.out _ (by first | exact R2 | exact R2.al _ | fail)).mono ?_; rintro e u3 ⟨rfl, R3, G3⟩
           first
             | (have A3 := hide (grown_keep G3 A2.out (by have := N1.out.1; have := N1.out.2.2.2; omega))
                obtain ⟨x0, x1, x2, y0, y1, y2⟩ := three_cells A3.out
                have P3 := fun a0 a1 a2 => RSH.put3 (a0 := a0) (a1 := a1) (a2 := a2) R3 A3.out (by have := N1.out; have := N2.out; omega) (by have := N1.out; have := N2.out; omega) (by have := N1.out; have := N2.out; omega) (by have := N1.out; have := N2.out; omega))
             | (have A3 : Hid (u3.heap[u2.heap.size]? = some (.cells #[.int .i64 0, .int .i64 0, .int .u32 0] 50 (0, 0))) := grown_keep G3 (alloc_at u2 _) (by have := N1.out.1; have := N1.out.2.2.2; have := N2.out; omega)
                obtain ⟨x0, x1, x2, y0, y1, y2⟩ := three_cells A3.out
                have P3 := fun a0 a1 a2 => RSH.put3 (a0 := a0) (a1 := a1) (a2 := a2) R3 A3.out (by have := N1.out; have := N2.out; omega) (by have := N1.out; have := N2.out; omega) (by have := N1.out; have := N2.out; omega) (by have := N1.out; have := N2.out; omega))
             | skip)
        | fail)
    all_goals
      go_wp2_with fail
      go_meet
      case rel => first | exact ⟨_, rfl, rfl, rfl, RHx.late R3⟩ | exact ⟨_, rfl, rfl, rfl, RHx.early R3 A3.out (by have := N1.out; have := N2.out; omega) (by have := N1.out; have := N2.out; omega) (by have := N1.out; have := N2.out; omega)⟩
  case rest =>
    obtain ⟨b7, rfl, rfl, rfl, hx⟩ := hcut
    clear hh hr hrb' hB HV1
    have hAb : A < 18446744073709551616 := by rw [← hA.out]; have := stv_lt m 8 s1; simpa using this
    have hBb : B < 18446744073709551616 := by rw [← hB1.out]; have := stv_lt m 8 (stp m 8 s1); simpa using this
    have hCb : C < 4294967296 := by rw [← hC.out]; have := stv_lt m 4 (stp m 8 (stp m 8 s1)); simpa using this
    have hMb : M < 4294967296 := by rw [← hM.out]; have := stv_lt m 4 s4; simpa using this
    have HAb := hide hAb
    have HBb := hide hBb
    clear hAb hBb
    obtain ⟨hc8, hc9⟩ := hx.out.1.cells
    go_wp2_with fail
    refine (short_any _ rb _ m s5.1 s5.2 hx.out.1.out.2.2.1).mono ?_
    rintro e u4 ⟨rfl, hb4⟩
    have hx4 := hide (hx.out.below hb4)
    clear hx hb4 hc8 hc9
    by_cases h32 : n < 32
    · have hne : Hid ((s5.2 != 0) = true) := by
        rw [← hs5.out, ← hs4.out, ← hs1.out, ← hm.out]; exact read5_no l (by rw [hn.out]; exact h32)
      rw [hne.out]
      obtain rfl : F = (0, 0, 0#32, 0#32, 2) := by
        rw [← hF.out]
        have e : rhE l = 2 := by rw [rhE, if_pos (by rw [hn.out]; exact h32)]
        rw [rhF, e]; rfl
      have hP := hide (three_cells (put3_heap hx4.out.1.out.1 (.int .i64 0) (.int .i64 0) (.int .u32 0)))
      have hB2 := hide (put3_below hx4.out.1.out.2.2.2.1 (Nat.le_refl _) (.int .i64 0) (.int .i64 0) (.int .u32 0))
      obtain ⟨p0, p1, p2, p3, p4, p5⟩ := three_cells hx4.out.1.out.1
      go_wp2_with fail
      show bodyPost _ _ _ _ _ (put3 u4 w.heap.size (.int .i64 0) (.int .i64 0) (.int .u32 0))
      obtain ⟨w9, hw9⟩ : ∃ w9, Hid (put3 u4 w.heap.size (.int .i64 0) (.int .i64 0) (.int .u32 0) = w9) := ⟨_, rfl⟩
      rw [hw9.out] at hP hB2 ⊢
      obtain ⟨k0, k1, k2, _, _, _⟩ := hP.out
      refine bodyPost_ret (by simp [results, Try.results23, go_sem, k0, k1, k2]; rfl) rfl ?_
      exact ⟨rfl, hB2.out⟩
    · obtain ⟨e0, e1, e2, e3, e4, e5⟩ := read5_ok l (by rw [hn.out]; omega)
      rw [hm.out] at e0 e1 e2 e3 e4 e5
      rw [hs1.out] at e0 e2 e3 e4 e5
      rw [hs4.out] at e0 e5
      rw [hs5.out] at e0
      rw [hA.out] at e2
      rw [hB1.out] at e3
      rw [hC.out] at e4
      rw [hM.out] at e5
      have hTl : Hid (decide (l.take 8 = ttl) = T) := by rw [← e1]; exact hT
      subst e0
      have hz : (((32 : Nat), (0 : Int)).2 != 0) = false := rfl
      rw [hz]
      have E32 : Hid (¬ l.length < 32) := by show ¬ _; rw [hn.out]; exact h32
      replace e2 := hide e2
      replace e3 := hide e3
      replace e4 := hide e4
      replace e5 := hide e5
      clear hz e1 hT hs1 hs4 hs5 hA hB1 hC hM
      obtain ⟨c0, c1, c2, _, _, _⟩ := three_cells hx4.out.2.1
      obtain ⟨P, hPA⟩ : ∃ P, Hid (sg64 A = P) := ⟨_, rfl⟩
      obtain ⟨R, hRB⟩ : ∃ R, Hid (sg64 B = R) := ⟨_, rfl⟩
      have HNP : Hid (sg64 (gN l) = P) := by rw [← e2.out]; exact hPA
      have HXP : Hid (sg64 (gB l) = R) := by rw [← e3.out]; exact hRB
      have bP := sg64_le A HAb.out
      have bR := sg64_le B HBb.out
      rw [hPA.out] at hx4 c0 bP
      rw [hRB.out] at hx4 c1 bR
      have hCv : Hid ((BitVec.ofNat 32 C).toNat = C) := by show _ = _; rw [BitVec.toNat_ofNat]; exact Nat.mod_eq_of_lt hCb
      cases T with
      | false =>
        have hTf : Hid (l.take 8 ≠ ttl) := by have := hTl.out; simpa [Hid] using this
        obtain rfl : F = (0, 0, 0#32, 0#32, 4) := by
          rw [← hF.out]
          have e : rhE l = 4 := by rw [rhE, if_neg E32.out, if_pos (Or.inl hTf.out)]
          rw [rhF, e]; rfl
        have hP := hide (three_cells (put3_heap hx4.out.1.out.1 (.int .i64 0) (.int .i64 0) (.int .u32 0)))
        have hB2 := hide (put3_below hx4.out.1.out.2.2.2.1 (Nat.le_refl _) (.int .i64 0) (.int .i64 0) (.int .u32 0))
        obtain ⟨p0, p1, p2, p3, p4, p5⟩ := three_cells hx4.out.1.out.1
        go_wp2_with fail
        show bodyPost _ _ _ _ _ (put3 u4 w.heap.size (.int .i64 0) (.int .i64 0) (.int .u32 0))
        obtain ⟨w9, hw9⟩ : ∃ w9, Hid (put3 u4 w.heap.size (.int .i64 0) (.int .i64 0) (.int .u32 0) = w9) := ⟨_, rfl⟩
        rw [hw9.out] at hP hB2 ⊢
        obtain ⟨k0, k1, k2, _, _, _⟩ := hP.out
        refine bodyPost_ret (by simp [results, Try.results23, go_sem, k0, k1, k2]; rfl) rfl ?_
        exact ⟨rfl, hB2.out⟩
      | true =>
        have hTt : Hid (l.take 8 = ttl) := by have := hTl.out; simpa [Hid] using this
        have Hmb : Hid (∀ q, Calls Try.prog 41 #[.agg #[.int .i64 P, .int .i64 R, .int .u32 (C : Int)]] q fun e w' => e = .returned (.bool (inB P 9223372036854775807 && inB R 9223372036854775807)) ∧ Below q.heap.size q w') := fun q => by
          have := mayBe_any q P R (BitVec.ofNat 32 C)
          rw [hCv.out] at this
          exact this
        cases hmb : inB P 9223372036854775807 && inB R 9223372036854775807 with
        | false =>
          have hbad : l.take 8 ≠ ttl ∨ sg64 (gN l) < 1 ∨ sg64 (gB l) < 1 := by
            rw [HNP.out, HXP.out]
            rw [inB_top P bP.1, inB_top R bR.1, Bool.and_eq_false_iff, decide_eq_false_iff_not, decide_eq_false_iff_not] at hmb
            right; omega
          obtain rfl : F = (0, 0, 0#32, 0#32, 4) := by
            rw [← hF.out]
            have e : rhE l = 4 := by rw [rhE, if_neg E32.out, if_pos hbad]
            rw [rhF, e]; rfl
          replace hmb := hide hmb
          clear hbad
          go_wp2_with fail
          refine (Hmb.out _).mono ?_
          rintro e u5 ⟨rfl, hb5⟩
          rw [hmb.out]
          have hx5 := hide (hx4.out.below hb5)
          clear hb5 hx4 c0 c1 c2
          have hP := hide (three_cells (put3_heap hx5.out.1.out.1 (.int .i64 0) (.int .i64 0) (.int .u32 0)))
          have hB2 := hide (put3_below hx5.out.1.out.2.2.2.1 (Nat.le_refl _) (.int .i64 0) (.int .i64 0) (.int .u32 0))
          obtain ⟨p0, p1, p2, p3, p4, p5⟩ := three_cells hx5.out.1.out.1
          go_wp2_with fail
          show bodyPost _ _ _ _ _ (put3 u5 w.heap.size (.int .i64 0) (.int .i64 0) (.int .u32 0))
          obtain ⟨w9, hw9⟩ : ∃ w9, Hid (put3 u5 w.heap.size (.int .i64 0) (.int .i64 0) (.int .u32 0) = w9) := ⟨_, rfl⟩
          rw [hw9.out] at hP hB2 ⊢
          obtain ⟨k0, k1, k2, _, _, _⟩ := hP.out
          refine bodyPost_ret (by simp [results, Try.results23, go_sem, k0, k1, k2]; rfl) rfl ?_
          exact ⟨rfl, hB2.out⟩
        | true =>
          have hgd : 1 ≤ P ∧ 1 ≤ R := by
            rw [inB_top P bP.1, inB_top R bR.1, Bool.and_eq_true, decide_eq_true_eq, decide_eq_true_eq] at hmb
            exact hmb
          have Hgd := hide hgd
          have hnb : Hid (¬ (l.take 8 ≠ ttl ∨ sg64 (gN l) < 1 ∨ sg64 (gB l) < 1)) := by
            show ¬ _
            rw [HNP.out, HXP.out, hTt.out]
            simp; omega
          have hfe : Hid (hfs P.toNat R.toNat (BitVec.ofNat 32 C) = l.take 28) := by
            show _ = _
            rw [← hPA.out, ← hRB.out, sg64_toNat A HAb.out (by rw [hPA.out]; exact hgd.1), sg64_toNat B HBb.out (by rw [hRB.out]; exact hgd.2), e2.out, e3.out]
            exact hfs_take l (by have := E32.out; omega) hTt.out _ (by rw [hCv.out, e4.out])
          have BP := hide bP
          have BR := hide bR
          have Hhf : Hid (∀ q, Calls Try.prog 42 #[.agg #[.int .i64 P, .int .i64 R, .int .u32 (C : Int)]] q fun e w' => ∃ v', e = .returned v' ∧ w'.ownsRow q.heap.size 5 1 v' (l.take 28).length (bvals (l.take 28)) ∧ Below q.heap.size q w') := fun q => by
            have := headFields_any q P R (BitVec.ofNat 32 C) Hgd.out.1 BP.out.1 Hgd.out.2 BR.out.1
            rw [hCv.out, hfe.out] at this
            exact this
          replace hmb := hide hmb
          clear hgd bP bR
          go_wp2_with fail
          refine (Hmb.out _).mono ?_
          rintro e u5 ⟨rfl, hb5⟩
          rw [hmb.out]
          have hx5 := hide (hx4.out.below hb5)
          clear hb5 hx4 c0 c1 c2
          obtain ⟨c0, c1, c2, _, _, _⟩ := three_cells hx5.out.2.1
          go_wp2_with fail
          refine (Hhf.out _).mono ?_
          rintro e u6 ⟨v6, rfl, ho6, hb6⟩
          have sv := hide (Sl.of_owns ho6)
          have hx6 := hide (hx5.out.below hb6)
          clear hb6 hx5 c0 c1 c2 ho6
          obtain ⟨S, hS⟩ : ∃ S, Hid (Crc.more 0#32 (l.take 28) = S) := ⟨_, rfl⟩
          go_wp2_with fail
          refine (Crc.sum_any _ _ _ sv.out).mono ?_
          rintro e u7 ⟨rfl, hb7⟩
          rw [hS.out]
          have hx7 := hide (hx6.out.below hb7)
          clear hb7 hx6 sv
          go_wp2_with fail
          refine (Crc.mask_any _ S).mono ?_
          rintro e w0 ⟨rfl, hw⟩
          obtain rfl := hw.symm
          by_cases hk : (Crc.maskOf S).toNat = M
          · have hmi : (((Crc.maskOf S).toNat : Int) != (M : Int)) = false := by simp; omega
            obtain rfl : F = (P, R, BitVec.ofNat 32 C, S, 0) := by
              rw [← hF.out]
              have e : rhE l = 0 := by rw [rhE, if_neg E32.out, if_neg hnb.out, if_neg (by rw [hS.out, ← e5.out]; simpa using hk)]
              rw [rhF, e, if_pos rfl, HNP.out, HXP.out, hS.out, ← e4.out]
            obtain ⟨c0, c1, c2, _, _, _⟩ := three_cells hx7.out.2.1
            clear hk
            generalize (Crc.maskOf S).toNat = K at *
            have hP := hide (three_cells (put3_heap hx7.out.1.out.1 (.int .i64 P) (.int .i64 R) (.int .u32 (C : Int))))
            have hB2 := hide (put3_below hx7.out.1.out.2.2.2.1 (Nat.le_refl _) (.int .i64 P) (.int .i64 R) (.int .u32 (C : Int)))
            obtain ⟨p0, p1, p2, p3, p4, p5⟩ := three_cells hx7.out.1.out.1
            go_wp2_with fail
            show bodyPost _ _ _ _ _ (put3 u7 w.heap.size (.int .i64 P) (.int .i64 R) (.int .u32 (C : Int)))
            obtain ⟨w9, hw9⟩ : ∃ w9, Hid (put3 u7 w.heap.size (.int .i64 P) (.int .i64 R) (.int .u32 (C : Int)) = w9) := ⟨_, rfl⟩
            rw [hw9.out] at hP hB2 ⊢
            obtain ⟨k0, k1, k2, _, _, _⟩ := hP.out
            refine bodyPost_ret (by simp [results, Try.results23, go_sem, k0, k1, k2]; rfl) rfl ?_
            exact ⟨by first | rfl | (simp; omega), hB2.out⟩
          · have hmi : (((Crc.maskOf S).toNat : Int) != (M : Int)) = true := by simp; omega
            obtain rfl : F = (0, 0, 0#32, 0#32, 5) := by
              rw [← hF.out]
              have e : rhE l = 5 := by rw [rhE, if_neg E32.out, if_neg hnb.out, if_pos (by rw [hS.out, ← e5.out]; simpa using hk)]
              rw [rhF, e]; rfl
            clear hk
            generalize (Crc.maskOf S).toNat = K at *
            have hP := hide (three_cells (put3_heap hx7.out.1.out.1 (.int .i64 0) (.int .i64 0) (.int .u32 0)))
            have hB2 := hide (put3_below hx7.out.1.out.2.2.2.1 (Nat.le_refl _) (.int .i64 0) (.int .i64 0) (.int .u32 0))
            obtain ⟨p0, p1, p2, p3, p4, p5⟩ := three_cells hx7.out.1.out.1
            go_wp2_with fail
            show bodyPost _ _ _ _ _ (put3 u7 w.heap.size (.int .i64 0) (.int .i64 0) (.int .u32 0))
            obtain ⟨w9, hw9⟩ : ∃ w9, Hid (put3 u7 w.heap.size (.int .i64 0) (.int .i64 0) (.int .u32 0) = w9) := ⟨_, rfl⟩
            rw [hw9.out] at hP hB2 ⊢
            obtain ⟨k0, k1, k2, _, _, _⟩ := hP.out
            refine bodyPost_ret (by simp [results, Try.results23, go_sem, k0, k1, k2]; rfl) rfl ?_
            exact ⟨rfl, hB2.out⟩
#print axioms readHead_any
end Go.Proofs.Ytophaolgmpdimaa
