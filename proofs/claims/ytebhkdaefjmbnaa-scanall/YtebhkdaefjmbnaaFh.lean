/-
  What the document's Read answers (flumeref6.Read).
-/
import Derived.Test.YtebhkdaefjmbnaaFg
import Derived.Test.YtebhkdaefjmbnaaFd
import Derived.Handy
namespace Go.Proofs.Ytebhkdaefjmbnaa
open Go.RowKit

/-- A middle part of a slice of bytes. -/
theorem sl_mid {w : World} {b off n ca : Nat} {l : List UInt8} (a k : Nat) (h : Sl w (.slice (some ⟨b, off, none⟩) n ca) l) (hn : l.length = n) (hk : a + k ≤ n) : Sl w (.slice (some ⟨b, off + a, none⟩) k (ca - a)) ((l.drop a).take k) := by
  obtain ⟨ao', ca', e, g2, g3, g4, g5⟩ := h
  simp only [Value.slice.injEq] at e
  obtain ⟨rfl, _, rfl⟩ := e
  have hl : ((l.drop a).take k).length = k := by simp; omega
  refine ⟨_, _, by rw [hl], fun e => by simp at e, by omega, by omega, fun i hi => ?_⟩
  rw [hl] at hi
  obtain ⟨b', off', e1, hc⟩ := g5 (a + i) (by omega)
  simp only [Option.some.injEq, Addr.mk.injEq] at e1
  obtain ⟨rfl, rfl, _⟩ := e1
  exact ⟨_, _, rfl, by rw [Nat.add_assoc, hc]; simp⟩
theorem Sl.some {w : World} {v : Value} {l : List UInt8} (h : Sl w v l) (hl : 0 < l.length) : ∃ b off ca, v = .slice (some ⟨b, off, none⟩) l.length ca ∧ l.length ≤ ca ∧ ca ≤ 9223372036854775807 := by
  obtain ⟨ao, ca, rfl, h2, h3, h4, h5⟩ := h
  obtain ⟨b, off, rfl, _⟩ := h5.at hl
  unfold maxLen at h4
  exact ⟨b, off, ca, rfl, h3, by omega⟩

set_option maxHeartbeats 1000000 in
theorem refRead_any : DoesRead 17 := by
  intro w seed v l hv
  have HV := hide hv
  obtain ⟨n, hn⟩ : ∃ n, Hid (l.length = n) := ⟨_, rfl⟩
  have HV1 := hide (Below.sl (box_below w (.cells #[.int .i64 0, .slice none 0 0] 41)) hv)
  obtain ⟨F, hF⟩ : ∃ F, Hid (rdF seed l = F) := ⟨_, rfl⟩
  rw [hF.out]
  have hb0 := hide (box_below w (.cells #[.int .i64 0, .slice none 0 0] 41))
  have hh0 : Hid ((w.alloc (.cells #[.int .i64 0, .slice none 0 0] 41)).heap[w.heap.size]? = some (.cells #[.int .i64 0, .slice none 0 0] 41 (0, 0))) := heap_alloc_new _ _
  by_cases h16 : n < 16
  · obtain ⟨ao, ca, rfl⟩ := hv.form hn.out
    clear hv
    obtain rfl : F = (0, [], 0, 0#32, 2) := by
      rw [← hF.out]
      have e : rdE seed l = 2 := by rw [rdE, if_pos (by rw [hn.out]; exact h16)]
      rw [rdF, e]; rfl
    go_enter Try.func17, Try.ntmps17
    go_wp2_with fail
    go_returns
    exact ⟨_, rfl, World.ownsRow_nil _ _ _ _, hb0.out⟩
  · obtain ⟨b, off, ca, rfl, hc1, hc2⟩ := hv.some (by rw [hn.out]; omega)
    rw [hn.out] at hc1 HV HV1 ⊢
    clear hv
    have q4 : ¬ (ca = 4) := by omega
    have q12 : ¬ (ca = 12) := by omega
    have s0 := hide (sl_take 4 (by rw [hn.out]; omega) HV1.out hn.out)
    have s4 := hide (sl_mid 4 8 HV1.out hn.out (by omega))
    have s12 := hide (sl_mid 12 4 HV1.out hn.out (by omega))
    have E16 : Hid (¬ l.length < 16) := by show ¬ _; rw [hn.out]; exact h16
    obtain ⟨N, e1⟩ : ∃ N, Hid (N = fN l) := ⟨_, rfl⟩
    obtain ⟨X, e2⟩ : ∃ N, Hid (N = fL l) := ⟨_, rfl⟩
    obtain ⟨M, e3⟩ : ∃ N, Hid (N = fM l) := ⟨_, rfl⟩
    have hNb : N < 18446744073709551616 := by rw [e1.out]; have := num_le (l.take 4) 8 (by simp; omega); simpa [fN] using this
    have hXb : X < 18446744073709551616 := by rw [e2.out]; have := num_le ((l.drop 4).take 8) 8 (by simp; omega); simpa [fL] using this
    go_enter Try.func17, Try.ntmps17
    go_wp2_with fail
    refine (refNum_any _ _ _ s0.out (by simp; omega)).mono ?_
    rintro e w0 ⟨rfl, hw⟩
    obtain rfl := hw.symm
    rw [show num (l.take 4) = N from e1.out.symm]
    go_wp2_with fail
    refine (refNum_any _ _ _ s4.out (by simp; omega)).mono ?_
    rintro e w0 ⟨rfl, hw⟩
    obtain rfl := hw.symm
    rw [show num ((l.drop 4).take 8) = X from e2.out.symm]
    go_wp2_with fail
    refine (refNum_any _ _ _ s12.out (by simp; omega)).mono ?_
    rintro e w0 ⟨rfl, hw⟩
    obtain rfl := hw.symm
    rw [show num ((l.drop 12).take 4) = M from e3.out.symm]
    obtain ⟨w2, hw2⟩ : ∃ w2, Hid (w.alloc (.cells #[.int .i64 0, .slice none 0 0] 41) = w2) := ⟨_, rfl⟩
    rw [hw2.out] at hb0 hh0 HV1 ⊢
    clear hw2 s0 s4 s12
    by_cases h3 : 4096 < N
    · obtain rfl : F = (0, [], 0, 0#32, 3) := by
        rw [← hF.out]
        have e : rdE seed l = 3 := by rw [rdE, if_neg E16.out, if_pos (by rw [← e1.out]; exact h3)]
        rw [rdF, e]; rfl
      have hP := hide (two_cells (put2_heap hh0.out (.int .i64 0) (.slice none 0 0)))
      have hB2 := hide (put2_below hb0.out (Nat.le_refl _) (.int .i64 0) (.slice none 0 0))
      obtain ⟨p0, p1, p2, p3⟩ := two_cells hh0.out
      go_wp2_with fail
      show bodyPost _ _ _ _ _ (put2 w2 w.heap.size (.int .i64 0) (.slice none 0 0))
      obtain ⟨w9, hw9⟩ : ∃ w9, Hid (put2 w2 w.heap.size (.int .i64 0) (.slice none 0 0) = w9) := ⟨_, rfl⟩
      rw [hw9.out] at hP hB2 ⊢
      obtain ⟨k0, k1, _, _⟩ := hP.out
      refine bodyPost_ret (by simp [results, Try.results17, go_sem, k0, k1]; rfl) rfl ?_
      exact ⟨_, rfl, World.ownsRow_nil _ _ _ _, hB2.out⟩
    · have hn3 := hide (show ¬ (4096 < fN l) by rw [← e1.out]; exact h3)
      by_cases hx1 : X < 1
      · obtain rfl : F = (0, [], 0, 0#32, 4) := by
          rw [← hF.out]
          have e : rdE seed l = 4 := by rw [rdE, if_neg E16.out, if_neg hn3.out, if_pos (by rw [← e2.out]; omega)]
          rw [rdF, e]; rfl
        have hP := hide (two_cells (put2_heap hh0.out (.int .i64 0) (.slice none 0 0)))
        have hB2 := hide (put2_below hb0.out (Nat.le_refl _) (.int .i64 0) (.slice none 0 0))
        obtain ⟨p0, p1, p2, p3⟩ := two_cells hh0.out
        go_wp2_with fail
        show bodyPost _ _ _ _ _ (put2 w2 w.heap.size (.int .i64 0) (.slice none 0 0))
        obtain ⟨w9, hw9⟩ : ∃ w9, Hid (put2 w2 w.heap.size (.int .i64 0) (.slice none 0 0) = w9) := ⟨_, rfl⟩
        rw [hw9.out] at hP hB2 ⊢
        obtain ⟨k0, k1, _, _⟩ := hP.out
        refine bodyPost_ret (by simp [results, Try.results17, go_sem, k0, k1]; rfl) rfl ?_
        exact ⟨_, rfl, World.ownsRow_nil _ _ _ _, hB2.out⟩
      by_cases hx2 : 9223372036854775806 < X
      · obtain rfl : F = (0, [], 0, 0#32, 4) := by
          rw [← hF.out]
          have e : rdE seed l = 4 := by rw [rdE, if_neg E16.out, if_neg hn3.out, if_pos (by rw [← e2.out]; omega)]
          rw [rdF, e]; rfl
        have hP := hide (two_cells (put2_heap hh0.out (.int .i64 0) (.slice none 0 0)))
        have hB2 := hide (put2_below hb0.out (Nat.le_refl _) (.int .i64 0) (.slice none 0 0))
        obtain ⟨p0, p1, p2, p3⟩ := two_cells hh0.out
        go_wp2_with fail
        show bodyPost _ _ _ _ _ (put2 w2 w.heap.size (.int .i64 0) (.slice none 0 0))
        obtain ⟨w9, hw9⟩ : ∃ w9, Hid (put2 w2 w.heap.size (.int .i64 0) (.slice none 0 0) = w9) := ⟨_, rfl⟩
        rw [hw9.out] at hP hB2 ⊢
        obtain ⟨k0, k1, _, _⟩ := hP.out
        refine bodyPost_ret (by simp [results, Try.results17, go_sem, k0, k1]; rfl) rfl ?_
        exact ⟨_, rfl, World.ownsRow_nil _ _ _ _, hB2.out⟩
      have hnb : Hid (¬ (fL l < 1 ∨ 9223372036854775806 < fL l)) := by show ¬ _; rw [← e2.out]; omega
      have hN4 : Hid (N ≤ 4096) := by show _ ≤ _; omega
      by_cases hs : n - 16 < N
      · obtain rfl : F = (0, [], 0, 0#32, 2) := by
          rw [← hF.out]
          have e : rdE seed l = 2 := by rw [rdE, if_neg E16.out, if_neg hn3.out, if_neg hnb.out, if_pos (by rw [← e1.out, hn.out]; exact hs)]
          rw [rdF, e]; rfl
        have hsi : (n : Int) - 16 < (N : Int) := by omega
        have hP := hide (two_cells (put2_heap hh0.out (.int .i64 0) (.slice none 0 0)))
        have hB2 := hide (put2_below hb0.out (Nat.le_refl _) (.int .i64 0) (.slice none 0 0))
        obtain ⟨p0, p1, p2, p3⟩ := two_cells hh0.out
        go_wp2_with fail
        show bodyPost _ _ _ _ _ (put2 w2 w.heap.size (.int .i64 0) (.slice none 0 0))
        obtain ⟨w9, hw9⟩ : ∃ w9, Hid (put2 w2 w.heap.size (.int .i64 0) (.slice none 0 0) = w9) := ⟨_, rfl⟩
        rw [hw9.out] at hP hB2 ⊢
        obtain ⟨k0, k1, _, _⟩ := hP.out
        refine bodyPost_ret (by simp [results, Try.results17, go_sem, k0, k1]; rfl) rfl ?_
        exact ⟨_, rfl, World.ownsRow_nil _ _ _ _, hB2.out⟩
      have hsi : ¬ ((n : Int) - 16 < (N : Int)) := by omega
      have hD : Hid ((l.drop 16).take N = fD l) := by show _ = _; rw [e1.out]; rfl
      have hDl : Hid ((fD l).length = N) := by show _ = _; rw [← hD.out]; simp; rw [hn.out]; omega
      have E2 : Hid (¬ (l.length - 16 < fN l)) := by show ¬ _; rw [← e1.out, hn.out]; omega
      by_cases q16 : ca = 16
      · have hN0 : N = 0 := by omega
        replace hN0 := hide hN0
        subst q16
        have sm : Hid (Sl w2 (.slice (some ⟨b, off, none⟩) (16 + N - 16) 0) (fD l)) := by
          have e : fD l = [] := List.length_eq_zero_iff.1 (hDl.out.trans hN0.out)
          show Sl _ _ _
          rw [e, hN0.out]
          exact ⟨_, _, rfl, fun e => by simp at e, Nat.le_refl _, Nat.zero_le _, fun i hi => by simp at hi⟩
        go_wp2_with (at_builtin; refine wpList_append_bytes rfl (.const (.slice none 0 0)) (.tmp 47) 22 rfl w2.heap.size 5 Try.infoU8 Try.underlying22 _ _ [] (fD l) rfl (World.ownsRow_nil _ _ _ _) rfl sm.out (by have := hN4.out; rw [hDl.out]; simp; omega) (Nat.le_refl _) ?_)
        intro vd w3 hod hb3
        have hod2 : Hid (w3.ownsRow w.heap.size 5 1 vd (fD l).length (bvals (fD l))) := owns_lower (b := w2.heap.size) (by simpa using hod) hb0.out.size
        have hb03 := hide (keepF hb0.out hb3)
        have hh3 : Hid (w3.heap[w.heap.size]? = some (.cells #[.int .i64 0, .slice none 0 0] 41 (0, 0))) := by show _ = _; rw [hb3.block w.heap.size (heap_lt hh0.out)]; exact hh0.out
        have sd := hide (Sl.of_owns hod2.out)
        obtain ⟨aod, cad, rfl⟩ := sd.out.form hDl.out
        clear hod hb3 hb0 hh0 sm
        go_wp2_with fail
        refine (refFSum_any _ seed X _ (fD l) hXb sd.out (by rw [hDl.out]; exact hN4.out)).mono ?_
        rintro e w4 ⟨rfl, hb4⟩
        obtain ⟨S, hS⟩ : ∃ S, Hid (fsum seed X (fD l) = S) := ⟨_, rfl⟩
        rw [hS.out]
        have hb04 := hide (keepF hb03.out hb4)
        have hh4 : Hid (w4.heap[w.heap.size]? = some (.cells #[.int .i64 0, .slice none 0 0] 41 (0, 0))) := by show _ = _; rw [hb4.block w.heap.size (heap_lt hh3.out)]; exact hh3.out
        have od4 := hide (ownsRow_below hod2.out hb4)
        clear hb4 hb03 hh3 hod2 sd
        have hkb := Crc.lt32 (Crc.maskOf S)
        go_wp2_with fail
        refine (Crc.refMask_any _ S).mono ?_
        rintro e w0 ⟨rfl, hw⟩
        obtain rfl := hw.symm
        by_cases hm : (Crc.maskOf S).toNat = M
        · have hmi : (((Crc.maskOf S).toNat : Int) != (M : Int)) = false := by simp; omega
          obtain rfl : F = ((X : Int), fD l, 16 + (N : Int), S, 0) := by
            rw [← hF.out]
            have e : rdE seed l = 0 := by rw [rdE, if_neg E16.out, if_neg hn3.out, if_neg hnb.out, if_neg E2.out, if_neg (by rw [← e2.out, ← e3.out, hS.out]; simpa using hm)]
            rw [rdF, e, if_pos rfl, ← e1.out, ← e2.out, hS.out]
          clear hm
          have hP := hide (two_cells (put2_heap hh4.out (.int .i64 (X : Int)) (.slice aod N cad)))
          have hB2 := hide (put2_below hb04.out (Nat.le_refl _) (.int .i64 (X : Int)) (.slice aod N cad))
          have OWN7 : Hid ((put2 w4 w.heap.size (.int .i64 (X : Int)) (.slice aod N cad)).ownsRow w.heap.size 5 1 (.slice aod N cad) (fD l).length (bvals (fD l))) := put2_owns od4.out hh4.out
          obtain ⟨p0, p1, p2, p3⟩ := two_cells hh4.out
          go_wp2_with fail
          show bodyPost _ _ _ _ _ (put2 w4 w.heap.size (.int .i64 (X : Int)) (.slice aod N cad))
          obtain ⟨w9, hw9⟩ : ∃ w9, Hid (put2 w4 w.heap.size (.int .i64 (X : Int)) (.slice aod N cad) = w9) := ⟨_, rfl⟩
          rw [hw9.out] at hP hB2 OWN7 ⊢
          obtain ⟨k0, k1, _, _⟩ := hP.out
          refine bodyPost_ret (by simp [results, Try.results17, go_sem, k0, k1]; rfl) rfl ?_
          exact ⟨_, rfl, OWN7.out, hB2.out⟩
        · have hmi : (((Crc.maskOf S).toNat : Int) != (M : Int)) = true := by simp; omega
          obtain rfl : F = (0, [], 0, 0#32, 5) := by
            rw [← hF.out]
            have e : rdE seed l = 5 := by rw [rdE, if_neg E16.out, if_neg hn3.out, if_neg hnb.out, if_neg E2.out, if_pos (by rw [← e2.out, ← e3.out, hS.out]; simpa using hm)]
            rw [rdF, e]; rfl
          clear hm
          have hP := hide (two_cells (put2_heap hh4.out (.int .i64 0) (.slice none 0 0)))
          have hB2 := hide (put2_below hb04.out (Nat.le_refl _) (.int .i64 0) (.slice none 0 0))
          obtain ⟨p0, p1, p2, p3⟩ := two_cells hh4.out
          go_wp2_with fail
          show bodyPost _ _ _ _ _ (put2 w4 w.heap.size (.int .i64 0) (.slice none 0 0))
          obtain ⟨w9, hw9⟩ : ∃ w9, Hid (put2 w4 w.heap.size (.int .i64 0) (.slice none 0 0) = w9) := ⟨_, rfl⟩
          rw [hw9.out] at hP hB2 ⊢
          obtain ⟨k0, k1, _, _⟩ := hP.out
          refine bodyPost_ret (by simp [results, Try.results17, go_sem, k0, k1]; rfl) rfl ?_
          exact ⟨_, rfl, World.ownsRow_nil _ _ _ _, hB2.out⟩
      · have sm : Hid (Sl w2 (.slice (some ⟨b, off + 16, none⟩) (16 + N - 16) (ca - 16)) (fD l)) := by
          show Sl _ _ _
          rw [Nat.add_sub_cancel_left, ← hD.out]
          exact sl_mid 16 N HV1.out hn.out (by omega)
        go_wp2_with (at_builtin; refine wpList_append_bytes rfl (.const (.slice none 0 0)) (.tmp 47) 22 rfl w2.heap.size 5 Try.infoU8 Try.underlying22 _ _ [] (fD l) rfl (World.ownsRow_nil _ _ _ _) rfl sm.out (by have := hN4.out; rw [hDl.out]; simp; omega) (Nat.le_refl _) ?_)
        intro vd w3 hod hb3
        have hod2 : Hid (w3.ownsRow w.heap.size 5 1 vd (fD l).length (bvals (fD l))) := owns_lower (b := w2.heap.size) (by simpa using hod) hb0.out.size
        have hb03 := hide (keepF hb0.out hb3)
        have hh3 : Hid (w3.heap[w.heap.size]? = some (.cells #[.int .i64 0, .slice none 0 0] 41 (0, 0))) := by show _ = _; rw [hb3.block w.heap.size (heap_lt hh0.out)]; exact hh0.out
        have sd := hide (Sl.of_owns hod2.out)
        obtain ⟨aod, cad, rfl⟩ := sd.out.form hDl.out
        clear hod hb3 hb0 hh0 sm
        go_wp2_with fail
        refine (refFSum_any _ seed X _ (fD l) hXb sd.out (by rw [hDl.out]; exact hN4.out)).mono ?_
        rintro e w4 ⟨rfl, hb4⟩
        obtain ⟨S, hS⟩ : ∃ S, Hid (fsum seed X (fD l) = S) := ⟨_, rfl⟩
        rw [hS.out]
        have hb04 := hide (keepF hb03.out hb4)
        have hh4 : Hid (w4.heap[w.heap.size]? = some (.cells #[.int .i64 0, .slice none 0 0] 41 (0, 0))) := by show _ = _; rw [hb4.block w.heap.size (heap_lt hh3.out)]; exact hh3.out
        have od4 := hide (ownsRow_below hod2.out hb4)
        clear hb4 hb03 hh3 hod2 sd
        have hkb := Crc.lt32 (Crc.maskOf S)
        go_wp2_with fail
        refine (Crc.refMask_any _ S).mono ?_
        rintro e w0 ⟨rfl, hw⟩
        obtain rfl := hw.symm
        by_cases hm : (Crc.maskOf S).toNat = M
        · have hmi : (((Crc.maskOf S).toNat : Int) != (M : Int)) = false := by simp; omega
          obtain rfl : F = ((X : Int), fD l, 16 + (N : Int), S, 0) := by
            rw [← hF.out]
            have e : rdE seed l = 0 := by rw [rdE, if_neg E16.out, if_neg hn3.out, if_neg hnb.out, if_neg E2.out, if_neg (by rw [← e2.out, ← e3.out, hS.out]; simpa using hm)]
            rw [rdF, e, if_pos rfl, ← e1.out, ← e2.out, hS.out]
          clear hm
          have hP := hide (two_cells (put2_heap hh4.out (.int .i64 (X : Int)) (.slice aod N cad)))
          have hB2 := hide (put2_below hb04.out (Nat.le_refl _) (.int .i64 (X : Int)) (.slice aod N cad))
          have OWN7 : Hid ((put2 w4 w.heap.size (.int .i64 (X : Int)) (.slice aod N cad)).ownsRow w.heap.size 5 1 (.slice aod N cad) (fD l).length (bvals (fD l))) := put2_owns od4.out hh4.out
          obtain ⟨p0, p1, p2, p3⟩ := two_cells hh4.out
          go_wp2_with fail
          show bodyPost _ _ _ _ _ (put2 w4 w.heap.size (.int .i64 (X : Int)) (.slice aod N cad))
          obtain ⟨w9, hw9⟩ : ∃ w9, Hid (put2 w4 w.heap.size (.int .i64 (X : Int)) (.slice aod N cad) = w9) := ⟨_, rfl⟩
          rw [hw9.out] at hP hB2 OWN7 ⊢
          obtain ⟨k0, k1, _, _⟩ := hP.out
          refine bodyPost_ret (by simp [results, Try.results17, go_sem, k0, k1]; rfl) rfl ?_
          exact ⟨_, rfl, OWN7.out, hB2.out⟩
        · have hmi : (((Crc.maskOf S).toNat : Int) != (M : Int)) = true := by simp; omega
          obtain rfl : F = (0, [], 0, 0#32, 5) := by
            rw [← hF.out]
            have e : rdE seed l = 5 := by rw [rdE, if_neg E16.out, if_neg hn3.out, if_neg hnb.out, if_neg E2.out, if_pos (by rw [← e2.out, ← e3.out, hS.out]; simpa using hm)]
            rw [rdF, e]; rfl
          clear hm
          have hP := hide (two_cells (put2_heap hh4.out (.int .i64 0) (.slice none 0 0)))
          have hB2 := hide (put2_below hb04.out (Nat.le_refl _) (.int .i64 0) (.slice none 0 0))
          obtain ⟨p0, p1, p2, p3⟩ := two_cells hh4.out
          go_wp2_with fail
          show bodyPost _ _ _ _ _ (put2 w4 w.heap.size (.int .i64 0) (.slice none 0 0))
          obtain ⟨w9, hw9⟩ : ∃ w9, Hid (put2 w4 w.heap.size (.int .i64 0) (.slice none 0 0) = w9) := ⟨_, rfl⟩
          rw [hw9.out] at hP hB2 ⊢
          obtain ⟨k0, k1, _, _⟩ := hP.out
          refine bodyPost_ret (by simp [results, Try.results17, go_sem, k0, k1]; rfl) rfl ?_
          exact ⟨_, rfl, World.ownsRow_nil _ _ _ _, hB2.out⟩
#print axioms refRead_any
end Go.Proofs.Ytebhkdaefjmbnaa
