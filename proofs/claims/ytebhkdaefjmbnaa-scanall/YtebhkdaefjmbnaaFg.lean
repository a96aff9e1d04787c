/-
  What frame.Read answers.
-/
import Derived.Test.YtebhkdaefjmbnaaFf
namespace Go.Proofs.Ytebhkdaefjmbnaa
open Go.RowKit

def fN (l : List UInt8) : Nat := num (l.take 4)
def fL (l : List UInt8) : Nat := num ((l.drop 4).take 8)
def fM (l : List UInt8) : Nat := num ((l.drop 12).take 4)
def fD (l : List UInt8) : List UInt8 := (l.drop 16).take (fN l)
/-- Read's error's number. -/
def rdE (seed : Crc.R) (l : List UInt8) : Int :=
  if l.length < 16 then 2 else if 4096 < fN l then 3 else if fL l < 1 ∨ 9223372036854775806 < fL l then 4 else if l.length - 16 < fN l then 2 else if (Crc.maskOf (fsum seed (fL l) (fD l))).toNat ≠ fM l then 5 else 0
/-- What Read answers: LSN, Data, size, sum, the error's number. -/
def rdF (seed : Crc.R) (l : List UInt8) : Int × List UInt8 × Int × Crc.R × Int :=
  if rdE seed l = 0 then ((fL l : Int), fD l, 16 + (fN l : Int), fsum seed (fL l) (fD l), 0) else (0, [], 0, 0#32, rdE seed l)
/-- What a function that reads frames owes. -/
def DoesRead (f : Nat) : Prop := ∀ (w : World) (seed : Crc.R) (v : Value) (l : List UInt8), Sl w v l →
  Calls Try.prog f #[.int .u32 (seed.toNat : Int), v] w fun e w' => ∃ v', e = .returned (.tuple #[.agg #[.int .i64 (rdF seed l).1, v'], .int .i64 (rdF seed l).2.2.1, .int .u32 ((rdF seed l).2.2.2.1.toNat : Int), .int .i64 (rdF seed l).2.2.2.2]) ∧ w'.ownsRow w.heap.size 5 1 v' (rdF seed l).2.1.length (bvals (rdF seed l).2.1) ∧ Below w.heap.size w w'

/-- Three readings, at sizes 4, 8, 4. -/
theorem read3_ok (l : List UInt8) (h : 16 ≤ l.length) : stp (l.take 16) 4 (stp (l.take 16) 8 (stp (l.take 16) 4 (0, 0))) = (16, 0) ∧ stv (l.take 16) 4 (0, 0) = fN l ∧ stv (l.take 16) 8 (stp (l.take 16) 4 (0, 0)) = fL l ∧ stv (l.take 16) 4 (stp (l.take 16) 8 (stp (l.take 16) 4 (0, 0))) = fM l := by
  have hl : (l.take 16).length = 16 := by simp; omega
  have e1 : stp (l.take 16) 4 (0, 0) = (4, 0) := by simp [stp, hl]
  have e2 : stp (l.take 16) 8 (4, 0) = (12, 0) := by simp [stp, hl]
  have e3 : stp (l.take 16) 4 (12, 0) = (16, 0) := by simp [stp, hl]
  rw [e1, e2, e3]
  refine ⟨rfl, ?_, ?_, ?_⟩
  · simp [stv, hl, fN, List.take_take]
  · simp [stv, hl, fL, List.drop_take, List.take_take]
  · simp [stv, hl, fM, List.drop_take, List.take_take]
theorem read3_no (l : List UInt8) (h : l.length < 16) : ((stp (l.take 16) 4 (stp (l.take 16) 8 (stp (l.take 16) 4 (0, 0)))).2 != 0) = true := by
  have hl : (l.take 16).length = l.length := by simp; omega
  unfold stp
  rw [hl]
  simp only [Nat.zero_add, if_true]
  by_cases h4 : 4 ≤ l.length
  · simp only [h4, if_true]
    by_cases h12 : 4 + 8 ≤ l.length
    · simp only [h12, if_true]
      rw [if_neg (by omega)]; rfl
    · simp [h12]
  · simp [h4]

/-- Within Read and ReadHead: the block b0 of what will be answered, the block b8 of the reader, the Reader at rb in the state s. -/
def RS (w0 q : World) (b0 b8 rb : Nat) (c0 : Array Value) (T0 : TypeId) (v : Value) (l : List UInt8) (s : Nat × Int) : Prop :=
  q.heap[b0]? = some (.cells c0 T0 (0, 0)) ∧ q.heap[b8]? = some (.cells #[.pointer (some ⟨rb, 0, none⟩), v] 77 (0, 0)) ∧ RdrAt q rb l s.1 s.2 ∧ Below w0.heap.size w0 q ∧ b0 ≠ rb ∧ b8 ≠ rb ∧ w0.heap.size ≤ rb
theorem RS.step {w0 q q' : World} {b0 b8 rb : Nat} {c0 : Array Value} {T0 : TypeId} {v : Value} {l : List UInt8} {s s' : Nat × Int} (h : RS w0 q b0 b8 rb c0 T0 v l s) (hg : q.grownBy q' (some rb)) (hr : RdrAt q' rb l s'.1 s'.2) : RS w0 q' b0 b8 rb c0 T0 v l s' := by
  obtain ⟨h1, h2, h3, h4, h5, h6, h7⟩ := h
  refine ⟨?_, ?_, hr, below_block h4 hg h7, h5, h6, h7⟩
  · rw [hg.block b0 (heap_lt h1) (by simpa using h5)]; exact h1
  · rw [hg.block b8 (heap_lt h2) (by simpa using h6)]; exact h2
theorem RS.below {w0 q q' : World} {b0 b8 rb : Nat} {c0 : Array Value} {T0 : TypeId} {v : Value} {l : List UInt8} {s : Nat × Int} (h : RS w0 q b0 b8 rb c0 T0 v l s) (hb : Below q.heap.size q q') : RS w0 q' b0 b8 rb c0 T0 v l s := by
  obtain ⟨h1, h2, h3, h4, h5, h6, h7⟩ := h
  exact ⟨by rw [hb.block b0 (heap_lt h1)]; exact h1, by rw [hb.block b8 (heap_lt h2)]; exact h2, h3.below hb, keepF h4 hb, h5, h6, h7⟩
theorem RS.cells {w0 q : World} {b0 b8 rb : Nat} {c0 : Array Value} {T0 : TypeId} {v : Value} {l : List UInt8} {s : Nat × Int} (h : RS w0 q b0 b8 rb c0 T0 v l s) : q.cell? ⟨b8, 0, none⟩ = some (.pointer (some ⟨rb, 0, none⟩)) ∧ q.cell? ⟨b8, 1, none⟩ = some v :=
  ⟨(two_cells h.2.1).1, (two_cells h.2.1).2.1⟩
theorem RS.f32 {w0 q : World} {b0 b8 rb : Nat} {c0 : Array Value} {T0 : TypeId} {v : Value} {l : List UInt8} {s : Nat × Int} (h : RS w0 q b0 b8 rb c0 T0 v l s) :
    Calls Try.prog 36 #[.pointer (some ⟨rb, 0, none⟩)] q fun e w' => e = .returned (.int .u32 (stv l 4 s : Int)) ∧ RS w0 w' b0 b8 rb c0 T0 v l (stp l 4 s) :=
  (fixed32_tot q rb l s h.2.2.1).mono fun _ _ ⟨e, r, g⟩ => ⟨e, h.step g r⟩
theorem RS.num {w0 q : World} {b0 b8 rb : Nat} {c0 : Array Value} {T0 : TypeId} {v : Value} {l : List UInt8} {s : Nat × Int} (h : RS w0 q b0 b8 rb c0 T0 v l s) :
    Calls Try.prog 37 #[.agg #[.pointer (some ⟨rb, 0, none⟩), v]] q fun e w' => e = .returned (.int .i64 (sg64 (stv l 8 s))) ∧ RS w0 w' b0 b8 rb c0 T0 v l (stp l 8 s) :=
  (number_any q rb v l s h.2.2.1).mono fun _ _ ⟨e, r, g⟩ => ⟨e, h.step g r⟩
theorem RS.short {w0 q : World} {b0 b8 rb : Nat} {c0 : Array Value} {T0 : TypeId} {v : Value} {l : List UInt8} {s : Nat × Int} (h : RS w0 q b0 b8 rb c0 T0 v l s) :
    Calls Try.prog 38 #[.agg #[.pointer (some ⟨rb, 0, none⟩), v]] q fun e w' => e = .returned (.bool (s.2 != 0)) ∧ RS w0 w' b0 b8 rb c0 T0 v l s :=
  (short_any q rb v l s.1 s.2 h.2.2.1).mono fun _ _ ⟨e, b⟩ => ⟨e, h.below b⟩

theorem inB_sg (X : Nat) (h : X < 18446744073709551616) : inB (sg64 X) 9223372036854775806 = decide (1 ≤ X ∧ X ≤ 9223372036854775806) := by
  rw [Bool.eq_iff_iff]
  unfold inB sg64
  simp only [Bool.and_eq_true, decide_eq_true_eq]
  split <;> omega
theorem inB_sg2 (X : Nat) (h : X < 18446744073709551616) : inB (sg64 X) 9223372036854775807 = decide (1 ≤ X ∧ X ≤ 9223372036854775807) := by
  rw [Bool.eq_iff_iff]
  unfold inB sg64
  simp only [Bool.and_eq_true, decide_eq_true_eq]
  split <;> omega
/-- A list of bytes lies elsewhere than a block of two cells that are no bytes. -/
theorem put2_owns {w : World} {b base n : Nat} {v : Value} {xs : List Value} {z0 z1 : Value} {T : TypeId} (h : w.ownsRow base 5 1 v n xs) (hb : w.heap[b]? = some (.cells #[z0, z1] T (0, 0))) (hT : T ≠ 5 := by decide) {a0 a1 : Value} : (put2 w b a0 a1).ownsRow base 5 1 v n xs := by
  have hne : v.ownBlock ≠ some b := fun e => by
    obtain ⟨_, p⟩ := id h
    rcases p with ⟨rfl, _⟩ | ⟨g, cap, cur, rfl, _, hg, _⟩
    · simp [Value.ownBlock] at e
    · simp [Value.ownBlock] at e
      subst e
      rw [hb] at hg
      simp at hg
      exact hT hg.2
  exact ownsRow_setCell_other (ownsRow_setCell_other h hne _) hne _

set_option maxHeartbeats 1000000 in
theorem read_any : DoesRead 32 := by
  intro w seed v l hv
  have HV := hide hv
  obtain ⟨n, hn⟩ : ∃ n, Hid (l.length = n) := ⟨_, rfl⟩
  obtain ⟨ao, ca, rfl⟩ := hv.form hn.out
  have HV1 := hide (Below.sl (box_below w (.cells #[.int .i64 0, .slice none 0 0] 41)) hv)
  clear hv
  obtain ⟨F, hF⟩ : ∃ F, Hid (rdF seed l = F) := ⟨_, rfl⟩
  rw [hF.out]
  go_enter Try.func32, Try.ntmps32
  go_wp2_with fail
  refine (newR_any _ _ l 16 (by omega) HV1.out).mono ?_
  rintro e w1 ⟨rb, rfl, hr, hb, hrb⟩
  have hB : Hid (Below w.heap.size w w1) := keepF (box_below _ _) hb
  have hh := hb.block w.heap.size (by simp)
  rw [heap_alloc_new] at hh
  have hrb' : Hid (w.heap.size + 1 ≤ rb) := by simpa [Hid] using hrb
  replace hh := hide hh
  replace hr := hide hr
  clear hb hrb
  go_wp2_with fail
  have R0 : Hid (RS w (w1.alloc (.cells #[.pointer (some ⟨rb, 0, none⟩), .slice ao n ca] 77)).drew w.heap.size w1.heap.size rb #[.int .i64 0, .slice none 0 0] 41 (.slice ao n ca) (l.take 16) (0, 0)) := by
    have hlt := hr.out.lt
    have hbx := box_below w1 (.cells #[.pointer (some ⟨rb, 0, none⟩), .slice ao n ca] 77)
    refine ⟨?_, heap_alloc_new _ _, (hr.out.below hbx).drew, (keepF hB.out hbx).drew, by have := hrb'.out; omega, by omega, by have := hrb'.out; omega⟩
    show (w1.alloc _).heap[w.heap.size]? = _
    rw [hbx.block w.heap.size (heap_lt hh.out)]; exact hh.out
  have hS0 := R0.out.cells
  clear hh hr hB hrb'
  go_region_held3 (fun q => q.cell? ⟨w1.heap.size, 0, none⟩ = some (.pointer (some ⟨rb, 0, none⟩)) ∧ q.cell? ⟨w1.heap.size, 1, none⟩ = some (.slice ao n ca))
    (first | exact hS0 | assumption | exact RS.cells (by assumption))
    (first
      | (go_at_call 36; refine (RS.f32 R2).mono ?_; rintro e u3 ⟨rfl, R3⟩)
      | (go_at_call 37; refine (RS.num R1).mono ?_; rintro e u2 ⟨rfl, R2⟩)
      | (go_at_call 36; refine (RS.f32 R0.out).mono ?_; rintro e u1 ⟨rfl, R1⟩))
  clear R0 R1 R2 hS0 HV1
  have R3' := hide R3
  obtain ⟨hc8, hc9⟩ := R3.cells
  clear R3
  rename_i hold
  clear hold
  obtain ⟨N, hN⟩ : ∃ N, Hid (stv (l.take 16) 4 (0, 0) = N) := ⟨_, rfl⟩
  obtain ⟨X, hX⟩ : ∃ X, Hid (stv (l.take 16) 8 (stp (l.take 16) 4 (0, 0)) = X) := ⟨_, rfl⟩
  obtain ⟨M, hM⟩ : ∃ M, Hid (stv (l.take 16) 4 (stp (l.take 16) 8 (stp (l.take 16) 4 (0, 0))) = M) := ⟨_, rfl⟩
  obtain ⟨s3, hs3⟩ : ∃ s3, Hid (stp (l.take 16) 4 (stp (l.take 16) 8 (stp (l.take 16) 4 (0, 0))) = s3) := ⟨_, rfl⟩
  rw [hN.out, hX.out, hM.out]
  rw [hs3.out] at R3'
  have hNb : N < 4294967296 := by rw [← hN.out]; have := stv_lt (l.take 16) 4 (0, 0); simpa using this
  have hXb : X < 18446744073709551616 := by rw [← hX.out]; have := stv_lt (l.take 16) 8 (stp (l.take 16) 4 (0, 0)); simpa using this
  have hMb : M < 4294967296 := by rw [← hM.out]; have := stv_lt (l.take 16) 4 (stp (l.take 16) 8 (stp (l.take 16) 4 (0, 0))); simpa using this
  have HXb := hide hXb
  clear hXb
  go_wp2_with fail
  refine (RS.short R3'.out).mono ?_
  rintro e u4 ⟨rfl, R4⟩
  replace R4 := hide R4
  clear R3' hc8 hc9
  by_cases h16 : n < 16
  · have hne : Hid ((s3.2 != 0) = true) := by rw [← hs3.out]; exact read3_no l (by rw [hn.out]; exact h16)
    rw [hne.out]
    obtain rfl : F = (0, [], 0, 0#32, 2) := by
      rw [← hF.out]
      have e : rdE seed l = 2 := by rw [rdE, if_pos (by rw [hn.out]; exact h16)]
      rw [rdF, e]; rfl
    have hP := hide (two_cells (put2_heap R4.out.1 (.int .i64 0) (.slice none 0 0)))
    have hB2 := hide (put2_below R4.out.2.2.2.1 (Nat.le_refl _) (.int .i64 0) (.slice none 0 0))
    obtain ⟨p0, p1, p2, p3⟩ := two_cells R4.out.1
    go_wp2_with fail
    show bodyPost _ _ _ _ _ (put2 u4 w.heap.size (.int .i64 0) (.slice none 0 0))
    obtain ⟨w9, hw9⟩ : ∃ w9, Hid (put2 u4 w.heap.size (.int .i64 0) (.slice none 0 0) = w9) := ⟨_, rfl⟩
    rw [hw9.out] at hP hB2 ⊢
    obtain ⟨k0, k1, _, _⟩ := hP.out
    refine bodyPost_ret (by simp [results, Try.results32, go_sem, k0, k1]; rfl) rfl ?_
    exact ⟨_, rfl, World.ownsRow_nil _ _ _ _, hB2.out⟩
  · obtain ⟨e0, e1, e2, e3⟩ := read3_ok l (by rw [hn.out]; omega)
    rw [hN.out] at e1
    rw [hX.out] at e2
    rw [hM.out] at e3
    rw [hs3.out] at e0
    subst e0
    have E16 : Hid (¬ l.length < 16) := by show ¬ _; rw [hn.out]; exact h16
    replace e1 := hide e1
    replace e2 := hide e2
    replace e3 := hide e3
    have hz : (((16 : Nat), (0 : Int)).2 != 0) = false := rfl
    rw [hz]
    clear hz hN hX hM hs3
    by_cases h3 : 4096 < N
    · obtain rfl : F = (0, [], 0, 0#32, 3) := by
        rw [← hF.out]
        have e : rdE seed l = 3 := by rw [rdE, if_neg E16.out, if_pos (by rw [← e1.out]; exact h3)]
        rw [rdF, e]; rfl
      have hP := hide (two_cells (put2_heap R4.out.1 (.int .i64 0) (.slice none 0 0)))
      have hB2 := hide (put2_below R4.out.2.2.2.1 (Nat.le_refl _) (.int .i64 0) (.slice none 0 0))
      obtain ⟨p0, p1, p2, p3⟩ := two_cells R4.out.1
      go_wp2_with fail
      show bodyPost _ _ _ _ _ (put2 u4 w.heap.size (.int .i64 0) (.slice none 0 0))
      obtain ⟨w9, hw9⟩ : ∃ w9, Hid (put2 u4 w.heap.size (.int .i64 0) (.slice none 0 0) = w9) := ⟨_, rfl⟩
      rw [hw9.out] at hP hB2 ⊢
      obtain ⟨k0, k1, _, _⟩ := hP.out
      refine bodyPost_ret (by simp [results, Try.results32, go_sem, k0, k1]; rfl) rfl ?_
      exact ⟨_, rfl, World.ownsRow_nil _ _ _ _, hB2.out⟩
    · cases hin : inB (sg64 X) 9223372036854775806 with
      | false =>
        have hbad : fL l < 1 ∨ 9223372036854775806 < fL l := by
          rw [← e2.out]
          rw [inB_sg X HXb.out, decide_eq_false_iff_not] at hin
          omega
        obtain rfl : F = (0, [], 0, 0#32, 4) := by
          rw [← hF.out]
          have e : rdE seed l = 4 := by rw [rdE, if_neg E16.out, if_neg (by rw [← e1.out]; exact h3), if_pos hbad]
          rw [rdF, e]; rfl
        replace hin := hide hin
        clear hbad
        go_wp2_with fail
        refine (within_any _ (sg64 X) 9223372036854775806).mono ?_
        rintro e w0 ⟨rfl, hw⟩
        obtain rfl := hw.symm
        rw [hin.out]
        have hP := hide (two_cells (put2_heap R4.out.1 (.int .i64 0) (.slice none 0 0)))
        have hB2 := hide (put2_below R4.out.2.2.2.1 (Nat.le_refl _) (.int .i64 0) (.slice none 0 0))
        obtain ⟨p0, p1, p2, p3⟩ := two_cells R4.out.1
        go_wp2_with fail
        show bodyPost _ _ _ _ _ (put2 u4 w.heap.size (.int .i64 0) (.slice none 0 0))
        obtain ⟨w9, hw9⟩ : ∃ w9, Hid (put2 u4 w.heap.size (.int .i64 0) (.slice none 0 0) = w9) := ⟨_, rfl⟩
        rw [hw9.out] at hP hB2 ⊢
        obtain ⟨k0, k1, _, _⟩ := hP.out
        refine bodyPost_ret (by simp [results, Try.results32, go_sem, k0, k1]; rfl) rfl ?_
        exact ⟨_, rfl, World.ownsRow_nil _ _ _ _, hB2.out⟩
      | true =>
        have hgood : 1 ≤ X ∧ X ≤ 9223372036854775806 := by
          rw [inB_sg X HXb.out, decide_eq_true_eq] at hin
          exact hin
        have hsg : sg64 X = (X : Int) := by unfold sg64; rw [if_pos (by omega)]
        have Hgood := hide hgood
        have hnb : Hid (¬ (fL l < 1 ∨ 9223372036854775806 < fL l)) := by show ¬ _; rw [← e2.out]; omega
        rw [hsg] at hin ⊢
        replace hin := hide hin
        have hn3 := hide (show ¬ (4096 < fN l) by rw [← e1.out]; exact h3)
        clear hgood hsg
        go_wp2_with fail
        refine (within_any _ (X : Int) 9223372036854775806).mono ?_
        rintro e w0 ⟨rfl, hw⟩
        obtain rfl := hw.symm
        rw [hin.out]
        obtain ⟨hc8, hc9⟩ := R4.out.cells
        have hV4 := hide (Below.sl R4.out.2.2.2.1 HV.out)
        have hN4 : Hid (N ≤ 4096) := by show _ ≤ _; omega
        go_wp2_with fail
        refine (behind_any _ rb _ l (l.take 16) 16 0 N hN4.out R4.out.2.2.1 hV4.out (by rw [hn.out]; omega)).mono ?_
        rintro e u5 (⟨hs, rfl, hb⟩ | ⟨hs, vd, rfl, hod, hb⟩)
        · have R5 := hide (R4.out.below hb)
          clear hc8 hc9 hb
          obtain rfl : F = (0, [], 0, 0#32, 2) := by
            rw [← hF.out]
            have e : rdE seed l = 2 := by rw [rdE, if_neg E16.out, if_neg hn3.out, if_neg hnb.out, if_pos (by rw [← e1.out]; exact hs)]
            rw [rdF, e]; rfl
          replace hs := hide hs
          have hP := hide (two_cells (put2_heap R5.out.1 (.int .i64 0) (.slice none 0 0)))
          have hB2 := hide (put2_below R5.out.2.2.2.1 (Nat.le_refl _) (.int .i64 0) (.slice none 0 0))
          obtain ⟨p0, p1, p2, p3⟩ := two_cells R5.out.1
          go_wp2_with fail
          show bodyPost _ _ _ _ _ (put2 u5 w.heap.size (.int .i64 0) (.slice none 0 0))
          obtain ⟨w9, hw9⟩ : ∃ w9, Hid (put2 u5 w.heap.size (.int .i64 0) (.slice none 0 0) = w9) := ⟨_, rfl⟩
          rw [hw9.out] at hP hB2 ⊢
          obtain ⟨k0, k1, _, _⟩ := hP.out
          refine bodyPost_ret (by simp [results, Try.results32, go_sem, k0, k1]; rfl) rfl ?_
          exact ⟨_, rfl, World.ownsRow_nil _ _ _ _, hB2.out⟩
        · have R5 := hide (R4.out.below hb)
          have hD : Hid ((l.drop 16).take N = fD l) := by show _ = _; rw [e1.out]; rfl
          rw [hD.out] at hod
          have hDl : Hid ((fD l).length = N) := by show _ = _; rw [← hD.out]; simp; omega
          have E2 : Hid (¬ (l.length - 16 < fN l)) := by show ¬ _; rw [← e1.out]; omega
          have sd := hide (Sl.of_owns hod)
          obtain ⟨aod, cad, rfl⟩ := sd.out.form hDl.out
          have od := hide (owns_lower hod R4.out.2.2.2.1.size)
          replace hs := hide hs
          clear hc8 hc9 hb hod R4 hV4
          go_wp2_with fail
          refine (frameFields_any _ (X : Int) N (by have := Hgood.out; omega) (by have := Hgood.out; omega) hN4.out).mono ?_
          rintro e u6 ⟨vf, rfl, hof, hb6⟩
          rw [Int.toNat_natCast, ← hDl.out] at hof
          have sf := hide (Sl.of_owns hof)
          have R6 := hide (R5.out.below hb6)
          have sd6 := hide (Below.sl hb6 sd.out)
          have od6 := hide (ownsRow_below od.out hb6)
          clear hof hb6 R5 sd od
          go_wp2_with fail
          refine (frameSum_any _ seed X _ _ (fD l) sf.out sd6.out (by rw [hDl.out]; exact hN4.out)).mono ?_
          rintro e u7 ⟨rfl, hb7⟩
          obtain ⟨S, hS⟩ : ∃ S, Hid (fsum seed X (fD l) = S) := ⟨_, rfl⟩
          rw [hS.out]
          have R7 := hide (R6.out.below hb7)
          have od7 := hide (ownsRow_below od6.out hb7)
          clear hb7 R6 sd6 od6 sf
          go_wp2_with fail
          refine (Crc.mask_any _ S).mono ?_
          rintro e w0 ⟨rfl, hw⟩
          obtain rfl := hw.symm
          by_cases hm : (Crc.maskOf S).toNat = M
          · have hmi : (((Crc.maskOf S).toNat : Int) != (M : Int)) = false := by simp; omega
            obtain rfl : F = ((X : Int), fD l, 16 + (N : Int), S, 0) := by
              rw [← hF.out]
              have e : rdE seed l = 0 := by rw [rdE, if_neg E16.out, if_neg hn3.out, if_neg hnb.out, if_neg E2.out, if_neg (by rw [← e2.out, ← e3.out, hS.out]; simpa using hm)]
              rw [rdF, e, if_pos rfl, ← e1.out, ← e2.out, hS.out]
            have hsz : Hid (szF (N : Int) = 16 + (N : Int)) := by show _ = _; have := hN4.out; rw [szF, if_pos (by omega)]
            clear hm
            go_wp2_with fail
            refine (size_any _ (N : Int)).mono ?_
            rintro e w0 ⟨rfl, hw⟩
            obtain rfl := hw.symm
            rw [hsz.out]
            have hP := hide (two_cells (put2_heap R7.out.1 (.int .i64 (X : Int)) (.slice aod N cad)))
            have hB2 := hide (put2_below R7.out.2.2.2.1 (Nat.le_refl _) (.int .i64 (X : Int)) (.slice aod N cad))
            have OWN7 : Hid ((put2 u7 w.heap.size (.int .i64 (X : Int)) (.slice aod N cad)).ownsRow w.heap.size 5 1 (.slice aod N cad) (fD l).length (bvals (fD l))) := put2_owns od7.out R7.out.1
            obtain ⟨p0, p1, p2, p3⟩ := two_cells R7.out.1
            go_wp2_with fail
            show bodyPost _ _ _ _ _ (put2 u7 w.heap.size (.int .i64 (X : Int)) (.slice aod N cad))
            obtain ⟨w9, hw9⟩ : ∃ w9, Hid (put2 u7 w.heap.size (.int .i64 (X : Int)) (.slice aod N cad) = w9) := ⟨_, rfl⟩
            rw [hw9.out] at hP hB2 OWN7 ⊢
            obtain ⟨k0, k1, _, _⟩ := hP.out
            refine bodyPost_ret (by simp [results, Try.results32, go_sem, k0, k1]; rfl) rfl ?_
            exact ⟨_, rfl, OWN7.out, hB2.out⟩
          · have hmi : (((Crc.maskOf S).toNat : Int) != (M : Int)) = true := by simp; omega
            obtain rfl : F = (0, [], 0, 0#32, 5) := by
              rw [← hF.out]
              have e : rdE seed l = 5 := by rw [rdE, if_neg E16.out, if_neg hn3.out, if_neg hnb.out, if_neg E2.out, if_pos (by rw [← e2.out, ← e3.out, hS.out]; simpa using hm)]
              rw [rdF, e]; rfl
            clear hm
            have hP := hide (two_cells (put2_heap R7.out.1 (.int .i64 0) (.slice none 0 0)))
            have hB2 := hide (put2_below R7.out.2.2.2.1 (Nat.le_refl _) (.int .i64 0) (.slice none 0 0))
            obtain ⟨p0, p1, p2, p3⟩ := two_cells R7.out.1
            go_wp2_with fail
            show bodyPost _ _ _ _ _ (put2 u7 w.heap.size (.int .i64 0) (.slice none 0 0))
            obtain ⟨w9, hw9⟩ : ∃ w9, Hid (put2 u7 w.heap.size (.int .i64 0) (.slice none 0 0) = w9) := ⟨_, rfl⟩
            rw [hw9.out] at hP hB2 ⊢
            obtain ⟨k0, k1, _, _⟩ := hP.out
            refine bodyPost_ret (by simp [results, Try.results32, go_sem, k0, k1]; rfl) rfl ?_
            exact ⟨_, rfl, World.ownsRow_nil _ _ _ _, hB2.out⟩
#print axioms read_any
end Go.Proofs.Ytebhkdaefjmbnaa
