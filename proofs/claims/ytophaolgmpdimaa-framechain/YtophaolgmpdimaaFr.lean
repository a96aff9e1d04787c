/-
  What every statement of the sixth layer asks ahead (flumelaw6.begun) is answered true; flumelaw6.Eq.
-/
import Derived.Test.YtophaolgmpdimaaFq
import Derived.Test.YtophaolgmpdimaaEq
namespace Go.Proofs.Ytophaolgmpdimaa
open Go.RowKit

theorem eqS_any (w : World) (v u : Value) (l m : List UInt8) (hv : Sl w v l) (hu : Sl w u m) :
    Calls Try.prog 14 #[v, u] w fun e w' => e = .returned (.bool (decide (l = m))) ∧ Qt w w' := by
  have a := hv.le
  have b := hu.le
  obtain ⟨ao, ca, rfl, _, _, _, h5⟩ := hv
  obtain ⟨bo, cb, rfl, _, _, _, k5⟩ := hu
  exact eq_any w ao bo l m ca cb a b h5 k5

set_option maxHeartbeats 400000 in
theorem eq6_any (w : World) (a b : Int) (v u : Value) (l m : List UInt8) (hv : Sl w v l) (hu : Sl w u m) :
    Calls Try.prog 20 #[.agg #[.int .i64 a, v], .agg #[.int .i64 b, u]] w fun e w' => e = .returned (.bool (decide (a = b) && decide (l = m))) ∧ Below w.heap.size w w' := by
  have hbb := hide (keepF (box_below w (.cells #[.int .i64 a, v] 34)) (box_below (w.alloc (.cells #[.int .i64 a, v] 34)) (.cells #[.int .i64 b, u] 34)))
  have hv2 := hide (Below.sl hbb.out hv)
  have hu2 := hide (Below.sl hbb.out hu)
  clear hv hu
  by_cases h : a = b
  · subst h
    rw [decide_eq_true rfl, Bool.true_and]
    obtain ⟨D, hD⟩ : ∃ D, Hid (decide (l = m) = D) := ⟨_, rfl⟩
    rw [hD.out]
    go_enter Try.func20, Try.ntmps20
    go_wp2_with fail
    refine (eqS_any _ _ _ l m hv2.out hu2.out).mono ?_
    rintro e w1 ⟨rfl, hq⟩
    rw [hD.out]
    have hb2 := hide (keepF hbb.out (hq.below _))
    clear hq
    go_wp2_with fail
    go_ret
    exact ⟨rfl, hb2.out⟩
  · rw [decide_eq_false h, Bool.false_and]
    have hi : (a == b) = false := by simpa using h
    clear h
    go_enter Try.func20, Try.ntmps20
    go_wp2_with fail
    go_ret
    exact ⟨rfl, hbb.out⟩

theorem zero16 : rdF 0#32 (List.replicate 16 0) = (0, [], 0, 0#32, 4) := by
  have e : rdE 0#32 (List.replicate 16 0) = 4 := by decide +kernel
  rw [rdF, e]; rfl
theorem wr01 : wrF 0#32 1 [] = (frm 0#32 1 [], fsum 0#32 1 [], 0) := wrF_ok (by omega) (by omega) (by simp)
theorem wh15 : whF 1 5 0#32 = (hed 1 5 0#32, hsum 1 5 0#32, 0) := whF_ok (by omega) (by omega)
theorem rh15 : rhF (hed 1 5 0#32) = (1, 5, 0#32, hsum 1 5 0#32, 0) := by
  have := rh_back 1 5 0#32 [] (by omega) (by omega) (by omega) (by omega)
  simpa using this

set_option maxHeartbeats 1000000 in
theorem begun6_any (w : World) : Calls Try.prog 8 #[] w fun e w' => e = .returned (.bool true) ∧ Below w.heap.size w w' := by
  obtain ⟨i0, hi, hz0, hz1, hz2⟩ := info_parts Try.infoU8
  have hw0 := hide (write_any w 0#32 1 (.slice none 0 0) [] (by omega) (by omega) (Sl.nil _))
  rw [wr01] at hw0
  go_enter Try.func8, Try.ntmps8
  go_wp2_with fail
  refine hw0.out.mono ?_
  rintro e w1 ⟨v1, rfl, ho1, hb1⟩
  have s1 := hide (Sl.of_owns ho1)
  obtain ⟨ao1, ca1, rfl⟩ := s1.out.form (frm_len _ _ _)
  replace hb1 := hide hb1
  generalize fsum 0#32 1 [] = S1 at *
  clear ho1 hw0
  go_wp2_with (at_make; refine wpList_make_full w1 rfl _ _ 31 rfl w1.heap.size 5 i0 (.int .u8 0) 1 Try.underlying31 hi hz0 hz1 .i64 .i64 _ _ 16 rfl rfl rfl rfl (by rw [hz2]; omega) (by unfold maxLen; omega) (Nat.le_refl _) ?_)
  intro w2 ho2 hg2
  have hb2 : Below w1.heap.size w1 w2 := (Below.refl _ _).grown hg2 (Nat.le_refl _) (fun k hk => by simp at hk)
  have hb02 := hide (keepF hb1.out hb2)
  have s2 : Hid (Sl w2 (.slice (some ⟨w1.heap.size, 0, none⟩) 16 16) (List.replicate 16 0)) := by
    refine Sl.of_owns2 (base := w1.heap.size) (e := 5) (n := 16) ?_ (by simp)
    have e : bvals (List.replicate 16 (0 : UInt8)) = List.replicate 16 (Value.int .u8 0) := by simp [bvals, bval]
    rw [e]
    simpa [toList_madeCells_one, Value.cells] using ho2
  have hr2 := hide (read_any w2 0#32 _ _ s2.out)
  rw [zero16] at hr2
  clear hg2 ho2 hb2
  have e0 : ((0#32).toNat : Int) = 0 := rfl
  rw [e0] at hr2
  go_wp2_with fail
  refine hr2.out.mono ?_
  rintro e w3 ⟨v3, rfl, ho3, hb3⟩
  obtain ⟨ao3, ca3, rfl⟩ := (Sl.of_owns ho3).form rfl
  have hb03 := hide (keepF hb02.out hb3)
  clear ho3 hb3 hr2 hb02 s2
  go_wp2_with fail
  have hb04 := hide (keepF hb03.out (box_below w3 (.cells #[.int .i64 0, .slice ao3 0 ca3] 34)))
  generalize w3.alloc (.cells #[.int .i64 0, .slice ao3 0 ca3] 34) = w4 at *
  have hh4 := hide (writeHead_any w4 1 5 0#32 (by omega) (by omega) (by omega) (by omega))
  obtain ⟨S5, hS5⟩ : ∃ S5, Hid (hsum 1 5 0#32 = S5) := ⟨_, rfl⟩
  obtain ⟨L5, hL5⟩ : ∃ L5, Hid (hed 1 5 0#32 = L5) := ⟨_, rfl⟩
  have hL32 : Hid (L5.length = 32) := by show _ = _; rw [← hL5.out]; exact hed_len _ _ _
  have hrL : Hid (rhF L5 = (1, 5, 0#32, S5, 0)) := by show _ = _; rw [← hL5.out, ← hS5.out]; exact rh15
  rw [wh15, hS5.out, hL5.out, e0] at hh4
  clear hL5 hS5
  refine hh4.out.mono ?_
  rintro e w5 ⟨v5, rfl, ho5, hb5⟩
  have s5 : Hid (Sl w5 v5 L5) := Sl.of_owns ho5
  obtain ⟨ao5, ca5, rfl⟩ := s5.out.form hL32.out
  have hb05 := hide (keepF hb04.out hb5)
  have hr5 := hide (readHead_any w5 _ _ s5.out)
  rw [hrL.out] at hr5
  clear ho5 hb5 hh4 hb04 hb03
  go_wp2_with fail
  refine hr5.out.mono ?_
  rintro e w6 ⟨rfl, hb6⟩
  have hb06 := hide (keepF hb05.out hb6)
  clear hb6 hr5 s5 s1
  have hsz : Hid (szF 4096 = 4112) := rfl
  go_wp2_with fail
  refine (size_any _ 4096).mono ?_
  rintro e w0 ⟨rfl, hw⟩
  obtain rfl := hw.symm
  rw [hsz.out]
  go_wp2_with fail
  go_ret
  exact ⟨rfl, keepF hb06.out (box_below _ _)⟩
#print axioms begun6_any
end Go.Proofs.Ytophaolgmpdimaa
