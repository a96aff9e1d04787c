/-
  What every statement asks ahead (flumelaw1.begun) is answered true.
-/
import Derived.Test.YtgccfpmjcpoddaaRdS
import Derived.Lib.SlBytesConst
namespace Go.Proofs.Ytgccfpmjcpoddaa
open Go.RowKit

theorem sl_lit (w : World) (m : List UInt8) (t : TypeId) (hm : m.length ≤ maxLen) (cs : Array Value) (hcs : cs = (bvals m).toArray) : Sl (w.alloc (.cells cs t)) (.slice (some ⟨w.heap.size, 0, none⟩) m.length m.length) m := by
  subst hcs
  refine ⟨_, _, rfl, fun e => by simp at e, Nat.le_refl _, hm, fun i hi => ⟨_, _, rfl, ?_⟩⟩
  have : (w.alloc (.cells (bvals m).toArray t)).heap[w.heap.size]? = some (.cells (bvals m).toArray t (0, 0)) := heap_alloc_new _ _
  simp only [World.cell?, this, Nat.zero_add]
  simpa using bvals_get hi

theorem sl_lit_mark (w : World) (m : List UInt8) (t : TypeId) (fr : Nat × Nat) (hm : m.length ≤ maxLen) (cs : Array Value) (hcs : cs = (bvals m).toArray) : Sl (w.alloc (.cells cs t fr)) (.slice (some ⟨w.heap.size, 0, none⟩) m.length m.length) m := by
  subst hcs
  refine ⟨_, _, rfl, fun e => by simp at e, Nat.le_refl _, hm, fun i hi => ⟨_, _, rfl, ?_⟩⟩
  rw [World.cell?_alloc_mark, Nat.zero_add]
  simpa using bvals_get hi

theorem enc300 : enc (300 : Int).toNat = [172, 2] := by decide +kernel
theorem rv300 : rvVal (rv [172, 2]) = .tuple #[.int .u64 300, .int .i64 2, .int .i64 0] := by rfl
theorem rv128 : rvVal (rv [128, 0]) = .tuple #[.int .u64 0, .int .i64 0, .int .i64 4] := by rfl
theorem rs_ab : rs [2, 97, 98, 99] 9 = ([97, 98], 3, 0) := by decide +kernel
theorem vr_5 : vr [5, 1, 0] 0 9 = (5, 1, 0) := by decide +kernel

theorem Sl.grownRdr {w w' : World} {rb : Nat} {v : Value} {l m : List UInt8} {k : Nat} {er : Int} (h : Sl w v l) (hr : RdrAt w rb m k er) (hg : w.grownBy w' (some rb)) : Sl w' v l := by
  obtain ⟨ao, cap, rfl, h2, h3, h4, h5⟩ := h
  refine ⟨ao, cap, rfl, h2, h3, h4, fun i hi => ?_⟩
  obtain ⟨b, off, rfl, hc⟩ := h5 i hi
  refine ⟨b, off, rfl, ?_⟩
  by_cases hb : b = rb
  · subst hb; exact (hr.noByte hc).elim
  · exact hg.cell hc (by simpa using hb)
theorem below_rdr {w w1 w2 : World} {rb : Nat} (hb : Below w.heap.size w w1) (hg : w1.grownBy w2 (some rb)) (hr : w.heap.size ≤ rb) : Below w.heap.size w w2 :=
  hb.grown hg hb.size (fun k hk => by simp at hk; omega)

set_option maxHeartbeats 1000000 in
theorem begun_any (w : World) : Calls Try.prog 9 #[] w fun e w' => e = .returned (.bool true) ∧ Below w.heap.size w w' := by
  have kc := fun (w : World) (C : Array Value) (n c : Nat) => Lib.run_convert_bytes_const (P := Try.prog) w 28 5 C n c Try.underlying28 Try.underlying5
  go_enter Try.func9, Try.ntmps9
  go_wp2_with fail
  refine (varint_any _ 300 (by decide) (by decide)).mono ?_
  rintro e w1 ⟨v1, rfl, ho1, hb1⟩
  rw [enc300] at ho1
  have hs1 := Sl.of_owns ho1
  clear ho1
  go_wp2_with fail
  refine (readVarint_any _ _ _ hs1).mono ?_
  rintro e w2 ⟨rfl, rfl⟩
  rw [rv300]
  go_wp2_with fail
  refine (readVarint_any (w2.alloc (.cells #[.int .u8 128, .int .u8 0] 5)) _ [128, 0] (sl_lit w2 [128, 0] 5 (by decide) _ rfl)).mono ?_
  rintro e w3 ⟨rfl, hw⟩
  rw [rv128]
  have hb3 : Below w.heap.size w w3 := by rw [hw]; exact hb1.trans ((box_below w2 _).mono hb1.size)
  have hs3 : Sl w3 v1 [172, 2] := by rw [hw]; exact Below.sl (box_below w2 _) hs1
  clear hb1 hs1 hw
  go_wp2_with fail
  refine (readString_any (w3.alloc (.cells #[.int .u8 2, .int .u8 97, .int .u8 98, .int .u8 99] 5)) _ [2, 97, 98, 99] 9 (sl_lit w3 [2, 97, 98, 99] 5 (by decide) _ rfl) (by decide) (by decide) (by decide)).mono ?_
  rintro e w4 ⟨v4, rfl, ho4, hb4⟩
  rw [rs_ab] at ho4 ⊢
  have hb34 : Below w3.heap.size w3 w4 := (box_below w3 _).trans (hb4.mono (by simp))
  have hb5 := hb3.trans (hb34.mono hb3.size)
  have hs5 := Below.sl hb34 hs3
  have ha5 : Sl w4 v4 [97, 98] := Sl.of_owns ho4
  clear hb3 hs3 ho4 hb4 hb34
  go_wp2_with fail
  refine (newReader_any (w4.alloc (.cells #[.int .u8 5, .int .u8 1, .int .u8 0] 5)) _ [5, 1, 0] (sl_lit w4 [5, 1, 0] 5 (by decide) _ rfl) (by decide)).mono ?_
  rintro e w5 ⟨rb, rfl, hr, hb, hrb⟩
  have hb45 : Below w4.heap.size w4 w5 := (box_below w4 _).trans (hb.mono (by simp))
  have hb6 := hb5.trans (hb45.mono hb5.size)
  have hs6 := Below.sl hb45 hs5
  have ha6 := Below.sl hb45 ha5
  have hrw : w.heap.size ≤ rb := by have := hb5.size; simp at hrb; omega
  clear hb5 hs5 ha5 hb hb45 hrb
  go_wp2_with fail
  refine (Varint_good w5 rb [5, 1, 0] 0 9 hr (by decide) (by rw [vr_5])).mono ?_
  rintro e w6 ⟨rfl, hr6, hg6⟩
  rw [vr_5] at hr6 ⊢
  have hb7 := below_rdr hb6 hg6 hrw
  have hs7 := hs6.grownRdr hr hg6
  have ha7 := ha6.grownRdr hr hg6
  clear hb6 hs6 ha6 hr hg6
  go_wp2_with fail
  refine (Fixed32_bad w6 rb [5, 1, 0] 1 0 2 hr6 (fun u hu => take_short u rb [5, 1, 0] 1 4 hu (by decide))).mono ?_
  rintro e w7 ⟨rfl, hr7, hg7⟩
  have hb8 := below_rdr hb7 hg7 hrw
  have hs8 := hs7.grownRdr hr6 hg7
  have ha8 := ha7.grownRdr hr6 hg7
  clear hb7 hs7 ha7 hr6 hg7
  go_wp2_with fail
  refine (err_any w7 rb [5, 1, 0] 1 2 hr7).mono ?_
  rintro e w8 ⟨rfl, hq8⟩
  rw [if_neg (by decide)]
  have hr8 := hr7.below (hq8.below _)
  have hs9 := hq8.sl hs8
  have ha9 := hq8.sl ha8
  have hb9 := hb8.trans (hq8.below _)
  clear hr7 hs8 ha8 hb8 hq8
  go_wp2_with fail
  refine (eq_sl (w8.alloc (.cells #[.int .u8 172, .int .u8 2] 5)) _ _ [172, 2] [172, 2] (Below.sl (box_below w8 _) hs9) (sl_lit w8 [172, 2] 5 (by decide) _ rfl)).mono ?_
  rintro e w9 ⟨rfl, hq9⟩
  rw [show decide (([172, 2] : List UInt8) = [172, 2]) = true by decide]
  have hbb : Below w8.heap.size w8 w9 := (box_below w8 _).trans (hq9.below _)
  have hr10 := hr8.below hbb
  have ha10 := Below.sl hbb ha9
  have hb10 := hb9.trans (hbb.mono hb9.size)
  clear hr8 hs9 ha9 hb9 hq9 hbb
  go_wp2_with fail
  refine (eq_sl (w9.alloc (.cells #[.int .u8 97, .int .u8 98] 5 (2, 3))) _ _ [97, 98] [97, 98] (Below.sl (box_below w9 _) ha10) (sl_lit_mark w9 [97, 98] 5 (2, 3) (by decide) _ rfl)).mono ?_
  rintro e w10 ⟨rfl, hq11⟩
  rw [show decide (([97, 98] : List UInt8) = [97, 98]) = true by decide]
  have hbb : Below w9.heap.size w9 w10 := (box_below w9 _).trans (hq11.below _)
  have hr11 := hr10.below hbb
  have hb11 := hb10.trans (hbb.mono hb10.size)
  clear hr10 ha10 hb10 hq11 hbb
  go_wp2_with fail
  refine (left_any w10 rb [5, 1, 0] 1 2 hr11).mono ?_
  rintro e w11 ⟨rfl, hq12⟩
  have hb12 := hb11.trans (hq12.below _)
  clear hr11 hb11 hq12
  go_wp2
  go_ret
  exact ⟨rfl, hb12⟩
#print axioms begun_any
end Go.Proofs.Ytgccfpmjcpoddaa
