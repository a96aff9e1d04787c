/-
  What every statement of the third layer asks ahead (flumelaw3.begun) is answered true.
-/
import Derived.Test.YtmmmpdfoigkljaaGreatDoorRlQ
import Derived.Test.YtmmmpdfoigkljaaGreatDoorRlI
namespace Go.Proofs.YtmmmpdfoigkljaaGreatDoor.Rl
open Go.RowKit
set_option maxRecDepth 100000

theorem Row.new (w : World) (vs : List Value) (cs : Array Value) (T : TypeId) (n : Nat) (hn : vs.length = n) (hm : n ≤ maxLen) (hcs : cs = vs.toArray) : Row (w.alloc (.cells cs T)) (.slice (some ⟨w.heap.size, 0, none⟩) n n) vs := by
  subst hn
  refine ⟨some ⟨w.heap.size, 0, none⟩, vs.length, rfl, fun e => by simp at e, Nat.le_refl _, hm, fun i hi => ⟨w.heap.size, 0, rfl, ?_⟩⟩
  rw [World.cell?_alloc_new, hcs]
  simp [hi]
theorem mathNaN_any (w : World) : Calls Tryz.prog 19 #[] w fun e w' => e = .returned (.float .f64 9221120237041090561) ∧ w' = w := by
  have k2 := of_run
  go_enter Tryz.func19, Tryz.ntmps19
  go_wp2
  go_ret
  exact ⟨rfl, rfl⟩
theorem copysign_0 (w : World) : Calls Tryz.prog 22 #[.float .f64 0, .float .f64 13830554455654793216] w fun e w' => e = .returned (.float .f64 9223372036854775808) ∧ w' = w := by
  have k1 := bits_run
  have k2 := of_run
  have k3 : bits .andNot .u64 0 9223372036854775808 = 0 := by decide +kernel
  have k4 : bits .and .u64 13830554455654793216 9223372036854775808 = 9223372036854775808 := by decide +kernel
  have k5 : bits .or .u64 0 9223372036854775808 = 9223372036854775808 := by decide +kernel
  go_enter Tryz.func22, Tryz.ntmps22
  go_wp2
  go_ret
  exact ⟨rfl, rfl⟩
def Laid (w : World) : Prop := Lays w ∧ Tab w ∧ Ten w
theorem Laid.below {w w' : World} (h : Laid w) (hb : Below w.heap.size w w') : Laid w' := by
  obtain ⟨h1, ⟨h2, h3⟩, h4⟩ := h
  exact ⟨(hb.cell (lt_of_cell h1)).trans h1, ⟨(hb.cell (lt_of_cell h2)).trans h2, (hb.cell (lt_of_cell h3)).trans h3⟩, (hb.cell (lt_of_cell h4)).trans h4⟩
theorem min_lit : minB [4607182418800017408, 9221120237041090561, 13830554455654793216] = 13830554455654793216 := by decide +kernel
theorem class_lit : classB 9221120237041090561 = 1 := by decide +kernel
theorem cmp_lit : cmpB 9223372036854775808 0 = -1 := by decide +kernel
theorem key_lit : keyB 0 = 9223372036854775808 := by decide +kernel
theorem sum_lit : sumB [4607182418800017408, 6103021453049119613, 4607182418800017408, 15326393489903895421] = 4611686018427387904 := by decide +kernel
theorem begun_any (w : World) (hL : Laid w) : Calls Tryz.prog 5 #[] w fun e w' => e = .returned (.bool true) ∧ Below w.heap.size w w' := by
  have o1 : FloatKind.f64.format.order 13830554455654793216 13830554455654793216 = some Ordering.eq := by decide +kernel
  have o2 : FloatKind.f64.format.order 4611686018427387904 4611686018427387904 = some Ordering.eq := by decide +kernel
  go_enter Tryz.func5, Tryz.ntmps5
  go_wp2_with fail
  refine (read_m0 _ hL.1).mono ?_
  rintro e w1 ⟨rfl, hb1⟩
  replace hL : Hid (Laid w1) := hL.below hb1
  replace hb1 : Hid (Below w.heap.size w w1) := hb1
  go_wp2_with fail
  refine (mathNaN_any _).mono ?_
  rintro e w2 ⟨rfl, rfl⟩
  go_wp2_with fail
  refine (min_any _ _ [4607182418800017408, 9221120237041090561, 13830554455654793216] (Row.new _ _ _ _ 3 rfl (by decide) rfl) (by intro b hb; simp at hb; omega)).mono ?_
  rintro e w3 ⟨rfl, hw3⟩
  rw [min_lit]
  have hb3 : Hid (Below w.heap.size w w3) := by rw [hw3]; exact hb1.out.alloc hb1.out.size _
  have hL3 : Hid (Laid w3) := by rw [hw3]; exact hL.out.below (box_below _ _)
  clear hw3 hL hb1
  go_wp2_with fail
  refine (mathNaN_any _).mono ?_
  rintro e w2 ⟨rfl, rfl⟩
  go_wp2_with fail
  refine (class_any _ _ (by omega)).mono ?_
  rintro e w2 ⟨rfl, rfl⟩
  rw [class_lit]
  go_wp2_with fail
  refine (copysign_0 _).mono ?_
  rintro e w2 ⟨rfl, rfl⟩
  go_wp2_with fail
  refine (compare_any _ _ _ (by omega) (by omega)).mono ?_
  rintro e w2 ⟨rfl, rfl⟩
  rw [cmp_lit]
  go_wp2_with fail
  refine (copysign_0 _).mono ?_
  rintro e w2 ⟨rfl, rfl⟩
  go_wp2_with fail
  refine (bits_any _ _ _).mono ?_
  rintro e w2 ⟨rfl, rfl⟩
  go_wp2_with fail
  refine (sum_any _ _ [4607182418800017408, 6103021453049119613, 4607182418800017408, 15326393489903895421] (Row.new _ _ _ _ 4 rfl (by decide) rfl) (by intro b hb; simp at hb; omega)).mono ?_
  rintro e w4 ⟨rfl, hb4⟩
  rw [sum_lit]
  have hb5 : Hid (Below w.heap.size w w4) := (hb3.out.alloc hb3.out.size _).trans (hb4.mono (by have := hb3.out.size; simp; omega))
  have hL5 : Hid (Laid w4) := (hL3.out.below (box_below _ _)).below hb4
  clear hb4 hb3 hL3
  go_wp2_with fail
  refine (text_half _ hL5.out.2.1 hL5.out.2.2).mono ?_
  rintro e w5 ⟨rfl, hb6⟩
  have hb7 : Hid (Below w.heap.size w w5) := hb5.out.trans (hb6.mono hb5.out.size)
  clear hb6
  unfold half
  go_wp2_with fail
  refine (key_any _ 0 (by omega)).mono ?_
  rintro e w6 ⟨rfl, rfl⟩
  rw [key_lit]
  go_wp2
  go_ret
  exact ⟨rfl, hb7.out⟩
#print axioms begun_any
end Go.Proofs.YtmmmpdfoigkljaaGreatDoor.Rl
