/-
  flumelaw8.begun.
-/
import Derived.Test.YtenckagpaecnoaaDoorNmJ
namespace Go.Proofs.YtenckagpaecnoaaDoor.Nm
open Go.RowKit
set_option maxRecDepth 100000
set_option linter.unusedVariables false

theorem seg255 : segV (255 : Int) = .tuple #[.string ⟨#[115, 101, 103, 45, 48, 48, 48, 48, 48, 48, 48, 48, 48, 48, 48, 48, 48, 48, 102, 102, 46, 108, 111, 103]⟩, .int .i64 0] := by
  have := segV_big (n := 255) (by omega)
  rw [show ((255 : Nat) : Int) = 255 from rfl] at this
  rw [this]
  have e : segL 255 = [115, 101, 103, 45, 48, 48, 48, 48, 48, 48, 48, 48, 48, 48, 48, 48, 48, 48, 102, 102, 46, 108, 111, 103] := by decide +kernel
  rw [e]
  rfl
theorem num255 : numB [115, 101, 103, 45, 48, 48, 48, 48, 48, 48, 48, 48, 48, 48, 48, 48, 48, 48, 102, 102, 46, 108, 111, 103] = 255 := by decide +kernel
theorem kindC : kindB [99, 97, 116, 97, 108, 111, 103] = 2 := by decide +kernel
theorem kindN : kindB [99, 97, 116, 97, 108, 111, 103, 45, 110, 101, 120, 116] = 3 := by decide +kernel
theorem kindS : kindB [115, 101, 103, 109, 101, 110, 116, 45, 110, 101, 120, 116] = 3 := by decide +kernel
theorem ord4 : (ordR [[98], [97], [98], [66]]).length = 2 := by decide +kernel
theorem number255 (w : World) : Calls Tryd.prog 6 #[.string ⟨#[115, 101, 103, 45, 48, 48, 48, 48, 48, 48, 48, 48, 48, 48, 48, 48, 48, 48, 102, 102, 46, 108, 111, 103]⟩] w fun e w' => e = .returned (.tuple #[.int .i64 255, .bool true]) ∧ w' = w := by
  have := number_any ⟨#[115, 101, 103, 45, 48, 48, 48, 48, 48, 48, 48, 48, 48, 48, 48, 48, 48, 48, 102, 102, 46, 108, 111, 103]⟩ w (by decide)
  rw [segB_of num255, num255] at this
  exact this
theorem kindC_any (w : World) : Calls Tryd.prog 10 #[.string ⟨#[99, 97, 116, 97, 108, 111, 103]⟩] w fun e w' => e = .returned (.int .i64 2) ∧ w' = w := by
  have := kind_any ⟨#[99, 97, 116, 97, 108, 111, 103]⟩ w (by decide)
  rw [kindC] at this
  exact this
theorem kindN_any (w : World) : Calls Tryd.prog 10 #[.string ⟨#[99, 97, 116, 97, 108, 111, 103, 45, 110, 101, 120, 116]⟩] w fun e w' => e = .returned (.int .i64 3) ∧ w' = w := by
  have := kind_any ⟨#[99, 97, 116, 97, 108, 111, 103, 45, 110, 101, 120, 116]⟩ w (by decide)
  rw [kindN] at this
  exact this
theorem kindS_any (w : World) : Calls Tryd.prog 10 #[.string ⟨#[115, 101, 103, 109, 101, 110, 116, 45, 110, 101, 120, 116]⟩] w fun e w' => e = .returned (.int .i64 3) ∧ w' = w := by
  have := kind_any ⟨#[115, 101, 103, 109, 101, 110, 116, 45, 110, 101, 120, 116]⟩ w (by decide)
  rw [kindS] at this
  exact this
theorem row4 (w : World) (ls : List (List UInt8)) (cs : Array Value) (hcs : cs = (ls.map enc8).toArray) (hm : ls.length ≤ 200) (n : Nat) (hn : ls.length = n) : Row (w.alloc (.cells cs 9)) (.slice (some ⟨w.heap.size, 0, none⟩) n n) (ls.map enc8) := by
  subst hcs hn
  refine ⟨_, _, by rw [List.length_map], fun e => by simp at e, by rw [List.length_map]; exact Nat.le_refl _, by unfold maxLen; omega, fun i hi => ⟨_, _, rfl, ?_⟩⟩
  simp only [World.cell?, heap_alloc_new, Nat.zero_add]
  simp at hi
  simp [hi]
theorem order4 (w : World) : Calls Tryd.prog 14 #[.slice (some ⟨w.heap.size, 0, none⟩) 4 4] (w.alloc (.cells #[.string ⟨#[98]⟩, .string ⟨#[97]⟩, .string ⟨#[98]⟩, .string ⟨#[66]⟩] 9)) fun e w' => ∃ p c, e = .returned (.slice p 2 c) ∧ Below w.heap.size w w' := by
  have := order_all (w.alloc (.cells #[.string ⟨#[98]⟩, .string ⟨#[97]⟩, .string ⟨#[98]⟩, .string ⟨#[66]⟩] 9)) _ [[98], [97], [98], [66]] (row4 w [[98], [97], [98], [66]] _ rfl (by decide) 4 rfl) (by simp [maxLen]) (by decide)
  rw [ord4] at this
  refine this.mono ?_
  rintro e w' ⟨v', rfl, ho, hb⟩
  obtain ⟨g, c, rfl, _⟩ := ho.form (by omega)
  exact ⟨_, c, rfl, (box_below _ _).trans (hb.mono (by simp))⟩
set_option maxHeartbeats 2000000 in
theorem begun8_any (w : World) (hT : Tab16 w) : Calls Tryd.prog 5 #[] w fun e w' => e = .returned (.bool true) ∧ Below w.heap.size w w' := by
  have hs := segment_any w 255 (by omega) hT
  rw [seg255] at hs
  replace hs := hide hs
  go_enter Tryd.func5, Tryd.ntmps5
  go_wp2_with fail
  refine hs.out.mono ?_
  rintro e w1 ⟨rfl, b1⟩
  replace b1 := hide b1
  clear hs
  have hn := hide (number255 w1)
  go_wp2_with fail
  refine hn.out.mono ?_
  rintro e w2 ⟨rfl, rfl⟩
  clear hn
  have ho := hide (order4 w2)
  go_wp2_with fail
  refine ho.out.mono ?_
  rintro e w3 ⟨p, c, rfl, b3⟩
  have b4 := hide (b1.out.trans (b3.mono b1.out.size))
  clear ho b3 b1
  have kC : kindB [99, 97, 116, 97, 108, 111, 103] = 2 := kindC
  have kN : kindB [99, 97, 116, 97, 108, 111, 103, 45, 110, 101, 120, 116] = 3 := kindN
  have kS : kindB [115, 101, 103, 109, 101, 110, 116, 45, 110, 101, 120, 116] = 3 := kindS
  go_wp2_with (first
    | (go_at_call 10; refine (kind_any _ _ (by decide)).mono ?_; rintro e w' ⟨rfl, rfl⟩)
    | go_in)
  go_ret
  exact ⟨rfl, b4.out⟩
#print axioms begun8_any
end Go.Proofs.YtenckagpaecnoaaDoor.Nm
