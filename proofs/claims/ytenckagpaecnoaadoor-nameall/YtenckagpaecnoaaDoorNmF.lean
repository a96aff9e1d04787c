/-
  Kinds of names, the program's and the document's.
-/
import Derived.Test.YtenckagpaecnoaaDoorNmE
namespace Go.Proofs.YtenckagpaecnoaaDoor.Nm
open Go.RowKit
set_option maxRecDepth 100000
set_option linter.unusedVariables false

theorem kind_any (s : ByteArray) (w : World) (hs : s.size ≤ maxLen) : Calls Tryd.prog 10 #[.string s] w fun e w' => e = .returned (.int .i64 ((kindB s.data.toList : Nat) : Int)) ∧ w' = w := by
  have hn := hide (fun q => number_any s q hs)
  have hm := hide (fun q => may_any s q hs)
  cases h1 : segB s.data.toList with
  | true =>
    rw [h1] at hn
    have hk : Hid (kindB s.data.toList = 1) := by show _ = _; unfold kindB; rw [if_pos (by simpa [segB] using h1)]
    clear h1
    go_enter Tryd.func10, Tryd.ntmps10
    go_wp2_with (first | (go_at_call 6; refine (hn.out _).mono ?_; rintro e w' ⟨rfl, rfl⟩) | (go_at_call 8; refine (hm.out _).mono ?_; rintro e w' ⟨rfl, rfl⟩))
    go_ret
    rw [hk.out]
    exact ⟨rfl, rfl⟩
  | false =>
    rw [h1] at hn
    have hnk : kindB s.data.toList = if s.data.toList = [99, 97, 116, 97, 108, 111, 103] then 2
      else if s.data.toList = [99, 97, 116, 97, 108, 111, 103, 45, 110, 101, 120, 116] ∨ s.data.toList = [115, 101, 103, 109, 101, 110, 116, 45, 110, 101, 120, 116] then 3
      else if may s.data.toList = true then 4 else 0 := by
      conv => lhs; unfold kindB
      rw [if_neg (by simpa [segB] using h1)]
    replace hnk := hide hnk
    clear h1
    go_enter Tryd.func10, Tryd.ntmps10
    go_wp2_with (first | (go_at_call 6; refine (hn.out _).mono ?_; rintro e w' ⟨rfl, rfl⟩) | (go_at_call 8; refine (hm.out _).mono ?_; rintro e w' ⟨rfl, rfl⟩))
    all_goals
      go_ret
      refine ⟨ret_int ?_, rfl⟩
      have hk := hnk.out
      rw [← tl] at *
      clear hn hm hnk
      rw [hk]
      simp_all
#print axioms kind_any
theorem may_lits : may [99, 97, 116, 97, 108, 111, 103] = true ∧ may [99, 97, 116, 97, 108, 111, 103, 45, 110, 101, 120, 116] = true ∧ may [115, 101, 103, 109, 101, 110, 116, 45, 110, 101, 120, 116] = true := by decide
theorem refKind_any (s : ByteArray) (w : World) (hs : s.size ≤ maxLen) : Calls Tryd.prog 11 #[.string s] w fun e w' => e = .returned (.int .i64 ((kindB s.data.toList : Nat) : Int)) ∧ Below w.heap.size w w' := by
  have hn := hide (refNumber_any s w hs)
  have hm := hide (fun q => refMay_any s q hs)
  cases h1 : segB s.data.toList with
  | true =>
    rw [h1] at hn
    have h1' : numB s.data.toList ≠ 0 := by simpa [segB] using h1
    have hk : Hid (kindB s.data.toList = 1) := by show _ = _; unfold kindB; rw [if_pos h1']
    rw [may_num h1'] at hm
    clear h1 h1'
    go_enter Tryd.func11, Tryd.ntmps11
    go_wp2_with (first | (go_at_call 7; refine hn.out.mono ?_; rintro e w2 ⟨rfl, hb⟩) | (go_at_call 9; refine (hm.out _).mono ?_; rintro e w' ⟨rfl, rfl⟩))
    go_ret
    rw [hk.out]
    exact ⟨rfl, hb⟩
  | false =>
    rw [h1] at hn
    have hnk : kindB s.data.toList = if may s.data.toList = true then (if s.data.toList = [99, 97, 116, 97, 108, 111, 103] then 2
      else if s.data.toList = [99, 97, 116, 97, 108, 111, 103, 45, 110, 101, 120, 116] ∨ s.data.toList = [115, 101, 103, 109, 101, 110, 116, 45, 110, 101, 120, 116] then 3
      else 4) else 0 := by
      conv => lhs; unfold kindB
      rw [if_neg (by simpa [segB] using h1)]
      obtain ⟨m1, m2, m3⟩ := may_lits
      by_cases e1 : s.data.toList = [99, 97, 116, 97, 108, 111, 103]
      · rw [if_pos e1, e1, if_pos m1, if_pos rfl]
      · rw [if_neg e1]
        by_cases e2 : s.data.toList = [99, 97, 116, 97, 108, 111, 103, 45, 110, 101, 120, 116] ∨ s.data.toList = [115, 101, 103, 109, 101, 110, 116, 45, 110, 101, 120, 116]
        · rw [if_pos e2, if_neg e1, if_pos e2, if_pos]
          rcases e2 with e2 | e2 <;> rw [e2] <;> assumption
        · rw [if_neg e2, if_neg e1, if_neg e2]
    replace hnk := hide hnk
    clear h1
    cases h2 : may s.data.toList with
    | false =>
      have hk : Hid (kindB s.data.toList = 0) := by show _ = _; rw [hnk.out, h2]; rfl
      rw [h2] at hm
      clear h2 hnk
      go_enter Tryd.func11, Tryd.ntmps11
      go_wp2_with (first | (go_at_call 7; refine hn.out.mono ?_; rintro e w2 ⟨rfl, hb⟩) | (go_at_call 9; refine (hm.out _).mono ?_; rintro e w' ⟨rfl, rfl⟩))
      go_ret
      rw [hk.out]
      exact ⟨rfl, hb⟩
    | true =>
      have hk := hnk.out
      rw [h2, if_pos rfl] at hk
      replace hk := hide hk
      rw [h2] at hm
      clear h2 hnk
      go_enter Tryd.func11, Tryd.ntmps11
      go_wp2_with (first | (go_at_call 7; refine hn.out.mono ?_; rintro e w2 ⟨rfl, hb⟩) | (go_at_call 9; refine (hm.out _).mono ?_; rintro e w' ⟨rfl, rfl⟩))
      all_goals
        go_ret
        refine ⟨ret_int ?_, hb⟩
        have hk := hk.out
        rw [← tl] at *
        clear hn hm hb
        rw [hk]
        simp_all
#print axioms refKind_any
end Go.Proofs.YtenckagpaecnoaaDoor.Nm
