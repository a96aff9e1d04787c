/-
  Package name, and the document's: which bytes are letters or digits, which texts may be names.
-/
import Derived.Test.YtdelknejmapeaaaNmA
import Derived.Test.YtdelknejmapeaaaProg
import Derived.Test.YtdelknejmapeaaaGen
namespace Go.Proofs.Ytdelknejmapeaaa.Nm
open Go.RowKit
set_option maxRecDepth 100000
set_option linter.unusedVariables false

theorem hide {p : Prop} (h : p) : Hid p := h
theorem plain_any (c : UInt8) (w : World) : Calls Try.prog 66 #[.int .u8 (c.toNat : Int)] w fun e w' => e = .returned (.bool (plc c)) ∧ w' = w := by
  by_cases h1 : 97 ≤ (c.toNat : Int) <;> by_cases h2 : (c.toNat : Int) ≤ 122 <;> by_cases h3 : 48 ≤ (c.toNat : Int) <;> by_cases h4 : (c.toNat : Int) ≤ 57
  all_goals
    go_enter Try.func66, Try.ntmps66
    go_wp2
    go_ret
    exact ⟨ret_bool (by simp [plc, h1, h2, h3, h4]), rfl⟩
theorem all_snoc (s : ByteArray) (k : Nat) (h : k < s.size) (ha : (s.data.toList.take k).all okc = true) (hc : okc s[k] = true) : (s.data.toList.take (k + 1)).all okc = true := by
  rw [List.take_succ_eq_append_getElem (by simpa using h), List.all_append, ha]
  simp only [Bool.true_and, List.all_cons, List.all_nil, Bool.and_true]
  exact hc
theorem all_not (s : ByteArray) (k : Nat) (h : k < s.size) (hc : okc s[k] = false) : may s.data.toList = false := by
  have : s.data.toList.all okc = false := by
    rw [List.all_eq_false]
    exact ⟨s[k], by simp [ByteArray.getElem_eq_getElem_data], by simp [hc]⟩
  unfold may
  rw [this]
  simp
theorem get0 (s : ByteArray) (h : 0 < s.size) : s.data.toList.getD 0 0 = s[0] := by
  rw [List.getD_eq_getElem?_getD, List.getElem?_eq_getElem (by simpa using h)]
  rfl
theorem getE (s : ByteArray) (h : 0 < s.size) : s.data.toList.getD (s.data.toList.length - 1) 0 = s[s.size - 1] := by
  rw [List.getD_eq_getElem?_getD, List.getElem?_eq_getElem (by simp; omega)]
  rfl
theorem may_all (s : ByteArray) (h1 : 0 < s.size) (h2 : s.size ≤ 64) (ha : s.data.toList.all okc = true) : may s.data.toList = (plc s[0] && plc (s[s.size - 1])) := by
  unfold may
  rw [ha, get0 s h1, getE s h1]
  have e : s.data.toList.length = s.size := by simp
  rw [e]
  simp [show 1 ≤ s.size by omega, h2]
theorem may_size (s : ByteArray) (h : s.size < 1 ∨ 64 < s.size) : may s.data.toList = false := by
  unfold may
  have e : s.data.toList.length = s.size := by simp
  rw [e]
  rcases h with h | h
  · simp [show ¬ 1 ≤ s.size by omega]
  · simp [show ¬ s.size ≤ 64 by omega]

set_option maxHeartbeats 2000000 in
theorem may_any (s : ByteArray) (w : World) (hs : s.size ≤ maxLen) : Calls Try.prog 53 #[.string s] w fun e w' => e = .returned (.bool (may s.data.toList)) ∧ w' = w := by
  unfold maxLen at hs
  by_cases h0 : s.size < 1
  · have i0 : (s.size : Int) < 1 := by omega
    go_enter Try.func53, Try.ntmps53
    go_wp2
    go_ret
    exact ⟨ret_bool (may_size s (.inl h0)).symm, rfl⟩
  by_cases h1 : 64 < s.size
  · have i0 : ¬ (s.size : Int) < 1 := by omega
    have i1 : (s.size : Int) > 64 := by omega
    go_enter Try.func53, Try.ntmps53
    go_wp2
    go_ret
    exact ⟨ret_bool (may_size s (.inr h1)).symm, rfl⟩
  have i0 : ¬ (s.size : Int) < 1 := by omega
  have i1 : ¬ (s.size : Int) > 64 := by omega
  go_enter Try.func53, Try.ntmps53
  go_wp2
  go_loop [14] (fun i => ∃ k : Nat, k ≤ s.size ∧ i = .int .i64 k ∧ Hid ((s.data.toList.take k).all okc = true)) (fun i => s.size - (intOf i).toNat)
  case atStart => exact ⟨0, Nat.zero_le _, rfl, rfl⟩
  case round =>
    obtain ⟨k, hk, rfl, ha⟩ := hrel
    by_cases hlt : k < s.size
    · by_cases hp : plc s[k] = true
      · go_wp2_with (go_at_call 66; refine (plain_any _ _).mono ?_; rintro e w' ⟨rfl, rfl⟩)
        go_round
        case rel => exact ⟨k + 1, by omega, by go_num, all_snoc s k hlt ha.out (by simp [okc, hp])⟩
        case measure => simp [intOf]; omega
      · replace hp : plc s[k] = false := by simpa using hp
        by_cases hd1 : (s[k].toNat : Int) = 46
        · have hd1' : ((s[k].toNat : Int) != 46) = false := by simp [hd1]
          have hok : Hid (okc s[k] = true) := by show _ = _; simp [okc, hd1]
          clear hd1
          go_wp2_with (go_at_call 66; refine (plain_any _ _).mono ?_; rintro e w' ⟨rfl, rfl⟩)
          go_round
          case rel => exact ⟨k + 1, by omega, by go_num, all_snoc s k hlt ha.out hok.out⟩
          case measure => simp [intOf]; omega
        · have hd1' : ((s[k].toNat : Int) != 46) = true := by simpa using hd1
          by_cases hd2 : (s[k].toNat : Int) = 45
          · have hd2' : ((s[k].toNat : Int) != 45) = false := by simp [hd2]
            have hok : Hid (okc s[k] = true) := by show _ = _; simp [okc, hd2]
            clear hd2 hd1
            go_wp2_with (go_at_call 66; refine (plain_any _ _).mono ?_; rintro e w' ⟨rfl, rfl⟩)
            go_round
            case rel => exact ⟨k + 1, by omega, by go_num, all_snoc s k hlt ha.out hok.out⟩
            case measure => simp [intOf]; omega
          · have hd2' : ((s[k].toNat : Int) != 45) = true := by simpa using hd2
            have hok : Hid (okc s[k] = false) := by show _ = _; simp [okc, hd2, hd1, hp]
            clear hd2 hd1
            go_wp2_with (go_at_call 66; refine (plain_any _ _).mono ?_; rintro e w' ⟨rfl, rfl⟩)
            go_ret
            exact ⟨ret_bool (all_not s k hlt hok.out).symm, rfl⟩
    · obtain rfl : k = s.size := by omega
      have hm := may_all s (by omega) (by omega) (by have := ha.out; rwa [List.take_of_length_le (by simp)] at this)
      have z0 : 0 < s.size := by omega
      cases hp0 : plc s[0] with
      | false =>
        have hm' : Hid (may s.data.toList = false) := by show _ = _; rw [hm, hp0]; rfl
        clear hm
        go_wp2_with (go_at_call 66; refine (plain_any _ _).mono ?_; rintro e w' ⟨rfl, rfl⟩)
        go_ret
        exact ⟨ret_bool (by first | exact hm'.out.symm | (rw [hm'.out])), rfl⟩
      | true =>
        have hm' : Hid (may s.data.toList = plc (s[s.size - 1])) := by show _ = _; rw [hm, hp0]; rfl
        clear hm
        go_wp2_with (go_at_call 66; refine (plain_any _ _).mono ?_; rintro e w' ⟨rfl, rfl⟩)
        go_ret
        exact ⟨ret_bool (by first | exact hm'.out.symm | (rw [hm'.out]; simp)), rfl⟩
#print axioms may_any

end Go.Proofs.Ytdelknejmapeaaa.Nm
