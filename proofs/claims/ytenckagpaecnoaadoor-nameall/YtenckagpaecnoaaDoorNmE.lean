/-
  The document's own Segment and Number of names.
-/
import Derived.Test.YtenckagpaecnoaaDoorNmD
import Derived.Deep.QuietTactic
import Derived.BigQuiet
namespace Go.Proofs.YtenckagpaecnoaaDoor.Nm
open Go.RowKit
set_option maxRecDepth 100000
set_option linter.unusedVariables false

theorem hexHd : ∀ d : Fin 16, (⟨#[48, 49, 50, 51, 52, 53, 54, 55, 56, 57, 97, 98, 99, 100, 101, 102]⟩ : ByteArray).data.toList[d.val]? = some (hd d.val) := by decide +kernel
theorem hexHd' (d : Nat) (h : d < 16) (h' : d < (⟨#[48, 49, 50, 51, 52, 53, 54, 55, 56, 57, 97, 98, 99, 100, 101, 102]⟩ : ByteArray).size) : (⟨#[48, 49, 50, 51, 52, 53, 54, 55, 56, 57, 97, 98, 99, 100, 101, 102]⟩ : ByteArray)[d] = hd d := by
  have := hexHd ⟨d, h⟩
  rw [List.getElem?_eq_getElem (by simp; omega)] at this
  exact Option.some.inj this
theorem hexk_split (k n : Nat) (h : k < 16) : hexk (16 - k) n = hexk (16 - (k + 1)) (n / 16) ++ [hd (n % 16)] := by
  rw [show 16 - k = (16 - (k + 1)) + 1 by omega, hexk]

set_option maxHeartbeats 2000000 in
theorem refSegment_any (w : World) (n : Int) (hn : n < 9223372036854775808) : Calls Tryd.prog 13 #[.int .i64 n] w fun e w' => e = .returned (segV n) ∧ Below w.heap.size w w' := by
  by_cases h1 : n < 1
  · rw [segV_small h1]
    go_enter Tryd.func13, Tryd.ntmps13
    go_wp2
    go_ret2
    exact ⟨rfl, Below.refl _ _⟩
  · obtain ⟨m, rfl⟩ : ∃ m : Nat, n = (m : Int) := ⟨n.toNat, by omega⟩
    rw [segV_big (by omega)]
    have i0 : ¬ (m : Int) < 1 := h1
    clear h1
    replace hn : Hid ((m : Int) < 9223372036854775808) := hn
    go_enter Tryd.func13, Tryd.ntmps13
    go_wp2
    go_loopw [0, 4, 5] (fun x s i wr => ∃ (k q : Nat) (l : List UInt8), x = .int .i64 q ∧ s = .string (bs l) ∧ i = .int .i64 k ∧ k ≤ 16 ∧ l.length = k ∧ Hid (q ≤ m) ∧ Hid (hexk 16 m = hexk (16 - k) q ++ l) ∧ Hid (Below w.heap.size w wr)) (fun _ _ i _ => 16 - (intOf i).toNat)
    case atStart => exact ⟨0, m, [], rfl, rfl, rfl, by omega, rfl, Nat.le_refl _, by show _ = _; simp, Below.refl _ _⟩
    case round =>
      obtain ⟨k, q, l, rfl, rfl, rfl, hk, hl, hq, he, hb⟩ := hrel
      by_cases hlt : k < 16
      · have j0 : (k : Int) < 16 := by omega
        obtain ⟨d, hd'⟩ : ∃ d : Nat, Hid (q % 16 = d) := ⟨_, rfl⟩
        have hmod : (q : Int) % 16 = (d : Int) := by have := hd'.out; omega
        have d1 : (d : Int) < 16 := by omega
        have d0 : (0 : Int) ≤ (d : Int) := by omega
        have q0 : (0 : Int) ≤ (q : Int) := by omega
        have q1 : (q : Int) ≤ 9223372036854775807 := by have := hq.out; have := hn.out; omega
        have kc := conv_bs (wr.alloc (.cells #[.int .u8 ((hd d).toNat : Int)] 5)) (.slice (some ⟨wr.heap.size, 0, none⟩) 1 1) [hd d] (sl_lit wr [hd d] _ (by unfold maxLen; simp) _ rfl) (by simp)
        have hx := hexHd' d (by omega) (by simp [ByteArray.size]; omega)
        have s1 : ¬ 9223372036854775807 < (bs [hd d]).size + (bs l).size := by rw [bs_size, bs_size]; simp; omega
        have hl2 := hide hl
        clear hl
        go_wp2
        go_roundw
        case rel => exact ⟨k + 1, q / 16, hd d :: l, by go_num, by rw [bs_append]; rfl, by go_num, by omega, by have := hl2.out; simp; omega, by have := hq.out; show _ ≤ _; omega, by show _ = _; rw [he.out, hexk_split k q hlt, hd'.out]; simp, hb.out.alloc (by have := hb.out.size; omega) _⟩
        case measure => simp [intOf]; omega
      · obtain rfl : k = 16 := by omega
        have j0 : ¬ ((16 : Nat) : Int) < 16 := by omega
        have hs := bs_size l
        rw [hl] at hs
        have s1 : ¬ 9223372036854775807 < 4 + (bs l).size := by omega
        have s2 : ¬ 9223372036854775807 < 4 + (bs l).size + 4 := by omega
        have hj : Hid ((⟨#[115, 101, 103, 45]⟩ : ByteArray) ++ bs l ++ (⟨#[46, 108, 111, 103]⟩ : ByteArray) = bs (segL m)) := by
          show _ = _
          rw [segL, he.out, ← bs_append, ← bs_append]
          rfl
        clear hs hl
        go_wp2
        go_ret2
        rw [← hj.out]
        exact ⟨rfl, hb.out⟩
#print axioms refSegment_any

/-- Which of the first j digits c is; -1: none. -/
def fnd (c : UInt8) (j : Nat) : Int := match dgv c with
  | some x => if x < j then (x : Int) else -1
  | none => -1
theorem fnd_zero (c : UInt8) : fnd c 0 = -1 := by unfold fnd; split <;> simp
theorem fnd_hit {c : UInt8} {j : Nat} (hj : j < 16) (h : hd j = c) : fnd c (j + 1) = (j : Int) := by
  have := dgv_hd hj
  rw [h] at this
  unfold fnd; rw [this]; simp
theorem fnd_miss {c : UInt8} {j : Nat} (hj : j < 16) (h : hd j ≠ c) : fnd c (j + 1) = fnd c j := by
  unfold fnd
  cases hd' : dgv c with
  | none => rfl
  | some x =>
    have := (hd_dgv hd').2
    have hne : x ≠ j := fun e => h (by rw [← e]; exact this)
    by_cases h1 : x < j
    · simp [h1, show x < j + 1 by omega]
    · simp [h1, show ¬ x < j + 1 by omega]
theorem fnd_end (c : UInt8) : fnd c 16 = match dgv c with | some x => (x : Int) | none => -1 := by
  unfold fnd
  cases hd' : dgv c with
  | none => rfl
  | some x => simp [(hd_dgv hd').1]
theorem mid_take (s : ByteArray) (k : Nat) (hk : k < 16) (hs : s.size = 24) : ((s.data.toList.drop 4).take 16).take (k + 1) = ((s.data.toList.drop 4).take 16).take k ++ [s[4 + k]'(by omega)] := by
  have e : s.data.toList.length = 24 := by simpa using hs
  rw [List.take_succ_eq_append_getElem (by simp; omega)]
  congr 2
  simp
  rfl

theorem wrap_hi (n : Int) (h0 : 9223372036854775808 ≤ n) (h1 : n < 18446744073709551616) : IntKind.i64.wrap n = n - 18446744073709551616 := by
  simp [IntKind.wrap, IntKind.bits, IntKind.signed]
  omega
set_option maxHeartbeats 4000000 in
theorem refNumber_any (s : ByteArray) (w : World) (hs : s.size ≤ maxLen) : Calls Tryd.prog 7 #[.string s] w fun e w' => e = .returned (.tuple #[.int .i64 ((numB s.data.toList : Nat) : Int), .bool (segB s.data.toList)]) ∧ Below w.heap.size w w' := by
  by_cases h24 : s.size = 24
  · have i1 : ((s.size : Int) != 24) = false := by simp [h24]
    have i2 : (s.size : Int) ≤ 9223372036854775807 := by omega
    have h24' := hide h24
    have hs4 : (24 : Int) ≤ (s.size : Int) := by omega
    have hn : Hid (∀ k, k ≤ 16 → ∀ n, rdp (((s.data.toList.drop 4).take 16).take k) = some n → n < 16 ^ k) := fun k hk n h => (hex_rdp k _ n (by simp; omega) h).2
    clear h24 hs
    go_enter Tryd.func7, Tryd.ntmps7
    go_wp2
    go_loopw [4, 5] (fun v i wr => ∃ (k n K : Nat), v = .int .u64 n ∧ i = .int .i64 (K : Int) ∧ k ≤ 16 ∧ Hid (K = 4 + k) ∧ Hid (rdp (((s.data.toList.drop 4).take 16).take k) = some n) ∧ Hid (Qt w wr)) (fun _ i _ => 20 - (intOf i).toNat)
    case atStart => exact ⟨0, 0, 4, rfl, by go_num, by omega, rfl, rfl, Qt.refl _⟩
    case round =>
      obtain ⟨k, n, K, rfl, rfl, hk, hK, hr, hq⟩ := hrel
      obtain ⟨wA, hwA⟩ : ∃ wA, wA = wr := ⟨_, rfl⟩
      subst hwA
      by_cases hlt : k < 16
      · have j0 : (K : Int) < 20 := by have := hK.out; omega
        have j1 : (K : Int) < (s.size : Int) := by omega
        have j2 : (0 : Int) ≤ (K : Int) := by omega
        have hlt2 : K < s.size := by omega
        obtain ⟨c, hc⟩ : ∃ c : UInt8, s[K]'hlt2 = c := ⟨_, rfl⟩
        have hts : Hid (((s.data.toList.drop 4).take 16).take (k + 1) = ((s.data.toList.drop 4).take 16).take k ++ [c]) := by
          show _ = _
          rw [mid_take s k hlt h24'.out, ← hc]
          congr 2
          have := hK.out
          subst this
          rfl
        go_wp2
        go_loopw [6, 7] (fun d j wr => ∃ J : Nat, d = .int .i64 (fnd c J) ∧ j = .int .i64 J ∧ J ≤ 16 ∧ Hid (Qt w wr)) (fun _ j _ => 16 - (intOf j).toNat)
        case atStart => exact ⟨0, by rw [fnd_zero], rfl, by omega, hq.out⟩
        case round =>
          obtain ⟨J, rfl, rfl, hJ, hqi⟩ := hrel
          by_cases hJl : J < 16
          · have l0 : (J : Int) < 16 := by omega
            have l1 : (0 : Int) ≤ (J : Int) := by omega
            have hx := hexHd' J (by omega) (by simp [ByteArray.size]; omega)
            by_cases he : hd J = c
            · have hf := hide (fnd_hit hJl he)
              have heq : (((hd J).toNat : Int) == (c.toNat : Int)) = true := by rw [he]; simp
              clear he
              go_wp2
              go_quiet (fail)
              go_wp2
              go_roundw
              case rel => exact ⟨J + 1, by rw [hf.out], by go_num, by omega, hqi.out.trans ⟨_, rfl⟩⟩
              case measure => simp [intOf]; omega
            · have hf := hide (fnd_miss hJl he)
              have heq : (((hd J).toNat : Int) == (c.toNat : Int)) = false := by
                simp only [beq_eq_false_iff_ne, ne_eq]
                intro e
                exact he (UInt8.toNat_inj.1 (by omega))
              clear he
              go_wp2
              go_quiet (fail)
              go_wp2
              go_roundw
              case rel => exact ⟨J + 1, by rw [hf.out], by go_num, by omega, hqi.out.trans ⟨_, rfl⟩⟩
              case measure => simp [intOf]; omega
          · obtain rfl : J = 16 := by omega
            have l0 : ¬ ((16 : Nat) : Int) < 16 := by omega
            have hfe := fnd_end c
            cases hd' : dgv c with
            | none =>
              rw [hd'] at hfe
              have hz : Hid (numB s.data.toList = 0) := by
                show _ = _
                apply numB_none
                rw [← List.take_append_drop (k + 1) ((s.data.toList.drop 4).take 16), hts.out]
                exact rdp_none _ _ (by rw [rdp_snoc, hr.out, hd']; rfl)
              simp only at hfe
              rw [hfe]
              go_wp2
              go_ret2
              rw [segB_of hz.out, hz.out]
              exact ⟨ret_ib rfl rfl, hqi.out.below _⟩
            | some d =>
              rw [hd'] at hfe
              have hdl := dgv_lt hd'
              simp only at hfe
              rw [hfe]
              have hr2 : Hid (rdp (((s.data.toList.drop 4).take 16).take (k + 1)) = some (n * 16 + d)) := by
                show _ = _
                rw [hts.out, rdp_snoc, hr.out, hd']; rfl
              have hb := hn.out k hk n hr.out
              have hb2 := pow_le16 hlt
              have n1 : (n : Int) ≤ 1152921504606846975 := by omega
              have n0 : (0 : Int) ≤ (n : Int) := by omega
              have d1 : (d : Int) < 16 := by omega
              have d0 : (0 : Int) ≤ (d : Int) := by omega
              clear hd' hb hb2 hr hfe
              go_wp2
              go_roundw
              case rel => exact ⟨k + 1, n * 16 + d, K + 1, by go_num, by go_num, by omega, by have := hK.out; show _ = _; omega, hr2.out, hqi.out⟩
              case measure => simp [intOf]; omega
      · obtain rfl : k = 16 := by omega
        have hK' := hK.out
        have j0 : ¬ (K : Int) < 20 := by omega
        have hrr : rdp ((s.data.toList.drop 4).take 16) = some n := by
          have := hr.out
          rwa [List.take_of_length_le (by simp; omega)] at this
        have nb := hn.out 16 (Nat.le_refl _) n hr.out
        clear hK hr hn hk hlt
        by_cases hbig : n < 9223372036854775808
        · have n2 : (n : Int) ≤ 9223372036854775807 := by omega
          have n3 : (0 : Int) ≤ (n : Int) := by omega
          by_cases h0 : n = 0
          · subst h0
            have hz : Hid (numB s.data.toList = 0) := numB_zero hrr
            have hc := hide (fun q => refSegment_any q 0 (by omega))
            rw [segV_small (by omega)] at hc
            clear hrr nb hbig n2 n3
            go_wp2_with (go_at_call 13; refine (hc.out _).mono ?_; rintro e w' ⟨rfl, hb⟩)
            go_ret2
            rw [segB_of hz.out, hz.out]
            exact ⟨ret_ib rfl rfl, (hq.out.below _).trans (hb.mono (by rw [hq.out.size]; exact Nat.le_refl _))⟩
          · have hc := hide (fun q => refSegment_any q (n : Int) (by omega))
            rw [segV_big (by omega)] at hc
            by_cases he : segL n = s.data.toList
            · have hz : Hid (numB s.data.toList = n) := by show _ = _; rw [← he]; exact numB_seg hbig
              have heq : ((bs (segL n)).toList == s.toList) = true := by rw [tl, tl, bs_list, he]; simp
              have h0' := hide h0
              clear hrr nb hbig he h0
              go_wp2_with (go_at_call 13; refine (hc.out _).mono ?_; rintro e w' ⟨rfl, hb⟩)
              go_ret2
              rw [segB_of hz.out, hz.out]
              exact ⟨ret_ib rfl (by simpa using h0'.out), (hq.out.below _).trans (hb.mono (by rw [hq.out.size]; exact Nat.le_refl _))⟩
            · have hz : Hid (numB s.data.toList = 0) := numB_not hrr he
              have heq : ((bs (segL n)).toList == s.toList) = false := by rw [tl, tl, bs_list]; simpa using he
              clear hrr nb hbig he h0
              go_wp2_with (go_at_call 13; refine (hc.out _).mono ?_; rintro e w' ⟨rfl, hb⟩)
              go_ret2
              rw [segB_of hz.out, hz.out]
              exact ⟨ret_ib rfl rfl, (hq.out.below _).trans (hb.mono (by rw [hq.out.size]; exact Nat.le_refl _))⟩
        · have hz : Hid (numB s.data.toList = 0) := numB_big hrr hbig
          obtain ⟨x, hx⟩ : ∃ x : Int, x = (n : Int) - 18446744073709551616 := ⟨_, rfl⟩
          have hw : IntKind.i64.wrap (n : Int) = x := by
            rw [hx]
            exact wrap_hi _ (by omega) (by omega)
          have hc := hide (fun q => refSegment_any q x (by omega))
          rw [segV_small (by omega)] at hc
          have x1 : x < 1 := by omega
          clear hrr nb hbig hx
          go_wp2_with (go_at_call 13; refine (hc.out _).mono ?_; rintro e w' ⟨rfl, hb⟩)
          go_ret2
          rw [segB_of hz.out, hz.out]
          exact ⟨ret_ib rfl rfl, (hq.out.below _).trans (hb.mono (by rw [hq.out.size]; exact Nat.le_refl _))⟩
  · have hz : Hid (numB s.data.toList = 0) := numB_len (by simpa using h24)
    have i1 : ((s.size : Int) != 24) = true := by simp; omega
    unfold maxLen at hs
    have i2 : (s.size : Int) ≤ 9223372036854775807 := by omega
    clear h24 hs
    go_enter Tryd.func7, Tryd.ntmps7
    go_wp2
    go_ret2
    rw [segB_of hz.out, hz.out]
    exact ⟨ret_ib rfl rfl, Below.refl _ _⟩
#print axioms refNumber_any
end Go.Proofs.YtenckagpaecnoaaDoor.Nm
