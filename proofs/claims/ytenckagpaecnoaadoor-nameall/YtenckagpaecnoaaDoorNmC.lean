/-
  Package name: the digits of a number, and the number whose segment a name is.
-/
import Derived.Test.YtenckagpaecnoaaDoorNmB
import Derived.Laws.Bits64b
namespace Go.Proofs.YtenckagpaecnoaaDoor.Nm
open Go.RowKit
set_option maxRecDepth 100000
set_option linter.unusedVariables false

theorem ret_ib {k : IntKind} {a b : Int} {c d : Bool} (h : a = b) (g : c = d) : Ending.returned (.tuple #[.int k a, .bool c]) = .returned (.tuple #[.int k b, .bool d]) := by rw [h, g]
theorem dgv1 {c : UInt8} (h1 : 48 ≤ (c.toNat : Int)) (h2 : (c.toNat : Int) ≤ 57) : dgv c = some (c.toNat - 48) := by
  unfold dgv; rw [if_pos (by omega)]
theorem dgv2 {c : UInt8} (h1 : 97 ≤ (c.toNat : Int)) (h2 : (c.toNat : Int) ≤ 102) : dgv c = some (c.toNat - 87) := by
  unfold dgv; rw [if_neg (by omega), if_pos (by omega)]
theorem dgv3 {c : UInt8} (h1 : ¬ (48 ≤ (c.toNat : Int) ∧ (c.toNat : Int) ≤ 57)) (h2 : ¬ (97 ≤ (c.toNat : Int) ∧ (c.toNat : Int) ≤ 102)) : dgv c = none := by
  unfold dgv; rw [if_neg (by omega), if_neg (by omega)]
theorem dgv_lt {c : UInt8} {d : Nat} (h : dgv c = some d) : d < 16 := (hd_dgv h).1
theorem digit_any (c : UInt8) (w : World) : Calls Tryd.prog 31 #[.int .u8 (c.toNat : Int)] w fun e w' => e = .returned (.tuple #[.int .u8 (((dgv c).getD 0 : Nat) : Int), .bool (dgv c).isSome]) ∧ w' = w := by
  by_cases h3 : 48 ≤ (c.toNat : Int) <;> by_cases h4 : (c.toNat : Int) ≤ 57 <;> by_cases h1 : 97 ≤ (c.toNat : Int) <;> by_cases h2 : (c.toNat : Int) ≤ 102
  all_goals
    go_enter Tryd.func31, Tryd.ntmps31
    go_wp2
    go_ret2
    first
      | (have hv := dgv1 h3 h4; rw [hv]; exact ⟨ret_ib (by simp; omega) rfl, rfl⟩)
      | (have hv := dgv2 h1 h2; rw [hv]; exact ⟨ret_ib (by simp; omega) rfl, rfl⟩)
      | (have hv := dgv3 (c := c) (by omega) (by omega); rw [hv]; exact ⟨ret_ib rfl rfl, rfl⟩)
#print axioms digit_any

/-- What readNumber tells of digits. -/
def rdN (l : List UInt8) : Nat := match rdp l with
  | some n => if n < 9223372036854775808 then n else 0
  | none => 0
theorem or_digit (n d : Nat) (h : d < 16) (hn : n * 16 + d < 18446744073709551616) : bits .or .u64 ((n : Int) * 16) (d : Int) = ((n * 16 + d : Nat) : Int) := by
  have e : (n * 16 ||| d) = n * 16 + d := by
    have := Nat.two_pow_add_eq_or_of_lt (i := 4) (b := d) (by omega) n
    rw [Nat.mul_comm n 16]
    exact this.symm
  rw [show ((n : Int) * 16) = ((n * 16 : Nat) : Int) by simp, bits_or_u64_nat _ _ (by omega) (by omega), e]
theorem pow_le16 {k : Nat} (h : k < 16) : 16 ^ k ≤ 1152921504606846976 := by
  have : 16 ^ k ≤ 16 ^ 15 := Nat.pow_le_pow_right (by omega) (by omega)
  omega
set_option maxHeartbeats 2000000 in
theorem readNumber_any (s : ByteArray) (w : World) (hs : s.size = 16) : Calls Tryd.prog 21 #[.string s] w fun e w' => e = .returned (.tuple #[.int .i64 ((rdN s.data.toList : Nat) : Int), .bool (decide (rdN s.data.toList ≠ 0))]) ∧ w' = w := by
  have hn : Hid (∀ k, k ≤ s.size → ∀ n, rdp (s.data.toList.take k) = some n → n < 16 ^ k) := fun k hk n h => (hex_rdp k _ n (by simp; omega) h).2
  replace hs := hide hs
  have hi : (s.size : Int) ≤ 9223372036854775807 := by have := hs.out; omega
  go_enter Tryd.func21, Tryd.ntmps21
  go_wp2
  go_loop [10, 4] (fun i m => ∃ k n : Nat, k ≤ s.size ∧ i = .int .i64 k ∧ m = .int .u64 n ∧ Hid (rdp (s.data.toList.take k) = some n)) (fun i _ => s.size - (intOf i).toNat)
  case atStart => exact ⟨0, 0, Nat.zero_le _, rfl, rfl, rfl⟩
  case round =>
    obtain ⟨k, n, hk, rfl, rfl, hr⟩ := hrel
    by_cases hlt : k < s.size
    · have hts : Hid (s.data.toList.take (k + 1) = s.data.toList.take k ++ [s[k]]) := by
        show _ = _; rw [List.take_succ_eq_append_getElem (by simpa using hlt)]; rfl
      have hb := hn.out k hk n hr.out
      have hb2 := pow_le16 (k := k) (by have := hs.out; omega)
      have hc := digit_any s[k] w
      cases hd' : dgv s[k] with
      | none =>
        rw [hd'] at hc
        have hz : Hid (rdN s.data.toList = 0) := by
          show _ = _
          have : rdp s.data.toList = none := by
            rw [← List.take_append_drop (k + 1) s.data.toList, hts.out]
            exact rdp_none _ _ (by rw [rdp_snoc, hr.out, hd']; rfl)
          unfold rdN; rw [this]
        replace hc := hide hc
        clear hd' hb hb2
        go_wp2_with (go_at_call 31; refine hc.out.mono ?_; rintro e w' ⟨rfl, rfl⟩)
        go_ret2
        rw [hz.out]
        exact ⟨ret_ib rfl rfl, rfl⟩
      | some d =>
        have hdl := dgv_lt hd'
        rw [hd'] at hc
        simp only [Option.getD_some, Option.isSome_some] at hc
        have hr2 : Hid (rdp (s.data.toList.take (k + 1)) = some (n * 16 + d)) := by
          show _ = _
          rw [hts.out, rdp_snoc, hr.out, hd']; rfl
        replace hc := hide hc
        have n1 : (n : Int) ≤ 1152921504606846975 := by omega
        have n0 : (0 : Int) ≤ (n : Int) := by omega
        have d1 : (d : Int) < 16 := by omega
        have ho := or_digit n d hdl (by omega)
        clear hd' hb hb2 hr
        go_wp2_with (go_at_call 31; refine hc.out.mono ?_; rintro e w' ⟨rfl, rfl⟩)
        go_round
        case rel => exact ⟨k + 1, n * 16 + d, by omega, by go_num, by go_num, hr2⟩
        case measure => simp [intOf]; omega
    · obtain rfl : k = s.size := by omega
      have hrr : rdp s.data.toList = some n := by have := hr.out; rwa [List.take_of_length_le (by simp)] at this
      by_cases hz : n = 0
      · subst hz
        have hz : Hid (rdN s.data.toList = 0) := by show _ = _; unfold rdN; rw [hrr]; rfl
        clear hrr
        go_wp2
        go_ret2
        rw [hz.out]
        exact ⟨ret_ib rfl rfl, rfl⟩
      · have n0 : ¬ (n : Int) < 1 := by omega
        have nb := hn.out _ (Nat.le_refl _) n hr.out
        rw [hs.out] at nb
        have n2 : (n : Int) < 18446744073709551616 := by omega
        clear nb hr
        by_cases hbig : n < 9223372036854775808
        · have hz : Hid (rdN s.data.toList = n) := by show _ = _; unfold rdN; rw [hrr]; simp [hbig]
          have n3 : ¬ (n : Int) > 9223372036854775807 := by omega
          clear hrr
          go_wp2
          go_ret2
          rw [hz.out]
          exact ⟨ret_ib rfl (by simp; omega), rfl⟩
        · have hz : Hid (rdN s.data.toList = 0) := by show _ = _; unfold rdN; rw [hrr]; simp [hbig]
          have n3 : (n : Int) > 9223372036854775807 := by omega
          clear hrr
          go_wp2
          go_ret2
          rw [hz.out]
          exact ⟨ret_ib rfl rfl, rfl⟩
#print axioms readNumber_any

/-- A text as a value. -/
def bs (l : List UInt8) : ByteArray := ⟨l.toArray⟩
theorem bs_list (l : List UInt8) : (bs l).data.toList = l := by simp [bs]
theorem bs_size (l : List UInt8) : (bs l).size = l.length := by simp [bs, ByteArray.size]
theorem bs_of (s : ByteArray) : bs s.data.toList = s := by simp [bs]
theorem tl (s : ByteArray) : s.toList = s.data.toList := by rw [ByteArray.toList_eq]
theorem ext_take (s : ByteArray) (n : Nat) : (s.extract 0 n).data.toList = s.data.toList.take n := by simp [List.extract_eq_take_drop]
theorem ext_drop (s : ByteArray) (n : Nat) : s.extract n s.size = bs (s.data.toList.drop n) := by
  apply ByteArray.ext
  apply Array.toList_inj.1
  rw [bs_list]
  simp [List.extract_eq_take_drop]
  rw [List.take_of_length_le (by simp)]
theorem ext_drop' (s : ByteArray) (n k : Nat) : (s.extract n k).data.toList = (s.data.toList.take k).drop n := by
  simp [List.extract_eq_take_drop, List.drop_take]
/-- What a cut off the front tells. -/
def CutF (s p : ByteArray) (e : Ending) : Prop :=
  (∃ r, s.data.toList = p.data.toList ++ r ∧ e = .returned (.tuple #[.string (bs r), .bool true])) ∨ ((¬ p.data.toList <+: s.data.toList) ∧ e = .returned (.tuple #[.string s, .bool false]))
theorem cutF_hit {s p : ByteArray} (h2 : (!((s.extract 0 p.size).toList == p.toList)) = false) : CutF s p (.returned (.tuple #[.string (s.extract p.size s.size), .bool true])) := by
  have e : s.data.toList.take p.size = p.data.toList := by
    rw [← ext_take, ← tl, ← tl]; simpa using h2
  refine .inl ⟨s.data.toList.drop p.size, ?_, by rw [ext_drop]⟩
  rw [← e, List.take_append_drop]
theorem cutF_long {s p : ByteArray} (h1 : ¬ p.size ≤ s.size) : CutF s p (.returned (.tuple #[.string s, .bool false])) :=
  .inr ⟨fun h => h1 (by have := h.length_le; simpa using this), rfl⟩
theorem cutF_miss {s p : ByteArray} (h2 : (!((s.extract 0 p.size).toList == p.toList)) = true) : CutF s p (.returned (.tuple #[.string s, .bool false])) := by
  refine .inr ⟨fun h => ?_, rfl⟩
  have : (s.extract 0 p.size).toList = p.toList := by
    rw [tl, tl, ext_take]
    obtain ⟨r, hr⟩ := h
    rw [← hr, List.take_left' (by simp)]
  simp [this] at h2
theorem prefix_any (s p : ByteArray) (w : World) : Calls Tryd.prog 19 #[.string s, .string p] w fun e w' => CutF s p e ∧ w' = w := by
  go_enter Tryd.func19, Tryd.ntmps19
  go_wp2
  all_goals
    go_ret2
    first
      | exact ⟨cutF_miss (by assumption), rfl⟩
      | exact ⟨cutF_long (by assumption), rfl⟩
      | exact ⟨cutF_hit (by assumption), rfl⟩
#print axioms prefix_any
/-- What a cut off the end tells. -/
def CutB (s p : ByteArray) (e : Ending) : Prop :=
  (∃ r, s.data.toList = r ++ p.data.toList ∧ e = .returned (.tuple #[.string (bs r), .bool true])) ∨ ((¬ p.data.toList <:+ s.data.toList) ∧ e = .returned (.tuple #[.string s, .bool false]))
theorem ext_end (s : ByteArray) (n : Nat) : (s.extract n s.size).data.toList = s.data.toList.drop n := by rw [ext_drop, bs_list]
theorem cutB_hit {s p : ByteArray} (h1 : p.size ≤ s.size) (h2 : (!((s.extract (s.size - p.size) s.size).toList == p.toList)) = false) : CutB s p (.returned (.tuple #[.string (s.extract 0 (s.size - p.size)), .bool true])) := by
  have e : s.data.toList.drop (s.size - p.size) = p.data.toList := by
    rw [← ext_end, ← tl, ← tl]; simpa using h2
  refine .inl ⟨s.data.toList.take (s.size - p.size), ?_, ?_⟩
  · rw [← e, List.take_append_drop]
  · rw [← ext_take, bs_of]
theorem cutB_long {s p : ByteArray} (h1 : ¬ p.size ≤ s.size) : CutB s p (.returned (.tuple #[.string s, .bool false])) :=
  .inr ⟨fun h => h1 (by have := h.length_le; simpa using this), rfl⟩
theorem cutB_miss {s p : ByteArray} (h2 : (!((s.extract (s.size - p.size) s.size).toList == p.toList)) = true) : CutB s p (.returned (.tuple #[.string s, .bool false])) := by
  refine .inr ⟨fun h => ?_, rfl⟩
  have : (s.extract (s.size - p.size) s.size).toList = p.toList := by
    rw [tl, tl, ext_end]
    obtain ⟨r, hr⟩ := h
    have hl := congrArg List.length hr
    simp only [List.length_append, Array.length_toList] at hl
    have hl' : s.size - p.size = r.length := by
      have h3 : s.size = s.data.size := rfl
      have h4 : p.size = p.data.size := rfl
      omega
    rw [← hr, hl', List.drop_left' rfl]
  simp [this] at h2
theorem suffix_any (s p : ByteArray) (w : World) (hs : s.size ≤ maxLen) (hp : p.size ≤ maxLen) : Calls Tryd.prog 20 #[.string s, .string p] w fun e w' => CutB s p e ∧ w' = w := by
  unfold maxLen at hs hp
  go_enter Tryd.func20, Tryd.ntmps20
  go_wp2
  all_goals
    go_ret2
    first
      | exact ⟨cutB_miss (by assumption), rfl⟩
      | exact ⟨cutB_long (by assumption), rfl⟩
      | exact ⟨cutB_hit (by assumption) (by assumption), rfl⟩
#print axioms suffix_any

theorem numB_rdN (m : List UInt8) (h : m.length = 16) : numB ([115, 101, 103, 45] ++ m ++ [46, 108, 111, 103]) = rdN m := by
  have e1 : ([115, 101, 103, 45] ++ m ++ [46, 108, 111, 103]).drop 20 = [46, 108, 111, 103] := List.drop_left' (by simp [h])
  have e2 : (([115, 101, 103, 45] ++ m ++ [46, 108, 111, 103]).drop 4).take 16 = m := by
    rw [List.append_assoc, List.drop_left' (by rfl), List.take_left' h]
  unfold numB rdN
  rw [if_pos ⟨by simp [h], by simp, e1⟩, e2]
  rfl
theorem numB_front {l : List UInt8} (h : ¬ [115, 101, 103, 45] <+: l) : numB l = 0 := by
  by_cases h0 : numB l = 0
  · exact h0
  · exfalso
    rw [(seg_numB h0).1] at h
    exact h ⟨_, by rw [segL, List.append_assoc]⟩
theorem numB_behind {r : List UInt8} (h : ¬ [46, 108, 111, 103] <:+ r) : numB ([115, 101, 103, 45] ++ r) = 0 := by
  by_cases h0 : numB ([115, 101, 103, 45] ++ r) = 0
  · exact h0
  · exfalso
    have h1 := (seg_numB h0).1
    generalize numB ([115, 101, 103, 45] ++ r) = n at h1
    rw [segL, List.append_assoc] at h1
    rw [List.append_cancel_left h1] at h
    exact h ⟨_, rfl⟩
/-- Is it a segment's name? -/
def segB (l : List UInt8) : Bool := decide (numB l ≠ 0)
theorem segB_of {l : List UInt8} {n : Nat} (h : numB l = n) : segB l = decide (n ≠ 0) := by rw [segB, h]
set_option maxHeartbeats 2000000 in
theorem number_any (s : ByteArray) (w : World) (hs : s.size ≤ maxLen) : Calls Tryd.prog 6 #[.string s] w fun e w' => e = .returned (.tuple #[.int .i64 ((numB s.data.toList : Nat) : Int), .bool (segB s.data.toList)]) ∧ w' = w := by
  have hs' := hide hs
  have hp := hide (prefix_any s ⟨#[115, 101, 103, 45]⟩ w)
  go_enter Tryd.func6, Tryd.ntmps6
  go_wp2_with fail
  refine hp.out.mono ?_
  rintro e w' ⟨(⟨r, hr, rfl⟩ | ⟨hn, rfl⟩), rfl⟩
  · replace hr : Hid (s.data.toList = [115, 101, 103, 45] ++ r) := hr
    have hrl : Hid ((bs r).size ≤ maxLen) := by
      have h1 := congrArg List.length hr.out
      have h2 := hs'.out
      have h3 : s.data.toList.length = s.size := by simp
      have h4 := bs_size r
      simp only [List.length_append] at h1
      show _ ≤ _
      omega
    clear hp hs
    have hb := hide (suffix_any (bs r) ⟨#[46, 108, 111, 103]⟩ w' hrl.out (by decide))
    go_wp2_with fail
    refine hb.out.mono ?_
    rintro e w2 ⟨(⟨m, hm, rfl⟩ | ⟨hn, rfl⟩), rfl⟩
    · replace hm : Hid (r = m ++ [46, 108, 111, 103]) := by show _ = _; rw [bs_list] at hm; exact hm
      clear hb
      have hml : Hid ((bs m).size ≤ maxLen) := by
        have h1 := congrArg List.length hm.out
        have h2 := hrl.out
        rw [bs_size] at h2
        simp only [List.length_append] at h1
        show _ ≤ _
        rw [bs_size]
        omega
      by_cases hl : (bs m).size = 16
      · have hc := hide (readNumber_any (bs m) w2 hl)
        have hz : Hid (numB s.data.toList = rdN m) := by
          show _ = _
          rw [hr.out, hm.out, ← List.append_assoc]
          exact numB_rdN m (by rw [← bs_size]; exact hl)
        rw [bs_list] at hc
        have n1 : (((bs m).size : Int) != 16) = false := by simp [hl]
        have n2 : ((bs m).size : Int) ≤ 9223372036854775807 := by omega
        clear hl
        go_wp2_with (go_at_call 21; refine hc.out.mono ?_; rintro e w' ⟨rfl, rfl⟩)
        go_ret2
        rw [segB_of hz.out, hz.out]
        exact ⟨ret_ib rfl (by simp), rfl⟩
      · have hz : Hid (numB s.data.toList = 0) := by
          show _ = _
          apply numB_len
          rw [hr.out, hm.out]
          rw [bs_size] at hl
          simp
          omega
        have n1 : (((bs m).size : Int) != 16) = true := by simp; omega
        have n2 : ((bs m).size : Int) ≤ 9223372036854775807 := by have := hml.out; unfold maxLen at this; omega
        clear hl
        go_wp2
        go_ret2
        rw [segB_of hz.out, hz.out]
        exact ⟨ret_ib rfl rfl, rfl⟩
    · have hz : Hid (numB s.data.toList = 0) := by
        show _ = _
        rw [hr.out]
        rw [bs_list] at hn
        exact numB_behind hn
      clear hb hn
      go_wp2
      go_ret2
      rw [segB_of hz.out, hz.out]
      exact ⟨ret_ib rfl rfl, rfl⟩
  · have hz : Hid (numB s.data.toList = 0) := numB_front hn
    clear hp hn
    go_wp2
    go_ret2
    rw [segB_of hz.out, hz.out]
    exact ⟨ret_ib rfl rfl, rfl⟩
#print axioms number_any
end Go.Proofs.YtenckagpaecnoaaDoor.Nm
