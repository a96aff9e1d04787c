/-
  What flumeref1's Varint, Fixed, String, Zig and Zag answer: the same forms.
-/
import Derived.Test.YtdhjlongdfgejaaFixed
import Derived.Test.YtdhjlongdfgejaaStr
namespace Go.Proofs.Ytdhjlongdfgejaa
open Go.RowKit

theorem bval_add (m : Nat) : Value.int .u8 ((m : Int) % 128 + 128) = bval (UInt8.ofNat (m % 128 + 128)) := by
  rw [← u8_of _ (by omega)]
  simp
set_option maxRecDepth 100000 in
set_option maxHeartbeats 800000 in
theorem refVarint_any (w : World) (n : Int) (h0 : 0 ≤ n) (hn : n < 18446744073709551616) :
    Calls Try.prog 30 #[.int .u64 n] w fun e w' => ∃ v', e = .returned v' ∧ w'.ownsRow w.heap.size 5 1 v' (enc n.toNat).length (bvals (enc n.toNat)) ∧ Below w.heap.size w w' := by
  obtain ⟨n, rfl⟩ := Int.eq_ofNat_of_zero_le h0
  rw [Int.toNat_natCast]
  have HN : n < 18446744073709551616 := by omega
  clear h0 hn
  obtain ⟨i0, hi, hz0, hz1, hz2⟩ := info_parts Try.infoU8
  go_enter Try.func30, Try.ntmps30
  go_wp2
  go_loopw [0, 3] (fun x v wr => ∃ (m : Nat) (d : List UInt8), m < 18446744073709551616 ∧ x = .int .u64 m ∧ Hid (enc n = d ++ enc m) ∧ wr.ownsRow w.heap.size 5 1 v d.length (bvals d) ∧ Below w.heap.size w wr) (fun x _ _ => (intOf x).toNat)
  case atStart => exact ⟨n, [], HN, rfl, by simp [Hid], World.ownsRow_nil _ _ _ _, Below.refl _ _⟩
  case round =>
    obtain ⟨m, d, hm, rfl, henc, hown, hbel⟩ := hrel
    have hel := enc_len n
    have hsz := hbel.size
    by_cases hlt : m < 128
    · have hd : d.length ≤ 9 := by
        have h1 := enc_pos m
        rw [henc.out, List.length_append] at hel; omega
      clear hel
      go_wp2_with (at_builtin; refine wpList_append_own _ rfl (.tmp 15) (.tmp 18) 31 rfl w.heap.size 5 i0 (.int .u8 0) 1 1 Try.underlying31 hi hz0 hz1 hz2 rfl (by decide) _ _ _ rfl (hown.alloc _) ⟨wr.heap.size, 0, none⟩ 1 1 [.int .u8 m] rfl rfl (cell_one_new _ _ _) (by simp [Value.oneCell']) (by simp [maxLen]; omega) (by simp; omega) (by simp; omega) ?_)
      intro v' w1 hown' hgrow _
      rw [u8_of m (by omega), bvals_one] at hown'
      have hb1 : Below w.heap.size w w1 := (hbel.alloc (by omega) _).grown hgrow (by simp; omega) (fun k hk => (hown.lt k hk).1)
      go_wp2
      go_ret
      refine ⟨_, rfl, ?_, hb1⟩
      rw [henc.out, enc_small hlt]
      simpa [Nat.add_assoc] using hown'
    · have hd : d.length ≤ 8 := by
        have h1 := enc_pos (m / 128)
        rw [henc.out, enc_big (by omega) (by omega), List.length_append, List.length_cons] at hel; omega
      clear hel
      go_wp2_with (at_builtin; refine wpList_append_own _ rfl (.tmp 6) (.tmp 11) 31 rfl w.heap.size 5 i0 (.int .u8 0) 1 1 Try.underlying31 hi hz0 hz1 hz2 rfl (by decide) _ _ _ rfl (hown.alloc _) ⟨wr.heap.size, 0, none⟩ 1 1 [_] rfl rfl (cell_one_new _ _ _) (by simp [Value.oneCell']) (by simp [maxLen]; omega) (by simp; omega) (by simp; omega) ?_)
      intro v' w1 hown' hgrow _
      rw [bval_add, bvals_one] at hown'
      have hb1 : Below w.heap.size w w1 := (hbel.alloc (by omega) _).grown hgrow (by simp; omega) (fun k hk => (hown.lt k hk).1)
      go_wp2
      go_roundw
      case rel =>
        refine ⟨m / 128, d ++ [UInt8.ofNat (m % 128 + 128)], by omega, by go_num, ?_, ?_, hb1⟩
        · show _ = _
          rw [henc.out, enc_big (by omega) hm]; simp
        · simpa [Nat.add_assoc] using hown'
      case measure => simp [intOf]; omega
set_option maxRecDepth 100000 in
set_option maxHeartbeats 800000 in
theorem refFixed_any (w : World) (n : Int) (s : Nat) (h0 : 0 ≤ n) (hn : n < 18446744073709551616) (hs : s ≤ 8) :
    Calls Try.prog 31 #[.int .u64 n, .int .i64 (s : Int)] w fun e w' => ∃ v', e = .returned v' ∧ w'.ownsRow w.heap.size 5 1 v' (fx s n.toNat).length (bvals (fx s n.toNat)) ∧ Below w.heap.size w w' := by
  obtain ⟨n, rfl⟩ := Int.eq_ofNat_of_zero_le h0
  rw [Int.toNat_natCast]
  have HN : n < 18446744073709551616 := by omega
  clear h0 hn
  obtain ⟨i0, hi, hz0, hz1, hz2⟩ := info_parts Try.infoU8
  go_enter Try.func31, Try.ntmps31
  go_wp2
  go_loopw [0, 5, 6] (fun x v i wr => ∃ (k m : Nat) (d : List UInt8), k ≤ s ∧ m < 18446744073709551616 ∧ x = .int .u64 m ∧ i = .int .i64 k ∧ Hid (fx s n = d ++ fx (s - k) m) ∧ d.length = k ∧ wr.ownsRow w.heap.size 5 1 v d.length (bvals d) ∧ Below w.heap.size w wr) (fun _ _ i _ => s - (intOf i).toNat)
  case atStart => exact ⟨0, n, [], Nat.zero_le _, HN, rfl, rfl, by simp [Hid], rfl, World.ownsRow_nil _ _ _ _, Below.refl _ _⟩
  case round =>
    obtain ⟨k, m, d, hk, hm, rfl, rfl, henc, hdl, hown, hbel⟩ := hrel
    have hsz := hbel.size
    have HDL : Hid (d.length = k) := hdl
    have hd8 : d.length ≤ 8 := by omega
    clear hdl
    by_cases hlt : k < s
    · go_wp2_with (at_builtin; refine wpList_append_own _ rfl (.tmp 12) (.tmp 16) 31 rfl w.heap.size 5 i0 (.int .u8 0) 1 1 Try.underlying31 hi hz0 hz1 hz2 rfl (by decide) _ _ _ rfl (hown.alloc _) ⟨wr.heap.size, 0, none⟩ 1 1 [_] rfl rfl (cell_one_new _ _ _) (by simp [Value.oneCell']) (by simp [maxLen]; omega) (by simp; omega) (by simp; omega) ?_)
      intro v' w1 hown' hgrow _
      have eb : Value.int .u8 ((m : Int) % 256) = bval (UInt8.ofNat (m % 256)) := by rw [← u8_of _ (by omega)]; simp
      rw [eb, bvals_one] at hown'
      have hb1 : Below w.heap.size w w1 := (hbel.alloc (by omega) _).grown hgrow (by simp; omega) (fun k hk => (hown.lt k hk).1)
      clear eb
      go_wp2
      go_roundw
      case rel =>
        refine ⟨k + 1, m / 256, d ++ [UInt8.ofNat (m % 256)], by omega, by omega, by go_num, by go_num, ?_, by simp [HDL.out], ?_, hb1⟩
        · show _ = _
          obtain ⟨q, hq⟩ : ∃ q, s - k = q + 1 := ⟨s - k - 1, by omega⟩
          rw [henc.out, hq, fx, show s - (k + 1) = q by omega]; simp
        · simpa using hown'
      case measure => simp [intOf]; omega
    · have HE : Hid (fx s n = d) := by
        show _ = _
        rw [henc.out, show s - k = 0 by omega]; simp [fx]
      go_wp2
      go_ret
      exact ⟨_, rfl, by rw [HE.out]; exact hown, hbel⟩
end Go.Proofs.Ytdhjlongdfgejaa
