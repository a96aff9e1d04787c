/-
  What wire.appendVarint does: the varint of n goes behind the bytes of a slice that the caller made.
-/
import Derived.Test.YtdhjlongdfgejaaProg
import Derived.Test.YtdhjlongdfgejaaEnc
import Derived.Test.YtdhjlongdfgejaaGen
namespace Go.Proofs.Ytdhjlongdfgejaa
open Go.RowKit


set_option maxRecDepth 100000 in
set_option maxHeartbeats 800000 in
theorem appendVarint_any (w : World) (base : Nat) (v : Value) (l : List UInt8) (n : Nat) (hn : n < 18446744073709551616) (hbase : base ≤ w.heap.size)
    (hown : w.ownsRow base 5 1 v l.length (bvals l)) (hlen : l.length + 10 ≤ 140737488355328) :
    Calls Try.prog 66 #[v, .int .u64 (n : Int)] w fun e w' => ∃ v', e = .returned v' ∧ w'.ownsRow base 5 1 v' (l ++ enc n).length (bvals (l ++ enc n)) ∧ Below base w w' := by
  obtain ⟨i0, hi, hz0, hz1, hz2⟩ := info_parts Try.infoU8
  go_enter Try.func66, Try.ntmps66
  go_wp2
  go_loopw [0, 1] (fun v x wr => ∃ (m : Nat) (d : List UInt8), m < 18446744073709551616 ∧ x = .int .u64 m ∧ Hid (enc n = d ++ enc m) ∧ wr.ownsRow base 5 1 v (l ++ d).length (bvals (l ++ d)) ∧ Below base w wr) (fun _ x _ => (intOf x).toNat)
  case atStart => exact ⟨n, [], hn, rfl, by simp [Hid], by simpa using hown, Below.refl _ _⟩
  case round =>
    clear hown
    obtain ⟨m, d, hm, rfl, henc, hown, hbel⟩ := hrel
    have hel := enc_len n
    by_cases hlt : m < 128
    · have hd : d.length ≤ 9 := by
        have h1 := enc_pos m
        rw [henc.out, List.length_append] at hel; omega
      clear hel
      go_wp2_with (at_builtin; refine wpList_append_own _ rfl (.tmp 16) (.tmp 19) 31 rfl base 5 i0 (.int .u8 0) 1 1 Try.underlying31 hi hz0 hz1 hz2 rfl (by decide) _ _ _ rfl (hown.alloc _) ⟨wr.heap.size, 0, none⟩ 1 1 [.int .u8 m] rfl rfl (cell_one_new _ _ _) (by simp [Value.oneCell']) (by simp [maxLen]; omega) (by simp; omega) (by have := hbel.size; simp; omega) ?_)
      intro v' w1 hown' hgrow _
      rw [u8_of m (by omega), bvals_one] at hown'
      have hsz := hbel.size
      have hb1 : Below base w w1 := (hbel.alloc (by omega) _).grown hgrow (by simp; omega) (fun k hk => (hown.lt k hk).1)
      go_wp2
      go_ret
      refine ⟨_, rfl, ?_, hb1⟩
      rw [henc.out, enc_small hlt, ← List.append_assoc]
      simpa [Nat.add_assoc] using hown'
    · have hd : d.length ≤ 8 := by
        have h1 := enc_pos (m / 128)
        rw [henc.out, enc_big (by omega) (by omega), List.length_append, List.length_cons] at hel; omega
      clear hel
      go_wp2_with (at_builtin; refine wpList_append_own _ rfl (.tmp 7) (.tmp 12) 31 rfl base 5 i0 (.int .u8 0) 1 1 Try.underlying31 hi hz0 hz1 hz2 rfl (by decide) _ _ _ rfl (hown.alloc _) ⟨wr.heap.size, 0, none⟩ 1 1 [_] rfl rfl (cell_one_new _ _ _) (by simp [Value.oneCell']) (by simp [maxLen]; omega) (by simp; omega) (by have := hbel.size; simp; omega) ?_)
      intro v' w1 hown' hgrow _
      rw [bval_big, bvals_one] at hown'
      have hsz := hbel.size
      have hb1 : Below base w w1 := (hbel.alloc (by omega) _).grown hgrow (by simp; omega) (fun k hk => (hown.lt k hk).1)
      go_wp2
      go_roundw
      case rel =>
        refine ⟨m / 128, d ++ [UInt8.ofNat (m % 128 + 128)], by omega, by go_num, ?_, ?_, hb1⟩
        · show _ = _
          rw [henc.out, enc_big (by omega) hm]; simp
        · rw [← List.append_assoc]; simpa [Nat.add_assoc] using hown'
      case measure => simp [intOf]; omega
#print axioms appendVarint_any
end Go.Proofs.Ytdhjlongdfgejaa
