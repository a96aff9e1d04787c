/-
  What the document's own functions of the second layer answer (flumeref2): step, More, Sum, do, moved, Join, Zeros.
-/
import Derived.Test.YtdhjlongdfgejaaCrcz
import Derived.Deep.RegionHeld3
namespace Go.Proofs.Ytdhjlongdfgejaa.Crc
open Go.RowKit

theorem mod2 (c : R) : (c.toNat : Int) % 2 = if c.getLsbD 0 then 1 else 0 := by
  have h : c.getLsbD 0 = decide (c.toNat % 2 = 1) := by rw [BitVec.getLsbD, Nat.testBit_zero]
  rw [h]
  by_cases h1 : c.toNat % 2 = 1
  · simp [h1]; omega
  · rw [if_neg (by simpa using h1)]; omega

set_option maxRecDepth 100000 in
set_option maxHeartbeats 400000 in
theorem refStep_any (w : World) (c : R) :
    Calls Try.prog 68 #[.int .u32 (c.toNat : Int)] w fun e w' => e = .returned (.int .u32 ((st 8 c).toNat : Int)) ∧ w' = w := by
  go_enter Try.func68, Try.ntmps68
  go_wp2
  go_loopw [0, 3] (fun vc vi wr => ∃ k : Nat, k ≤ 8 ∧ vc = .int .u32 ((st k c).toNat : Int) ∧ vi = .int .i64 (k : Int) ∧ wr = w) (fun _ i _ => 8 - (intOf i).toNat)
  case atStart => exact ⟨0, by omega, rfl, rfl, rfl⟩
  case round =>
    obtain ⟨k, hk, rfl, rfl, rfl⟩ := hrel
    by_cases h8 : k < 8
    · have hlt := lt32 (st k c)
      have hm := mod2 (st k c)
      cases hb : (st k c).getLsbD 0 with
      | true =>
        rw [hb, if_pos rfl] at hm
        have hx := xor_poly (st k c)
        have HN : Hid ((st k c) >>> 1 ^^^ poly = st (k + 1) c) := by show _ = _; rw [st_succ', s1, hb]; rfl
        rw [HN.out] at hx
        clear hb
        go_wp2
        go_roundw
        case rel => exact ⟨k + 1, by omega, rfl, by go_num, by trivial⟩
        case measure => simp [intOf]; omega
      | false =>
        rw [hb] at hm
        simp only [Bool.false_eq_true, if_false] at hm
        have hx := half (st k c)
        have HN : Hid ((st k c) >>> 1 = st (k + 1) c) := by show _ = _; rw [st_succ', s1, hb]; rfl
        rw [HN.out] at hx
        clear hb
        go_wp2
        go_roundw
        case rel => exact ⟨k + 1, by omega, rfl, by go_num, by trivial⟩
        case measure => simp [intOf]; omega
    · obtain rfl : k = 8 := by omega
      go_wp2
      go_ret
      exact ⟨rfl, rfl⟩

theorem xor_byte (c : R) (x : UInt8) : bits BinOp.xor IntKind.u32 (c.toNat : Int) (x.toNat : Int) = ((c ^^^ byte x).toNat : Int) := by
  have h2 : x.toNat < 2 ^ 32 := by have := x.toNat_lt; omega
  have e : (byte x).toNat = x.toNat := by rw [byte, BitVec.toNat_ofNat, Nat.mod_eq_of_lt h2]
  rw [← b_xor, e]

set_option maxRecDepth 100000 in
set_option maxHeartbeats 400000 in
theorem refMore_any (w : World) (sum : R) (v : Value) (l : List UInt8) (hv : Sl w v l) :
    Calls Try.prog 52 #[.int .u32 (sum.toNat : Int), v] w fun e w' => e = .returned (.int .u32 ((more sum l).toNat : Int)) ∧ w' = w := by
  obtain ⟨ao, ca, rfl, h2, h3, h4, h5⟩ := hv
  have hca : ca ≤ 9223372036854775807 := by unfold maxLen at h4; omega
  clear h2 h4
  have hxo := xor_ones sum
  obtain ⟨c0, hc0⟩ : ∃ c0, c0 = sum ^^^ ones := ⟨_, rfl⟩
  have HM : Hid (more sum l = feed c0 l ^^^ ones) := by show _ = _; rw [hc0]; rfl
  rw [← hc0] at hxo
  clear hc0
  go_enter Try.func52, Try.ntmps52
  go_wp2
  clear hxo
  go_loopw [5, 6] (fun vc vi wr => ∃ k : Nat, k ≤ l.length ∧ vc = .int .u32 ((feed c0 (l.take k)).toNat : Int) ∧ vi = .int .i64 (k : Int) ∧ wr = w) (fun _ i _ => l.length - (intOf i).toNat)
  case atStart => exact ⟨0, Nat.zero_le _, rfl, rfl, rfl⟩
  case round =>
    obtain ⟨k, hk, rfl, rfl, rfl⟩ := hrel
    by_cases hlt : k < l.length
    · obtain ⟨b1, o1, rfl, hb⟩ := h5.at (by omega)
      have d2 := hb k hlt
      have HF : Hid (st 8 (feed c0 (l.take k) ^^^ byte l[k]) = feed c0 (l.take (k + 1))) := (feed_snoc c0 l k hlt).symm
      obtain ⟨c, hc⟩ : ∃ c, c = feed c0 (l.take k) := ⟨_, rfl⟩
      obtain ⟨x, hx⟩ : ∃ x, x = l[k] := ⟨_, rfl⟩
      rw [← hx] at d2 HF
      rw [← hc] at HF ⊢
      have hxb := xor_byte c x
      obtain ⟨d, hd⟩ : ∃ d, d = c ^^^ byte x := ⟨_, rfl⟩
      rw [← hd] at hxb HF
      have hxl8 := x.toNat_lt
      clear hx hc hb hd
      go_wp2_with fail
      refine (refStep_any _ d).mono ?_
      rintro e _ ⟨rfl, rfl⟩
      rw [HF.out]
      go_wp2_with fail
      go_roundw
      case rel => exact ⟨k + 1, by omega, rfl, by go_num, by trivial⟩
      case measure => simp [intOf]; omega
    · obtain rfl : k = l.length := by omega
      have hxo := xor_ones (feed c0 l)
      rw [List.take_length]
      rw [← HM.out] at hxo
      go_wp2_with fail
      go_ret
      exact ⟨rfl, rfl⟩

theorem refSum_any (w : World) (v : Value) (l : List UInt8) (hv : Sl w v l) :
    Calls Try.prog 32 #[v] w fun e w' => e = .returned (.int .u32 ((more 0#32 l).toNat : Int)) ∧ w' = w := by
  have hv0 := hv
  obtain ⟨ao, ca, rfl, h2, h3, h4, h5⟩ := hv
  clear h2 h3 h4 h5
  go_enter Try.func32, Try.ntmps32
  go_wp2_with fail
  refine (refMore_any _ 0#32 _ l hv0).mono ?_
  rintro e w1 ⟨rfl, rfl⟩
  go_wp2
  go_ret
  exact ⟨rfl, rfl⟩
#print axioms refSum_any
end Go.Proofs.Ytdhjlongdfgejaa.Crc
