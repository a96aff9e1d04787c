/-
  What flumeref1's ReadVarint and ReadString answer: the same as wire's.
-/
import Derived.Test.YtdhjlongdfgejaaRString
namespace Go.Proofs.Ytdhjlongdfgejaa
open Go.RowKit

theorem pow128 (k : Nat) (h : k ≤ 9) : 1 ≤ 128 ^ k ∧ 128 ^ k ≤ 9223372036854775808 := by
  constructor
  · exact Nat.pos_of_ne_zero (by simp)
  · have : 128 ^ k ≤ 128 ^ 9 := Nat.pow_le_pow_right (by omega) h
    simpa using this
theorem wrap_two (acc c s : Nat) (h : acc + c % 128 * s < 18446744073709551616) : IntKind.u64.wrap ((acc : Int) + IntKind.u64.wrap ((c : Int) % 128 * (s : Int))) = ((acc + c % 128 * s : Nat) : Int) := by
  have e : (c : Int) % 128 * (s : Int) = ((c % 128 * s : Nat) : Int) := by simp
  have h1 : IntKind.u64.wrap ((c % 128 * s : Nat) : Int) = ((c % 128 * s : Nat) : Int) := wrap_u64_in _ (by omega) (by omega)
  rw [e, h1, ← Int.natCast_add, wrap_u64_in _ (by omega) (by omega)]
set_option maxRecDepth 100000 in
set_option maxHeartbeats 1000000 in
theorem refReadVarint_any (w : World) (x : Value) (l : List UInt8) (hx : Sl w x l) :
    Calls Try.prog 64 #[x] w fun e w' => e = .returned (rvVal (rv l)) ∧ w' = w := by
  obtain ⟨ao, ca, rfl, h2, h3, h4, h5⟩ := hx
  have hmax : l.length ≤ 9223372036854775807 := by unfold maxLen at h4; omega
  clear h2 h3 h4
  go_enter Try.func64, Try.ntmps64
  go_wp2
  go_loop [5, 6, 7] (fun n sc i => ∃ (k acc s : Nat), k ≤ l.length ∧ k ≤ 9 ∧ i = .int .i64 k ∧ n = .int .u64 acc ∧ sc = .int .u64 s ∧ Hid (s = 128 ^ k) ∧ Hid (acc < 128 ^ k) ∧ Hid (rv l = rvF k acc (l.drop k))) (fun _ _ i => 10 - (intOf i).toNat)
  case atStart => exact ⟨0, 0, 1, Nat.zero_le _, by omega, rfl, rfl, rfl, rfl, by simp [Hid], rfl⟩
  case round =>
    obtain ⟨k, acc, s, hk, hk9, rfl, rfl, rfl, hs, hacc, hrv⟩ := hrel
    have hsb := pow128 k hk9
    rw [← hs.out] at hsb
    obtain ⟨hs1, hs2⟩ := hsb
    by_cases hlt : k < l.length
    · obtain ⟨b1, o1, rfl, h1⟩ := h5.at (by omega)
      have c1 := h1 k hlt
      have hc := l[k].toNat_lt
      have gl : (((k : Nat) : Int) == ((l.length : Nat) : Int)) = false := by simp; omega
      clear h1 h5
      obtain ⟨c, hcc⟩ : ∃ c, c = l[k] := ⟨_, rfl⟩
      rw [← hcc] at c1 hc
      have HC : Hid (c = l[k]) := hcc
      clear hcc
      have hmod : c.toNat % 128 * s ≤ 127 * s := Nat.mul_le_mul_right _ (by omega)
      have hl : k < 9 ∨ k = 9 := by omega
      rcases hl with h9 | h9
      · have g9 : (((k : Nat) : Int) == 9) = false := by simp; omega
        have hsm : s ≤ 72057594037927936 := by
          rw [hs.out]
          have : 128 ^ k ≤ 128 ^ 8 := Nat.pow_le_pow_right (by omega) (by omega)
          simpa using this
        have hsum := group_lt64 acc c.toNat k hacc.out (by omega)
        rw [← hs.out] at hsum
        have HO : Hid _ := wrap_two acc c.toNat s hsum
        have HA : Hid (acc + c.toNat % 128 * s = acc + c.toNat % 128 * 128 ^ k) := by show _ = _; rw [hs.out]
        clear hsum hmod
        by_cases hg : (128 : Int) ≤ (c.toNat : Int)
        · have HR : Hid (rv l = rvF (k + 1) (acc + c.toNat % 128 * 128 ^ k) (l.drop (k + 1))) := rv_more hlt HC.out hrv.out (by omega) hg
          go_wp2
          go_round
          case rel => exact ⟨k + 1, acc + c.toNat % 128 * 128 ^ k, 128 ^ (k + 1), by omega, by omega, by go_num, by rw [HO.out, HA.out], by rw [hs.out, Nat.pow_succ]; simp, rfl, group_lt _ _ _ hacc.out, HR⟩
          case measure => simp [intOf]; omega
        · by_cases h0 : 0 < k
          · by_cases hz : ((c.toNat : Nat) : Int) = 0
            · have gz : (((c.toNat : Nat) : Int) == 0) = true := by simp; omega
              have HR : Hid (rv l = (0, 0, 4)) := rv_form0 hlt HC.out hrv.out h0 hz
              clear hz
              go_wp2
              go_ret3
              exact ⟨by rw [HR.out]; rfl, rfl⟩
            · have gz : (((c.toNat : Nat) : Int) == 0) = false := by simp; omega
              have HR : Hid (rv l = (acc + c.toNat % 128 * 128 ^ k, k + 1, 0)) := rv_done hlt HC.out hrv.out (by omega) (by omega) (Or.inr hz)
              clear hz
              go_wp2
              go_ret3
              exact ⟨by rw [HR.out, HO.out, HA.out]; rfl, rfl⟩
          · have HR : Hid (rv l = (acc + c.toNat % 128 * 128 ^ k, k + 1, 0)) := rv_done hlt HC.out hrv.out (by omega) (by omega) (Or.inl (by omega))
            go_wp2
            go_ret3
            exact ⟨by rw [HR.out, HO.out, HA.out]; rfl, rfl⟩
      · have g9 : (((k : Nat) : Int) == 9) = true := by simp; omega
        have h0 : 0 < k := by omega
        clear hmod
        by_cases hg : (1 : Int) < (c.toNat : Int)
        · have HR : Hid (rv l = (0, 0, 4)) := rv_form9 hlt HC.out hrv.out h9 hg
          clear h9
          go_wp2
          go_ret3
          exact ⟨by rw [HR.out]; rfl, rfl⟩
        · have hsum := done_lt64 acc c.toNat k hacc.out hk9 (by omega)
          rw [← hs.out] at hsum
          have HO : Hid _ := wrap_two acc c.toNat s hsum
          have HA : Hid (acc + c.toNat % 128 * s = acc + c.toNat % 128 * 128 ^ k) := by show _ = _; rw [hs.out]
          clear hsum
          by_cases hz : ((c.toNat : Nat) : Int) = 0
          · have gz : (((c.toNat : Nat) : Int) == 0) = true := by simp; omega
            have HR : Hid (rv l = (0, 0, 4)) := rv_form0 hlt HC.out hrv.out h0 hz
            clear hz h9
            go_wp2
            go_ret3
            exact ⟨by rw [HR.out]; rfl, rfl⟩
          · have gz : (((c.toNat : Nat) : Int) == 0) = false := by simp; omega
            have HR : Hid (rv l = (acc + c.toNat % 128 * 128 ^ k, k + 1, 0)) := rv_done hlt HC.out hrv.out (by omega) (by omega) (Or.inr hz)
            clear hz h9
            go_wp2
            go_ret3
            exact ⟨by rw [HR.out, HO.out, HA.out]; rfl, rfl⟩
    · have HR : Hid (rv l = (0, 0, 2)) := rv_short (by omega) hrv.out
      have gl : (((k : Nat) : Int) == ((l.length : Nat) : Int)) = true := by simp; omega
      go_wp2
      go_ret3
      exact ⟨by rw [HR.out]; rfl, rfl⟩
end Go.Proofs.Ytdhjlongdfgejaa
