/-
  What flumeref1's Varint and ReadVarint answer: as wire's.
-/
import Derived.Test.YtojohcckaklmpaaDoorRVarint
namespace Go.Proofs.YtojohcckaklmpaaDoor
open Go.RowKit

theorem bval_add (m : Nat) : Value.int .u8 ((m : Int) % 128 + 128) = bval (UInt8.ofNat (m % 128 + 128)) := by
  rw [← u8_of _ (by omega)]
  simp
set_option maxRecDepth 100000 in
set_option maxHeartbeats 800000 in
theorem refVarint_any (w : World) (n : Int) (h0 : 0 ≤ n) (hn : n < 18446744073709551616) :
    Calls Tryd.prog 28 #[.int .u64 n] w fun e w' => ∃ v', e = .returned v' ∧ w'.ownsRow w.heap.size 5 1 v' (enc n.toNat).length (bvals (enc n.toNat)) ∧ Below w.heap.size w w' := by
  obtain ⟨n, rfl⟩ := Int.eq_ofNat_of_zero_le h0
  rw [Int.toNat_natCast]
  have HN : n < 18446744073709551616 := by omega
  clear h0 hn
  obtain ⟨i0, hi, hz0, hz1, hz2⟩ := info_parts Tryd.infoU8
  go_enter Tryd.func28, Tryd.ntmps28
  go_wp2
  go_loopw [0, 3] (fun x v wr => ∃ (m : Nat) (d : List UInt8), m < 18446744073709551616 ∧ x = .int .u64 m ∧ Hid (enc n = d ++ enc m) ∧ wr.ownsRow w.heap.size 5 1 v d.length (bvals d) ∧ Below w.heap.size w wr) (fun x _ _ => (intOf x).toNat)
  case atStart => exact ⟨n, [], HN, rfl, by simp [Hid], World.ownsRow_nil _ _ _ _, Below.refl _ _⟩
  case round =>
    obtain ⟨m, d, hm, rfl, henc, hown, hbel⟩ := hrel
    have hel := enc_len n
    have hsz := hbel.size
    by_cases hlt : m < 128
    · have hd : d.length ≤ 9 := by
        have h1 := enc_pos m
        rw [henc.out, List.length_append] at hel; omega
      clear hel
      go_wp2_with (at_builtin; refine wpList_append_own _ rfl (.tmp 15) (.tmp 18) 27 rfl w.heap.size 5 i0 (.int .u8 0) 1 1 Tryd.underlying27 hi hz0 hz1 hz2 rfl (by decide) _ _ _ rfl (hown.alloc _) ⟨wr.heap.size, 0, none⟩ 1 1 [.int .u8 m] rfl rfl (cell_one_new _ _ _) (by simp [Value.oneCell']) (by simp [maxLen]; omega) (by simp; omega) (by simp; omega) ?_)
      intro v' w1 hown' hgrow _
      rw [u8_of m (by omega), bvals_one] at hown'
      have hb1 : Below w.heap.size w w1 := (hbel.alloc (by omega) _).grown hgrow (by simp; omega) (fun k hk => (hown.lt k hk).1)
      go_wp2
      go_ret
      refine ⟨_, rfl, ?_, hb1⟩
      rw [henc.out, enc_small hlt]
      simpa [Nat.add_assoc] using hown'
    · have hd : d.length ≤ 8 := by
        have h1 := enc_pos (m / 128)
        rw [henc.out, enc_big (by omega) (by omega), List.length_append, List.length_cons] at hel; omega
      clear hel
      go_wp2_with (at_builtin; refine wpList_append_own _ rfl (.tmp 6) (.tmp 11) 27 rfl w.heap.size 5 i0 (.int .u8 0) 1 1 Tryd.underlying27 hi hz0 hz1 hz2 rfl (by decide) _ _ _ rfl (hown.alloc _) ⟨wr.heap.size, 0, none⟩ 1 1 [_] rfl rfl (cell_one_new _ _ _) (by simp [Value.oneCell']) (by simp [maxLen]; omega) (by simp; omega) (by simp; omega) ?_)
      intro v' w1 hown' hgrow _
      rw [bval_add, bvals_one] at hown'
      have hb1 : Below w.heap.size w w1 := (hbel.alloc (by omega) _).grown hgrow (by simp; omega) (fun k hk => (hown.lt k hk).1)
      go_wp2
      go_roundw
      case rel =>
        refine ⟨m / 128, d ++ [UInt8.ofNat (m % 128 + 128)], by omega, by go_num, ?_, ?_, hb1⟩
        · show _ = _
          rw [henc.out, enc_big (by omega) hm]; simp
        · simpa [Nat.add_assoc] using hown'
      case measure => simp [intOf]; omega
theorem pow128 (k : Nat) (h : k ≤ 9) : 1 ≤ 128 ^ k ∧ 128 ^ k ≤ 9223372036854775808 := by
  constructor
  · exact Nat.pos_of_ne_zero (by simp)
  · have : 128 ^ k ≤ 128 ^ 9 := Nat.pow_le_pow_right (by omega) h
    simpa using this
theorem wrap_two (acc c s : Nat) (h : acc + c % 128 * s < 18446744073709551616) : IntKind.u64.wrap ((acc : Int) + IntKind.u64.wrap ((c : Int) % 128 * (s : Int))) = ((acc + c % 128 * s : Nat) : Int) := by
  have e : (c : Int) % 128 * (s : Int) = ((c % 128 * s : Nat) : Int) := by simp
  have h1 : IntKind.u64.wrap ((c % 128 * s : Nat) : Int) = ((c % 128 * s : Nat) : Int) := wrap_u64_in _ (by omega) (by omega)
  rw [e, h1, ← Int.natCast_add, wrap_u64_in _ (by omega) (by omega)]
set_option maxRecDepth 100000 in
set_option maxHeartbeats 1000000 in
theorem refReadVarint_any (w : World) (x : Value) (l : List UInt8) (hx : Sl w x l) :
    Calls Tryd.prog 39 #[x] w fun e w' => e = .returned (rvVal (rv l)) ∧ w' = w := by
  obtain ⟨ao, ca, rfl, h2, h3, h4, h5⟩ := hx
  have hmax : l.length ≤ 9223372036854775807 := by unfold maxLen at h4; omega
  clear h2 h3 h4
  go_enter Tryd.func39, Tryd.ntmps39
  go_wp2
  go_loop [5, 6, 7] (fun n sc i => ∃ (k acc s : Nat), k ≤ l.length ∧ k ≤ 9 ∧ i = .int .i64 k ∧ n = .int .u64 acc ∧ sc = .int .u64 s ∧ Hid (s = 128 ^ k) ∧ Hid (acc < 128 ^ k) ∧ Hid (rv l = rvF k acc (l.drop k))) (fun _ _ i => 10 - (intOf i).toNat)
  case atStart => exact ⟨0, 0, 1, Nat.zero_le _, by omega, rfl, rfl, rfl, rfl, by simp [Hid], rfl⟩
  case round =>
    obtain ⟨k, acc, s, hk, hk9, rfl, rfl, rfl, hs, hacc, hrv⟩ := hrel
    have hsb := pow128 k hk9
    rw [← hs.out] at hsb
    obtain ⟨hs1, hs2⟩ := hsb
    by_cases hlt : k < l.length
    · obtain ⟨b1, o1, rfl, h1⟩ := h5.at (by omega)
      have c1 := h1 k hlt
      have hc := l[k].toNat_lt
      have gl : (((k : Nat) : Int) == ((l.length : Nat) : Int)) = false := by simp; omega
      clear h1 h5
      obtain ⟨c, hcc⟩ : ∃ c, c = l[k] := ⟨_, rfl⟩
      rw [← hcc] at c1 hc
      have HC : Hid (c = l[k]) := hcc
      clear hcc
      have hmod : c.toNat % 128 * s ≤ 127 * s := Nat.mul_le_mul_right _ (by omega)
      have hl : k < 9 ∨ k = 9 := by omega
      rcases hl with h9 | h9
      · have g9 : (((k : Nat) : Int) == 9) = false := by simp; omega
        have hsm : s ≤ 72057594037927936 := by
          rw [hs.out]
          have : 128 ^ k ≤ 128 ^ 8 := Nat.pow_le_pow_right (by omega) (by omega)
          simpa using this
        have hsum := group_lt64 acc c.toNat k hacc.out (by omega)
        rw [← hs.out] at hsum
        have HO : Hid _ := wrap_two acc c.toNat s hsum
        have HA : Hid (acc + c.toNat % 128 * s = acc + c.toNat % 128 * 128 ^ k) := by show _ = _; rw [hs.out]
        clear hsum hmod
        by_cases hg : (128 : Int) ≤ (c.toNat : Int)
        · have HR : Hid (rv l = rvF (k + 1) (acc + c.toNat % 128 * 128 ^ k) (l.drop (k + 1))) := rv_more hlt HC.out hrv.out (by omega) hg
          go_wp2
          go_round
          case rel => exact ⟨k + 1, acc + c.toNat % 128 * 128 ^ k, 128 ^ (k + 1), by omega, by omega, by go_num, by rw [HO.out, HA.out], by rw [hs.out, Nat.pow_succ]; simp, rfl, group_lt _ _ _ hacc.out, HR⟩
          case measure => simp [intOf]; omega
        · by_cases h0 : 0 < k
          · by_cases hz : ((c.toNat : Nat) : Int) = 0
            · have gz : (((c.toNat : Nat) : Int) == 0) = true := by simp; omega
              have HR : Hid (rv l = (0, 0, 4)) := rv_form0 hlt HC.out hrv.out h0 hz
              clear hz
              go_wp2
              go_ret3
              exact ⟨by rw [HR.out]; rfl, rfl⟩
            · have gz : (((c.toNat : Nat) : Int) == 0) = false := by simp; omega
              have HR : Hid (rv l = (acc + c.toNat % 128 * 128 ^ k, k + 1, 0)) := rv_done hlt HC.out hrv.out (by omega) (by omega) (Or.inr hz)
              clear hz
              go_wp2
              go_ret3
              exact ⟨by rw [HR.out, HO.out, HA.out]; rfl, rfl⟩
          · have HR : Hid (rv l = (acc + c.toNat % 128 * 128 ^ k, k + 1, 0)) := rv_done hlt HC.out hrv.out (by omega) (by omega) (Or.inl (by omega))
            go_wp2
            go_ret3
            exact ⟨by rw [HR.out, HO.out, HA.out]; rfl, rfl⟩
      · have g9 : (((k : Nat) : Int) == 9) = true := by simp; omega
        have h0 : 0 < k := by omega
        clear hmod
        by_cases hg : (1 : Int) < (c.toNat : Int)
        · have HR : Hid (rv l = (0, 0, 4)) := rv_form9 hlt HC.out hrv.out h9 hg
          clear h9
          go_wp2
          go_ret3
          exact ⟨by rw [HR.out]; rfl, rfl⟩
        · have hsum := done_lt64 acc c.toNat k hacc.out hk9 (by omega)
          rw [← hs.out] at hsum
          have HO : Hid _ := wrap_two acc c.toNat s hsum
          have HA : Hid (acc + c.toNat % 128 * s = acc + c.toNat % 128 * 128 ^ k) := by show _ = _; rw [hs.out]
          clear hsum
          by_cases hz : ((c.toNat : Nat) : Int) = 0
          · have gz : (((c.toNat : Nat) : Int) == 0) = true := by simp; omega
            have HR : Hid (rv l = (0, 0, 4)) := rv_form0 hlt HC.out hrv.out h0 hz
            clear hz h9
            go_wp2
            go_ret3
            exact ⟨by rw [HR.out]; rfl, rfl⟩
          · have gz : (((c.toNat : Nat) : Int) == 0) = false := by simp; omega
            have HR : Hid (rv l = (acc + c.toNat % 128 * 128 ^ k, k + 1, 0)) := rv_done hlt HC.out hrv.out (by omega) (by omega) (Or.inr hz)
            clear hz h9
            go_wp2
            go_ret3
            exact ⟨by rw [HR.out, HO.out, HA.out]; rfl, rfl⟩
    · have HR : Hid (rv l = (0, 0, 2)) := rv_short (by omega) hrv.out
      have gl : (((k : Nat) : Int) == ((l.length : Nat) : Int)) = true := by simp; omega
      go_wp2
      go_ret3
      exact ⟨by rw [HR.out]; rfl, rfl⟩
end Go.Proofs.YtojohcckaklmpaaDoor
