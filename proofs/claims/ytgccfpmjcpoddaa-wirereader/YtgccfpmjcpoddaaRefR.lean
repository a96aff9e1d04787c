/-
  What flumeref1's ReadVarint and ReadString answer: the same as wire's.
-/
import Derived.Test.YtgccfpmjcpoddaaRString
namespace Go.Proofs.Ytgccfpmjcpoddaa
open Go.RowKit

theorem pow128 (k : Nat) (h : k ≤ 9) : 1 ≤ 128 ^ k ∧ 128 ^ k ≤ 9223372036854775808 := by
  constructor
  · exact Nat.pos_of_ne_zero (by simp)
  · have : 128 ^ k ≤ 128 ^ 9 := Nat.pow_le_pow_right (by omega) h
    simpa using this
theorem wrap_two (acc c s : Nat) (h : acc + c % 128 * s < 18446744073709551616) : IntKind.u64.wrap ((acc : Int) + IntKind.u64.wrap ((c : Int) % 128 * (s : Int))) = ((acc + c % 128 * s : Nat) : Int) := by
  have e : (c : Int) % 128 * (s : Int) = ((c % 128 * s : Nat) : Int) := by simp
  have h1 : IntKind.u64.wrap ((c % 128 * s : Nat) : Int) = ((c % 128 * s : Nat) : Int) := wrap_u64_in _ (by omega) (by omega)
  rw [e, h1, ← Int.natCast_add, wrap_u64_in _ (by omega) (by omega)]
set_option maxRecDepth 100000 in
set_option maxHeartbeats 1000000 in
theorem refReadVarint_any (w : World) (x : Value) (l : List UInt8) (hx : Sl w x l) :
    Calls Try.prog 25 #[x] w fun e w' => e = .returned (rvVal (rv l)) ∧ w' = w := by
  obtain ⟨ao, ca, rfl, h2, h3, h4, h5⟩ := hx
  have hmax : l.length ≤ 9223372036854775807 := by unfold maxLen at h4; omega
  clear h2 h3 h4
  go_enter Try.func25, Try.ntmps25
  go_wp2
  go_loop [5, 6, 7] (fun n sc i => ∃ (k acc s : Nat), k ≤ l.length ∧ k ≤ 9 ∧ i = .int .i64 k ∧ n = .int .u64 acc ∧ sc = .int .u64 s ∧ Hid (s = 128 ^ k) ∧ Hid (acc < 128 ^ k) ∧ Hid (rv l = rvF k acc (l.drop k))) (fun _ _ i => 10 - (intOf i).toNat)
  case atStart => exact ⟨0, 0, 1, Nat.zero_le _, by omega, rfl, rfl, rfl, rfl, by simp [Hid], rfl⟩
  case round =>
    obtain ⟨k, acc, s, hk, hk9, rfl, rfl, rfl, hs, hacc, hrv⟩ := hrel
    have hsb := pow128 k hk9
    rw [← hs.out] at hsb
    obtain ⟨hs1, hs2⟩ := hsb
    by_cases hlt : k < l.length
    · obtain ⟨b1, o1, rfl, h1⟩ := h5.at (by omega)
      have c1 := h1 k hlt
      have hc := l[k].toNat_lt
      have gl : (((k : Nat) : Int) == ((l.length : Nat) : Int)) = false := by simp; omega
      clear h1 h5
      obtain ⟨c, hcc⟩ : ∃ c, c = l[k] := ⟨_, rfl⟩
      rw [← hcc] at c1 hc
      have HC : Hid (c = l[k]) := hcc
      clear hcc
      have hmod : c.toNat % 128 * s ≤ 127 * s := Nat.mul_le_mul_right _ (by omega)
      have hl : k < 9 ∨ k = 9 := by omega
      rcases hl with h9 | h9
      · have g9 : (((k : Nat) : Int) == 9) = false := by simp; omega
        have hsm : s ≤ 72057594037927936 := by
          rw [hs.out]
          have : 128 ^ k ≤ 128 ^ 8 := Nat.pow_le_pow_right (by omega) (by omega)
          simpa using this
        have hsum := group_lt64 acc c.toNat k hacc.out (by omega)
        rw [← hs.out] at hsum
        have HO : Hid _ := wrap_two acc c.toNat s hsum
        have HA : Hid (acc + c.toNat % 128 * s = acc + c.toNat % 128 * 128 ^ k) := by show _ = _; rw [hs.out]
        clear hsum hmod
        by_cases hg : (128 : Int) ≤ (c.toNat : Int)
        · have HR : Hid (rv l = rvF (k + 1) (acc + c.toNat % 128 * 128 ^ k) (l.drop (k + 1))) := rv_more hlt HC.out hrv.out (by omega) hg
          go_wp2
          go_round
          case rel => exact ⟨k + 1, acc + c.toNat % 128 * 128 ^ k, 128 ^ (k + 1), by omega, by omega, by go_num, by rw [HO.out, HA.out], by rw [hs.out, Nat.pow_succ]; simp, rfl, group_lt _ _ _ hacc.out, HR⟩
          case measure => simp [intOf]; omega
        · by_cases h0 : 0 < k
          · by_cases hz : ((c.toNat : Nat) : Int) = 0
            · have gz : (((c.toNat : Nat) : Int) == 0) = true := by simp; omega
              have HR : Hid (rv l = (0, 0, 4)) := rv_form0 hlt HC.out hrv.out h0 hz
              clear hz
              go_wp2
              go_ret3
              exact ⟨by rw [HR.out]; rfl, rfl⟩
            · have gz : (((c.toNat : Nat) : Int) == 0) = false := by simp; omega
              have HR : Hid (rv l = (acc + c.toNat % 128 * 128 ^ k, k + 1, 0)) := rv_done hlt HC.out hrv.out (by omega) (by omega) (Or.inr hz)
              clear hz
              go_wp2
              go_ret3
              exact ⟨by rw [HR.out, HO.out, HA.out]; rfl, rfl⟩
          · have HR : Hid (rv l = (acc + c.toNat % 128 * 128 ^ k, k + 1, 0)) := rv_done hlt HC.out hrv.out (by omega) (by omega) (Or.inl (by omega))
            go_wp2
            go_ret3
            exact ⟨by rw [HR.out, HO.out, HA.out]; rfl, rfl⟩
      · have g9 : (((k : Nat) : Int) == 9) = true := by simp; omega
        have h0 : 0 < k := by omega
        clear hmod
        by_cases hg : (1 : Int) < (c.toNat : Int)
        · have HR : Hid (rv l = (0, 0, 4)) := rv_form9 hlt HC.out hrv.out h9 hg
          clear h9
          go_wp2
          go_ret3
          exact ⟨by rw [HR.out]; rfl, rfl⟩
        · have hsum := done_lt64 acc c.toNat k hacc.out hk9 (by omega)
          rw [← hs.out] at hsum
          have HO : Hid _ := wrap_two acc c.toNat s hsum
          have HA : Hid (acc + c.toNat % 128 * s = acc + c.toNat % 128 * 128 ^ k) := by show _ = _; rw [hs.out]
          clear hsum
          by_cases hz : ((c.toNat : Nat) : Int) = 0
          · have gz : (((c.toNat : Nat) : Int) == 0) = true := by simp; omega
            have HR : Hid (rv l = (0, 0, 4)) := rv_form0 hlt HC.out hrv.out h0 hz
            clear hz h9
            go_wp2
            go_ret3
            exact ⟨by rw [HR.out]; rfl, rfl⟩
          · have gz : (((c.toNat : Nat) : Int) == 0) = false := by simp; omega
            have HR : Hid (rv l = (acc + c.toNat % 128 * 128 ^ k, k + 1, 0)) := rv_done hlt HC.out hrv.out (by omega) (by omega) (Or.inr hz)
            clear hz h9
            go_wp2
            go_ret3
            exact ⟨by rw [HR.out, HO.out, HA.out]; rfl, rfl⟩
    · have HR : Hid (rv l = (0, 0, 2)) := rv_short (by omega) hrv.out
      have gl : (((k : Nat) : Int) == ((l.length : Nat) : Int)) = true := by simp; omega
      go_wp2
      go_ret3
      exact ⟨by rw [HR.out]; rfl, rfl⟩
set_option maxRecDepth 100000 in
set_option maxHeartbeats 800000 in
theorem refReadString_any (w : World) (x : Value) (l : List UInt8) (most : Int) (hx : Sl w x l) (hlen : l.length ≤ 140737488355328) (h0 : -9223372036854775808 ≤ most) (h1 : most ≤ 9223372036854775807) :
    Calls Try.prog 27 #[x, .int .i64 most] w fun e w' => ∃ v', e = .returned (.tuple #[v', .int .i64 ((rs l most).2.1 : Int), .int .i64 (rs l most).2.2]) ∧
      w'.ownsRow w.heap.size 5 1 v' (rs l most).1.length (bvals (rs l most).1) ∧ Below w.heap.size w w' := by
  by_cases hm : most < 0
  · have HR : Hid (rs l most = ([], 0, 1)) := by show _ = _; rw [rs, if_pos hm]
    go_enter Try.func27, Try.ntmps27
    go_wp2
    go_ret3
    exact ⟨_, by rw [HR.out]; rfl, by rw [HR.out]; exact World.ownsRow_nil _ _ _ _, Below.refl _ _⟩
  · have hb := rv_bounds l
    have hx0 := hx
    obtain ⟨n, hn⟩ : ∃ n, n = (rv l).1 := ⟨_, rfl⟩
    obtain ⟨k, hk⟩ : ∃ k, k = (rv l).2.1 := ⟨_, rfl⟩
    obtain ⟨er, he⟩ : ∃ er, er = (rv l).2.2 := ⟨_, rfl⟩
    have hrs : rs l most = if er ≠ 0 then ([], 0, er) else if most < (n : Int) then ([], 0, 3) else if l.length - k < n then ([], 0, 2) else ((l.drop k).take n, k + n, 0) := by
      rw [rs, if_neg hm, hn, hk, he]
    have hrv : rvVal (rv l) = .tuple #[.int .u64 (n : Int), .int .i64 (k : Int), .int .i64 er] := by rw [rvVal, hn, hk, he]
    rw [← hn, ← hk, ← he] at hb
    have HR : Hid (rvVal (rv l) = .tuple #[.int .u64 (n : Int), .int .i64 (k : Int), .int .i64 er]) := hrv
    clear hrv hn hk he
    obtain ⟨hb1, hb2, hb3, hb4, hb5, hb6⟩ := hb
    obtain ⟨ao, ca, rfl, h2, h3, h4, h5⟩ := hx
    by_cases h6 : er = 0
    · subst h6
      rw [if_neg (by simp)] at hrs
      by_cases h7 : most < (n : Int)
      · rw [if_pos h7] at hrs
        have HS : Hid _ := hrs
        clear hrs
        go_enter Try.func27, Try.ntmps27
        go_wp2_with fail
        refine (refReadVarint_any _ _ l hx0).mono ?_
        rintro e w2 ⟨rfl, rfl⟩
        rw [HR.out]
        go_wp2_with fail
        go_ret3
        exact ⟨_, by rw [HS.out]; rfl, by rw [HS.out]; exact World.ownsRow_nil _ _ _ _, Below.refl _ _⟩
      · rw [if_neg h7] at hrs
        by_cases h8 : l.length - k < n
        · rw [if_pos h8] at hrs
          have HS : Hid _ := hrs
          clear hrs
          go_enter Try.func27, Try.ntmps27
          go_wp2_with fail
          refine (refReadVarint_any _ _ l hx0).mono ?_
          rintro e w2 ⟨rfl, rfl⟩
          rw [HR.out]
          go_wp2_with fail
          go_ret3
          exact ⟨_, by rw [HS.out]; rfl, by rw [HS.out]; exact World.ownsRow_nil _ _ _ _, Below.refl _ _⟩
        · rw [if_neg h8] at hrs
          have HS : Hid _ := hrs
          have hk0 := hb6 rfl
          obtain ⟨b, off, rfl, hcells⟩ := h5.at (by omega)
          clear hrs hb6 hcells h2
          go_enter Try.func27, Try.ntmps27
          go_wp2_with fail
          refine (refReadVarint_any _ _ l hx0).mono ?_
          rintro e w2 ⟨rfl, rfl⟩
          rw [HR.out]
          by_cases hck : ca = k
          · obtain rfl : n = 0 := by omega
            subst hck
            go_wp2
            go_ret3
            exact ⟨.slice none 0 0, by rw [HS.out]; simp, by rw [HS.out]; exact World.ownsRow_nil _ _ _ _, Below.refl _ _⟩
          · have hsl : Sl w2 (.slice (some ⟨b, off + k, none⟩) (k + n - k) (ca - k)) ((l.drop k).take n) := by rw [Nat.add_sub_cancel_left]; exact sl_cut h5 k n ca (by omega) h3 h4
            go_wp2_with (at_builtin; refine wpList_append_bytes rfl (.const (.slice none 0 0)) (.tmp 38) 28 rfl w2.heap.size 5 Try.infoU8 Try.underlying28 _ _ [] ((l.drop k).take n) rfl (World.ownsRow_nil _ _ _ _) rfl hsl (by simp; omega) (Nat.le_refl _) ?_)
            intro v3 w3 o3 b3
            go_wp2
            go_ret3
            have hl : ((l.drop k).take n).length = n := by simp; omega
            exact ⟨v3, by rw [HS.out]; simp, by rw [HS.out, hl]; simpa [Nat.min_eq_left (show n ≤ l.length - k by omega)] using o3, b3⟩
    · have g6 : (er != 0) = true := by simpa using h6
      clear hb6
      rw [if_pos h6] at hrs
      have HS : Hid _ := hrs
      clear hrs h6
      go_enter Try.func27, Try.ntmps27
      go_wp2_with fail
      refine (refReadVarint_any _ _ l hx0).mono ?_
      rintro e w2 ⟨rfl, rfl⟩
      rw [HR.out]
      go_wp2_with fail
      go_ret3
      exact ⟨_, by rw [HS.out]; rfl, by rw [HS.out]; exact World.ownsRow_nil _ _ _ _, Below.refl _ _⟩
end Go.Proofs.Ytgccfpmjcpoddaa
