/-
  What wire.ReadVarint answers, as a plain function on bytes (rv).
-/
import Derived.Test.YtdhjlongdfgejaaForms
namespace Go.Proofs.Ytdhjlongdfgejaa
open Go.RowKit

def rvF : Nat → Nat → List UInt8 → Nat × Nat × Int
  | _, _, [] => (0, 0, 2)
  | i, acc, c :: r =>
    if i = 9 ∧ 1 < c.toNat then (0, 0, 4)
    else if 128 ≤ c.toNat then rvF (i + 1) (acc + c.toNat % 128 * 128 ^ i) r
    else if 0 < i ∧ c.toNat = 0 then (0, 0, 4)
    else (acc + c.toNat % 128 * 128 ^ i, i + 1, 0)
/-- What ReadVarint answers of bytes: the number, how many bytes, the error's number. -/
def rv (l : List UInt8) : Nat × Nat × Int := rvF 0 0 l

def rvVal (r : Nat × Nat × Int) : Value := .tuple #[.int .u64 (r.1 : Int), .int .i64 (r.2.1 : Int), .int .i64 r.2.2]

theorem pow7 (k : Nat) : (2 : Nat) ^ (7 * k) = 128 ^ k := by rw [Nat.pow_mul]
theorem or_add (a m k : Nat) (h : a < 2 ^ k) : a ||| m * 2 ^ k = a + m * 2 ^ k := by
  rw [← Nat.shiftLeft_eq, Nat.or_comm, ← Nat.shiftLeft_add_eq_or_of_lt h, Nat.add_comm]
theorem wrap_u64_in (x : Int) (h0 : 0 ≤ x) (h1 : x < 18446744073709551616) : IntKind.u64.wrap x = x := by
  simp only [IntKind.wrap, IntKind.bits, IntKind.signed]
  simp only [Bool.false_and, Bool.false_eq_true, if_false]
  exact Int.emod_eq_of_lt h0 (by simpa using h1)
theorem or_shift (acc c s : Nat) (ha : acc < 2 ^ s) (hb : acc + c * 2 ^ s < 18446744073709551616) (x : Int) (hx : x = ((c * 2 ^ s : Nat) : Int)) :
    bits BinOp.or IntKind.u64 (acc : Int) (IntKind.u64.wrap x) = ((acc + c * 2 ^ s : Nat) : Int) := by
  subst hx
  rw [wrap_u64_in _ (by omega) (by omega), u64_or_nat _ _ (by omega) (by omega), or_add _ _ _ ha]
theorem or_group (acc c k : Nat) (ha : acc < 128 ^ k) (hb : acc + c % 128 * 128 ^ k < 18446744073709551616) :
    bits BinOp.or IntKind.u64 (acc : Int) (IntKind.u64.wrap ((c : Int) % 128 * 2 ^ (7 * k))) = ((acc + c % 128 * 128 ^ k : Nat) : Int) := by
  rw [← pow7] at ha hb ⊢
  exact or_shift acc (c % 128) (7 * k) ha hb _ (by simp)
theorem group_lt (acc c k : Nat) (ha : acc < 128 ^ k) : acc + c % 128 * 128 ^ k < 128 ^ (k + 1) := by
  have h1 : c % 128 * 128 ^ k ≤ 127 * 128 ^ k := Nat.mul_le_mul_right _ (by omega)
  rw [Nat.pow_succ]; omega
theorem group_lt64 (acc c k : Nat) (ha : acc < 128 ^ k) (hk : k ≤ 8) : acc + c % 128 * 128 ^ k < 18446744073709551616 := by
  have h1 := group_lt acc c k ha
  have h2 : 128 ^ (k + 1) ≤ 128 ^ 9 := Nat.pow_le_pow_right (by omega) (by omega)
  omega
theorem drop_cons (l : List UInt8) (k : Nat) (h : k < l.length) : l.drop k = l[k] :: l.drop (k + 1) := List.drop_eq_getElem_cons h

theorem rv_form9 {l : List UInt8} {k acc : Nat} {c : UInt8} (hk : k < l.length) (hc : c = l[k]) (hrv : rv l = rvF k acc (l.drop k)) (h9 : k = 9) (hg : 1 < (c.toNat : Int)) : rv l = (0, 0, 4) := by
  rw [hrv, drop_cons l k hk, rvF, ← hc, if_pos ⟨h9, by omega⟩]
theorem rv_more {l : List UInt8} {k acc : Nat} {c : UInt8} (hk : k < l.length) (hc : c = l[k]) (hrv : rv l = rvF k acc (l.drop k)) (h9 : ¬ k = 9) (hg : 128 ≤ (c.toNat : Int)) : rv l = rvF (k + 1) (acc + c.toNat % 128 * 128 ^ k) (l.drop (k + 1)) := by
  rw [hrv, drop_cons l k hk, rvF, ← hc, if_neg (fun h => h9 h.1), if_pos (by omega)]
theorem rv_form0 {l : List UInt8} {k acc : Nat} {c : UInt8} (hk : k < l.length) (hc : c = l[k]) (hrv : rv l = rvF k acc (l.drop k)) (h0 : 0 < k) (hg : (c.toNat : Int) = 0) : rv l = (0, 0, 4) := by
  rw [hrv, drop_cons l k hk, rvF, ← hc, if_neg (by omega), if_neg (by omega), if_pos ⟨h0, by omega⟩]
theorem rv_done {l : List UInt8} {k acc : Nat} {c : UInt8} (hk : k < l.length) (hc : c = l[k]) (hrv : rv l = rvF k acc (l.drop k)) (h9 : k = 9 → (c.toNat : Int) ≤ 1) (hg : (c.toNat : Int) < 128) (h0 : k = 0 ∨ (c.toNat : Int) ≠ 0) : rv l = (acc + c.toNat % 128 * 128 ^ k, k + 1, 0) := by
  rw [hrv, drop_cons l k hk, rvF, ← hc, if_neg (fun h => by have := h9 h.1; omega), if_neg (by omega), if_neg (by omega)]
theorem rv_short {l : List UInt8} {k acc : Nat} (hk : l.length ≤ k) (hrv : rv l = rvF k acc (l.drop k)) : rv l = (0, 0, 2) := by
  rw [hrv, List.drop_of_length_le hk, rvF]
theorem done_lt64 (acc c k : Nat) (ha : acc < 128 ^ k) (hk : k ≤ 9) (h9 : k = 9 → (c : Int) ≤ 1) : acc + c % 128 * 128 ^ k < 18446744073709551616 := by
  by_cases h : k = 9
  · subst h
    have hc := h9 rfl
    have h1 : c % 128 * 128 ^ 9 ≤ 1 * 128 ^ 9 := Nat.mul_le_mul_right _ (by omega)
    have : (128 : Nat) ^ 9 = 9223372036854775808 := by decide
    omega
  · exact group_lt64 acc c k ha (by omega)

set_option maxRecDepth 100000 in
set_option maxHeartbeats 800000 in
theorem readVarint_any (w : World) (x : Value) (l : List UInt8) (hx : Sl w x l) :
    Calls Try.prog 74 #[x] w fun e w' => e = .returned (rvVal (rv l)) ∧ w' = w := by
  obtain ⟨ao, ca, rfl, h2, h3, h4, h5⟩ := hx
  have hmax : l.length ≤ 9223372036854775807 := by unfold maxLen at h4; omega
  clear h2 h3 h4
  go_enter Try.func74, Try.ntmps74
  go_wp2
  go_loop [5, 10] (fun n i => ∃ (k acc : Nat), k ≤ l.length ∧ k ≤ 9 ∧ i = .int .i64 k ∧ n = .int .u64 acc ∧ Hid (acc < 128 ^ k) ∧ Hid (rv l = rvF k acc (l.drop k))) (fun _ i => l.length - (intOf i).toNat)
  case atStart => exact ⟨0, 0, Nat.zero_le _, by omega, rfl, rfl, by simp [Hid], rfl⟩
  case round =>
    obtain ⟨k, acc, hk, hk9, rfl, rfl, hacc, hrv⟩ := hrel
    by_cases hlt : k < l.length
    · obtain ⟨b1, o1, rfl, h1⟩ := h5.at (by omega)
      have c1 := h1 k hlt
      have hc := l[k].toNat_lt
      clear h1 h5
      obtain ⟨c, hcc⟩ : ∃ c, c = l[k] := ⟨_, rfl⟩
      rw [← hcc] at c1 hc
      have HC : Hid (c = l[k]) := hcc
      clear hcc
      have hl : k < 9 ∨ k = 9 := by omega
      rcases hl with h9 | h9
      · have g9 : (((k : Nat) : Int) == 9) = false := by simp; omega
        by_cases hg : (128 : Int) ≤ (c.toNat : Int)
        · have HR : Hid (rv l = rvF (k + 1) (acc + c.toNat % 128 * 128 ^ k) (l.drop (k + 1))) := rv_more hlt HC.out hrv.out (by omega) hg
          go_wp2
          go_round
          case rel => exact ⟨k + 1, acc + c.toNat % 128 * 128 ^ k, by omega, by omega, by go_num, by rw [or_group acc c.toNat k hacc.out (group_lt64 _ _ _ hacc.out (by omega))], group_lt _ _ _ hacc.out, HR⟩
          case measure => simp [intOf]; omega
        · by_cases h0 : 0 < k
          · by_cases hz : ((c.toNat : Nat) : Int) = 0
            · have gz : (((c.toNat : Nat) : Int) == 0) = true := by simp; omega
              have HR : Hid (rv l = (0, 0, 4)) := rv_form0 hlt HC.out hrv.out h0 hz
              clear hz
              go_wp2
              go_ret3
              exact ⟨by rw [HR.out]; rfl, rfl⟩
            · have gz : (((c.toNat : Nat) : Int) == 0) = false := by simp; omega
              have HR : Hid (rv l = (acc + c.toNat % 128 * 128 ^ k, k + 1, 0)) := rv_done hlt HC.out hrv.out (by omega) (by omega) (Or.inr hz)
              have HO : Hid _ := or_group acc c.toNat k hacc.out (group_lt64 _ _ _ hacc.out (by omega))
              clear hz
              go_wp2
              go_ret3
              exact ⟨by rw [HR.out, HO.out]; rfl, rfl⟩
          · have HR : Hid (rv l = (acc + c.toNat % 128 * 128 ^ k, k + 1, 0)) := rv_done hlt HC.out hrv.out (by omega) (by omega) (Or.inl (by omega))
            have HO : Hid _ := or_group acc c.toNat k hacc.out (group_lt64 _ _ _ hacc.out (by omega))
            go_wp2
            go_ret3
            exact ⟨by rw [HR.out, HO.out]; rfl, rfl⟩
      · have g9 : (((k : Nat) : Int) == 9) = true := by simp; omega
        have h0 : 0 < k := by omega
        by_cases hg : (1 : Int) < (c.toNat : Int)
        · have HR : Hid (rv l = (0, 0, 4)) := rv_form9 hlt HC.out hrv.out h9 hg
          clear h9
          go_wp2
          go_ret3
          exact ⟨by rw [HR.out]; rfl, rfl⟩
        · by_cases hz : ((c.toNat : Nat) : Int) = 0
          · have gz : (((c.toNat : Nat) : Int) == 0) = true := by simp; omega
            have HR : Hid (rv l = (0, 0, 4)) := rv_form0 hlt HC.out hrv.out h0 hz
            clear hz h9
            go_wp2
            go_ret3
            exact ⟨by rw [HR.out]; rfl, rfl⟩
          · have gz : (((c.toNat : Nat) : Int) == 0) = false := by simp; omega
            have HR : Hid (rv l = (acc + c.toNat % 128 * 128 ^ k, k + 1, 0)) := rv_done hlt HC.out hrv.out (by omega) (by omega) (Or.inr hz)
            have HO : Hid _ := or_group acc c.toNat k hacc.out (done_lt64 _ _ _ hacc.out hk9 (by omega))
            clear hz h9
            go_wp2
            go_ret3
            exact ⟨by rw [HR.out, HO.out]; rfl, rfl⟩
    · have HR : Hid (rv l = (0, 0, 2)) := rv_short (by omega) hrv.out
      go_wp2
      go_ret3
      exact ⟨by rw [HR.out]; rfl, rfl⟩
#print axioms readVarint_any
end Go.Proofs.Ytdhjlongdfgejaa
