/-
  What (flumeref2.Turn).do answers.
-/
import Derived.Test.YtmhbcpbppcihfaaCrcR
namespace Go.Proofs.Ytmhbcpbppcihfaa.Crc
open Go.RowKit

theorem zero32 : (∀ w, (zeroValue 44).run Try.prog w = .ok (.agg (Array.replicate 32 (.int .u32 0))) w) ∧ (Try.prog.info? 44).map (·.size) = some 32 :=
  zero_of_info (by kernel_rfl)
theorem b_shr_and (t : R) (k : Nat) : bits BinOp.and IntKind.u32 ((t.toNat : Int) / 2 ^ k) 1 = if t.getLsbD k then 1 else 0 := by
  have e : (t.toNat : Int) / 2 ^ k = ((t.toNat / 2 ^ k : Nat) : Int) := by simp
  have hl : t.toNat / 2 ^ k < 4294967296 := Nat.lt_of_le_of_lt (Nat.div_le_self _ _) (lt32 t)
  rw [e, show (1 : Int) = ((1 : Nat) : Int) from rfl, u32_and_nat _ _ hl (by decide), Nat.and_one_is_mod]
  have h : t.getLsbD k = decide (t.toNat / 2 ^ k % 2 = 1) := by rw [BitVec.getLsbD, Nat.testBit_eq_decide_div_mod_eq]
  rw [h]
  by_cases h1 : t.toNat / 2 ^ k % 2 = 1
  · rw [h1]; rfl
  · rw [if_neg (by simpa using h1)]; omega

set_option maxRecDepth 100000 in
set_option maxHeartbeats 400000 in
theorem do_any (w : World) (T : Array Value) (t : Nat → R) (c : R) (hs : T.size = 32) (h1 : T.all (·.oneCell') = true) (hT : ∀ i, i < 32 → T[i]? = some (.int .u32 ((t i).toNat : Int))) :
    Calls Try.prog 29 #[.agg T, .int .u32 (c.toNat : Int)] w fun e w' => e = .returned (.int .u32 ((pick t c 32).toNat : Int)) ∧ Below w.heap.size w w' := by
  have hlt := lt32 c
  have HT : Hid (∀ i, i < 32 → T[i]? = some (.int .u32 ((t i).toNat : Int))) := hT
  have HS : Hid (T.size = 32) := hs
  have H1 : Hid (T.all (·.oneCell') = true) := h1
  clear hT hs h1
  go_enter Try.func29, Try.ntmps29
  go_wp2_with fail
  go_loopw [5, 6] (fun vo vi wr => ∃ k : Nat, k ≤ 32 ∧ vo = .int .u32 ((pick t c k).toNat : Int) ∧ vi = .int .i64 (k : Int) ∧ wr = w.alloc (.cells T 44)) (fun _ i _ => 32 - (intOf i).toNat)
  case atStart => exact ⟨0, by omega, rfl, rfl, rfl⟩
  case round =>
    obtain ⟨k, hk, rfl, rfl, rfl⟩ := hrel
    by_cases h32 : k < 32
    · have hand := b_shr_and c k
      cases hbit : c.getLsbD k with
      | true =>
        rw [hbit, if_pos rfl] at hand
        have hg := HT.out k h32
        have hx := b_xor (pick t c k) (t k)
        have HP : Hid (pick t c k ^^^ t k = pick t c (k + 1)) := by show _ = _; rw [pick, hbit]; rfl
        rw [HP.out] at hx
        clear hbit
        go_wp2_with fail
        go_roundw
        case rel => exact ⟨k + 1, by omega, rfl, by go_num, by trivial⟩
        case measure => simp [intOf]; omega
      | false =>
        rw [hbit] at hand
        simp only [Bool.false_eq_true, if_false] at hand
        have HP : Hid (pick t c k = pick t c (k + 1)) := by show _ = _; rw [pick, hbit]; simp
        clear hbit
        rw [HP.out]
        go_wp2_with fail
        go_roundw
        case rel => exact ⟨k + 1, by omega, rfl, by go_num, by trivial⟩
        case measure => simp [intOf]; omega
    · obtain rfl : k = 32 := by omega
      go_wp2_with fail
      go_ret
      exact ⟨rfl, box_below w _⟩
#print axioms do_any
end Go.Proofs.Ytmhbcpbppcihfaa.Crc
