/-
  The walk of RealOrder.
-/
import Derived.Test.YtdjaekmndhhjgaaGreatDoorRlY
import Derived.Test.YtdjaekmndhhjgaaGreatDoorRlF1
import Derived.Deep.Cut
namespace Go.Proofs.YtdjaekmndhhjgaaGreatDoor.Rl
open Go.RowKit
set_option maxRecDepth 100000

theorem cmp_anti (a b : Nat) : cmpB b a = -cmpB a b := by unfold cmpB cmpZ; (repeat' split) <;> omega
theorem cmp_cases (a b : Nat) : (cmpB a b = -1 ∧ keyB a < keyB b) ∨ (cmpB a b = 0 ∧ keyB a = keyB b) ∨ (cmpB a b = 1 ∧ keyB b < keyB a) := by unfold cmpB cmpZ; (repeat' split) <;> omega
theorem cmp_trans {a b c : Nat} (h : cmpB a b ≤ 0) (g : cmpB b c ≤ 0) : cmpB a c ≤ 0 := by
  rcases cmp_cases a b with h1 | h1 | h1 <;> rcases cmp_cases b c with h2 | h2 | h2 <;> rcases cmp_cases a c with h3 | h3 | h3 <;> omega
theorem unkey_key {b : Nat} (hb : b < 18446744073709551616) : unkeyB (keyB b) = canonB b ∧ isKey (keyB b) = true := by
  unfold canonB
  cases hn : nanB b
  · have h1 : ¬ b % 9223372036854775808 > 9218868437227405312 := of_decide_eq_false hn
    simp only [Bool.false_eq_true, if_false]
    unfold keyB
    rw [hn]
    simp only [Bool.false_eq_true, if_false]
    by_cases h : b < 9223372036854775808
    · rw [if_pos h]
      refine ⟨?_, decide_eq_true (by omega)⟩
      rw [unkeyB, if_neg (by omega), if_neg (by omega), if_neg (by omega)]; omega
    · rw [if_neg h]
      refine ⟨?_, decide_eq_true (by omega)⟩
      rw [unkeyB, if_neg (by omega), if_neg (by omega), if_pos (by omega)]; omega
  · rw [show keyB b = 18446744073709551615 from (keyB_nan b hb).2 hn]
    exact ⟨by rw [unkeyB, if_pos rfl, if_pos rfl], decide_eq_true (Or.inl rfl)⟩
set_option maxHeartbeats 2000000 in
theorem order_walk (W : World) (a b c : Int) (hL : Laid W) (ha : 0 ≤ a ∧ a < 18446744073709551616) (hb : 0 ≤ b ∧ b < 18446744073709551616) (hc : 0 ≤ c ∧ c < 18446744073709551616) :
    Calls Tryz.prog 4 #[.int .u64 a, .int .u64 b, .int .u64 c] W fun e w' => e = .returned (.bool true) ∧ Below W.heap.size W w' := by
  obtain ⟨a, rfl⟩ : ∃ k : Nat, a = (k : Int) := ⟨a.toNat, by omega⟩
  obtain ⟨b, rfl⟩ : ∃ k : Nat, b = (k : Int) := ⟨b.toNat, by omega⟩
  obtain ⟨c, rfl⟩ : ∃ k : Nat, c = (k : Int) := ⟨c.toNat, by omega⟩
  have ha' : Hid (a < 18446744073709551616) := by show _ < _; omega
  have hb' : Hid (b < 18446744073709551616) := by show _ < _; omega
  have hc' : Hid (c < 18446744073709551616) := by show _ < _; omega
  clear ha hb hc
  have k2 := of_run
  obtain ⟨n, hn⟩ : ∃ n, Hid (cmpB a b = n) := ⟨_, rfl⟩
  obtain ⟨m, hm⟩ : ∃ n, Hid (cmpB b c = n) := ⟨_, rfl⟩
  obtain ⟨p, hp⟩ : ∃ n, Hid (cmpB a c = n) := ⟨_, rfl⟩
  obtain ⟨K, hK⟩ : ∃ K : Int, Hid ((keyB a : Int) = K) := ⟨_, rfl⟩
  obtain ⟨L, hL2⟩ : ∃ K : Int, Hid ((keyB b : Int) = K) := ⟨_, rfl⟩
  have hanti : Hid (cmpB b a = -n) := by rw [← hn.out]; exact cmp_anti a b
  obtain ⟨s, hs⟩ : ∃ s, Hid (decide (keyB a = keyB b) = s) := ⟨_, rfl⟩
  have hcs := cmp_cases a b
  rw [hn.out] at hcs
  replace hcs : Hid ((n = -1 ∧ K < L ∧ s = false) ∨ (n = 0 ∧ K = L ∧ s = true) ∨ (n = 1 ∧ L < K ∧ s = false)) := by
    rw [← hK.out, ← hL2.out, ← hs.out]
    rcases hcs with ⟨h1, h2⟩ | ⟨h1, h2⟩ | ⟨h1, h2⟩
    · exact Or.inl ⟨h1, by omega, decide_eq_false (by omega)⟩
    · exact Or.inr (Or.inl ⟨h1, by omega, decide_eq_true h2⟩)
    · exact Or.inr (Or.inr ⟨h1, by omega, decide_eq_false (by omega)⟩)
  have htr : Hid (n ≤ 0 → m ≤ 0 → p ≤ 0) := by rw [← hn.out, ← hm.out, ← hp.out]; exact cmp_trans
  obtain ⟨o, ho⟩ : ∃ o, Hid (FloatKind.f64.format.order a b = o) := ⟨_, rfl⟩
  have holt : Hid (o = some Ordering.lt → n = -1) := by rw [← ho.out, ← hn.out]; exact fun h => cmp_lt (order_lt ha'.out hb'.out h)
  have hogt : Hid (o = some Ordering.gt → n = 1) := by
    rw [← ho.out, ← hn.out]
    intro h
    have h1 := order_gt ha'.out hb'.out h
    rcases cmp_cases a b with h2 | h2 | h2 <;> omega
  obtain ⟨na, hna⟩ : ∃ x, Hid (nanB a = x) := ⟨_, rfl⟩
  obtain ⟨nb, hnb⟩ : ∃ x, Hid (nanB b = x) := ⟨_, rfl⟩
  have hnan : Hid (nb = true → na = false → n = -1) := by
    rw [← hna.out, ← hnb.out, ← hn.out]
    intro h1 h2
    apply cmp_lt
    have h3 := (keyB_nan b hb'.out).2 h1
    have h4 := keyB_lt ha'.out
    have h5 : keyB a ≠ 18446744073709551615 := fun e => by have := (keyB_nan a ha'.out).1 e; rw [h2] at this; cases this
    omega
  have hob := ho.out
  go_enter Tryz.func4, Tryz.ntmps4
  go_wp2_with fail
  refine (begun_any _ hL).mono ?_
  rintro e w1 ⟨rfl, hb1⟩
  replace hb1 : Hid (Below W.heap.size W w1) := hb1
  clear hL
  go_wp2_with fail
  refine (compare_any _ a b ha'.out hb'.out).mono ?_
  rintro e w2 ⟨rfl, rfl⟩
  rw [hn.out]
  go_wp2_with fail
  refine (compare_any _ b c hb'.out hc'.out).mono ?_
  rintro e w2 ⟨rfl, rfl⟩
  rw [hm.out]
  go_upto_region 5 with fail
  go_cut [65] from 28 (fun s65 wx => s65 = .bool false ∧ wx = w2)
  case first =>
    go_wp2_with fail
    refine (compare_any _ b a hb'.out ha'.out).mono ?_
    rintro e w2 ⟨rfl, rfl⟩
    rw [hanti.out]
    clear hob k2
    rcases hcs.out with ⟨rfl, h1, rfl⟩ | ⟨rfl, h1, rfl⟩ | ⟨rfl, h1, rfl⟩
    all_goals
      go_wp2_with fail
      refine (key_any _ a ha'.out).mono ?_
      rintro e w2 ⟨rfl, rfl⟩
      rw [hK.out]
      go_wp2_with fail
      refine (key_any _ b hb'.out).mono ?_
      rintro e w2 ⟨rfl, rfl⟩
      rw [hL2.out]
    · by_cases hm0 : m ≤ 0
      · have hp0 : p ≤ 0 := htr.out (by omega) hm0
        go_wp2_with fail
        refine (compare_any _ a c ha'.out hc'.out).mono ?_
        rintro e w2 ⟨rfl, rfl⟩
        rw [hp.out]
        go_wp2_with fail
        refine (same_any _ a b ha'.out hb'.out).mono ?_
        rintro e w2 ⟨rfl, rfl⟩
        rw [hs.out]
        go_wp2_with fail
        go_meet
        case rel => exact ⟨by first | rfl | rw [decide_eq_false (by omega)], rfl⟩
      · go_wp2_with fail
        refine (same_any _ a b ha'.out hb'.out).mono ?_
        rintro e w2 ⟨rfl, rfl⟩
        rw [hs.out]
        go_wp2_with fail
        go_meet
        case rel => exact ⟨by first | rfl | rw [decide_eq_false (by omega)], rfl⟩
    · by_cases hm0 : m ≤ 0
      · have hp0 : p ≤ 0 := htr.out (by omega) hm0
        go_wp2_with fail
        refine (compare_any _ a c ha'.out hc'.out).mono ?_
        rintro e w2 ⟨rfl, rfl⟩
        rw [hp.out]
        go_wp2_with fail
        refine (same_any _ a b ha'.out hb'.out).mono ?_
        rintro e w2 ⟨rfl, rfl⟩
        rw [hs.out]
        go_wp2_with fail
        go_meet
        case rel => exact ⟨by first | rfl | rw [decide_eq_false (by omega)], rfl⟩
      · go_wp2_with fail
        refine (same_any _ a b ha'.out hb'.out).mono ?_
        rintro e w2 ⟨rfl, rfl⟩
        rw [hs.out]
        go_wp2_with fail
        go_meet
        case rel => exact ⟨by first | rfl | rw [decide_eq_false (by omega)], rfl⟩
    · go_wp2_with fail
      refine (same_any _ a b ha'.out hb'.out).mono ?_
      rintro e w2 ⟨rfl, rfl⟩
      rw [hs.out]
      go_wp2_with fail
      go_meet
      case rel => exact ⟨by first | rfl | rw [decide_eq_false (by omega)], rfl⟩
  case rest =>
    obtain ⟨rfl, rfl⟩ := hcut
    go_upto_region 7 with fail
    go_cut [94] from 28 (fun s94 wx => s94 = .bool false ∧ wx = wc)
    case first =>
      have key : (o = some Ordering.lt ∧ n = -1) ∨ (o = some Ordering.gt ∧ n = 1) ∨ ((o == some Ordering.lt) = false ∧ (o == some Ordering.gt) = false) := by
        cases o with
        | none => exact Or.inr (Or.inr ⟨rfl, rfl⟩)
        | some x =>
          cases x with
          | lt => exact Or.inl ⟨rfl, holt.out rfl⟩
          | gt => exact Or.inr (Or.inl ⟨rfl, hogt.out rfl⟩)
          | eq => exact Or.inr (Or.inr ⟨rfl, rfl⟩)
      rcases key with ⟨rfl, rfl⟩ | ⟨rfl, rfl⟩ | ⟨g1, g2⟩
      all_goals
        go_wp2_with fail
        refine (mathIsNaN_any _ b hb'.out).mono ?_
        rintro e w5 ⟨rfl, rfl⟩
        rw [hnb.out]
      · cases nb
        · go_wp2_with fail
          go_meet
          case rel => exact ⟨rfl, rfl⟩
        · go_wp2_with fail
          refine (mathIsNaN_any _ a ha'.out).mono ?_
          rintro e w6 ⟨rfl, rfl⟩
          rw [hna.out]
          cases na <;> (go_wp2_with fail; go_meet)
          all_goals (case rel => exact ⟨rfl, rfl⟩)
      · cases nb
        · go_wp2_with fail
          go_meet
          case rel => exact ⟨rfl, rfl⟩
        · go_wp2_with fail
          refine (mathIsNaN_any _ a ha'.out).mono ?_
          rintro e w6 ⟨rfl, rfl⟩
          rw [hna.out]
          cases na
          · exact absurd (hnan.out trivial rfl) (by decide)
          · go_wp2_with fail
            go_meet
            case rel => exact ⟨rfl, rfl⟩
      · cases nb
        · go_wp2_with fail
          go_meet
          case rel => exact ⟨rfl, rfl⟩
        · go_wp2_with fail
          refine (mathIsNaN_any _ a ha'.out).mono ?_
          rintro e w6 ⟨rfl, rfl⟩
          rw [hna.out]
          cases na
          · have hn1 := hnan.out trivial rfl
            subst hn1
            go_wp2_with fail
            go_meet
            case rel => exact ⟨rfl, rfl⟩
          · go_wp2_with fail
            go_meet
            case rel => exact ⟨rfl, rfl⟩
    case rest =>
      obtain ⟨rfl, rfl⟩ := hcut
      have hkl : Hid (keyB a < 18446744073709551616) := keyB_lt ha'.out
      have huk : Hid (unkeyB (keyB a) = canonB a ∧ isKey (keyB a) = true) := unkey_key ha'.out
      go_wp2_with fail
      refine (key_any _ a ha'.out).mono ?_
      rintro e w7 ⟨rfl, rfl⟩
      go_wp2_with fail
      refine (unkey_any _ (keyB a) hkl.out).mono ?_
      rintro e w8 ⟨rfl, rfl⟩
      rw [huk.out.1, huk.out.2]
      go_wp2_with fail
      refine (canon_any _ a ha'.out).mono ?_
      rintro e w9 ⟨rfl, rfl⟩
      go_wp2_with fail
      refine (bits_any _ _ _).mono ?_
      rintro e w9 ⟨rfl, rfl⟩
      rw [decide_eq_true rfl]
      go_wp2
      go_ret
      exact ⟨rfl, hb1.out⟩
#print axioms order_walk
end Go.Proofs.YtdjaekmndhhjgaaGreatDoor.Rl
