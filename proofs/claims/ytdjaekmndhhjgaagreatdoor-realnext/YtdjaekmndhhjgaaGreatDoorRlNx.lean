/-
  The walk of RealNext.
-/
import Derived.Test.YtdjaekmndhhjgaaGreatDoorRlOrd
namespace Go.Proofs.YtdjaekmndhhjgaaGreatDoor.Rl
open Go.RowKit
set_option maxRecDepth 100000

theorem sg_zero : sg 0 = 0 := by unfold sg; rw [if_pos (by omega), mag_zero]; rfl
theorem mag_pos {s : Nat} (h : 0 < s) : 0 < magB s := by have := mag_mono h; rw [mag_zero] at this; exact this
theorem ord_beq {a b : Nat} (ha : a < 18446744073709551616) (hb : b < 18446744073709551616) (na : nanB a = false) (nb : nanB b = false) :
    (FloatKind.f64.format.order a b == some Ordering.eq) = decide (sg a = sg b) ∧ (FloatKind.f64.format.order a b == some Ordering.gt) = decide (sg b < sg a) := by
  rw [order_eq ha hb na nb]
  rcases Int.lt_trichotomy (sg a) (sg b) with h | h | h
  · rw [Int.compare_eq_lt.2 h, decide_eq_false (by omega), decide_eq_false (by omega)]; exact ⟨rfl, rfl⟩
  · rw [Int.compare_eq_eq.2 h, decide_eq_true h, decide_eq_false (by omega)]; exact ⟨rfl, rfl⟩
  · rw [Int.compare_eq_gt.2 h, decide_eq_false (by omega), decide_eq_true h]; exact ⟨rfl, rfl⟩
theorem isInf_any (w : World) (b : Nat) (hb : b < 18446744073709551616) : Calls Tryz.prog 30 #[.float .f64 b, .int .i64 1] w fun e w' => e = .returned (.bool (decide (b = 9218868437227405312))) ∧ w' = w := by
  have ho : Hid ((FloatKind.f64.format.order b 9218868437227405311 == some Ordering.gt) = decide (b = 9218868437227405312)) := by
    show _ = _
    cases hn : nanB b
    · rw [(ord_beq hb (by omega) hn (by decide +kernel)).2]
      have h0 : ¬ b % 9223372036854775808 > 9218868437227405312 := of_decide_eq_false hn
      apply decide_eq_decide.2
      unfold sg
      rw [if_pos (by omega : 9218868437227405311 < 9223372036854775808)]
      by_cases h : b < 9223372036854775808
      · rw [if_pos h]
        rcases Nat.lt_trichotomy 9218868437227405311 b with h1 | h1 | h1
        · have := mag_mono h1; constructor <;> intro _ <;> omega
        · subst h1; constructor <;> intro _ <;> omega
        · have := mag_mono h1; constructor <;> intro _ <;> omega
      · rw [if_neg h]
        constructor <;> intro _ <;> omega
    · rw [order_nan (Or.inl hn)]
      have h0 : b % 9223372036854775808 > 9218868437227405312 := of_decide_eq_true hn
      rw [decide_eq_false (by omega)]; rfl
  clear hb
  go_enter Tryz.func30, Tryz.ntmps30
  go_wp2
  go_ret
  exact ⟨congrArg (fun x => Ending.returned (Value.bool x)) ho.out, rfl⟩
theorem next_eq {a : Nat} (ha : a < 18446744073709551616) (hn : nanB a = false) (hi : a ≠ 9218868437227405312) :
    nextB a = (if a = 9223372036854775808 then 0 else if a < 9223372036854775808 then a + 1 else a - 1) ∧ keyB (nextB a) = keyB a + 1 ∧ nanB (nextB a) = false := by
  have h0 : ¬ a % 9223372036854775808 > 9218868437227405312 := of_decide_eq_false hn
  have e : nextB a = (if a = 9223372036854775808 then 0 else if a < 9223372036854775808 then a + 1 else a - 1) := by
    unfold nextB keyB
    rw [hn]
    simp only [Bool.false_eq_true, if_false]
    by_cases h : a < 9223372036854775808
    · rw [if_pos h, if_neg (by omega), if_neg (by omega), if_pos h, unkeyB, if_neg (by omega), if_neg (by omega), if_neg (by omega)]; omega
    · rw [if_neg h, if_neg (by omega)]
      by_cases h1 : a = 9223372036854775808
      · rw [if_pos h1, unkeyB, if_neg (by omega), if_neg (by omega), if_neg (by omega)]; omega
      · rw [if_neg h1, if_neg h, unkeyB, if_neg (by omega), if_neg (by omega), if_pos (by omega)]; omega
  refine ⟨e, ?_⟩
  rw [e]
  by_cases h1 : a = 9223372036854775808
  · rw [if_pos h1]
    have hn0 : nanB 0 = false := by decide +kernel
    refine ⟨?_, hn0⟩
    unfold keyB
    rw [hn, hn0]
    simp only [Bool.false_eq_true, if_false]
    (repeat' split) <;> omega
  · rw [if_neg h1]
    by_cases h : a < 9223372036854775808
    · rw [if_pos h]
      have hn0 : nanB (a + 1) = false := decide_eq_false (by omega)
      refine ⟨?_, hn0⟩
      unfold keyB
      rw [hn, hn0]
      simp only [Bool.false_eq_true, if_false]
      (repeat' split) <;> omega
    · rw [if_neg h]
      have hn0 : nanB (a - 1) = false := decide_eq_false (by omega)
      refine ⟨?_, hn0⟩
      unfold keyB
      rw [hn, hn0]
      simp only [Bool.false_eq_true, if_false]
      (repeat' split) <;> omega
def naB (a : Nat) : Nat := if a % 9223372036854775808 = 0 then 1 else if a < 9223372036854775808 then a + 1 else a - 1
theorem cs1 (w : World) : Calls Tryz.prog 44 #[.float .f64 1, .float .f64 9218868437227405312] w fun e w' => e = .returned (.float .f64 1) ∧ w' = w := by
  have k1 := bits_run
  have k2 := of_run
  have k3 : bits .andNot .u64 1 9223372036854775808 = 1 := by decide +kernel
  have k4 : bits .and .u64 9218868437227405312 9223372036854775808 = 0 := by decide +kernel
  have k5 : bits .or .u64 1 0 = 1 := by decide +kernel
  go_enter Tryz.func44, Tryz.ntmps44
  go_wp2
  go_ret
  exact ⟨rfl, rfl⟩
theorem nextafter_any (w : World) (a : Nat) (ha : a < 18446744073709551616) (hn : nanB a = false) (hi : a ≠ 9218868437227405312) :
    Calls Tryz.prog 31 #[.float .f64 a, .float .f64 9218868437227405312] w fun e w' => e = .returned (.float .f64 (naB a)) ∧ w' = w := by
  have h0 : ¬ a % 9223372036854775808 > 9218868437227405312 := of_decide_eq_false hn
  have ni : nanB 9218868437227405312 = false := by decide +kernel
  have n0 : nanB 0 = false := by decide +kernel
  have hlt : sg a < sg 9218868437227405312 := by
    unfold sg
    rw [if_pos (by omega : 9218868437227405312 < 9223372036854775808)]
    by_cases h : a < 9223372036854775808
    · rw [if_pos h]; have := mag_mono (show a < 9218868437227405312 by omega); omega
    · rw [if_neg h]; have := mag_pos (show 0 < 9218868437227405312 by omega); omega
  have e1 : (FloatKind.f64.format.order a 9218868437227405312 == some Ordering.eq) = false := by rw [(ord_beq ha (by omega) hn ni).1]; exact decide_eq_false (by omega)
  have e3 : (FloatKind.f64.format.order 9218868437227405312 a == some Ordering.gt) = true := by rw [(ord_beq (by omega) ha ni hn).2]; exact decide_eq_true hlt
  obtain ⟨z, hz⟩ : ∃ z, Hid (decide (a % 9223372036854775808 = 0) = z) := ⟨_, rfl⟩
  have e2 : (FloatKind.f64.format.order a 0 == some Ordering.eq) = z := by
    rw [(ord_beq ha (by omega) hn n0).1, ← hz.out]
    apply decide_eq_decide.2
    rw [sg_zero]
    unfold sg
    by_cases h : a < 9223372036854775808
    · rw [if_pos h]
      rcases Nat.eq_zero_or_pos a with h1 | h1
      · subst h1; rw [mag_zero]; simp
      · have := mag_pos h1; constructor <;> intro _ <;> omega
    · rw [if_neg h]
      rcases Nat.eq_zero_or_pos (a - 9223372036854775808) with h1 | h1
      · rw [h1, mag_zero]; constructor <;> intro _ <;> omega
      · have := mag_pos h1; constructor <;> intro _ <;> omega
  obtain ⟨g, hg⟩ : ∃ g, Hid (decide (0 < a ∧ a < 9223372036854775808) = g) := ⟨_, rfl⟩
  have e4 : (FloatKind.f64.format.order a 0 == some Ordering.gt) = g := by
    rw [(ord_beq ha (by omega) hn n0).2, ← hg.out]
    apply decide_eq_decide.2
    rw [sg_zero]
    unfold sg
    by_cases h : a < 9223372036854775808
    · rw [if_pos h]
      rcases Nat.eq_zero_or_pos a with h1 | h1
      · subst h1; rw [mag_zero]; simp
      · have := mag_pos h1; constructor <;> intro _ <;> omega
    · rw [if_neg h]
      constructor <;> intro _ <;> omega
  have k1 := fun w => bits_run a w
  have k2 := of_run
  obtain ⟨A, hA⟩ : ∃ A : Int, Hid (A = a) := ⟨_, rfl⟩
  rw [← hA.out] at k1
  obtain ⟨r, hr⟩ : ∃ r, Hid (naB a = r) := ⟨_, rfl⟩
  rw [hr.out]
  have w1 : IntKind.u64.wrap (A + 1) = A + 1 := by rw [IntKind.wrap_u64, hA.out]; omega
  have w2 : Hid (¬ a % 9223372036854775808 = 0 → IntKind.u64.wrap (A - 1) = A - 1) := by show _ → _; intro h; rw [IntKind.wrap_u64, hA.out]; omega
  replace ha : Hid (a < 18446744073709551616) := ha
  clear h0 hlt hi
  go_enter Tryz.func31, Tryz.ntmps31
  go_wp2_with fail
  refine (mathIsNaN_any _ a ha.out).mono ?_
  rintro e w1 ⟨rfl, rfl⟩
  rw [hn]
  clear hn
  go_wp2_with fail
  refine (mathIsNaN_any _ _ (by omega)).mono ?_
  rintro e w1 ⟨rfl, rfl⟩
  rw [ni]
  clear ni n0
  cases z
  · have hz2 : ¬ a % 9223372036854775808 = 0 := of_decide_eq_false hz.out
    cases g
    · have hg2 : ¬ (0 < a ∧ a < 9223372036854775808) := of_decide_eq_false hg.out
      have w3 := w2.out hz2
      have hr2 : Hid (r = a - 1) := by show _ = _; rw [← hr.out, naB, if_neg hz2, if_neg (by omega)]
      replace hz2 : Hid (¬ a % 9223372036854775808 = 0) := hz2
      clear hg2
      go_wp2
      go_ret
      refine ⟨congrArg (fun x => Ending.returned (Value.float .f64 x)) (?_ : (_ : Nat) = _), rfl⟩
      rw [hr2.out]
      have := hA.out
      have := hz2.out
      omega
    · have hg2 : 0 < a ∧ a < 9223372036854775808 := of_decide_eq_true hg.out
      have hr2 : Hid (r = a + 1) := by show _ = _; rw [← hr.out, naB, if_neg hz2, if_pos hg2.2]
      clear hg2 hz2
      go_wp2
      go_ret
      refine ⟨congrArg (fun x => Ending.returned (Value.float .f64 x)) (?_ : (_ : Nat) = _), rfl⟩
      rw [hr2.out]
      have := hA.out
      omega
  · have hz2 : a % 9223372036854775808 = 0 := of_decide_eq_true hz.out
    have hr2 : r = 1 := by rw [← hr.out, naB, if_pos hz2]
    subst hr2
    clear hz2
    go_wp2_with fail
    refine (cs1 _).mono ?_
    rintro e w2 ⟨rfl, rfl⟩
    go_wp2
    go_ret
    exact ⟨rfl, rfl⟩
theorem next_end {a : Nat} (ha : a < 18446744073709551616) (h : nanB a = true ∨ a = 9218868437227405312) : nextB a = 9221120237041090561 := by
  unfold nextB
  rw [if_pos]
  rcases h with h | h
  · rw [(keyB_nan a ha).2 h]; omega
  · subst h
    have hn : nanB 9218868437227405312 = false := by decide +kernel
    unfold keyB; rw [hn]; simp only [Bool.false_eq_true, if_false]; rw [if_pos (by omega)]; omega
theorem zero_iff {a : Nat} (ha : a < 18446744073709551616) (hn : nanB a = false) : (FloatKind.f64.format.order a 0 == some Ordering.eq) = decide (a % 9223372036854775808 = 0) := by
  rw [(ord_beq ha (by omega) hn (by decide +kernel)).1]
  apply decide_eq_decide.2
  rw [sg_zero]
  unfold sg
  by_cases h : a < 9223372036854775808
  · rw [if_pos h]
    rcases Nat.eq_zero_or_pos a with h1 | h1
    · subst h1; rw [mag_zero]; simp
    · have := mag_pos h1; constructor <;> intro _ <;> omega
  · rw [if_neg h]
    rcases Nat.eq_zero_or_pos (a - 9223372036854775808) with h1 | h1
    · rw [h1, mag_zero]; constructor <;> intro _ <;> omega
    · have := mag_pos h1; constructor <;> intro _ <;> omega
set_option maxHeartbeats 1000000 in
theorem next_walk (W : World) (a b : Int) (hL : Laid W) (ha : 0 ≤ a ∧ a < 18446744073709551616) (hb : 0 ≤ b ∧ b < 18446744073709551616) :
    Calls Tryz.prog 5 #[.int .u64 a, .int .u64 b] W fun e w' => e = .returned (.bool true) ∧ Below W.heap.size W w' := by
  obtain ⟨a, rfl⟩ : ∃ k : Nat, a = (k : Int) := ⟨a.toNat, by omega⟩
  obtain ⟨b, rfl⟩ : ∃ k : Nat, b = (k : Int) := ⟨b.toNat, by omega⟩
  have ha' : Hid (a < 18446744073709551616) := by show _ < _; omega
  have hb' : Hid (b < 18446744073709551616) := by show _ < _; omega
  clear ha hb
  have k2 := of_run
  obtain ⟨N, hN⟩ : ∃ N, Hid (nextB a = N) := ⟨_, rfl⟩
  go_enter Tryz.func5, Tryz.ntmps5
  go_wp2_with fail
  refine (begun_any _ hL).mono ?_
  rintro e w1 ⟨rfl, hb1⟩
  replace hb1 : Hid (Below W.heap.size W w1) := hb1
  clear hL
  go_wp2_with fail
  refine (next_any _ a ha'.out).mono ?_
  rintro e w2 ⟨rfl, rfl⟩
  rw [hN.out]
  go_wp2_with fail
  refine (mathIsNaN_any _ a ha'.out).mono ?_
  rintro e w2 ⟨rfl, rfl⟩
  cases hna : nanB a
  · go_wp2_with fail
    refine (isInf_any _ a ha'.out).mono ?_
    rintro e w2 ⟨rfl, rfl⟩
    by_cases hinf : a = 9218868437227405312
    · have hN2 : N = 9221120237041090561 := by rw [← hN.out]; exact next_end ha'.out (Or.inr hinf)
      subst hN2
      rw [decide_eq_true hinf]
      clear hinf hna
      go_wp2_with fail
      refine (bits_any _ _ _).mono ?_
      rintro e w2 ⟨rfl, rfl⟩
      go_wp2
      go_ret
      exact ⟨rfl, hb1.out⟩
    · rw [decide_eq_false hinf]
      obtain ⟨f1, f2, f3⟩ := next_eq ha'.out hna hinf
      rw [hN.out] at f1 f2 f3
      have hNl : Hid (N < 18446744073709551616) := by
        show _ < _
        have := ha'.out
        rw [f1]; (repeat' split) <;> omega
      have hcm : Hid (cmpB a N = -1) := by show _ = _; unfold cmpB cmpZ; rw [if_pos (by omega)]
      have hap : Hid (apB a N = 1 ∧ apOk a N = true) := by
        refine ⟨?_, ?_⟩
        · unfold apB; rw [hna, f3, if_neg (by simp), if_pos (by omega)]; omega
        · unfold apOk; rw [hna, f3]; rfl
      obtain ⟨p, hp⟩ : ∃ p, Hid (cmpB a b = p) := ⟨_, rfl⟩
      obtain ⟨q, hq⟩ : ∃ p, Hid (cmpB b N = p) := ⟨_, rfl⟩
      have hpq : Hid (p < 0 → 0 ≤ q) := by
        rw [← hp.out, ← hq.out]
        show _ → _
        unfold cmpB cmpZ
        (repeat' split) <;> omega
      obtain ⟨z, hz⟩ : ∃ z, Hid (decide (a % 9223372036854775808 = 0) = z) := ⟨_, rfl⟩
      obtain ⟨y, hy⟩ : ∃ z, Hid (decide (N % 9223372036854775808 = 0) = z) := ⟨_, rfl⟩
      have o1 : (FloatKind.f64.format.order a 0 == some Ordering.eq) = z := by rw [← hz.out]; exact zero_iff ha'.out hna
      have o2 : (FloatKind.f64.format.order N 0 == some Ordering.eq) = y := by rw [← hy.out]; exact zero_iff hNl.out f3
      have o3 : (FloatKind.f64.format.order N N == some Ordering.eq) = true := by rw [order_self hNl.out, f3]; rfl
      have hsame : Hid ((z && y) = false → naB a = N) := by
        rw [← hz.out, ← hy.out]
        show _ → _
        intro h
        have h4 := ha'.out
        have h0 : ¬ a % 9223372036854775808 > 9218868437227405312 := of_decide_eq_false hna
        have h5 : ¬ (a % 9223372036854775808 = 0 ∧ N % 9223372036854775808 = 0) := by
          intro h6; rw [decide_eq_true h6.1, decide_eq_true h6.2] at h; cases h
        unfold naB
        by_cases e1 : a = 9223372036854775808
        · rw [if_pos e1] at f1; exfalso; apply h5; subst f1; omega
        · rw [if_neg e1] at f1
          by_cases e2 : a % 9223372036854775808 = 0
          · rw [if_pos e2]
            rw [if_pos (by omega)] at f1; omega
          · rw [if_neg e2]; rw [f1]
      replace hna : Hid (nanB a = false) := hna
      replace hinf : Hid (a ≠ 9218868437227405312) := hinf
      clear f1 f2 f3
      go_wp2_with fail
      refine (apart_any _ a N ha'.out hNl.out).mono ?_
      rintro e w2 ⟨rfl, rfl⟩
      rw [hap.out.1, hap.out.2]
      go_wp2_with fail
      refine (compare_any _ a b ha'.out hb'.out).mono ?_
      rintro e w2 ⟨rfl, rfl⟩
      rw [hp.out]
      go_wp2_with fail
      refine (compare_any _ b N hb'.out hNl.out).mono ?_
      rintro e w2 ⟨rfl, rfl⟩
      rw [hq.out]
      go_wp2_with fail
      refine (compare_any _ a N ha'.out hNl.out).mono ?_
      rintro e w2 ⟨rfl, rfl⟩
      rw [hcm.out]
      have hpq2 : (p < 0 ∧ 0 ≤ q) ∨ 0 ≤ p := by
        by_cases h : p < 0
        · exact Or.inl ⟨h, hpq.out h⟩
        · exact Or.inr (by omega)
      cases z
      · have hs2 : naB a = N := hsame.out rfl
        rcases hpq2 with ⟨g1, g2⟩ | g1
        all_goals
          go_wp2_with fail
          refine (inf_any _ 1).mono ?_
          rintro e w2 ⟨rfl, rfl⟩
          go_wp2_with fail
          refine (nextafter_any _ a ha'.out hna.out hinf.out).mono ?_
          rintro e w2 ⟨rfl, rfl⟩
          rw [hs2]
          go_wp2
          go_ret
          exact ⟨by first | rfl | (show Ending.returned (Value.bool (!decide (q < 0))) = _; rw [decide_eq_false (by omega)]; rfl), hb1.out⟩
      · cases y
        · have hs2 : naB a = N := hsame.out rfl
          rcases hpq2 with ⟨g1, g2⟩ | g1
          all_goals
            go_wp2_with fail
            refine (inf_any _ 1).mono ?_
            rintro e w2 ⟨rfl, rfl⟩
            go_wp2_with fail
            refine (nextafter_any _ a ha'.out hna.out hinf.out).mono ?_
            rintro e w2 ⟨rfl, rfl⟩
            rw [hs2]
            go_wp2
            go_ret
            exact ⟨by first | rfl | (show Ending.returned (Value.bool (!decide (q < 0))) = _; rw [decide_eq_false (by omega)]; rfl), hb1.out⟩
        · rcases hpq2 with ⟨g1, g2⟩ | g1
          all_goals
            go_wp2
            go_ret
            exact ⟨by first | rfl | (show Ending.returned (Value.bool (!decide (q < 0))) = _; rw [decide_eq_false (by omega)]; rfl), hb1.out⟩
  · have hN2 : N = 9221120237041090561 := by rw [← hN.out]; exact next_end ha'.out (Or.inl hna)
    subst hN2
    clear hna
    go_wp2_with fail
    refine (bits_any _ _ _).mono ?_
    rintro e w2 ⟨rfl, rfl⟩
    go_wp2
    go_ret
    exact ⟨rfl, hb1.out⟩
#print axioms next_walk
end Go.Proofs.YtdjaekmndhhjgaaGreatDoor.Rl
