/-
  The document's own exact sums: the number that is next to one.
-/
import Derived.Test.YtojohcckaklmpaaDoorRwU
import Derived.Test.YtojohcckaklmpaaDoorRlO
namespace Go.Proofs.YtojohcckaklmpaaDoor.Rl
open Go.RowKit
set_option maxRecDepth 100000

theorem half_down {V j : Nat} (h : V < 2 ^ (j + 1)) (h0 : V / 2 ^ j % 2 = 0) : V < 2 ^ j := by
  have h1 : V / 2 ^ j < 2 := by apply Nat.div_lt_of_lt_mul; rw [← Nat.pow_succ]; exact h
  have h2 : V / 2 ^ j = 0 := by generalize V / 2 ^ j = y at *; omega
  rcases Nat.lt_or_ge V (2 ^ j) with h3 | h3
  · exact h3
  · have := Nat.div_pos h3 (Nat.two_pow_pos j); omega
theorem half_up {V j : Nat} (h : V / 2 ^ j % 2 = 1) : 2 ^ j ≤ V := by
  rcases Nat.lt_or_ge V (2 ^ j) with h3 | h3
  · rw [Nat.div_eq_of_lt h3] at h; omega
  · exact h3
theorem twice (V t : Nat) : V / 2 ^ (t + 1) * 2 + V / 2 ^ t % 2 = V / 2 ^ t := by
  rw [Nat.pow_succ, ← Nat.div_div_eq_div_mul]; omega
theorem keep53 {V j t : Nat} (h : V < 2 ^ (j + 1)) (ht : j - 52 ≤ t) : V / 2 ^ t < 9007199254740992 := by
  apply Nat.div_lt_of_lt_mul
  have h1 : 2 ^ (j + 1) ≤ 2 ^ (t + 53) := Nat.pow_le_pow_right Nat.two_pos (by omega)
  rw [Nat.pow_add 2 t, show 2 ^ 53 = 9007199254740992 by decide] at h1
  exact Nat.lt_of_lt_of_le h h1
theorem any_up (V i : Nat) : decide (V % 2 ^ (i + 1) ≠ 0) = (decide (V % 2 ^ i ≠ 0) || decide (V / 2 ^ i % 2 = 1)) := by
  have e1 : V % 2 ^ (i + 1) = V % 2 ^ i + 2 ^ i * (V / 2 ^ i % 2) := by rw [Nat.pow_succ, Nat.mod_mul]
  rw [e1]
  have hp : 0 < 2 ^ i := Nat.two_pow_pos i
  have hb : V / 2 ^ i % 2 = 0 ∨ V / 2 ^ i % 2 = 1 := by omega
  generalize V / 2 ^ i % 2 = b at *
  rcases hb with rfl | rfl
  · simp
  · rw [Bool.eq_iff_iff]; simp
theorem log2_of {V j : Nat} (h1 : 2 ^ j ≤ V) (h2 : V < 2 ^ (j + 1)) : V.log2 = j := by
  have h0 : V ≠ 0 := by have : 0 < 2 ^ j := Nat.two_pow_pos j; omega
  rw [Nat.log2_eq_iff h0]; exact ⟨h1, h2⟩
/-- What is rounded to, by what is kept and what is added. -/
theorem round_split {V j : Nat} (h1 : 2 ^ j ≤ V) (h2 : V < 2 ^ (j + 1)) : roundB V = min ((j - 52) * 4503599627370496 + (V / 2 ^ (j - 52) + if j ≤ 52 then 0 else (upB V (j - 52)).toNat)) 9218868437227405312 := by
  unfold roundB
  rw [log2_of h1 h2]
  by_cases h : j ≤ 52
  · have h3 : V < 9007199254740992 := by
      have : 2 ^ (j + 1) ≤ 2 ^ 53 := Nat.pow_le_pow_right Nat.two_pos (by omega)
      omega
    rw [if_pos h3, if_pos h, show j - 52 = 0 by omega]
    simp
    omega
  · have h3 : ¬ V < 9007199254740992 := by
      have : 2 ^ 53 ≤ 2 ^ j := Nat.pow_le_pow_right Nat.two_pos (by omega)
      omega
    rw [if_neg h3, if_neg h, Nat.add_assoc]
theorem kept_ge {V j : Nat} (h1 : 2 ^ j ≤ V) (h : 52 ≤ j) : 4503599627370496 ≤ V / 2 ^ (j - 52) := by
  rw [Nat.le_div_iff_mul_le (Nat.two_pow_pos _)]
  have : 2 ^ j = 2 ^ 52 * 2 ^ (j - 52) := by rw [← Nat.pow_add]; congr 1; omega
  omega
theorem fin2 (t N : Nat) (ht : 2045 < t) (h : 4503599627370496 ≤ N) : min (t * 4503599627370496 + N) 9218868437227405312 = 9218868437227405312 := Nat.min_eq_right (by omega)
theorem fin3 (t N : Nat) (ht : t = 0) (h : N < 4503599627370496) : min (t * 4503599627370496 + N) 9218868437227405312 = N := by rw [ht, Nat.zero_mul, Nat.zero_add]; exact Nat.min_eq_left (by omega)
theorem fin4 (t N : Nat) (ht : t ≤ 2045) (h : N < 9007199254740992) : min (t * 4503599627370496 + N) 9218868437227405312 = (((t : Int) + 1) * 4503599627370496 + (N : Int) - 4503599627370496).toNat := by
  rw [Nat.min_eq_left (by omega)]
  have e : ((t : Int) + 1) * 4503599627370496 + (N : Int) - 4503599627370496 = ((t * 4503599627370496 + N : Nat) : Int) := by omega
  rw [e, Int.toNat_natCast]
theorem wal_bound {ds : List Nat} (h : Ys ds) {L T : Nat} (hl : ds.length = L) (hT : T = 32 * L) : wal ds < 2 ^ T := by
  rw [hT, ← words32, ← hl]; exact wal_lt h
set_option maxHeartbeats 2000000 in
theorem wround_any (w : World) (b : Nat) (ds : List Nat) (hu : Wd w b ds) :
    Calls Tryd.prog 61 #[.pointer (some ⟨b, 0, none⟩)] w fun e w' => e = .returned (.float .f64 (roundB (wal ds))) ∧ w' = w := by
  obtain ⟨V, hV⟩ : ∃ V, Hid (wal ds = V) := ⟨_, rfl⟩
  obtain ⟨T, hT⟩ : ∃ T, Hid (T = 2240) := ⟨2240, rfl⟩
  have hT2 : Hid (T = 32 * 70) := by show _ = _; rw [hT.out]
  have hV0 : Hid (V < 2 ^ T) := by
    show _ < _
    rw [← hV.out]
    exact wal_bound hu.2.1 hu.1 hT2.out
  replace hu : Hid (Wd w b ds) := hu
  rw [hV.out]
  go_enter Tryd.func61, Tryd.ntmps61
  go_wp2_with fail
  go_loopw [3] (fun v wr => ∃ k : Nat, k ≤ 2240 ∧ v = .int .i64 ((k : Int) - 1) ∧ Hid (V < 2 ^ k) ∧ wr = w) (fun v _ => ((intOf v) + 1).toNat)
  case atStart => exact ⟨T, by rw [hT.out]; omega, by rw [hT.out]; rfl, hV0.out, rfl⟩
  case round =>
    obtain ⟨k, hk, rfl, hlt, rfl⟩ := hrel
    by_cases h0 : k = 0
    · have hz : V = 0 := by have := hlt.out; rw [h0] at this; omega
      subst h0 hz
      go_wp2
      go_ret
      exact ⟨rfl, rfl⟩
    · obtain ⟨j, rfl⟩ : ∃ j, k = j + 1 := ⟨k - 1, by omega⟩
      have hj2 : ((j + 1 : Nat) : Int) - 1 = (j : Int) := by omega
      have hj0 : (0 : Int) ≤ (j : Int) := by omega
      rw [hj2]
      clear h0
      go_wp2_with fail
      refine (wbit_any _ b j ds hu.out (by omega)).mono ?_
      rintro e w1 ⟨rfl, rfl⟩
      rw [hV.out]
      have hb : V / 2 ^ j % 2 = 0 ∨ V / 2 ^ j % 2 = 1 := by omega
      obtain ⟨x, hx⟩ : ∃ x, Hid (V / 2 ^ j % 2 = x) := ⟨_, rfl⟩
      rw [hx.out] at hb ⊢
      rcases hb with rfl | rfl
      · have hlt2 : Hid (V < 2 ^ j) := half_down hlt.out hx.out
        go_wp2_with fail
        go_roundw
        case rel => exact ⟨j, by omega, by go_num, hlt2.out, by trivial⟩
        case measure => simp [intOf]
      · have hge : Hid (2 ^ j ≤ V) := half_up hx.out
        obtain ⟨lo, hlo⟩ : ∃ lo, Hid (lo = j - 52) := ⟨_, rfl⟩
        have hj3 : ¬ (j : Int) < 0 := by omega
        go_upto_if 22 with fail
        go_cut [4] from 9 (fun s4 wx => s4 = .int .i64 (lo : Int) ∧ wx = w1)
        case first =>
          by_cases h52 : j ≤ 52
          · have : lo = 0 := by rw [hlo.out]; omega
            subst this
            go_wp2_with fail
            go_meet
            case rel => exact ⟨rfl, rfl⟩
          · have h53 : (j : Int) > 52 := by omega
            go_wp2_with fail
            go_meet
            case rel => exact ⟨by rw [hlo.out]; go_num, rfl⟩
        case rest =>
          obtain ⟨rfl, rfl⟩ := hcut
          have hlo2 : lo ≤ j := by rw [hlo.out]; omega
          go_wp2_with fail
          go_loopw [5, 6] (fun v5 v6 wr => ∃ t : Nat, lo ≤ t ∧ t ≤ j + 1 ∧ v6 = .int .i64 ((t : Int) - 1) ∧ v5 = .int .u64 ((V / 2 ^ t : Nat) : Int) ∧ wr = wc) (fun _ v _ => ((intOf v) + 1).toNat)
          case atStart => exact ⟨j + 1, by omega, by omega, by go_num, by rw [Nat.div_eq_of_lt hlt.out]; rfl, rfl⟩
          case round =>
            obtain ⟨t, ht1, ht2, rfl, rfl, rfl⟩ := hrel
            obtain ⟨q, hq⟩ : ∃ q, Hid (V / 2 ^ t = q) := ⟨_, rfl⟩
            rw [hq.out]
            by_cases htl : t = lo
            · subst htl
              have hc : ¬ (t : Int) ≤ (t : Int) - 1 := by omega
              obtain ⟨U, hU⟩ : ∃ U : Nat, Hid (U = if j ≤ 52 then 0 else (upB V (j - 52)).toNat) := ⟨if j ≤ 52 then 0 else (upB V (j - 52)).toNat, rfl⟩
              have hfin : Hid (roundB V = min (t * 4503599627370496 + (q + U)) 9218868437227405312) := by
                show _ = _
                rw [round_split hge.out hlt.out, ← hU.out, ← hlo.out, hq.out]
              have hql : Hid (q < 9007199254740992) := by show _ < _; rw [← hq.out]; exact keep53 hlt.out (by have := hlo.out; omega)
              have hqg : Hid (t = 0 ∨ 4503599627370496 ≤ q) := by
                by_cases h : 52 ≤ j
                · right; rw [← hq.out, hlo.out]; exact kept_ge hge.out h
                · left; rw [hlo.out]; omega
              obtain ⟨B, hB⟩ : ∃ B, Hid (B = (decide (0 < t) && decide (V / 2 ^ (t - 1) % 2 = 1))) := ⟨_, rfl⟩
              obtain ⟨I, hI⟩ : ∃ I : Int, Hid ((t : Int) = I) := ⟨_, rfl⟩
              rw [hI.out] at hc ⊢
              go_upto_region 14 with fail
              go_cut [6, 45] from 9 (fun _ s wx => s = .bool B ∧ wx = wr)
              case first =>
                by_cases ht0 : t = 0
                · have hI0 : I = 0 := by rw [← hI.out, ht0]; rfl
                  subst ht0 hI0
                  have hB0 : B = false := by rw [hB.out]; rfl
                  subst hB0
                  go_wp2_with fail
                  refine (wbit_neg _ b).mono ?_
                  rintro e w2 ⟨rfl, rfl⟩
                  go_wp2_with fail
                  go_meet
                  case rel => exact ⟨rfl, rfl⟩
                · obtain ⟨s, rfl⟩ : ∃ s, t = s + 1 := ⟨t - 1, by omega⟩
                  have hs1 : I - 1 = (s : Int) := by rw [← hI.out]; omega
                  have hs2 : (0 : Int) < I := by rw [← hI.out]; omega
                  have hB1 : Hid (B = decide (V / 2 ^ s % 2 = 1)) := by show _ = _; rw [hB.out]; simp
                  obtain ⟨x, hx⟩ : ∃ x, Hid (V / 2 ^ s % 2 = x) := ⟨_, rfl⟩
                  have hb : x = 0 ∨ x = 1 := by rw [← hx.out]; omega
                  go_wp2_with fail
                  refine (wbit_any _ b s ds hu.out (by omega)).mono ?_
                  rintro e w2 ⟨rfl, rfl⟩
                  rw [hV.out, hx.out]
                  rcases hb with rfl | rfl
                  · have hB0 : B = false := by rw [hB1.out, hx.out]; rfl
                    subst hB0
                    go_wp2_with fail
                    go_meet
                    case rel => exact ⟨rfl, rfl⟩
                  · have hB0 : B = true := by rw [hB1.out, hx.out]; rfl
                    subst hB0
                    go_wp2_with fail
                    go_meet
                    case rel => exact ⟨rfl, rfl⟩
              case rest =>
                obtain ⟨rfl, rfl⟩ := hcut
                go_upto_if 45 with fail
                obtain ⟨N, hN⟩ : ∃ N : Nat, Hid (q + U = N) := ⟨_, rfl⟩
                go_cut [5, 7, 8] from 9 (fun s5 _ _ wx => s5 = .int .u64 (N : Int) ∧ wx = wc)
                case first =>
                  cases B with
                  | false =>
                    have hU0 : U = 0 := by
                      rw [hU.out]
                      by_cases h : j ≤ 52
                      · rw [if_pos h]
                      · rw [if_neg h, upB, ← hlo.out]
                        have := hB.out
                        rw [decide_eq_true (by have := hlo.out; omega), Bool.true_and] at this
                        rw [← this]; rfl
                    have hN0 : N = q := by rw [← hN.out, hU0]; rfl
                    subst hN0
                    go_wp2_with fail
                    go_meet
                    case rel => exact ⟨rfl, rfl⟩
                  | true =>
                    have hB2 := hB.out
                    simp only [Bool.true_eq, Bool.and_eq_true, decide_eq_true_eq] at hB2
                    obtain ⟨s, rfl⟩ : ∃ s, t = s + 1 := ⟨t - 1, by omega⟩
                    rw [Nat.add_sub_cancel] at hB2
                    have hs1 : I - 1 = (s : Int) := by rw [← hI.out]; omega
                    have hU1 : Hid (U = (decide (V / 2 ^ (s + 1) % 2 = 1) || decide (V % 2 ^ s ≠ 0)).toNat) := by
                      show _ = _
                      rw [hU.out, if_neg (by have := hlo.out; omega), upB, ← hlo.out, Nat.add_sub_cancel, decide_eq_true hB2.2, Bool.true_and]
                    replace hB2 : Hid (V / 2 ^ s % 2 = 1) := hB2.2
                    go_wp2_with fail
                    go_loopw [7, 8] (fun v7 v8 wr => ∃ i : Nat, i ≤ s ∧ v8 = .int .i64 (i : Int) ∧ v7 = .bool (decide (V % 2 ^ i ≠ 0)) ∧ wr = wc) (fun _ v _ => s - (intOf v).toNat)
                    case atStart => exact ⟨0, by omega, rfl, by rw [Nat.pow_zero, Nat.mod_one]; rfl, rfl⟩
                    case round =>
                      obtain ⟨i, hi, rfl, rfl, rfl⟩ := hrel
                      obtain ⟨r, hr⟩ : ∃ r, Hid (decide (V % 2 ^ i ≠ 0) = r) := ⟨_, rfl⟩
                      rw [hr.out]
                      by_cases his : i = s
                      · subst his
                        obtain ⟨o, ho⟩ : ∃ o, Hid (V / 2 ^ (i + 1) % 2 = o) := ⟨_, rfl⟩
                        rw [ho.out, hr.out] at hU1
                        have ho2 : o = 0 ∨ o = 1 := by rw [← ho.out]; omega
                        have hqo : (q : Int) % 2 = (o : Int) := by rw [← ho.out, hq.out]; omega
                        have hl := hql.out
                        cases r with
                        | true =>
                          have hN1 : N = q + 1 := by rw [← hN.out, hU1.out, Bool.or_true]; rfl
                          have hw : IntKind.u64.wrap ((q : Int) + 1) = (N : Int) := by rw [IntKind.wrap_u64, hN1]; omega
                          clear hl hqo
                          go_wp2_with fail
                          go_meet
                          case rel => exact ⟨by go_num, rfl⟩
                        | false =>
                          rcases ho2 with rfl | rfl
                          · have hN1 : N = q := by rw [← hN.out, hU1.out]; rfl
                            subst hN1
                            clear hl
                            go_wp2_with fail
                            go_meet
                            case rel => exact ⟨by go_num, rfl⟩
                          · have hN1 : N = q + 1 := by rw [← hN.out, hU1.out]; rfl
                            have hw : IntKind.u64.wrap ((q : Int) + 1) = (N : Int) := by rw [IntKind.wrap_u64, hN1]; omega
                            clear hl
                            go_wp2_with fail
                            go_meet
                            case rel => exact ⟨by go_num, rfl⟩
                      · have hlt2 : (i : Int) < (s : Int) := by omega
                        have hr2 : Hid (decide (V % 2 ^ (i + 1) ≠ 0) = (r || decide (V / 2 ^ i % 2 = 1))) := by show _ = _; rw [any_up, hr.out]
                        cases r with
                        | true =>
                          rw [Bool.true_or] at hr2
                          go_wp2_with fail
                          go_roundw
                          case rel => exact ⟨i + 1, by omega, by go_num, by rw [hr2.out], by trivial⟩
                          case measure => simp [intOf]; omega
                        | false =>
                          rw [Bool.false_or] at hr2
                          obtain ⟨x, hx⟩ : ∃ x, Hid (V / 2 ^ i % 2 = x) := ⟨_, rfl⟩
                          have hb : x = 0 ∨ x = 1 := by rw [← hx.out]; omega
                          rw [hx.out] at hr2
                          go_wp2_with fail
                          refine (wbit_any _ b i ds hu.out (by omega)).mono ?_
                          rintro e w2 ⟨rfl, rfl⟩
                          rw [hV.out, hx.out]
                          rcases hb with rfl | rfl
                          · go_wp2_with fail
                            go_roundw
                            case rel => exact ⟨i + 1, by omega, by go_num, by rw [hr2.out]; rfl, by trivial⟩
                            case measure => simp [intOf]; omega
                          · go_wp2_with fail
                            go_roundw
                            case rel => exact ⟨i + 1, by omega, by go_num, by rw [hr2.out]; rfl, by trivial⟩
                            case measure => simp [intOf]; omega
                case rest =>
                  obtain ⟨rfl, rfl⟩ := hcut
                  rw [hN.out] at hfin
                  have hUl : Hid (U ≤ 1) := by
                    show _ ≤ _
                    rw [hU.out]
                    split
                    · omega
                    · exact Bool.toNat_le _
                  have hNl : Hid (N ≤ 9007199254740992 ∧ (t = 0 ∨ 4503599627370496 ≤ N)) := by
                    have h1 := hql.out
                    have h2 := hqg.out
                    have h3 := hUl.out
                    have h4 := hN.out
                    exact ⟨by omega, by omega⟩
                  obtain ⟨X, hX⟩ : ∃ X : Int, Hid ((N : Int) = X) := ⟨_, rfl⟩
                  rw [hX.out]
                  go_upto_if 68 with fail
                  go_cut [4, 5] from 9 (fun s4 s5 wx => ∃ (t' N' : Nat) (I' X' : Int), Hid (I' = t') ∧ Hid (X' = N') ∧ s4 = .int .i64 I' ∧ s5 = .int .u64 X' ∧ Hid (t' ≤ 4000 ∧ N' < 9007199254740992 ∧ (t' = 0 ∨ 4503599627370496 ≤ N') ∧ roundB V = min (t' * 4503599627370496 + N') 9218868437227405312) ∧ wx = wc)
                  case first =>
                    by_cases hN53 : N = 9007199254740992
                    · have hX53 : (X == 9007199254740992) = true := by rw [← hX.out, hN53]; rfl
                      have hI1 : I + 1 = ((t + 1 : Nat) : Int) := by rw [← hI.out]; omega
                      have hrest : Hid (t + 1 ≤ 4000 ∧ 4503599627370496 < 9007199254740992 ∧ (t + 1 = 0 ∨ 4503599627370496 ≤ 4503599627370496) ∧ roundB V = min ((t + 1) * 4503599627370496 + 4503599627370496) 9218868437227405312) := by
                        refine ⟨by omega, by omega, by omega, ?_⟩
                        rw [hfin.out, hN53, show t * 4503599627370496 + 9007199254740992 = (t + 1) * 4503599627370496 + 4503599627370496 by omega]
                      have hI2 : Hid (0 ≤ I ∧ I ≤ 4000) := by rw [← hI.out]; exact ⟨by omega, by omega⟩
                      have hI3 : wrap64 (I + 1) = I + 1 := by have := hI2.out; unfold wrap64; omega
                      replace hN53 : Hid (N = 9007199254740992) := hN53
                      replace hI1 : Hid (I + 1 = ((t + 1 : Nat) : Int)) := hI1
                      go_wp2_with fail
                      go_meet
                      case rel => exact ⟨t + 1, 4503599627370496, I + 1, 4503599627370496, hI1.out, rfl, rfl, rfl, hrest.out, rfl⟩
                    · have hX53 : (X == 9007199254740992) = false := by rw [← hX.out]; simp; omega
                      have hrest : Hid (t ≤ 4000 ∧ N < 9007199254740992 ∧ (t = 0 ∨ 4503599627370496 ≤ N) ∧ roundB V = min (t * 4503599627370496 + N) 9218868437227405312) := by
                        have := hNl.out
                        exact ⟨by omega, by omega, by omega, hfin.out⟩
                      replace hN53 : Hid (¬ N = 9007199254740992) := hN53
                      go_wp2_with fail
                      go_meet
                      case rel => exact ⟨t, N, I, X, hI.out.symm, hX.out.symm, rfl, rfl, hrest.out, rfl⟩
                  case rest =>
                    obtain ⟨t', N', I', X', hI', hX', rfl, rfl, hrest, rfl⟩ := hcut
                    have k2 := of_run
                    obtain ⟨r1, r2, r3, r4⟩ := hrest.out
                    have hIb : Hid (0 ≤ I' ∧ I' ≤ 4000) := by rw [hI'.out]; exact ⟨by omega, by omega⟩
                    by_cases hinf : 2045 < t'
                    · have hc : (2045 : Int) < I' := by rw [hI'.out]; omega
                      have hf : Hid (roundB V = 9218868437227405312) := by show _ = _; rw [r4]; exact fin2 t' N' hinf (by omega)
                      clear r1 r2 r3 r4 hinf
                      go_wp2_with fail
                      refine (inf_any _ _).mono ?_
                      rintro e w2 ⟨rfl, rfl⟩
                      go_wp2
                      go_ret
                      exact ⟨by rw [hf.out]; rfl, rfl⟩
                    · have hc : ¬ (2045 : Int) < I' := by rw [hI'.out]; omega
                      by_cases hsub : N' < 4503599627370496
                      · have hX4 : X' < 4503599627370496 := by rw [hX'.out]; omega
                        have hf : Hid (roundB V = X'.toNat) := by show _ = _; rw [r4, hX'.out, Int.toNat_natCast]; exact fin3 t' N' (by omega) (by omega)
                        clear r1 r2 r3 r4 hinf hsub
                        go_wp2_with fail
                        go_ret
                        exact ⟨by rw [hf.out]; rfl, rfl⟩
                      · have hX4 : ¬ X' < 4503599627370496 := by rw [hX'.out]; omega
                        obtain ⟨E1, hE1⟩ : ∃ E : Int, Hid (E = I' + 1) := ⟨_, rfl⟩
                        have w1 : wrap64 (I' + 1) = E1 := by have := hIb.out; rw [hE1.out]; unfold wrap64; omega
                        have w2 : IntKind.u64.wrap E1 = E1 := by have := hIb.out; rw [IntKind.wrap_u64, hE1.out]; omega
                        obtain ⟨E2, hE2⟩ : ∃ E : Int, Hid (E = E1 * 4503599627370496) := ⟨_, rfl⟩
                        have w3 : IntKind.u64.wrap (E1 * 4503599627370496) = E2 := by have := hIb.out; rw [IntKind.wrap_u64, hE2.out, hE1.out]; have := hI'.out; omega
                        obtain ⟨E3, hE3⟩ : ∃ E : Int, Hid (E = E2 + X') := ⟨_, rfl⟩
                        have w4 : IntKind.u64.wrap (E2 + X') = E3 := by have := hIb.out; rw [IntKind.wrap_u64, hE3.out, hE2.out, hE1.out]; have := hI'.out; have := hX'.out; omega
                        obtain ⟨E4, hE4⟩ : ∃ E : Int, Hid (E = E3 - 4503599627370496) := ⟨_, rfl⟩
                        have w5 : IntKind.u64.wrap (E3 - 4503599627370496) = E4 := by have := hIb.out; rw [IntKind.wrap_u64, hE4.out, hE3.out, hE2.out, hE1.out]; have := hI'.out; have := hX'.out; omega
                        have hf : Hid (roundB V = E4.toNat) := by
                          show _ = _
                          rw [r4, hE4.out, hE3.out, hE2.out, hE1.out, hX'.out, hI'.out]; exact fin4 t' N' (by omega) (by omega)
                        clear r1 r2 r3 r4 hinf hsub
                        go_wp2_with fail
                        go_ret
                        exact ⟨by rw [hf.out]; rfl, rfl⟩
            · obtain ⟨u, rfl⟩ : ∃ u, t = u + 1 := ⟨t - 1, by omega⟩
              have hu2 : ((u + 1 : Nat) : Int) - 1 = (u : Int) := by omega
              have hc : (lo : Int) ≤ (u : Int) := by omega
              rw [hu2]
              obtain ⟨q2, hq2⟩ : ∃ q, Hid (V / 2 ^ u = q) := ⟨_, rfl⟩
              obtain ⟨x, hx⟩ : ∃ x, Hid (V / 2 ^ u % 2 = x) := ⟨_, rfl⟩
              have ql : q2 < 9007199254740992 := by rw [← hq2.out]; exact keep53 hlt.out (by have := hlo.out; omega)
              have qe : q * 2 + x = q2 := by rw [← hq.out, ← hq2.out, ← hx.out]; exact twice V u
              have e1 : IntKind.u64.wrap ((q : Int) * 2) = ((q * 2 : Nat) : Int) := by rw [IntKind.wrap_u64]; omega
              obtain ⟨Z, hZ⟩ : ∃ Z : Int, Hid (Z = ((q * 2 : Nat) : Int)) := ⟨_, rfl⟩
              rw [← hZ.out] at e1
              have e2 : IntKind.u64.wrap (Z + (x : Int)) = (q2 : Int) := by rw [IntKind.wrap_u64, hZ.out]; omega
              clear ql qe
              go_wp2_with fail
              refine (wbit_any _ b u ds hu.out (by omega)).mono ?_
              rintro e w2 ⟨rfl, rfl⟩
              rw [hV.out, hx.out]
              go_wp2_with fail
              go_roundw
              case rel => exact ⟨u, by omega, by omega, by go_num, by rw [hq2.out], by trivial⟩
              case measure => simp [intOf]
#print axioms wround_any
end Go.Proofs.YtojohcckaklmpaaDoor.Rl
