/-
  The document's own exact sums: what Sum answers.
-/
import Derived.Test.YtojohcckaklmpaaDoorRwR
import Derived.Test.YtojohcckaklmpaaDoorRlSn
import Derived.Deep.CutRange
namespace Go.Proofs.YtojohcckaklmpaaDoor.Rl
open Go.RowKit
set_option maxRecDepth 100000

def fpos (b : Nat) : Nat := if b < 9218868437227405312 then magB b else 0
def fneg (b : Nat) : Nat := if 9223372036854775808 ≤ b ∧ b < 18442240474082181120 then magB (b - 9223372036854775808) else 0
def posF (xs : List Nat) : Nat := (xs.map fpos).sum
def negF (xs : List Nat) : Nat := (xs.map fneg).sum
theorem posF_snoc (xs : List Nat) (x : Nat) : posF (xs ++ [x]) = posF xs + fpos x := by simp [posF]
theorem negF_snoc (xs : List Nat) (x : Nat) : negF (xs ++ [x]) = negF xs + fneg x := by simp [negF]
theorem fpos_eq {b : Nat} (h : b % 9223372036854775808 < 9218868437227405312) (hb : b < 18446744073709551616) : fpos b = posB b := by
  unfold fpos posB
  by_cases h1 : b < 9223372036854775808
  · rw [if_pos h1, if_pos (by omega)]
  · rw [if_neg h1, if_neg (by omega)]
theorem fneg_eq {b : Nat} (h : b % 9223372036854775808 < 9218868437227405312) (hb : b < 18446744073709551616) : fneg b = negB b := by
  unfold fneg negB
  by_cases h1 : b < 9223372036854775808
  · rw [if_pos h1, if_neg (by omega)]
  · rw [if_neg h1, if_pos (by omega)]
theorem posF_eq {xs : List Nat} (hb : Bs xs) (h : ∀ b ∈ xs, b % 9223372036854775808 < 9218868437227405312) : posF xs = posS xs ∧ negF xs = negS xs := by
  unfold posF negF posS negS
  exact ⟨by rw [List.map_congr_left (fun b hm => fpos_eq (h b hm) (hb b hm))], by rw [List.map_congr_left (fun b hm => fneg_eq (h b hm) (hb b hm))]⟩
theorem fpos_le (b : Nat) : fpos b ≤ 2 ^ (53 + 2045) := by
  unfold fpos
  split
  · exact Nat.le_of_lt (mag_lt (by omega))
  · exact Nat.zero_le _
theorem fneg_le (b : Nat) : fneg b ≤ 2 ^ (53 + 2045) := by
  unfold fneg
  split
  · exact Nat.le_of_lt (mag_lt (by omega))
  · exact Nat.zero_le _
theorem wroom {n : Nat} (hn : n ≤ 9223372036854775807) (s : Nat) (hs : s ≤ n * 2 ^ (53 + 2045)) : s < 4294967296 ^ 70 := by
  rw [words32]
  have h0 : n < 2 ^ 63 := Nat.lt_of_le_of_lt hn (by decide)
  have h1 := mulpow n 63 (53 + 2045) h0
  have h2 := pow_le2 (63 + (53 + 2045)) (32 * 70) (by decide)
  exact Nat.lt_of_le_of_lt hs (Nat.lt_of_lt_of_le h1 h2)
theorem posF_room {xs : List Nat} {n : Nat} (hn : xs.length ≤ n) (hn2 : n ≤ 9223372036854775807) : posF xs < 4294967296 ^ 70 :=
  wroom hn2 _ (Nat.le_trans (sum_le fpos (2 ^ (53 + 2045)) xs (fun b _ => fpos_le b)) (Nat.mul_le_mul_right _ hn))
theorem negF_room {xs : List Nat} {n : Nat} (hn : xs.length ≤ n) (hn2 : n ≤ 9223372036854775807) : negF xs < 4294967296 ^ 70 :=
  wroom hn2 _ (Nat.le_trans (sum_le fneg (2 ^ (53 + 2045)) xs (fun b _ => fneg_le b)) (Nat.mul_le_mul_right _ hn))
theorem Wd.new {w : World} {b : Nat} {cs : Array Value} {T : TypeId} (h : w.heap[b]? = some (.cells cs T (0, 0))) (hs : cs = wcells (List.replicate 70 0)) : Wd w b (List.replicate 70 0) :=
  ⟨by simp, fun d hd => by simp at hd; omega, T, by rw [h, hs]⟩
theorem Wd.grown {w w' : World} {a b : Nat} {ds : List Nat} (h : Wd w a ds) (hg : w.grownBy w' (some b)) (hne : a ≠ b) : Wd w' a ds := by
  obtain ⟨h1, h2, T, h3⟩ := h
  exact ⟨h1, h2, T, by rw [hg.block a (heap_lt h3) (by simpa using hne)]; exact h3⟩
theorem and2047 (s : Nat) (hs : s < 18446744073709551616) : bits .and .u64 (s : Int) 2047 = ((s % 2048 : Nat) : Int) := by
  have h := bits_and_u64_nat s 2047 hs (by omega)
  rw [show 2047 = 2 ^ 11 - 1 by omega, and_low] at h
  exact h
/-- The digits and the shift of a finite number. -/
theorem mag_parts (s : Nat) : magB s = (if 0 < s / 4503599627370496 then s % 4503599627370496 + 4503599627370496 else s % 4503599627370496) * 2 ^ (s / 4503599627370496 - 1) := by
  unfold magB
  by_cases h : s < 4503599627370496
  · rw [if_pos h, if_neg (by omega), show s / 4503599627370496 = 0 by omega]; simp; omega
  · rw [if_neg h, if_pos (by omega)]
theorem xor_top (m : Nat) (hm : m < 9223372036854775808) : m ^^^ 2 ^ 63 = 9223372036854775808 + m := by
  have hm2 : m < 2 ^ 63 := hm
  rw [show (9223372036854775808 : Nat) = 2 ^ 63 from rfl]
  apply Nat.eq_of_testBit_eq
  intro i
  rw [Nat.testBit_xor, Nat.testBit_two_pow]
  rcases Nat.lt_trichotomy i 63 with h | h | h
  · rw [Nat.testBit_two_pow_add_gt h, decide_eq_false (by omega), Bool.xor_false]
  · subst h
    rw [Nat.testBit_two_pow_add_eq, Nat.testBit_lt_two_pow hm2]; rfl
  · rw [decide_eq_false (by omega), Bool.xor_false]
    have h1 : 2 ^ 64 ≤ 2 ^ i := Nat.pow_le_pow_right Nat.two_pos h
    rw [Nat.testBit_lt_two_pow (by omega), Nat.testBit_lt_two_pow (by omega)]
theorem xor_top2 (m : Nat) (hm : m < 9223372036854775808) : (9223372036854775808 + m) ^^^ 2 ^ 63 = m := by
  rw [← xor_top m hm, Nat.xor_assoc, Nat.xor_self, Nat.xor_zero]
theorem neg_lt (m : Nat) (hm : m < 9223372036854775808) : Op.negFloat .f64 m = 9223372036854775808 + m := xor_top m hm
theorem neg_ge (m : Nat) (hm : m < 9223372036854775808) : Op.negFloat .f64 (9223372036854775808 + m) = m := xor_top2 m hm
theorem neg_run (r S : Nat) (h : Op.negFloat .f64 r = S) (w : World) : (Op.unary .neg (.float .f64 r)).run Tryd.prog w = .ok (.float .f64 S) w := by
  rw [← h]; rfl
theorem cntd (xs : List Nat) (x c : Nat) : decide (0 < cnt (xs ++ [x]) c) = (decide (0 < cnt xs c) || decide (classB x = (c : Int))) := by
  rw [cnt_snoc, Bool.eq_iff_iff]
  by_cases h : classB x = (c : Int)
  · rw [if_pos h]; simp [h]
  · rw [if_neg h]; simp [h]
theorem exp_of (x : Nat) : x % 9223372036854775808 / 4503599627370496 = x / 4503599627370496 % 2048 := by omega
theorem frac_of (x : Nat) : x % 9223372036854775808 % 4503599627370496 = x % 4503599627370496 := by omega
theorem exp_ne {x : Nat} (hf : x % 9223372036854775808 < 9218868437227405312) : x / 4503599627370496 % 2048 ≠ 2047 := by rw [← exp_of]; omega
theorem digits_lt (x E : Nat) : (if 0 < E then x % 4503599627370496 + 4503599627370496 else x % 4503599627370496) < 9007199254740992 := by
  have := Nat.mod_lt x (show 0 < 4503599627370496 by omega)
  split <;> omega
theorem ne_beq {a b : Nat} (h : a ≠ b) : ((a : Int) == (b : Int)) = false := by simp; omega
theorem sub_one {E : Nat} (h : E ≠ 0) : ((E - 1 : Nat) : Int) = (E : Int) - 1 := by omega
theorem wrap_small {E : Nat} (h : E < 2048) : wrap64 ((E : Int) - 1) = (E : Int) - 1 := by unfold wrap64; omega
theorem sub_le {E : Nat} (h1 : E < 2048) (h2 : E ≠ 2047) : E - 1 ≤ 2045 := by omega
theorem wrap_digits (x : Nat) : IntKind.u64.wrap (((x % 4503599627370496 : Nat) : Int) + 4503599627370496) = ((x % 4503599627370496 + 4503599627370496 : Nat) : Int) := by
  have := Nat.mod_lt x (show 0 < 4503599627370496 by omega)
  generalize x % 4503599627370496 = F at *
  rw [IntKind.wrap_u64]; omega
theorem not_top_le {x : Nat} (h : ¬ (9223372036854775808 : Int) ≤ (x : Int)) : x < 9223372036854775808 := by omega
theorem top_le {x : Nat} (h : (9223372036854775808 : Int) ≤ (x : Int)) : 9223372036854775808 ≤ x := by omega
theorem fpos_low {x : Nat} (h : x < 9223372036854775808) (hf : x % 9223372036854775808 < 9218868437227405312) : fpos x = magB (x % 9223372036854775808) := by
  rw [Nat.mod_eq_of_lt h] at hf ⊢
  unfold fpos; rw [if_pos hf]
theorem fneg_low {x : Nat} (h : x < 9223372036854775808) : fneg x = 0 := by unfold fneg; rw [if_neg (by omega)]
theorem fpos_high {x : Nat} (h : 9223372036854775808 ≤ x) : fpos x = 0 := by unfold fpos; rw [if_neg (by omega)]
theorem fneg_high {x : Nat} (h : 9223372036854775808 ≤ x) (hf : x % 9223372036854775808 < 9218868437227405312) (hx : x < 18446744073709551616) : fneg x = magB (x % 9223372036854775808) := by
  have e : x % 9223372036854775808 = x - 9223372036854775808 := by omega
  rw [e] at hf ⊢
  unfold fneg; rw [if_pos (by omega)]
set_option maxHeartbeats 2000000 in
theorem wsum_any (w : World) (v : Value) (xs : List Nat) (hx : Row w v (fvals xs)) (hb : Bs xs) :
    Calls Tryd.prog 36 #[v] w fun e w' => e = .returned (.float .f64 (sumB xs)) ∧ Below w.heap.size w w' := by
  obtain ⟨S, hS⟩ : ∃ S, Hid (sumB xs = S) := ⟨_, rfl⟩
  rw [hS.out]
  obtain ⟨ao, cap, rfl, h1, h2, h3, h4⟩ := hx
  have hlen : (fvals xs).length = xs.length := by simp [fvals]
  have h4' : Hid (At w ao (fvals xs)) := h4
  rw [hlen] at h2 ⊢
  have hn47 : xs.length ≤ 9223372036854775807 := by unfold maxLen at h3; omega
  clear h1 h4 hlen h2 h3
  obtain ⟨n, hn⟩ : ∃ n, Hid (xs.length = n) := ⟨_, rfl⟩
  rw [hn.out] at hn47 ⊢
  replace hb : Hid (Bs xs) := hb
  go_enter Tryd.func36, Tryd.ntmps36
  go_wp2_with fail
  go_loopw [3, 4, 5, 6, 9] (fun v3 v4 v5 v6 v9 wr => ∃ (i : Nat) (ds es : List Nat), i ≤ n ∧ v9 = .int .i64 (i : Int) ∧ v3 = .bool (decide (0 < cnt (xs.take i) 9)) ∧ v4 = .bool (decide (0 < cnt (xs.take i) 2)) ∧ v5 = .bool (decide (0 < cnt (xs.take i) 1)) ∧ v6 = .int .i64 (cnt (xs.take i) 5 : Int) ∧
      Hid (Wd wr w.heap.size ds) ∧ Hid (Wd wr (w.heap.size + 1) es) ∧ Hid (wal ds = posF (xs.take i)) ∧ Hid (wal es = negF (xs.take i)) ∧ Hid (Below w.heap.size w wr)) (fun _ _ _ _ v _ => n - (intOf v).toNat)
  case atStart =>
    refine ⟨0, List.replicate 70 0, List.replicate 70 0, by omega, rfl, rfl, rfl, rfl, rfl, Wd.new (heap_alloc2_old _ _ _) rfl, Wd.new (by rw [show w.heap.size + 1 = (w.alloc _).heap.size from (World.size_alloc ..).symm]; exact heap_alloc_new _ _) rfl, wal_replicate 70, wal_replicate 70, (box_below _ _).alloc (by simp) _⟩
  case round =>
    obtain ⟨i, ds, es, hi, rfl, rfl, rfl, rfl, rfl, hd, he, hvd, hve, hB⟩ := hrel
    obtain ⟨c9, hc9⟩ : ∃ c, Hid (decide (0 < cnt (xs.take i) 9) = c) := ⟨_, rfl⟩
    obtain ⟨c2, hc2⟩ : ∃ c, Hid (decide (0 < cnt (xs.take i) 2) = c) := ⟨_, rfl⟩
    obtain ⟨c1, hc1⟩ : ∃ c, Hid (decide (0 < cnt (xs.take i) 1) = c) := ⟨_, rfl⟩
    obtain ⟨c5, hc5⟩ : ∃ c, Hid (cnt (xs.take i) 5 = c) := ⟨_, rfl⟩
    rw [hc9.out, hc2.out, hc1.out, hc5.out]
    have hc5l : c5 ≤ i := by rw [← hc5.out]; exact Nat.le_trans (cnt_le _ _) (by rw [List.length_take]; omega)
    by_cases hin : i = n
    · have htk : xs.take i = xs := List.take_of_length_le (by have := hn.out; omega)
      rw [htk] at hc9 hc2 hc1 hc5 hvd hve
      clear htk
      have hu : Hid (unsB xs = if c1 || (c9 && c2) then some 9221120237041090561 else if c9 then some 9218868437227405312 else if c2 then some 18442240474082181120 else if 0 < n ∧ c5 = n then some 9223372036854775808 else none) := by
        show _ = _
        rw [← hc9.out, ← hc2.out, ← hc1.out, ← hc5.out, ← hn.out]
        unfold unsB
        simp only [Bool.or_eq_true, Bool.and_eq_true, decide_eq_true_eq]
      have k2 := of_run
      subst hin
      cases c1 with
      | true =>
        have hS2 : S = 9221120237041090561 := by rw [← hS.out, sumB, hu.out]; rfl
        subst hS2
        go_wp2
        go_ret
        exact ⟨rfl, hB.out⟩
      | false =>
        cases c9 with
        | true =>
          cases c2 with
          | true =>
            have hS2 : S = 9221120237041090561 := by rw [← hS.out, sumB, hu.out]; rfl
            subst hS2
            go_wp2
            go_ret
            exact ⟨rfl, hB.out⟩
          | false =>
            have hS2 : S = 9218868437227405312 := by rw [← hS.out, sumB, hu.out]; rfl
            subst hS2
            go_wp2_with fail
            refine (inf_any _ _).mono ?_
            rintro e w2 ⟨rfl, rfl⟩
            go_wp2
            go_ret
            exact ⟨rfl, hB.out⟩
        | false =>
          cases c2 with
          | true =>
            have hS2 : S = 18442240474082181120 := by rw [← hS.out, sumB, hu.out]; rfl
            subst hS2
            go_wp2_with fail
            refine (inf_any _ _).mono ?_
            rintro e w2 ⟨rfl, rfl⟩
            go_wp2
            go_ret
            exact ⟨rfl, hB.out⟩
          | false =>
            simp only [Bool.false_and, Bool.or_false, Bool.false_eq_true, if_false] at hu
            by_cases hz : 0 < i ∧ c5 = i
            · have hS2 : S = 9223372036854775808 := by rw [← hS.out, sumB, hu.out, if_pos hz]
              obtain ⟨hz1, rfl⟩ := hz
              subst hS2
              have hz2 : (0 : Int) < (c5 : Int) := by omega
              go_wp2
              go_ret
              exact ⟨rfl, hB.out⟩
            · have hun : unsB xs = none := by rw [hu.out, if_neg hz]
              obtain ⟨hpe, hne⟩ := posF_eq hb.out (uns_none hb.out hun)
              have hS2 : Hid (S = if wal ds < wal es then 9223372036854775808 + roundB (wal es - wal ds) else roundB (wal ds - wal es)) := by
                show _ = _
                rw [← hS.out, sumB, hun, hvd.out, hve.out, hpe, hne]
              clear hu hun hpe hne
              go_upto_region 31 with fail
              go_cut [82] from 15 (fun s wx => s = .bool false ∧ wx = wr)
              case first =>
                by_cases h0 : c5 = 0
                · subst h0
                  go_wp2_with fail
                  go_meet
                  case rel => exact ⟨rfl, rfl⟩
                · have hp : (0 : Int) < (c5 : Int) := by omega
                  have hne : ((c5 : Int) == (i : Int)) = false := by simp; omega
                  go_wp2_with fail
                  go_meet
                  case rel => exact ⟨rfl, rfl⟩
              case rest =>
                obtain ⟨rfl, rfl⟩ := hcut
                go_wp2_with fail
                refine (wless_any _ _ _ ds es hd.out he.out).mono ?_
                rintro e w2 ⟨rfl, hq⟩
                have hd2 := hd.out.below (Qt.below hq _)
                have he2 := he.out.below (Qt.below hq _)
                have hBw2 : Hid (Below w.heap.size w w2) := hB.out.trans ((Qt.below hq _).mono hB.out.size)
                by_cases hlt : wal ds < wal es
                · rw [decide_eq_true hlt]
                  go_wp2_with fail
                  refine (wsub_any _ _ _ (by omega) es ds he2 hd2 (by omega)).mono ?_
                  rintro e w3 ⟨v3, es3, rfl, hu3, hv3, hg3⟩
                  have hBw3 : Hid (Below w.heap.size w w3) := below_block hBw2.out hg3 (by omega)
                  go_wp2_with fail
                  refine (wround_any _ _ es3 hu3).mono ?_
                  rintro e w4 ⟨rfl, rfl⟩
                  have hS3 : Hid (S = 9223372036854775808 + roundB (wal es3)) := by
                    show _ = _
                    rw [hS2.out, if_pos hlt, hv3]
                  have hr := neg_lt (roundB (wal es3)) (Nat.lt_of_le_of_lt (round_lt _) (by omega))
                  rw [← hS3.out] at hr
                  obtain ⟨r, hrr⟩ : ∃ r, Hid (roundB (wal es3) = r) := ⟨_, rfl⟩
                  rw [hrr.out] at hr ⊢
                  have kneg := fun w => neg_run r S hr w
                  clear hr
                  go_wp2
                  go_ret
                  exact ⟨rfl, hBw3.out⟩
                · rw [decide_eq_false hlt]
                  go_wp2_with fail
                  refine (wsub_any _ _ _ (by omega) ds es hd2 he2 (by omega)).mono ?_
                  rintro e w3 ⟨v3, ds3, rfl, hu3, hv3, hg3⟩
                  have hBw3 : Hid (Below w.heap.size w w3) := below_block hBw2.out hg3 (by omega)
                  go_wp2_with fail
                  refine (wround_any _ _ ds3 hu3).mono ?_
                  rintro e w4 ⟨rfl, rfl⟩
                  have hS3 : Hid (S = roundB (wal ds3)) := by
                    show _ = _
                    rw [hS2.out, if_neg hlt, hv3]
                  rw [← hS3.out]
                  go_wp2
                  go_ret
                  exact ⟨rfl, hBw3.out⟩
    · have hil : i < xs.length := by have := hn.out; omega
      obtain ⟨x, hx⟩ : ∃ x, Hid (xs[i] = x) := ⟨xs[i], rfl⟩
      have hxm : Hid (x ∈ xs) := by rw [← hx.out]; exact List.getElem_mem hil
      obtain ⟨rb, off, rfl, hcell⟩ := h4'.out i (by simp [fvals]; omega)
      have hcx : wr.cell? ⟨rb, off + i, none⟩ = some (.float .f64 x) := by
        rw [hB.out.cell (p := ⟨rb, off + i, none⟩) (lt_of_cell hcell), hcell, ← hx.out]
        simp [fvals]
      clear hcell
      have htk : Hid (xs.take (i + 1) = xs.take i ++ [x]) := by show _ = _; rw [List.take_succ_eq_append_getElem hil, hx.out]
      have hxl : Hid (x < 18446744073709551616) := hb.out x hxm.out
      have hd9 : Hid (decide (0 < cnt (xs.take (i + 1)) 9) = (c9 || decide (classB x = 9))) := by show _ = _; rw [htk.out, cntd, hc9.out]; rfl
      have hd2 : Hid (decide (0 < cnt (xs.take (i + 1)) 2) = (c2 || decide (classB x = 2))) := by show _ = _; rw [htk.out, cntd, hc2.out]; rfl
      have hd1 : Hid (decide (0 < cnt (xs.take (i + 1)) 1) = (c1 || decide (classB x = 1))) := by show _ = _; rw [htk.out, cntd, hc1.out]; rfl
      have hd5 : Hid (cnt (xs.take (i + 1)) 5 = c5 + if classB x = 5 then 1 else 0) := by show _ = _; rw [htk.out, cnt_snoc, hc5.out]; rfl
      have hpr : Hid (posF (xs.take (i + 1)) < 4294967296 ^ 70) := posF_room (n := n) (by rw [List.length_take]; have := hn.out; omega) hn47
      have hnr : Hid (negF (xs.take (i + 1)) < 4294967296 ^ 70) := negF_room (n := n) (by rw [List.length_take]; have := hn.out; omega) hn47
      have hps : Hid (posF (xs.take (i + 1)) = wal ds + fpos x) := by show _ = _; rw [htk.out, posF_snoc, hvd.out]
      have hns : Hid (negF (xs.take (i + 1)) = wal es + fneg x) := by show _ = _; rw [htk.out, negF_snoc, hve.out]
      have i1 : (i : Int) < (n : Int) := by omega
      have i2 : (0 : Int) ≤ (i : Int) := by omega
      obtain ⟨X, hX⟩ : ∃ X : Int, Hid (X = x) := ⟨_, rfl⟩
      have k5 := fun w => bits_run x w
      have k6 := low52 x hxl.out
      rw [← hX.out] at k5 k6
      obtain ⟨F, hF⟩ : ∃ F, Hid (F = x % 4503599627370496) := ⟨_, rfl⟩
      rw [← hF.out] at k6
      obtain ⟨Q, hQ⟩ : ∃ Q, Hid (Q = x / 4503599627370496) := ⟨_, rfl⟩
      have k7 : X / 4503599627370496 = (Q : Int) := by rw [hX.out, hQ.out]; omega
      have k8 := and2047 Q (by rw [hQ.out]; have := hxl.out; omega)
      obtain ⟨E, hE⟩ : ∃ E, Hid (E = Q % 2048) := ⟨_, rfl⟩
      rw [← hE.out] at k8
      have hEl : Hid (E < 2048) := by show _ < _; rw [hE.out]; omega
      have k9 : wrap64 (E : Int) = (E : Int) := by have := hEl.out; unfold wrap64; omega
      have hin2 : Hid (i ≠ n) := hin
      clear hin
      rcases kinds hxl.out with ⟨hnan, hcl⟩ | ⟨rfl, hnan, hcl⟩ | ⟨rfl, hnan, hcl⟩ | ⟨rfl, hnan, hcl⟩ | ⟨hf, h3, hnan, h1, h2, h5, h9⟩
      · have hz1 : Hid (fpos x = 0) := by
          have h0 : x % 9223372036854775808 > 9218868437227405312 := of_decide_eq_true hnan
          show fpos x = 0
          unfold fpos; rw [if_neg (by omega)]
        have hz2 : Hid (fneg x = 0) := by
          have h0 : x % 9223372036854775808 > 9218868437227405312 := of_decide_eq_true hnan
          show fneg x = 0
          unfold fneg; rw [if_neg (by omega)]
        rw [hz1.out] at hps
        rw [hz2.out] at hns
        rw [hcl] at hd9 hd2 hd1 hd5
        go_wp2_with fail
        refine (refNaN_any _ x hxl.out).mono ?_
        rintro e w2 ⟨rfl, rfl⟩
        rw [hnan]
        go_wp2_with fail
        go_roundw
        case rel => exact ⟨i + 1, ds, es, by have := hin2.out; omega, by go_num, by rw [hd9.out]; simp, by rw [hd2.out]; simp, by rw [hd1.out]; simp, by rw [hd5.out]; simp, hd.out, he.out, hps.out.symm, hns.out.symm, hB.out⟩
        case measure => have := hin2.out; simp [intOf]; omega
      · have hz1 : Hid (fpos 9218868437227405312 = 0) := by show _ = _; decide +kernel
        have hz2 : Hid (fneg 9218868437227405312 = 0) := by show _ = _; decide +kernel
        rw [hz1.out] at hps
        rw [hz2.out] at hns
        rw [hcl] at hd9 hd2 hd1 hd5
        have hE3 : Hid (E = 2047) := by show _ = _; rw [hE.out, hQ.out]
        have kE : ((E : Int) == 2047) = true := by rw [hE3.out]; decide
        have kn : decide (9223372036854775808 ≤ X) = false := by rw [hX.out]; decide
        have kt : (X == 9223372036854775808) = false := by rw [hX.out]; decide
        go_wp2_with fail
        refine (refNaN_any _ 9218868437227405312 (by omega)).mono ?_
        rintro e w2 ⟨rfl, rfl⟩
        rw [hnan]
        go_wp2_with fail
        go_roundw
        case rel => exact ⟨i + 1, ds, es, by have := hin2.out; omega, by go_num, by rw [hd9.out]; simp, by rw [hd2.out]; simp, by rw [hd1.out]; simp, by rw [hd5.out]; simp, hd.out, he.out, hps.out.symm, hns.out.symm, hB.out⟩
        case measure => have := hin2.out; simp [intOf]; omega
      · have hz1 : Hid (fpos 18442240474082181120 = 0) := by show _ = _; decide +kernel
        have hz2 : Hid (fneg 18442240474082181120 = 0) := by show _ = _; decide +kernel
        rw [hz1.out] at hps
        rw [hz2.out] at hns
        rw [hcl] at hd9 hd2 hd1 hd5
        have hE3 : Hid (E = 2047) := by show _ = _; rw [hE.out, hQ.out]
        have kE : ((E : Int) == 2047) = true := by rw [hE3.out]; decide
        have kn : decide (9223372036854775808 ≤ X) = true := by rw [hX.out]; decide
        have kt : (X == 9223372036854775808) = false := by rw [hX.out]; decide
        go_wp2_with fail
        refine (refNaN_any _ 18442240474082181120 (by omega)).mono ?_
        rintro e w2 ⟨rfl, rfl⟩
        rw [hnan]
        go_wp2_with fail
        go_roundw
        case rel => exact ⟨i + 1, ds, es, by have := hin2.out; omega, by go_num, by rw [hd9.out]; simp, by rw [hd2.out]; simp, by rw [hd1.out]; simp, by rw [hd5.out]; simp, hd.out, he.out, hps.out.symm, hns.out.symm, hB.out⟩
        case measure => have := hin2.out; simp [intOf]; omega
      · have hz1 : Hid (fpos 9223372036854775808 = 0) := by show _ = _; decide +kernel
        have hz2 : Hid (fneg 9223372036854775808 = 0) := by show _ = _; decide +kernel
        rw [hz1.out] at hps
        rw [hz2.out] at hns
        rw [hcl] at hd9 hd2 hd1 hd5
        have hE3 : Hid (E = 0) := by show _ = _; rw [hE.out, hQ.out]
        have kE : ((E : Int) == 2047) = false := by rw [hE3.out]; decide
        have kn : decide (9223372036854775808 ≤ X) = true := by rw [hX.out]; decide
        have kt : (X == 9223372036854775808) = true := by rw [hX.out]; decide
        go_wp2_with fail
        refine (refNaN_any _ 9223372036854775808 (by omega)).mono ?_
        rintro e w2 ⟨rfl, rfl⟩
        rw [hnan]
        go_wp2_with fail
        go_roundw
        case rel => exact ⟨i + 1, ds, es, by have := hin2.out; omega, by go_num, by rw [hd9.out]; simp, by rw [hd2.out]; simp, by rw [hd1.out]; simp, by rw [hd5.out]; simp, hd.out, he.out, hps.out.symm, hns.out.symm, hB.out⟩
        case measure => have := hin2.out; simp [intOf]; omega
      · have hE3 : Hid (E ≠ 2047) := by
          show _ ≠ _
          rw [hE.out, hQ.out]; exact exp_ne hf
        have kE : ((E : Int) == 2047) = false := ne_beq hE3.out
        have kt : (X == 9223372036854775808) = false := by rw [hX.out]; exact ne_beq h3
        obtain ⟨D, hD⟩ : ∃ D : Nat, Hid (D = if 0 < E then F + 4503599627370496 else F) := ⟨if 0 < E then F + 4503599627370496 else F, rfl⟩
        obtain ⟨H, hH⟩ : ∃ H : Nat, Hid (H = E - 1) := ⟨_, rfl⟩
        have hDl : D < 9007199254740992 := by
          rw [hD.out, hF.out]; exact digits_lt x E
        have hHl : H ≤ 2045 := by rw [hH.out]; exact sub_le hEl.out hE3.out
        have hmag : Hid (magB (x % 9223372036854775808) = D * 2 ^ H) := by
          show _ = _
          rw [mag_parts, hD.out, hH.out, hF.out, hE.out, hQ.out]
          rw [exp_of, frac_of]
        have hd9' : Hid (decide (0 < cnt (xs.take (i + 1)) 9) = c9) := by show _ = _; rw [hd9.out, decide_eq_false h9, Bool.or_false]
        have hd2' : Hid (decide (0 < cnt (xs.take (i + 1)) 2) = c2) := by show _ = _; rw [hd2.out, decide_eq_false h2, Bool.or_false]
        have hd1' : Hid (decide (0 < cnt (xs.take (i + 1)) 1) = c1) := by show _ = _; rw [hd1.out, decide_eq_false h1, Bool.or_false]
        have hd5' : Hid (cnt (xs.take (i + 1)) 5 = c5) := by show _ = _; rw [hd5.out, if_neg h5]; rfl
        have hw1 : IntKind.u64.wrap ((F : Int) + 4503599627370496) = ((F + 4503599627370496 : Nat) : Int) := by rw [hF.out]; exact wrap_digits x
        obtain ⟨Z, hZ⟩ : ∃ Z : Int, Hid (Z = ((F + 4503599627370496 : Nat) : Int)) := ⟨((F + 4503599627370496 : Nat) : Int), rfl⟩
        rw [← hZ.out] at hw1
        replace hDl : Hid (D < 9007199254740992) := hDl
        replace hf : Hid (x % 9223372036854775808 < 9218868437227405312) := hf
        replace h3 : Hid (x ≠ 9223372036854775808) := h3
        obtain ⟨G, hG⟩ : ∃ G : Bool, Hid (decide (9223372036854775808 ≤ X) = G) := ⟨_, rfl⟩
        have kG := hG.out
        clear h1 h2 h5 h9
        go_wp2_with fail
        refine (refNaN_any _ x hxl.out).mono ?_
        rintro e w2 ⟨rfl, rfl⟩
        rw [hnan]
        go_upto_if 35 with fail
        clear k5 k6 k7 k8 k9 kt kE
        go_cut [13, 14] from 15 to 66 (fun s13 s14 wx => s13 = .int .u64 (D : Int) ∧ s14 = .int .i64 (H : Int) ∧ wx = w2)
        case first =>
          by_cases hE0 : E = 0
          · subst hE0
            have hH0 : H = 0 := by rw [hH.out]
            have hD0 : D = F := by rw [hD.out, if_neg (Nat.lt_irrefl 0)]
            subst hH0 hD0
            go_wp2_with fail
            go_meet
            case rel => exact ⟨rfl, rfl, rfl⟩
          · have hpos : (0 : Int) < (E : Int) := by omega
            have hD2 : Hid ((D : Int) = Z) := by show _ = _; rw [hD.out, if_pos (Nat.pos_of_ne_zero hE0), hZ.out]
            have hH2 : Hid ((H : Int) = (E : Int) - 1) := by show _ = _; rw [hH.out]; exact sub_one hE0
            have hw2 : wrap64 ((E : Int) - 1) = (E : Int) - 1 := wrap_small hEl.out
            go_wp2_with fail
            go_meet
            case rel => exact ⟨by rw [hD2.out], by rw [hH2.out, hw2], rfl⟩
        case rest =>
          obtain ⟨rfl, rfl, rfl⟩ := hcut
          cases G with
          | false =>
            have hneg : Hid (x < 9223372036854775808) := by
              have := of_decide_eq_false hG.out
              rw [hX.out] at this; exact not_top_le this
            have hz1 : Hid (fpos x = D * 2 ^ H) := by
              show _ = _
              rw [← hmag.out]; exact fpos_low hneg.out hf.out
            have hz2 : Hid (fneg x = 0) := by
              exact fneg_low hneg.out
            rw [hz1.out] at hps
            rw [hz2.out] at hns
            go_wp2_with fail
            refine (wadd_any _ _ D H ds hd.out hDl.out hHl (by rw [← hps.out]; exact hpr.out)).mono ?_
            rintro e w3 ⟨v3, ds3, rfl, hu3, hv3, hg3⟩
            have he3 : Hid (Wd w3 (w.heap.size + 1) es) := he.out.grown hg3 (by omega)
            have hB3 : Hid (Below w.heap.size w w3) := below_block hB.out hg3 (Nat.le_refl _)
            replace hu3 : Hid (Wd w3 w.heap.size ds3) := hu3
            rw [← hps.out] at hv3
            replace hv3 : Hid (wal ds3 = posF (xs.take (i + 1))) := hv3
            go_wp2_with fail
            go_roundw
            case rel => exact ⟨i + 1, ds3, es, by have := hin2.out; omega, by go_num, by rw [hd9'.out], by rw [hd2'.out], by rw [hd1'.out], by rw [hd5'.out], hu3.out, he3.out, hv3.out, hns.out.symm, hB3.out⟩
            case measure => have := hin2.out; simp [intOf]; omega
          | true =>
            have hneg : Hid (9223372036854775808 ≤ x) := by
              have := of_decide_eq_true hG.out
              rw [hX.out] at this; exact top_le this
            have hz1 : Hid (fpos x = 0) := by
              exact fpos_high hneg.out
            have hz2 : Hid (fneg x = D * 2 ^ H) := by
              show _ = _
              rw [← hmag.out]; exact fneg_high hneg.out hf.out hxl.out
            rw [hz1.out] at hps
            rw [hz2.out] at hns
            go_wp2_with fail
            refine (wadd_any _ _ D H es he.out hDl.out hHl (by rw [← hns.out]; exact hnr.out)).mono ?_
            rintro e w3 ⟨v3, es3, rfl, hu3, hv3, hg3⟩
            have hd3 : Hid (Wd w3 w.heap.size ds) := hd.out.grown hg3 (by omega)
            have hB3 : Hid (Below w.heap.size w w3) := below_block hB.out hg3 (by omega)
            replace hu3 : Hid (Wd w3 (w.heap.size + 1) es3) := hu3
            rw [← hns.out] at hv3
            replace hv3 : Hid (wal es3 = negF (xs.take (i + 1))) := hv3
            go_wp2_with fail
            go_roundw
            case rel => exact ⟨i + 1, ds, es3, by have := hin2.out; omega, by go_num, by rw [hd9'.out], by rw [hd2'.out], by rw [hd1'.out], by rw [hd5'.out], hd3.out, hu3.out, hps.out.symm, hv3.out, hB3.out⟩
            case measure => have := hin2.out; simp [intOf]; omega
#print axioms wsum_any
end Go.Proofs.YtojohcckaklmpaaDoor.Rl
