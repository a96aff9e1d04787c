/-
  Package real's exact sums: what Sum answers.
-/
import Derived.Test.YtojohcckaklmpaaDoorRlO
namespace Go.Proofs.YtojohcckaklmpaaDoor.Rl
open Go.RowKit
set_option maxRecDepth 100000

def posB (b : Nat) : Nat := if b < 9223372036854775808 then magB b else 0
def negB (b : Nat) : Nat := if b < 9223372036854775808 then 0 else magB (b - 9223372036854775808)
def posS (xs : List Nat) : Nat := (xs.map posB).sum
def negS (xs : List Nat) : Nat := (xs.map negB).sum
def sumB (xs : List Nat) : Nat := match unsB xs with
  | some u => u
  | none => if posS xs < negS xs then 9223372036854775808 + roundB (negS xs - posS xs) else roundB (posS xs - negS xs)
theorem cnt_pos {xs : List Nat} {x c : Nat} (h : x ∈ xs) (hc : classB x = (c : Int)) : 0 < cnt xs c := by
  unfold cnt
  rw [List.countP_pos_iff]
  exact ⟨x, h, by simp [hc]⟩
theorem uns_none {xs : List Nat} (hb : Bs xs) (h : unsB xs = none) : ∀ b ∈ xs, b % 9223372036854775808 < 9218868437227405312 := by
  intro b hm
  have hlt := hb b hm
  unfold unsB at h
  split at h
  · cases h
  · rename_i h1
    split at h
    · cases h
    · rename_i h9
      split at h
      · cases h
      · rename_i h2
        have k1 : classB b ≠ 1 := fun e => h1 (Or.inl (cnt_pos (c := 1) hm e))
        have k9 : classB b ≠ 9 := fun e => h9 (cnt_pos (c := 9) hm e)
        have k2 : classB b ≠ 2 := fun e => h2 (cnt_pos (c := 2) hm e)
        unfold classB nanB at *
        rcases Nat.lt_or_ge b 9223372036854775808 with hs | hs
        · rcases Nat.lt_or_ge b 9218868437227405312 with hz | hz
          · omega
          · exfalso
            by_cases hn : b % 9223372036854775808 > 9218868437227405312
            · simp [hn] at k1
            · apply k9
              have e : rankB b = 3 := by unfold rankB; rw [if_neg (by omega), if_neg (by omega), if_neg (by omega)]
              rw [if_neg (by simpa using hn), if_pos hs, e]; rfl
        · rcases Nat.lt_or_ge (b - 9223372036854775808) 9218868437227405312 with hz | hz
          · omega
          · exfalso
            by_cases hn : b % 9223372036854775808 > 9218868437227405312
            · simp [hn] at k1
            · apply k2
              have e : rankB (b - 9223372036854775808) = 3 := by unfold rankB; rw [if_neg (by omega), if_neg (by omega), if_neg (by omega)]
              rw [if_neg (by simpa using hn), if_neg (by omega), e]; rfl
theorem pow_le2 (a b : Nat) (h : a ≤ b) : 2 ^ a ≤ 2 ^ b := Nat.pow_le_pow_right Nat.two_pos h
theorem mulpow (a x y : Nat) (h : a < 2 ^ x) : a * 2 ^ y < 2 ^ (x + y) := by rw [Nat.pow_add]; exact Nat.mul_lt_mul_of_pos_right h (Nat.two_pow_pos _)
theorem mag_lt {s : Nat} (h : s < 9218868437227405312) : magB s < 2 ^ (53 + 2045) := by
  unfold magB
  split
  · rename_i hs
    have h52 : s < 2 ^ 52 := hs
    have h53 := pow_le2 52 (53 + 2045) (by decide)
    exact Nat.lt_of_lt_of_le h52 h53
  · have h1 := pow_le2 (s / 4503599627370496 - 1) 2045 (by omega)
    have h2 : (s % 4503599627370496 + 4503599627370496) < 2 ^ 53 := by omega
    exact Nat.lt_of_le_of_lt (Nat.mul_le_mul_left _ h1) (mulpow _ 53 2045 h2)
theorem sum_le (f : Nat → Nat) (m : Nat) : ∀ (xs : List Nat), (∀ x ∈ xs, f x ≤ m) → (xs.map f).sum ≤ xs.length * m
  | [], _ => by simp
  | x :: r, h => by
    have h1 := h x (by simp)
    have h2 := sum_le f m r (fun y hy => h y (by simp [hy]))
    rw [List.map_cons, List.sum_cons, List.length_cons, Nat.succ_mul]
    omega
theorem posB_le {b : Nat} (h : b % 9223372036854775808 < 9218868437227405312) : posB b ≤ 2 ^ (53 + 2045) := by
  unfold posB
  split
  · exact Nat.le_of_lt (mag_lt (by omega))
  · exact Nat.zero_le _
theorem negB_le {b : Nat} (hb : b < 18446744073709551616) (h : b % 9223372036854775808 < 9218868437227405312) : negB b ≤ 2 ^ (53 + 2045) := by
  unfold negB
  split
  · exact Nat.zero_le _
  · exact Nat.le_of_lt (mag_lt (by omega))
theorem room {n : Nat} (hn : n ≤ 9223372036854775807) (s : Nat) (hs : s ≤ n * 2 ^ (53 + 2045)) : s < 18446744073709551616 ^ 34 := by
  rw [words_pow]
  have h0 : n < 2 ^ 63 := Nat.lt_of_le_of_lt hn (by decide)
  have h1 := mulpow n 63 (53 + 2045) h0
  have h2 := pow_le2 (63 + (53 + 2045)) (64 * 34) (by decide)
  exact Nat.lt_of_le_of_lt hs (Nat.lt_of_lt_of_le h1 h2)
theorem posS_room {xs : List Nat} {n : Nat} (hn : xs.length ≤ n) (hn2 : n ≤ 9223372036854775807) (h : ∀ b ∈ xs, b % 9223372036854775808 < 9218868437227405312) : posS xs < 18446744073709551616 ^ 34 :=
  room hn2 _ (Nat.le_trans (sum_le posB (2 ^ (53 + 2045)) xs (fun b hb => posB_le (h b hb))) (Nat.mul_le_mul_right _ hn))
theorem negS_room {xs : List Nat} {n : Nat} (hn : xs.length ≤ n) (hn2 : n ≤ 9223372036854775807) (hb : Bs xs) (h : ∀ b ∈ xs, b % 9223372036854775808 < 9218868437227405312) : negS xs < 18446744073709551616 ^ 34 :=
  room hn2 _ (Nat.le_trans (sum_le negB (2 ^ (53 + 2045)) xs (fun b hm => negB_le (hb b hm) (h b hm))) (Nat.mul_le_mul_right _ hn))
theorem posS_snoc (xs : List Nat) (x : Nat) : posS (xs ++ [x]) = posS xs + posB x := by simp [posS]
theorem negS_snoc (xs : List Nat) (x : Nat) : negS (xs ++ [x]) = negS xs + negB x := by simp [negS]
theorem val_replicate (n : Nat) : val (List.replicate n 0) = 0 := val_zero (by simp)
theorem Un.new {w : World} {b : Nat} {cs : Array Value} {T : TypeId} (h : w.heap[b]? = some (.cells cs T (0, 0))) (hs : cs = wcells (List.replicate 34 0)) : Un w b (List.replicate 34 0) :=
  ⟨by simp, fun d hd => by simp at hd; omega, T, by rw [h, hs]⟩
theorem Un.grown {w w' : World} {a b : Nat} {ds : List Nat} (h : Un w a ds) (hg : w.grownBy w' (some b)) (hne : a ≠ b) : Un w' a ds := by
  obtain ⟨h1, h2, T, h3⟩ := h
  exact ⟨h1, h2, T, by rw [hg.block a (heap_lt h3) (by simpa using hne)]; exact h3⟩
theorem round_lt (V : Nat) : roundB V ≤ 9218868437227405312 := by
  unfold roundB
  split
  · omega
  · exact Nat.min_le_right _ _
theorem top_or (m : Nat) (hm : m < 9223372036854775808) : bits .or .u64 9223372036854775808 (m : Int) = ((9223372036854775808 + m : Nat) : Int) := by
  have h := bits_or_u64_nat 9223372036854775808 m (by omega) (by omega)
  rw [show 9223372036854775808 = 2 ^ 63 * 1 by omega, ← Nat.two_pow_add_eq_or_of_lt (by omega)] at h
  rw [show (9223372036854775808 : Int) = ((2 ^ 63 * 1 : Nat) : Int) by rfl, h]
set_option maxHeartbeats 1000000 in
theorem sum_any (w : World) (v : Value) (xs : List Nat) (hx : Row w v (fvals xs)) (hb : Bs xs) :
    Calls Tryd.prog 32 #[v] w fun e w' => e = .returned (.float .f64 (sumB xs)) ∧ Below w.heap.size w w' := by
  obtain ⟨S, hS⟩ : ∃ S, Hid (sumB xs = S) := ⟨_, rfl⟩
  rw [hS.out]
  obtain ⟨U, hU⟩ : ∃ U, Hid (unsB xs = U) := ⟨_, rfl⟩
  have hx0 : Hid (Row w v (fvals xs)) := hx
  go_enter Tryd.func32, Tryd.ntmps32
  go_wp2_with fail
  refine (unsummed_any _ v xs hx hb).mono ?_
  rintro e w1 ⟨rfl, hB1⟩
  rw [hU.out]
  cases U with
  | some u =>
    have hS2 : S = u := by rw [← hS.out, sumB, hU.out]
    subst hS2
    go_wp2
    go_ret
    exact ⟨rfl, hB1⟩
  | none =>
    have hx1 : Row w1 v (fvals xs) := Below.row hB1 hx
    have hfin := uns_none hb hU.out
    obtain ⟨ao, cap, rfl, h1, h2, h3, h4⟩ := hx1
    have hlen : (fvals xs).length = xs.length := by simp [fvals]
    have h4' : Hid (At w1 ao (fvals xs)) := h4
    rw [hlen] at h2 ⊢
    have hn47 : xs.length ≤ 9223372036854775807 := by unfold maxLen at h3; omega
    clear h1 h4 hlen h2 h3 hx
    obtain ⟨n, hn⟩ : ∃ n, Hid (xs.length = n) := ⟨_, rfl⟩
    rw [hn.out] at hn47 ⊢
    have hS2 : Hid (S = if posS xs < negS xs then 9223372036854775808 + roundB (negS xs - posS xs) else roundB (posS xs - negS xs)) := by show _ = _; rw [← hS.out, sumB, hU.out]
    replace hfin : Hid (∀ b ∈ xs, b % 9223372036854775808 < 9218868437227405312) := hfin
    replace hb : Hid (Bs xs) := hb
    replace hB1 : Hid (Below w.heap.size w w1) := hB1
    have k1 := bits_run
    go_wp2_with fail
    go_loopw [19] (fun v wr => ∃ (i : Nat) (ds es : List Nat), i ≤ n ∧ v = .int .i64 (i : Int) ∧ Hid (Un wr w1.heap.size ds) ∧ Hid (Un wr (w1.heap.size + 1) es) ∧ Hid (val ds = posS (xs.take i)) ∧ Hid (val es = negS (xs.take i)) ∧ Hid (Below w1.heap.size w1 wr)) (fun v _ => n - (intOf v).toNat)
    case atStart =>
      refine ⟨0, List.replicate 34 0, List.replicate 34 0, by omega, rfl, Un.new (heap_alloc2_old _ _ _) rfl, Un.new (by rw [show w1.heap.size + 1 = (w1.alloc _).heap.size from (World.size_alloc ..).symm]; exact heap_alloc_new _ _) rfl, val_replicate 34, val_replicate 34, (box_below _ _).alloc (by simp) _⟩
    case round =>
      obtain ⟨i, ds, es, hi, rfl, hd, he, hvd, hve, hB⟩ := hrel
      by_cases hin : i = n
      · have hvd' : Hid (val ds = posS xs) := by
          show _ = _
          rw [hvd.out, List.take_of_length_le (by have := hn.out; omega)]
        have hve' : Hid (val es = negS xs) := by
          show _ = _
          rw [hve.out, List.take_of_length_le (by have := hn.out; omega)]
        subst hin
        have hBw : Hid (Below w.heap.size w wr) := hB1.out.trans (hB.out.mono hB1.out.size)
        have hsz : Hid (w.heap.size ≤ w1.heap.size) := hB1.out.size
        have k2 := of_run
        clear k1
        go_wp2_with fail
        refine (less_any _ _ _ ds es hd.out he.out).mono ?_
        rintro e w2 ⟨rfl, hq⟩
        have hd2 := hd.out.below (Qt.below hq _)
        have he2 := he.out.below (Qt.below hq _)
        have hBw2 : Hid (Below w.heap.size w w2) := hBw.out.trans (Qt.below hq _)
        by_cases hlt : val ds < val es
        · rw [decide_eq_true hlt]
          go_wp2_with fail
          refine (take_any _ _ _ (by omega) es ds he2 hd2 (by omega)).mono ?_
          rintro e w3 ⟨v3, es3, rfl, hu3, hv3, hg3⟩
          have hBw3 : Hid (Below w.heap.size w w3) := below_block hBw2.out hg3 (by have := hsz.out; omega)
          go_wp2_with fail
          refine (round_any _ _ es3 hu3).mono ?_
          rintro e w4 ⟨rfl, hq4⟩
          have hr := top_or (roundB (val es3)) (Nat.lt_of_le_of_lt (round_lt _) (by omega))
          have hS3 : Hid (S = 9223372036854775808 + roundB (val es3)) := by
            show _ = _
            rw [hS2.out, if_pos (by rw [← hvd'.out, ← hve'.out]; exact hlt), hv3, hvd'.out, hve'.out]
          obtain ⟨r, hrr⟩ : ∃ r, Hid (roundB (val es3) = r) := ⟨_, rfl⟩
          rw [hrr.out] at hr ⊢
          obtain ⟨R, hR⟩ : ∃ R : Int, Hid (R = ((9223372036854775808 + r : Nat) : Int)) := ⟨_, rfl⟩
          rw [← hR.out] at hr
          go_wp2
          go_ret
          exact ⟨by rw [hS3.out, hrr.out, hR.out]; rfl, hBw3.out.trans (Qt.below hq4 _)⟩
        · rw [decide_eq_false hlt]
          go_wp2_with fail
          refine (take_any _ _ _ (by omega) ds es hd2 he2 (by omega)).mono ?_
          rintro e w3 ⟨v3, ds3, rfl, hu3, hv3, hg3⟩
          have hBw3 : Hid (Below w.heap.size w w3) := below_block hBw2.out hg3 (by have := hsz.out; omega)
          go_wp2_with fail
          refine (round_any _ _ ds3 hu3).mono ?_
          rintro e w4 ⟨rfl, hq4⟩
          have hS3 : Hid (S = roundB (val ds3)) := by
            show _ = _
            rw [hS2.out, if_neg (by rw [← hvd'.out, ← hve'.out]; exact hlt), hv3, hvd'.out, hve'.out]
          obtain ⟨r, hrr⟩ : ∃ r, Hid (roundB (val ds3) = r) := ⟨_, rfl⟩
          rw [hrr.out]
          go_wp2
          go_ret
          exact ⟨by rw [hS3.out, hrr.out]; rfl, hBw3.out.trans (Qt.below hq4 _)⟩
      · have hil : i < xs.length := by have := hn.out; omega
        obtain ⟨x, hx⟩ : ∃ x, Hid (xs[i] = x) := ⟨xs[i], rfl⟩
        have hxm : Hid (x ∈ xs) := by rw [← hx.out]; exact List.getElem_mem hil
        obtain ⟨rb, off, rfl, hcell⟩ := h4'.out i (by simp [fvals]; omega)
        have hcx : wr.cell? ⟨rb, off + i, none⟩ = some (.float .f64 x) := by
          rw [hB.out.cell (p := ⟨rb, off + i, none⟩) (lt_of_cell hcell), hcell, ← hx.out]
          simp [fvals]
        clear hcell
        have htk : Hid (xs.take (i + 1) = xs.take i ++ [x]) := by show _ = _; rw [List.take_succ_eq_append_getElem hil, hx.out]
        have hpr : Hid (posS (xs.take (i + 1)) < 18446744073709551616 ^ 34) := posS_room (n := n) (by rw [List.length_take]; have := hn.out; omega) hn47 (fun b hb => hfin.out b (List.mem_of_mem_take hb))
        have hnr : Hid (negS (xs.take (i + 1)) < 18446744073709551616 ^ 34) := negS_room (n := n) (by rw [List.length_take]; have := hn.out; omega) hn47 (fun b h => hb.out b (List.mem_of_mem_take h)) (fun b hb => hfin.out b (List.mem_of_mem_take hb))
        have hxl : Hid (x < 18446744073709551616) := hb.out x hxm.out
        have hxf : Hid (x % 9223372036854775808 < 9218868437227405312) := hfin.out x hxm.out
        have i1 : (i : Int) < (n : Int) := by omega
        have i2 : (0 : Int) ≤ (i : Int) := by omega
        have k3 := and_top x hxl.out
        have k4 := andNot_top x hxl.out
        obtain ⟨X, hX⟩ : ∃ X : Int, Hid (X = x) := ⟨_, rfl⟩
        have k5 := fun w => bits_run x w
        rw [← hX.out] at k3 k4 k5
        obtain ⟨m, hm⟩ : ∃ m, Hid (x % 9223372036854775808 = m) := ⟨_, rfl⟩
        rw [hm.out] at k4
        clear k1
        by_cases hpos : x < 9223372036854775808
        · rw [if_pos hpos] at k3
          replace hpos : Hid (x < 9223372036854775808) := hpos
          go_wp2_with fail
          rw [hX.out]
          refine (add_any _ _ x ds hd.out (by have := hpos.out; have := hxf.out; omega) (by
            have := hpr.out
            rw [htk.out, posS_snoc, posB, if_pos hpos.out] at this
            rw [hvd.out]; exact this)).mono ?_
          rintro e w3 ⟨v3, ds3, rfl, hu3, hv3, hg3⟩
          have he3 : Hid (Un w3 (w1.heap.size + 1) es) := he.out.grown hg3 (by omega)
          have hB3 : Hid (Below w1.heap.size w1 w3) := below_block hB.out hg3 (Nat.le_refl _)
          have hvd3 : Hid (val ds3 = posS (xs.take (i + 1))) := by
            show _ = _
            rw [hv3, htk.out, posS_snoc, posB, if_pos hpos.out, hvd.out]
          have hve3 : Hid (val es = negS (xs.take (i + 1))) := by
            show _ = _
            rw [htk.out, negS_snoc, negB, if_pos hpos.out, hve.out]; rfl
          go_wp2_with fail
          go_roundw
          case rel => exact ⟨i + 1, ds3, es, by omega, by go_num, hu3, he3.out, hvd3.out, hve3.out, hB3.out⟩
          case measure => simp [intOf]; omega
        · rw [if_neg hpos] at k3
          replace hpos : Hid (¬ x < 9223372036854775808) := hpos
          have hm2 : Hid (m = x - 9223372036854775808) := by show _ = _; rw [← hm.out]; have := hpos.out; have := hxl.out; omega
          go_wp2_with fail
          refine (add_any _ _ m es he.out (by rw [← hm.out]; exact hxf.out) (by
            have := hnr.out
            rw [htk.out, negS_snoc, negB, if_neg hpos.out, ← hm2.out] at this
            rw [hve.out]; exact this)).mono ?_
          rintro e w3 ⟨v3, es3, rfl, hu3, hv3, hg3⟩
          have hd3 : Hid (Un w3 w1.heap.size ds) := hd.out.grown hg3 (by omega)
          have hB3 : Hid (Below w1.heap.size w1 w3) := below_block hB.out hg3 (by omega)
          have hvd3 : Hid (val ds = posS (xs.take (i + 1))) := by
            show _ = _
            rw [htk.out, posS_snoc, posB, if_neg hpos.out, hvd.out]; rfl
          have hve3 : Hid (val es3 = negS (xs.take (i + 1))) := by
            show _ = _
            rw [hv3, htk.out, negS_snoc, negB, if_neg hpos.out, hve.out, ← hm2.out]
          go_wp2_with fail
          go_roundw
          case rel => exact ⟨i + 1, ds, es3, by omega, by go_num, hd3.out, hu3, hvd3.out, hve3.out, hB3.out⟩
          case measure => simp [intOf]; omega
#print axioms sum_any
end Go.Proofs.YtojohcckaklmpaaDoor.Rl
