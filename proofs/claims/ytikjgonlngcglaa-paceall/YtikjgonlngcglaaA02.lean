/-
  Pace: the document's Seen; Want of both.
-/
import Derived.Test.YtikjgonlngcglaaA01
import Derived.Laws.Rows
import Derived.Deep.Strs
import Derived.Deep.Slices
import Derived.Deep.CutRange
namespace Go.Proofs.Ytikjgonlngcglaa.Pc
open Go.RowKit Rl Gg
set_option linter.unusedVariables false
set_option maxRecDepth 100000
theorem rseen_any {w : World} {b : Nat} {q : Q} {s : Nat} (h : At 55 w b q s) (ok : Ok q s) (n : Int) : Calls Try.prog 13 #[.pointer (some ⟨b, 0, none⟩), .int .i64 n] w fun e w' => e = .returned (.tuple #[]) ∧ At 55 w' b q (seenF q s n) ∧ But (fun k => k = b) w w' := by
  obtain ⟨c0, c1, c2, c3, c4⟩ := h.cells
  have HA := hide h
  have hm2 := ok.m2
  by_cases h1 : 1 ≤ n
  · by_cases h2 : n ≤ q.mo
    · have hS := hide (fun u => rsmooth_same u ok.s (n := n.toNat) (by omega) ok.a)
      have hr : Hid (seenF q s n = smB s (nf n.toNat) q.al) := hide (by unfold seenF; rw [if_pos ⟨h1, h2⟩])
      have hcv : ∀ u, (convert 3 25 (.int .i64 n)).run Try.prog u = .ok (.float .f64 (nf n.toNat)) u := fun u => by rw [conv_int]; unfold nf; rw [Int.toNat_of_nonneg (by omega)]
      rw [hr.out]
      generalize smB s (nf n.toNat) q.al = t at *
      generalize nf n.toNat = x at *
      have sf : ∀ (W : World) (a : Addr) (x : Nat), (store a (.float .f64 x)).run Try.prog W = stored Try.prog W a (.float .f64 x) .plain := fun W a x => run_store _ W a _ _ rfl
      have hF := h.frozen 4
      have POST : Hid (∀ k, At 55 ((w.drewN k).setCell ⟨b, 4, none⟩ (.float .f64 t)) b q t ∧ But (fun k => k = b) w ((w.drewN k).setCell ⟨b, 4, none⟩ (.float .f64 t))) := hide fun k =>
        ⟨(HA.out.below (below_drewN (Below.refl _ w) k)).set t, (but_drew w (fun k => k = b) k).trans (but_set _ b 4 _)⟩
      clear h ok hr
      go_enter Try.func13, Try.ntmps13
      go_upto_region 1 with fail
      go_region_with (first | (go_at_call 26; refine (hS.out _).mono ?_; rintro e w' ⟨rfl, hw⟩; rw [hw]; clear hw w'))
      all_goals
        go_wp2_with fail
        go_returns
        exact ⟨rfl, (POST.out _).1, (POST.out _).2⟩
    · have hr : seenF q s n = s := by unfold seenF; rw [if_neg (by omega)]
      rw [hr]
      clear h ok hr
      go_enter Try.func13, Try.ntmps13
      go_wp2_with fail
      go_returns
      exact ⟨rfl, HA.out, But.refl _ _⟩
  · have hr : seenF q s n = s := by unfold seenF; rw [if_neg (by omega)]
    rw [hr]
    clear h ok hr
    go_enter Try.func13, Try.ntmps13
    go_wp2_with fail
    go_returns
    exact ⟨rfl, HA.out, But.refl _ _⟩
/-- How many are wanted. -/
def wantF (q : Q) (s : Nat) : Nat := min (max (upU (magB s)) 1) q.mo.toNat
theorem ceil_run {b : Nat} (hb : b < 9218868437227405312) (w : World) : (callFunc 29 #[.float .f64 b]).run Try.prog w = .ok (.value (.float .f64 (roundB (upU (magB b) * 2 ^ 1074)))) w := by
  rw [run_callFunc_extern Try.func29 (by kernel_rfl) (by kernel_rfl) (by kernel_rfl) (e := Extern.MathFloor.toIntegral "math.archCeil" .up) (by kernel_rfl)]
  have hr := ceil_read hb
  have hb' : b % 9223372036854775808 = b := Nat.mod_eq_of_lt (by omega)
  obtain ⟨m, k, e, v⟩ := read_fin (b := b) (by rw [hb']; exact hb)
  have hd : FloatKind.f64.decode b = .number (sgnB b) m (-1074 + (k : Int)) := e
  rw [hd] at hr
  have key : Extern.MathFloor.toIntegral "math.archCeil" .up #[.float .f64 b] = pure (.float .f64 (roundB (upU (magB b) * 2 ^ 1074))) := by
    conv => lhs; whnf
    rw [hd]
    dsimp only
    rw [hr]
  rw [key]
  rfl
theorem ceil_any (w : World) {b : Nat} (hb : b < 9218868437227405312) : Calls Try.prog 23 #[.float .f64 b] w fun e w' => e = .returned (.float .f64 (nf (upU (magB b)))) ∧ w' = w := by
  have k := fun u => ceil_run hb u
  have e : nf (upU (magB b)) = roundB (upU (magB b) * 2 ^ 1074) := by unfold nf; exact nf_eq _
  rw [e]
  generalize roundB (upU (magB b) * 2 ^ 1074) = r at *
  go_enter Try.func23, Try.ntmps23
  go_wp2_with fail
  go_ret
  exact ⟨rfl, rfl⟩
theorem conv_i {b : Nat} {c : Nat} (h : (FloatKind.f64.decode b).toInt .zero = some (c : Int)) (hc : c ≤ 9223372036854775807) (w : World) : (convert 25 3 (.float .f64 b)).run Try.prog w = .ok (.int .i64 (c : Int)) w := by
  have h1 : IntKind.i64.min ≤ (c : Int) ∧ (c : Int) ≤ IntKind.i64.max := by
    refine ⟨?_, ?_⟩
    · show (-9223372036854775808 : Int) ≤ _; omega
    · show _ ≤ (9223372036854775807 : Int); omega
  simp [convert, Conv.floatToInt, h, h1]
  intro hh
  omega
theorem conv_nf {c : Nat} (hc : c ≤ 1000) (w : World) : (convert 25 3 (.float .f64 (nf c))).run Try.prog w = .ok (.int .i64 (c : Int)) w := by
  refine conv_i ?_ (by omega) w
  obtain ⟨m, i⟩ := nf_at c (by omega)
  rw [toInt_read i, m, Nat.mul_div_cancel _ (Nat.two_pow_pos 1074)]
theorem max_nf {c d : Nat} (hc : c ≤ 1000) (hd : d ≤ 1000) (w : World) (ts : Array TypeId) (t : TypeId) : (Builtin.max_ ts t #[.float .f64 (nf c), .float .f64 (nf d)]).run Try.prog w = .ok (.float .f64 (nf (max c d))) w := by
  have o := nf_order (d := c) (i := d) (by omega) (by omega)
  rcases Nat.lt_trichotomy c d with h | h | h
  · rw [Nat.compare_eq_lt.2 h] at o
    simp [Builtin.max_, Builtin.max2, o, Nat.max_eq_right (Nat.le_of_lt h)]
  · subst h
    rw [Nat.compare_eq_eq.2 rfl] at o
    simp [Builtin.max_, Builtin.max2, o]
  · rw [Nat.compare_eq_gt.2 h] at o
    simp [Builtin.max_, Builtin.max2, o, Nat.max_eq_left (Nat.le_of_lt h)]
theorem min_nf {c d : Nat} (hc : c ≤ 1000) (hd : d ≤ 1000) (w : World) (ts : Array TypeId) (t : TypeId) : (Builtin.min_ ts t #[.float .f64 (nf c), .float .f64 (nf d)]).run Try.prog w = .ok (.float .f64 (nf (min c d))) w := by
  have o := nf_order (d := c) (i := d) (by omega) (by omega)
  rcases Nat.lt_trichotomy c d with h | h | h
  · rw [Nat.compare_eq_lt.2 h] at o
    simp [Builtin.min_, Builtin.min2, o, Nat.min_eq_left (Nat.le_of_lt h)]
  · subst h
    rw [Nat.compare_eq_eq.2 rfl] at o
    simp [Builtin.min_, Builtin.min2, o]
  · rw [Nat.compare_eq_gt.2 h] at o
    simp [Builtin.min_, Builtin.min2, o, Nat.min_eq_right (Nat.le_of_lt h)]
theorem want_nil (w : World) : Calls Try.prog 11 #[.pointer none] w fun e w' => e = .returned (.int .i64 1) ∧ w' = w := by
  go_enter Try.func11, Try.ntmps11
  go_wp2_with (go_at_call 21; refine (made_nil _).mono ?_; rintro e w' ⟨rfl, hw⟩; rw [hw]; clear hw w')
  go_ret
  exact ⟨rfl, rfl⟩
set_option maxHeartbeats 4000000 in
theorem want_any {w : World} {b : Nat} {q : Q} {s : Nat} (h : At 53 w b q s) (ok : Ok q s) : Calls Try.prog 11 #[.pointer (some ⟨b, 0, none⟩)] w fun e w' => e = .returned (.int .i64 (wantF q s : Int)) ∧ ∃ k, w' = w.drewN k := by
  have hM := made_any h ok.m1
  obtain ⟨c0, c1, c2, c3, c4⟩ := h.cells
  have hs := ok.s
  unfold b512 at hs
  have hC := hide (fun u => ceil_any u (b := s) (by omega))
  have hu := up_512 ok.s
  have hm1 := ok.m1
  have hm2 := ok.m2
  obtain ⟨mo, bb, li, al⟩ := q
  simp only at *
  obtain ⟨m, rfl⟩ : ∃ m : Nat, mo = (m : Int) := ⟨mo.toNat, by omega⟩
  have hW : Hid (wantF ⟨(m : Int), bb, li, al⟩ s = min (max (upU (magB s)) 1) m) := hide rfl
  rw [hW.out]
  generalize upU (magB s) = c at *
  have hcv : ∀ u, (convert 3 25 (.int .i64 (m : Int))).run Try.prog u = .ok (.float .f64 (nf m)) u := fun u => conv_int _ _
  have h1 : nf 1 = 4607182418800017408 := by decide +kernel
  have hmx := fun u ts t => max_nf (c := c) (d := 1) (by omega) (by omega) u ts t
  rw [h1] at hmx
  have hmn := fun u ts t => min_nf (c := max c 1) (d := m) (by omega) (by omega) u ts t
  have hci := fun u => conv_nf (c := min (max c 1) m) (by omega) u
  generalize min (max c 1) m = r at *
  generalize max c 1 = c1 at *
  generalize nf r = fr at *
  generalize nf c1 = fc1 at *
  generalize nf c = fc at *
  generalize nf m = fm at *
  clear h ok hW hs h1
  go_enter Try.func11, Try.ntmps11
  go_upto_region 3 with (go_at_call 21; refine hM.mono ?_; rintro e w' ⟨rfl, hw⟩; rw [hw]; clear hw w')
  go_region_with (first | (go_at_call 23; refine (hC.out _).mono ?_; rintro e w' ⟨rfl, hw⟩; rw [hw]; clear hw w'))
  all_goals
    go_wp2_with fail
    go_ret
    exact ⟨rfl, _, rfl⟩
end Go.Proofs.Ytikjgonlngcglaa.Pc

/-
  Pace: the document's Want; ages; goes.
-/
namespace Go.Proofs.Ytikjgonlngcglaa.Pc
open Go.RowKit Rl Gg
set_option linter.unusedVariables false
set_option maxRecDepth 100000
theorem rwant_any {w : World} {b : Nat} {q : Q} {s : Nat} (h : At 55 w b q s) (ok : Ok q s) : Calls Try.prog 16 #[.pointer (some ⟨b, 0, none⟩)] w fun e w' => e = .returned (.int .i64 (wantF q s : Int)) ∧ ∃ k, w' = w.drewN k := by
  obtain ⟨c0, c1, c2, c3, c4⟩ := h.cells
  have hs := ok.s
  unfold b512 at hs
  have hu := up_512 ok.s
  have hm1 := ok.m1
  have hm2 := ok.m2
  obtain ⟨mo, bb, li, al⟩ := q
  simp only at *
  obtain ⟨m, rfl⟩ : ∃ m : Nat, mo = (m : Int) := ⟨mo.toNat, by omega⟩
  have hW : Hid (wantF ⟨(m : Int), bb, li, al⟩ s = min (max (upU (magB s)) 1) m) := hide rfl
  rw [hW.out]
  have hR := hide (fun n (hn : n < 1000) => nf_reach (n := n) (s := s) (by omega) (by omega))
  have hO : Hid (∀ n, n < 1000 → FloatKind.f64.format.order (nf n) s = some (compare (nf n) s)) := hide fun n hn => ord_pos (by have := (nf_at n (by omega)).2; omega) (by omega)
  generalize upU (magB s) = c at *
  obtain ⟨R, hRR⟩ : ∃ R, Hid (min (max c 1) m = R) := ⟨_, rfl⟩
  rw [hRR.out]
  clear h ok hW hs
  go_enter Try.func16, Try.ntmps16
  go_wp2_with fail
  go_loopw [3] (fun v3 wr => ∃ n : Nat, 1 ≤ n ∧ n ≤ m ∧ n ≤ max c 1 ∧ v3 = .int .i64 (n : Int) ∧ wr = w) (fun v _ => m - (intOf v).toNat)
  case atStart => exact ⟨1, by omega, by omega, by omega, rfl, rfl⟩
  case round =>
    obtain ⟨n, n1, n2, n3, rfl, hwr⟩ := hrel
    subst hwr
    by_cases hn : n = m
    · subst hn
      have hE := hide (show n = R by have := hRR.out; omega)
      clear hR hO hRR
      go_wp2_with fail
      go_ret
      exact ⟨congrArg (fun z : Nat => Ending.returned (Value.int .i64 (z : Int))) hE.out, 0, rfl⟩
    · have i1 : (n : Int) < (m : Int) := by omega
      have hcv : ∀ u, (convert 3 25 (.int .i64 (n : Int))).run Try.prog u = .ok (.float .f64 (nf n)) u := fun u => conv_int _ _
      have o1 := hO.out n (by omega)
      have r1 := hR.out n (by omega)
      generalize nf n = x at *
      by_cases hc : c ≤ n
      · have hx : s ≤ x := r1.2 hc
        have hE := hide (show n = R by have := hRR.out; omega)
        rcases Nat.lt_or_eq_of_le hx with q | q
        · rw [Nat.compare_eq_gt.2 q] at o1
          clear r1 hR hO hc hx hRR
          go_wp2_with fail
          go_ret
          exact ⟨congrArg (fun z : Nat => Ending.returned (Value.int .i64 (z : Int))) hE.out, 0, rfl⟩
        · rw [Nat.compare_eq_eq.2 q.symm] at o1
          clear r1 hR hO hc hx q hRR
          go_wp2_with fail
          go_ret
          exact ⟨congrArg (fun z : Nat => Ending.returned (Value.int .i64 (z : Int))) hE.out, 0, rfl⟩
      · have hx : x < s := by
          rcases Nat.lt_or_ge x s with q | q
          · exact q
          · exact absurd (r1.1 q) hc
        rw [Nat.compare_eq_lt.2 hx] at o1
        clear r1 hR hO hx
        have hc' := hide (show n + 1 ≤ max c 1 by omega)
        clear hc n3
        go_wp2_with fail
        go_roundw
        case rel => exact ⟨n + 1, by omega, by omega, hc'.out, by go_num, by trivial⟩
        case measure => simp [intOf]; omega
/-- An age, 0 of a NaN and of what is below 0. -/
def paF (x : Nat) : Nat := if 0 < x ∧ x ≤ 9218868437227405312 then x else 0
theorem pa_le (x : Nat) : paF x ≤ 9218868437227405312 := by unfold paF; split <;> omega
theorem pos_eq {x : Nat} (hx : x < 18446744073709551616) : (FloatKind.f64.format.order x 0 == some .gt) = decide (0 < x ∧ x ≤ 9218868437227405312) := by
  rcases fcase hx with h | h | h | h
  · have := nan_big h
    rw [order_nan (.inl h), decide_eq_false (by omega)]; rfl
  · rw [ord_pos h (by omega)]
    by_cases h0 : x = 0
    · subst h0; decide
    · rw [cmp0 (by omega), decide_eq_true (by omega)]; rfl
  · subst h; rw [ord_mz (by omega)]; decide
  · rw [ord_neg h.1 h.2 (by omega), decide_eq_false (by omega)]; rfl
theorem passed_any (w : World) {x : Nat} (hx : x < 18446744073709551616) : Calls Try.prog 24 #[.float .f64 x] w fun e w' => e = .returned (.float .f64 (paF x)) ∧ w' = w := by
  have hp := pos_eq hx
  by_cases h : 0 < x ∧ x ≤ 9218868437227405312
  · rw [decide_eq_true h] at hp
    have : paF x = x := by unfold paF; rw [if_pos h]
    rw [this]
    clear h this
    go_enter Try.func24, Try.ntmps24
    go_wp2_with fail
    go_ret
    exact ⟨rfl, rfl⟩
  · rw [decide_eq_false h] at hp
    have : paF x = 0 := by unfold paF; rw [if_neg h]
    rw [this]
    clear h this
    go_enter Try.func24, Try.ntmps24
    go_wp2_with fail
    go_ret
    exact ⟨rfl, rfl⟩
def geB (x y : Nat) : Bool := FloatKind.f64.format.order x y == some .gt || FloatKind.f64.format.order x y == some .eq
theorem ge_eq {x l : Nat} (hx : x ≤ 9218868437227405312) (hl : liB l = true) : geB x l = decide (l = 9223372036854775808 ∨ l ≤ x) := by
  unfold liB at hl
  simp only [decide_eq_true_eq] at hl
  unfold geB
  rcases hl with h | h
  · rw [ord_pos hx (by omega)]
    rcases Nat.lt_trichotomy x l with q | q | q
    · rw [Nat.compare_eq_lt.2 q, decide_eq_false (by omega)]; rfl
    · rw [Nat.compare_eq_eq.2 q, decide_eq_true (by omega)]; rfl
    · rw [Nat.compare_eq_gt.2 q, decide_eq_true (by omega)]; rfl
  · subst h
    have e : FloatKind.f64.format.order x 9223372036854775808 = some (compare x 0) := by
      rw [order_eq (by omega) (by omega) (nn hx) (nneg (by omega) (by omega)), sg_pos hx]
      have : sg 9223372036854775808 = (magB 0 : Int) := by unfold sg; rw [if_neg (by omega)]; simp [mag_zero]
      rw [this, cmp_mag]
    rw [e, decide_eq_true (by omega)]
    by_cases h0 : x = 0
    · subst h0; decide
    · rw [cmp0 (by omega)]; rfl
/-- Does it go? (x: an age from 0 on.) -/
def goF (q : Q) (s : Nat) (n bb : Int) (x : Nat) : Bool := decide (q.mo ≤ n) || decide (q.by' ≤ bb) || geB x q.li || (decide (0 < n) && decide ((wantF q s : Int) ≤ n))
theorem go_split (q : Q) (s : Nat) (n bb : Int) (x : Nat) :
    (goF q s n bb x = true ∧ q.mo ≤ n) ∨ (goF q s n bb x = true ∧ ¬ q.mo ≤ n ∧ q.by' ≤ bb) ∨ (goF q s n bb x = true ∧ ¬ q.mo ≤ n ∧ ¬ q.by' ≤ bb ∧ geB x q.li = true) ∨
    (goF q s n bb x = false ∧ ¬ q.mo ≤ n ∧ ¬ q.by' ≤ bb ∧ geB x q.li = false ∧ ¬ 0 < n) ∨ (goF q s n bb x = true ∧ ¬ q.mo ≤ n ∧ ¬ q.by' ≤ bb ∧ geB x q.li = false ∧ 0 < n ∧ (wantF q s : Int) ≤ n) ∨
    (goF q s n bb x = false ∧ ¬ q.mo ≤ n ∧ ¬ q.by' ≤ bb ∧ geB x q.li = false ∧ 0 < n ∧ ¬ (wantF q s : Int) ≤ n) := by
  unfold goF
  by_cases h1 : q.mo ≤ n
  · simp [h1]
  · by_cases h2 : q.by' ≤ bb
    · simp [h1, h2]
    · cases h3 : geB x q.li
      · by_cases h4 : 0 < n
        · by_cases h5 : (wantF q s : Int) ≤ n
          · simp [h1, h2, h4, h5]
          · simp [h1, h2, h4, h5]
        · simp [h1, h2, h4]
      · simp [h1, h2]
theorem goes_any {w : World} {b : Nat} {q : Q} {s : Nat} (h : At 53 w b q s) (ok : Ok q s) (n bb : Int) (x : Nat) : Calls Try.prog 25 #[.pointer (some ⟨b, 0, none⟩), .int .i64 n, .int .i64 bb, .float .f64 x] w fun e w' => e = .returned (.bool (goF q s n bb x)) ∧ ∃ k, w' = w.drewN k := by
  have hW := hide (want_any h ok)
  obtain ⟨c0, c1, c2, c3, c4⟩ := h.cells
  rcases go_split q s n bb x with h | h | h | h | h | h
  · obtain ⟨h0, h1⟩ := h
    rw [h0]
    clear h0
    generalize wantF q s = wa at *
    go_enter Try.func25, Try.ntmps25
    go_wp2_with (go_at_call 11; refine hW.out.mono ?_; rintro e w' ⟨rfl, k, rfl⟩)
    go_ret
    exact ⟨by first | rfl | (show Ending.returned (Value.bool (decide ((wa : Int) ≤ n))) = _; rw [decide_eq_false (by omega)]), by first | exact ⟨0, rfl⟩ | exact ⟨_, rfl⟩⟩
  · obtain ⟨h0, h1, h2⟩ := h
    rw [h0]
    clear h0
    generalize wantF q s = wa at *
    go_enter Try.func25, Try.ntmps25
    go_wp2_with (go_at_call 11; refine hW.out.mono ?_; rintro e w' ⟨rfl, k, rfl⟩)
    go_ret
    exact ⟨by first | rfl | (show Ending.returned (Value.bool (decide ((wa : Int) ≤ n))) = _; rw [decide_eq_false (by omega)]), by first | exact ⟨0, rfl⟩ | exact ⟨_, rfl⟩⟩
  · obtain ⟨h0, h1, h2, h3⟩ := h
    rw [h0]
    clear h0
    unfold geB at h3
    generalize wantF q s = wa at *
    go_enter Try.func25, Try.ntmps25
    go_wp2_with (go_at_call 11; refine hW.out.mono ?_; rintro e w' ⟨rfl, k, rfl⟩)
    go_ret
    exact ⟨by first | rfl | (show Ending.returned (Value.bool (decide ((wa : Int) ≤ n))) = _; rw [decide_eq_false (by omega)]), by first | exact ⟨0, rfl⟩ | exact ⟨_, rfl⟩⟩
  · obtain ⟨h0, h1, h2, h3, h4⟩ := h
    rw [h0]
    clear h0
    unfold geB at h3
    generalize wantF q s = wa at *
    go_enter Try.func25, Try.ntmps25
    go_wp2_with (go_at_call 11; refine hW.out.mono ?_; rintro e w' ⟨rfl, k, rfl⟩)
    go_ret
    exact ⟨by first | rfl | (show Ending.returned (Value.bool (decide ((wa : Int) ≤ n))) = _; rw [decide_eq_false (by omega)]), by first | exact ⟨0, rfl⟩ | exact ⟨_, rfl⟩⟩
  · obtain ⟨h0, h1, h2, h3, h4, h5⟩ := h
    rw [h0]
    clear h0
    unfold geB at h3
    generalize wantF q s = wa at *
    go_enter Try.func25, Try.ntmps25
    go_wp2_with (go_at_call 11; refine hW.out.mono ?_; rintro e w' ⟨rfl, k, rfl⟩)
    go_ret
    exact ⟨by first | rfl | (show Ending.returned (Value.bool (decide ((wa : Int) ≤ n))) = _; rw [decide_eq_false (by omega)]), by first | exact ⟨0, rfl⟩ | exact ⟨_, rfl⟩⟩
  · obtain ⟨h0, h1, h2, h3, h4, h5⟩ := h
    rw [h0]
    clear h0
    unfold geB at h3
    generalize wantF q s = wa at *
    go_enter Try.func25, Try.ntmps25
    go_wp2_with (go_at_call 11; refine hW.out.mono ?_; rintro e w' ⟨rfl, k, rfl⟩)
    go_ret
    exact ⟨by first | rfl | (show Ending.returned (Value.bool (decide ((wa : Int) ≤ n))) = _; rw [decide_eq_false (by omega)]), by first | exact ⟨0, rfl⟩ | exact ⟨_, rfl⟩⟩
end Go.Proofs.Ytikjgonlngcglaa.Pc

/-
  Pace: Plan, of both.
-/
namespace Go.Proofs.Ytikjgonlngcglaa.Pc
open Go.RowKit Rl Gg
set_option linter.unusedVariables false
set_option maxRecDepth 100000
/-- How long it waits. -/
def wtF (q : Q) (x : Nat) : Nat := roundB (magB q.li - magB x)
def planF (q : Q) (s : Nat) (n bb : Int) (age : Nat) : Bool × Nat := if goF q s n bb (paF age) then (true, 0) else (false, wtF q (paF age))
def planV (p : Bool × Nat) : Value := .agg #[.bool p.1, .float .f64 p.2]
theorem wt_some {l x : Nat} (hl : liB l = true) (hx : x ≤ 9218868437227405312) (hg : geB x l = false) : x < l ∧ l ≤ 4697254411347427328 ∧ Ieee.double.sub l x = some (roundB (magB l - magB x)) ∧ 1 ≤ roundB (magB l - magB x) ∧ roundB (magB l - magB x) ≤ l := by
  rw [ge_eq hx hl] at hg
  have hg := of_decide_eq_false hg
  unfold liB at hl
  have hl := of_decide_eq_true hl
  have hxl : x < l := by omega
  have hm := mag_mono hxl
  refine ⟨hxl, by omega, sub_ge (by omega) (by omega), ?_, round_le (by omega) (by omega)⟩
  refine round_ge (b := 1) (by omega) ?_
  have : magB 1 = 1 := by decide +kernel
  omega
theorem max_tiny {r : Nat} (h1 : 1 ≤ r) (h2 : r ≤ 4697254411347427328) (w : World) (ts : Array TypeId) (t : TypeId) : (Builtin.max_ ts t #[.float .f64 r, .float .f64 1]).run Try.prog w = .ok (.float .f64 r) w := by
  have o := ord_pos (a := r) (b := 1) (by omega) (by omega)
  rcases Nat.lt_or_eq_of_le h1 with h | h
  · rw [Nat.compare_eq_gt.2 h] at o
    simp [Builtin.max_, Builtin.max2, o]
  · subst h
    rw [Nat.compare_eq_eq.2 rfl] at o
    simp [Builtin.max_, Builtin.max2, o]
theorem planSize : (Try.prog.info? 39).map (·.size) = some 2 := by kernel_rfl
/-- A plan in memory. -/
def Pn (w : World) (p : Nat) (x y : Value) : Prop := w.heap[p]? = some (.cells #[x, y] 39 (0, 0))
theorem Pn.all {w : World} {p : Nat} {x y : Value} (h : Pn w p x y) (x' y' : Value) : Pn ((w.setCell ⟨p, 0, none⟩ x').setCell ⟨p, 1, none⟩ y') p x' y' := by
  unfold Pn at h ⊢
  rw [heap_setCell_same _ p 1 _ _ _ (heap_setCell_same w p 0 _ _ _ h)]
  rfl
theorem Pn.frozen {w : World} {p : Nat} {x y : Value} (h : Pn w p x y) (j : Nat) : w.frozen? ⟨p, j, none⟩ = false := by unfold Pn at h; simp [World.frozen?, h]
theorem Pn.below {A B : World} {p : Nat} {x y : Value} (h : Pn A p x y) (hb : Below A.heap.size A B) : Pn B p x y := (But.of_below hb fun _ => False).at h fun c => c
theorem Pn.cells {w : World} {p : Nat} {x y : Value} (h : Pn w p x y) : w.cell? ⟨p, 0, none⟩ = some x ∧ w.cell? ⟨p, 1, none⟩ = some y := by
  refine ⟨?_, ?_⟩ <;> (rw [cell_of h]; rfl)
theorem plan_nil (w : World) (n bb : Int) {age : Nat} (ha : age < 18446744073709551616) : Calls Try.prog 12 #[.pointer none, .int .i64 n, .int .i64 bb, .float .f64 age] w fun e w' => e = .returned (planV (true, 0)) ∧ Below w.heap.size w w' := by
  have hP := hide (fun u => passed_any u ha)
  generalize paF age = x at *
  have B1 := hide (box_below w (.cells #[.bool false, .float .f64 0] 39))
  have N1 : Hid (Pn (w.alloc (.cells #[.bool false, .float .f64 0] 39)) w.heap.size _ _) := hide (heap_alloc_new w (.cells #[.bool false, .float .f64 0] 39))
  have z0 := N1.out.frozen 0
  have z1 := N1.out.frozen 1
  obtain ⟨y0, y1⟩ := N1.out.cells
  have sf : ∀ (W : World) (a : Addr) (x : Nat), (store a (.float .f64 x)).run Try.prog W = stored Try.prog W a (.float .f64 x) .plain := fun W a x => run_store _ W a _ _ rfl
  have hz : w.heap.size ≤ w.heap.size := Nat.le_refl _
  unfold planV
  go_enter Try.func12, Try.ntmps12
  go_wp2_with (first | (go_at_call 24; refine (hP.out _).mono ?_; rintro e w' ⟨rfl, hw⟩; rw [hw]; clear hw w') | (go_at_call 21; refine (made_nil _).mono ?_; rintro e w' ⟨rfl, hw⟩; rw [hw]; clear hw w'))
  try simp only [Exit.inBlock, Exit.then]
  refine bodyPost_ret (v := .agg _) (results_cell_row rfl _ _ w.heap.size 39 _ (0, 0) _ rfl (heap_alloc_new w (.cells #[.bool true, .float .f64 0] 39)) Try.underlying39 rfl planSize) rfl ?_
  exact ⟨rfl, box_below w (.cells #[.bool true, .float .f64 0] 39)⟩
theorem plan_any {w : World} {b : Nat} {q : Q} {s : Nat} (h : At 53 w b q s) (ok : Ok q s) (n bb : Int) {age : Nat} (ha : age < 18446744073709551616) : Calls Try.prog 12 #[.pointer (some ⟨b, 0, none⟩), .int .i64 n, .int .i64 bb, .float .f64 age] w fun e w' => e = .returned (planV (planF q s n bb age)) ∧ Below w.heap.size w w' := by
  have hP := hide (fun u => passed_any u ha)
  have hx := pa_le age
  have hpl : Hid (planF q s n bb age = if goF q s n bb (paF age) then (true, 0) else (false, wtF q (paF age))) := hide rfl
  rw [hpl.out]
  generalize paF age = x at *
  have B1 := box_below w (.cells #[.bool false, .float .f64 0] 39)
  have A1 := h.below B1
  have hM := hide (made_any A1 ok.m1)
  have hG := hide (goes_any A1 ok n bb x)
  have N1 : Pn (w.alloc (.cells #[.bool false, .float .f64 0] 39)) w.heap.size _ _ := heap_alloc_new w (.cells #[.bool false, .float .f64 0] 39)
  have KC := hide (fun k => (A1.below (below_drewN (Below.refl _ _) k)).cells)
  have KN := hide (fun k => N1.below (below_drewN (Below.refl _ _) k))
  have HB := hide (fun k => below_drewN B1 k)
  have hz : w.heap.size ≤ w.heap.size := Nat.le_refl _
  clear hpl h A1 B1 N1
  cases hg : goF q s n bb x
  · have hge : geB x q.li = false := by
      rcases go_split q s n bb x with h | h | h | h | h | h
      all_goals first | exact h.2.2.2.1 | (rw [hg] at h; exact absurd h.1 (by decide))
    obtain ⟨g1, g2, g3, g4, g5⟩ := wt_some ok.l hx hge
    rw [if_neg (by decide)]
    unfold wtF
    generalize roundB (magB q.li - magB x) = r at *
    have hsub := fun u => sub_run g3 u
    have hmax := fun u ts t => max_tiny g4 (by omega) u ts t
    rw [hg] at hG
    unfold planV
    simp only
    clear g1 g2 g3 g4 g5 hge hx hg ok
    go_enter Try.func12, Try.ntmps12
    go_upto_region 2 with (first | (go_at_call 24; refine (hP.out _).mono ?_; rintro e w' ⟨rfl, hw⟩; rw [hw]; clear hw w'))
    go_upto_region 4 with (first | (go_at_call 21; refine hM.out.mono ?_; rintro e w' ⟨rfl, hw⟩; rw [hw]; clear hw w') | (go_at_call 25; refine hG.out.mono ?_; rintro e w' ⟨rfl, k, rfl⟩))
    obtain ⟨c0, c1, c2, c3, c4⟩ := KC.out k
    have N2 := KN.out k
    have B2 := hide (HB.out k)
    have z0 := N2.frozen 0
    have z1 := N2.frozen 1
    obtain ⟨y0, y1⟩ := N2.cells
    have sf : ∀ (W : World) (a : Addr) (x : Nat), (store a (.float .f64 x)).run Try.prog W = stored Try.prog W a (.float .f64 x) .plain := fun W a x => run_store _ W a _ _ rfl
    replace N2 := hide N2
    clear KC KN HB hM hG hP
    generalize (w.alloc (.cells #[.bool false, .float .f64 0] 39)).drewN k = w2 at *
    go_wp2_with fail
    try simp only [Exit.inBlock, Exit.then]
    refine bodyPost_ret (v := .agg _) (results_cell_row rfl _ _ w.heap.size 39 _ (0, 0) _ rfl (N2.out.all (.bool false) (.float .f64 r)) Try.underlying39 rfl planSize) rfl ?_
    exact ⟨rfl, (B2.out.setCell hz _).setCell hz _⟩
  · rw [if_pos rfl]
    rw [hg] at hG
    unfold planV
    simp only
    clear hx hg ok
    go_enter Try.func12, Try.ntmps12
    go_upto_region 2 with (first | (go_at_call 24; refine (hP.out _).mono ?_; rintro e w' ⟨rfl, hw⟩; rw [hw]; clear hw w'))
    go_upto_region 3 with (first | (go_at_call 21; refine hM.out.mono ?_; rintro e w' ⟨rfl, hw⟩; rw [hw]; clear hw w') | (go_at_call 25; refine hG.out.mono ?_; rintro e w' ⟨rfl, k, rfl⟩))
    obtain ⟨c0, c1, c2, c3, c4⟩ := KC.out k
    have N2 := KN.out k
    have B2 := hide (HB.out k)
    have z0 := N2.frozen 0
    have z1 := N2.frozen 1
    obtain ⟨y0, y1⟩ := N2.cells
    have sf : ∀ (W : World) (a : Addr) (x : Nat), (store a (.float .f64 x)).run Try.prog W = stored Try.prog W a (.float .f64 x) .plain := fun W a x => run_store _ W a _ _ rfl
    replace N2 := hide N2
    clear KC KN HB hM hG hP
    generalize (w.alloc (.cells #[.bool false, .float .f64 0] 39)).drewN k = w2 at *
    go_wp2_with fail
    try simp only [Exit.inBlock, Exit.then]
    refine bodyPost_ret (v := .agg _) (results_cell_row rfl _ _ w.heap.size 39 _ (0, 0) _ rfl (N2.out.all (.bool true) (.float .f64 0)) Try.underlying39 rfl planSize) rfl ?_
    exact ⟨rfl, (B2.out.setCell hz _).setCell hz _⟩
end Go.Proofs.Ytikjgonlngcglaa.Pc

/-
  Pace: the document's Plan; begun.
-/
namespace Go.Proofs.Ytikjgonlngcglaa.Pc
open Go.RowKit Rl Gg
set_option linter.unusedVariables false
set_option maxRecDepth 100000
set_option maxHeartbeats 2000000 in
theorem rplan_any {w : World} {b : Nat} {q : Q} {s : Nat} (h : At 55 w b q s) (ok : Ok q s) (n bb : Int) {age : Nat} (ha : age < 18446744073709551616) : Calls Try.prog 15 #[.pointer (some ⟨b, 0, none⟩), .int .i64 n, .int .i64 bb, .float .f64 age] w fun e w' => e = .returned (planV (planF q s n bb age)) ∧ Below w.heap.size w w' := by
  have hp := pos_eq ha
  have hx := pa_le age
  have hpl : Hid (planF q s n bb age = if goF q s n bb (paF age) then (true, 0) else (false, wtF q (paF age))) := hide rfl
  rw [hpl.out]
  have B1 := box_below w (.cells #[.bool false, .float .f64 0] 39)
  have A1 := h.below B1
  have hW := hide (rwant_any A1 ok)
  have N1 : Pn (w.alloc (.cells #[.bool false, .float .f64 0] 39)) w.heap.size _ _ := heap_alloc_new w (.cells #[.bool false, .float .f64 0] 39)
  obtain ⟨c0, c1, c2, c3, c4⟩ := A1.cells
  have KC := hide (fun k => (A1.below (below_drewN (Below.refl _ _) k)).cells)
  have KN := hide (fun k => N1.below (below_drewN (Below.refl _ _) k))
  have HB := hide (fun k => below_drewN B1 k)
  have hz : w.heap.size ≤ w.heap.size := Nat.le_refl _
  have sf : ∀ (W : World) (a : Addr) (x : Nat), (store a (.float .f64 x)).run Try.prog W = stored Try.prog W a (.float .f64 x) .plain := fun W a x => run_store _ W a _ _ rfl
  have hg0 : geB (paF age) q.li = false → (paF age < q.li ∧ q.li ≤ 4697254411347427328 ∧ Ieee.double.sub q.li (paF age) = some (roundB (magB q.li - magB (paF age))) ∧ 1 ≤ roundB (magB q.li - magB (paF age)) ∧ roundB (magB q.li - magB (paF age)) ≤ q.li) := fun hg => wt_some ok.l hx hg
  unfold wtF
  generalize roundB (magB q.li - magB (paF age)) = r at *
  obtain ⟨w1, hw1⟩ : ∃ w1, Hid (w.alloc (.cells #[.bool false, .float .f64 0] 39) = w1) := ⟨_, rfl⟩
  rw [hw1.out] at hW KC KN HB c0 c1 c2 c3 c4
  clear hpl h A1 B1 N1
  by_cases hpa : 0 < age ∧ age ≤ 9218868437227405312
  · rw [decide_eq_true hpa] at hp
    have e : paF age = age := by unfold paF; rw [if_pos hpa]
    rw [e] at hg0 ⊢
    clear e hx
    rcases go_split q s n bb age with h | h | h | h | h | h
    · obtain ⟨h0, h1⟩ := h
      rw [h0]
      clear h0
      rw [if_pos rfl]
      unfold planV
      simp only
      clear hpa hg0 ok
      generalize wantF q s = wa at *
      go_enter Try.func15, Try.ntmps15
      go_upto_region 1 with fail
      rw [hw1.out]
      clear hw1
      go_upto_region 4 with (go_at_call 16; refine hW.out.mono ?_; rintro e w' ⟨rfl, k, rfl⟩)
      obtain ⟨d0, d1, d2, d3, d4⟩ := KC.out 0
      have N2 := KN.out 0
      have B2 := hide (HB.out 0)
      have z0 := N2.frozen 0
      have z1 := N2.frozen 1
      obtain ⟨y0, y1⟩ := N2.cells
      replace N2 := hide N2
      clear KC KN HB hW
      change Hid (Pn w1 w.heap.size (.bool false) (.float .f64 0)) at N2
      change Hid (Below w.heap.size w w1) at B2
      change w1.frozen? _ = false at z0
      change w1.frozen? _ = false at z1
      change w1.cell? _ = _ at y0
      change w1.cell? _ = _ at y1
      clear d0 d1 d2 d3 d4
      go_wp2_with fail
      try simp only [Exit.inBlock, Exit.then]
      refine bodyPost_ret (v := .agg _) (results_cell_row rfl _ _ w.heap.size 39 _ (0, 0) _ rfl (N2.out.all (.bool true) (.float .f64 0)) Try.underlying39 rfl planSize) rfl ?_
      exact ⟨rfl, (B2.out.setCell hz _).setCell hz _⟩
    · obtain ⟨h0, h1, h2⟩ := h
      rw [h0]
      clear h0
      rw [if_pos rfl]
      unfold planV
      simp only
      clear hpa hg0 ok
      generalize wantF q s = wa at *
      go_enter Try.func15, Try.ntmps15
      go_upto_region 1 with fail
      rw [hw1.out]
      clear hw1
      go_upto_region 4 with (go_at_call 16; refine hW.out.mono ?_; rintro e w' ⟨rfl, k, rfl⟩)
      obtain ⟨d0, d1, d2, d3, d4⟩ := KC.out 0
      have N2 := KN.out 0
      have B2 := hide (HB.out 0)
      have z0 := N2.frozen 0
      have z1 := N2.frozen 1
      obtain ⟨y0, y1⟩ := N2.cells
      replace N2 := hide N2
      clear KC KN HB hW
      change Hid (Pn w1 w.heap.size (.bool false) (.float .f64 0)) at N2
      change Hid (Below w.heap.size w w1) at B2
      change w1.frozen? _ = false at z0
      change w1.frozen? _ = false at z1
      change w1.cell? _ = _ at y0
      change w1.cell? _ = _ at y1
      clear d0 d1 d2 d3 d4
      go_wp2_with fail
      try simp only [Exit.inBlock, Exit.then]
      refine bodyPost_ret (v := .agg _) (results_cell_row rfl _ _ w.heap.size 39 _ (0, 0) _ rfl (N2.out.all (.bool true) (.float .f64 0)) Try.underlying39 rfl planSize) rfl ?_
      exact ⟨rfl, (B2.out.setCell hz _).setCell hz _⟩
    · obtain ⟨h0, h1, h2, h3⟩ := h
      rw [h0]
      clear h0
      unfold geB at h3
      rw [if_pos rfl]
      unfold planV
      simp only
      clear hpa hg0 ok
      generalize wantF q s = wa at *
      go_enter Try.func15, Try.ntmps15
      go_upto_region 1 with fail
      rw [hw1.out]
      clear hw1
      go_upto_region 4 with (go_at_call 16; refine hW.out.mono ?_; rintro e w' ⟨rfl, k, rfl⟩)
      obtain ⟨d0, d1, d2, d3, d4⟩ := KC.out 0
      have N2 := KN.out 0
      have B2 := hide (HB.out 0)
      have z0 := N2.frozen 0
      have z1 := N2.frozen 1
      obtain ⟨y0, y1⟩ := N2.cells
      replace N2 := hide N2
      clear KC KN HB hW
      change Hid (Pn w1 w.heap.size (.bool false) (.float .f64 0)) at N2
      change Hid (Below w.heap.size w w1) at B2
      change w1.frozen? _ = false at z0
      change w1.frozen? _ = false at z1
      change w1.cell? _ = _ at y0
      change w1.cell? _ = _ at y1
      clear d0 d1 d2 d3 d4
      go_wp2_with fail
      try simp only [Exit.inBlock, Exit.then]
      refine bodyPost_ret (v := .agg _) (results_cell_row rfl _ _ w.heap.size 39 _ (0, 0) _ rfl (N2.out.all (.bool true) (.float .f64 0)) Try.underlying39 rfl planSize) rfl ?_
      exact ⟨rfl, (B2.out.setCell hz _).setCell hz _⟩
    · obtain ⟨h0, h1, h2, h3, h4⟩ := h
      rw [h0]
      clear h0
      obtain ⟨g1, g2, g3, g4, g5⟩ := hg0 h3
      have hsub := fun u => sub_run g3 u
      have hgt : (FloatKind.f64.format.order r 0 == some .gt) = true := by rw [pos_eq (by omega), decide_eq_true (by omega)]
      clear g1 g2 g3 g4 g5
      unfold geB at h3
      rw [if_neg (by decide)]
      unfold planV
      simp only
      clear hpa hg0 ok
      generalize wantF q s = wa at *
      go_enter Try.func15, Try.ntmps15
      go_upto_region 1 with fail
      rw [hw1.out]
      clear hw1
      go_upto_region 5 with (go_at_call 16; refine hW.out.mono ?_; rintro e w' ⟨rfl, k, rfl⟩)
      obtain ⟨d0, d1, d2, d3, d4⟩ := KC.out 0
      have N2 := KN.out 0
      have B2 := hide (HB.out 0)
      have z0 := N2.frozen 0
      have z1 := N2.frozen 1
      obtain ⟨y0, y1⟩ := N2.cells
      replace N2 := hide N2
      clear KC KN HB hW
      change Hid (Pn w1 w.heap.size (.bool false) (.float .f64 0)) at N2
      change Hid (Below w.heap.size w w1) at B2
      change w1.frozen? _ = false at z0
      change w1.frozen? _ = false at z1
      change w1.cell? _ = _ at y0
      change w1.cell? _ = _ at y1
      clear d0 d1 d2 d3 d4
      go_wp2_with fail
      try simp only [Exit.inBlock, Exit.then]
      refine bodyPost_ret (v := .agg _) (results_cell_row rfl _ _ w.heap.size 39 _ (0, 0) _ rfl (N2.out.all (.bool false) (.float .f64 r)) Try.underlying39 rfl planSize) rfl ?_
      exact ⟨rfl, (B2.out.setCell hz _).setCell hz _⟩
    · obtain ⟨h0, h1, h2, h3, h4, h5⟩ := h
      rw [h0]
      clear h0
      unfold geB at h3
      rw [if_pos rfl]
      unfold planV
      simp only
      clear hpa hg0 ok
      generalize wantF q s = wa at *
      go_enter Try.func15, Try.ntmps15
      go_upto_region 1 with fail
      rw [hw1.out]
      clear hw1
      go_upto_region 4 with (go_at_call 16; refine hW.out.mono ?_; rintro e w' ⟨rfl, k, rfl⟩)
      obtain ⟨d0, d1, d2, d3, d4⟩ := KC.out k
      have N2 := KN.out k
      have B2 := hide (HB.out k)
      have z0 := N2.frozen 0
      have z1 := N2.frozen 1
      obtain ⟨y0, y1⟩ := N2.cells
      replace N2 := hide N2
      clear KC KN HB hW
      generalize w1.drewN k = w2 at *
      go_wp2_with fail
      try simp only [Exit.inBlock, Exit.then]
      refine bodyPost_ret (v := .agg _) (results_cell_row rfl _ _ w.heap.size 39 _ (0, 0) _ rfl (N2.out.all (.bool true) (.float .f64 0)) Try.underlying39 rfl planSize) rfl ?_
      exact ⟨rfl, (B2.out.setCell hz _).setCell hz _⟩
    · obtain ⟨h0, h1, h2, h3, h4, h5⟩ := h
      rw [h0]
      clear h0
      obtain ⟨g1, g2, g3, g4, g5⟩ := hg0 h3
      have hsub := fun u => sub_run g3 u
      have hgt : (FloatKind.f64.format.order r 0 == some .gt) = true := by rw [pos_eq (by omega), decide_eq_true (by omega)]
      clear g1 g2 g3 g4 g5
      unfold geB at h3
      rw [if_neg (by decide)]
      unfold planV
      simp only
      clear hpa hg0 ok
      generalize wantF q s = wa at *
      go_enter Try.func15, Try.ntmps15
      go_upto_region 1 with fail
      rw [hw1.out]
      clear hw1
      go_upto_region 5 with (go_at_call 16; refine hW.out.mono ?_; rintro e w' ⟨rfl, k, rfl⟩)
      obtain ⟨d0, d1, d2, d3, d4⟩ := KC.out k
      have N2 := KN.out k
      have B2 := hide (HB.out k)
      have z0 := N2.frozen 0
      have z1 := N2.frozen 1
      obtain ⟨y0, y1⟩ := N2.cells
      replace N2 := hide N2
      clear KC KN HB hW
      generalize w1.drewN k = w2 at *
      go_wp2_with fail
      try simp only [Exit.inBlock, Exit.then]
      refine bodyPost_ret (v := .agg _) (results_cell_row rfl _ _ w.heap.size 39 _ (0, 0) _ rfl (N2.out.all (.bool false) (.float .f64 r)) Try.underlying39 rfl planSize) rfl ?_
      exact ⟨rfl, (B2.out.setCell hz _).setCell hz _⟩
  · rw [decide_eq_false hpa] at hp
    have e : paF age = 0 := by unfold paF; rw [if_neg hpa]
    rw [e] at hg0 ⊢
    clear e hx
    rcases go_split q s n bb 0 with h | h | h | h | h | h
    · obtain ⟨h0, h1⟩ := h
      rw [h0]
      clear h0
      rw [if_pos rfl]
      unfold planV
      simp only
      clear hpa hg0 ok
      generalize wantF q s = wa at *
      go_enter Try.func15, Try.ntmps15
      go_upto_region 1 with fail
      rw [hw1.out]
      clear hw1
      go_upto_region 4 with (go_at_call 16; refine hW.out.mono ?_; rintro e w' ⟨rfl, k, rfl⟩)
      obtain ⟨d0, d1, d2, d3, d4⟩ := KC.out 0
      have N2 := KN.out 0
      have B2 := hide (HB.out 0)
      have z0 := N2.frozen 0
      have z1 := N2.frozen 1
      obtain ⟨y0, y1⟩ := N2.cells
      replace N2 := hide N2
      clear KC KN HB hW
      change Hid (Pn w1 w.heap.size (.bool false) (.float .f64 0)) at N2
      change Hid (Below w.heap.size w w1) at B2
      change w1.frozen? _ = false at z0
      change w1.frozen? _ = false at z1
      change w1.cell? _ = _ at y0
      change w1.cell? _ = _ at y1
      clear d0 d1 d2 d3 d4
      go_wp2_with fail
      try simp only [Exit.inBlock, Exit.then]
      refine bodyPost_ret (v := .agg _) (results_cell_row rfl _ _ w.heap.size 39 _ (0, 0) _ rfl (N2.out.all (.bool true) (.float .f64 0)) Try.underlying39 rfl planSize) rfl ?_
      exact ⟨rfl, (B2.out.setCell hz _).setCell hz _⟩
    · obtain ⟨h0, h1, h2⟩ := h
      rw [h0]
      clear h0
      rw [if_pos rfl]
      unfold planV
      simp only
      clear hpa hg0 ok
      generalize wantF q s = wa at *
      go_enter Try.func15, Try.ntmps15
      go_upto_region 1 with fail
      rw [hw1.out]
      clear hw1
      go_upto_region 4 with (go_at_call 16; refine hW.out.mono ?_; rintro e w' ⟨rfl, k, rfl⟩)
      obtain ⟨d0, d1, d2, d3, d4⟩ := KC.out 0
      have N2 := KN.out 0
      have B2 := hide (HB.out 0)
      have z0 := N2.frozen 0
      have z1 := N2.frozen 1
      obtain ⟨y0, y1⟩ := N2.cells
      replace N2 := hide N2
      clear KC KN HB hW
      change Hid (Pn w1 w.heap.size (.bool false) (.float .f64 0)) at N2
      change Hid (Below w.heap.size w w1) at B2
      change w1.frozen? _ = false at z0
      change w1.frozen? _ = false at z1
      change w1.cell? _ = _ at y0
      change w1.cell? _ = _ at y1
      clear d0 d1 d2 d3 d4
      go_wp2_with fail
      try simp only [Exit.inBlock, Exit.then]
      refine bodyPost_ret (v := .agg _) (results_cell_row rfl _ _ w.heap.size 39 _ (0, 0) _ rfl (N2.out.all (.bool true) (.float .f64 0)) Try.underlying39 rfl planSize) rfl ?_
      exact ⟨rfl, (B2.out.setCell hz _).setCell hz _⟩
    · obtain ⟨h0, h1, h2, h3⟩ := h
      rw [h0]
      clear h0
      unfold geB at h3
      rw [if_pos rfl]
      unfold planV
      simp only
      clear hpa hg0 ok
      generalize wantF q s = wa at *
      go_enter Try.func15, Try.ntmps15
      go_upto_region 1 with fail
      rw [hw1.out]
      clear hw1
      go_upto_region 4 with (go_at_call 16; refine hW.out.mono ?_; rintro e w' ⟨rfl, k, rfl⟩)
      obtain ⟨d0, d1, d2, d3, d4⟩ := KC.out 0
      have N2 := KN.out 0
      have B2 := hide (HB.out 0)
      have z0 := N2.frozen 0
      have z1 := N2.frozen 1
      obtain ⟨y0, y1⟩ := N2.cells
      replace N2 := hide N2
      clear KC KN HB hW
      change Hid (Pn w1 w.heap.size (.bool false) (.float .f64 0)) at N2
      change Hid (Below w.heap.size w w1) at B2
      change w1.frozen? _ = false at z0
      change w1.frozen? _ = false at z1
      change w1.cell? _ = _ at y0
      change w1.cell? _ = _ at y1
      clear d0 d1 d2 d3 d4
      go_wp2_with fail
      try simp only [Exit.inBlock, Exit.then]
      refine bodyPost_ret (v := .agg _) (results_cell_row rfl _ _ w.heap.size 39 _ (0, 0) _ rfl (N2.out.all (.bool true) (.float .f64 0)) Try.underlying39 rfl planSize) rfl ?_
      exact ⟨rfl, (B2.out.setCell hz _).setCell hz _⟩
    · obtain ⟨h0, h1, h2, h3, h4⟩ := h
      rw [h0]
      clear h0
      obtain ⟨g1, g2, g3, g4, g5⟩ := hg0 h3
      have hsub := fun u => sub_run g3 u
      have hgt : (FloatKind.f64.format.order r 0 == some .gt) = true := by rw [pos_eq (by omega), decide_eq_true (by omega)]
      clear g1 g2 g3 g4 g5
      unfold geB at h3
      rw [if_neg (by decide)]
      unfold planV
      simp only
      clear hpa hg0 ok
      generalize wantF q s = wa at *
      go_enter Try.func15, Try.ntmps15
      go_upto_region 1 with fail
      rw [hw1.out]
      clear hw1
      go_upto_region 5 with (go_at_call 16; refine hW.out.mono ?_; rintro e w' ⟨rfl, k, rfl⟩)
      obtain ⟨d0, d1, d2, d3, d4⟩ := KC.out 0
      have N2 := KN.out 0
      have B2 := hide (HB.out 0)
      have z0 := N2.frozen 0
      have z1 := N2.frozen 1
      obtain ⟨y0, y1⟩ := N2.cells
      replace N2 := hide N2
      clear KC KN HB hW
      change Hid (Pn w1 w.heap.size (.bool false) (.float .f64 0)) at N2
      change Hid (Below w.heap.size w w1) at B2
      change w1.frozen? _ = false at z0
      change w1.frozen? _ = false at z1
      change w1.cell? _ = _ at y0
      change w1.cell? _ = _ at y1
      clear d0 d1 d2 d3 d4
      go_wp2_with fail
      try simp only [Exit.inBlock, Exit.then]
      refine bodyPost_ret (v := .agg _) (results_cell_row rfl _ _ w.heap.size 39 _ (0, 0) _ rfl (N2.out.all (.bool false) (.float .f64 r)) Try.underlying39 rfl planSize) rfl ?_
      exact ⟨rfl, (B2.out.setCell hz _).setCell hz _⟩
    · obtain ⟨h0, h1, h2, h3, h4, h5⟩ := h
      rw [h0]
      clear h0
      unfold geB at h3
      rw [if_pos rfl]
      unfold planV
      simp only
      clear hpa hg0 ok
      generalize wantF q s = wa at *
      go_enter Try.func15, Try.ntmps15
      go_upto_region 1 with fail
      rw [hw1.out]
      clear hw1
      go_upto_region 4 with (go_at_call 16; refine hW.out.mono ?_; rintro e w' ⟨rfl, k, rfl⟩)
      obtain ⟨d0, d1, d2, d3, d4⟩ := KC.out k
      have N2 := KN.out k
      have B2 := hide (HB.out k)
      have z0 := N2.frozen 0
      have z1 := N2.frozen 1
      obtain ⟨y0, y1⟩ := N2.cells
      replace N2 := hide N2
      clear KC KN HB hW
      generalize w1.drewN k = w2 at *
      go_wp2_with fail
      try simp only [Exit.inBlock, Exit.then]
      refine bodyPost_ret (v := .agg _) (results_cell_row rfl _ _ w.heap.size 39 _ (0, 0) _ rfl (N2.out.all (.bool true) (.float .f64 0)) Try.underlying39 rfl planSize) rfl ?_
      exact ⟨rfl, (B2.out.setCell hz _).setCell hz _⟩
    · obtain ⟨h0, h1, h2, h3, h4, h5⟩ := h
      rw [h0]
      clear h0
      obtain ⟨g1, g2, g3, g4, g5⟩ := hg0 h3
      have hsub := fun u => sub_run g3 u
      have hgt : (FloatKind.f64.format.order r 0 == some .gt) = true := by rw [pos_eq (by omega), decide_eq_true (by omega)]
      clear g1 g2 g3 g4 g5
      unfold geB at h3
      rw [if_neg (by decide)]
      unfold planV
      simp only
      clear hpa hg0 ok
      generalize wantF q s = wa at *
      go_enter Try.func15, Try.ntmps15
      go_upto_region 1 with fail
      rw [hw1.out]
      clear hw1
      go_upto_region 5 with (go_at_call 16; refine hW.out.mono ?_; rintro e w' ⟨rfl, k, rfl⟩)
      obtain ⟨d0, d1, d2, d3, d4⟩ := KC.out k
      have N2 := KN.out k
      have B2 := hide (HB.out k)
      have z0 := N2.frozen 0
      have z1 := N2.frozen 1
      obtain ⟨y0, y1⟩ := N2.cells
      replace N2 := hide N2
      clear KC KN HB hW
      generalize w1.drewN k = w2 at *
      go_wp2_with fail
      try simp only [Exit.inBlock, Exit.then]
      refine bodyPost_ret (v := .agg _) (results_cell_row rfl _ _ w.heap.size 39 _ (0, 0) _ rfl (N2.out.all (.bool false) (.float .f64 r)) Try.underlying39 rfl planSize) rfl ?_
      exact ⟨rfl, (B2.out.setCell hz _).setCell hz _⟩
/-- The params of begun. -/
def q8 : Q := ⟨8, 1000, 4602678819172646912, 4602678819172646912⟩
theorem q8_may : mayB q8 = true := by decide +kernel
theorem p8a : planF q8 4607182418800017408 0 0 0 = (false, 4602678819172646912) := by decide +kernel
theorem p8b : planF q8 4607182418800017408 1 10 0 = (true, 0) := by decide +kernel
theorem s8 : seenF q8 4607182418800017408 8 = 4616752568008179712 := by decide +kernel
theorem w8 : wantF q8 4616752568008179712 = 5 := by decide +kernel
set_option maxHeartbeats 1000000 in
theorem begun_any (w : World) : Calls Try.prog 6 #[] w fun e w' => e = .returned (.bool true) ∧ Below w.heap.size w w' := by
  have hN := hide (fun u => new_any u q8 (by decide) (by decide))
  unfold q8 Q.val at hN
  simp only at hN
  go_enter Try.func6, Try.ntmps6
  go_wp2_with fail
  go_at_call 8
  refine (hN.out _).mono ?_
  rintro e w1 ⟨b1, ⟨hm, rfl⟩ | ⟨hm, b, hb, rfl, A⟩⟩
  · exact absurd ((show mayB q8 = false from hm).symm.trans q8_may) (by decide)
  have ok := Ok.new hm
  replace A := hide (show At 53 w1 b q8 4607182418800017408 from A)
  have OK := hide (show Ok q8 4607182418800017408 from ok)
  have BW := hide b1
  have HB := hide hb
  clear b1 ok hm hN hb
  go_upto_region 4 with fail
  go_wp2_with fail
  go_at_call 12
  refine (plan_any A.out OK.out 0 0 (age := 0) (by omega)).mono ?_
  rw [p8a]
  rintro e w2 ⟨rfl, b2⟩
  replace A := hide (A.out.below b2)
  replace BW := hide (keepF BW.out b2)
  clear b2
  unfold planV
  simp only
  go_wp2_with fail
  go_at_call 12
  refine (plan_any A.out OK.out 1 10 (age := 0) (by omega)).mono ?_
  rw [p8b]
  rintro e w3 ⟨rfl, b2⟩
  replace A := hide (A.out.below b2)
  replace BW := hide (keepF BW.out b2)
  clear b2
  unfold planV
  simp only
  have sf : ∀ (W : World) (a : Addr) (x : Nat), (store a (.float .f64 x)).run Try.prog W = stored Try.prog W a (.float .f64 x) .plain := fun W a x => run_store _ W a _ _ rfl
  go_upto_region 5 with fail
  obtain ⟨w4, hw4⟩ : ∃ w4, Hid (w3.alloc (.cells #[.bool false, .float .f64 4602678819172646912] 39) = w4) := ⟨_, rfl⟩
  have B4 := box_below w3 (.cells #[.bool false, .float .f64 4602678819172646912] 39)
  have N4 : Pn (w3.alloc (.cells #[.bool false, .float .f64 4602678819172646912] 39)) w3.heap.size _ _ := heap_alloc_new w3 (.cells #[.bool false, .float .f64 4602678819172646912] 39)
  rw [hw4.out] at B4 N4 ⊢
  have hz : w4.heap.size = w3.heap.size + 1 := by rw [← hw4.out]; simp
  have B5 := box_below w4 (.cells #[.bool true, .float .f64 0] 39)
  have N5 : Pn (w4.alloc (.cells #[.bool true, .float .f64 0] 39)) w4.heap.size _ _ := heap_alloc_new w4 (.cells #[.bool true, .float .f64 0] 39)
  rw [hz] at N5
  have hbl := A.out.lt
  replace A := hide ((A.out.below B4).below B5)
  replace N4 := N4.below B5
  replace BW := hide (keepF (keepF BW.out B4) B5)
  clear B4 B5 hw4 hz sf
  generalize w4.alloc (.cells #[.bool true, .float .f64 0] 39) = w5 at *
  generalize w3.heap.size = p at *
  go_wp2_with fail
  go_at_call 10
  refine (seen_any A.out OK.out 8).mono ?_
  rw [s8]
  rintro e w6 ⟨rfl, A6, b6⟩
  replace OK := hide (by have := OK.out.seen 8; rwa [s8] at this)
  replace N4 : Pn w6 p _ _ := b6.at N4 (by omega)
  replace N5 : Pn w6 (p + 1) _ _ := b6.at N5 (by omega)
  replace BW := hide (BW.out.trans (b6.below BW.out.size fun k hk => by rw [show k = b from hk]; exact HB.out))
  have hW := hide (want_any A6 OK.out)
  rw [w8] at hW
  obtain ⟨y0, y1⟩ := N4.cells
  obtain ⟨y2, y3⟩ := N5.cells
  have o1 : FloatKind.f64.format.order 4602678819172646912 4602678819172646912 = some .eq := by decide +kernel
  have o2 : FloatKind.f64.format.order 0 0 = some .eq := by decide +kernel
  clear b6 A A6 OK N4 N5
  go_wp2_with fail
  go_at_call 11
  refine hW.out.mono ?_
  rintro e w7 ⟨rfl, k, rfl⟩
  go_wp2_with fail
  go_ret
  exact ⟨rfl, below_drewN BW.out k⟩
end Go.Proofs.Ytikjgonlngcglaa.Pc

/-
  PaceWaits: quarters by data; its walk.
-/
namespace Go.Proofs.Ytikjgonlngcglaa.Pc
open Go.RowKit Rl Gg
set_option linter.unusedVariables false
set_option maxRecDepth 100000
end Go.Proofs.Ytikjgonlngcglaa.Pc

/-
  PaceWaits: its walk.
-/
namespace Go.Proofs.Ytikjgonlngcglaa.Pc
open Go.RowKit Rl Gg
set_option linter.unusedVariables false
set_option maxRecDepth 100000
end Go.Proofs.Ytikjgonlngcglaa.Pc

/-
  Pace: params by their bits; what rises.
-/
namespace Go.Proofs.Ytikjgonlngcglaa.Pc
open Go.RowKit Rl Gg
set_option linter.unusedVariables false
set_option maxRecDepth 100000
theorem parSize : (Try.prog.info? 27).map (·.size) = some 4 := by kernel_rfl
theorem of_any (w : World) (mo bb : Int) (l a : Nat) : Calls Try.prog 7 #[.int .i64 mo, .int .i64 bb, .int .u64 (l : Int), .int .u64 (a : Int)] w fun e w' => e = .returned (Q.val ⟨mo, bb, l, a⟩) ∧ Below w.heap.size w w' := by
  have k := of_run
  have k1 := k (l : Int)
  have k2 := k (a : Int)
  rw [Int.toNat_natCast] at k1 k2
  clear k
  have sf : ∀ (W : World) (a : Addr) (x : Nat), (store a (.float .f64 x)).run Try.prog W = stored Try.prog W a (.float .f64 x) .plain := fun W a x => run_store _ W a _ _ rfl
  unfold Q.val
  simp only
  go_enter Try.func7, Try.ntmps7
  go_wp2_with fail
  try simp only [Exit.inBlock, Exit.then]
  refine bodyPost_ret (v := .agg _) (results_cell_row rfl _ _ w.heap.size 27 _ (0, 0) _ rfl (heap_alloc_new w (.cells #[.int .i64 mo, .int .i64 bb, .float .f64 l, .float .f64 a] 27)) Try.underlying27 rfl parSize) rfl ?_
  exact ⟨rfl, box_below w (.cells #[.int .i64 mo, .int .i64 bb, .float .f64 l, .float .f64 a] 27)⟩
end Go.Proofs.Ytikjgonlngcglaa.Pc

/-
  PaceRises: its walk.
-/
namespace Go.Proofs.Ytikjgonlngcglaa.Pc
open Go.RowKit Rl Gg
set_option linter.unusedVariables false
set_option maxRecDepth 100000
def qC (q : Q) : Array Value := #[.int .i64 q.mo, .int .i64 q.by', .float .f64 q.li, .float .f64 q.al]
/-- What stands between PaceRises' calls: the argument's box, the params' box, the pace. -/
structure Rs (W w : World) (ob qb b : Nat) (oc : Array Value) (q : Q) (s : Nat) : Prop where
  o : w.heap[ob]? = some (.cells oc 42 (0, 0))
  q' : w.heap[qb]? = some (.cells (qC q) 27 (0, 0))
  a : At 53 w b q s
  ok : Ok q s
  be : Below W.heap.size W w
  n1 : ob ≠ b
  n2 : qb ≠ b
  lo : W.heap.size ≤ b
theorem Rs.below {W w w' : World} {ob qb b : Nat} {oc : Array Value} {q : Q} {s : Nat} (h : Rs W w ob qb b oc q s) (hb : Below w.heap.size w w') : Rs W w' ob qb b oc q s :=
  ⟨(But.of_below hb fun _ => False).at h.o (fun c => c), (But.of_below hb fun _ => False).at h.q' (fun c => c), h.a.below hb, h.ok, keepF h.be hb, h.n1, h.n2, h.lo⟩
theorem Rs.drew {W w : World} {ob qb b : Nat} {oc : Array Value} {q : Q} {s : Nat} (h : Rs W w ob qb b oc q s) (k : Nat) : Rs W (w.drewN k) ob qb b oc q s := h.below (below_drewN (Below.refl _ _) k)
theorem Rs.seen {W w : World} {ob qb b : Nat} {oc : Array Value} {q : Q} {s : Nat} (h : Rs W w ob qb b oc q s) (n : Int) : Calls Try.prog 10 #[.pointer (some ⟨b, 0, none⟩), .int .i64 n] w fun e w' => e = .returned (.tuple #[]) ∧ Rs W w' ob qb b oc q (seenF q s n) := by
  refine (seen_any h.a h.ok n).mono ?_
  rintro e w' ⟨rfl, A, B⟩
  refine ⟨rfl, B.at h.o h.n1, B.at h.q' h.n2, A, h.ok.seen n, h.be.trans (B.below h.be.size fun k hk => by rw [show k = b from hk]; exact h.lo), h.n1, h.n2, h.lo⟩
end Go.Proofs.Ytikjgonlngcglaa.Pc

/-
  Arguments that are calls of a pace, opened.
-/
namespace Go.Proofs.Ytikjgonlngcglaa.Pc
open Go.ChangeShapes Go.WideShapes Go.ChangeAt Go.RowKit Go.Deep
set_option maxRecDepth 100000
theorem cellsPop : Try.prog.cellsOf 42 = 4 := by kernel_rfl
theorem cellsU64 : Try.prog.cellsOf 22 = 1 := by kernel_rfl
theorem cellsInt : Try.prog.cellsOf 3 = 1 := by kernel_rfl
/-- A batch that went, and a plan that is asked for. -/
structure Pop where
  sn : Int
  n : Int
  b : Int
  ag : Nat
def PAt (w : World) (b off : Nat) (o : Pop) : Prop := w.cell? ⟨b, off, none⟩ = some (.int .i64 o.sn) ∧ w.cell? ⟨b, off + 1, none⟩ = some (.int .i64 o.n) ∧ w.cell? ⟨b, off + 2, none⟩ = some (.int .i64 o.b) ∧ w.cell? ⟨b, off + 3, none⟩ = some (.int .u64 (o.ag : Int))
/-- They lie from address ao on. -/
def AtPops (w : World) (ao : Option Addr) (hs : List Pop) : Prop :=
  ∀ i (h : i < hs.length), ∃ b off, ao = some ⟨b, off, none⟩ ∧ PAt w b (off + i * 4) hs[i]
structure PopOk (o : Pop) : Prop where
  a1 : -9223372036854775808 ≤ o.sn
  a2 : o.sn ≤ 9223372036854775807
  b1 : -9223372036854775808 ≤ o.n
  b2 : o.n ≤ 9223372036854775807
  c1 : -9223372036854775808 ≤ o.b
  c2 : o.b ≤ 9223372036854775807
  d : o.ag < 18446744073709551616
theorem open_pop {H : Type} {enc : TypeId × Value → H} {w : World} {base : Nat} {spare : Nat → Bool} {held : Bool} {fuel : Nat} {cs : List Value} {y : DataW H × List MemPlace}
    (h : DataW.trod enc Try.prog w base spare held fuel 42 cs = some y) :
    ∃ o : Pop, cs = [.int .i64 o.sn, .int .i64 o.n, .int .i64 o.b, .int .u64 (o.ag : Int)] ∧ PopOk o := by
  obtain ⟨xs, n, _, rfl, hlen, hxl, hf⟩ := DataW.trod_struct Try.underlying42 h
  rw [cellsPop] at hlen
  obtain ⟨c0, c1, c2, c3, rfl⟩ : ∃ c0 c1 c2 c3, cs = [c0, c1, c2, c3] := by
    match cs, hlen with
    | [c0, c1, c2, c3], _ => exact ⟨c0, c1, c2, c3, rfl⟩
  match xs, hxl with
  | [y0, y1, y2, y3], _ =>
    have h0 := hf 0 _ rfl
    have h1 := hf 1 _ rfl
    have h2 := hf 2 _ rfl
    have h3 := hf 3 _ rfl
    simp [cellsU64, cellsInt] at h0 h1 h2 h3
    obtain ⟨a0, e0, _, w0⟩ := DataW.trod_int Try.underlying3 h0
    obtain ⟨a1, e1, _, w1⟩ := DataW.trod_int Try.underlying3 h1
    obtain ⟨a2, e2, _, w2⟩ := DataW.trod_int Try.underlying3 h2
    obtain ⟨a3, e3, _, w3⟩ := DataW.trod_int Try.underlying22 h3
    simp at e0 e1 e2 e3
    subst e0 e1 e2 e3
    have b3 := u64_bounds w3
    obtain ⟨s, rfl⟩ : ∃ s : Nat, a3 = (s : Int) := ⟨a3.toNat, by omega⟩
    exact ⟨⟨a0, a1, a2, s⟩, rfl, (i64_bounds w0).1, (i64_bounds w0).2, (i64_bounds w1).1, (i64_bounds w1).2, (i64_bounds w2).1, (i64_bounds w2).2, by simp only; omega⟩
theorem open_pops {H : Type} {enc : TypeId × Value → H} {w : World} {base : Nat} {spare : Nat → Bool} {held : Bool} {fuel : Nat} {v : Value} {x : DataW H × List MemPlace}
    (h : DataW.trod enc Try.prog w base spare held fuel 23 [v] = some x) :
    ∃ (os : List Pop) (ao : Option Addr) (cap : Nat), v = .slice ao os.length cap ∧ os.length ≤ 9223372036854775807 ∧ AtPops w ao os ∧ (∀ o ∈ os, PopOk o) := by
  rcases open_slice Try.underlying23 h with ⟨hcs, hx⟩ | ⟨a, len, cap, m, n, D, Pl, hcs, hb, hl, hm, hmm, hx, hel⟩
  · simp at hcs
    subst hcs hx
    exact ⟨[], none, 0, rfl, by simp, fun i hi => by simp at hi, fun o ho => by simp at ho⟩
  · simp at hcs
    subst hcs hx
    have hlm : len ≤ m := by split at hmm <;> omega
    have each : ∀ i, ∃ o : Pop, i < m → PopOk o ∧ ∃ b off, a = ⟨b, off, none⟩ ∧ PAt w b (off + i * 4) o := by
      intro i
      by_cases hi : i < m
      · obtain ⟨cs', h1, h2⟩ := hel i hi
        obtain ⟨o, rfl, hok⟩ := open_pop h2
        rw [cellsPop] at h1
        obtain ⟨b, off, sp⟩ := a
        have hsp : sp = none := by
          obtain ⟨cs0, g1, g2⟩ := hel 0 (by omega)
          obtain ⟨_, rfl, _⟩ := open_pop g2
          rw [cellsPop] at g1
          have g3 := (World.cells?_some g1).2.2 0 (by omega)
          simp [Addr.add] at g3
          exact World.cell?_spot g3
        subst hsp
        have hcell := (World.cells?_some h1).2.2
        rw [addr_add] at hcell
        have k0 := hcell 0 (by omega)
        have k1 := hcell 1 (by omega)
        have k2 := hcell 2 (by omega)
        have k3 := hcell 3 (by omega)
        rw [addr_add] at k0 k1 k2 k3
        exact ⟨o, fun _ => ⟨hok, b, off, rfl, by simpa using k0, by simpa using k1, by simpa using k2, by simpa using k3⟩⟩
      · exact ⟨⟨0, 0, 0, 0⟩, fun h => absurd h hi⟩
    obtain ⟨O, hO⟩ : ∃ O : Nat → Pop, ∀ i, i < m → PopOk (O i) ∧ ∃ b off, a = ⟨b, off, none⟩ ∧ PAt w b (off + i * 4) (O i) := ⟨fun i => Classical.choose (each i), fun i => Classical.choose_spec (each i)⟩
    refine ⟨(List.range len).map O, some a, cap, by simp, by simp; unfold maxLen at hm; omega, ?_, ?_⟩
    · intro i hi
      simp at hi
      obtain ⟨_, b, off, rfl, q⟩ := hO i (by omega)
      exact ⟨b, off, rfl, by simpa using q⟩
    · intro o ho
      simp only [List.mem_map, List.mem_range] at ho
      obtain ⟨i, hi, rfl⟩ := ho
      exact (hO i (by omega)).1
end Go.Proofs.Ytikjgonlngcglaa.Pc

/-
  PaceAll: both paces side by side; its walk.
-/
namespace Go.Proofs.Ytikjgonlngcglaa.Pc
open Go.RowKit Rl Gg
set_option linter.unusedVariables false
set_option maxRecDepth 100000
open Ix (wp_region_T wpAnyT wpAnyT_take wpAnyT_one wpAnyT_done vac)
/-- Two may come up. -/
theorem wpAnyT_two {P : Program} {ops : Array Oper} {Q : Exit → Act → World → Prop} {md : Region.Mode} {S : World → Prop} {d : Nat} {i j : Nat} {oi oj : Oper} {fuel : Nat} {listed : Array Bool} {a : Act} {w : World} (hr : Region.ready md ops listed = [i, j]) (hoi : ops[i]? = some oi) (hoj : ops[j]? = some oj)
    (hI : ∀ K' : Act → World → Prop, Shut (∀ a w, ((listed.setIfInBounds i true).getD d false = false → S w) → wpAnyT P md ops Q S d fuel (listed.setIfInBounds i true) a w → K' a w) → if Region.wanted oi (yielded ops a.tmps) = true then Oper.wp P oi a w K' Q else K' (a.put oi.dst undef) w)
    (hJ : ∀ K' : Act → World → Prop, Shut (∀ a w, ((listed.setIfInBounds j true).getD d false = false → S w) → wpAnyT P md ops Q S d fuel (listed.setIfInBounds j true) a w → K' a w) → if Region.wanted oj (yielded ops a.tmps) = true then Oper.wp P oj a w K' Q else K' (a.put oj.dst undef) w) :
    wpAnyT P md ops Q S d (fuel + 1) listed a w := by
  refine ⟨fun h0 => (by rw [h0] at hr; cases hr), fun k hk => ?_⟩
  rw [hr] at hk
  simp only [List.mem_cons, List.not_mem_nil, or_false] at hk
  rcases hk with rfl | rfl
  · exact wpOp_step hoi (fun K' hK => hI K' (fun a w hS hW => hK a w ⟨hS, hW⟩))
  · exact wpOp_step hoj (fun K' hK => hJ K' (fun a w hS hW => hK a w ⟨hS, hW⟩))
/-- What stands between PaceAll's calls: both paces, alike. -/
structure Tw (W w : World) (b c : Nat) (q : Q) (s : Nat) : Prop where
  a : At 53 w b q s
  r : At 55 w c q s
  ok : Ok q s
  be : Below W.heap.size W w
  ne : b ≠ c
  l1 : W.heap.size ≤ b
  l2 : W.heap.size ≤ c
theorem Tw.below {W w w' : World} {b c : Nat} {q : Q} {s : Nat} (h : Tw W w b c q s) (hb : Below w.heap.size w w') : Tw W w' b c q s :=
  ⟨h.a.below hb, h.r.below hb, h.ok, keepF h.be hb, h.ne, h.l1, h.l2⟩
/-- A call as a box of its own. -/
def Ob (w : World) (p : Nat) (o : Pop) : Prop := w.heap[p]? = some (.cells #[.int .i64 o.sn, .int .i64 o.n, .int .i64 o.b, .int .u64 (o.ag : Int)] 42 (0, 0))
theorem Ob.below {A B : World} {p : Nat} {o : Pop} (h : Ob A p o) (hb : Below A.heap.size A B) : Ob B p o := (But.of_below hb fun _ => False).at h fun c => c
theorem Ob.cells {w : World} {p : Nat} {o : Pop} (h : Ob w p o) : w.cell? ⟨p, 0, none⟩ = some (.int .i64 o.sn) ∧ w.cell? ⟨p, 1, none⟩ = some (.int .i64 o.n) ∧ w.cell? ⟨p, 2, none⟩ = some (.int .i64 o.b) ∧ w.cell? ⟨p, 3, none⟩ = some (.int .u64 (o.ag : Int)) := by
  refine ⟨?_, ?_, ?_, ?_⟩ <;> (rw [cell_of h]; rfl)
theorem eq_zero (w : World) : (Op.equalIn 9999 25 (.float .f64 0) (.float .f64 0)).run Try.prog w = .ok true w := by kernel_rfl
theorem AtPops.below {W w : World} {ao : Option Addr} {os : List Pop} (h : AtPops W ao os) (hb : Below W.heap.size W w) : AtPops w ao os := by
  intro i hi
  obtain ⟨b, off, e, p0, p1, p2, p3⟩ := h i hi
  exact ⟨b, off, e, (hb.cell (p := ⟨b, off + i * 4, none⟩) (lt_of_cell p0)).trans p0, (hb.cell (p := ⟨b, off + i * 4 + 1, none⟩) (lt_of_cell p1)).trans p1, (hb.cell (p := ⟨b, off + i * 4 + 2, none⟩) (lt_of_cell p2)).trans p2, (hb.cell (p := ⟨b, off + i * 4 + 3, none⟩) (lt_of_cell p3)).trans p3⟩
set_option maxHeartbeats 4000000 in
theorem all_walk (W : World) (mo bb : Int) (li al : Nat) (ao : Option Addr) (ca : Nat) (os : List Pop) (hl : li < 18446744073709551616) (ha : al < 18446744073709551616) (hlen : os.length ≤ 9223372036854775807) (hat : AtPops W ao os) (hok : ∀ o ∈ os, PopOk o) :
    Calls Try.prog 3 #[.int .i64 mo, .int .i64 bb, .int .u64 (li : Int), .int .u64 (al : Int), .slice ao os.length ca] W fun e w' => e = .returned (.bool true) ∧ Below W.heap.size W w' := by
  have HAT := hide hat
  have HOK := hide hok
  obtain ⟨len, hle⟩ : ∃ n, Hid (os.length = n) := ⟨_, rfl⟩
  rw [hle.out] at hlen ⊢
  clear hat hok
  go_enter Try.func3, Try.ntmps3
  go_wp2_with fail
  go_at_call 6
  refine (begun_any _).mono ?_
  rintro e w0 ⟨rfl, b0⟩
  have B0 := hide b0
  clear b0
  go_wp2_with fail
  go_at_call 7
  refine (of_any _ mo bb li al).mono ?_
  rintro e w1 ⟨rfl, b0⟩
  replace B0 := hide (keepF B0.out b0)
  clear b0
  have b1 := box_below w1 (.cells (qC ⟨mo, bb, li, al⟩) 27)
  have n1 := heap_alloc_new w1 (.cells (qC ⟨mo, bb, li, al⟩) 27)
  have N1 := hide n1
  have B1 := hide (keepF B0.out b1)
  have sf : ∀ (W : World) (a : Addr) (x : Nat), (store a (.float .f64 x)).run Try.prog W = stored Try.prog W a (.float .f64 x) .plain := fun W a x => run_store _ W a _ _ rfl
  clear b1 n1 B0
  unfold Q.val
  unfold qC at N1 B1
  simp only at N1 B1 ⊢
  go_upto_region 4 with fail
  generalize w1.alloc (.cells #[.int .i64 mo, .int .i64 bb, .float .f64 li, .float .f64 al] 27) = w2 at *
  generalize w1.heap.size = qb at *
  have c0 : w2.cell? ⟨qb, 0, none⟩ = some (.int .i64 mo) := by rw [cell_of N1.out]; rfl
  have c1 : w2.cell? ⟨qb, 1, none⟩ = some (.int .i64 bb) := by rw [cell_of N1.out]; rfl
  have c2 : w2.cell? ⟨qb, 2, none⟩ = some (.float .f64 li) := by rw [cell_of N1.out]; rfl
  have c3 : w2.cell? ⟨qb, 3, none⟩ = some (.float .f64 al) := by rw [cell_of N1.out]; rfl
  have hNw := hide (new_any w2 ⟨mo, bb, li, al⟩ hl ha)
  have hRw := hide (fun u => rnew_any u ⟨mo, bb, li, al⟩ hl ha)
  unfold Q.val at hNw hRw
  simp only at hNw hRw
  go_wp2_with fail
  go_at_call 8
  refine hNw.out.mono ?_
  have e1 := eq_zero
  have P0 := hide (fun u => plan_nil u 0 0 (age := 0) (by omega))
  unfold planV at P0
  simp only at P0
  rintro e w3 ⟨b3, ⟨hm, rfl⟩ | ⟨hm, b, hb, rfl, A⟩⟩
  · have N3 := (But.of_below b3 fun _ => False).at N1.out (fun c => c)
    have B3 := hide (keepF B1.out b3)
    have d0 : w3.cell? ⟨qb, 0, none⟩ = some (.int .i64 mo) := by rw [cell_of N3]; rfl
    have d1 : w3.cell? ⟨qb, 1, none⟩ = some (.int .i64 bb) := by rw [cell_of N3]; rfl
    have d2 : w3.cell? ⟨qb, 2, none⟩ = some (.float .f64 li) := by rw [cell_of N3]; rfl
    have d3 : w3.cell? ⟨qb, 3, none⟩ = some (.float .f64 al) := by rw [cell_of N3]; rfl
    clear N3 b3
    go_wp2_with fail
    go_at_call 9
    refine (hRw.out _).mono ?_
    rintro e w4 ⟨b4, ⟨hm2, rfl⟩ | ⟨hm2, c, hc, rfl, R⟩⟩
    · replace B3 := hide (keepF B3.out b4)
      clear b4 d0 d1 d2 d3 c0 c1 c2 c3
      go_upto_region 8 with fail
      go_wp2_with fail
      go_at_call 10
      refine (seen_no _ 1).mono ?_
      rintro e w5 ⟨rfl, hw⟩
      rw [hw]
      clear hw w5
      go_wp2_with fail
      go_at_call 11
      refine (want_nil _).mono ?_
      rintro e w5 ⟨rfl, hw⟩
      rw [hw]
      clear hw w5
      go_wp2_with fail
      go_at_call 12
      refine (P0.out _).mono ?_
      rintro e w5 ⟨rfl, b5⟩
      replace B3 := hide (keepF B3.out b5)
      go_wp2_with fail
      go_ret
      exact ⟨rfl, B3.out⟩
    · rw [hm] at hm2; cases hm2
  · have N3 := (But.of_below b3 fun _ => False).at N1.out (fun c => c)
    have B3 := hide (keepF B1.out b3)
    have d0 : w3.cell? ⟨qb, 0, none⟩ = some (.int .i64 mo) := by rw [cell_of N3]; rfl
    have d1 : w3.cell? ⟨qb, 1, none⟩ = some (.int .i64 bb) := by rw [cell_of N3]; rfl
    have d2 : w3.cell? ⟨qb, 2, none⟩ = some (.float .f64 li) := by rw [cell_of N3]; rfl
    have d3 : w3.cell? ⟨qb, 3, none⟩ = some (.float .f64 al) := by rw [cell_of N3]; rfl
    have HA := hide A
    have HL := hide (Nat.le_trans B1.out.size hb)
    clear N3 b3 hb A
    go_wp2_with fail
    go_at_call 9
    refine (hRw.out _).mono ?_
    rintro e w4 ⟨b4, ⟨hm2, rfl⟩ | ⟨hm2, c, hc, rfl, R⟩⟩
    · rw [hm] at hm2; cases hm2
    have TW : Hid (Tw W w4 b c ⟨mo, bb, li, al⟩ 4607182418800017408) := hide ⟨HA.out.below b4, R, Ok.new hm, keepF B3.out b4, by have := HA.out.lt; omega, HL.out, Nat.le_trans B3.out.size hc⟩
    clear b4 d0 d1 d2 d3 c0 c1 c2 c3 HA HL B3 B1 N1 hm hm2 hc R P0 e1 hNw hRw
    go_wp2_with fail
    go_loopw [17] (fun v17 wr => ∃ i s : Nat, i ≤ len ∧ i ≤ 300 ∧ v17 = .int .i64 (i : Int) ∧ Hid (Tw W wr b c ⟨mo, bb, li, al⟩ s)) (fun v _ => 300 - (intOf v).toNat)
    case atStart => exact ⟨0, _, by omega, by omega, rfl, TW.out⟩
    case round =>
      clear TW
      obtain ⟨i, s, hi, hi2, rfl, TW⟩ := hrel
      by_cases hlt : i < len ∧ i < 300
      · obtain ⟨hlt, hlt2⟩ := hlt
        have i1 : (i : Int) < (len : Int) := by omega
        have i2 : (i : Int) < 300 := by omega
        have i0 : (0 : Int) ≤ (i : Int) := by omega
        obtain ⟨o, ho⟩ : ∃ o, Hid (os[i]'(by rw [hle.out]; exact hlt) = o) := ⟨_, hide rfl⟩
        have PO := HOK.out o (by rw [← ho.out]; exact List.getElem_mem _)
        obtain ⟨ob0, off, rfl, p0, p1, p2, p3⟩ := HAT.out.below TW.out.be i (by rw [hle.out]; exact hlt)
        rw [ho.out] at p0 p1 p2 p3
        obtain ⟨sn, n, bt, ag⟩ := o
        simp only at p0 p1 p2 p3
        have hag : ag < 18446744073709551616 := PO.d
        have B5 := box_below wr (.cells #[.int .i64 sn, .int .i64 n, .int .i64 bt, .int .u64 (ag : Int)] 42)
        have O5 : Hid (Ob (wr.alloc (.cells #[.int .i64 sn, .int .i64 n, .int .i64 bt, .int .u64 (ag : Int)] 42)) wr.heap.size ⟨sn, n, bt, ag⟩) := hide (heap_alloc_new wr (.cells #[.int .i64 sn, .int .i64 n, .int .i64 bt, .int .u64 (ag : Int)] 42))
        have hlt5 := TW.out.a.lt
        have hlt6 := TW.out.r.lt
        have T5 := hide (TW.out.below B5)
        have LT := hide (And.intro hlt5 hlt6)
        clear B5 TW PO ho hlt5 hlt6
        go_upto_region 14 with fail
        generalize wr.alloc (.cells #[.int .i64 sn, .int .i64 n, .int .i64 bt, .int .u64 (ag : Int)] 42) = w5 at *
        clear p0 p1 p2 p3
        generalize wr.heap.size = ob at *
        obtain ⟨o0, o1, o2, o3⟩ := O5.out.cells
        simp only at o0 o1 o2 o3
        go_wp2_with fail
        go_at_call 10
        refine (seen_any T5.out.a T5.out.ok sn).mono ?_
        rintro e w6 ⟨rfl, A6, b6⟩
        have R6 : At 55 w6 c ⟨mo, bb, li, al⟩ s := T5.out.r.but b6 (fun h => T5.out.ne h.symm)
        have O6 : Ob w6 ob ⟨sn, n, bt, ag⟩ := b6.at O5.out (fun h => by have := LT.out.1; omega)
        have E6 : Below W.heap.size W w6 := T5.out.be.trans (b6.below T5.out.be.size fun k hk => by rw [show k = b from hk]; exact T5.out.l1)
        replace b6 := hide b6
        clear o0 o1 o2 o3
        obtain ⟨o0, o1, o2, o3⟩ := O6.cells
        simp only at o0 o1 o2 o3
        go_wp2_with fail
        go_at_call 13
        refine (rseen_any R6 T5.out.ok sn).mono ?_
        rintro e w7 ⟨rfl, R7, b7⟩
        have T7 : Hid (Tw W w7 b c ⟨mo, bb, li, al⟩ (seenF ⟨mo, bb, li, al⟩ s sn)) := hide ⟨A6.but b7 T5.out.ne, R7, T5.out.ok.seen sn, E6.trans (b7.below E6.size fun k hk => by rw [show k = c from hk]; exact T5.out.l2), T5.out.ne, T5.out.l1, T5.out.l2⟩
        have O7 : Hid (Ob w7 ob ⟨sn, n, bt, ag⟩) := hide (b7.at O6 (fun h => by have := LT.out.2; omega))
        clear b7 R7 R6 A6 b6 O6 E6 T5 O5 LT o0 o1 o2 o3
        generalize seenF ⟨mo, bb, li, al⟩ s sn = s7 at *
        obtain ⟨g, hg⟩ : ∃ g, Hid (planF ⟨mo, bb, li, al⟩ s7 n bt ag = g) := ⟨_, rfl⟩
        obtain ⟨g1, g2⟩ := g
        have k1 := of_run (ag : Int)
        rw [Int.toNat_natCast] at k1
        go_upto_region 16 with fail
        have OB := O7
        go_cut [19] from 87 to 95 (fun y wx => ∃ pb, y = .pointer (some ⟨pb, 0, none⟩) ∧ Hid (Below w7.heap.size w7 wx ∧ Pn wx pb (.bool g1) (.float .f64 g2)))
        case first =>
          have CP : Hid (∀ u, Below w7.heap.size w7 u → Calls Try.prog 12 #[.pointer (some ⟨b, 0, none⟩), .int .i64 n, .int .i64 bt, .float .f64 ag] u fun e w' => e = .returned (.agg #[.bool g1, .float .f64 g2]) ∧ Below u.heap.size u w') := hide fun u hu => by
            have := plan_any (T7.out.below hu).a T7.out.ok n bt hag
            rwa [hg.out] at this
          refine wp_region_T (fun q => Below w7.heap.size w7 q) 10 (by kernel_rfl) ?_
          have KP : Hid (Below w7.heap.size w7 w7.drew) := hide (Below.refl _ _).drew
          generalize w7.drew = q at *
          refine wpAnyT_take (i := 0) (oi := { dst := some 87, op := Op.move (Operand.tmp 12), type := 29, pos := "law.go:50", after := #[], guard := none }) (v := .pointer (some ⟨b, 0, none⟩)) [8, 10] rfl (by kernel_rfl) (by kernel_rfl) (by kernel_rfl) (by kernel_rfl) (fun _ _ _ h => h) (Or.inl ⟨by rfl, ?_⟩) KP.out ?_
          · intro wq hSw
            obtain ⟨o0, o1, o2, o3⟩ := (OB.out.below hSw).cells
            simp only at o0 o1 o2 o3
            go_simp
          (try simp only [Act.put, List.setIfInBounds_toArray, List.set_cons_zero, List.set_cons_succ])
          refine wpAnyT_take (i := 1) (oi := { dst := some 88, op := Op.fieldAddr 42 (Operand.tmp 18) 1, type := 0, pos := "law.go:50", after := #[], guard := none }) (v := .pointer (some ⟨ob, 1, none⟩)) [2, 8, 10] rfl (by kernel_rfl) (by kernel_rfl) (by kernel_rfl) (by kernel_rfl) (fun _ _ _ h => h) (Or.inl ⟨by rfl, ?_⟩) KP.out ?_
          · intro wq hSw
            obtain ⟨o0, o1, o2, o3⟩ := (OB.out.below hSw).cells
            simp only at o0 o1 o2 o3
            go_simp
          (try simp only [Act.put, List.setIfInBounds_toArray, List.set_cons_zero, List.set_cons_succ])
          refine wpAnyT_take (i := 2) (oi := { dst := some 89, op := Op.load 3 (Operand.tmp 88), type := 3, pos := "law.go:50", after := #[{ on := 1, ground := Ground.data }], guard := none }) (v := .int .i64 n) [8, 10] rfl (by kernel_rfl) (by kernel_rfl) (by kernel_rfl) (by kernel_rfl) (fun _ _ _ h => h) (Or.inl ⟨by rfl, ?_⟩) KP.out ?_
          · intro wq hSw
            obtain ⟨o0, o1, o2, o3⟩ := (OB.out.below hSw).cells
            simp only at o0 o1 o2 o3
            go_simp
          (try simp only [Act.put, List.setIfInBounds_toArray, List.set_cons_zero, List.set_cons_succ])
          refine wpAnyT_take (i := 3) (oi := { dst := some 90, op := Op.fieldAddr 42 (Operand.tmp 18) 2, type := 0, pos := "law.go:50", after := #[], guard := none }) (v := .pointer (some ⟨ob, 2, none⟩)) [4, 8, 10] rfl (by kernel_rfl) (by kernel_rfl) (by kernel_rfl) (by kernel_rfl) (fun _ _ _ h => h) (Or.inl ⟨by rfl, ?_⟩) KP.out ?_
          · intro wq hSw
            obtain ⟨o0, o1, o2, o3⟩ := (OB.out.below hSw).cells
            simp only at o0 o1 o2 o3
            go_simp
          (try simp only [Act.put, List.setIfInBounds_toArray, List.set_cons_zero, List.set_cons_succ])
          refine wpAnyT_take (i := 4) (oi := { dst := some 91, op := Op.load 3 (Operand.tmp 90), type := 3, pos := "law.go:50", after := #[{ on := 3, ground := Ground.data }], guard := none }) (v := .int .i64 bt) [8, 10] rfl (by kernel_rfl) (by kernel_rfl) (by kernel_rfl) (by kernel_rfl) (fun _ _ _ h => h) (Or.inl ⟨by rfl, ?_⟩) KP.out ?_
          · intro wq hSw
            obtain ⟨o0, o1, o2, o3⟩ := (OB.out.below hSw).cells
            simp only at o0 o1 o2 o3
            go_simp
          (try simp only [Act.put, List.setIfInBounds_toArray, List.set_cons_zero, List.set_cons_succ])
          refine wpAnyT_take (i := 5) (oi := { dst := some 92, op := Op.fieldAddr 42 (Operand.tmp 18) 3, type := 0, pos := "law.go:50", after := #[], guard := none }) (v := .pointer (some ⟨ob, 3, none⟩)) [6, 7, 8, 10] rfl (by kernel_rfl) (by kernel_rfl) (by kernel_rfl) (by kernel_rfl) (fun _ _ _ h => h) (Or.inl ⟨by rfl, ?_⟩) KP.out ?_
          · intro wq hSw
            obtain ⟨o0, o1, o2, o3⟩ := (OB.out.below hSw).cells
            simp only at o0 o1 o2 o3
            go_simp
          (try simp only [Act.put, List.setIfInBounds_toArray, List.set_cons_zero, List.set_cons_succ])
          refine wpAnyT_take (i := 6) (oi := { dst := some 93, op := Op.load 22 (Operand.tmp 92), type := 22, pos := "law.go:50", after := #[{ on := 5, ground := Ground.data }], guard := none }) (v := .int .u64 (ag : Int)) [7, 8, 10] rfl (by kernel_rfl) (by kernel_rfl) (by kernel_rfl) (by kernel_rfl) (fun _ _ _ h => h) (Or.inl ⟨by rfl, ?_⟩) KP.out ?_
          · intro wq hSw
            obtain ⟨o0, o1, o2, o3⟩ := (OB.out.below hSw).cells
            simp only at o0 o1 o2 o3
            go_simp
          (try simp only [Act.put, List.setIfInBounds_toArray, List.set_cons_zero, List.set_cons_succ])
          have BQ := hide (keepF KP.out (box_below q (.cells #[.bool false, .float .f64 0] 39)))
          have N8 : Hid (Pn (q.alloc (.cells #[.bool false, .float .f64 0] 39)) q.heap.size _ _) := hide (heap_alloc_new q (.cells #[.bool false, .float .f64 0] 39))
          have hz : w7.heap.size ≤ q.heap.size := KP.out.size
          refine wpAnyT_two (i := 7) (j := 9) (oi := { dst := some 94, op := Op.call { callee := Callee.value (Operand.func 14), args := #[Operand.tmp 93], argTypes := #[22] }, type := 25, pos := "law.go:50", after := #[{ on := 6, ground := Ground.data }], guard := none }) (oj := { dst := some 19, op := Op.alloc 39, type := 0, pos := "law.go:50", after := #[], guard := none }) (by kernel_rfl) rfl rfl ?_ ?_
          · intro K hK
            go_simp
            refine hK.out _ _ (fun _ => KP.out) ?_
            clear hK K
            (try simp only [Act.put, List.setIfInBounds_toArray, List.set_cons_zero, List.set_cons_succ])
            refine wpAnyT_two (i := 8) (j := 9) (oi := { dst := some 95, op := Op.call { callee := Callee.value (Operand.func 12), args := #[Operand.tmp 87, Operand.tmp 89, Operand.tmp 91, Operand.tmp 94], argTypes := #[29, 3, 3, 25] }, type := 39, pos := "law.go:50", after := #[{ on := 0, ground := Ground.data }, { on := 2, ground := Ground.data }, { on := 4, ground := Ground.data }, { on := 7, ground := Ground.data }, { on := 7, ground := Ground.chain }], guard := none }) (oj := { dst := some 19, op := Op.alloc 39, type := 0, pos := "law.go:50", after := #[], guard := none }) (by kernel_rfl) rfl rfl ?_ ?_
            · intro K hK
              go_simp
              go_at_call 12
              refine (CP.out q KP.out).mono ?_
              rintro e u ⟨rfl, bu⟩
              have KU := hide (keepF KP.out bu)
              (try go_simp)
              refine hK.out _ _ (fun _ => KU.out) ?_
              clear hK K
              (try simp only [Act.put, List.setIfInBounds_toArray, List.set_cons_zero, List.set_cons_succ])
              refine wpAnyT_one (i := 9) (o := { dst := some 19, op := Op.alloc 39, type := 0, pos := "law.go:50", after := #[], guard := none }) (by kernel_rfl) rfl (fun K hK => ?_)
              go_simp
              refine hK.out _ _ (fun _ => (keepF KU.out (box_below u (.cells #[.bool false, .float .f64 0] 39)))) ?_
              clear hK K
              (try simp only [Act.put, List.setIfInBounds_toArray, List.set_cons_zero, List.set_cons_succ])
              refine wpAnyT_one (i := 10) (o := { dst := none, op := Op.store 39 (Operand.tmp 19) (Operand.tmp 95), type := 0, pos := "law.go:50", after := #[{ on := 9, ground := Ground.data }, { on := 8, ground := Ground.data }, { on := 8, ground := Ground.chain }, { on := 0, ground := Ground.phase }, { on := 1, ground := Ground.phase }, { on := 2, ground := Ground.phase }, { on := 3, ground := Ground.phase }, { on := 4, ground := Ground.phase }, { on := 5, ground := Ground.phase }, { on := 6, ground := Ground.phase }, { on := 7, ground := Ground.phase }, { on := 8, ground := Ground.phase }, { on := 9, ground := Ground.phase }], guard := none }) (by kernel_rfl) rfl (fun K hK => ?_)
              go_simp
              refine hK.out _ _ (vac (by kernel_rfl)) ?_
              clear hK K
              (try simp only [Act.put, List.setIfInBounds_toArray, List.set_cons_zero, List.set_cons_succ])
              refine wpAnyT_done (by kernel_rfl) ?_ _
              go_wp2_with fail
              go_meet
              case rel => exact ⟨u.heap.size, rfl, keepF KU.out (box_below u (.cells #[.bool g1, .float .f64 g2] 39)), heap_alloc_new u (.cells #[.bool g1, .float .f64 g2] 39)⟩
            · intro K hK
              go_simp
              refine hK.out _ _ (fun _ => BQ.out) ?_
              clear hK K
              (try simp only [Act.put, List.setIfInBounds_toArray, List.set_cons_zero, List.set_cons_succ])
              refine wpAnyT_one (i := 8) (o := { dst := some 95, op := Op.call { callee := Callee.value (Operand.func 12), args := #[Operand.tmp 87, Operand.tmp 89, Operand.tmp 91, Operand.tmp 94], argTypes := #[29, 3, 3, 25] }, type := 39, pos := "law.go:50", after := #[{ on := 0, ground := Ground.data }, { on := 2, ground := Ground.data }, { on := 4, ground := Ground.data }, { on := 7, ground := Ground.data }, { on := 7, ground := Ground.chain }], guard := none }) (by kernel_rfl) rfl (fun K hK => ?_)
              go_simp
              go_at_call 12
              refine (CP.out (q.alloc (.cells #[.bool false, .float .f64 0] 39)) BQ.out).mono ?_
              rintro e u ⟨rfl, bu⟩
              have KU := hide (keepF BQ.out bu)
              have NU := hide (N8.out.below bu)
              have f0 := NU.out.frozen 0
              have f1 := NU.out.frozen 1
              obtain ⟨y0, y1⟩ := NU.out.cells
              (try go_simp)
              refine hK.out _ _ (fun _ => KU.out) ?_
              clear hK K
              (try simp only [Act.put, List.setIfInBounds_toArray, List.set_cons_zero, List.set_cons_succ])
              refine wpAnyT_one (i := 10) (o := { dst := none, op := Op.store 39 (Operand.tmp 19) (Operand.tmp 95), type := 0, pos := "law.go:50", after := #[{ on := 9, ground := Ground.data }, { on := 8, ground := Ground.data }, { on := 8, ground := Ground.chain }, { on := 0, ground := Ground.phase }, { on := 1, ground := Ground.phase }, { on := 2, ground := Ground.phase }, { on := 3, ground := Ground.phase }, { on := 4, ground := Ground.phase }, { on := 5, ground := Ground.phase }, { on := 6, ground := Ground.phase }, { on := 7, ground := Ground.phase }, { on := 8, ground := Ground.phase }, { on := 9, ground := Ground.phase }], guard := none }) (by kernel_rfl) rfl (fun K hK => ?_)
              go_simp
              refine hK.out _ _ (vac (by kernel_rfl)) ?_
              clear hK K
              (try simp only [Act.put, List.setIfInBounds_toArray, List.set_cons_zero, List.set_cons_succ])
              refine wpAnyT_done (by kernel_rfl) ?_ _
              go_wp2_with fail
              go_meet
              case rel => exact ⟨q.heap.size, rfl, (KU.out.setCell hz _).setCell hz _, NU.out.all _ _⟩
          · intro K hK
            go_simp
            refine hK.out _ _ (fun _ => BQ.out) ?_
            clear hK K
            (try simp only [Act.put, List.setIfInBounds_toArray, List.set_cons_zero, List.set_cons_succ])
            refine wpAnyT_one (i := 7) (o := { dst := some 94, op := Op.call { callee := Callee.value (Operand.func 14), args := #[Operand.tmp 93], argTypes := #[22] }, type := 25, pos := "law.go:50", after := #[{ on := 6, ground := Ground.data }], guard := none }) (by kernel_rfl) rfl (fun K hK => ?_)
            go_simp
            refine hK.out _ _ (fun _ => BQ.out) ?_
            clear hK K
            (try simp only [Act.put, List.setIfInBounds_toArray, List.set_cons_zero, List.set_cons_succ])
            refine wpAnyT_one (i := 8) (o := { dst := some 95, op := Op.call { callee := Callee.value (Operand.func 12), args := #[Operand.tmp 87, Operand.tmp 89, Operand.tmp 91, Operand.tmp 94], argTypes := #[29, 3, 3, 25] }, type := 39, pos := "law.go:50", after := #[{ on := 0, ground := Ground.data }, { on := 2, ground := Ground.data }, { on := 4, ground := Ground.data }, { on := 7, ground := Ground.data }, { on := 7, ground := Ground.chain }], guard := none }) (by kernel_rfl) rfl (fun K hK => ?_)
            go_simp
            go_at_call 12
            refine (CP.out (q.alloc (.cells #[.bool false, .float .f64 0] 39)) BQ.out).mono ?_
            rintro e u ⟨rfl, bu⟩
            have KU := hide (keepF BQ.out bu)
            have NU := hide (N8.out.below bu)
            have f0 := NU.out.frozen 0
            have f1 := NU.out.frozen 1
            obtain ⟨y0, y1⟩ := NU.out.cells
            (try go_simp)
            refine hK.out _ _ (fun _ => KU.out) ?_
            clear hK K
            (try simp only [Act.put, List.setIfInBounds_toArray, List.set_cons_zero, List.set_cons_succ])
            refine wpAnyT_one (i := 10) (o := { dst := none, op := Op.store 39 (Operand.tmp 19) (Operand.tmp 95), type := 0, pos := "law.go:50", after := #[{ on := 9, ground := Ground.data }, { on := 8, ground := Ground.data }, { on := 8, ground := Ground.chain }, { on := 0, ground := Ground.phase }, { on := 1, ground := Ground.phase }, { on := 2, ground := Ground.phase }, { on := 3, ground := Ground.phase }, { on := 4, ground := Ground.phase }, { on := 5, ground := Ground.phase }, { on := 6, ground := Ground.phase }, { on := 7, ground := Ground.phase }, { on := 8, ground := Ground.phase }, { on := 9, ground := Ground.phase }], guard := none }) (by kernel_rfl) rfl (fun K hK => ?_)
            go_simp
            refine hK.out _ _ (vac (by kernel_rfl)) ?_
            clear hK K
            (try simp only [Act.put, List.setIfInBounds_toArray, List.set_cons_zero, List.set_cons_succ])
            refine wpAnyT_done (by kernel_rfl) ?_ _
            go_wp2_with fail
            go_meet
            case rel => exact ⟨q.heap.size, rfl, (KU.out.setCell hz _).setCell hz _, NU.out.all _ _⟩
        case rest =>
          obtain ⟨pb, rfl, hcu⟩ := hcut
          have T8 := hide (T7.out.below hcu.out.1)
          have O8 := hide (O7.out.below hcu.out.1)
          have P8 := hide hcu.out.2
          clear hcu T7 O7 OB
          generalize hwc : wc = w8 at *
          clear hwc
          have OB := O8
          go_upto_region 17 with fail
          go_cut [20] from 96 to 104 (fun y wx => ∃ pc, y = .pointer (some ⟨pc, 0, none⟩) ∧ Hid (Below w8.heap.size w8 wx ∧ Pn wx pc (.bool g1) (.float .f64 g2)))
          case first =>
            have CP : Hid (∀ u, Below w8.heap.size w8 u → Calls Try.prog 15 #[.pointer (some ⟨c, 0, none⟩), .int .i64 n, .int .i64 bt, .float .f64 ag] u fun e w' => e = .returned (.agg #[.bool g1, .float .f64 g2]) ∧ Below u.heap.size u w') := hide fun u hu => by
              have := rplan_any (T8.out.below hu).r T8.out.ok n bt hag
              rwa [hg.out] at this
            refine wp_region_T (fun q => Below w8.heap.size w8 q) 10 (by kernel_rfl) ?_
            have KP : Hid (Below w8.heap.size w8 w8.drew) := hide (Below.refl _ _).drew
            generalize w8.drew = q at *
            refine wpAnyT_take (i := 0) (oi := { dst := some 96, op := Op.move (Operand.tmp 14), type := 33, pos := "law.go:51", after := #[], guard := none }) (v := .pointer (some ⟨c, 0, none⟩)) [8, 10] rfl (by kernel_rfl) (by kernel_rfl) (by kernel_rfl) (by kernel_rfl) (fun _ _ _ h => h) (Or.inl ⟨by rfl, ?_⟩) KP.out ?_
            · intro wq hSw
              obtain ⟨o0, o1, o2, o3⟩ := (OB.out.below hSw).cells
              simp only at o0 o1 o2 o3
              go_simp
            (try simp only [Act.put, List.setIfInBounds_toArray, List.set_cons_zero, List.set_cons_succ])
            refine wpAnyT_take (i := 1) (oi := { dst := some 97, op := Op.fieldAddr 42 (Operand.tmp 18) 1, type := 0, pos := "law.go:51", after := #[], guard := none }) (v := .pointer (some ⟨ob, 1, none⟩)) [2, 8, 10] rfl (by kernel_rfl) (by kernel_rfl) (by kernel_rfl) (by kernel_rfl) (fun _ _ _ h => h) (Or.inl ⟨by rfl, ?_⟩) KP.out ?_
            · intro wq hSw
              obtain ⟨o0, o1, o2, o3⟩ := (OB.out.below hSw).cells
              simp only at o0 o1 o2 o3
              go_simp
            (try simp only [Act.put, List.setIfInBounds_toArray, List.set_cons_zero, List.set_cons_succ])
            refine wpAnyT_take (i := 2) (oi := { dst := some 98, op := Op.load 3 (Operand.tmp 97), type := 3, pos := "law.go:51", after := #[{ on := 1, ground := Ground.data }], guard := none }) (v := .int .i64 n) [8, 10] rfl (by kernel_rfl) (by kernel_rfl) (by kernel_rfl) (by kernel_rfl) (fun _ _ _ h => h) (Or.inl ⟨by rfl, ?_⟩) KP.out ?_
            · intro wq hSw
              obtain ⟨o0, o1, o2, o3⟩ := (OB.out.below hSw).cells
              simp only at o0 o1 o2 o3
              go_simp
            (try simp only [Act.put, List.setIfInBounds_toArray, List.set_cons_zero, List.set_cons_succ])
            refine wpAnyT_take (i := 3) (oi := { dst := some 99, op := Op.fieldAddr 42 (Operand.tmp 18) 2, type := 0, pos := "law.go:51", after := #[], guard := none }) (v := .pointer (some ⟨ob, 2, none⟩)) [4, 8, 10] rfl (by kernel_rfl) (by kernel_rfl) (by kernel_rfl) (by kernel_rfl) (fun _ _ _ h => h) (Or.inl ⟨by rfl, ?_⟩) KP.out ?_
            · intro wq hSw
              obtain ⟨o0, o1, o2, o3⟩ := (OB.out.below hSw).cells
              simp only at o0 o1 o2 o3
              go_simp
            (try simp only [Act.put, List.setIfInBounds_toArray, List.set_cons_zero, List.set_cons_succ])
            refine wpAnyT_take (i := 4) (oi := { dst := some 100, op := Op.load 3 (Operand.tmp 99), type := 3, pos := "law.go:51", after := #[{ on := 3, ground := Ground.data }], guard := none }) (v := .int .i64 bt) [8, 10] rfl (by kernel_rfl) (by kernel_rfl) (by kernel_rfl) (by kernel_rfl) (fun _ _ _ h => h) (Or.inl ⟨by rfl, ?_⟩) KP.out ?_
            · intro wq hSw
              obtain ⟨o0, o1, o2, o3⟩ := (OB.out.below hSw).cells
              simp only at o0 o1 o2 o3
              go_simp
            (try simp only [Act.put, List.setIfInBounds_toArray, List.set_cons_zero, List.set_cons_succ])
            refine wpAnyT_take (i := 5) (oi := { dst := some 101, op := Op.fieldAddr 42 (Operand.tmp 18) 3, type := 0, pos := "law.go:51", after := #[], guard := none }) (v := .pointer (some ⟨ob, 3, none⟩)) [6, 7, 8, 10] rfl (by kernel_rfl) (by kernel_rfl) (by kernel_rfl) (by kernel_rfl) (fun _ _ _ h => h) (Or.inl ⟨by rfl, ?_⟩) KP.out ?_
            · intro wq hSw
              obtain ⟨o0, o1, o2, o3⟩ := (OB.out.below hSw).cells
              simp only at o0 o1 o2 o3
              go_simp
            (try simp only [Act.put, List.setIfInBounds_toArray, List.set_cons_zero, List.set_cons_succ])
            refine wpAnyT_take (i := 6) (oi := { dst := some 102, op := Op.load 22 (Operand.tmp 101), type := 22, pos := "law.go:51", after := #[{ on := 5, ground := Ground.data }], guard := none }) (v := .int .u64 (ag : Int)) [7, 8, 10] rfl (by kernel_rfl) (by kernel_rfl) (by kernel_rfl) (by kernel_rfl) (fun _ _ _ h => h) (Or.inl ⟨by rfl, ?_⟩) KP.out ?_
            · intro wq hSw
              obtain ⟨o0, o1, o2, o3⟩ := (OB.out.below hSw).cells
              simp only at o0 o1 o2 o3
              go_simp
            (try simp only [Act.put, List.setIfInBounds_toArray, List.set_cons_zero, List.set_cons_succ])
            have BQ := hide (keepF KP.out (box_below q (.cells #[.bool false, .float .f64 0] 39)))
            have N8 : Hid (Pn (q.alloc (.cells #[.bool false, .float .f64 0] 39)) q.heap.size _ _) := hide (heap_alloc_new q (.cells #[.bool false, .float .f64 0] 39))
            have hz : w8.heap.size ≤ q.heap.size := KP.out.size
            refine wpAnyT_two (i := 7) (j := 9) (oi := { dst := some 103, op := Op.call { callee := Callee.value (Operand.func 14), args := #[Operand.tmp 102], argTypes := #[22] }, type := 25, pos := "law.go:51", after := #[{ on := 6, ground := Ground.data }], guard := none }) (oj := { dst := some 20, op := Op.alloc 39, type := 0, pos := "law.go:51", after := #[], guard := none }) (by kernel_rfl) rfl rfl ?_ ?_
            · intro K hK
              go_simp
              refine hK.out _ _ (fun _ => KP.out) ?_
              clear hK K
              (try simp only [Act.put, List.setIfInBounds_toArray, List.set_cons_zero, List.set_cons_succ])
              refine wpAnyT_two (i := 8) (j := 9) (oi := { dst := some 104, op := Op.call { callee := Callee.value (Operand.func 15), args := #[Operand.tmp 96, Operand.tmp 98, Operand.tmp 100, Operand.tmp 103], argTypes := #[33, 3, 3, 25] }, type := 39, pos := "law.go:51", after := #[{ on := 0, ground := Ground.data }, { on := 2, ground := Ground.data }, { on := 4, ground := Ground.data }, { on := 7, ground := Ground.data }, { on := 7, ground := Ground.chain }], guard := none }) (oj := { dst := some 20, op := Op.alloc 39, type := 0, pos := "law.go:51", after := #[], guard := none }) (by kernel_rfl) rfl rfl ?_ ?_
              · intro K hK
                go_simp
                go_at_call 15
                refine (CP.out q KP.out).mono ?_
                rintro e u ⟨rfl, bu⟩
                have KU := hide (keepF KP.out bu)
                (try go_simp)
                refine hK.out _ _ (fun _ => KU.out) ?_
                clear hK K
                (try simp only [Act.put, List.setIfInBounds_toArray, List.set_cons_zero, List.set_cons_succ])
                refine wpAnyT_one (i := 9) (o := { dst := some 20, op := Op.alloc 39, type := 0, pos := "law.go:51", after := #[], guard := none }) (by kernel_rfl) rfl (fun K hK => ?_)
                go_simp
                refine hK.out _ _ (fun _ => (keepF KU.out (box_below u (.cells #[.bool false, .float .f64 0] 39)))) ?_
                clear hK K
                (try simp only [Act.put, List.setIfInBounds_toArray, List.set_cons_zero, List.set_cons_succ])
                refine wpAnyT_one (i := 10) (o := { dst := none, op := Op.store 39 (Operand.tmp 20) (Operand.tmp 104), type := 0, pos := "law.go:51", after := #[{ on := 9, ground := Ground.data }, { on := 8, ground := Ground.data }, { on := 8, ground := Ground.chain }, { on := 0, ground := Ground.phase }, { on := 1, ground := Ground.phase }, { on := 2, ground := Ground.phase }, { on := 3, ground := Ground.phase }, { on := 4, ground := Ground.phase }, { on := 5, ground := Ground.phase }, { on := 6, ground := Ground.phase }, { on := 7, ground := Ground.phase }, { on := 8, ground := Ground.phase }, { on := 9, ground := Ground.phase }], guard := none }) (by kernel_rfl) rfl (fun K hK => ?_)
                go_simp
                refine hK.out _ _ (vac (by kernel_rfl)) ?_
                clear hK K
                (try simp only [Act.put, List.setIfInBounds_toArray, List.set_cons_zero, List.set_cons_succ])
                refine wpAnyT_done (by kernel_rfl) ?_ _
                go_wp2_with fail
                go_meet
                case rel => exact ⟨u.heap.size, rfl, keepF KU.out (box_below u (.cells #[.bool g1, .float .f64 g2] 39)), heap_alloc_new u (.cells #[.bool g1, .float .f64 g2] 39)⟩
              · intro K hK
                go_simp
                refine hK.out _ _ (fun _ => BQ.out) ?_
                clear hK K
                (try simp only [Act.put, List.setIfInBounds_toArray, List.set_cons_zero, List.set_cons_succ])
                refine wpAnyT_one (i := 8) (o := { dst := some 104, op := Op.call { callee := Callee.value (Operand.func 15), args := #[Operand.tmp 96, Operand.tmp 98, Operand.tmp 100, Operand.tmp 103], argTypes := #[33, 3, 3, 25] }, type := 39, pos := "law.go:51", after := #[{ on := 0, ground := Ground.data }, { on := 2, ground := Ground.data }, { on := 4, ground := Ground.data }, { on := 7, ground := Ground.data }, { on := 7, ground := Ground.chain }], guard := none }) (by kernel_rfl) rfl (fun K hK => ?_)
                go_simp
                go_at_call 15
                refine (CP.out (q.alloc (.cells #[.bool false, .float .f64 0] 39)) BQ.out).mono ?_
                rintro e u ⟨rfl, bu⟩
                have KU := hide (keepF BQ.out bu)
                have NU := hide (N8.out.below bu)
                have f0 := NU.out.frozen 0
                have f1 := NU.out.frozen 1
                obtain ⟨y0, y1⟩ := NU.out.cells
                (try go_simp)
                refine hK.out _ _ (fun _ => KU.out) ?_
                clear hK K
                (try simp only [Act.put, List.setIfInBounds_toArray, List.set_cons_zero, List.set_cons_succ])
                refine wpAnyT_one (i := 10) (o := { dst := none, op := Op.store 39 (Operand.tmp 20) (Operand.tmp 104), type := 0, pos := "law.go:51", after := #[{ on := 9, ground := Ground.data }, { on := 8, ground := Ground.data }, { on := 8, ground := Ground.chain }, { on := 0, ground := Ground.phase }, { on := 1, ground := Ground.phase }, { on := 2, ground := Ground.phase }, { on := 3, ground := Ground.phase }, { on := 4, ground := Ground.phase }, { on := 5, ground := Ground.phase }, { on := 6, ground := Ground.phase }, { on := 7, ground := Ground.phase }, { on := 8, ground := Ground.phase }, { on := 9, ground := Ground.phase }], guard := none }) (by kernel_rfl) rfl (fun K hK => ?_)
                go_simp
                refine hK.out _ _ (vac (by kernel_rfl)) ?_
                clear hK K
                (try simp only [Act.put, List.setIfInBounds_toArray, List.set_cons_zero, List.set_cons_succ])
                refine wpAnyT_done (by kernel_rfl) ?_ _
                go_wp2_with fail
                go_meet
                case rel => exact ⟨q.heap.size, rfl, (KU.out.setCell hz _).setCell hz _, NU.out.all _ _⟩
            · intro K hK
              go_simp
              refine hK.out _ _ (fun _ => BQ.out) ?_
              clear hK K
              (try simp only [Act.put, List.setIfInBounds_toArray, List.set_cons_zero, List.set_cons_succ])
              refine wpAnyT_one (i := 7) (o := { dst := some 103, op := Op.call { callee := Callee.value (Operand.func 14), args := #[Operand.tmp 102], argTypes := #[22] }, type := 25, pos := "law.go:51", after := #[{ on := 6, ground := Ground.data }], guard := none }) (by kernel_rfl) rfl (fun K hK => ?_)
              go_simp
              refine hK.out _ _ (fun _ => BQ.out) ?_
              clear hK K
              (try simp only [Act.put, List.setIfInBounds_toArray, List.set_cons_zero, List.set_cons_succ])
              refine wpAnyT_one (i := 8) (o := { dst := some 104, op := Op.call { callee := Callee.value (Operand.func 15), args := #[Operand.tmp 96, Operand.tmp 98, Operand.tmp 100, Operand.tmp 103], argTypes := #[33, 3, 3, 25] }, type := 39, pos := "law.go:51", after := #[{ on := 0, ground := Ground.data }, { on := 2, ground := Ground.data }, { on := 4, ground := Ground.data }, { on := 7, ground := Ground.data }, { on := 7, ground := Ground.chain }], guard := none }) (by kernel_rfl) rfl (fun K hK => ?_)
              go_simp
              go_at_call 15
              refine (CP.out (q.alloc (.cells #[.bool false, .float .f64 0] 39)) BQ.out).mono ?_
              rintro e u ⟨rfl, bu⟩
              have KU := hide (keepF BQ.out bu)
              have NU := hide (N8.out.below bu)
              have f0 := NU.out.frozen 0
              have f1 := NU.out.frozen 1
              obtain ⟨y0, y1⟩ := NU.out.cells
              (try go_simp)
              refine hK.out _ _ (fun _ => KU.out) ?_
              clear hK K
              (try simp only [Act.put, List.setIfInBounds_toArray, List.set_cons_zero, List.set_cons_succ])
              refine wpAnyT_one (i := 10) (o := { dst := none, op := Op.store 39 (Operand.tmp 20) (Operand.tmp 104), type := 0, pos := "law.go:51", after := #[{ on := 9, ground := Ground.data }, { on := 8, ground := Ground.data }, { on := 8, ground := Ground.chain }, { on := 0, ground := Ground.phase }, { on := 1, ground := Ground.phase }, { on := 2, ground := Ground.phase }, { on := 3, ground := Ground.phase }, { on := 4, ground := Ground.phase }, { on := 5, ground := Ground.phase }, { on := 6, ground := Ground.phase }, { on := 7, ground := Ground.phase }, { on := 8, ground := Ground.phase }, { on := 9, ground := Ground.phase }], guard := none }) (by kernel_rfl) rfl (fun K hK => ?_)
              go_simp
              refine hK.out _ _ (vac (by kernel_rfl)) ?_
              clear hK K
              (try simp only [Act.put, List.setIfInBounds_toArray, List.set_cons_zero, List.set_cons_succ])
              refine wpAnyT_done (by kernel_rfl) ?_ _
              go_wp2_with fail
              go_meet
              case rel => exact ⟨q.heap.size, rfl, (KU.out.setCell hz _).setCell hz _, NU.out.all _ _⟩
          case rest =>
            obtain ⟨pc, rfl, hcu⟩ := hcut
            have T9 := T8.out.below hcu.out.1
            have P9 := P8.out.below hcu.out.1
            have R9 := hcu.out.2
            clear hcu T8 O8 OB P8
            generalize hwc : wc = w9 at *
            clear hwc
            have HW := hide (want_any T9.a T9.ok)
            have T9' := hide T9
            obtain ⟨wa, hwa⟩ : ∃ wa, Hid (wantF ⟨mo, bb, li, al⟩ s7 = wa) := ⟨_, rfl⟩
            rw [hwa.out] at HW
            replace P9 := hide P9
            replace R9 := hide R9
            clear T9
            have hBits := fun u => bits_any u g2 g2
            simp only [decide_true] at hBits
            go_wp2_with fail
            go_at_call 11
            refine HW.out.mono ?_
            rintro e wk ⟨rfl, k, rfl⟩
            have bk : Below w9.heap.size w9 (w9.drewN k) := below_drewN (Below.refl _ w9) k
            have T10 := hide (T9'.out.below bk)
            have P10 := hide (P9.out.below bk)
            have R10 := hide (R9.out.below bk)
            clear bk HW P9 R9 T9'
            generalize w9.drewN k = w10 at *
            have HW := hide (rwant_any T10.out.r T10.out.ok)
            rw [hwa.out] at HW
            go_wp2_with fail
            go_at_call 16
            refine HW.out.mono ?_
            rintro e wk ⟨rfl, k2, rfl⟩
            have bk : Below w10.heap.size w10 (w10.drewN k2) := below_drewN (Below.refl _ w10) k2
            have T11 := hide (T10.out.below bk)
            obtain ⟨y0, y1⟩ := (P10.out.below bk).cells
            obtain ⟨y2, y3⟩ := (R10.out.below bk).cells
            clear bk HW P10 R10 T10
            generalize w10.drewN k2 = w11 at *
            go_wp2_with (go_at_call 17; refine (hBits _).mono ?_; rintro e w' ⟨rfl, hw⟩; rw [hw]; clear hw w')
            go_roundw
            case rel => exact ⟨i + 1, _, by omega, by omega, by go_num, T11.out⟩
            case measure => simp [intOf]; omega
      · have hex : ¬ ((i : Int) < (len : Int)) ∨ ((i : Int) < (len : Int) ∧ ¬ ((i : Int) < 300)) := by omega
        clear hlt
        rcases hex with hx | ⟨hx, hx2⟩
        all_goals
          go_wp2_with fail
          go_ret
          exact ⟨rfl, TW.out.be⟩
theorem all_law (W : World) (mo bb li al : Int) (ao : Option Addr) (ca : Nat) (os : List Pop) (hl : 0 ≤ li ∧ li < 18446744073709551616) (ha : 0 ≤ al ∧ al < 18446744073709551616) (hlen : os.length ≤ 9223372036854775807) (hat : AtPops W ao os) (hok : ∀ o ∈ os, PopOk o) :
    Calls Try.prog 3 #[.int .i64 mo, .int .i64 bb, .int .u64 li, .int .u64 al, .slice ao os.length ca] W fun e w' => e = .returned (.bool true) ∧ Below W.heap.size W w' := by
  obtain ⟨p, rfl⟩ : ∃ p : Nat, li = (p : Int) := ⟨li.toNat, by omega⟩
  obtain ⟨q, rfl⟩ : ∃ q : Nat, al = (q : Int) := ⟨al.toNat, by omega⟩
  exact all_walk W mo bb p q ao ca os (by omega) (by omega) hlen hat hok
end Go.Proofs.Ytikjgonlngcglaa.Pc

