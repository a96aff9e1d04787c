/-
  Pace: the document's Plan; begun.
-/
import Derived.Test.YtikjgonlngcglaaN01
namespace Go.Proofs.Ytikjgonlngcglaa.Pc
open Go.RowKit Rl Gg
set_option linter.unusedVariables false
set_option maxRecDepth 100000
/-- The params of begun. -/
def q8 : Q := ⟨8, 1000, 4602678819172646912, 4602678819172646912⟩
theorem q8_may : mayB q8 = true := by decide +kernel
theorem p8a : planF q8 4607182418800017408 0 0 0 = (false, 4602678819172646912) := by decide +kernel
theorem p8b : planF q8 4607182418800017408 1 10 0 = (true, 0) := by decide +kernel
theorem s8 : seenF q8 4607182418800017408 8 = 4616752568008179712 := by decide +kernel
theorem w8 : wantF q8 4616752568008179712 = 5 := by decide +kernel
set_option maxHeartbeats 1000000 in
theorem begun_any (w : World) : Calls Try.prog 6 #[] w fun e w' => e = .returned (.bool true) ∧ Below w.heap.size w w' := by
  have hN := hide (fun u => new_any u q8 (by decide) (by decide))
  unfold q8 Q.val at hN
  simp only at hN
  go_enter Try.func6, Try.ntmps6
  go_wp2_with fail
  go_at_call 8
  refine (hN.out _).mono ?_
  rintro e w1 ⟨b1, ⟨hm, rfl⟩ | ⟨hm, b, hb, rfl, A⟩⟩
  · exact absurd ((show mayB q8 = false from hm).symm.trans q8_may) (by decide)
  have ok := Ok.new hm
  replace A := hide (show At 53 w1 b q8 4607182418800017408 from A)
  have OK := hide (show Ok q8 4607182418800017408 from ok)
  have BW := hide b1
  have HB := hide hb
  clear b1 ok hm hN hb
  go_upto_region 4 with fail
  go_wp2_with fail
  go_at_call 12
  refine (plan_any A.out OK.out 0 0 (age := 0) (by omega)).mono ?_
  rw [p8a]
  rintro e w2 ⟨rfl, b2⟩
  replace A := hide (A.out.below b2)
  replace BW := hide (keepF BW.out b2)
  clear b2
  unfold planV
  simp only
  go_wp2_with fail
  go_at_call 12
  refine (plan_any A.out OK.out 1 10 (age := 0) (by omega)).mono ?_
  rw [p8b]
  rintro e w3 ⟨rfl, b2⟩
  replace A := hide (A.out.below b2)
  replace BW := hide (keepF BW.out b2)
  clear b2
  unfold planV
  simp only
  have sf : ∀ (W : World) (a : Addr) (x : Nat), (store a (.float .f64 x)).run Try.prog W = stored Try.prog W a (.float .f64 x) .plain := fun W a x => run_store _ W a _ _ rfl
  go_upto_region 5 with fail
  obtain ⟨w4, hw4⟩ : ∃ w4, Hid (w3.alloc (.cells #[.bool false, .float .f64 4602678819172646912] 39) = w4) := ⟨_, rfl⟩
  have B4 := box_below w3 (.cells #[.bool false, .float .f64 4602678819172646912] 39)
  have N4 : Pn (w3.alloc (.cells #[.bool false, .float .f64 4602678819172646912] 39)) w3.heap.size _ _ := heap_alloc_new w3 (.cells #[.bool false, .float .f64 4602678819172646912] 39)
  rw [hw4.out] at B4 N4 ⊢
  have hz : w4.heap.size = w3.heap.size + 1 := by rw [← hw4.out]; simp
  have B5 := box_below w4 (.cells #[.bool true, .float .f64 0] 39)
  have N5 : Pn (w4.alloc (.cells #[.bool true, .float .f64 0] 39)) w4.heap.size _ _ := heap_alloc_new w4 (.cells #[.bool true, .float .f64 0] 39)
  rw [hz] at N5
  have hbl := A.out.lt
  replace A := hide ((A.out.below B4).below B5)
  replace N4 := N4.below B5
  replace BW := hide (keepF (keepF BW.out B4) B5)
  clear B4 B5 hw4 hz sf
  generalize w4.alloc (.cells #[.bool true, .float .f64 0] 39) = w5 at *
  generalize w3.heap.size = p at *
  go_wp2_with fail
  go_at_call 10
  refine (seen_any A.out OK.out 8).mono ?_
  rw [s8]
  rintro e w6 ⟨rfl, A6, b6⟩
  replace OK := hide (by have := OK.out.seen 8; rwa [s8] at this)
  replace N4 : Pn w6 p _ _ := b6.at N4 (by omega)
  replace N5 : Pn w6 (p + 1) _ _ := b6.at N5 (by omega)
  replace BW := hide (BW.out.trans (b6.below BW.out.size fun k hk => by rw [show k = b from hk]; exact HB.out))
  have hW := hide (want_any A6 OK.out)
  rw [w8] at hW
  obtain ⟨y0, y1⟩ := N4.cells
  obtain ⟨y2, y3⟩ := N5.cells
  have o1 : FloatKind.f64.format.order 4602678819172646912 4602678819172646912 = some .eq := by decide +kernel
  have o2 : FloatKind.f64.format.order 0 0 = some .eq := by decide +kernel
  clear b6 A A6 OK N4 N5
  go_wp2_with fail
  go_at_call 11
  refine hW.out.mono ?_
  rintro e w7 ⟨rfl, k, rfl⟩
  go_wp2_with fail
  go_ret
  exact ⟨rfl, below_drewN BW.out k⟩
end Go.Proofs.Ytikjgonlngcglaa.Pc

/-
  PaceWaits: quarters by data; its walk.
-/
namespace Go.Proofs.Ytikjgonlngcglaa.Pc
open Go.RowKit Rl Gg
set_option linter.unusedVariables false
set_option maxRecDepth 100000
theorem read_norm {b : Nat} (h1 : 4503599627370496 ≤ b) (h2 : b < 9218868437227405312) : ∃ m k : Nat, Ieee.double.read b = .number false m (-1074 + (k : Int)) ∧ m * 2 ^ k = magB b ∧ 4503599627370496 ≤ m ∧ m < 9007199254740992 := by
  unfold Ieee.Format.read magB
  rw [fmt_sign, fmt_bin, fmt_inf, fmt_least]
  simp only
  rw [Nat.mod_eq_of_lt (show b < 9223372036854775808 by omega), if_neg (show ¬ b < 4503599627370496 by omega), if_neg (show ¬ b < 4503599627370496 by omega), if_pos h2]
  have hs : (b / 9223372036854775808 % 2 == 1) = false := by rw [Nat.div_eq_of_lt (by omega)]; rfl
  rw [hs]
  refine ⟨_, _, rfl, ?_, ?_, ?_⟩
  · rw [Nat.add_comm]
  · omega
  · have := Nat.mod_lt b (show 0 < 4503599627370496 by omega); omega
theorem log_norm {m : Nat} (h1 : 4503599627370496 ≤ m) (h2 : m < 9007199254740992) : m.log2 = 52 := by
  rw [Nat.log2_eq_iff (by omega)]
  exact ⟨by omega, by omega⟩
theorem mag_norm : magB 4503599627370496 ≤ 2 ^ 1074 := by decide +kernel
theorem nf_norm {n : Nat} (h1 : 1 ≤ n) (h2 : n < 9007199254740992) : 4503599627370496 ≤ nf n := by
  rcases Nat.lt_or_ge (nf n) 4503599627370496 with c | c
  · exfalso
    have h := (nf_at n h2).1
    have h3 := mag_mono c
    rw [h] at h3
    have h4 := mag_norm
    have h5 : 2 ^ 1074 ≤ n * 2 ^ 1074 := Nat.le_mul_of_pos_left _ (by omega)
    exact absurd (Nat.lt_of_lt_of_le h3 h4) (Nat.not_lt.2 h5)
  · exact c
theorem zero_r (U : Nat) : roundB (0 * U) = 0 := by rw [Nat.zero_mul, round_zero]
theorem qU_le (U : Nat) {a b : Nat} (h : a ≤ b) : roundB (a * U) ≤ roundB (b * U) := round_mono (Nat.mul_le_mul_right _ h)
theorem pow_le3 (a b : Nat) (h : a ≤ b) : 2 ^ a ≤ 2 ^ b := Nat.pow_le_pow_right (by omega) h
/-- A number of quarters. -/
def qf (k : Nat) : Nat := roundB (k * 2 ^ 1072)
theorem qf_zero : qf 0 = 0 := by unfold qf; generalize 2 ^ 1072 = U; exact zero_r U
theorem qf_mag {k : Nat} (h : k < 9007199254740992) : magB (qf k) = k * 2 ^ 1072 := round_exact k 1072 h (by omega)
theorem read_four : Ieee.double.read 4616189618054758400 = .number false 4503599627370496 (-50) := by decide +kernel
theorem pow_big {m k n : Nat} (h : m * 2 ^ k = n * 2 ^ 1074) (h2 : m < 9007199254740992) (h1 : 1 ≤ n) : 2 ≤ k := by
  rcases Nat.lt_or_ge k 2 with c | c
  · exfalso
    have e1 : 2 ^ k ≤ 2 := by
      rcases (show k = 0 ∨ k = 1 by omega) with rfl | rfl <;> decide
    have e2 : m * 2 ^ k ≤ m * 2 := Nat.mul_le_mul_left m e1
    have e3 := pow_le3 60 1074 (by omega)
    have e4 : 2 ^ 1074 ≤ n * 2 ^ 1074 := Nat.le_mul_of_pos_left _ h1
    rw [← h] at e4
    clear h
    have e5 := Nat.le_trans e3 (Nat.le_trans e4 e2)
    have e6 : (2 : Nat) ^ 60 = 1152921504606846976 := by decide
    rw [e6] at e5
    omega
  · exact c
theorem quart (m k p a : Nat) (hp : 2 ≤ p) (v : m * 2 ^ p = k * 2 ^ (a + 2)) : m * 2 ^ (p - 2) = k * 2 ^ a := by
  refine Nat.eq_of_mul_eq_mul_right (show 0 < 2 ^ 2 by decide) ?_
  rw [Nat.mul_assoc m, ← Nat.pow_add 2 (p - 2) 2, show p - 2 + 2 = p by omega, v, Nat.mul_assoc, ← Nat.pow_add]
theorem div_four {k : Nat} (h : k < 9007199254740992) : Ieee.double.div (nf k) 4616189618054758400 = some (qf k) := by
  by_cases h0 : k = 0
  · subst h0
    have e0 : nf 0 = 0 := by decide +kernel
    have e1 : qf 0 = 0 := qf_zero
    rw [e0, e1]
    decide +kernel
  · obtain ⟨m, p, e, v, m1, m2⟩ := read_norm (nf_norm (n := k) (by omega) h) (nf_at k h).2
    rw [(nf_at k h).1] at v
    have hp := pow_big v m2 (by omega)
    unfold Ieee.Format.div
    rw [e, read_four]
    unfold Ieee.Datum.quotient
    simp only
    rw [if_neg (by omega), log_norm m1 m2, log_norm (m := 4503599627370496) (by omega) (by omega), Nat.shiftLeft_eq]
    show some (Ieee.double.nearest (false ^^ false) (2 * (m * 2 ^ 54 / 4503599627370496) + (m * 2 ^ 54 % 4503599627370496 != 0).toNat) _) = _
    have d1 : m * 2 ^ 54 / 4503599627370496 = m * 4 := by
      rw [show (2 : Nat) ^ 54 = 4 * 4503599627370496 by decide, ← Nat.mul_assoc, Nat.mul_div_cancel _ (by decide)]
    have d2 : m * 2 ^ 54 % 4503599627370496 = 0 := by
      rw [show (2 : Nat) ^ 54 = 4 * 4503599627370496 by decide, ← Nat.mul_assoc, Nat.mul_mod_left]
    rw [d1, d2, show ((0 : Nat) != 0).toNat = 0 by decide, Nat.add_zero, show 2 * (m * 4) = m * 2 ^ 3 by omega, nearest_scale, Bool.xor_false]
    have e' : (-1074 + (p : Int) - -50 - ((Ieee.double.fractionBits + 2 + 52 - 52 : Nat) : Int) - 1 + ((3 : Nat) : Int)) = -1074 + ((p - 2 : Nat) : Int) := by
      show (-1074 + (p : Int) - -50 - ((52 + 2 + 52 - 52 : Nat) : Int) - 1 + ((3 : Nat) : Int)) = _
      omega
    rw [e', nearest_eq, word_eq, if_neg (by decide)]
    congr 1
    unfold qf
    congr 1
    have hE : (1074 : Nat) = 1072 + 2 := rfl
    rw [hE] at v
    exact quart m k p 1072 hp v
theorem mag_2_20 : magB 4697254411347427328 = 4194304 * 2 ^ 1072 := by decide +kernel
theorem qf_le {a b : Nat} (hb : b < 9007199254740992) (h : a ≤ b) : qf a ≤ qf b := by unfold qf; generalize 2 ^ 1072 = U; exact qU_le U h
theorem qf_lt {a b : Nat} (hb : b < 9007199254740992) (h : a < b) : qf a < qf b := by
  rcases Nat.lt_or_ge (qf a) (qf b) with c | c
  · exact c
  · exfalso
    have h1 := mag_le c
    rw [qf_mag hb, qf_mag (by omega)] at h1
    have := Nat.le_of_mul_le_mul_right h1 (Nat.two_pow_pos 1072)
    omega
theorem qf_20 {a : Nat} (h : a ≤ 65536) : qf a ≤ 4697254411347427328 := by
  refine round_le (by omega) (Nat.le_trans (Nat.mul_le_mul_right _ (show a ≤ 4194304 by omega)) (Nat.le_of_eq mag_2_20.symm))
theorem qf_one : qf 1 = 4598175219545276416 := by decide +kernel
theorem qf_sub {a b : Nat} (ha : a ≤ 65536) (h : b ≤ a) : Ieee.double.sub (qf a) (qf b) = some (qf (a - b)) := by
  have h20 := qf_20 ha
  rw [sub_ge (by omega) (qf_le (by omega) h), qf_mag (by omega), qf_mag (by omega), ← Nat.sub_mul]
  rfl
theorem qf_add {a b : Nat} (ha : a + b ≤ 65536) : Ieee.double.add (qf a) (qf b) = some (qf (a + b)) := by
  have h1 := qf_20 (a := a) (by omega)
  have h2 := qf_20 (a := b) (by omega)
  rw [add_fin (by omega) (by omega) (by omega) (by omega), if_neg (by omega), sg_pos (by omega), sg_pos (by omega), qf_mag (by omega), qf_mag (by omega)]
  rw [← Int.natCast_add, sign_pos, ← Nat.add_mul]
  rfl
theorem qf_pa {a : Nat} (ha : a ≤ 65536) : paF (qf a) = qf a := by
  have h1 := qf_20 ha
  unfold paF
  by_cases h0 : qf a = 0
  · rw [if_neg (by omega), h0]
  · rw [if_pos (by omega)]
theorem qf_diff {a b : Nat} (ha : a ≤ 65536) (h : b ≤ a) : roundB (magB (qf a) - magB (qf b)) = qf (a - b) := by
  have h20 := qf_20 ha
  have := qf_sub ha h
  rw [sub_ge (by omega) (qf_le (by omega) h)] at this
  exact Option.some.inj this
/-- The params of PaceWaits. -/
def qw (L : Nat) : Q := ⟨8, 1000, qf L, 4607182418800017408⟩
theorem qw_li (L : Nat) : (qw L).li = qf L := by unfold qw; simp only
theorem qw_may {L : Nat} (h : L ≤ 65536) : mayB (qw L) = true := by
  have : liB (qf L) = true := by unfold liB; rw [decide_eq_true (.inl (qf_20 h))]
  unfold mayB qw
  simp only
  rw [this]
  rfl
theorem qw_seen (L : Nat) : seenF (qw L) 4607182418800017408 8 = 4620693217682128896 := by
  have : smB 4607182418800017408 (nf 8) 4607182418800017408 = 4620693217682128896 := by decide +kernel
  unfold seenF qw
  simp only
  rw [if_pos (by omega), show (8 : Int).toNat = 8 by rfl, this]
theorem up_8 : upU (magB 4620693217682128896) = 8 := by decide +kernel
theorem qw_want (L : Nat) : wantF (qw L) 4620693217682128896 = 8 := by
  unfold wantF
  rw [up_8]
  rfl
theorem qw_plan {L G : Nat} {n : Int} (hL : L ≤ 65536) (hG : G ≤ 65536) (hn : n ≤ 7) : planF (qw L) 4620693217682128896 n 10 (qf G) = if L ≤ G then (true, 0) else (false, qf (L - G)) := by
  have h1 := qf_20 hL
  have h2 := qf_20 hG
  have hge : geB (qf G) (qf L) = decide (L ≤ G) := by
    rw [ge_eq (by omega) (by unfold liB; rw [decide_eq_true (.inl h1)])]
    by_cases h : L ≤ G
    · rw [decide_eq_true h, decide_eq_true (.inr (qf_le (by omega) h))]
    · have := qf_lt (a := G) (b := L) (by omega) (by omega)
      rw [decide_eq_false h, decide_eq_false (by omega)]
  have hgo : goF (qw L) 4620693217682128896 n 10 (qf G) = decide (L ≤ G) := by
    unfold goF
    have e1 : decide ((qw L).mo ≤ n) = false := decide_eq_false (show ¬ (8 : Int) ≤ n by omega)
    have e2 : decide ((qw L).by' ≤ 10) = false := decide_eq_false (show ¬ (1000 : Int) ≤ 10 by omega)
    have e3 : geB (qf G) (qw L).li = decide (L ≤ G) := by rw [qw_li]; exact hge
    rw [e1, e2, e3, qw_want, decide_eq_false (show ¬ ((8 : Nat) : Int) ≤ n by omega), Bool.and_false, Bool.or_false, Bool.false_or, Bool.false_or]
  unfold planF
  rw [qf_pa hG, hgo]
  by_cases h : L ≤ G
  · rw [decide_eq_true h, if_pos h, if_pos rfl]
  · rw [decide_eq_false h, if_neg h, if_neg (by decide)]
    unfold wtF
    rw [qw_li, qf_diff (a := L) (b := G) hL (by omega)]
theorem qw_most {L : Nat} {bb : Int} {x : Nat} : planF (qw L) 4620693217682128896 8 bb x = (true, 0) := by
  unfold planF goF
  have : decide ((qw L).mo ≤ 8) = true := rfl
  rw [this, Bool.true_or, Bool.true_or, Bool.true_or, if_pos rfl]
theorem qw_bytes {L : Nat} {n : Int} {x : Nat} : planF (qw L) 4620693217682128896 n 1000 x = (true, 0) := by
  unfold planF goF
  have : decide ((qw L).by' ≤ 1000) = true := rfl
  rw [this, Bool.or_true, Bool.true_or, Bool.true_or, if_pos rfl]
theorem conv_u16 (n : Nat) (w : World) : (convert 49 25 (.int .u16 (n : Int))).run Try.prog w = .ok (.float .f64 (nf n)) w := by
  simp [convert, Conv.intToFloat, nf]
theorem div_run {x y r : Nat} (h : Ieee.double.div x y = some r) (w : World) : (binOp .quo 25 (.float .f64 x) (.float .f64 y)).run Try.prog w = .ok (.float .f64 r) w := by
  have h2 : FloatKind.f64.format.div x y = some r := h
  simp [binOp, Op.floatArith, h2]
end Go.Proofs.Ytikjgonlngcglaa.Pc

/-
  PaceWaits: its walk.
-/
namespace Go.Proofs.Ytikjgonlngcglaa.Pc
open Go.RowKit Rl Gg
set_option linter.unusedVariables false
set_option maxRecDepth 100000
theorem u16_bounds {n : Int} (h : (Lit.int .u16 n).wf = true) : 0 ≤ n ∧ n ≤ 65535 := by
  simpa [Lit.wf, IntKind.min, IntKind.max, IntKind.signed, IntKind.bits] using h
theorem fld_go (u : World) (x : Bool) (y : Nat) : (Instr.field 39 (.agg #[.bool x, .float .f64 y]) 0).run Try.prog u = .ok (.bool x) u := by kernel_rfl
set_option maxHeartbeats 2000000 in
theorem waits_walk (W : World) (L G : Nat) (n : Int) (hL : L ≤ 65535) (hG : G ≤ 65535) :
    Calls Try.prog 5 #[.int .u16 (L : Int), .int .u16 (G : Int), .int .i64 n] W fun e w' => e = .returned (.bool true) ∧ Below W.heap.size W w' := by
  have k1 := conv_u16 L
  have k2 := conv_u16 G
  have k3 := fun u => div_run (div_four (k := L) (by omega)) u
  have k4 := fun u => div_run (div_four (k := G) (by omega)) u
  have l20 := qf_20 (a := L) (by omega)
  have g20 := qf_20 (a := G) (by omega)
  have hN := hide (fun u => new_any u (qw L) (by rw [qw_li]; omega) (show 4607182418800017408 < 18446744073709551616 by omega))
  have hval : (qw L).val = .agg #[.int .i64 8, .int .i64 1000, .float .f64 (qf L), .float .f64 4607182418800017408] := by unfold Q.val qw; simp only
  rw [hval] at hN
  clear hval
  have hp : Hid (n ≤ 7 → planF (qw L) 4620693217682128896 n 10 (qf G) = if L ≤ G then (true, 0) else (false, qf (L - G))) := hide fun h => qw_plan (by omega) (by omega) h
  have hge : Hid ((FloatKind.f64.format.order (qf G) (qf L) == some .gt || FloatKind.f64.format.order (qf G) (qf L) == some .eq) = decide (L ≤ G)) := hide (by
    have h1 : geB (qf G) (qf L) = decide (L ≤ G) := by
      rw [ge_eq (by omega) (by unfold liB; rw [decide_eq_true (.inl l20)])]
      by_cases h : L ≤ G
      · rw [decide_eq_true h, decide_eq_true (.inr (qf_le (by omega) h))]
      · have := qf_lt (a := G) (b := L) (by omega) (by omega)
        rw [decide_eq_false h, decide_eq_false (by omega)]
    exact h1)
  go_enter Try.func5, Try.ntmps5
  go_wp2_with fail
  go_at_call 6
  refine (begun_any _).mono ?_
  rintro e w0 ⟨rfl, b0⟩
  have BW := hide b0
  clear b0
  go_wp2_with fail
  go_at_call 8
  refine (hN.out _).mono ?_
  rintro e w1 ⟨b1, ⟨hm, rfl⟩ | ⟨hm, b, hb, rfl, A⟩⟩
  · exact absurd (hm.symm.trans (qw_may (L := L) (by omega))) (by decide)
  have OK := hide (Ok.new hm)
  replace A := hide A
  have HB := hide (Nat.le_trans BW.out.size hb)
  replace BW := hide (keepF BW.out b1)
  clear b1 hm hN hb k1 k2 k3 k4
  go_wp2_with fail
  go_at_call 10
  refine (seen_any A.out OK.out 8).mono ?_
  rw [qw_seen]
  rintro e w2 ⟨rfl, A2, b2⟩
  replace OK := hide (by have := OK.out.seen 8; rwa [qw_seen] at this)
  replace BW := hide (BW.out.trans (b2.below BW.out.size fun k hk => by rw [show k = b from hk]; exact HB.out))
  replace A := hide A2
  clear A2 b2
  by_cases n0 : n < 0
  · go_wp2_with fail
    go_ret
    exact ⟨rfl, BW.out⟩
  by_cases n7 : 7 < n
  · go_wp2_with fail
    go_ret
    exact ⟨rfl, BW.out⟩
  go_wp2_with fail
  go_at_call 12
  refine (plan_any A.out OK.out n 10 (age := qf G) (by omega)).mono ?_
  rw [hp.out (by omega)]
  rintro e w3 ⟨rfl, b3⟩
  replace A := hide (A.out.below b3)
  replace BW := hide (keepF BW.out b3)
  clear b3
  have sf : ∀ (W : World) (a : Addr) (x : Nat), (store a (.float .f64 x)).run Try.prog W = stored Try.prog W a (.float .f64 x) .plain := fun W a x => run_store _ W a _ _ rfl
  have o2 : FloatKind.f64.format.order 0 0 = some .eq := by decide +kernel
  by_cases hLG : L ≤ G
  · have hge' := hge.out
    rw [decide_eq_true hLG] at hge'
    rw [if_pos hLG]
    unfold planV
    simp only
    have B4 := hide (box_below w3 (.cells #[.bool true, .float .f64 0] 39))
    go_wp2_with fail
    go_ret
    exact ⟨rfl, keepF BW.out B4.out⟩
  · have hge' := hge.out
    rw [decide_eq_false hLG] at hge'
    rw [if_neg hLG]
    unfold planV
    simp only
    have B4 := box_below w3 (.cells #[.bool false, .float .f64 (qf (L - G))] 39)
    have N4 : Pn (w3.alloc (.cells #[.bool false, .float .f64 (qf (L - G))] 39)) w3.heap.size _ _ := heap_alloc_new w3 (.cells #[.bool false, .float .f64 (qf (L - G))] 39)
    have HB4 := hide B4
    have HN4 := hide N4
    clear B4 N4
    go_upto_region 14 with fail
    replace A := hide (A.out.below HB4.out)
    replace BW := hide (keepF BW.out HB4.out)
    have N4 := HN4.out
    clear HB4 HN4 sf
    generalize w3.alloc (.cells #[.bool false, .float .f64 (qf (L - G))] 39) = w4 at *
    generalize w3.heap.size = p at *
    obtain ⟨y0, y1⟩ := N4.cells
    have s1 := fun u => sub_run (qf_sub (a := L) (b := G) (by omega) (by omega)) u
    have s2 := fun u => add_run (qf_add (a := G) (b := L - G) (by omega)) u
    rw [show G + (L - G) = L by omega] at s2
    have s3 := fun u => sub_run (qf_sub (a := L) (b := 1) (by omega) (by omega)) u
    rw [qf_one] at s3
    have d20 := qf_20 (a := L - G) (by omega)
    have o1 : FloatKind.f64.format.order (qf (L - G)) (qf (L - G)) = some .eq := by rw [ord_pos (by omega) (by omega)]; simp
    have e20 := qf_20 (a := L - 1) (by omega)
    have P1 := hide (qw_plan (L := L) (G := L) (n := n) (by omega) (by omega) (by omega))
    rw [if_pos (Nat.le_refl _)] at P1
    have P2 := hide (qw_plan (L := L) (G := L - 1) (n := n) (by omega) (by omega) (by omega))
    rw [if_neg (by omega)] at P2
    replace hLG := hide hLG
    have fg := fld_go
    go_wp2_with fail
    go_at_call 12
    refine (plan_any A.out OK.out n 10 (age := qf L) (by omega)).mono ?_
    rw [P1.out]
    rintro e w5 ⟨rfl, b5⟩
    replace A := hide (A.out.below b5)
    replace BW := hide (keepF BW.out b5)
    replace N4 := N4.below b5
    obtain ⟨y0, y1⟩ := N4.cells
    clear b5
    unfold planV
    simp only
    go_wp2_with fail
    go_at_call 12
    refine (plan_any A.out OK.out n 10 (age := qf (L - 1)) (by omega)).mono ?_
    rw [P2.out]
    rintro e w6 ⟨rfl, b6⟩
    replace A := hide (A.out.below b6)
    replace BW := hide (keepF BW.out b6)
    clear b6 N4 y0 y1
    unfold planV
    simp only
    go_wp2_with fail
    go_at_call 12
    refine (plan_any A.out OK.out 8 10 (age := qf G) (by omega)).mono ?_
    rw [qw_most]
    rintro e w7 ⟨rfl, b7⟩
    replace A := hide (A.out.below b7)
    replace BW := hide (keepF BW.out b7)
    clear b7
    unfold planV
    simp only
    go_wp2_with fail
    go_at_call 12
    refine (plan_any A.out OK.out n 1000 (age := qf G) (by omega)).mono ?_
    rw [qw_bytes]
    rintro e w8 ⟨rfl, b8⟩
    replace BW := hide (keepF BW.out b8)
    clear b8
    unfold planV
    simp only
    go_wp2_with fail
    go_ret
    exact ⟨rfl, BW.out⟩
theorem waits_law (W : World) (a b c : Int) (ha : 0 ≤ a ∧ a ≤ 65535) (hb : 0 ≤ b ∧ b ≤ 65535) : Calls Try.prog 5 #[.int .u16 a, .int .u16 b, .int .i64 c] W fun e w' => e = .returned (.bool true) ∧ Below W.heap.size W w' := by
  obtain ⟨p, rfl⟩ : ∃ p : Nat, a = (p : Int) := ⟨a.toNat, by omega⟩
  obtain ⟨q, rfl⟩ : ∃ q : Nat, b = (q : Int) := ⟨b.toNat, by omega⟩
  exact waits_walk W p q c (by omega) (by omega)
end Go.Proofs.Ytikjgonlngcglaa.Pc

