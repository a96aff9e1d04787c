/-
  What a gauge tells, but for its mean, by the numbers that it was told, in whatever order; merged.
-/
import Derived.Test.YtjkdhckhokkefaaR02
namespace Go.Proofs.Ytjkdhckhokkefaa.Gg
open Go.RowKit Rl
set_option linter.unusedVariables false
set_option maxRecDepth 100000
/-- The same, but for the mean. -/
structure Eq0 (g h : G) : Prop where
  bs : g.bs = h.bs
  cs : g.cs = h.cs
  n : g.l.n = h.l.n
  na : g.l.na = h.l.na
  lo : g.l.lo = h.l.lo
  hi : g.l.hi = h.l.hi
theorem Eq0.refl (g : G) : Eq0 g g := ⟨rfl, rfl, rfl, rfl, rfl, rfl⟩
theorem Eq0.symm {g h : G} (e : Eq0 g h) : Eq0 h g := ⟨e.bs.symm, e.cs.symm, e.n.symm, e.na.symm, e.lo.symm, e.hi.symm⟩
theorem Eq0.trans {g h k : G} (e : Eq0 g h) (f : Eq0 h k) : Eq0 g k := ⟨e.bs.trans f.bs, e.cs.trans f.cs, e.n.trans f.n, e.na.trans f.na, e.lo.trans f.lo, e.hi.trans f.hi⟩
/-- What holds of a gauge always. -/
def Inv (g : G) : Prop := (∃ M, Ok M g) ∧ Nz g.l
theorem Inv.put {g : G} (h : Inv g) {x : Nat} (hx : x < 18446744073709551616) : Inv (putF g x) := by
  obtain ⟨⟨M, ok⟩, nz⟩ := h
  exact ⟨⟨_, ok.put x hx⟩, nz.put ok.n.1 ok.lo x⟩
/-- The least of two, the greatest of two. -/
def mn (a b : Nat) : Nat := if keyB b < keyB a then b else a
def mx (a b : Nat) : Nat := if keyB a < keyB b then b else a
theorem ends_is {a b : L} (ha : Nn a) (hb : Nn b) (h1 : a.lo < 18446744073709551616) : endsF a b = if a.n = 0 then (b.lo, b.hi) else if b.n = 0 then (a.lo, a.hi) else (mn a.lo b.lo, mx a.hi b.hi) := by
  unfold endsF
  rw [min_num h1 ha.1, max_num ha.2 hb.2]
  have e1 : (if cmpB b.lo a.lo < 0 then b.lo else a.lo) = mn a.lo b.lo := by
    unfold mn
    by_cases h : keyB b.lo < keyB a.lo
    · rw [if_pos h, if_pos ((cmpB_neg _ _).2 h)]
    · rw [if_neg h, if_neg (fun c => h ((cmpB_neg _ _).1 c))]
  have e2 : (if 0 < cmpB b.hi a.hi then b.hi else a.hi) = mx a.hi b.hi := by
    unfold mx
    by_cases h : keyB a.hi < keyB b.hi
    · rw [if_pos h, if_pos ((cmpB_pos _ _).2 h)]
    · rw [if_neg h, if_neg (fun c => h ((cmpB_pos _ _).1 c))]
  rw [e1, e2]
/-- Put, but for the mean. -/
theorem put_num {g : G} (h : Inv g) {x : Nat} (hx : x < 18446744073709551616) (hn : nanB x = false) : (putF g x).bs = g.bs ∧ (putF g x).cs = g.cs.set (ixB g.bs x) (g.cs.getD (ixB g.bs x) 0 + 1) ∧ (putF g x).l.n = g.l.n + 1 ∧ (putF g x).l.na = g.l.na ∧ (putF g x).l.lo = (if g.l.n = 0 then x else mn g.l.lo x) ∧ (putF g x).l.hi = (if g.l.n = 0 then x else mx g.l.hi x) := by
  obtain ⟨⟨M, ok⟩, nz⟩ := h
  have he := ends_is (a := g.l) (b := ⟨1, 0, x, x, 0⟩) nz.1 ⟨hn, hn⟩ ok.lo
  unfold putF
  rw [hn]
  simp only [Bool.false_eq_true, if_false]
  refine ⟨trivial, trivial, rfl, rfl, ?_, ?_⟩
  · show (endsF g.l ⟨1, 0, x, x, 0⟩).1 = _
    rw [he]
    simp only
    split
    · rfl
    · rw [if_neg (by omega)]
  · show (endsF g.l ⟨1, 0, x, x, 0⟩).2 = _
    rw [he]
    simp only
    split
    · rfl
    · rw [if_neg (by omega)]
theorem put_nan {g : G} {x : Nat} (hn : nanB x = true) : putF g x = ⟨g.bs, g.cs, ⟨g.l.n, g.l.na + 1, g.l.lo, g.l.hi, g.l.me⟩⟩ := by unfold putF; rw [if_pos hn]
theorem fold_inv {g : G} (h : Inv g) {xs : List Nat} (hb : Bs xs) : Inv (xs.foldl putF g) := by
  induction xs generalizing g with
  | nil => exact h
  | cons x r ih => exact ih (h.put (hb x (by simp))) (fun y hy => hb y (by simp [hy]))
end Go.Proofs.Ytjkdhckhokkefaa.Gg

/-
  Cells sum to the count; quantiles rise.
-/
namespace Go.Proofs.Ytjkdhckhokkefaa.Gg
open Go.RowKit Rl
set_option linter.unusedVariables false
set_option maxRecDepth 100000
theorem sum_set1 (l : List Int) (i : Nat) (hi : i < l.length) : (l.set i (l.getD i 0 + 1)).sum = l.sum + 1 := by
  induction l generalizing i with
  | nil => simp at hi
  | cons a r ih =>
    cases i with
    | zero => simp; omega
    | succ i =>
      have := ih i (by simpa using hi)
      simp only [List.set_cons_succ, List.sum_cons, List.getD_cons_succ]
      rw [this]
      omega
/-- What is so of every gauge that was told numbers. -/
structure Tl (g : G) : Prop where
  inv : Inv g
  sum : g.cs.sum = g.l.n
  top : 0 < g.cs.getD g.bs.length 0 → g.l.n ≠ 0 ∧ ∀ b ∈ g.bs, keyB b < keyB g.l.hi
theorem mx_ge (a b : Nat) : keyB a ≤ keyB (mx a b) ∧ keyB b ≤ keyB (mx a b) := by
  unfold mx
  split <;> omega
theorem ix_all {l : List Nat} {x : Nat} (h : ixB l x = l.length) : ∀ b ∈ l, keyB b < keyB x := by
  intro b hb
  obtain ⟨i, hi, rfl⟩ := List.getElem_of_mem hb
  have := ix_low l x i (by omega)
  simpa [hi] using this
theorem Tl.put {g : G} (h : Tl g) {x : Nat} (hx : x < 18446744073709551616) : Tl (putF g x) := by
  cases hn : nanB x
  · obtain ⟨a1, a2, a3, a4, a5, a6⟩ := put_num h.inv hx hn
    have hcl := h.inv.1.choose_spec.cl
    have hnn := h.inv.1.choose_spec.n.1
    have hix := ix_le g.bs x
    have hil : ixB g.bs x < g.cs.length := by rw [hcl]; omega
    refine ⟨h.inv.put hx, by rw [a2, a3, sum_set1 _ _ hil, h.sum], ?_⟩
    rw [a1, a2, a3, a6]
    intro ht
    refine ⟨by omega, fun b hb => ?_⟩
    by_cases e : ixB g.bs x = g.bs.length
    · have h1 := ix_all e b hb
      split
      · exact h1
      · have := (mx_ge g.l.hi x).2; omega
    · have h2 : (g.cs.set (ixB g.bs x) (g.cs.getD (ixB g.bs x) 0 + 1)).getD g.bs.length 0 = g.cs.getD g.bs.length 0 := by simp [List.getElem?_set_ne e]
      rw [h2] at ht
      obtain ⟨h3, h4⟩ := h.top ht
      rw [if_neg h3]
      have := (mx_ge g.l.hi x).1
      have := h4 b hb
      omega
  · have hp := h.inv.put hx
    rw [put_nan hn] at hp ⊢
    exact ⟨hp, h.sum, h.top⟩
theorem sum_zeros (n : Nat) : (List.replicate n (0 : Int)).sum = 0 := by
  induction n with
  | zero => rfl
  | succ n ih => rw [List.replicate_succ, List.sum_cons, ih]; rfl
theorem Tl.new {l : List Nat} (hl : l.length ≤ 64) (hb : Bs l) (hr : Rises l) : Tl (g0 l) := by
  refine ⟨⟨⟨0, Ok.new hl hb hr⟩, nz0 l⟩, sum_zeros _, fun h => ?_⟩
  simp [g0] at h
end Go.Proofs.Ytjkdhckhokkefaa.Gg

/-
  Parts of small whole numbers: the quotient, rounded, times the number again; counts by cells.
-/
namespace Go.Proofs.Ytjkdhckhokkefaa.Gg
open Go.RowKit Rl
set_option linter.unusedVariables false
set_option maxRecDepth 100000
theorem pow_split (a b c : Nat) (h : a + b = c) : 2 ^ c = 2 ^ a * 2 ^ b := by rw [← h, Nat.pow_add]
theorem pow_le (a b : Nat) (h : a ≤ b) : 2 ^ a ≤ 2 ^ b := Nat.pow_le_pow_right (by omega) h
theorem two20 : (2 : Nat) ^ 20 = 1048576 := by decide
theorem u20 : 2 ^ 1074 = 1048576 * 2 ^ 1054 := by rw [pow_split 20 1054 1074 (by omega), two20]
theorem word_f (r : Nat) : Ieee.double.word false r = r := by rw [word_eq, if_neg (by decide)]
theorem read_norm {b : Nat} (h1 : 4503599627370496 ≤ b) (h2 : b < 9218868437227405312) : ∃ m k : Nat, Ieee.double.read b = .number false m (-1074 + (k : Int)) ∧ m * 2 ^ k = magB b ∧ 4503599627370496 ≤ m ∧ m < 9007199254740992 := by
  unfold Ieee.Format.read magB
  rw [fmt_sign, fmt_bin, fmt_inf, fmt_least]
  simp only
  rw [Nat.mod_eq_of_lt (show b < 9223372036854775808 by omega), if_neg (show ¬ b < 4503599627370496 by omega), if_neg (show ¬ b < 4503599627370496 by omega), if_pos h2]
  have hs : (b / 9223372036854775808 % 2 == 1) = false := by rw [Nat.div_eq_of_lt (by omega)]; rfl
  rw [hs]
  refine ⟨_, _, rfl, ?_, ?_, ?_⟩
  · rw [Nat.add_comm]
  · omega
  · have := Nat.mod_lt b (show 0 < 4503599627370496 by omega); omega
theorem log_norm {m : Nat} (h1 : 4503599627370496 ≤ m) (h2 : m < 9007199254740992) : m.log2 = 52 := by
  rw [Nat.log2_eq_iff (by omega)]
  exact ⟨by omega, by omega⟩
/-- The place of a small whole number. -/
theorem place {m k n : Nat} (h : m * 2 ^ k = n * 2 ^ 1074) (h1 : 4503599627370496 ≤ m) (h2 : m < 9007199254740992) (hn1 : 1 ≤ n) (hn2 : n ≤ 500) : 1022 ≤ k ∧ k ≤ 1030 := by
  refine ⟨?_, ?_⟩
  · rcases Nat.lt_or_ge k 1022 with c | c
    · exfalso
      have e : 2 ^ 1074 = 2 ^ (1074 - k) * 2 ^ k := by rw [← Nat.pow_add]; congr 1; omega
      have e2 : 2 ^ 53 ≤ 2 ^ (1074 - k) := Nat.pow_le_pow_right (by omega) (by omega)
      rw [e, ← Nat.mul_assoc] at h
      have h3 := Nat.eq_of_mul_eq_mul_right (Nat.two_pow_pos k) h
      have h4 : 2 ^ 53 ≤ n * 2 ^ (1074 - k) := Nat.le_trans e2 (Nat.le_mul_of_pos_left _ (by omega))
      have h5 : (2 : Nat) ^ 53 = 9007199254740992 := by decide
      rw [← h3] at h4
      omega
    · exact c
  · rcases Nat.lt_or_ge 1030 k with c | c
    · exfalso
      have e1 := pow_le 1031 k (by omega)
      have e4 := pow_split 43 1031 1074 (by omega)
      have e0 := Nat.two_pow_pos 1031
      rw [e4] at h
      clear e4
      generalize 2 ^ 1031 = Z at *
      generalize 2 ^ k = Y at *
      have e6 : (2 : Nat) ^ 43 = 8796093022208 := by decide
      rw [e6] at h
      have e2 := Nat.mul_le_mul h1 e1
      rw [h, ← Nat.mul_assoc] at e2
      have e5 := Nat.le_of_mul_le_mul_right e2 e0
      omega
    · exact c
theorem nf_pos {n : Nat} (h1 : 1 ≤ n) (h2 : n ≤ 500) : 4503599627370496 ≤ FloatKind.f64.nearest (n : Int) ∧ FloatKind.f64.nearest (n : Int) < 9218868437227405312 := by
  refine ⟨?_, nf_inf (by omega)⟩
  rcases Nat.lt_or_ge (FloatKind.f64.nearest (n : Int)) 4503599627370496 with c | c
  · exfalso
    have h := nf_mag (n := n) (by omega)
    have h3 := mag_mono c
    rw [h] at h3
    have h4 : magB 4503599627370496 ≤ 2 ^ 1074 := by decide +kernel
    have h5 : 2 ^ 1074 ≤ n * 2 ^ 1074 := Nat.le_mul_of_pos_left _ (by omega)
    omega
  · exact c
theorem sticky (D m E : Nat) (hm : 0 < m) (h : D ≤ E * m) : 2 * (D / m) + (D % m != 0).toNat ≤ 2 * E := by
  have d := Nat.div_add_mod D m
  have l : D / m ≤ E := Nat.div_le_of_le_mul (by rw [Nat.mul_comm]; exact h)
  by_cases h0 : D % m = 0
  · have : (D % m != 0) = false := by simp [h0]
    rw [this]
    show 2 * (D / m) + 0 ≤ _
    omega
  · have : (D % m != 0) = true := by simp [h0]
    rw [this]
    show 2 * (D / m) + 1 ≤ _
    have : D / m < E := by
      rw [Nat.div_lt_iff_lt_mul hm]
      rcases Nat.lt_or_eq_of_le h with q | q
      · exact q
      · rw [q, Nat.mul_mod_left] at h0; exact absurd rfl h0
    omega
/-- A part of small whole numbers, as a float. -/
theorem div_q {k n f c : Nat} (hk : 1 ≤ k) (hkn : k ≤ n) (hn : n ≤ 500) (hf : f * n ≤ k * 1048576) (hc : k * 1048576 ≤ c * n) (hc2 : c ≤ 1048576) : ∃ Q, Ieee.double.div (FloatKind.f64.nearest (k : Int)) (FloatKind.f64.nearest (n : Int)) = some Q ∧ Q ≤ 4607182418800017408 ∧ f * 2 ^ 1054 ≤ magB Q ∧ magB Q ≤ c * 2 ^ 1054 := by
  obtain ⟨a1, a2⟩ := nf_pos hk (by omega)
  obtain ⟨b1, b2⟩ := nf_pos (n := n) (by omega) hn
  obtain ⟨mk, kk, ek, vk, mk1, mk2⟩ := read_norm a1 a2
  obtain ⟨mn, kn, en, vn, mn1, mn2⟩ := read_norm b1 b2
  rw [nf_mag (by omega)] at vk vn
  obtain ⟨pk1, pk2⟩ := place vk mk1 mk2 hk (by omega)
  obtain ⟨pn1, pn2⟩ := place vn mn1 mn2 (by omega) hn
  have hff : f ≤ 1048576 := by
    have : f * n ≤ 1048576 * n := Nat.le_trans hf (by rw [Nat.mul_comm 1048576]; exact Nat.mul_le_mul_right _ hkn)
    exact Nat.le_of_mul_le_mul_right this (by omega)
  obtain ⟨r, hr⟩ : ∃ r, r = kn + 34 - kk := ⟨_, rfl⟩
  obtain ⟨p, hp⟩ : ∃ p, p = kk + 1019 - kn := ⟨_, rfl⟩
  have hM : Ieee.double.div (FloatKind.f64.nearest (k : Int)) (FloatKind.f64.nearest (n : Int)) = some (roundB ((2 * (mk * 2 ^ 54 / mn) + (mk * 2 ^ 54 % mn != 0).toNat) * 2 ^ p)) := by
    unfold Ieee.Format.div
    rw [ek, en]
    unfold Ieee.Datum.quotient
    simp only
    rw [if_neg (show ¬ mn = 0 by omega), log_norm mk1 mk2, log_norm mn1 mn2, Nat.shiftLeft_eq]
    show some (Ieee.double.nearest (false ^^ false) (2 * (mk * 2 ^ 54 / mn) + (mk * 2 ^ 54 % mn != 0).toNat) _) = _
    generalize 2 * (mk * 2 ^ 54 / mn) + (mk * 2 ^ 54 % mn != 0).toNat = M9
    have e : (-1074 + (kk : Int) - (-1074 + (kn : Int)) - ((52 + 2 + 52 - 52 : Nat) : Int) - 1) = -1074 + (p : Int) := by omega
    have e' : (-1074 + (kk : Int) - (-1074 + (kn : Int)) - ((Ieee.double.fractionBits + 2 + 52 - 52 : Nat) : Int) - 1) = -1074 + (p : Int) := e
    rw [e', nearest_eq, Bool.xor_false, word_f]
  have key : ∀ x : Nat, x * 2 ^ r * mn * 2 ^ kk = x * n * (2 ^ 34 * 2 ^ 1074) := fun x => by
    have e1 : 2 ^ r * 2 ^ kk = 2 ^ 34 * 2 ^ kn := by rw [← Nat.pow_add, ← Nat.pow_add]; congr 1; omega
    calc x * 2 ^ r * mn * 2 ^ kk = x * mn * (2 ^ r * 2 ^ kk) := by ac_rfl
      _ = x * mn * (2 ^ 34 * 2 ^ kn) := by rw [e1]
      _ = x * 2 ^ 34 * (mn * 2 ^ kn) := by ac_rfl
      _ = x * 2 ^ 34 * (n * 2 ^ 1074) := by rw [vn]
      _ = x * n * (2 ^ 34 * 2 ^ 1074) := by ac_rfl
  have keyD : mk * 2 ^ 54 * 2 ^ kk = k * 1048576 * (2 ^ 34 * 2 ^ 1074) := by
    have e2 : (2 : Nat) ^ 54 = 1048576 * 2 ^ 34 := by decide
    calc mk * 2 ^ 54 * 2 ^ kk = mk * 2 ^ kk * 2 ^ 54 := by ac_rfl
      _ = k * 2 ^ 1074 * (1048576 * 2 ^ 34) := by rw [vk, e2]
      _ = k * 1048576 * (2 ^ 34 * 2 ^ 1074) := by ac_rfl
  have lowD : f * 2 ^ r * mn ≤ mk * 2 ^ 54 := by
    refine Nat.le_of_mul_le_mul_right (c := 2 ^ kk) ?_ (Nat.two_pow_pos kk)
    rw [key, keyD]
    exact Nat.mul_le_mul_right _ hf
  have highD : mk * 2 ^ 54 ≤ c * 2 ^ r * mn := by
    refine Nat.le_of_mul_le_mul_right (c := 2 ^ kk) ?_ (Nat.two_pow_pos kk)
    rw [key, keyD]
    exact Nat.mul_le_mul_right _ hc
  have hrp : 2 ^ 1054 = 2 * 2 ^ r * 2 ^ p := by
    rw [Nat.mul_assoc, ← Nat.pow_add, ← Nat.pow_succ']
    congr 1
    omega
  have low : f * 2 ^ 1054 ≤ (2 * (mk * 2 ^ 54 / mn) + (mk * 2 ^ 54 % mn != 0).toNat) * 2 ^ p := by
    have h1 : f * 2 ^ r ≤ mk * 2 ^ 54 / mn := (Nat.le_div_iff_mul_le (by omega)).2 lowD
    rw [hrp]
    calc f * (2 * 2 ^ r * 2 ^ p) = 2 * (f * 2 ^ r) * 2 ^ p := by ac_rfl
      _ ≤ _ := Nat.mul_le_mul_right _ (by omega)
  have high : (2 * (mk * 2 ^ 54 / mn) + (mk * 2 ^ 54 % mn != 0).toNat) * 2 ^ p ≤ c * 2 ^ 1054 := by
    have h1 := sticky (mk * 2 ^ 54) mn (c * 2 ^ r) (by omega) highD
    rw [hrp]
    calc _ ≤ 2 * (c * 2 ^ r) * 2 ^ p := Nat.mul_le_mul_right _ h1
      _ = c * (2 * 2 ^ r * 2 ^ p) := by ac_rfl
  have m1 := mag_le (round_mono low)
  have m2 := mag_le (round_mono high)
  rw [round_exact f 1054 (by omega) (by omega)] at m1
  rw [round_exact c 1054 (by omega) (by omega)] at m2
  refine ⟨_, hM, ?_, m1, m2⟩
  rcases Nat.lt_or_ge 4607182418800017408 (roundB ((2 * (mk * 2 ^ 54 / mn) + (mk * 2 ^ 54 % mn != 0).toNat) * 2 ^ p)) with q | q
  · exfalso
    have h3 := mag_mono q
    rw [mag_one] at h3
    have h4 := Nat.mul_le_mul_right (2 ^ 1054) hc2
    have e5 := u20
    rw [e5] at h3
    omega
  · exact q
theorem up_gt {X k : Nat} (h : k * 2 ^ 1074 < X) : k + 1 ≤ upU X := by
  unfold upU
  have hU := Nat.two_pow_pos 1074
  generalize 2 ^ 1074 = U at *
  have d := Nat.div_add_mod X U
  have l : k ≤ X / U := (Nat.le_div_iff_mul_le hU).2 (by omega)
  rcases Nat.lt_or_eq_of_le l with q | q
  · omega
  · have : (X % U != 0) = true := by
      simp
      rw [← q, Nat.mul_comm] at d
      omega
    rw [this, ← q]
    exact Nat.le_refl _
/-- The rank of a part of small whole numbers. -/
theorem rank_q {k n : Nat} (hk : 1 ≤ k) (hkn : k ≤ n) (hn : n ≤ 500) : ∃ Q, Ieee.double.div (FloatKind.f64.nearest (k : Int)) (FloatKind.f64.nearest (n : Int)) = some Q ∧ qB Q = true ∧ Q < 18446744073709551616 ∧ k ≤ rkF Q n ∧ rkF Q n ≤ k + 1 := by
  have hn0 : 0 < n := by omega
  have d1 := Nat.div_add_mod (k * 1048576) n
  have d2 := Nat.mod_lt (k * 1048576) hn0
  have e1 := Nat.div_add_mod (k * 1048576 + (n - 1)) n
  have e2 := Nat.mod_lt (k * 1048576 + (n - 1)) hn0
  obtain ⟨f, hf⟩ : ∃ f, k * 1048576 / n = f := ⟨_, rfl⟩
  obtain ⟨c, hc⟩ : ∃ c, (k * 1048576 + (n - 1)) / n = c := ⟨_, rfl⟩
  rw [hf] at d1
  rw [hc] at e1
  rw [Nat.mul_comm] at d1 e1
  have hc2 : c ≤ 1048576 := by
    rw [← hc]
    have : k * 1048576 + (n - 1) < (1048576 + 1) * n := by
      have := Nat.mul_le_mul_right 1048576 hkn
      omega
    have := (Nat.div_lt_iff_lt_mul hn0).2 this
    omega
  obtain ⟨Q, h1, h2, h3, h4⟩ := div_q (f := f) (c := c) hk hkn hn (by omega) (by omega) hc2
  have hQ : qB Q = true := by unfold qB; simp; omega
  refine ⟨Q, h1, hQ, by omega, ?_⟩
  have hm : Q % 9223372036854775808 = Q := Nat.mod_eq_of_lt (by omega)
  have v1 := Nat.mul_le_mul_right n h3
  have v2 := Nat.mul_le_mul_right n h4
  rw [show f * 2 ^ 1054 * n = f * n * 2 ^ 1054 by ac_rfl] at v1
  rw [show c * 2 ^ 1054 * n = c * n * 2 ^ 1054 by ac_rfl] at v2
  have p1 := mag_le (round_mono v1)
  have p2 := mag_le (round_mono v2)
  have hfn : f * n ≤ k * 1048576 := by omega
  have hk5 : k * 1048576 ≤ 524288000 := by omega
  rw [round_exact (f * n) 1054 (by omega) (by omega)] at p1
  rw [round_exact (c * n) 1054 (by omega) (by omega)] at p2
  have hR : rkF Q n = max (upU (magB (roundB (magB Q * n)))) 1 := by unfold rkF prB; rw [hm]
  generalize magB (roundB (magB Q * n)) = X at *
  have hU := u20
  have hY := Nat.two_pow_pos 1054
  clear v1 v2 h3 h4
  generalize 2 ^ 1054 = Y at *
  have g1 : (k - 1) + 1 ≤ upU X := by
    refine up_gt ?_
    rw [hU, ← Nat.mul_assoc]
    refine Nat.lt_of_lt_of_le ?_ p1
    refine Nat.mul_lt_mul_of_pos_right ?_ hY
    omega
  have g2 : upU X ≤ k + 1 := by
    refine up_le (Nat.le_trans p2 ?_)
    rw [hU, ← Nat.mul_assoc]
    refine Nat.mul_le_mul_right Y ?_
    omega
  rw [hR]
  omega
theorem rank_zero {n : Nat} (h : 1 ≤ n) (hn : n ≤ 500) : Ieee.double.div (FloatKind.f64.nearest ((0 : Nat) : Int)) (FloatKind.f64.nearest (n : Int)) = some 0 ∧ rkF 0 n = 1 := by
  obtain ⟨b1, b2⟩ := nf_pos h hn
  obtain ⟨mn, kn, en, vn, mn1, mn2⟩ := read_norm b1 b2
  have e0 : FloatKind.f64.nearest ((0 : Nat) : Int) = 0 := by decide +kernel
  have er : Ieee.double.read 0 = .number false 0 (-1074) := by decide +kernel
  refine ⟨?_, ?_⟩
  · rw [e0]
    unfold Ieee.Format.div
    rw [en, er]
    unfold Ieee.Datum.quotient
    simp only
    rw [if_neg (show ¬ mn = 0 by omega), Nat.zero_shiftLeft, Nat.zero_div, Nat.zero_mod]
    show some (Ieee.double.nearest false 0 _) = _
    unfold Ieee.Format.nearest
    rw [if_pos rfl]
    rfl
  · unfold rkF prB
    rw [Nat.zero_mod, mag_zero, Nat.zero_mul, round_zero, mag_zero, up_zero]
    rfl
end Go.Proofs.Ytjkdhckhokkefaa.Gg

/-
  Small whole numbers, a bound at each: counts by cells, ranks.
-/
namespace Go.Proofs.Ytjkdhckhokkefaa.Gg
open Go.RowKit Rl
set_option linter.unusedVariables false
set_option maxRecDepth 100000
/-- A bound at each of 0 to 63. -/
def bo64 : List Nat := (List.range 64).map fun (i : Nat) => nfB (i : Int)
theorem bo_len : bo64.length = 64 := by simp [bo64]
theorem bo_get {i : Nat} (h : i < 64) : bo64.getD i 0 = nfB (i : Int) := by simp [bo64, h]
theorem bo_bs : Bs bo64 := by
  intro b hb
  simp only [bo64, List.mem_map] at hb
  obtain ⟨i, _, rfl⟩ := hb
  exact nf_lt _
theorem nf_less {d i : Nat} (h : d < i) (hi : i < 9007199254740992) : FloatKind.f64.nearest (d : Int) < FloatKind.f64.nearest (i : Int) := by
  rcases Nat.lt_or_ge (FloatKind.f64.nearest (d : Int)) (FloatKind.f64.nearest (i : Int)) with c | c
  · exact c
  · exfalso
    have h1 := mag_le c
    rw [nf_mag hi, nf_mag (by omega)] at h1
    have := Nat.le_of_mul_le_mul_right h1 (Nat.two_pow_pos 1074)
    omega
theorem nf_order {d i : Nat} (hd : d < 9007199254740992) (hi : i < 9007199254740992) : FloatKind.f64.format.order (FloatKind.f64.nearest (d : Int)) (FloatKind.f64.nearest (i : Int)) = some (compare d i) := by
  have a := nf_inf hd
  have b := nf_inf hi
  rw [ord_pos (by omega) (by omega)]
  rcases Nat.lt_trichotomy d i with h | h | h
  · rw [Nat.compare_eq_lt.2 (nf_less h hi), Nat.compare_eq_lt.2 h]
  · subst h; simp
  · rw [Nat.compare_eq_gt.2 (nf_less h hd), Nat.compare_eq_gt.2 h]
theorem nf_key {d : Nat} (hd : d < 9007199254740992) : keyB (nfB (d : Int)) = nfB (d : Int) + 9223372036854775808 ∧ nanB (nfB (d : Int)) = false := by
  have a : nfB (d : Int) < 9218868437227405312 := nf_inf hd
  have hn : nanB (nfB (d : Int)) = false := nn (by omega)
  refine ⟨?_, hn⟩
  unfold keyB
  rw [hn]
  simp only [Bool.false_eq_true, if_false]
  rw [if_pos (by omega)]
theorem bo_rises : Rises bo64 := by
  intro i hi
  rw [bo_len] at hi
  unfold okAt
  rw [bo_get hi, (nf_key (by omega)).2]
  simp only [Bool.not_false, Bool.true_and, Bool.or_eq_true, decide_eq_true_eq]
  by_cases h0 : i = 0
  · exact .inl h0
  · right
    rw [bo_get (by omega), cmpB_neg, (nf_key (by omega)).1, (nf_key (by omega)).1]
    have := nf_less (d := i - 1) (i := i) (by omega) (by omega)
    unfold nfB
    omega
/-- Where a number comes to. -/
theorem ix_unique {l : List Nat} (hr : Rises l) {x k : Nat} (h1 : k ≤ l.length) (h2 : ∀ j, j < k → keyB (l.getD j 0) < keyB x) (h3 : k < l.length → ¬ keyB (l.getD k 0) < keyB x) : ixB l x = k := by
  rcases Nat.lt_trichotomy (ixB l x) k with c | c | c
  · exact absurd (h2 _ c) (ix_at l x (by omega))
  · exact c
  · have := ix_le l x
    exact absurd (ix_low l x k c) (h3 (by omega))
theorem ix64 {d : Nat} (hd : d < 64) : ixB bo64 (nfB (d : Int)) = d := by
  refine ix_unique bo_rises (by rw [bo_len]; omega) (fun j hj => ?_) (fun _ => ?_)
  · rw [bo_get (by omega), (nf_key (by omega)).1, (nf_key (by omega)).1]
    have := nf_less hj (show d < 9007199254740992 by omega)
    unfold nfB
    omega
  · rw [bo_get hd]
    omega
def gR (g : G) (ds : List Nat) : G := (ds.map fun (d : Nat) => nfB (d : Int)).foldl putF g
theorem gR_cell {ds : List Nat} (hd : ∀ d ∈ ds, d < 64) : ∀ {g : G}, Inv g → g.bs = bo64 → (∀ i, (gR g ds).cs.getD i 0 = g.cs.getD i 0 + (ds.count i : Int)) ∧ (gR g ds).l.n = g.l.n + (ds.length : Int) ∧ (gR g ds).bs = bo64 := by
  induction ds with
  | nil => intro g _ hb; exact ⟨fun i => by simp [gR], by simp [gR], hb⟩
  | cons d r ih =>
    intro g hg hb
    have hd' := hd d (by simp)
    obtain ⟨_, hn⟩ := nf_key (d := d) (by omega)
    obtain ⟨a1, a2, a3, a4, a5, a6⟩ := put_num hg (nf_lt (d : Int)) hn
    obtain ⟨i1, i2, i3⟩ := ih (fun x hx => hd x (by simp [hx])) (hg.put (nf_lt (d : Int))) (a1.trans hb)
    have e : gR g (d :: r) = gR (putF g (nfB (d : Int))) r := rfl
    have hcl := hg.1.choose_spec.cl
    rw [hb, bo_len] at hcl
    rw [e]
    refine ⟨fun i => ?_, ?_, i3⟩
    · rw [i1, a2, hb, ix64 hd', List.count_cons]
      by_cases c : d = i
      · subst c
        simp [hcl, show d < 65 by omega]
        omega
      · have : (g.cs.set d (g.cs.getD d 0 + 1)).getD i 0 = g.cs.getD i 0 := by simp [List.getElem?_set_ne c]
        rw [this]
        simp [c]
    · rw [i2, a3]
      simp
      omega
/-- How many stand below. -/
def bel (ds : List Nat) (i : Nat) : Nat := ds.countP fun d => decide (d < i)
theorem bel_succ (ds : List Nat) (i : Nat) : bel ds (i + 1) = bel ds i + ds.count i := by
  induction ds with
  | nil => rfl
  | cons d r ih =>
    unfold bel at ih ⊢
    rw [List.countP_cons, List.countP_cons, List.count_cons, ih]
    rcases Nat.lt_trichotomy d i with c | c | c
    · simp [show d < i + 1 by omega, c, show ¬ d = i by omega]; omega
    · subst c; simp; omega
    · simp [show ¬ d < i + 1 by omega, show ¬ d < i by omega, show ¬ d = i by omega]
theorem sum_bel {cs : List Int} {ds : List Nat} (hl : cs.length = 65) (h : ∀ i, cs.getD i 0 = (ds.count i : Int)) : ∀ i, i ≤ 65 → (cs.take i).sum = (bel ds i : Int) := by
  intro i
  induction i with
  | zero => intro _; simp [bel]
  | succ i ih =>
    intro hi
    rw [List.take_succ_eq_append_getElem (by omega), List.sum_append, ih (by omega), bel_succ]
    have := h i
    simp [show i < cs.length by omega] at this
    simp [this]
theorem pick_spec {bs : List Nat} : ∀ {cs : List Int} {acc r : Int} {hi : Nat}, cs.length = bs.length + 1 → acc < r → r ≤ acc + (cs.take bs.length).sum → ∃ i, i < bs.length ∧ pick bs cs acc r hi = bs.getD i 0 ∧ acc + (cs.take i).sum < r ∧ r ≤ acc + (cs.take (i + 1)).sum := by
  induction bs with
  | nil => intro cs acc r hi _ h1 h2; simp at h2; omega
  | cons b bs ih =>
    intro cs acc r hi hl h1 h2
    cases cs with
    | nil => simp at hl
    | cons c cs =>
      unfold pick
      by_cases e : r ≤ acc + c
      · rw [if_pos e]
        exact ⟨0, by simp, rfl, by simpa using h1, by simpa using e⟩
      · rw [if_neg e]
        obtain ⟨i, a1, a2, a3, a4⟩ := ih (hi := hi) (by simpa using hl) (show acc + c < r by omega) (by simp at h2; omega)
        exact ⟨i + 1, by simp; omega, by rw [a2]; simp, by simp; omega, by simp at a4 ⊢; omega⟩
/-- The bound that a rank comes to. -/
theorem ranks {ds : List Nat} (hd : ∀ d ∈ ds, d < 64) {r hi : Nat} (h1 : 1 ≤ r) (h2 : r ≤ ds.length) : ∃ i : Nat, i < 64 ∧ pick bo64 (gR (g0 bo64) ds).cs 0 (r : Int) hi = nfB (i : Int) ∧ bel ds i < r ∧ r ≤ bel ds (i + 1) := by
  have hI : Inv (g0 bo64) := ⟨⟨0, Ok.new (by rw [bo_len]; omega) bo_bs bo_rises⟩, nz0 _⟩
  obtain ⟨c1, c2, c3⟩ := gR_cell hd hI rfl
  have hI2 : Inv (gR (g0 bo64) ds) := fold_inv hI (fun b hb => by
    simp only [List.mem_map] at hb
    obtain ⟨d, _, rfl⟩ := hb
    exact nf_lt _)
  have hcl := hI2.1.choose_spec.cl
  rw [c3, bo_len] at hcl
  have hz : ∀ i, (gR (g0 bo64) ds).cs.getD i 0 = (ds.count i : Int) := fun i => by
    rw [c1 i]
    have : (g0 bo64).cs.getD i 0 = 0 := by simp [g0, List.getElem?_replicate]; split <;> rfl
    rw [this]
    omega
  have hs := sum_bel hcl hz
  have hall : bel ds 64 = ds.length := by
    unfold bel
    rw [List.countP_eq_length]
    intro d hd'
    simp [hd d hd']
  obtain ⟨i, a1, a2, a3, a4⟩ := pick_spec (bs := bo64) (cs := (gR (g0 bo64) ds).cs) (acc := 0) (r := (r : Int)) (hi := hi) (by rw [bo_len]; exact hcl) (by omega) (by rw [bo_len, hs 64 (by omega), hall]; omega)
  rw [bo_len] at a1
  rw [hs i (by omega)] at a3
  rw [hs (i + 1) (by omega)] at a4
  exact ⟨i, a1, by rw [a2, bo_get a1], by omega, by omega⟩
end Go.Proofs.Ytjkdhckhokkefaa.Gg

/-
  GaugeRanks: its walk.
-/
namespace Go.Proofs.Ytjkdhckhokkefaa.Gg
open Go.RowKit Rl
set_option linter.unusedVariables false
set_option maxRecDepth 100000
theorem conv_int (n : Int) (w : World) : (convert 3 26 (.int .i64 n)).run Try.prog w = .ok (.float .f64 (nfB n)) w := by
  simp [convert, Conv.intToFloat, nfB]
theorem conv_u8 (n : Int) (w : World) : (convert 5 26 (.int .u8 n)).run Try.prog w = .ok (.float .f64 (nfB n)) w := by
  simp [convert, Conv.intToFloat, nfB]
theorem div_some_run {x y r : Nat} (h : Ieee.double.div x y = some r) (w : World) : (binOp .quo 26 (.float .f64 x) (.float .f64 y)).run Try.prog w = .ok (.float .f64 r) w := by
  have h2 : FloatKind.f64.format.div x y = some r := h
  simp [binOp, Op.floatArith, h2]
theorem gR_snoc (g : G) (ds : List Nat) {i : Nat} (h : i < ds.length) : gR g (ds.take (i + 1)) = putF (gR g (ds.take i)) (nfB ((ds.getD i 0 : Nat) : Int)) := by
  unfold gR
  rw [List.take_succ_eq_append_getElem h, List.map_append, List.foldl_append]
  simp [h]
theorem gR_ok {ds : List Nat} : Ok (ds.length : Int) (gR (g0 bo64) ds) := by
  have h0 : Ok 0 (g0 bo64) := Ok.new (by rw [bo_len]; omega) bo_bs bo_rises
  have hb : Bs (ds.map fun (d : Nat) => nfB (d : Int)) := fun b hb => by
    simp only [List.mem_map] at hb
    obtain ⟨d, _, rfl⟩ := hb
    exact nf_lt _
  have := pG_ok h0 hb (ds.map fun (d : Nat) => nfB (d : Int)).length (Nat.le_refl _)
  unfold pG at this
  rw [List.take_length] at this
  exact this.mono (by simp)
theorem bel_snoc (ds : List Nat) {j : Nat} (h : j < ds.length) (i : Nat) : bel (ds.take (j + 1)) i = bel (ds.take j) i + (if ds.getD j 0 < i then 1 else 0) := by
  unfold bel
  rw [List.take_succ_eq_append_getElem h, List.countP_append]
  simp [h]
theorem bel_le (ds : List Nat) (i : Nat) : bel ds i ≤ ds.length := List.countP_le_length
theorem u16_bounds {n : Int} (h : (Lit.int .u16 n).wf = true) : 0 ≤ n ∧ n ≤ 65535 := by
  simpa [Lit.wf, IntKind.min, IntKind.max, IntKind.signed, IntKind.bits] using h
set_option maxHeartbeats 4000000 in
theorem ranks_walk (W : World) (v : Value) (l : List UInt8) (pt : Nat) (hs : Sl W v l) (hp : pt ≤ 65535) :
    Calls Try.prog 7 #[v, .int .u16 (pt : Int)] W fun e w' => e = .returned (.bool true) ∧ Below W.heap.size W w' := by
  obtain ⟨ao, ca, rfl, _, h2, h3, hrd⟩ := hs
  have HRD := hide hrd
  obtain ⟨n, hn⟩ : ∃ n, Hid (l.length = n) := ⟨_, rfl⟩
  rw [hn.out] at h2 ⊢
  have hn63 : n ≤ 9223372036854775807 := by unfold maxLen at h3; omega
  clear hrd
  go_enter Try.func7, Try.ntmps7
  go_wp2_with fail
  go_at_call 8
  refine (begun_any _).mono ?_
  rintro e w1 ⟨rfl, b1⟩
  have BW := hide b1
  clear b1
  have hci := conv_int
  go_wp2_with fail
  go_loopw [5, 6] (fun v5 v6 wr => ∃ i : Nat, i ≤ 64 ∧ v6 = .int .i64 (i : Int) ∧ Hid (Fw w1.heap.size wr v5 (bo64.take i)) ∧ Hid (Below w1.heap.size w1 wr)) (fun _ v _ => 64 - (intOf v).toNat)
  case atStart => exact ⟨0, by omega, rfl, World.ownsRow_nil _ _ _ _, Below.refl _ _⟩
  case round =>
    obtain ⟨i, hi, rfl, hF, hB⟩ := hrel
    by_cases hin : i = 64
    rotate_left
    · have hil : i < 64 := by omega
      have i1 : (i : Int) < 64 := by omega
      have B4 := box_below wr (.cells #[.float .f64 (nfB (i : Int))] 26)
      have N4 := heap_alloc_new wr (.cells #[.float .f64 (nfB (i : Int))] 26)
      obtain ⟨v', w', hr, f', g'⟩ := run_oneF (nfB (i : Int)) wr.heap.size (owns_below hF.out B4) (by rw [cell_of N4]; rfl) (by simp; omega) (Nat.le_trans hB.out.size B4.size) 24
      have F1 : Hid (Fw w1.heap.size w' v' (bo64.take (i + 1))) := hide (by
        rw [List.take_succ_eq_append_getElem (by rw [bo_len]; exact hil)]
        have e := bo_get hil
        simp [bo_len, hil] at e
        rw [e]
        exact f')
      have F2 : Hid (Below w1.heap.size w1 w') := hide (Below.grown (keepF hB.out B4) g' (Nat.le_trans hB.out.size B4.size) (fun k hk => (World.ownsRow.lt hF.out k hk).1))
      obtain ⟨a1, n1, c1, rfl⟩ := owns_form hF.out
      have hr' := hide hr
      clear hr f' g' B4 N4 hF hB
      go_wp2_with (at_builtin; refine wpList_append_runF rfl (.tmp 22) (.tmp 25) rfl rfl rfl hr'.out ?_)
      go_roundw
      case rel => exact ⟨i + 1, by omega, by go_num, F1.out, F2.out⟩
      case measure => simp [intOf]; omega
    have hin' := hin.symm
    clear hin
    subst hin'
    have FB : Hid (Fw w1.heap.size wr u5 bo64) := hide (by have := hF.out; rwa [List.take_of_length_le (by rw [bo_len]; exact Nat.le_refl _)] at this)
    replace BW := hide (keepF BW.out hB.out)
    clear hF hB
    go_upto_region 8 with fail
    go_wp2_with fail
    go_at_call 10
    refine (new_ok _ _ bo64 (Row.of_owns FB.out) bo_bs (by rw [bo_len]; omega) bo_rises).mono ?_
    rintro e w2 ⟨b, vb, vc, rfl, A, O, B2⟩
    have BW2 := hide (keepF BW.out B2)
    have hlow : Hid (∀ k, Own b vb vc k → W.heap.size ≤ k) := hide fun k hk => Nat.le_trans BW.out.size (O k hk)
    have AT := hide A
    clear A O B2 FB BW
    by_cases hn0 : n = 0
    · subst hn0
      go_wp2_with fail
      go_ret
      exact ⟨rfl, BW2.out⟩
    have hz0 : ((n : Int) == 0) = false := by simp; omega
    by_cases hn5 : 500 < n
    · have k5 : (500 : Int) < (n : Int) := by omega
      go_wp2_with fail
      go_ret
      exact ⟨rfl, BW2.out⟩
    have k5 : ¬ (500 : Int) < (n : Int) := by omega
    obtain ⟨ds, hds⟩ : ∃ ds, Hid (l.map (fun u : UInt8 => u.toNat % 64) = ds) := ⟨_, rfl⟩
    have hdl : Hid (ds.length = n) := hide (by rw [← hds.out, List.length_map, hn.out])
    have hd64 : Hid (∀ d ∈ ds, d < 64) := hide fun d hd => by
      rw [← hds.out] at hd
      obtain ⟨u, _, rfl⟩ := List.mem_map.1 hd
      exact Nat.mod_lt _ (by omega)
    have HRW : Hid (∀ i, i < n → ∃ bb off, ao = some ⟨bb, off, none⟩ ∧ ∃ u : Nat, u < 256 ∧ W.cell? ⟨bb, off + i, none⟩ = some (.int .u8 (u : Int)) ∧ ds.getD i 0 = u % 64) := hide fun i hi => by
      obtain ⟨bb, off, e, hc⟩ := HRD.out i (by rw [hn.out]; exact hi)
      refine ⟨bb, off, e, l[i]'(by rw [hn.out]; exact hi) |>.toNat, UInt8.toNat_lt _, hc, ?_⟩
      rw [← hds.out]
      simp [hn.out, hi]
    have h8 := conv_u8
    clear HRD
    go_wp2_with fail
    go_loopw [9] (fun v9 wr => ∃ i : Nat, i ≤ n ∧ v9 = .int .i64 (i : Int) ∧ Hid (At 64 wr b (gR (g0 bo64) (ds.take i)) vb vc) ∧ Hid (Below W.heap.size W wr)) (fun v _ => n - (intOf v).toNat)
    case atStart => exact ⟨0, by omega, rfl, AT.out, BW2.out⟩
    case round =>
      clear AT BW2
      obtain ⟨i, hi, rfl, hA, hB⟩ := hrel
      by_cases hin : i = n
      rotate_left
      · have hil : i < n := by omega
        have i1 : (i : Int) < (n : Int) := by omega
        have i2 : (0 : Int) ≤ (i : Int) := by omega
        obtain ⟨bb, off, rfl, u, hu, hc0, hdu⟩ := HRW.out i hil
        have hc := (hB.out.cell (lt_of_cell hc0)).trans hc0
        have hmod : (u : Int) % 64 = ((u % 64 : Nat) : Int) := by omega
        have okI : Hid (Ok 500 (gR (g0 bo64) (ds.take i))) := hide (gR_ok.mono (by rw [List.length_take]; omega))
        have hsn := hide (gR_snoc (g0 bo64) ds (i := i) (by rw [hdl.out]; exact hil))
        rw [hdu] at hsn
        obtain ⟨d, hd⟩ : ∃ d, Hid (u % 64 = d) := ⟨_, rfl⟩
        rw [hd.out] at hsn hmod
        have kwr : IntKind.u8.wrap (d : Int) = (d : Int) := by simp [IntKind.wrap, IntKind.bits, IntKind.signed]; have := hd.out; omega
        have htm : Int.tmod (u : Int) 64 = (d : Int) := by rw [← hmod]; exact Int.tmod_eq_emod_of_nonneg (by omega)
        clear hc0 hdu
        go_wp2_with fail
        go_at_call 12
        refine (put_any _ b _ vb vc 500 (nfB (d : Int)) hA.out okI.out (by omega) (nf_lt _)).mono ?_
        rintro e wb ⟨rfl, Ab, Bb⟩
        rw [← hsn.out] at Ab
        have A' := hide Ab
        have B' : Hid (Below W.heap.size W wb) := hide (hB.out.trans (Bb.below hB.out.size fun k hk => hlow.out k (by
          rcases hk with h | h
          · exact .inl h
          · exact .inr (.inr h))))
        clear Ab Bb hA hB hc
        go_wp2_with fail
        go_roundw
        case rel => exact ⟨i + 1, by omega, by go_num, A'.out, B'.out⟩
        case measure => simp [intOf]; omega
      have hin' := hin.symm
      clear hin
      subst hin'
      have AT : Hid (At 64 wr b (gR (g0 bo64) ds) vb vc) := hide (by have := hA.out; rwa [List.take_of_length_le (by rw [hdl.out]; exact Nat.le_refl _)] at this)
      have BW := hB
      have OK : Hid (Ok 500 (gR (g0 bo64) ds)) := hide (gR_ok.mono (by rw [hdl.out]; omega))
      clear hA hB
      obtain ⟨k, hk⟩ : ∃ k, Hid (pt % (n + 1) = k) := ⟨_, rfl⟩
      have hkn : k ≤ n := by have := Nat.mod_lt pt (show 0 < n + 1 by omega); have := hk.out; omega
      have hcnt : Hid ((gR (g0 bo64) ds).l.n = (n : Int)) := hide (by
        have hI : Inv (g0 bo64) := ⟨⟨0, Ok.new (by rw [bo_len]; omega) bo_bs bo_rises⟩, nz0 _⟩
        rw [(gR_cell hd64.out hI rfl).2.1, hdl.out]
        show (0 : Int) + _ = _
        omega)
      have hbs : Hid ((gR (g0 bo64) ds).bs = bo64) := hide (by
        have hI : Inv (g0 bo64) := ⟨⟨0, Ok.new (by rw [bo_len]; omega) bo_bs bo_rises⟩, nz0 _⟩
        exact (gR_cell hd64.out hI rfl).2.2)
      have hQ : ∃ Q, Ieee.double.div (nfB (k : Int)) (nfB (n : Int)) = some Q ∧ qB Q = true ∧ Q < 18446744073709551616 ∧ k ≤ rkF Q n ∧ rkF Q n ≤ max (k + 1) 1 ∧ 1 ≤ rkF Q n ∧ rkF Q n ≤ n ∧ (k = 0 → rkF Q n = 1) := by
        by_cases hk0 : k = 0
        · obtain ⟨a, c⟩ := rank_zero (n := n) (by omega) (by omega)
          subst hk0
          exact ⟨0, a, by decide, by omega, by omega, by omega, by omega, by omega, fun _ => c⟩
        · obtain ⟨Q, a, c, d, e, f⟩ := rank_q (k := k) (n := n) (by omega) hkn (by omega)
          refine ⟨Q, a, c, d, e, by omega, by omega, ?_, fun h => absurd h hk0⟩
          have := rk_le c (n := n) (by omega)
          unfold rkF
          omega
      obtain ⟨Q, q1, q2, q3, q4, q5, q6, q7, q8⟩ := hQ
      have hdr := fun u => div_some_run q1 u
      obtain ⟨x, x1, x2, x3, x4⟩ := ranks (hi := (gR (g0 bo64) ds).l.hi) hd64.out q6 (by rw [hdl.out]; exact q7)
      have hqt : Hid (qtF (gR (g0 bo64) ds) Q = (nfB (x : Int), 0)) := hide (by
        unfold qtF
        rw [if_neg (by simp [q2]), hcnt.out, if_neg (by omega), hbs.out, Int.toNat_natCast, x2])
      have hQT := hide (quantile_any wr b _ vb vc 500 Q AT.out OK.out (by omega) q3)
      rw [hqt.out] at hQT
      have kadd : IntKind.i64.wrap ((n : Int) + 1) = (n : Int) + 1 := by simp [IntKind.wrap, IntKind.bits, IntKind.signed]; omega
      have kem : (pt : Int) % ((n : Int) + 1) = (k : Int) := by
        have e := congrArg (fun z : Nat => (z : Int)) hk.out
        simpa using e
      have ktm : Int.tmod (pt : Int) ((n : Int) + 1) = (k : Int) := by rw [Int.tmod_eq_emod_of_nonneg (by omega)]; exact kem
      have kwk : IntKind.i64.wrap (k : Int) = (k : Int) := by simp [IntKind.wrap, IntKind.bits, IntKind.signed]; omega
      have kwp : IntKind.i64.wrap (pt : Int) = (pt : Int) := by simp [IntKind.wrap, IntKind.bits, IntKind.signed]; omega
      have kne : ¬ ((n : Int) + 1 = 0) := by omega
      have RES : Hid (k ≤ bel ds (x + 1) ∧ bel ds x < bel ds (x + 1) ∧ bel ds x ≤ k) := hide ⟨by omega, by omega, by
        by_cases hk0 : k = 0
        · have := q8 hk0; omega
        · omega⟩
      replace hk := hide hk.out
      clear q1 q2 q3 q4 q5 q6 q7 q8 x2 x3 x4 AT OK hqt
      go_wp2_with (go_at_call 22; refine hQT.out.mono ?_; rintro e w' ⟨rfl, hw⟩; rw [hw]; clear hw w')
      go_loopw [13, 14, 15] (fun v13 v14 v15 wz => ∃ j : Nat, j ≤ n ∧ v15 = .int .i64 (j : Int) ∧ v13 = .int .i64 (bel (ds.take j) x : Int) ∧ v14 = .int .i64 (bel (ds.take j) (x + 1) : Int) ∧ wz = wr) (fun _ _ v _ => n - (intOf v).toNat)
      case atStart => exact ⟨0, by omega, rfl, by simp [bel], by simp [bel], rfl⟩
      case round =>
        obtain ⟨j, hj, rfl, rfl, rfl, hwr⟩ := hrel
        subst hwr
        by_cases hjn : j = n
        rotate_left
        · have hjl : j < n := by omega
          have i1 : (j : Int) < (n : Int) := by omega
          have i2 : (0 : Int) ≤ (j : Int) := by omega
          obtain ⟨bb, off, rfl, u, hu, hc0, hdu⟩ := HRW.out j hjl
          have hc := (BW.out.cell (lt_of_cell hc0)).trans hc0
          have s1 := bel_snoc ds (j := j) (by rw [hdl.out]; exact hjl) x
          have s2 := bel_snoc ds (j := j) (by rw [hdl.out]; exact hjl) (x + 1)
          have t1 := bel_le (ds.take j) x
          have t2 := bel_le (ds.take j) (x + 1)
          rw [List.length_take] at t1 t2
          rw [hdu] at s1 s2
          obtain ⟨d, hd⟩ : ∃ d, Hid (u % 64 = d) := ⟨_, rfl⟩
          rw [hd.out] at s1 s2
          have hmod : (u : Int) % 64 = (d : Int) := by have := hd.out; omega
          have htm : Int.tmod (u : Int) 64 = (d : Int) := by rw [← hmod]; exact Int.tmod_eq_emod_of_nonneg (by omega)
          have kwr : IntKind.u8.wrap (d : Int) = (d : Int) := by simp [IntKind.wrap, IntKind.bits, IntKind.signed]; have := hd.out; omega
          have hor : FloatKind.f64.format.order (nfB (d : Int)) (nfB (x : Int)) = some (compare d x) := nf_order (by have := hd.out; omega) (by omega)
          obtain ⟨e1, he1⟩ : ∃ e, Hid (bel (ds.take j) x = e) := ⟨_, rfl⟩
          obtain ⟨e2, he2⟩ : ∃ e, Hid (bel (ds.take j) (x + 1) = e) := ⟨_, rfl⟩
          rw [he1.out] at s1 t1 ⊢
          rw [he2.out] at s2 t2 ⊢
          have kw1 : IntKind.i64.wrap ((e1 : Int) + 1) = (e1 : Int) + 1 := by simp [IntKind.wrap, IntKind.bits, IntKind.signed]; omega
          have kw2 : IntKind.i64.wrap ((e2 : Int) + 1) = (e2 : Int) + 1 := by simp [IntKind.wrap, IntKind.bits, IntKind.signed]; omega
          clear hc0 hdu
          rcases Nat.lt_trichotomy d x with hlt | heq | hgt
          · rw [Nat.compare_eq_lt.2 hlt] at hor
            rw [if_pos hlt] at s1
            rw [if_pos (by omega)] at s2
            have S1 := hide s1
            have S2 := hide s2
            clear s1 s2
            go_wp2_with fail
            go_roundw
            case rel => exact ⟨j + 1, by omega, by go_num, by rw [S1.out]; go_num, by rw [S2.out]; go_num, by trivial⟩
            case measure => simp [intOf]; omega
          · rw [Nat.compare_eq_eq.2 heq] at hor
            rw [if_neg (by omega)] at s1
            rw [if_pos (by omega)] at s2
            have S1 := hide s1
            have S2 := hide s2
            clear s1 s2
            replace heq := hide heq
            go_wp2_with fail
            go_roundw
            case rel => exact ⟨j + 1, by omega, by go_num, by rw [S1.out, Nat.add_zero], by rw [S2.out]; go_num, by trivial⟩
            case measure => simp [intOf]; omega
          · rw [Nat.compare_eq_gt.2 hgt] at hor
            rw [if_neg (by omega)] at s1
            rw [if_neg (by omega)] at s2
            have S1 := hide s1
            have S2 := hide s2
            clear s1 s2
            go_wp2_with fail
            go_roundw
            case rel => exact ⟨j + 1, by omega, by go_num, by rw [S1.out, Nat.add_zero], by rw [S2.out, Nat.add_zero], by trivial⟩
            case measure => simp [intOf]; omega
        have hjn' := hjn.symm
        clear hjn
        subst hjn'
        rw [List.take_of_length_le (by rw [hdl.out]; exact Nat.le_refl _)]
        obtain ⟨y1, y2, y3⟩ := RES.out
        generalize bel ds x = e1 at *
        generalize bel ds (x + 1) = e2 at *
        have z1 : (k : Int) ≤ (e2 : Int) := by omega
        have z2 : (e1 : Int) < (e2 : Int) := by omega
        have z3 : (e1 : Int) ≤ (k : Int) := by omega
        have z4 : ¬ ((k : Int) < 0) := by omega
        go_wp2_with fail
        go_ret
        exact ⟨by first | rfl | simp, BW.out⟩
end Go.Proofs.Ytjkdhckhokkefaa.Gg
namespace Go.Proofs.Ytjkdhckhokkefaa.Gg
open Go.RowKit Rl
theorem ranks_law (W : World) (v : Value) (l : List UInt8) (a : Int) (hs : Sl W v l) (ha : 0 ≤ a ∧ a ≤ 65535) :
    Calls Try.prog 7 #[v, .int .u16 a] W fun e w' => e = .returned (.bool true) ∧ Below W.heap.size W w' := by
  obtain ⟨p, rfl⟩ : ∃ p : Nat, a = (p : Int) := ⟨a.toNat, by omega⟩
  exact ranks_walk W v l p hs (by omega)
end Go.Proofs.Ytjkdhckhokkefaa.Gg

