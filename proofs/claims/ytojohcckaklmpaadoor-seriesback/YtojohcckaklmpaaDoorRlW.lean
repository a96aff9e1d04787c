/-
  Package real's exact sums: a number added, a sum taken away.
-/
import Derived.Test.YtojohcckaklmpaaDoorRlU
import Derived.Deep.Cut
import Derived.Deep.RegionHeld3
namespace Go.Proofs.YtojohcckaklmpaaDoor.Rl
open Go.RowKit
set_option maxRecDepth 100000

theorem add64_nat (x y c : Nat) (hc : c ≤ 1) (w : World) :
    (callFunc 68 #[.int .u64 (x : Int), .int .u64 (y : Int), .int .u64 (c : Int)]).run Tryd.prog w = .ok (.value (.tuple #[.int .u64 (((x + y + c) % 18446744073709551616 : Nat) : Int), .int .u64 (((x + y + c) / 18446744073709551616 : Nat) : Int)])) w := by
  rw [add64_run _ _ _ (by omega) (by omega) (by omega) (by omega)]
  simp
theorem widen2 {K : Act → World → Prop} {Q : Exit → Act → World → Prop} {e : Exit} {a : Act} {W : World} (R : World → Prop) (hR : R W) (h : ∀ q, R q → Exit.then K Q e a q) : Exit.then K Q e a W := h W hR
theorem widenB {n : Nat} {Q : Exit → Act → World → Prop} {e : Exit} {a : Act} {W : World} (R : World → Prop) (hR : R W) (h : ∀ q, R q → Exit.inBlock n Q e a q) : Exit.inBlock n Q e a W := h W hR
theorem grown_drew {w w' : World} {r : Option Nat} (h : w.grownBy w' r) : w.grownBy w'.drew r := ⟨h.os, h.tape, h.output, h.size, h.block⟩
theorem two_words (D O : Nat) (hO : O < 64) : D * 2 ^ O % 18446744073709551616 + 18446744073709551616 * (D / 2 ^ (64 - O)) = D * 2 ^ O := by
  have e : D / 2 ^ (64 - O) = D * 2 ^ O / 18446744073709551616 := by
    have h1 : 18446744073709551616 = 2 ^ (64 - O) * 2 ^ O := by rw [← Nat.pow_add, Nat.sub_add_cancel (by omega)]
    rw [h1, Nat.mul_div_mul_right _ _ (Nat.two_pow_pos O)]
  rw [e, Nat.add_comm, Nat.div_add_mod]
theorem words_pow (A : Nat) : 18446744073709551616 ^ A = 2 ^ (64 * A) := by rw [show 18446744073709551616 = 2 ^ 64 by omega, ← Nat.pow_mul]
theorem add_any (w : World) (b s : Nat) (ds : List Nat) (hu : Un w b ds) (hs : s < 9218868437227405312) (hsum : val ds + magB s < 18446744073709551616 ^ 34) :
    Calls Tryd.prog 52 #[.pointer (some ⟨b, 0, none⟩), .int .u64 (s : Int)] w fun e w' => ∃ v ds', e = .returned v ∧ Un w' b ds' ∧ val ds' = val ds + magB s ∧ w.grownBy w' (some b) := by
  replace hu : Hid (Un w b ds) := hu
  replace hsum : Hid (val ds + magB s < 18446744073709551616 ^ 34) := hsum
  have k1 := low52 s (by omega)
  have k2 := or52 (s % 4503599627370496) (by omega)
  obtain ⟨F, hF⟩ : ∃ F, Hid (F = s % 4503599627370496) := ⟨_, rfl⟩
  rw [← hF.out] at k1 k2
  obtain ⟨E, hE⟩ : ∃ E, Hid (E = s / 4503599627370496) := ⟨_, rfl⟩
  have k3 : (s : Int) / 4503599627370496 = (E : Int) := by rw [hE.out]; omega
  replace hs : Hid (s < 9218868437227405312) := hs
  go_enter Tryd.func52, Tryd.ntmps52
  go_upto_if 15 with fail
  go_cut [4, 5] from 10 (fun s4 s5 wx => ∃ D H : Nat, D < 9007199254740992 ∧ H ≤ 2045 ∧ Hid (magB s = D * 2 ^ H) ∧ s4 = .int .u64 (H : Int) ∧ s5 = .int .u64 (D : Int) ∧ wx = w)
  case first =>
    by_cases h0 : E = 0
    · have hD : Hid (F < 9007199254740992 ∧ magB s = F * 2 ^ 0) := by
        have h1 := hE.out
        have h2 := hF.out
        refine ⟨by omega, ?_⟩
        rw [magB, if_pos (by omega)]; simp; omega
      subst h0
      clear k2
      go_wp2_with fail
      go_meet
      case rel => exact ⟨F, 0, hD.out.1, by omega, hD.out.2, rfl, rfl, rfl⟩
    · obtain ⟨H, rfl⟩ : ∃ H, E = H + 1 := ⟨E - 1, by omega⟩
      have hD : Hid (F + 4503599627370496 < 9007199254740992 ∧ H ≤ 2045 ∧ magB s = (F + 4503599627370496) * 2 ^ H) := by
        have h1 := hE.out
        have h2 := hF.out
        have h3 := hs.out
        refine ⟨by omega, by omega, ?_⟩
        rw [magB, if_neg (by omega), ← h1, ← h2]; rfl
      have hw : IntKind.u64.wrap (((H + 1 : Nat) : Int) - 1) = (H : Int) := by rw [IntKind.wrap_u64]; have := hD.out.2.1; omega
      have hw2 : IntKind.u64.wrap (H : Int) = (H : Int) := by rw [IntKind.wrap_u64]; have := hD.out.2.1; omega
      have hp : (0 : Int) < ((H + 1 : Nat) : Int) := by omega
      go_wp2_with fail
      go_meet
      case rel => exact ⟨F + 4503599627370496, H, hD.out.1, hD.out.2.1, hD.out.2.2, by go_num, by go_num, rfl⟩
  case rest =>
    obtain ⟨D, H, hD, hH, hmag, rfl, rfl, rfl⟩ := hcut
    obtain ⟨A, hA⟩ : ∃ A, Hid (A = H / 64) := ⟨_, rfl⟩
    obtain ⟨O, hO⟩ : ∃ O, Hid (O = H % 64) := ⟨_, rfl⟩
    have a1 : (H : Int) / 64 = (A : Int) := by rw [hA.out]; omega
    have a2 : (H : Int) % 64 = (O : Int) := by rw [hO.out]; omega
    have a3 : (A : Int) < 34 := by have := hA.out; omega
    have a4 : (0 : Int) ≤ (A : Int) := by omega
    have a5 : (O : Int) < 64 := by have := hO.out; omega
    have a6 : (0 : Int) ≤ (O : Int) := by omega
    have hl := hu.out.1
    have hAl : A < ds.length := by omega
    have c1 := hu.out.cell A hAl
    have f1 := hu.out.frozen A
    obtain ⟨x, hx⟩ : ∃ x, Hid (ds[A] = x) := ⟨ds[A], rfl⟩
    rw [hx.out] at c1
    obtain ⟨L, hL⟩ : ∃ L, Hid (L = D * 2 ^ O % 18446744073709551616) := ⟨_, rfl⟩
    have hlo : IntKind.u64.wrap ((D : Int) * 2 ^ O) = (L : Int) := by rw [IntKind.wrap_u64, hL.out]; simp
    obtain ⟨X1, hX1⟩ : ∃ X, Hid (X = (x + L + 0) % 18446744073709551616) := ⟨_, rfl⟩
    obtain ⟨C1, hC1⟩ : ∃ X, Hid (X = (x + L + 0) / 18446744073709551616) := ⟨_, rfl⟩
    have k4 : ∀ u, (callFunc 68 #[.int .u64 (x : Int), .int .u64 (L : Int), .int .u64 0]).run Tryd.prog u = .ok (.value (.tuple #[.int .u64 (X1 : Int), .int .u64 (C1 : Int)])) u := by
      intro u; rw [hX1.out, hC1.out]; exact add64_nat x L 0 (by omega) u
    go_wp2_with fail
    go_region
    refine widen2 (fun q => Un q b (ds.set A X1) ∧ wc.grownBy q (some b)) ⟨(hu.out.set A X1 (by rw [hX1.out]; omega)).drew, grown_drew (grown_setCell wc b A _)⟩ ?_
    clear c1 f1 k4 hlo
    rintro q1 ⟨hu1, hg1⟩
    replace hu1 : Hid (Un q1 b (ds.set A X1)) := hu1
    have c2 := hu1.out.cell (A + 1) (by simp; omega)
    have f2 := hu1.out.frozen (A + 1)
    obtain ⟨y, hy⟩ : ∃ y, Hid ((ds.set A X1)[A + 1]'(by simp; omega) = y) := ⟨(ds.set A X1)[A + 1]'(by simp; omega), rfl⟩
    rw [hy.out] at c2
    have a7 : (A : Int) + 1 < 34 := by have := hA.out; omega
    have a8 : IntKind.u64.wrap ((A : Int) + 1) = (A : Int) + 1 := by rw [IntKind.wrap_u64]; omega
    have a9 : IntKind.u64.wrap (64 - (O : Int)) = 64 - (O : Int) := by rw [IntKind.wrap_u64]; omega
    obtain ⟨M, hM⟩ : ∃ M, Hid (M = D / 2 ^ (64 - O)) := ⟨_, rfl⟩
    have hhi : (D : Int) / 2 ^ (64 - O) = (M : Int) := by rw [hM.out]; simp
    have hxl : x < 18446744073709551616 := by rw [← hx.out]; exact hu.out.2.1.get A hAl
    have hC1l : C1 ≤ 1 := by rw [hC1.out]; have := hL.out; omega
    obtain ⟨X2, hX2⟩ : ∃ X, Hid (X = (y + M + C1) % 18446744073709551616) := ⟨_, rfl⟩
    obtain ⟨C2, hC2⟩ : ∃ X, Hid (X = (y + M + C1) / 18446744073709551616) := ⟨_, rfl⟩
    have k5 : ∀ u, (callFunc 68 #[.int .u64 (y : Int), .int .u64 (M : Int), .int .u64 (C1 : Int)]).run Tryd.prog u = .ok (.value (.tuple #[.int .u64 (X2 : Int), .int .u64 (C2 : Int)])) u := by
      intro u; rw [hX2.out, hC2.out]; exact add64_nat y M C1 hC1l u
    have a10 : (0 : Int) ≤ (A : Int) + 1 := by omega
    go_wp2_with fail
    go_region
    refine widen2 (fun q => Un q b ((ds.set A X1).set (A + 1) X2) ∧ wc.grownBy q (some b)) ⟨(hu1.out.set (A + 1) X2 (by rw [hX2.out]; omega)).drew, grown_trans hg1 (grown_drew (grown_setCell q1 b (A + 1) _))⟩ ?_
    clear c2 f2 k5 hhi a10
    rintro q2 ⟨hu2, hg2⟩
    have hval : Hid (val ((ds.set A X1).set (A + 1) X2) + C2 * 18446744073709551616 ^ (A + 1 + 1) = val ds + magB s) := by
      show _ = _
      have e1 := val_add ds A L 0 hAl
      have e2 := val_add (ds.set A X1) (A + 1) M C1 (by simp; omega)
      rw [hx.out, ← hX1.out, ← hC1.out] at e1
      rw [hy.out, ← hX2.out, ← hC2.out] at e2
      have e3 := two_words D O (by omega)
      rw [← hL.out, ← hM.out] at e3
      have e4 : D * 2 ^ H = D * 2 ^ O * 18446744073709551616 ^ A := by
        rw [words_pow, Nat.mul_assoc, ← Nat.pow_add]
        congr 2
        have := hA.out
        have := hO.out
        omega
      rw [hmag.out, e4, ← e3]
      rw [Nat.pow_succ 18446744073709551616 A] at e1 e2
      generalize 18446744073709551616 ^ A = P at *
      have e5 : (M + C1) * (P * 18446744073709551616) = 18446744073709551616 * M * P + C1 * (P * 18446744073709551616) := by
        rw [Nat.add_mul, Nat.mul_comm P, ← Nat.mul_assoc, Nat.mul_comm M]
      rw [Nat.add_mul L]
      rw [Nat.add_zero] at e1
      omega
    have hC2l : C2 ≤ 1 := by
      have h1 : y < 18446744073709551616 := by rw [← hy.out]; exact hu1.out.2.1.get (A + 1) (by simp; omega)
      have h2 : M ≤ D := by rw [hM.out]; exact Nat.div_le_self _ _
      rw [hC2.out]; omega
    replace hu2 : Hid (Un q2 b ((ds.set A X1).set (A + 1) X2)) := hu2
    have a11 : IntKind.u64.wrap ((A : Int) + 2) = (A : Int) + 2 := by rw [IntKind.wrap_u64]; omega
    go_wp2_with fail
    go_loopw [8, 9] (fun v8 v9 wr => ∃ (i c : Nat) (es : List Nat), i ≤ 34 ∧ c ≤ 1 ∧ v8 = .int .u64 (c : Int) ∧ v9 = .int .u64 (i : Int) ∧ Hid (Un wr b es) ∧ Hid (val es + c * 18446744073709551616 ^ i = val ds + magB s) ∧ Hid (wc.grownBy wr (some b))) (fun _ v9 _ => 34 - (intOf v9).toNat)
    case atStart => exact ⟨A + 2, C2, _, by omega, hC2l, rfl, by go_num, hu2.out, hval.out, hg2⟩
    case round =>
      clear hu2 hval hg2
      obtain ⟨i, c, es, hi, hc, rfl, rfl, hue, hve, hge⟩ := hrel
      by_cases h0 : c = 0
      · subst h0
        go_wp2
        go_returns
        exact ⟨_, es, rfl, hue.out, by have := hve.out; omega, hge.out⟩
      · have h1 : c = 1 := by omega
        subst h1
        by_cases h34 : i = 34
        · have := hve.out
          have := hsum.out
          subst h34
          omega
        · have hle := hue.out.1
          have hil : i < es.length := by omega
          have c3 := hue.out.cell i hil
          have f3 := hue.out.frozen i
          obtain ⟨z, hz⟩ : ∃ z, Hid (es[i] = z) := ⟨es[i], rfl⟩
          rw [hz.out] at c3
          obtain ⟨X3, hX3⟩ : ∃ X, Hid (X = (z + 0 + 1) % 18446744073709551616) := ⟨_, rfl⟩
          obtain ⟨C3, hC3⟩ : ∃ X, Hid (X = (z + 0 + 1) / 18446744073709551616) := ⟨_, rfl⟩
          have k6 : ∀ u, (callFunc 68 #[.int .u64 (z : Int), .int .u64 0, .int .u64 1]).run Tryd.prog u = .ok (.value (.tuple #[.int .u64 (X3 : Int), .int .u64 (C3 : Int)])) u := by
            intro u; rw [hX3.out, hC3.out]; exact add64_nat z 0 1 (by omega) u
          have i1 : (i : Int) < 34 := by omega
          have i2 : (0 : Int) ≤ (i : Int) := by omega
          go_wp2_with fail
          go_region
          refine widenB (fun q => Un q b (es.set i X3) ∧ wc.grownBy q (some b)) ⟨(hue.out.set i X3 (by rw [hX3.out]; omega)).drew, grown_trans hge.out (grown_drew (grown_setCell wr b i _))⟩ ?_
          clear c3 f3 k6
          rintro q3 ⟨hu3, hg3⟩
          have hv3 : Hid (val (es.set i X3) + C3 * 18446744073709551616 ^ (i + 1) = val ds + magB s) := by
            show _ = _
            have e1 := val_add es i 0 1 hil
            rw [hz.out, ← hX3.out, ← hC3.out] at e1
            rw [e1, ← hve.out]
          have hC3l : C3 ≤ 1 := by rw [hC3.out]; have := hue.out.2.1.get i hil; rw [hz.out] at this; omega
          have i3 : IntKind.u64.wrap ((i : Int) + 1) = (i : Int) + 1 := by rw [IntKind.wrap_u64]; omega
          go_wp2_with fail
          go_roundw
          case rel => exact ⟨i + 1, C3, es.set i X3, by omega, hC3l, rfl, by go_num, hu3, hv3.out, hg3⟩
          case measure => simp [intOf]; omega

theorem take_any (w : World) (a b : Nat) (hab : a ≠ b) (ds es : List Nat) (hd : Un w a ds) (he : Un w b es) (hle : val es ≤ val ds) :
    Calls Tryd.prog 54 #[.pointer (some ⟨a, 0, none⟩), .pointer (some ⟨b, 0, none⟩)] w fun e w' => ∃ v ds', e = .returned v ∧ Un w' a ds' ∧ val ds' = val ds - val es ∧ w.grownBy w' (some a) := by
  replace hd : Hid (Un w a ds) := hd
  replace he : Hid (Un w b es) := he
  replace hle : Hid (val es ≤ val ds) := hle
  replace hab : Hid (a ≠ b) := hab
  go_enter Tryd.func54, Tryd.ntmps54
  go_wp2_with fail
  go_loopw [4, 6] (fun v4 v6 wr => ∃ (i c : Nat) (us : List Nat), i ≤ 34 ∧ c ≤ 1 ∧ v4 = .int .u64 (c : Int) ∧ v6 = .int .i64 (i : Int) ∧ Hid (Un wr a us) ∧ Hid (Un wr b es) ∧ Hid (val us + val (es.take i) = val ds + c * 18446744073709551616 ^ i) ∧ Hid (w.grownBy wr (some a))) (fun _ v6 _ => 34 - (intOf v6).toNat)
  case atStart => exact ⟨0, 0, ds, by omega, by omega, rfl, rfl, hd.out, he.out, by show _ = _; simp [val], (Qt.refl w).grown _⟩
  case round =>
    obtain ⟨i, c, us, hi, hc, rfl, rfl, hu, hv, hval, hg⟩ := hrel
    have hlu := hu.out.1
    have hle2 := hv.out.1
    by_cases h34 : i = 34
    · subst h34
      have fin : Hid (val us = val ds - val es) := by
        show _ = _
        have h1 := hval.out
        rw [List.take_of_length_le (by omega)] at h1
        have h2 := val_lt hu.out.2.1
        rw [hlu] at h2
        have h3 := hle.out
        have : c = 0 := by
          rcases Nat.eq_zero_or_pos c with h | h
          · exact h
          · have h4 : c = 1 := by omega
            subst h4
            omega
        subst this
        omega
      go_wp2
      go_returns
      exact ⟨_, us, rfl, hu.out, fin.out, hg.out⟩
    · have hil : i < us.length := by omega
      have hjl : i < es.length := by omega
      have c1 := hu.out.cell i hil
      have f1 := hu.out.frozen i
      have c2 := hv.out.cell i hjl
      obtain ⟨x, hx⟩ : ∃ z, Hid (us[i] = z) := ⟨us[i], rfl⟩
      obtain ⟨y, hy⟩ : ∃ z, Hid (es[i] = z) := ⟨es[i], rfl⟩
      rw [hx.out] at c1
      rw [hy.out] at c2
      obtain ⟨X, hX⟩ : ∃ X, Hid (X = (x + 18446744073709551616 - y - c) % 18446744073709551616) := ⟨_, rfl⟩
      obtain ⟨C, hC⟩ : ∃ X : Nat, Hid (X = if x < y + c then 1 else 0) := ⟨if x < y + c then 1 else 0, rfl⟩
      have k6 : ∀ u, (callFunc 69 #[.int .u64 (x : Int), .int .u64 (y : Int), .int .u64 (c : Int)]).run Tryd.prog u = .ok (.value (.tuple #[.int .u64 (X : Int), .int .u64 (C : Int)])) u := by
        intro u; rw [hX.out, hC.out]; exact sub64_run x y c hc u
      have i1 : (i : Int) < 34 := by omega
      have i2 : (0 : Int) ≤ (i : Int) := by omega
      go_wp2_with fail
      go_region
      refine widenB (fun q => Un q a (us.set i X) ∧ Un q b es ∧ w.grownBy q (some a)) ⟨(hu.out.set i X (by rw [hX.out]; omega)).drew, (hv.out.other (fun e => hab.out e.symm) i _).drew, grown_trans hg.out (grown_drew (grown_setCell wr a i _))⟩ ?_
      clear c1 f1 c2 k6
      rintro q ⟨hu3, hv3, hg3⟩
      have hval3 : Hid (val (us.set i X) + val (es.take (i + 1)) = val ds + C * 18446744073709551616 ^ (i + 1)) := by
        show _ = _
        have hxl := hu.out.2.1.get i hil
        have hyl := hv.out.2.1.get i hjl
        rw [hx.out] at hxl
        rw [hy.out] at hyl
        have e0 : X + y + c = us[i] + 18446744073709551616 * C := by
          rw [hx.out, hX.out, hC.out]; split <;> omega
        have e1 := val_sub us i y c X C hil e0
        rw [val_take_succ es i hjl, hy.out]
        have e2 := hval.out
        rw [Nat.add_mul] at e1
        omega
      have hCl : C ≤ 1 := by rw [hC.out]; split <;> omega
      go_wp2_with fail
      go_roundw
      case rel => exact ⟨i + 1, C, us.set i X, by omega, hCl, rfl, by go_num, hu3, hv3, hval3.out, hg3⟩
      case measure => simp [intOf]; omega
#print axioms take_any
end Go.Proofs.YtojohcckaklmpaaDoor.Rl
