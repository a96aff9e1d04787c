/-
  The walk of RealEnds.
-/
import Derived.Test.YtdjaekmndhhjgabGreatDoorRlY
import Derived.Test.YtdjaekmndhhjgabGreatDoorRlF1
import Derived.Test.YtdjaekmndhhjgabGreatDoorRlOf
namespace Go.Proofs.YtdjaekmndhhjgabGreatDoor.Rl
open Go.RowKit
set_option maxRecDepth 100000

theorem key_max {b : Nat} (hb : b < 18446744073709551616) : keyB b ≤ 18446744073709551615 := by have := keyB_lt hb; omega
theorem key_nan_lt {b : Nat} (hb : b < 18446744073709551616) (h : nanB b = false) : keyB b < 18446744073709551615 := by
  have h1 := keyB_lt hb
  have h2 : keyB b ≠ 18446744073709551615 := fun e => by have := (keyB_nan b hb).1 e; rw [h] at this; cases this
  omega
theorem cmp_neg_iff (a b : Nat) : cmpB a b < 0 ↔ keyB a < keyB b := by unfold cmpB cmpZ; (repeat' split) <;> omega
theorem cmp_pos_iff (a b : Nat) : 0 < cmpB a b ↔ keyB b < keyB a := by unfold cmpB cmpZ; (repeat' split) <;> omega
theorem nanc : nanB 9221120237041090561 = true := by decide +kernel
def MinInv (l : List Nat) (f : Nat) : Prop := (f = 9221120237041090561 ∧ ∀ x ∈ l, nanB x = true) ∨ (f ∈ l ∧ nanB f = false ∧ ∀ x ∈ l, keyB f ≤ keyB x)
theorem key_of_nan {b : Nat} (h : nanB b = true) : keyB b = 18446744073709551615 := by unfold keyB; rw [h]; rfl
theorem min_step {l : List Nat} {f x : Nat} (h : MinInv l f) (hx : x < 18446744073709551616) (hl : Bs l) : MinInv (l ++ [x]) (minStep f x) := by
  have hmem : ∀ y, y ∈ l ++ [x] → y ∈ l ∨ y = x := fun y hy => by rcases List.mem_append.1 hy with h1 | h1; exact Or.inl h1; exact Or.inr (by simpa using h1)
  unfold minStep
  by_cases hc : keyB x < keyB f
  · rw [if_pos ((cmp_neg_iff x f).2 hc)]
    rcases h with ⟨rfl, hn⟩ | ⟨h1, h2, h3⟩
    · rw [key_of_nan nanc] at hc
      have hnx : nanB x = false := by cases hq : nanB x; rfl; rw [key_of_nan hq] at hc; omega
      refine Or.inr ⟨by simp, hnx, fun y hy => ?_⟩
      rcases hmem y hy with h4 | rfl
      · rw [key_of_nan (hn y h4)]; omega
      · omega
    · have hnx : nanB x = false := by cases hq : nanB x; rfl; have := key_max (hl f h1); rw [key_of_nan hq] at hc; omega
      refine Or.inr ⟨by simp, hnx, fun y hy => ?_⟩
      rcases hmem y hy with h4 | rfl
      · have := h3 y h4; omega
      · omega
  · rw [if_neg (fun e => hc ((cmp_neg_iff x f).1 e))]
    rcases h with ⟨rfl, hn⟩ | ⟨h1, h2, h3⟩
    · rw [key_of_nan nanc] at hc
      have hnx : nanB x = true := by cases hq : nanB x; have := key_nan_lt hx hq; omega; rfl
      refine Or.inl ⟨rfl, fun y hy => ?_⟩
      rcases hmem y hy with h4 | rfl
      · exact hn y h4
      · exact hnx
    · refine Or.inr ⟨by simp [h1], h2, fun y hy => ?_⟩
      rcases hmem y hy with h4 | rfl
      · exact h3 y h4
      · omega
theorem min_inv (l : List Nat) : ∀ (pre : List Nat) (f : Nat), MinInv pre f → Bs (pre ++ l) → MinInv (pre ++ l) (l.foldl minStep f) := by
  induction l with
  | nil => intro pre f h _; simpa using h
  | cons x r ih =>
    intro pre f h hb
    rw [List.foldl_cons, show pre ++ x :: r = (pre ++ [x]) ++ r by simp]
    exact ih _ _ (min_step h (hb x (by simp)) (fun y hy => hb y (by simp [hy]))) (by simpa using hb)
def MaxInv (l : List Nat) (f : Nat) : Prop := (f = 9221120237041090561 ∧ ∀ x ∈ l, nanB x = true) ∨ (f ∈ l ∧ nanB f = false ∧ ∀ x ∈ l, nanB x = false → keyB x ≤ keyB f)
theorem max_step {l : List Nat} {f x : Nat} (h : MaxInv l f) : MaxInv (l ++ [x]) (maxStep f x) := by
  have hmem : ∀ y, y ∈ l ++ [x] → y ∈ l ∨ y = x := fun y hy => by rcases List.mem_append.1 hy with h1 | h1; exact Or.inl h1; exact Or.inr (by simpa using h1)
  unfold maxStep
  cases hx : nanB x
  · by_cases hc : nanB f = true ∨ keyB f < keyB x
    · rw [if_pos (by rcases hc with hc | hc; simp [hc]; simp [(cmp_pos_iff x f).2 hc])]
      refine Or.inr ⟨by simp, hx, fun y hy hny => ?_⟩
      rcases hmem y hy with h4 | rfl
      · rcases h with ⟨rfl, hn⟩ | ⟨h1, h2, h3⟩
        · rw [hn y h4] at hny; cases hny
        · have := h3 y h4 hny
          rcases hc with hc | hc
          · rw [h2] at hc; cases hc
          · omega
      · omega
    · have hf : nanB f = false := by cases hq : nanB f; rfl; exact absurd (Or.inl hq) hc
      rw [if_neg (by rw [hf]; simp; have := cmp_pos_iff x f; omega)]
      rcases h with ⟨rfl, hn⟩ | ⟨h1, h2, h3⟩
      · rw [nanc] at hf; cases hf
      · refine Or.inr ⟨by simp [h1], h2, fun y hy hny => ?_⟩
        rcases hmem y hy with h4 | rfl
        · exact h3 y h4 hny
        · omega
  · rw [if_neg (by simp)]
    rcases h with ⟨rfl, hn⟩ | ⟨h1, h2, h3⟩
    · refine Or.inl ⟨rfl, fun y hy => ?_⟩
      rcases hmem y hy with h4 | rfl
      · exact hn y h4
      · exact hx
    · refine Or.inr ⟨by simp [h1], h2, fun y hy hny => ?_⟩
      rcases hmem y hy with h4 | rfl
      · exact h3 y h4 hny
      · rw [hx] at hny; cases hny
theorem max_inv (l : List Nat) : ∀ (pre : List Nat) (f : Nat), MaxInv pre f → MaxInv (pre ++ l) (l.foldl maxStep f) := by
  induction l with
  | nil => intro pre f h; simpa using h
  | cons x r ih =>
    intro pre f h
    rw [List.foldl_cons, show pre ++ x :: r = (pre ++ [x]) ++ r by simp]
    exact ih _ _ (max_step h)
def someB (l : List Nat) : Bool := l.any fun x => !nanB x
def hasB (c : Nat) (l : List Nat) : Bool := l.any fun x => !nanB x && decide (x = c)
theorem any_snoc (f : Nat → Bool) (l : List Nat) (i : Nat) (hi : i < l.length) : (l.take (i + 1)).any f = ((l.take i).any f || f l[i]) := by
  rw [List.take_succ_eq_append_getElem hi, List.any_append]; simp
theorem has_of {c : Nat} {l : List Nat} (h : c ∈ l) (hn : nanB c = false) : hasB c l = true := by
  unfold hasB
  rw [List.any_eq_true]
  exact ⟨c, h, by simp [hn]⟩
theorem some_of {c : Nat} {l : List Nat} (h : c ∈ l) (hn : nanB c = false) : someB l = true := by
  unfold someB
  rw [List.any_eq_true]
  exact ⟨c, h, by simp [hn]⟩
theorem some_none {l : List Nat} (h : ∀ x ∈ l, nanB x = true) : someB l = false := by
  unfold someB
  rw [List.any_eq_false]
  intro x hx; simp [h x hx]
/-- What holds of the two ends of a list of some. -/
theorem ends {us : List Nat} (hb : Bs us) (h0 : us.length ≠ 0) :
    (∀ x ∈ us, nanB x = false → ¬ cmpB x (minB us) < 0 ∧ ¬ 0 < cmpB x (maxB us)) ∧
    ((someB us = true ∧ hasB (minB us) us = true ∧ hasB (maxB us) us = true) ∨ (someB us = false ∧ nanB (minB us) = true ∧ nanB (maxB us) = true)) ∧ minB us < 18446744073709551616 ∧ maxB us < 18446744073709551616 := by
  have h1 : MinInv us (minB us) := by
    unfold minB; rw [if_neg h0]
    simpa using min_inv us [] _ (Or.inl ⟨rfl, by simp⟩) (by simpa using hb)
  have h2 : MaxInv us (maxB us) := by
    unfold maxB; rw [if_neg h0]
    simpa using max_inv us [] _ (Or.inl ⟨rfl, by simp⟩)
  have hl1 : minB us < 18446744073709551616 := by unfold minB; rw [if_neg h0]; exact min_lt hb _ (by omega)
  have hl2 : maxB us < 18446744073709551616 := by unfold maxB; rw [if_neg h0]; exact max_lt hb _ (by omega)
  refine ⟨fun x hx hn => ⟨?_, ?_⟩, ?_, hl1, hl2⟩
  · rw [cmp_neg_iff]
    rcases h1 with ⟨e, h⟩ | ⟨_, _, h⟩
    · rw [h x hx] at hn; cases hn
    · have := h x hx; omega
  · rw [cmp_pos_iff]
    rcases h2 with ⟨e, h⟩ | ⟨_, _, h⟩
    · rw [h x hx] at hn; cases hn
    · have := h x hx hn; omega
  · rcases h1 with ⟨e1, k1⟩ | ⟨m1, n1, _⟩
    · rcases h2 with ⟨e2, _⟩ | ⟨m2, n2, _⟩
      · exact Or.inr ⟨some_none k1, by rw [e1]; exact nanc, by rw [e2]; exact nanc⟩
      · rw [k1 _ m2] at n2; cases n2
    · rcases h2 with ⟨e2, k2⟩ | ⟨m2, n2, _⟩
      · rw [k2 _ m1] at n1; cases n1
      · exact Or.inl ⟨some_of m1 n1, has_of m1 n1, has_of m2 n2⟩
set_option maxHeartbeats 2000000 in
theorem ends_walk (W : World) (v : Value) (l : List Int) (hL : Laid W) (hrow : Row W v (l.map (Value.int .u64))) (hwf : ∀ n ∈ l, (Lit.int .u64 n).wf = true) (hsz : l.length * 8 ≤ 140737488355328) :
    Calls Tryz.prog 3 #[v] W fun e w' => e = .returned (.bool true) ∧ Below W.heap.size W w' := by
  obtain ⟨us, hbs, hu, hlen⟩ := nats_of l hwf
  rw [hu] at hrow
  rw [← hlen] at hsz
  clear hu hlen hwf
  replace hbs : Hid (Bs us) := hbs
  go_enter Tryz.func3, Tryz.ntmps3
  go_wp2_with fail
  refine (begun_any _ hL).mono ?_
  rintro e w1 ⟨rfl, hb1⟩
  have hrow1 := Below.row hb1 hrow
  replace hb1 : Hid (Below W.heap.size W w1) := hb1
  clear hL
  go_wp2_with fail
  refine (of_any _ v us hrow1 hsz).mono ?_
  rintro e w2 ⟨v2, rfl, ho2, hb2⟩
  have hb3 : Hid (Below W.heap.size W w2) := hb1.out.trans (hb2.mono hb1.out.size)
  have hr2 := Row.of_owns ho2
  clear ho2 hb2 hb1 hrow1 hrow
  obtain ⟨ao, cap, rfl, h1, h2, h3, h4⟩ := hr2
  have hr2 : Hid (Row w2 (.slice ao (fvals us).length cap) (fvals us)) := ⟨ao, cap, rfl, h1, h2, h3, h4⟩
  have hfl : (fvals us).length = us.length := by simp [fvals]
  have h4' : Hid (At w2 ao (fvals us)) := h4
  rw [hfl] at hr2 ⊢
  clear h1 h2 h3 h4 hfl
  obtain ⟨n, hn⟩ : ∃ n, Hid (us.length = n) := ⟨_, rfl⟩
  rw [hn.out] at hsz hr2 ⊢
  obtain ⟨A, hA⟩ : ∃ A, Hid (minB us = A) := ⟨_, rfl⟩
  obtain ⟨B, hB⟩ : ∃ A, Hid (maxB us = A) := ⟨_, rfl⟩
  go_wp2_with fail
  refine (min_any _ _ us hr2.out hbs.out).mono ?_
  rintro e w3 ⟨rfl, rfl⟩
  rw [hA.out, hn.out]
  go_wp2_with fail
  refine (max_any _ _ us hr2.out hbs.out).mono ?_
  rintro e w3 ⟨rfl, rfl⟩
  rw [hB.out, hn.out]
  by_cases hn0 : n = 0
  · have hA0 : A = 0 := by rw [← hA.out, minB, if_pos (by rw [hn.out]; exact hn0)]
    have hB0 : B = 0 := by rw [← hB.out, maxB, if_pos (by rw [hn.out]; exact hn0)]
    subst hn0 hA0 hB0
    go_wp2_with fail
    refine (bits_any _ _ _).mono ?_
    rintro e w3 ⟨rfl, rfl⟩
    go_wp2_with fail
    refine (bits_any _ _ _).mono ?_
    rintro e w3 ⟨rfl, rfl⟩
    go_wp2
    go_ret
    exact ⟨rfl, hb3.out⟩
  · obtain ⟨e1, e2, e3, e4⟩ := ends hbs.out (by rw [hn.out]; exact hn0)
    rw [hA.out] at e1 e2 e3
    rw [hB.out] at e1 e2 e4
    replace e1 : Hid (∀ x ∈ us, nanB x = false → ¬ cmpB x A < 0 ∧ ¬ 0 < cmpB x B) := e1
    replace e2 : Hid ((someB us = true ∧ hasB A us = true ∧ hasB B us = true) ∨ (someB us = false ∧ nanB A = true ∧ nanB B = true)) := e2
    replace e3 : Hid (A < 18446744073709551616) := e3
    replace e4 : Hid (B < 18446744073709551616) := e4
    have hbeq : ((n : Int) == 0) = false := by simp; omega
    have hdec : decide (n ≠ 0) = true := decide_eq_true hn0
    rw [hdec]
    clear hdec
    go_wp2_with fail
    go_loopw [8, 9, 10, 11] (fun v8 v9 v10 v11 wr => ∃ (i : Nat) (p q r : Bool), i ≤ n ∧ v11 = .int .i64 (i : Int) ∧ v8 = .bool p ∧ v9 = .bool q ∧ v10 = .bool r ∧ Hid (p = hasB A (us.take i)) ∧ Hid (q = hasB B (us.take i)) ∧ Hid (r = someB (us.take i)) ∧ wr = w3) (fun _ _ _ v _ => n - (intOf v).toNat)
    case atStart => exact ⟨0, false, false, false, by omega, rfl, rfl, rfl, rfl, rfl, rfl, rfl, rfl⟩
    case round =>
      obtain ⟨i, p, q, r, hi, rfl, rfl, rfl, rfl, hp, hq, hr, rfl⟩ := hrel
      by_cases hin : i = n
      · have ht : us.take i = us := List.take_of_length_le (by have := hn.out; omega)
        have hfin : Hid ((r = true ∧ p = true ∧ q = true) ∨ (r = false ∧ nanB A = true ∧ nanB B = true)) := by
          rw [hp.out, hq.out, hr.out, ht]
          rcases e2.out with ⟨g1, g2, g3⟩ | g
          · exact Or.inl ⟨g1, g2, g3⟩
          · exact Or.inr g
        subst hin
        clear ht
        rcases hfin.out with ⟨rfl, rfl, rfl⟩ | ⟨rfl, g2, g3⟩
        · go_wp2
          go_ret
          exact ⟨rfl, hb3.out⟩
        · go_wp2_with fail
          refine (mathIsNaN_any _ A e3.out).mono ?_
          rintro e w4 ⟨rfl, rfl⟩
          rw [g2]
          go_wp2_with fail
          refine (mathIsNaN_any _ B e4.out).mono ?_
          rintro e w4 ⟨rfl, rfl⟩
          rw [g3]
          go_wp2
          go_ret
          exact ⟨rfl, hb3.out⟩
      · have hil : i < us.length := by have := hn.out; omega
        obtain ⟨x, hx⟩ : ∃ x, Hid (us[i] = x) := ⟨us[i], rfl⟩
        obtain ⟨rb, off, rfl, hcell⟩ := h4'.out i (by simp [fvals]; omega)
        have hcx : wr.cell? ⟨rb, off + i, none⟩ = some (.float .f64 x) := by
          rw [hcell, ← hx.out]
          simp [fvals]
        clear hcell
        have hxm : Hid (x ∈ us) := by rw [← hx.out]; exact List.getElem_mem hil
        have hxl : Hid (x < 18446744073709551616) := hbs.out x hxm.out
        have hp2 : Hid (hasB A (us.take (i + 1)) = (p || (!nanB x && decide (x = A)))) := by show _ = _; rw [hasB, any_snoc _ _ _ hil, hx.out, hp.out, hasB]
        have hq2 : Hid (hasB B (us.take (i + 1)) = (q || (!nanB x && decide (x = B)))) := by show _ = _; rw [hasB, any_snoc _ _ _ hil, hx.out, hq.out, hasB]
        have hr2' : Hid (someB (us.take (i + 1)) = (r || !nanB x)) := by show _ = _; rw [someB, any_snoc _ _ _ hil, hx.out, hr.out, someB]
        have i1 : (i : Int) < (n : Int) := by omega
        have i2 : (0 : Int) ≤ (i : Int) := by omega
        go_wp2_with fail
        refine (mathIsNaN_any _ x hxl.out).mono ?_
        rintro e w4 ⟨rfl, rfl⟩
        obtain ⟨nx, hnx⟩ : ∃ a, Hid (nanB x = a) := ⟨_, rfl⟩
        rw [hnx.out]
        cases nx
        · obtain ⟨c1, c2⟩ := e1.out x hxm.out hnx.out
          obtain ⟨d1, hd1⟩ : ∃ c, Hid (cmpB x A = c) := ⟨_, rfl⟩
          obtain ⟨d2, hd2⟩ : ∃ c, Hid (cmpB x B = c) := ⟨_, rfl⟩
          rw [hd1.out] at c1
          rw [hd2.out] at c2
          obtain ⟨t1, ht1⟩ : ∃ c, Hid (decide (x = A) = c) := ⟨_, rfl⟩
          obtain ⟨t2, ht2⟩ : ∃ c, Hid (decide (x = B) = c) := ⟨_, rfl⟩
          rw [hnx.out, ht1.out] at hp2
          rw [hnx.out, ht2.out] at hq2
          rw [hnx.out] at hr2'
          cases p <;> cases q
          all_goals go_wp2_with fail
          · refine (bits_any _ x A).mono ?_
            rintro e w4 ⟨rfl, rfl⟩
            rw [ht1.out]
            go_wp2_with fail
            refine (bits_any _ x B).mono ?_
            rintro e w4 ⟨rfl, rfl⟩
            rw [ht2.out]
            go_wp2_with fail
            refine (compare_any _ x A hxl.out e3.out).mono ?_
            rintro e w4 ⟨rfl, rfl⟩
            rw [hd1.out]
            go_wp2_with fail
            refine (compare_any _ x B hxl.out e4.out).mono ?_
            rintro e w4 ⟨rfl, rfl⟩
            rw [hd2.out]
            go_wp2_with fail
            go_roundw
            case rel => exact ⟨i + 1, t1, t2, true, by omega, by go_num, rfl, rfl, rfl, by rw [hp2.out]; rfl, by rw [hq2.out]; rfl, by show _ = _; rw [hr2'.out]; simp, by trivial⟩
            case measure => simp [intOf]; omega
          · refine (bits_any _ x A).mono ?_
            rintro e w4 ⟨rfl, rfl⟩
            rw [ht1.out]
            go_wp2_with fail
            refine (compare_any _ x A hxl.out e3.out).mono ?_
            rintro e w4 ⟨rfl, rfl⟩
            rw [hd1.out]
            go_wp2_with fail
            refine (compare_any _ x B hxl.out e4.out).mono ?_
            rintro e w4 ⟨rfl, rfl⟩
            rw [hd2.out]
            go_wp2_with fail
            go_roundw
            case rel => exact ⟨i + 1, t1, true, true, by omega, by go_num, rfl, rfl, rfl, by rw [hp2.out]; rfl, by rw [hq2.out]; rfl, by show _ = _; rw [hr2'.out]; simp, by trivial⟩
            case measure => simp [intOf]; omega
          · refine (bits_any _ x B).mono ?_
            rintro e w4 ⟨rfl, rfl⟩
            rw [ht2.out]
            go_wp2_with fail
            refine (compare_any _ x A hxl.out e3.out).mono ?_
            rintro e w4 ⟨rfl, rfl⟩
            rw [hd1.out]
            go_wp2_with fail
            refine (compare_any _ x B hxl.out e4.out).mono ?_
            rintro e w4 ⟨rfl, rfl⟩
            rw [hd2.out]
            go_wp2_with fail
            go_roundw
            case rel => exact ⟨i + 1, true, t2, true, by omega, by go_num, rfl, rfl, rfl, by rw [hp2.out]; rfl, by rw [hq2.out]; rfl, by show _ = _; rw [hr2'.out]; simp, by trivial⟩
            case measure => simp [intOf]; omega
          · refine (compare_any _ x A hxl.out e3.out).mono ?_
            rintro e w4 ⟨rfl, rfl⟩
            rw [hd1.out]
            go_wp2_with fail
            refine (compare_any _ x B hxl.out e4.out).mono ?_
            rintro e w4 ⟨rfl, rfl⟩
            rw [hd2.out]
            go_wp2_with fail
            go_roundw
            case rel => exact ⟨i + 1, true, true, true, by omega, by go_num, rfl, rfl, rfl, by rw [hp2.out]; rfl, by rw [hq2.out]; rfl, by show _ = _; rw [hr2'.out]; simp, by trivial⟩
            case measure => simp [intOf]; omega
        · rw [hnx.out] at hp2 hq2 hr2'
          go_wp2_with fail
          go_roundw
          case rel => exact ⟨i + 1, p, q, r, by omega, by go_num, rfl, rfl, rfl, by show _ = _; rw [hp2.out]; simp, by show _ = _; rw [hq2.out]; simp, by show _ = _; rw [hr2'.out]; simp, by trivial⟩
          case measure => simp [intOf]; omega
#print axioms ends_walk
end Go.Proofs.YtdjaekmndhhjgabGreatDoor.Rl
