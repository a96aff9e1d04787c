/-
  append(s, x...) of floats; the walk of RealLists.
-/
import Derived.Test.YtmmmpdfoigkljaaGreatDoorRwS
import Derived.Test.YtmmmpdfoigkljaaGreatDoorRwF
import Derived.Test.YtmmmpdfoigkljaaGreatDoorRlY
import Derived.Deep.QuietTactic
import Derived.BigQuiet
namespace Go.Proofs.YtmmmpdfoigkljaaGreatDoor.Rl
open Go.RowKit
set_option maxRecDepth 100000

/-- append(s, x...), s the call's own floats l, x a slice of floats m. -/
theorem wpList_append_floats {w : World} {ops : Array Oper} {rest : List Oper} {o : Oper} {a : Act} {Q : Exit → Act → World → Prop} (hgd : o.guard = none) (s x : Operand)
    (ho : o.op = .call { callee := .builtin .append, args := #[s, x], argTypes := #[24, 24] })
    (base : Nat) (v vx : Value) (l m : List Nat) (hs : a.eval s = v) (hown : w.ownsRow base 26 1 v l.length (fvals l)) (hx : a.eval x = vx) (hsl : Row w vx (fvals m))
    (hbytes : (l.length + m.length) * 8 ≤ 140737488355328) (hbase : base ≤ w.heap.size)
    (h : ∀ v' w', w'.ownsRow base 26 1 v' (l ++ m).length (fvals (l ++ m)) → Below base w w' → wpList Tryz.prog ops Q rest (a.put o.dst v') w') : wpList Tryz.prog ops Q (o :: rest) a w := by
  obtain ⟨i0, hi, hz0, hz1, hz2⟩ := infoF_parts Tryz.infoF64
  obtain ⟨ao, cap, rfl, h2, h3, h4, h5⟩ := hsl
  have hlm : (fvals m).length = m.length := by simp [fvals]
  cases ao with
  | none =>
    obtain ⟨e0, rfl⟩ := h2 rfl
    have e1 : m = [] := by simpa [fvals] using e0
    subst e1
    refine wpList_append_own_none hgd s x 24 ho base 26 i0 1 Tryz.underlying24 hi v l.length (fvals l) hs hown hx ?_
    exact h v w (by simpa using hown) (Below.refl _ _)
  | some ad =>
    have hcells : ∀ j u, (fvals m)[j]? = some u → w.cell? (ad.add j) = some u := by
      intro j u hu
      have hj : j < (fvals m).length := (List.getElem?_eq_some_iff.1 hu).1
      obtain ⟨b, off, e1, hc⟩ := h5 j hj
      simp only [Option.some.injEq] at e1
      subst e1
      have e2 : (fvals m)[j] = u := (List.getElem?_eq_some_iff.1 hu).2
      have ea : (⟨b, off, none⟩ : Addr).add j = ⟨b, off + j, none⟩ := by
        unfold Addr.add; split <;> simp_all
      rw [ea, hc, e2]
    refine wpList_append_own w hgd s x 24 ho base 26 i0 (.float .f64 0) 1 8 Tryz.underlying24 hi hz0 hz1 hz2 rfl (by decide) v l.length (fvals l) hs hown ad (fvals m).length cap (fvals m) hx (by simp) hcells ?_ (by rw [hlm]; unfold maxLen; omega) (by rw [hlm]; omega) hbase ?_
    · intro u hu
      simp only [fvals, List.mem_map] at hu
      obtain ⟨c, _, rfl⟩ := hu
      rfl
    · intro v' w' ho' hg _
      refine h v' w' ?_ ((Below.refl _ _).grown hg hbase fun k hk => (hown.lt k hk).1)
      have e1 : fvals (l ++ m) = fvals l ++ fvals m := by simp [fvals]
      rw [List.length_append, e1, ← hlm]
      exact ho'
#print axioms wpList_append_floats
set_option maxHeartbeats 2000000 in
theorem lists_walk (W : World) (v : Value) (l : List Int) (hL : Laid W) (hrow : Row W v (l.map (Value.int .u64))) (hwf : ∀ n ∈ l, (Lit.int .u64 n).wf = true) (hsz : l.length * 8 ≤ 140737488355328) :
    Calls Tryz.prog 3 #[v] W fun e w' => e = .returned (.bool true) ∧ Below W.heap.size W w' := by
  obtain ⟨us, hbs, hu, hlen⟩ := nats_of l hwf
  rw [hu] at hrow
  rw [← hlen] at hsz
  clear hu hlen hwf
  replace hbs : Hid (Bs us) := hbs
  go_enter Tryz.func3, Tryz.ntmps3
  go_wp2_with fail
  refine (begun_any _ hL).mono ?_
  rintro e w1 ⟨rfl, hb1⟩
  have hrow1 := Below.row hb1 hrow
  replace hb1 : Hid (Below W.heap.size W w1) := hb1
  clear hL hrow
  obtain ⟨ao0, cap0, rfl, g1, g2, g3, g4⟩ := hrow1
  have hul : (uvals us).length = us.length := by simp [uvals]
  have hrow1 : Hid (Row w1 (.slice ao0 (uvals us).length cap0) (uvals us)) := ⟨ao0, cap0, rfl, g1, g2, g3, g4⟩
  rw [hul] at hrow1 ⊢
  clear g1 g2 g3 g4 hul
  obtain ⟨n, hn⟩ : ∃ n, Hid (us.length = n) := ⟨_, rfl⟩
  rw [hn.out] at hsz hrow1 ⊢
  by_cases hbig : (2000 : Int) < (n : Int)
  · go_wp2
    go_ret
    exact ⟨rfl, hb1.out⟩
  · go_wp2_with fail
    refine (of_any _ _ us hrow1.out (by rw [hn.out]; exact hsz)).mono ?_
    rintro e w2 ⟨v2, rfl, ho2, hb2⟩
    have hb3 : Hid (Below W.heap.size W w2) := hb1.out.trans (hb2.mono hb1.out.size)
    have hr2 := Row.of_owns ho2
    clear ho2 hb2 hb1 hrow1
    obtain ⟨ao, cap, rfl, h1, h2, h3, h4⟩ := hr2
    have hfl : (fvals us).length = us.length := by simp [fvals]
    have hr2 : Hid (Row w2 (.slice ao (fvals us).length cap) (fvals us)) := ⟨ao, cap, rfl, h1, h2, h3, h4⟩
    have hat2 : Hid (At w2 ao (fvals us)) := h4
    rw [hfl, hn.out] at hr2 ⊢
    clear h1 h2 h3 h4 hfl
    have hn0 : w2.ownsRow w2.heap.size 26 1 (.slice none 0 0) ([] : List Nat).length (fvals []) := ⟨by simp [fvals], Or.inl ⟨rfl, rfl⟩⟩
    have hsz2 : (([] : List Nat).length + us.length) * 8 ≤ 140737488355328 := by rw [hn.out]; simpa using hsz
    go_wp2_with (at_builtin; refine wpList_append_floats rfl (.const (.slice none 0 0)) (.tmp 22) rfl w2.heap.size _ _ [] us rfl hn0 rfl hr2.out hsz2 (Nat.le_refl _) ?_)
    intro v3 w3 ho3 hb4
    clear hn0 hsz2
    have hr7 : ∀ o, Row (w3.alloc (.cells #[.float .f64 4619567317775286272] o)) (.slice (some ⟨w3.heap.size, 0, none⟩) 1 1) (fvals [4619567317775286272]) := by
      intro o
      refine ⟨some ⟨w3.heap.size, 0, none⟩, 1, rfl, fun e => by simp at e, by simp [fvals], by decide, fun i hi => ?_⟩
      have : i = 0 := by simp [fvals] at hi; omega
      subst this
      refine ⟨_, _, rfl, ?_⟩
      show (w3.alloc _).cell? ⟨w3.heap.size, 0, none⟩ = some (.float .f64 4619567317775286272)
      unfold World.cell?
      simp only [heap_alloc_new]
      rfl
    have hsz3 : (us.length + [4619567317775286272].length) * 8 ≤ 140737488355328 := by rw [hn.out]; simp; omega
    have hle3 := hb4.size
    go_wp2_with (at_builtin; refine wpList_append_floats rfl (.tmp 23) (.tmp 24) rfl w2.heap.size _ _ us [4619567317775286272] rfl (ho3.alloc _) rfl (hr7 _) hsz3 (by simp; omega) ?_)
    intro v4 w4 ho4 hb5
    have hb6 : Hid (Below w2.heap.size w2 w4) := (hb4.trans (Below.mono (box_below _ _) hb4.size)).trans hb5
    have hr3 : Hid (Row w4 (.slice ao n cap) (fvals us)) := Below.row hb6.out hr2.out
    have hat3 : Hid (At w4 ao (fvals us)) := by
      obtain ⟨ao', cap', e, _, _, _, h4⟩ := hr3.out
      simp only [Value.slice.injEq] at e
      obtain ⟨rfl, _, _⟩ := e
      exact h4
    have hex : ∃ g cap4, v4 = .slice (some ⟨g, 0, none⟩) (us.length + 1) cap4 ∧ us.length + 1 ≤ cap4 ∧ cap4 ≤ maxLen ∧ Hid (∀ i, i < us.length + 1 → w4.cell? ⟨g, i, none⟩ = (fvals (us ++ [4619567317775286272]))[i]?) := by
      have h0 := ho4
      obtain ⟨_, hor⟩ := ho4
      rcases hor with ⟨_, h⟩ | ⟨g, cap4, cur, hv, hg, hh, hn1, hm, hs, ht⟩
      · omega
      · refine ⟨g, cap4, hv, hn1, hm, fun i hi => ?_⟩
        subst hv
        exact h0.cellAt i (by omega)
    obtain ⟨g, cap4, hv4, hc4, hm4, hcell⟩ := hex
    rw [hv4]
    clear hv4 ho4 hb4 hb5 ho3 hr7 hsz3 hle3 hat2 hr2
    rw [hn.out] at hc4 hcell ⊢
    have hb7 : Hid (Below W.heap.size W w4) := hb3.out.trans (hb6.out.mono hb3.out.size)
    have hget : Hid (∀ i (h : i < us.length), w4.cell? ⟨g, i, none⟩ = some (.float .f64 us[i])) := by
      intro i h
      have := hn.out
      rw [hcell.out i (by omega)]
      unfold fvals
      rw [List.map_append, List.getElem?_append_left (by simpa using h)]
      simp [h]
    have hrl : Hid (Row w4 (.slice (some ⟨g, 0, none⟩) n cap4) (fvals us)) := by
      refine ⟨some ⟨g, 0, none⟩, cap4, by rw [show (fvals us).length = n by simp [fvals]; exact hn.out], fun e => by simp at e, by rw [show (fvals us).length = n by simp [fvals]; exact hn.out]; omega, hm4, fun i hi => ⟨g, 0, rfl, ?_⟩⟩
      have h2 : i < us.length := by simpa [fvals] using hi
      rw [Nat.zero_add, hget.out i h2]
      simp [fvals]
    have hlast : w4.cell? ⟨g, n, none⟩ = some (.float .f64 4619567317775286272) := by
      rw [hcell.out n (by omega), ← hn.out]
      simp [fvals]
    have s1 : (n : Int) ≤ (cap4 : Int) := by omega
    have s2 : (n : Int) + 1 ≤ (cap4 : Int) := by omega
    clear hcell hm4 hc4 hb3
    obtain ⟨A, hA⟩ : ∃ A, Hid (minB us = A) := ⟨_, rfl⟩
    obtain ⟨B, hB⟩ : ∃ A, Hid (maxB us = A) := ⟨_, rfl⟩
    obtain ⟨D, hD⟩ : ∃ A, Hid (decide (us.length ≠ 0) = A) := ⟨_, rfl⟩
    obtain ⟨S, hS⟩ : ∃ A, Hid (sumB us = A) := ⟨_, rfl⟩
    go_wp2_with fail
    refine (min_any _ _ us hrl.out hbs.out).mono ?_
    rintro e w5 ⟨rfl, rfl⟩
    rw [hA.out, hD.out]
    go_wp2_with fail
    refine (refMin_any _ _ us hr3.out hbs.out).mono ?_
    rintro e w5 ⟨rfl, rfl⟩
    rw [hA.out, hD.out]
    go_wp2_with fail
    refine (max_any _ _ us hrl.out hbs.out).mono ?_
    rintro e w5 ⟨rfl, rfl⟩
    rw [hB.out, hD.out]
    go_wp2_with fail
    refine (refMax_any _ _ us hr3.out hbs.out).mono ?_
    rintro e w5 ⟨rfl, rfl⟩
    rw [hB.out, hD.out]
    go_wp2_with fail
    refine (sum_any _ _ us hrl.out hbs.out).mono ?_
    rintro e w6 ⟨rfl, hb8⟩
    rw [hS.out]
    have hr6 : Hid (Row w6 (.slice ao n cap) (fvals us)) := Below.row hb8 hr3.out
    have hget6 : Hid (∀ i (h : i < us.length), w6.cell? ⟨g, i, none⟩ = some (.float .f64 us[i])) := fun i h => by
      have := hget.out i h
      rw [hb8.cell (p := ⟨g, i, none⟩) (lt_of_cell this)]; exact this
    have hat6 : Hid (At w6 ao (fvals us)) := fun i hi => by
      obtain ⟨b, off, e, hc⟩ := hat3.out i hi
      exact ⟨b, off, e, by rw [hb8.cell (p := ⟨b, off + i, none⟩) (lt_of_cell hc)]; exact hc⟩
    have hlast6 : w6.cell? ⟨g, n, none⟩ = some (.float .f64 4619567317775286272) := by rw [hb8.cell (p := ⟨g, n, none⟩) (lt_of_cell hlast)]; exact hlast
    have hb9 : Hid (Below W.heap.size W w6) := hb7.out.trans (hb8.mono hb7.out.size)
    clear hlast hb8 hb7
    go_wp2_with fail
    go_loopw [14] (fun v wr => ∃ i : Nat, i ≤ n ∧ v = .int .i64 (i : Int) ∧ Qt w6 wr) (fun v _ => n - (intOf v).toNat)
    case atStart => exact ⟨0, by omega, rfl, ⟨0, rfl⟩⟩
    case round =>
      obtain ⟨i, hi, rfl, hq⟩ := hrel
      replace hq : Hid (Qt w6 wr) := hq
      by_cases hin : i = n
      · subst hin
        have hl7 : wr.cell? ⟨g, i, none⟩ = some (.float .f64 4619567317775286272) := by rw [(Qt.below hq.out _).cell (p := ⟨g, i, none⟩) (lt_of_cell hlast6)]; exact hlast6
        have o7 : FloatKind.f64.format.order 4619567317775286272 4619567317775286272 = some Ordering.eq := by decide +kernel
        have hr7 : Hid (Row wr (.slice ao i cap) (fvals us)) := Below.row (Qt.below hq.out _) hr6.out
        have hb10 : Hid (Below W.heap.size W wr) := hb9.out.trans (Qt.below hq.out _)
        have i0 : (0 : Int) ≤ (i : Int) := by omega
        clear hlast6
        go_wp2_with fail
        refine (bits_any _ A A).mono ?_
        rintro e w7 ⟨rfl, rfl⟩
        rw [decide_eq_true rfl]
        go_wp2_with fail
        refine (bits_any _ B B).mono ?_
        rintro e w7 ⟨rfl, rfl⟩
        rw [decide_eq_true rfl]
        go_wp2_with fail
        refine (wsum_any _ _ us hr7.out hbs.out).mono ?_
        rintro e w8 ⟨rfl, hb11⟩
        rw [hS.out]
        go_wp2_with fail
        refine (bits_any _ S S).mono ?_
        rintro e w9 ⟨rfl, rfl⟩
        rw [decide_eq_true rfl]
        go_wp2
        go_ret
        exact ⟨rfl, hb10.out.trans (hb11.mono hb10.out.size)⟩
      · have hil : i < us.length := by have := hn.out; omega
        obtain ⟨x, hx⟩ : ∃ x, Hid (us[i] = x) := ⟨us[i], rfl⟩
        obtain ⟨rb, off, rfl, hc1⟩ := hat6.out i (by simp [fvals]; omega)
        have hcx : wr.cell? ⟨rb, off + i, none⟩ = some (.float .f64 x) := by
          rw [(Qt.below hq.out _).cell (p := ⟨rb, off + i, none⟩) (lt_of_cell hc1), hc1, ← hx.out]
          simp [fvals]
        have hc2 := hget6.out i hil
        have hcy : wr.cell? ⟨g, i, none⟩ = some (.float .f64 x) := by
          rw [(Qt.below hq.out _).cell (p := ⟨g, i, none⟩) (lt_of_cell hc2), hc2, hx.out]
        have i1 : (i : Int) < (n : Int) := by omega
        have i2 : (0 : Int) ≤ (i : Int) := by omega
        clear hc1 hc2 hlast6
        go_wp2_with fail
        go_quiet (first | (go_at_call 12; exact Calls.quiet_of_same (bits_any _ x x)))
        go_wp2_with fail
        go_roundw
        case rel => exact ⟨i + 1, by omega, by go_num, hq.out.trans ⟨nq, rfl⟩⟩
        case measure => simp [intOf]; omega
#print axioms lists_walk
end Go.Proofs.YtmmmpdfoigkljaaGreatDoor.Rl
