/-
  The walk of SeriesAll.
-/
import Derived.Test.YtojohcckaklmpaaDoorSz
import Derived.Test.YtojohcckaklmpaaDoorSg
import Derived.Test.YtojohcckaklmpaaDoorSt
import Derived.Test.YtojohcckaklmpaaDoorRwA
namespace Go.Proofs.YtojohcckaklmpaaDoor.Sr
open Go.RowKit
open Go.Proofs.YtojohcckaklmpaaDoor.Rl (fvals Bs uvals nanB minB maxB sumB)
set_option maxRecDepth 100000
set_option linter.unusedVariables false

theorem pk_all (B : List Nat) (hB : IsB B) : ∀ k, k ≤ (B.length + 7) / 8 → ∃ m : List UInt8, unb m = (padded B).take (8 * k)
  | 0, _ => ⟨[], by simp [unb]⟩
  | k + 1, hk => by
    obtain ⟨m, hm⟩ := pk_all B hB k (by omega)
    have hl := padded_len B
    have hg : (((padded B).drop (8 * k)).take 8).length = 8 := by rw [List.length_take, List.length_drop]; omega
    have hib : IsB (((padded B).drop (8 * k)).take 8) := ((padded_isB hB).drop _).take _
    refine ⟨m ++ [UInt8.ofNat (ofB 0 (((padded B).drop (8 * k)).take 8))], ?_⟩
    rw [unb_snoc _ _ (by have := ofB_lt0 hib hg; simpa using this), hm, bitsOf_eq hib hg, ← List.take_add]
    congr 1
theorem pk_exists (us : List Nat) : ∃ m, Pk (putAll 0 0 us) m := by
  obtain ⟨m, hm⟩ := pk_all (putAll 0 0 us) (putAll_isB _ _ _) _ (Nat.le_refl _)
  refine ⟨m, ?_⟩
  rw [List.take_of_length_le (by rw [padded_len]; exact Nat.le_refl _)] at hm
  exact hm
set_option maxHeartbeats 8000000 in
theorem all_walk (W : World) (v : Value) (l : List Int) (hL : Tab W) (hrow : Row W v (l.map (Value.int .u64))) (hwf : ∀ n ∈ l, (Lit.int .u64 n).wf = true) (hsz : l.length * 8 ≤ 140737488355328) :
    Calls Tryd.prog 3 #[v] W fun e w' => e = .returned (.bool true) ∧ Below W.heap.size W w' := by
  have ksf : ∀ (w : World) (a : Addr) (x : Nat) (m : Mode), (store a (.float .f64 x) m).run Tryd.prog w = stored Tryd.prog w a (.float .f64 x) m := fun w a x m => run_store Tryd.prog w a _ m rfl
  obtain ⟨us, hbs, hu, hlen⟩ := Rl.nats_of l hwf
  rw [hu] at hrow
  rw [← hlen] at hsz
  clear hu hlen hwf
  replace hbs : Hid (Bs us) := hbs
  replace hL : Hid (Tab W) := hL
  go_enter Tryd.func3, Tryd.ntmps3
  go_wp2_with fail
  refine (begun_any _ hL.out).mono ?_
  rintro e w1 ⟨rfl, hb1⟩
  have hrow1 := Below.row hb1 hrow
  replace hb1 : Hid (Below W.heap.size W w1) := hb1
  clear hrow
  obtain ⟨ao0, cap0, rfl, g1, g2, g3, g4⟩ := hrow1
  have hul : (uvals us).length = us.length := by simp [uvals]
  have hrow1 : Hid (Row w1 (.slice ao0 (uvals us).length cap0) (uvals us)) := ⟨ao0, cap0, rfl, g1, g2, g3, g4⟩
  rw [hul] at hrow1 ⊢
  clear g1 g2 g3 g4 hul
  obtain ⟨n, hn⟩ : ∃ n, Hid (us.length = n) := ⟨_, rfl⟩
  rw [hn.out] at hsz hrow1 ⊢
  by_cases hbig : (6000 : Int) < (n : Int)
  · go_wp2
    go_ret
    exact ⟨rfl, hb1.out⟩
  · go_wp2_with fail
    refine (Rl.of_any _ _ us hrow1.out (by rw [hn.out]; exact hsz)).mono ?_
    rintro e w2 ⟨v2, rfl, ho2, hb2⟩
    have hb3 : Hid (Below W.heap.size W w2) := hb1.out.trans (hb2.mono hb1.out.size)
    have hr2 := Rl.Row.of_owns ho2
    clear ho2 hb2 hb1 hrow1
    obtain ⟨ao, cap, rfl, h1, h2, h3, h4⟩ := hr2
    have hfl : (fvals us).length = us.length := by simp [fvals]
    have hr2 : Hid (Row w2 (.slice ao (fvals us).length cap) (fvals us)) := ⟨ao, cap, rfl, h1, h2, h3, h4⟩
    rw [hfl, hn.out] at hr2 ⊢
    clear h1 h2 h3 h4 hfl
    have hn0 : w2.ownsRow w2.heap.size 26 1 (.slice none 0 0) ([] : List Nat).length (fvals []) := ⟨by simp [fvals], Or.inl ⟨rfl, rfl⟩⟩
    have hsz2 : (([] : List Nat).length + us.length) * 8 ≤ 140737488355328 := by rw [hn.out]; simpa using hsz
    go_wp2_with (at_builtin; refine Rl.wpList_append_floats rfl (.const (.slice none 0 0)) (.tmp 21) rfl w2.heap.size _ _ [] us rfl hn0 rfl hr2.out hsz2 (Nat.le_refl _) ?_)
    intro v3 w3 ho3 hb4
    clear hn0 hsz2
    have hr7 : ∀ o, Row (w3.alloc (.cells #[.float .f64 4619567317775286272] o)) (.slice (some ⟨w3.heap.size, 0, none⟩) 1 1) (fvals [4619567317775286272]) := by
      intro o
      refine ⟨some ⟨w3.heap.size, 0, none⟩, 1, rfl, fun e => by simp at e, by simp [fvals], by decide, fun i hi => ?_⟩
      have : i = 0 := by simp [fvals] at hi; omega
      subst this
      refine ⟨_, _, rfl, ?_⟩
      show (w3.alloc _).cell? ⟨w3.heap.size, 0, none⟩ = some (.float .f64 4619567317775286272)
      unfold World.cell?
      simp only [heap_alloc_new]
      rfl
    have hsz3 : (us.length + [4619567317775286272].length) * 8 ≤ 140737488355328 := by rw [hn.out]; simp; omega
    have hle3 := hb4.size
    go_wp2_with (at_builtin; refine Rl.wpList_append_floats rfl (.tmp 22) (.tmp 23) rfl w2.heap.size _ _ us [4619567317775286272] rfl (ho3.alloc _) rfl (hr7 _) hsz3 (by simp; omega) ?_)
    intro v4 w4 ho4 hb5
    have hb6 : Hid (Below w2.heap.size w2 w4) := (hb4.trans (Below.mono (box_below _ _) hb4.size)).trans hb5
    have hr3 : Hid (Row w4 (.slice ao n cap) (fvals us)) := Below.row hb6.out hr2.out
    have hex : ∃ g cap4, v4 = .slice (some ⟨g, 0, none⟩) (us.length + 1) cap4 ∧ us.length + 1 ≤ cap4 ∧ cap4 ≤ maxLen ∧ Hid (∀ i, i < us.length + 1 → w4.cell? ⟨g, i, none⟩ = (fvals (us ++ [4619567317775286272]))[i]?) := by
      have h0 := ho4
      obtain ⟨_, hor⟩ := ho4
      rcases hor with ⟨_, h⟩ | ⟨g, cap4, cur, hv, hg, hh, hn1, hm, hs, ht⟩
      · omega
      · refine ⟨g, cap4, hv, hn1, hm, fun i hi => ?_⟩
        subst hv
        exact h0.cellAt i (by omega)
    obtain ⟨g, cap4, hv4, hc4, hm4, hcell⟩ := hex
    rw [hv4]
    clear hv4 ho4 hb4 hb5 ho3 hr7 hsz3 hle3 hr2
    rw [hn.out] at hc4 hcell ⊢
    have hb7 : Hid (Below W.heap.size W w4) := hb3.out.trans (hb6.out.mono hb3.out.size)
    have hget : Hid (∀ i (h : i < us.length), w4.cell? ⟨g, i, none⟩ = some (.float .f64 us[i])) := by
      intro i h
      have := hn.out
      rw [hcell.out i (by omega)]
      unfold fvals
      rw [List.map_append, List.getElem?_append_left (by simpa using h)]
      simp [h]
    have hrl : Hid (Row w4 (.slice (some ⟨g, 0, none⟩) n cap4) (fvals us)) := by
      refine ⟨some ⟨g, 0, none⟩, cap4, by rw [show (fvals us).length = n by simp [fvals]; exact hn.out], fun e => by simp at e, by rw [show (fvals us).length = n by simp [fvals]; exact hn.out]; omega, hm4, fun i hi => ⟨g, 0, rfl, ?_⟩⟩
      have h2 : i < us.length := by simpa [fvals] using hi
      rw [Nat.zero_add, hget.out i h2]
      simp [fvals]
    have hlast : w4.cell? ⟨g, n, none⟩ = some (.float .f64 4619567317775286272) := by
      rw [hcell.out n (by omega), ← hn.out]
      simp [fvals]
    have s1 : (n : Int) ≤ (cap4 : Int) := by omega
    have s2 : (n : Int) + 1 ≤ (cap4 : Int) := by omega
    clear hcell hm4 hc4 hb3 hb6 hget
    have hcon : ∃ (Bt : List UInt8) (er k0 k1 : Int) (A C S : Nat),
        Hid (∀ q : World, Row q (.slice (some ⟨g, 0, none⟩) n cap4) (fvals us) → Tab q → Calls Tryd.prog 9 #[.slice (some ⟨g, 0, none⟩) n cap4] q fun e w' => ∃ v', e = .returned (.tuple #[v', .int .i64 er]) ∧ Sl w' v' Bt ∧ Below q.heap.size q w') ∧
        Hid (∀ q : World, Row q (.slice ao n cap) (fvals us) → Calls Tryd.prog 10 #[.slice ao n cap] q fun e w' => ∃ v', e = .returned (.tuple #[v', .int .i64 er]) ∧ Sl w' v' Bt ∧ Below q.heap.size q w') ∧
        Hid (∀ q : World, Row q (.slice (some ⟨g, 0, none⟩) n cap4) (fvals us) → Calls Tryd.prog 11 #[.slice (some ⟨g, 0, none⟩) n cap4] q fun e w' => e = .returned (.tuple #[.agg #[.int .i64 k0, .int .i64 k1, .float .f64 A, .float .f64 C, .float .f64 S], .int .i64 er]) ∧ Below q.heap.size q w') ∧
        Hid (∀ q : World, Row q (.slice ao n cap) (fvals us) → Calls Tryd.prog 12 #[.slice ao n cap] q fun e w' => e = .returned (.tuple #[.agg #[.int .i64 k0, .int .i64 k1, .float .f64 A, .float .f64 C, .float .f64 S], .int .i64 er]) ∧ Below q.heap.size q w') := by
      by_cases hm : us.length ≤ 4096
      · refine ⟨?_, 0, us.length, nansB us, minB us, maxB us, sumB us, ?_, ?_, fun q hq => tell_any q _ us hq hbs.out hm, fun q hq => rtell_any q _ us hq hbs.out hm⟩
        · exact enc us.length ++ Classical.choose (pk_exists us)
        · intro q hq hT
          refine (pack_any q _ us hq hbs.out hT hm).mono ?_
          rintro e w' ⟨v', m, rfl, hm1, ho, hb⟩
          obtain rfl := hm1.inj (Classical.choose_spec (pk_exists us))
          exact ⟨v', rfl, Sl.of_owns ho, hb⟩
        · intro q hq
          refine (rpack_any q _ us hq hbs.out hm).mono ?_
          rintro e w' ⟨v', m, rfl, hm1, ho, hb⟩
          obtain rfl := hm1.inj (Classical.choose_spec (pk_exists us))
          exact ⟨v', rfl, Sl.of_owns ho, hb⟩
      · refine ⟨[], 9, 0, 0, 0, 0, 0, ?_, ?_, fun q hq => tell_many q _ us hq (by omega), fun q hq => rtell_many q _ us hq (by omega)⟩
        · intro q hq hT
          refine (pack_many q _ us hq (by omega)).mono ?_
          rintro e w' ⟨rfl, rfl⟩
          exact ⟨_, rfl, Sl.nil _, Below.refl _ _⟩
        · intro q hq
          refine (rpack_many q _ us hq (by omega)).mono ?_
          rintro e w' ⟨rfl, rfl⟩
          exact ⟨_, rfl, Sl.nil _, Below.refl _ _⟩
    obtain ⟨Bt, er, k0, k1, A, C, S, hpack, hrpack, htell, hrtell⟩ := hcon
    go_wp2_with fail
    refine (hpack.out _ hrl.out (hL.out.below hb7.out)).mono ?_
    rintro e w5 ⟨v5, rfl, hs5, hb8⟩
    have hr35 : Hid (Row w5 (.slice ao n cap) (fvals us)) := Below.row hb8 hr3.out
    have hrl5 : Hid (Row w5 (.slice (some ⟨g, 0, none⟩) n cap4) (fvals us)) := Below.row hb8 hrl.out
    have hl5 : w5.cell? ⟨g, n, none⟩ = some (.float .f64 4619567317775286272) := by rw [hb8.cell (p := ⟨g, n, none⟩) (lt_of_cell hlast)]; exact hlast
    have hb9 : Hid (Below W.heap.size W w5) := hb7.out.trans (hb8.mono hb7.out.size)
    replace hs5 : Hid (Sl w5 v5 Bt) := hs5
    clear hb8 hlast hb7 hrl hr3 hpack
    go_wp2_with fail
    refine (hrpack.out _ hr35.out).mono ?_
    rintro e w6 ⟨v6, rfl, hs6, hb10⟩
    have hr36 : Hid (Row w6 (.slice ao n cap) (fvals us)) := Below.row hb10 hr35.out
    have hrl6 : Hid (Row w6 (.slice (some ⟨g, 0, none⟩) n cap4) (fvals us)) := Below.row hb10 hrl5.out
    have hl6 : w6.cell? ⟨g, n, none⟩ = some (.float .f64 4619567317775286272) := by rw [hb10.cell (p := ⟨g, n, none⟩) (lt_of_cell hl5)]; exact hl5
    have hs56 : Hid (Sl w6 v5 Bt) := Below.sl hb10 hs5.out
    have hb11 : Hid (Below W.heap.size W w6) := hb9.out.trans (hb10.mono hb9.out.size)
    replace hs6 : Hid (Sl w6 v6 Bt) := hs6
    clear hb10 hl5 hb9 hrl5 hr35 hrpack hs5
    go_wp2_with fail
    refine (htell.out _ hrl6.out).mono ?_
    rintro e w7 ⟨rfl, hb12⟩
    have hbx : Below w6.heap.size w6 (w7.alloc (.cells #[.int .i64 k0, .int .i64 k1, .float .f64 A, .float .f64 C, .float .f64 S] 32)) := hb12.trans ((box_below _ _).mono hb12.size)
    have hF : Five (w7.alloc (.cells #[.int .i64 k0, .int .i64 k1, .float .f64 A, .float .f64 C, .float .f64 S] 32)) w7.heap.size (.int .i64 k0) (.int .i64 k1) (.float .f64 A) (.float .f64 C) (.float .f64 S) := heap_alloc_new _ _
    clear hb12 htell
    have hr37 : Hid (Row (w7.alloc (.cells #[.int .i64 k0, .int .i64 k1, .float .f64 A, .float .f64 C, .float .f64 S] 32)) (.slice ao n cap) (fvals us)) := Below.row hbx hr36.out
    have hrl7 : Hid (Row (w7.alloc (.cells #[.int .i64 k0, .int .i64 k1, .float .f64 A, .float .f64 C, .float .f64 S] 32)) (.slice (some ⟨g, 0, none⟩) n cap4) (fvals us)) := Below.row hbx hrl6.out
    have hl7 : (w7.alloc (.cells #[.int .i64 k0, .int .i64 k1, .float .f64 A, .float .f64 C, .float .f64 S] 32)).cell? ⟨g, n, none⟩ = some (.float .f64 4619567317775286272) := by rw [hbx.cell (p := ⟨g, n, none⟩) (lt_of_cell hl6)]; exact hl6
    have hs57 : Hid (Sl (w7.alloc (.cells #[.int .i64 k0, .int .i64 k1, .float .f64 A, .float .f64 C, .float .f64 S] 32)) v5 Bt) := Below.sl hbx hs56.out
    have hs67 : Hid (Sl (w7.alloc (.cells #[.int .i64 k0, .int .i64 k1, .float .f64 A, .float .f64 C, .float .f64 S] 32)) v6 Bt) := Below.sl hbx hs6.out
    have hb13 : Hid (Below W.heap.size W (w7.alloc (.cells #[.int .i64 k0, .int .i64 k1, .float .f64 A, .float .f64 C, .float .f64 S] 32))) := hb11.out.trans (hbx.mono hb11.out.size)
    obtain ⟨tb, htb⟩ : ∃ tb, Hid (w7.heap.size = tb) := ⟨_, rfl⟩
    go_wp2_with fail
    rw [htb.out] at hF ⊢
    generalize w7.alloc (.cells #[.int .i64 k0, .int .i64 k1, .float .f64 A, .float .f64 C, .float .f64 S] 32) = w8 at *
    replace hF : Hid (Five w8 tb (.int .i64 k0) (.int .i64 k1) (.float .f64 A) (.float .f64 C) (.float .f64 S)) := hF
    clear hbx hr36 hrl6 hl6 hs56 hs6 hb11
    refine (hrtell.out _ hr37.out).mono ?_
    rintro e w9 ⟨rfl, hb14⟩
    have hbx : Below w8.heap.size w8 (w9.alloc (.cells #[.int .i64 k0, .int .i64 k1, .float .f64 A, .float .f64 C, .float .f64 S] 32)) := hb14.trans ((box_below _ _).mono hb14.size)
    have hF2 : Five (w9.alloc (.cells #[.int .i64 k0, .int .i64 k1, .float .f64 A, .float .f64 C, .float .f64 S] 32)) w9.heap.size (.int .i64 k0) (.int .i64 k1) (.float .f64 A) (.float .f64 C) (.float .f64 S) := heap_alloc_new _ _
    have hF3 : Five (w9.alloc (.cells #[.int .i64 k0, .int .i64 k1, .float .f64 A, .float .f64 C, .float .f64 S] 32)) tb (.int .i64 k0) (.int .i64 k1) (.float .f64 A) (.float .f64 C) (.float .f64 S) := hF.out.below hbx
    have hr38 : Hid (Row (w9.alloc (.cells #[.int .i64 k0, .int .i64 k1, .float .f64 A, .float .f64 C, .float .f64 S] 32)) (.slice ao n cap) (fvals us)) := Below.row hbx hr37.out
    have hrl8 : Hid (Row (w9.alloc (.cells #[.int .i64 k0, .int .i64 k1, .float .f64 A, .float .f64 C, .float .f64 S] 32)) (.slice (some ⟨g, 0, none⟩) n cap4) (fvals us)) := Below.row hbx hrl7.out
    have hl8 : (w9.alloc (.cells #[.int .i64 k0, .int .i64 k1, .float .f64 A, .float .f64 C, .float .f64 S] 32)).cell? ⟨g, n, none⟩ = some (.float .f64 4619567317775286272) := by rw [hbx.cell (p := ⟨g, n, none⟩) (lt_of_cell hl7)]; exact hl7
    have hs58 : Hid (Sl (w9.alloc (.cells #[.int .i64 k0, .int .i64 k1, .float .f64 A, .float .f64 C, .float .f64 S] 32)) v5 Bt) := Below.sl hbx hs57.out
    have hs68 : Hid (Sl (w9.alloc (.cells #[.int .i64 k0, .int .i64 k1, .float .f64 A, .float .f64 C, .float .f64 S] 32)) v6 Bt) := Below.sl hbx hs67.out
    have hb15 : Hid (Below W.heap.size W (w9.alloc (.cells #[.int .i64 k0, .int .i64 k1, .float .f64 A, .float .f64 C, .float .f64 S] 32))) := hb13.out.trans (hbx.mono hb13.out.size)
    obtain ⟨ub, hub⟩ : ∃ ub, Hid (w9.heap.size = ub) := ⟨_, rfl⟩
    obtain ⟨d0, d1, d2, d3, d4⟩ := hF3.c
    clear hF3 hF hb14 hbx hr37 hrl7 hl7 hs57 hs67 hb13 hrtell
    go_wp2_with fail
    refine (Rl.bits_any _ A A).mono ?_
    rintro e wx ⟨rfl, hwx⟩
    subst hwx
    rw [decide_eq_true rfl]
    rw [hub.out] at hF2 ⊢
    obtain ⟨b0, b1, b2, b3, b4⟩ := hF2.c
    generalize w9.alloc (.cells #[.int .i64 k0, .int .i64 k1, .float .f64 A, .float .f64 C, .float .f64 S] 32) = wz at *
    clear hF2
    go_wp2_with fail
    refine (Rl.bits_any _ C C).mono ?_
    rintro e wx ⟨rfl, hwx⟩
    subst hwx
    rw [decide_eq_true rfl]
    go_wp2_with fail
    refine (Rl.bits_any _ S S).mono ?_
    rintro e wy ⟨rfl, hwy⟩
    subst hwy
    rw [decide_eq_true rfl]
    clear b0 b1 b2 b3 b4 d0 d1 d2 d3 d4
    have heq1 : Hid (Calls Tryd.prog 14 #[v5, v6] wy fun e w' => e = .returned (.bool (decide (Bt = Bt))) ∧ Qt wy w') := eq_sl wy _ _ _ _ hs58.out hs68.out
    rw [decide_eq_true rfl] at heq1
    go_wp2_with fail
    refine heq1.out.mono ?_
    rintro e wa ⟨rfl, hqa⟩
    have hr39 : Hid (Row wa (.slice ao n cap) (fvals us)) := Below.row (Qt.below hqa _) hr38.out
    have hrl9 : Hid (Row wa (.slice (some ⟨g, 0, none⟩) n cap4) (fvals us)) := Below.row (Qt.below hqa _) hrl8.out
    have hl9 : wa.cell? ⟨g, n, none⟩ = some (.float .f64 4619567317775286272) := by rw [(Qt.below hqa _).cell (p := ⟨g, n, none⟩) (lt_of_cell hl8)]; exact hl8
    have hb16 : Hid (Below W.heap.size W wa) := hb15.out.trans (Qt.below hqa _)
    clear heq1 hqa hr38 hrl8 hl8 hb15 hs58 hs68
    have heq2 : Hid (Calls Tryd.prog 15 #[.slice (some ⟨g, 0, none⟩) n cap4, .slice ao n cap] wa fun e w' => e = .returned (.bool (decide (us = us))) ∧ Qt wa w') := feq_any wa _ _ us us hrl9.out hr39.out
    rw [decide_eq_true rfl] at heq2
    go_wp2_with fail
    refine heq2.out.mono ?_
    rintro e wb ⟨rfl, hqb⟩
    have hl10 : wb.cell? ⟨g, n, none⟩ = some (.float .f64 4619567317775286272) := by rw [(Qt.below hqb _).cell (p := ⟨g, n, none⟩) (lt_of_cell hl9)]; exact hl9
    have hb17 : Hid (Below W.heap.size W wb) := hb16.out.trans (Qt.below hqb _)
    have o7 : FloatKind.f64.format.order 4619567317775286272 4619567317775286272 = some Ordering.eq := by decide +kernel
    have i0 : (0 : Int) ≤ (n : Int) := by omega
    clear heq2 hqb hr39 hrl9 hl9 hb16
    go_wp2
    go_ret
    exact ⟨rfl, hb17.out⟩
#print axioms all_walk
end Go.Proofs.YtojohcckaklmpaaDoor.Sr
