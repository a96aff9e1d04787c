/-
  The document's Run. (gen_TfN.py)
-/
import Derived.Test.YtiiinpmkidobgaaDoorA08
namespace Go.Proofs.YtiiinpmkidobgaaDoor.Sd
open Go.RowKit
open Ix (wp_region_T wpAnyT wpAnyT_take wpAnyT_one wpAnyT_done vac)
set_option linter.unusedVariables false
set_option linter.unusedSimpArgs false
set_option maxRecDepth 100000
def intO : Option Value → Nat
  | some (.int _ x) => x.toNat
  | _ => 0
theorem intO_of {o : Option Value} {n : Nat} (h : o = some (.int .i64 (n : Int))) : intO o = n := by rw [h]; rfl
theorem regs_dup {w0 u : World} {us : List Value} {rb : Nat} {X : Nat → Value} {S : St} {la : Int} (h : DA w0 us u rb X (dOf S la)) :
    ∃ a7 n7 c7 w7, Hid ((Builtin.append_ #[29, 29] 29 #[.slice none 0 0, .slice (some ⟨rb, 13, none⟩) 8 8]).run Tryd.prog u = .ok (.slice a7 n7 c7) w7) ∧ Hid (Iw u.heap.size w7 (.slice a7 n7 c7) (regs S)) ∧ Hid (Below u.heap.size u w7) := by
  obtain ⟨i0, hi, hz0, hz1, hz2⟩ := info_parts infoN
  have hl : ((regs S).map (Value.int .i64)).length = 8 := by simp [regs]
  have hc : ∀ j x, ((regs S).map (Value.int .i64))[j]? = some x → u.cell? ((⟨rb, 13, none⟩ : Addr).add j) = some x := by
    intro j x hx
    have hj : j < 8 := by have := (List.getElem?_eq_some_iff.1 hx).1; rw [hl] at this; exact this
    rw [addr_add]
    have := h.gcell hj
    rw [this, ← hx]
    simp [regs, hj, dOf]
  obtain ⟨v', w', hr, ho, hg, _, hat⟩ := run_append_own_at (P := Tryd.prog) u u.heap.size 29 29 2 i0 (.int .i64 0) 1 8 Tryd.underlying29 hi hz0 hz1 hz2 rfl (by decide) (.slice none 0 0) 0 [] (World.ownsRow_nil _ _ _ _) ⟨rb, 13, none⟩ 8 8 _ hl hc (ns_one _) (by unfold maxLen; omega) (by omega) (Nat.le_refl _)
  obtain ⟨a7, c7, e7⟩ := slice_ofR ho
  subst e7
  refine ⟨a7, _, c7, w', hr, ?_, (Below.refl _ _).grown hg (Nat.le_refl _) (fun k hk => by simp [Value.ownBlock] at hk)⟩
  have e8 : (regs S).length = 8 := by simp [regs]
  show World.ownsRow _ _ _ _ _ _ _
  rw [e8]
  simpa using ho
theorem ques_dup {w0 w u : World} {us : List Value} {rb : Nat} {X : Nat → Value} {S : St} {g : Nat} {tv rv ev qv : Value} {vs : List Value} {G : List Int} {E : List (Int × Int)} {i : Nat} (h : Rz w0 w us rb X S g tv u rv ev qv vs G E (quesI S i)) (hi : i < 4) {qa : Option Addr} {qn qc : Nat} (hX : X (5 + i) = .slice qa qn qc) (hqn : (S.qu i).length = qn) :
    ∃ a7 n7 c7 w7 a8 n8 c8 w8, Hid ((Builtin.append_ #[29, 29] 29 #[.slice none 0 0, .slice qa qn qc]).run Tryd.prog u = .ok (.slice a7 n7 c7) w7) ∧ Hid ((Builtin.append_ #[31, 31] 31 #[qv, .slice (some ⟨w7.heap.size, 0, none⟩) 1 1]).run Tryd.prog (w7.alloc (.cells #[.slice a7 n7 c7] 29)) = .ok (.slice a8 n8 c8) w8) ∧ Hid (Below u.heap.size u w7 ∧ Rz w0 w us rb X S g tv (w8.setCell ⟨g, 4, none⟩ (.slice a8 n8 c8)) rv ev (.slice a8 n8 c8) (vs ++ [.slice a7 n7 c7]) G E (quesI S (i + 1)) ∧ w8.cell? ⟨g, 4, none⟩ = some qv ∧ w8.frozen? ⟨g, 4, none⟩ = false ∧ ∀ k, k < u.heap.size → k < w.heap.size → w8.heap[k]? = u.heap[k]?) := by
  have q := h.gd.da.qu i hi
  rw [hX] at q
  have hlen : (S.qu i).length ≤ 1000 := by have := h.gd.ok.qu i; have := h.gd.ok.r2; omega
  have q' : Iw w0.heap.size u (.slice qa qn qc) (S.qu i) := q
  obtain ⟨i0, hi0, hz0, hz1, hz2⟩ := info_parts infoN
  obtain ⟨v7, w7, r7, o7, b7⟩ := run_dupV (z := .int .i64 0) (by_ := 8) q' Tryd.underlying29 hi0 hz0 hz1 hz2 rfl (by decide) (by simp) (ns_one _) (by omega) (by decide) 29
  obtain ⟨a7, c7, e7⟩ := slice_ofR o7
  obtain ⟨n7, hn7⟩ : ∃ n7, (S.qu i).length = n7 := ⟨_, rfl⟩
  have I7 : Iw u.heap.size w7 v7 (S.qu i) := o7
  have bb := box_below w7 (.cells #[v7] 29)
  have hv1 : v7.oneCell' = true := by rw [e7]; rfl
  have N6 : (w7.alloc (.cells #[v7] 29)).cell? ⟨w7.heap.size, 0, none⟩ = some v7 := by rw [cell_of (heap_alloc_new w7 _)]; rfl
  have hb2 : Below u.heap.size u (w7.alloc (.cells #[v7] 29)) := keepF b7 bb
  have Z := h.below hb2
  have hvl : vs.length ≤ 4 := by rw [h.ql.1]; simp [quesI]; omega
  obtain ⟨v8, w8, r8, o8, g8, n8⟩ := run_appW v7 hv1 w7.heap.size Z.qs N6 (by omega) (Nat.le_trans h.sz hb2.size) 31
  obtain ⟨a8, c8, e8⟩ := slice_ofR o8
  obtain ⟨m8, hm8⟩ : ∃ m8, vs.length + 1 = m8 := ⟨_, rfl⟩
  obtain ⟨Z1, Z2, Z3⟩ := h.addQ hb2 (row_below I7 bb) g8 o8 n8
  rw [← quesI_succ] at Z1
  have K : ∀ k, k < u.heap.size → k < w.heap.size → w8.heap[k]? = u.heap[k]? := fun k hk hk2 => by
    rw [g8.block k (Nat.lt_of_lt_of_le hk hb2.size) (fun e => by have := h.lo 4 k e.symm; omega), hb2.block k hk]
  rw [e8, hm8] at r8 Z1
  rw [e7, hn7] at r7 r8 Z1
  exact ⟨a7, n7, c7, w7, a8, m8, c8, w8, r7, r8, b7, Z1, Z2, Z3, K⟩
theorem ends_app {w0 w u : World} {us : List Value} {rb : Nat} {X : Nat → Value} {S : St} {g : Nat} {tv rv ev qv : Value} {vs : List Value} {G : List Int} {E : List (Int × Int)} {L : List (List Int)} (h : Rz w0 w us rb X S g tv u rv ev qv vs G E L) (x y : Int) (hl : E.length ≤ 100) :
    ∃ a7 n7 c7 w7, Hid ((Builtin.append_ #[30, 30] 30 #[ev, .slice (some ⟨u.heap.size, 0, none⟩) 1 1]).run Tryd.prog (u.alloc (.cells #[.int .i64 x, .int .i64 y] 48)) = .ok (.slice a7 n7 c7) w7) ∧ Hid (Rz w0 w us rb X S g tv (w7.setCell ⟨g, 3, none⟩ (.slice a7 n7 c7)) rv (.slice a7 n7 c7) qv vs G (E ++ [(x, y)]) L ∧ w7.cell? ⟨g, 3, none⟩ = some ev ∧ w7.frozen? ⟨g, 3, none⟩ = false) := by
  have bb := box_below u (.cells #[.int .i64 x, .int .i64 y] 48)
  have N6 := heap_alloc_new u (.cells #[.int .i64 x, .int .i64 y] 48)
  have Z := h.below bb
  obtain ⟨v7, w7, r7, o7, g7, n7⟩ := run_appE (x, y) u.heap.size Z.en ((cell_of N6).trans rfl) ((cell_of N6).trans rfl) (by omega) (Nat.le_trans h.sz bb.size) 30
  obtain ⟨a7, c7, e7⟩ := slice_ofR o7
  obtain ⟨m7, hm7⟩ : ∃ m7, E.length + 1 = m7 := ⟨_, rfl⟩
  obtain ⟨Z1, Z2, Z3⟩ := Z.addE g7 o7 n7
  rw [e7, hm7] at r7 Z1
  exact ⟨a7, m7, c7, w7, r7, Z1, Z2, Z3⟩
theorem refE_two (ts : List (List Ac)) (room : Int) (picks : List Int) (most : Int) : refE ts room picks most = if refE ts room picks 0 = 0 ∧ (most < 0 ∨ most > 65536) then 1 else refE ts room picks 0 := by
  by_cases hm : mayE ts = 0
  · by_cases hA : argB room picks 0 = true
    · have h0 : refE ts room picks 0 = 0 := refE_fine hm hA
      rw [h0]
      by_cases h1 : most < 0 ∨ most > 65536
      · rw [if_pos ⟨rfl, h1⟩]
        refine refE_arg hm ?_
        unfold argB
        have : ¬ (1 ≤ room ∧ room ≤ 16 ∧ 0 ≤ most ∧ most ≤ 65536) := by omega
        simp only [this, decide_false, Bool.false_and]
      · rw [if_neg (fun c => h1 c.2)]
        refine refE_fine hm ?_
        unfold argB at hA ⊢
        simp only [Bool.and_eq_true, decide_eq_true_eq] at hA ⊢
        exact ⟨⟨hA.1.1, hA.1.2.1, by omega, by omega⟩, hA.2⟩
    · have hA' : argB room picks 0 = false := by simpa using hA
      have h0 : refE ts room picks 0 = 1 := refE_arg hm hA'
      rw [h0, if_neg (fun c => by omega)]
      refine refE_arg hm ?_
      unfold argB at hA' ⊢
      by_cases h1 : 1 ≤ room ∧ room ≤ 16
      · have : 1 ≤ room ∧ room ≤ 16 ∧ (0 : Int) ≤ 0 ∧ (0 : Int) ≤ 65536 := ⟨h1.1, h1.2, by omega, by omega⟩
        simp only [this, and_self, decide_true, Bool.true_and] at hA'
        rw [hA', Bool.and_false]
      · have : ¬ (1 ≤ room ∧ room ≤ 16 ∧ 0 ≤ most ∧ most ≤ 65536) := fun c => h1 ⟨c.1, c.2.1⟩
        simp only [this, decide_false, Bool.false_and]
  · rw [refE_may (most := most) rfl hm, refE_may (most := 0) rfl hm, if_neg (fun c => hm c.1)]
theorem rrun_no (w : World) (v vp : Value) (us : List Value) (ts : List (List Ac)) (h : TksAt w v us ts) (picks : List Int) (hp : Row w vp (picks.map (Value.int .i64))) (room most : Int) (hE : refE ts room picks most ≠ 0) :
    Calls Tryd.prog 8 #[v, .int .i64 room, vp, .int .i64 most] w fun e w' => e = .returned (.tuple #[.agg #[.int .i64 0, .slice none 0 0, .slice none 0 0, .slice none 0 0, .slice none 0 0], .int .i64 (refE ts room picks most)]) ∧ Below w.heap.size w w' := by
  have hb := box_below w (.cells #[.int .i64 0, .slice none 0 0, .slice none 0 0, .slice none 0 0, .slice none 0 0] 33)
  have hN := heap_alloc_new w (.cells #[.int .i64 0, .slice none 0 0, .slice none 0 0, .slice none 0 0, .slice none 0 0] 33)
  have RA := hide (rasked_any _ v vp us ts (h.below hb) picks (Below.row hb hp) room)
  have two := refE_two ts room picks most
  obtain ⟨E, hEE⟩ : ∃ E, Hid (refE ts room picks most = E) := ⟨_, rfl⟩
  obtain ⟨E0, hE0⟩ : ∃ E0, Hid (refE ts room picks 0 = E0) := ⟨_, rfl⟩
  rw [hEE.out] at hE two ⊢
  rw [hE0.out] at RA two
  obtain ⟨w1, hw1⟩ : ∃ w1, Hid (w.alloc (.cells #[.int .i64 0, .slice none 0 0, .slice none 0 0, .slice none 0 0, .slice none 0 0] 33) = w1) := ⟨_, rfl⟩
  rw [hw1.out] at RA hb hN
  have HB := hide hb
  have HN := hide hN
  clear h hp hb hN hEE hE0
  have W : (E0 ≠ 0 ∧ E = E0) ∨ (E0 = 0 ∧ E = 1 ∧ most < 0) ∨ (E0 = 0 ∧ E = 1 ∧ ¬ most < 0 ∧ most > 65536) := by
    by_cases e0 : E0 = 0
    · by_cases h1 : most < 0 ∨ most > 65536
      · rw [if_pos ⟨e0, h1⟩] at two
        by_cases h2 : most < 0
        · exact .inr (.inl ⟨e0, two, h2⟩)
        · exact .inr (.inr ⟨e0, two, h2, by omega⟩)
      · rw [if_neg (fun c => h1 c.2)] at two
        exact absurd (two.trans e0) hE
    · rw [if_neg (fun c => e0 c.1)] at two
      exact .inl ⟨e0, two⟩
  clear two
  rcases W with ⟨e0, rfl⟩ | ⟨rfl, rfl, hm⟩ | ⟨rfl, rfl, hm, hm2⟩
  · have d1 : (E == 0) = false := by simpa using e0
    have d2 : (E != 0) = true := by simpa using e0
    go_enter Tryd.func8, Tryd.ntmps8
    go_upto_region 1 with fail
    rw [hw1.out]
    go_upto_region 5 with (go_at_call 20; refine RA.out.mono ?_; rintro e w2 ⟨rfl, b2⟩; have b2 := hide b2)
    have G := (b2.out.block _ (heap_lt HN.out)).trans HN.out
    have B2 := hide (keepF HB.out b2.out)
    obtain ⟨pb, hpb⟩ : ∃ pb, Hid (w.heap.size = pb) := ⟨_, rfl⟩
    rw [hpb.out] at G ⊢
    have z0 : w2.cell? ⟨pb, 0, none⟩ = some (.int .i64 0) := by rw [cell_of G]; rfl
    have z1 : w2.cell? ⟨pb, 1, none⟩ = some (.slice none 0 0) := by rw [cell_of G]; rfl
    have z2 : w2.cell? ⟨pb, 2, none⟩ = some (.slice none 0 0) := by rw [cell_of G]; rfl
    have z3 : w2.cell? ⟨pb, 3, none⟩ = some (.slice none 0 0) := by rw [cell_of G]; rfl
    have z4 : w2.cell? ⟨pb, 4, none⟩ = some (.slice none 0 0) := by rw [cell_of G]; rfl
    have x0 : w2.frozen? ⟨pb, 0, none⟩ = false := frz_of G
    have x1 : w2.frozen? ⟨pb, 1, none⟩ = false := frz_of G
    have x2 : w2.frozen? ⟨pb, 2, none⟩ = false := frz_of G
    have x3 : w2.frozen? ⟨pb, 3, none⟩ = false := frz_of G
    have x4 : w2.frozen? ⟨pb, 4, none⟩ = false := frz_of G
    have PH := hide (put5_heap G (.int .i64 0) (.slice none 0 0) (.slice none 0 0) (.slice none 0 0) (.slice none 0 0))
    have PB := hide (put5_but w2 pb (.int .i64 0) (.slice none 0 0) (.slice none 0 0) (.slice none 0 0) (.slice none 0 0))
    clear RA b2 G
    go_wp2_with fail
    show bodyPost _ _ _ _ _ (put5 w2 pb (.int .i64 0) (.slice none 0 0) (.slice none 0 0) (.slice none 0 0) (.slice none 0 0))
    have BB : Hid (Below w.heap.size w (put5 w2 pb (.int .i64 0) (.slice none 0 0) (.slice none 0 0) (.slice none 0 0) (.slice none 0 0))) := B2.out.trans (PB.out.below B2.out.size fun k c => by have := hpb.out; omega)
    generalize put5 w2 pb (.int .i64 0) (.slice none 0 0) (.slice none 0 0) (.slice none 0 0) (.slice none 0 0) = w5 at *
    have k0 : w5.cell? ⟨pb, 0, none⟩ = some (.int .i64 0) := by rw [cell_of PH.out]; rfl
    have k1 : w5.cell? ⟨pb, 1, none⟩ = some (.slice none 0 0) := by rw [cell_of PH.out]; rfl
    have k2 : w5.cell? ⟨pb, 2, none⟩ = some (.slice none 0 0) := by rw [cell_of PH.out]; rfl
    have k3 : w5.cell? ⟨pb, 3, none⟩ = some (.slice none 0 0) := by rw [cell_of PH.out]; rfl
    have k4 : w5.cell? ⟨pb, 4, none⟩ = some (.slice none 0 0) := by rw [cell_of PH.out]; rfl
    refine bodyPost_ret (by simp [results, Tryd.results8, go_sem, k0, k1, k2, k3, k4]; rfl) rfl ?_
    exact ⟨rfl, BB.out⟩
  · have d3 : (1 : Int) ≠ 0 := by decide
    go_enter Tryd.func8, Tryd.ntmps8
    go_upto_region 1 with fail
    rw [hw1.out]
    go_upto_region 5 with (go_at_call 20; refine RA.out.mono ?_; rintro e w2 ⟨rfl, b2⟩; have b2 := hide b2)
    have G := (b2.out.block _ (heap_lt HN.out)).trans HN.out
    have B2 := hide (keepF HB.out b2.out)
    obtain ⟨pb, hpb⟩ : ∃ pb, Hid (w.heap.size = pb) := ⟨_, rfl⟩
    rw [hpb.out] at G ⊢
    have z0 : w2.cell? ⟨pb, 0, none⟩ = some (.int .i64 0) := by rw [cell_of G]; rfl
    have z1 : w2.cell? ⟨pb, 1, none⟩ = some (.slice none 0 0) := by rw [cell_of G]; rfl
    have z2 : w2.cell? ⟨pb, 2, none⟩ = some (.slice none 0 0) := by rw [cell_of G]; rfl
    have z3 : w2.cell? ⟨pb, 3, none⟩ = some (.slice none 0 0) := by rw [cell_of G]; rfl
    have z4 : w2.cell? ⟨pb, 4, none⟩ = some (.slice none 0 0) := by rw [cell_of G]; rfl
    have x0 : w2.frozen? ⟨pb, 0, none⟩ = false := frz_of G
    have x1 : w2.frozen? ⟨pb, 1, none⟩ = false := frz_of G
    have x2 : w2.frozen? ⟨pb, 2, none⟩ = false := frz_of G
    have x3 : w2.frozen? ⟨pb, 3, none⟩ = false := frz_of G
    have x4 : w2.frozen? ⟨pb, 4, none⟩ = false := frz_of G
    have PH := hide (put5_heap G (.int .i64 0) (.slice none 0 0) (.slice none 0 0) (.slice none 0 0) (.slice none 0 0))
    have PB := hide (put5_but w2 pb (.int .i64 0) (.slice none 0 0) (.slice none 0 0) (.slice none 0 0) (.slice none 0 0))
    clear RA b2 G
    go_wp2_with fail
    show bodyPost _ _ _ _ _ (put5 w2 pb (.int .i64 0) (.slice none 0 0) (.slice none 0 0) (.slice none 0 0) (.slice none 0 0))
    have BB : Hid (Below w.heap.size w (put5 w2 pb (.int .i64 0) (.slice none 0 0) (.slice none 0 0) (.slice none 0 0) (.slice none 0 0))) := B2.out.trans (PB.out.below B2.out.size fun k c => by have := hpb.out; omega)
    generalize put5 w2 pb (.int .i64 0) (.slice none 0 0) (.slice none 0 0) (.slice none 0 0) (.slice none 0 0) = w5 at *
    have k0 : w5.cell? ⟨pb, 0, none⟩ = some (.int .i64 0) := by rw [cell_of PH.out]; rfl
    have k1 : w5.cell? ⟨pb, 1, none⟩ = some (.slice none 0 0) := by rw [cell_of PH.out]; rfl
    have k2 : w5.cell? ⟨pb, 2, none⟩ = some (.slice none 0 0) := by rw [cell_of PH.out]; rfl
    have k3 : w5.cell? ⟨pb, 3, none⟩ = some (.slice none 0 0) := by rw [cell_of PH.out]; rfl
    have k4 : w5.cell? ⟨pb, 4, none⟩ = some (.slice none 0 0) := by rw [cell_of PH.out]; rfl
    refine bodyPost_ret (by simp [results, Tryd.results8, go_sem, k0, k1, k2, k3, k4]; rfl) rfl ?_
    exact ⟨rfl, BB.out⟩
  · have d3 : (1 : Int) ≠ 0 := by decide
    go_enter Tryd.func8, Tryd.ntmps8
    go_upto_region 1 with fail
    rw [hw1.out]
    go_upto_region 5 with (go_at_call 20; refine RA.out.mono ?_; rintro e w2 ⟨rfl, b2⟩; have b2 := hide b2)
    have G := (b2.out.block _ (heap_lt HN.out)).trans HN.out
    have B2 := hide (keepF HB.out b2.out)
    obtain ⟨pb, hpb⟩ : ∃ pb, Hid (w.heap.size = pb) := ⟨_, rfl⟩
    rw [hpb.out] at G ⊢
    have z0 : w2.cell? ⟨pb, 0, none⟩ = some (.int .i64 0) := by rw [cell_of G]; rfl
    have z1 : w2.cell? ⟨pb, 1, none⟩ = some (.slice none 0 0) := by rw [cell_of G]; rfl
    have z2 : w2.cell? ⟨pb, 2, none⟩ = some (.slice none 0 0) := by rw [cell_of G]; rfl
    have z3 : w2.cell? ⟨pb, 3, none⟩ = some (.slice none 0 0) := by rw [cell_of G]; rfl
    have z4 : w2.cell? ⟨pb, 4, none⟩ = some (.slice none 0 0) := by rw [cell_of G]; rfl
    have x0 : w2.frozen? ⟨pb, 0, none⟩ = false := frz_of G
    have x1 : w2.frozen? ⟨pb, 1, none⟩ = false := frz_of G
    have x2 : w2.frozen? ⟨pb, 2, none⟩ = false := frz_of G
    have x3 : w2.frozen? ⟨pb, 3, none⟩ = false := frz_of G
    have x4 : w2.frozen? ⟨pb, 4, none⟩ = false := frz_of G
    have PH := hide (put5_heap G (.int .i64 0) (.slice none 0 0) (.slice none 0 0) (.slice none 0 0) (.slice none 0 0))
    have PB := hide (put5_but w2 pb (.int .i64 0) (.slice none 0 0) (.slice none 0 0) (.slice none 0 0) (.slice none 0 0))
    clear RA b2 G
    go_wp2_with fail
    show bodyPost _ _ _ _ _ (put5 w2 pb (.int .i64 0) (.slice none 0 0) (.slice none 0 0) (.slice none 0 0) (.slice none 0 0))
    have BB : Hid (Below w.heap.size w (put5 w2 pb (.int .i64 0) (.slice none 0 0) (.slice none 0 0) (.slice none 0 0) (.slice none 0 0))) := B2.out.trans (PB.out.below B2.out.size fun k c => by have := hpb.out; omega)
    generalize put5 w2 pb (.int .i64 0) (.slice none 0 0) (.slice none 0 0) (.slice none 0 0) (.slice none 0 0) = w5 at *
    have k0 : w5.cell? ⟨pb, 0, none⟩ = some (.int .i64 0) := by rw [cell_of PH.out]; rfl
    have k1 : w5.cell? ⟨pb, 1, none⟩ = some (.slice none 0 0) := by rw [cell_of PH.out]; rfl
    have k2 : w5.cell? ⟨pb, 2, none⟩ = some (.slice none 0 0) := by rw [cell_of PH.out]; rfl
    have k3 : w5.cell? ⟨pb, 3, none⟩ = some (.slice none 0 0) := by rw [cell_of PH.out]; rfl
    have k4 : w5.cell? ⟨pb, 4, none⟩ = some (.slice none 0 0) := by rw [cell_of PH.out]; rfl
    refine bodyPost_ret (by simp [results, Tryd.results8, go_sem, k0, k1, k2, k3, k4]; rfl) rfl ?_
    exact ⟨rfl, BB.out⟩
set_option maxHeartbeats 16000000 in
theorem rrun_yes (w : World) (v vp : Value) (us : List Value) (ts : List (List Ac)) (h : TksAt w v us ts) (picks : List Int) (hp : Row w vp (picks.map (Value.int .i64))) (hp1 : ∀ k ∈ picks, k ≤ 9223372036854775807) (room most : Nat) (hE : refE ts room picks most = 0) :
    Calls Tryd.prog 8 #[v, .int .i64 (room : Int), vp, .int .i64 (most : Int)] w fun e w' => ∃ tv rv ev qv, e = .returned (.tuple #[.agg #[.int .i64 ((runS ts room picks most).tr.length : Int), tv, rv, ev, qv], .int .i64 0]) ∧ Rq w' tv rv ev qv (trI (runS ts room picks most).tr) (regs (runS ts room picks most)) (endsI (runS ts room picks most) (runS ts room picks most).tk.length) (quesI (runS ts room picks most) 4) ∧ Below w.heap.size w w' := by
  have hb := box_below w (.cells #[.int .i64 0, .slice none 0 0, .slice none 0 0, .slice none 0 0, .slice none 0 0] 33)
  have hN := heap_alloc_new w (.cells #[.int .i64 0, .slice none 0 0, .slice none 0 0, .slice none 0 0, .slice none 0 0] 33)
  have RA := hide (rasked_any _ v vp us ts (h.below hb) picks (Below.row hb hp) room)
  obtain ⟨m1, ⟨r, hr, r1, r2⟩, ⟨mm, hm, m2⟩, p1, p2⟩ := refE_ok hE
  obtain rfl : room = r := by omega
  obtain rfl : most = mm := by omega
  have hE0 : refE ts room picks 0 = 0 := by
    have two := refE_two ts room picks most
    rw [hE] at two
    by_cases c : refE ts (room : Int) picks 0 = 0 ∧ ((most : Int) < 0 ∨ (most : Int) > 65536)
    · exact c.1
    · rw [if_neg c] at two
      exact two.symm
  rw [hE0] at RA
  have OKI := hide (ok_init m1 r1 r2)
  have HTK := hide (h.below hb)
  have HP := hide (Below.row hb hp)
  have M2 : Hid (most ≤ 65536) := m2
  have mm1 : ¬ (most : Int) < 0 := by omega
  have mm2 : ¬ (most : Int) > 65536 := by omega
  have mm3 : (most : Int) ≤ 65536 := by omega
  have N16 : Hid (ts.length ≤ 16) := (mayE_ok m1).1
  have HP0 : Hid (∀ k ∈ picks, 0 ≤ k ∧ k ≤ 9223372036854775807) := fun k hk => ⟨p2 k hk, hp1 k hk⟩
  obtain ⟨SS, hSS⟩ : ∃ SS, Hid (runS ts room picks most = SS) := ⟨_, rfl⟩
  have HPL : Hid (playS picks most (init ts room) = SS) := hSS.out
  rw [hSS.out]
  obtain ⟨ap, pc, e, -⟩ := HP.out
  subst e
  rw [List.length_map] at HP RA ⊢
  obtain ⟨Q, hQ⟩ : ∃ Q, Hid (picks.length = Q) := ⟨_, rfl⟩
  have q3 : (Q : Int) ≤ 65536 := by have := hQ.out; omega
  rw [hQ.out] at RA HP ⊢
  obtain ⟨w1, hw1⟩ : ∃ w1, Hid (w.alloc (.cells #[.int .i64 0, .slice none 0 0, .slice none 0 0, .slice none 0 0, .slice none 0 0] 33) = w1) := ⟨_, rfl⟩
  rw [hw1.out] at RA hb hN HTK HP
  have HB := hide hb
  have HN := hide hN
  obtain ⟨pb, hpb⟩ : ∃ pb, Hid (w.heap.size = pb) := ⟨_, rfl⟩
  rw [hpb.out] at HN
  clear h hE hE0 hp1 m1 r1 r2 hr hm m2 p1 p2 hSS hp hb hN
  go_enter Tryd.func8, Tryd.ntmps8
  go_upto_region 1 with fail
  rw [hw1.out, hpb.out]
  go_upto_region 6 with (go_at_call 20; refine RA.out.mono ?_; rintro e w0 ⟨rfl, b2⟩; have b2 := hide b2)
  have W0 : Hid (Below w.heap.size w w0) := keepF HB.out b2.out
  have PBH : Hid (w0.heap[pb]? = some (.cells #[.int .i64 0, .slice none 0 0, .slice none 0 0, .slice none 0 0, .slice none 0 0] 33 (0, 0))) := (b2.out.block _ (heap_lt HN.out)).trans HN.out
  have PBL : Hid (pb < w0.heap.size) := heap_lt PBH.out
  have BG := hide (rbegin_any w0 v us ts (HTK.out.below b2.out) N16.out room)
  have HP2 := hide (Below.row b2.out HP.out)
  have WL : Hid (w.heap.size ≤ w0.heap.size) := W0.out.size
  clear RA HTK HP HB HN hw1 b2
  go_upto_region 7 with (go_at_call 21; refine BG.out.mono ?_; rintro e w3 ⟨rfl, X0', A3⟩; have G3 := hide (GD.init A3 OKI.out); clear A3)
  obtain ⟨rb, hrb⟩ : ∃ rb, Hid (w0.heap.size = rb) := ⟨_, rfl⟩
  rw [hrb.out] at G3 ⊢
  clear BG
  have b4 := box_below w3 (.cells #[.int .i64 0, .slice none 0 0, .slice none 0 0, .slice none 0 0, .slice none 0 0] 33)
  have n4 := heap_alloc_new w3 (.cells #[.int .i64 0, .slice none 0 0, .slice none 0 0, .slice none 0 0, .slice none 0 0] 33)
  obtain ⟨g, hg⟩ : ∃ g, Hid (w3.heap.size = g) := ⟨_, rfl⟩
  have RL4 : Hid (Rl w0 (w3.alloc (.cells #[.int .i64 0, .slice none 0 0, .slice none 0 0, .slice none 0 0, .slice none 0 0] 33)) us rb X0' (init ts room) g (.slice none 0 0) 0 []) := by
    refine ⟨G3.out.below b4, by rw [← hg.out]; exact n4, World.ownsRow_nil _ _ _ _, ⟨by rw [← hg.out]; exact G3.out.da.low.size, fun c => by have := G3.out.da.lt g c; have := hg.out; omega⟩, fun k hk => by cases hk⟩
  clear b4 n4 G3
  go_upto_region 8 with fail
  rw [hg.out]
  generalize w3.alloc (.cells #[.int .i64 0, .slice none 0 0, .slice none 0 0, .slice none 0 0, .slice none 0 0] 33) = w4 at *
  have RD := hide RL4.out.gd.ready
  go_upto_region 9 with (go_at_call 22; refine RD.out.mono ?_; rintro e w5 ⟨v5, rfl, n5, b5⟩; replace n5 := hide n5; replace b5 := hide b5)
  have R5 := hide (RL4.out.below b5.out)
  have N5 : Hid (Nms w.heap.size w5 v5 (ns (rdy (init ts room)))) := row_low n5.out (Nat.le_trans WL.out RL4.out.gd.da.low.size)
  clear RD RL4 n5 b5
  go_loopw [13] (fun v wr => ∃ (X : Nat → Value) (S : St) (tv : Value), Hid (Rl w0 wr us rb X S g tv S.tr.length S.tr ∧ Nms w.heap.size wr v (ns (rdy S)) ∧ S.tr.length ≤ most ∧ playS picks (most - S.tr.length) S = SS)) (fun v wr => most - intO (wr.cell? ⟨g, 0, none⟩))
  case atStart => exact ⟨X0', init ts room, _, R5.out, N5.out, Nat.zero_le _, HPL.out⟩
  case round =>
    obtain ⟨X, S, tv, hrel'⟩ := hrel
    obtain ⟨R1, hv, hle, hpl⟩ := hrel'.out
    clear hrel'
    replace R1 := hide R1
    replace hv := hide hv
    replace hpl := hide hpl
    obtain ⟨ao, ca, e, hca, -⟩ := hv.out.form
    rw [ns_len] at e hca
    obtain ⟨N, hNN⟩ : ∃ N, Hid ((rdy S).length = N) := ⟨_, rfl⟩
    rw [hNN.out] at e hca
    subst e
    obtain ⟨ta, tc, e⟩ := slice_ofR R1.out.tr
    obtain ⟨T, hT⟩ : ∃ T, Hid (S.tr.length = T) := ⟨_, rfl⟩
    have g0 : wr.cell? ⟨g, 0, none⟩ = some (.int .i64 (T : Int)) := by rw [cell_of R1.out.rn, ← hT.out]; rfl
    have g1 : wr.cell? ⟨g, 1, none⟩ = some tv := by rw [cell_of R1.out.rn]; rfl
    have r22 : wr.cell? ⟨rb, 22, none⟩ = some (.int .i64 (lastS S)) := R1.out.gd.da.cells.2.2
    have gme := hide g0
    rw [hT.out] at hle
    clear e
    by_cases hlt : T < most
    · have i1 : (T : Int) < (most : Int) := by omega
      by_cases hz : N = 0
      · have hn : rdy S = [] := List.length_eq_zero_iff.1 (hNN.out.trans hz)
        have EP : Hid (S = SS) := by show _ = _; rw [← hpl.out, play_nil hn]
        obtain rfl : N = 0 := hz
        have i2 : ¬ (0 : Int) > 0 := by omega
        have r0 := True.intro
        clear r22 hn
        obtain ⟨WS, hWS⟩ : ∃ WS, WS = wr := ⟨_, rfl⟩
        subst hWS
        have RE : Hid (Rl w0 WS us rb X SS g tv SS.tr.length SS.tr) := by rw [← EP.out]; exact R1.out
        have Z0 := hide RE.out.rz
        have KK : Hid (SS.tk.length ≤ 16) := RE.out.gd.ok.n
        clear RE
        go_upto_region 18 with fail
        clear R1 hv g0 g1 r0 gme
        refine wp_region_T (fun q => q.cell? ⟨g, 2, none⟩ = some (.slice none 0 0)) 8 (by kernel_rfl) ?_
        have KP : Hid (WS.drew.cell? ⟨g, 2, none⟩ = some (.slice none 0 0)) := (cell_of Z0.out.rn).trans rfl
        have ZV := hide (Z0.out.below (Below.refl _ _).drew)
        generalize WS.drew = u1 at *
        refine wpAnyT_take (i := 0) (oi := { dst := some 92, op := Op.fieldAddr 33 (Operand.tmp 12) 2, type := 0, pos := "ref.go:280", after := #[], guard := none }) (v := .pointer (some ⟨g, 2, none⟩)) [1, 6, 8] rfl (by kernel_rfl) (by kernel_rfl) (by kernel_rfl) (by kernel_rfl) (fun _ _ _ h => h) (Or.inl ⟨by rfl, ?_⟩) KP.out ?_
        · intro wq hSw
          have y0 := hSw
          go_simp
        (try simp only [Act.put, List.setIfInBounds_toArray, List.set_cons_zero, List.set_cons_succ])
        refine wpAnyT_take (i := 1) (oi := { dst := some 93, op := Op.load 29 (Operand.tmp 92), type := 29, pos := "ref.go:280", after := #[{ on := 0, ground := Ground.data }], guard := none }) (v := .slice none 0 0) [6, 8] rfl (by kernel_rfl) (by kernel_rfl) (by kernel_rfl) (by kernel_rfl) (fun _ _ _ h => h) (Or.inl ⟨by rfl, ?_⟩) KP.out ?_
        · intro wq hSw
          have y0 := hSw
          go_simp
        (try simp only [Act.put, List.setIfInBounds_toArray, List.set_cons_zero, List.set_cons_succ])
        refine wpAnyT_take (i := 2) (oi := { dst := some 94, op := Op.move (Operand.tmp 11), type := 53, pos := "ref.go:280", after := #[], guard := none }) (v := .pointer (some ⟨rb, 0, none⟩)) [3, 4, 5, 6, 8] rfl (by kernel_rfl) (by kernel_rfl) (by kernel_rfl) (by kernel_rfl) (fun _ _ _ h => h) (Or.inl ⟨by rfl, ?_⟩) KP.out ?_
        · intro wq hSw
          have y0 := hSw
          go_simp
        (try simp only [Act.put, List.setIfInBounds_toArray, List.set_cons_zero, List.set_cons_succ])
        refine wpAnyT_take (i := 3) (oi := { dst := some 95, op := Op.nilCheck (Operand.tmp 94), type := 0, pos := "ref.go:280", after := #[{ on := 2, ground := Ground.data }], guard := none }) (v := .pointer (some ⟨rb, 0, none⟩)) [4, 5, 6, 8] rfl (by kernel_rfl) (by kernel_rfl) (by kernel_rfl) (by kernel_rfl) (fun _ _ _ h => h) (Or.inl ⟨by rfl, ?_⟩) KP.out ?_
        · intro wq hSw
          have y0 := hSw
          go_simp
        (try simp only [Act.put, List.setIfInBounds_toArray, List.set_cons_zero, List.set_cons_succ])
        refine wpAnyT_take (i := 4) (oi := { dst := some 96, op := Op.fieldAddr 63 (Operand.tmp 95) 4, type := 0, pos := "ref.go:280", after := #[{ on := 3, ground := Ground.data }], guard := none }) (v := .pointer (some ⟨rb, 13, none⟩)) [5, 6, 8] rfl (by kernel_rfl) (by kernel_rfl) (by kernel_rfl) (by kernel_rfl) (fun _ _ _ h => h) (Or.inl ⟨by rfl, ?_⟩) KP.out ?_
        · intro wq hSw
          have y0 := hSw
          go_simp
        (try simp only [Act.put, List.setIfInBounds_toArray, List.set_cons_zero, List.set_cons_succ])
        refine wpAnyT_take (i := 5) (oi := { dst := some 97, op := Op.slice 61 (Operand.tmp 96) none none none, type := 29, pos := "ref.go:280", after := #[{ on := 4, ground := Ground.data }], guard := none }) (v := .slice (some ⟨rb, 13, none⟩) 8 8) [6, 8] rfl (by kernel_rfl) (by kernel_rfl) (by kernel_rfl) (by kernel_rfl) (fun _ _ _ h => h) (Or.inl ⟨by rfl, ?_⟩) KP.out ?_
        · intro wq hSw
          have y0 := hSw
          go_simp
        (try simp only [Act.put, List.setIfInBounds_toArray, List.set_cons_zero, List.set_cons_succ])
        obtain ⟨a7, n7, c7, w7, r7, I7, B7⟩ := regs_dup ZV.out.gd.da
        obtain ⟨Z8, k7, z7⟩ := ZV.out.addG B7.out I7.out
        replace Z8 := hide Z8
        refine wpAnyT_one (i := 6) (o := { dst := some 98, op := Op.call { callee := Callee.builtin Builtin.append, args := #[Operand.tmp 93, Operand.tmp 97], argTypes := #[29, 29] }, type := 29, pos := "ref.go:280", after := #[{ on := 1, ground := Ground.data }, { on := 5, ground := Ground.data }], guard := none }) (by kernel_rfl) rfl (fun K hK => ?_)
        rw [if_pos (by simp [Region.wanted])]
        refine Lib.wp_append_run _ (.tmp 93) (.tmp 97) 29 29 rfl (.slice none 0 0) (.slice (some ⟨rb, 13, none⟩) 8 8) (by simp [Act.eval]) (by simp [Act.eval]) _ w7 r7.out ?_
        refine hK.out _ _ (fun _ => k7) ?_
        clear hK K
        (try simp only [Act.put, List.setIfInBounds_toArray, List.set_cons_zero, List.set_cons_succ])
        refine wpAnyT_one (i := 7) (o := { dst := some 99, op := Op.fieldAddr 33 (Operand.tmp 12) 2, type := 0, pos := "ref.go:280", after := #[{ on := 0, ground := Ground.phase }, { on := 1, ground := Ground.phase }, { on := 2, ground := Ground.phase }, { on := 3, ground := Ground.phase }, { on := 4, ground := Ground.phase }, { on := 5, ground := Ground.phase }, { on := 6, ground := Ground.phase }], guard := none }) (by kernel_rfl) rfl (fun K hK => ?_)
        go_simp
        refine hK.out _ _ (fun _ => k7) ?_
        clear hK K
        (try simp only [Act.put, List.setIfInBounds_toArray, List.set_cons_zero, List.set_cons_succ])
        refine wpAnyT_one (i := 8) (o := { dst := none, op := Op.store 29 (Operand.tmp 99) (Operand.tmp 98), type := 0, pos := "ref.go:280", after := #[{ on := 7, ground := Ground.data }, { on := 6, ground := Ground.data }, { on := 6, ground := Ground.chain }, { on := 0, ground := Ground.phase }, { on := 1, ground := Ground.phase }, { on := 2, ground := Ground.phase }, { on := 3, ground := Ground.phase }, { on := 4, ground := Ground.phase }, { on := 5, ground := Ground.phase }, { on := 6, ground := Ground.phase }], guard := none }) (by kernel_rfl) rfl (fun K hK => ?_)
        go_simp
        refine hK.out _ _ (vac (by kernel_rfl)) ?_
        clear hK K
        (try simp only [Act.put, List.setIfInBounds_toArray, List.set_cons_zero, List.set_cons_succ])
        refine wpAnyT_done (by kernel_rfl) ?_ _
        clear KP ZV r7 I7 B7 k7 z7
        generalize w7.setCell ⟨g, 2, none⟩ (.slice a7 n7 c7) = w8 at *
        generalize Value.slice a7 n7 c7 = rv at *
        go_wp2_with fail
        go_loopw [16] (fun s wq => ∃ (i : Nat) (qv : Value) (vs : List Value), s = .int .i64 (i : Int) ∧ i ≤ 4 ∧ Hid (Rz w0 WS us rb X SS g tv wq rv (.slice none 0 0) qv vs (regs SS) [] (quesI SS i))) (fun s wq => 4 - (intOf s).toNat)
        case atStart => exact ⟨0, _, _, rfl, by omega, Z8.out⟩
        case round =>
          obtain ⟨i, qv, vs, rfl, hi4, hst⟩ := hrel
          by_cases hlt : i < 4
          · have i1 : (i : Int) < 4 := by omega
            have IW := hst.out.gd.da.qu i hlt
            obtain ⟨qa, qc, e⟩ := slice_ofR IW
            obtain ⟨qn, hqn⟩ : ∃ qn, Hid ((SS.qu i).length = qn) := ⟨_, rfl⟩
            have e' : X (5 + i) = .slice qa qn qc := by rw [← hqn.out]; exact e
            have qc0 := hst.out.gd.da.qcell hlt
            rw [e'] at qc0
            have HE := hide e'
            clear IW e e'
            go_upto_region 22 with fail
            refine wp_region_T (fun q => q.cell? ⟨g, 4, none⟩ = some (qv) ∧ q.cell? ⟨rb, 9 + i, none⟩ = some (.slice qa qn qc)) 12 (by kernel_rfl) ?_
            have KP : Hid (wr.drew.cell? ⟨g, 4, none⟩ = some (qv) ∧ wr.drew.cell? ⟨rb, 9 + i, none⟩ = some (.slice qa qn qc)) := ⟨(cell_of hst.out.rn).trans rfl, qc0⟩
            have ZV := hide (hst.out.below (Below.refl _ _).drew)
            clear hst qc0
            generalize wr.drew = u1 at *
            refine wpAnyT_take (i := 0) (oi := { dst := some 104, op := Op.fieldAddr 33 (Operand.tmp 12) 4, type := 0, pos := "ref.go:282", after := #[], guard := none }) (v := .pointer (some ⟨g, 4, none⟩)) [1, 10, 12] rfl (by kernel_rfl) (by kernel_rfl) (by kernel_rfl) (by kernel_rfl) (fun _ _ _ h => h) (Or.inl ⟨by rfl, ?_⟩) KP.out ?_
            · intro wq hSw
              obtain ⟨y0, y1⟩ := hSw
              go_simp
            (try simp only [Act.put, List.setIfInBounds_toArray, List.set_cons_zero, List.set_cons_succ])
            refine wpAnyT_take (i := 1) (oi := { dst := some 105, op := Op.load 31 (Operand.tmp 104), type := 31, pos := "ref.go:282", after := #[{ on := 0, ground := Ground.data }], guard := none }) (v := qv) [10, 12] rfl (by kernel_rfl) (by kernel_rfl) (by kernel_rfl) (by kernel_rfl) (fun _ _ _ h => h) (Or.inl ⟨by rfl, ?_⟩) KP.out ?_
            · intro wq hSw
              obtain ⟨y0, y1⟩ := hSw
              go_simp
            (try simp only [Act.put, List.setIfInBounds_toArray, List.set_cons_zero, List.set_cons_succ])
            refine wpAnyT_take (i := 2) (oi := { dst := some 106, op := Op.move (Operand.tmp 11), type := 53, pos := "ref.go:282", after := #[], guard := none }) (v := .pointer (some ⟨rb, 0, none⟩)) [4, 5, 6, 7, 8, 9, 10, 12] rfl (by kernel_rfl) (by kernel_rfl) (by kernel_rfl) (by kernel_rfl) (fun _ _ _ h => h) (Or.inl ⟨by rfl, ?_⟩) KP.out ?_
            · intro wq hSw
              obtain ⟨y0, y1⟩ := hSw
              go_simp
            (try simp only [Act.put, List.setIfInBounds_toArray, List.set_cons_zero, List.set_cons_succ])
            refine wpAnyT_take (i := 3) (oi := { dst := some 107, op := Op.move (Operand.tmp 16), type := 3, pos := "ref.go:282", after := #[], guard := none }) (v := .int .i64 (i : Int)) [6, 7, 8, 9, 10, 12] rfl (by kernel_rfl) (by kernel_rfl) (by kernel_rfl) (by kernel_rfl) (fun _ _ _ h => h) (Or.inl ⟨by rfl, ?_⟩) KP.out ?_
            · intro wq hSw
              obtain ⟨y0, y1⟩ := hSw
              go_simp
            (try simp only [Act.put, List.setIfInBounds_toArray, List.set_cons_zero, List.set_cons_succ])
            refine wpAnyT_take (i := 4) (oi := { dst := some 108, op := Op.nilCheck (Operand.tmp 106), type := 0, pos := "ref.go:282", after := #[{ on := 2, ground := Ground.data }], guard := none }) (v := .pointer (some ⟨rb, 0, none⟩)) [5, 6, 7, 8, 9, 10, 12] rfl (by kernel_rfl) (by kernel_rfl) (by kernel_rfl) (by kernel_rfl) (fun _ _ _ h => h) (Or.inl ⟨by rfl, ?_⟩) KP.out ?_
            · intro wq hSw
              obtain ⟨y0, y1⟩ := hSw
              go_simp
            (try simp only [Act.put, List.setIfInBounds_toArray, List.set_cons_zero, List.set_cons_succ])
            refine wpAnyT_take (i := 5) (oi := { dst := some 109, op := Op.fieldAddr 63 (Operand.tmp 108) 3, type := 0, pos := "ref.go:282", after := #[{ on := 4, ground := Ground.data }], guard := none }) (v := .pointer (some ⟨rb, 9, none⟩)) [6, 7, 8, 9, 10, 12] rfl (by kernel_rfl) (by kernel_rfl) (by kernel_rfl) (by kernel_rfl) (fun _ _ _ h => h) (Or.inl ⟨by rfl, ?_⟩) KP.out ?_
            · intro wq hSw
              obtain ⟨y0, y1⟩ := hSw
              go_simp
            (try simp only [Act.put, List.setIfInBounds_toArray, List.set_cons_zero, List.set_cons_succ])
            refine wpAnyT_take (i := 6) (oi := { dst := some 110, op := Op.indexAddr 60 (Operand.tmp 109) (Operand.tmp 107), type := 0, pos := "ref.go:282", after := #[{ on := 5, ground := Ground.data }, { on := 3, ground := Ground.data }], guard := none }) (v := .pointer (some ⟨rb, 9 + i, none⟩)) [7, 8, 9, 10, 12] rfl (by kernel_rfl) (by kernel_rfl) (by kernel_rfl) (by kernel_rfl) (fun _ _ _ h => h) (Or.inl ⟨by rfl, ?_⟩) KP.out ?_
            · intro wq hSw
              obtain ⟨y0, y1⟩ := hSw
              go_simp
            (try simp only [Act.put, List.setIfInBounds_toArray, List.set_cons_zero, List.set_cons_succ])
            refine wpAnyT_take (i := 7) (oi := { dst := some 111, op := Op.load 29 (Operand.tmp 110), type := 29, pos := "ref.go:282", after := #[{ on := 6, ground := Ground.data }], guard := none }) (v := .slice qa qn qc) [8, 9, 10, 12] rfl (by kernel_rfl) (by kernel_rfl) (by kernel_rfl) (by kernel_rfl) (fun _ _ _ h => h) (Or.inl ⟨by rfl, ?_⟩) KP.out ?_
            · intro wq hSw
              obtain ⟨y0, y1⟩ := hSw
              go_simp
            (try simp only [Act.put, List.setIfInBounds_toArray, List.set_cons_zero, List.set_cons_succ])
            obtain ⟨a7, n7, c7, w7, a8, n8, c8, w8, r7, r8, F8⟩ := ques_dup ZV.out hlt HE.out hqn.out
            have K7 : Hid (w7.cell? ⟨g, 4, none⟩ = some (qv) ∧ w7.cell? ⟨rb, 9 + i, none⟩ = some (.slice qa qn qc)) := ⟨(F8.out.1.cell (lt_of_cell KP.out.1)).trans KP.out.1, (F8.out.1.cell (lt_of_cell KP.out.2)).trans KP.out.2⟩
            have KA : Hid ((w7.alloc (.cells #[.slice a7 n7 c7] 29)).cell? ⟨g, 4, none⟩ = some (qv) ∧ (w7.alloc (.cells #[.slice a7 n7 c7] 29)).cell? ⟨rb, 9 + i, none⟩ = some (.slice qa qn qc)) := ⟨alloc_cell _ K7.out.1, alloc_cell _ K7.out.2⟩
            have K8 : Hid (w8.cell? ⟨g, 4, none⟩ = some (qv) ∧ w8.cell? ⟨rb, 9 + i, none⟩ = some (.slice qa qn qc)) := ⟨F8.out.2.2.1, (World.cell?_of_block (F8.out.2.2.2.2 rb (lt_of_cell KP.out.2) (ZV.out.own rb ⟨0, rfl⟩).1)).trans KP.out.2⟩
            refine wpAnyT_one (i := 8) (o := { dst := some 112, op := Op.call { callee := Callee.builtin Builtin.append, args := #[Operand.const (Value.slice none 0 0), Operand.tmp 111], argTypes := #[29, 29] }, type := 29, pos := "ref.go:282", after := #[{ on := 7, ground := Ground.data }], guard := none }) (by kernel_rfl) rfl (fun K hK => ?_)
            rw [if_pos (by simp [Region.wanted])]
            refine Lib.wp_append_run _ (.const (.slice none 0 0)) (.tmp 111) 29 29 rfl (.slice none 0 0) (.slice qa qn qc) (by simp [Act.eval]) (by simp [Act.eval]) _ w7 r7.out ?_
            refine hK.out _ _ (fun _ => K7.out) ?_
            clear hK K
            (try simp only [Act.put, List.setIfInBounds_toArray, List.set_cons_zero, List.set_cons_succ])
            refine wpAnyT_one (i := 9) (o := { dst := some 113, op := Op.buildSlice 31 1 #[(0, Operand.tmp 112)], type := 31, pos := "ref.go:282", after := #[{ on := 8, ground := Ground.data }], guard := none }) (by kernel_rfl) rfl (fun K hK => ?_)
            go_simp
            refine hK.out _ _ (fun _ => KA.out) ?_
            clear hK K
            (try simp only [Act.put, List.setIfInBounds_toArray, List.set_cons_zero, List.set_cons_succ])
            refine wpAnyT_one (i := 10) (o := { dst := some 114, op := Op.call { callee := Callee.builtin Builtin.append, args := #[Operand.tmp 105, Operand.tmp 113], argTypes := #[31, 31] }, type := 31, pos := "ref.go:282", after := #[{ on := 1, ground := Ground.data }, { on := 9, ground := Ground.data }, { on := 8, ground := Ground.chain }], guard := none }) (by kernel_rfl) rfl (fun K hK => ?_)
            rw [if_pos (by simp [Region.wanted])]
            refine Lib.wp_append_run _ (.tmp 105) (.tmp 113) 31 31 rfl qv (.slice (some ⟨w7.heap.size, 0, none⟩) 1 1) (by simp [Act.eval]) (by simp [Act.eval]) _ w8 r8.out ?_
            refine hK.out _ _ (fun _ => K8.out) ?_
            clear hK K
            (try simp only [Act.put, List.setIfInBounds_toArray, List.set_cons_zero, List.set_cons_succ])
            refine wpAnyT_one (i := 11) (o := { dst := some 115, op := Op.fieldAddr 33 (Operand.tmp 12) 4, type := 0, pos := "ref.go:282", after := #[{ on := 0, ground := Ground.phase }, { on := 1, ground := Ground.phase }, { on := 2, ground := Ground.phase }, { on := 3, ground := Ground.phase }, { on := 4, ground := Ground.phase }, { on := 5, ground := Ground.phase }, { on := 6, ground := Ground.phase }, { on := 7, ground := Ground.phase }, { on := 8, ground := Ground.phase }, { on := 9, ground := Ground.phase }, { on := 10, ground := Ground.phase }], guard := none }) (by kernel_rfl) rfl (fun K hK => ?_)
            go_simp
            refine hK.out _ _ (fun _ => K8.out) ?_
            clear hK K
            (try simp only [Act.put, List.setIfInBounds_toArray, List.set_cons_zero, List.set_cons_succ])
            obtain ⟨-, -, k8, z8, -⟩ := F8.out
            refine wpAnyT_one (i := 12) (o := { dst := none, op := Op.store 31 (Operand.tmp 115) (Operand.tmp 114), type := 0, pos := "ref.go:282", after := #[{ on := 11, ground := Ground.data }, { on := 10, ground := Ground.data }, { on := 10, ground := Ground.chain }, { on := 0, ground := Ground.phase }, { on := 1, ground := Ground.phase }, { on := 2, ground := Ground.phase }, { on := 3, ground := Ground.phase }, { on := 4, ground := Ground.phase }, { on := 5, ground := Ground.phase }, { on := 6, ground := Ground.phase }, { on := 7, ground := Ground.phase }, { on := 8, ground := Ground.phase }, { on := 9, ground := Ground.phase }, { on := 10, ground := Ground.phase }], guard := none }) (by kernel_rfl) rfl (fun K hK => ?_)
            go_simp
            refine hK.out _ _ (vac (by kernel_rfl)) ?_
            clear hK K
            (try simp only [Act.put, List.setIfInBounds_toArray, List.set_cons_zero, List.set_cons_succ])
            refine wpAnyT_done (by kernel_rfl) ?_ _
            have Z9 := hide F8.out.2.1
            clear KP ZV r7 r8 F8 K7 KA K8 k8 z8
            go_wp2_with fail
            go_roundw
            case rel => exact ⟨i + 1, _, _, by go_num, by omega, Z9.out⟩
            case measure => simp only [intOf]; omega
          · obtain rfl : i = 4 := by omega
            have i1 : ¬ (4 : Int) < 4 := by omega
            have ZE := hst
            clear hst
            go_wp2_with fail
            go_loopw [17] (fun s wq => ∃ (i : Nat) (ev : Value), s = .int .i64 (i : Int) ∧ i ≤ SS.tk.length ∧ Hid (Rz w0 WS us rb X SS g tv wq rv ev qv vs (regs SS) (endsI SS i) (quesI SS 4))) (fun s wq => SS.tk.length - (intOf s).toNat)
            case atStart => exact ⟨0, _, rfl, Nat.zero_le _, ZE.out⟩
            case round =>
              obtain ⟨i, ev, rfl, hiK, hst⟩ := hrel
              obtain ⟨r0, -, -⟩ := hst.out.gd.da.cells
              obtain ⟨tto, tcap, hX, hcap, -⟩ := hst.out.gd.da.form
              have hlK : (dOf SS (lastS SS)).tk.length = SS.tk.length := by show (SS.tk.map dk).length = _; simp
              rw [hlK] at hX hcap
              rw [hX] at r0
              obtain ⟨K, hK'⟩ : ∃ K, Hid (SS.tk.length = K) := ⟨_, rfl⟩
              rw [hK'.out] at r0 hcap hiK
              by_cases hlt : i < K
              · have i1 : (i : Int) < (K : Int) := by omega
                have i2 : (K : Int) ≤ (tcap : Int) := by omega
                have i3 : (K : Int) ≤ 16 := by have := KK.out; have := hK'.out; omega
                obtain ⟨t, ht⟩ : ∃ t, SS.tk[i]? = some t := ⟨_, List.getElem?_eq_getElem (by rw [hK'.out]; exact hlt)⟩
                obtain ⟨tb, tcap2, hX2, -, -, -, ⟨-, -, -, -⟩, -, -, -, p4, p5⟩ := hst.out.gd.da.tcell (dOf_get ht)
                rw [hX] at hX2
                simp only [Value.slice.injEq] at hX2
                obtain ⟨hx1, -, -⟩ := hX2
                subst hx1
                have hsx := endsI_succ ht
                obtain ⟨hw, hhw⟩ : ∃ hw, Hid ((dk t).hw = hw) := ⟨_, rfl⟩
                have ewt : (dk t).wt = t.wt := rfl
                rw [hhw.out] at p4
                rw [ewt] at p5
                have Yr := alloc_cell (w := wr) (.cells #[.int .i64 0, .int .i64 0] 48) r0
                have Yr' : ((wr.alloc (.cells #[.int .i64 0, .int .i64 0] 48)).drew).cell? ⟨rb, 0, none⟩ = some (.slice (some ⟨tb, 0, none⟩) K tcap) := Yr
                have Y4 := alloc_cell (w := wr) (.cells #[.int .i64 0, .int .i64 0] 48) p4
                have Y4' : ((wr.alloc (.cells #[.int .i64 0, .int .i64 0] 48)).drew).cell? ⟨tb, i * 6 + 4, none⟩ = some (.int .i64 hw) := Y4
                have Y5 := alloc_cell (w := wr) (.cells #[.int .i64 0, .int .i64 0] 48) p5
                have Y5' : ((wr.alloc (.cells #[.int .i64 0, .int .i64 0] 48)).drew).cell? ⟨tb, i * 6 + 5, none⟩ = some (.int .i64 t.wt) := Y5
                have KP1 := hide hK'.out
                go_upto_region 26 with fail
                go_region
                have BB : Hid (Below wr.heap.size wr (wr.alloc (.cells #[.int .i64 hw, .int .i64 t.wt] 48)).drew) := (box_below wr (.cells #[.int .i64 hw, .int .i64 t.wt] 48)).drew
                have NB : Hid ((wr.alloc (.cells #[.int .i64 hw, .int .i64 t.wt] 48)).drew.heap[wr.heap.size]? = some (.cells #[.int .i64 hw, .int .i64 t.wt] 48)) := heap_alloc_new wr (.cells #[.int .i64 hw, .int .i64 t.wt] 48)
                clear Yr Yr' Y4 Y4' Y5 Y5' r0 p4 p5
                have ZV := hide (hst.out.below BB.out)
                have BQ : Hid (Below wr.heap.size wr wr) := Below.refl _ _
                obtain ⟨xb, hxb⟩ : ∃ xb, Hid (wr.heap.size = xb) := ⟨_, rfl⟩
                have HZ := hst
                clear hst
                generalize (wr.alloc (.cells #[.int .i64 hw, .int .i64 t.wt] 48)).drew = u2 at *
                rw [hxb.out] at NB BB ⊢
                have x0 : u2.cell? ⟨xb, 0, none⟩ = some (.int .i64 hw) := by rw [cell_of NB.out]; rfl
                have x1 : u2.cell? ⟨xb, 1, none⟩ = some (.int .i64 t.wt) := by rw [cell_of NB.out]; rfl
                have xz : u2.frozen? ⟨xb, 0, none⟩ = false := frz_of NB.out
                by_cases h0 : hw = 0
                · subst h0
                  obtain ⟨-, hl⟩ := dk_hw0.1 hhw.out
                  obtain ⟨a, ha⟩ : ∃ a, t.ac[t.pc]? = some a := ⟨_, List.getElem?_eq_getElem hl⟩
                  have okt := ZV.out.gd.ok.tk t (List.mem_of_getElem? ht)
                  have oka := okt.ac a (List.mem_of_getElem? ha)
                  have w3 : t.sl ≠ 0 → a.k = 3 := fun c => by
                    obtain ⟨-, b, hb, hk⟩ := (ZV.out.gd.wt.t3 i t ht).2 c
                    rw [ha] at hb; cases hb
                    exact hk
                  have HW := hide (why_any w0 u2 us rb X (dOf SS (lastS SS)) ZV.out.gd.da (dOf_get ht) (m := t.ac.length) (a := a) ha oka w3 (ZV.out.gd.wt.t3 i t ht).1)
                  have HH0 := end_why (S := SS) (la := lastS SS) hhw.out ha w3
                  obtain ⟨wy, hwy⟩ : ∃ wy, Hid (whyD (dOf SS (lastS SS)) (dk t) a = wy) := ⟨_, rfl⟩
                  rw [hwy.out] at HW HH0
                  clear oka okt w3 ha hl ht
                  go_upto_region 29 with (go_at_call 25; refine HW.out.mono ?_; rintro e u3 ⟨rfl, b3⟩; replace b3 := hide b3; have y0 : u3.cell? ⟨xb, 0, none⟩ = some (.int .i64 0) := (b3.out.cell (lt_of_cell x0)).trans x0; have yz : u3.frozen? ⟨xb, 0, none⟩ = false := frz_of ((b3.out.block _ (heap_lt NB.out)).trans NB.out); have Z3 := hide (ZV.out.below b3.out); have N3 := hide ((b3.out.block _ (heap_lt NB.out)).trans NB.out))
                  have B3 : Hid (Below xb wr u3) := by
                    have := b3.out.mono (show xb ≤ u2.heap.size from by have := heap_lt NB.out; omega)
                    exact BB.out.trans this
                  have N4 : Hid ((u3.setCell ⟨xb, 0, none⟩ (.int .i64 wy)).heap[xb]? = some (.cells #[.int .i64 wy, .int .i64 t.wt] 48)) := by
                    show _ = _
                    rw [heap_setCell_same _ _ _ _ _ _ N3.out]; rfl
                  have B4 : Hid (Below xb wr (u3.setCell ⟨xb, 0, none⟩ (.int .i64 wy))) := B3.out.setCell (Nat.le_refl _) _
                  clear x0 x1 xz HW Z3 N3 y0 yz B3 b3 ZV NB BB
                  generalize u3.setCell ⟨xb, 0, none⟩ (.int .i64 wy) = u4 at *
                  by_cases hy : wy = 0
                  · subst hy
                    have x0 : u4.cell? ⟨xb, 0, none⟩ = some (.int .i64 0) := by rw [cell_of N4.out]; rfl
                    have xz : u4.frozen? ⟨xb, 0, none⟩ = false := frz_of N4.out
                    have N5 : Hid ((u4.setCell ⟨xb, 0, none⟩ (.int .i64 3)).heap[xb]? = some (.cells #[.int .i64 3, .int .i64 t.wt] 48)) := by
                      show _ = _
                      rw [heap_setCell_same _ _ _ _ _ _ N4.out]; rfl
                    have B5 : Hid (Below xb wr (u4.setCell ⟨xb, 0, none⟩ (.int .i64 3))) := B4.out.setCell (Nat.le_refl _) _
                    have HH : Hid (howS SS t = 3) := by show _ = _; rw [HH0, if_pos rfl]
                    clear N4 B4
                    go_upto_region 31 with fail
                    clear x0 xz
                    generalize u4.setCell ⟨xb, 0, none⟩ (.int .i64 3) = u5 at *
                    have N4 := N5
                    have Z4 := hide (HZ.out.below (by rw [hxb.out]; exact B5.out))
                    clear N5 B5
                    have x0 : u5.cell? ⟨xb, 0, none⟩ = some (.int .i64 3) := by rw [cell_of N4.out]; rfl
                    have x1 : u5.cell? ⟨xb, 1, none⟩ = some (.int .i64 t.wt) := by rw [cell_of N4.out]; rfl
                    have g3 : u5.cell? ⟨g, 3, none⟩ = some ev := (cell_of Z4.out.rn).trans rfl
                    obtain ⟨a7, n7, c7, w7, r7, F7⟩ := ends_app Z4.out (3) t.wt (by rw [endsI_len (by rw [KP1.out]; omega)]; omega)
                    obtain ⟨Z9', k9, z9⟩ := F7.out
                    have Z9 : Hid (Rz w0 WS us rb X SS g tv (w7.setCell ⟨g, 3, none⟩ (.slice a7 n7 c7)) rv (.slice a7 n7 c7) qv vs (regs SS) (endsI SS (i + 1)) (quesI SS 4)) := by rw [hsx, HH.out]; exact Z9'
                    clear Z9' F7
                    obtain ⟨ea, ec, ee⟩ := slice_ofR Z4.out.en
                    obtain ⟨en, hen⟩ : ∃ en, Hid ((endsI SS i).length = en) := ⟨_, rfl⟩
                    rw [hen.out] at ee
                    rw [ee] at r7 g3 k9
                    clear Z4 N4
                    go_wp2_with (at_builtin; refine wpList_append_run rfl 30 (.tmp 154) (.tmp 156) rfl rfl rfl r7.out ?_)
                    go_roundw
                    case rel => exact ⟨i + 1, _, by go_num, (by rw [KP1.out]; omega), Z9.out⟩
                    case measure => simp only [intOf]; rw [KP1.out]; omega
                  · have hy' : (wy == 0) = false := by simpa using hy
                    have HH : Hid (howS SS t = wy) := by show _ = _; rw [HH0, if_neg hy]
                    have Z4 := hide (HZ.out.below (by rw [hxb.out]; exact B4.out))
                    clear B4
                    have x0 : u4.cell? ⟨xb, 0, none⟩ = some (.int .i64 wy) := by rw [cell_of N4.out]; rfl
                    go_upto_region 31 with fail
                    clear x0
                    have x0 : u4.cell? ⟨xb, 0, none⟩ = some (.int .i64 wy) := by rw [cell_of N4.out]; rfl
                    have x1 : u4.cell? ⟨xb, 1, none⟩ = some (.int .i64 t.wt) := by rw [cell_of N4.out]; rfl
                    have g3 : u4.cell? ⟨g, 3, none⟩ = some ev := (cell_of Z4.out.rn).trans rfl
                    obtain ⟨a7, n7, c7, w7, r7, F7⟩ := ends_app Z4.out (wy) t.wt (by rw [endsI_len (by rw [KP1.out]; omega)]; omega)
                    obtain ⟨Z9', k9, z9⟩ := F7.out
                    have Z9 : Hid (Rz w0 WS us rb X SS g tv (w7.setCell ⟨g, 3, none⟩ (.slice a7 n7 c7)) rv (.slice a7 n7 c7) qv vs (regs SS) (endsI SS (i + 1)) (quesI SS 4)) := by rw [hsx, HH.out]; exact Z9'
                    clear Z9' F7
                    obtain ⟨ea, ec, ee⟩ := slice_ofR Z4.out.en
                    obtain ⟨en, hen⟩ : ∃ en, Hid ((endsI SS i).length = en) := ⟨_, rfl⟩
                    rw [hen.out] at ee
                    rw [ee] at r7 g3 k9
                    clear Z4 N4
                    go_wp2_with (at_builtin; refine wpList_append_run rfl 30 (.tmp 154) (.tmp 156) rfl rfl rfl r7.out ?_)
                    go_roundw
                    case rel => exact ⟨i + 1, _, by go_num, (by rw [KP1.out]; omega), Z9.out⟩
                    case measure => simp only [intOf]; rw [KP1.out]; omega
                · have h0' : (hw == 0) = false := by simpa using h0
                  have HH : Hid (howS SS t = hw) := by show _ = _; rw [end_hw (by rw [hhw.out]; exact h0), hhw.out]
                  have Z4 := ZV
                  have N4 := NB
                  go_upto_region 31 with fail
                  clear x0 x1 xz ZV NB BB ht
                  generalize u2 = u4 at *
                  have x0 : u4.cell? ⟨xb, 0, none⟩ = some (.int .i64 hw) := by rw [cell_of N4.out]; rfl
                  have x1 : u4.cell? ⟨xb, 1, none⟩ = some (.int .i64 t.wt) := by rw [cell_of N4.out]; rfl
                  have g3 : u4.cell? ⟨g, 3, none⟩ = some ev := (cell_of Z4.out.rn).trans rfl
                  obtain ⟨a7, n7, c7, w7, r7, F7⟩ := ends_app Z4.out (hw) t.wt (by rw [endsI_len (by rw [KP1.out]; omega)]; omega)
                  obtain ⟨Z9', k9, z9⟩ := F7.out
                  have Z9 : Hid (Rz w0 WS us rb X SS g tv (w7.setCell ⟨g, 3, none⟩ (.slice a7 n7 c7)) rv (.slice a7 n7 c7) qv vs (regs SS) (endsI SS (i + 1)) (quesI SS 4)) := by rw [hsx, HH.out]; exact Z9'
                  clear Z9' F7
                  obtain ⟨ea, ec, ee⟩ := slice_ofR Z4.out.en
                  obtain ⟨en, hen⟩ : ∃ en, Hid ((endsI SS i).length = en) := ⟨_, rfl⟩
                  rw [hen.out] at ee
                  rw [ee] at r7 g3 k9
                  clear Z4 N4
                  go_wp2_with (at_builtin; refine wpList_append_run rfl 30 (.tmp 154) (.tmp 156) rfl rfl rfl r7.out ?_)
                  go_roundw
                  case rel => exact ⟨i + 1, _, by go_num, (by rw [KP1.out]; omega), Z9.out⟩
                  case measure => simp only [intOf]; rw [KP1.out]; omega
              · obtain rfl : i = K := by omega
                have i1 : ¬ (i : Int) < (i : Int) := by omega
                obtain ⟨ta, tc1, e⟩ := slice_ofR hst.out.tr
                subst e
                obtain ⟨ra, rc1, e⟩ := slice_ofR hst.out.rg
                subst e
                obtain ⟨ea, ec1, e⟩ := slice_ofR hst.out.en
                subst e
                obtain ⟨qa1, qc1, e⟩ := slice_ofR hst.out.qs
                subst e
                obtain ⟨tn, htn⟩ : ∃ tn, Hid (SS.tr.length = tn) := ⟨_, rfl⟩
                obtain ⟨rn1, hrn1⟩ : ∃ rn1, Hid ((regs SS).length = rn1) := ⟨_, rfl⟩
                obtain ⟨en1, hen1⟩ : ∃ en1, Hid ((endsI SS i).length = en1) := ⟨_, rfl⟩
                obtain ⟨qn1, hqn1⟩ : ∃ qn1, Hid (vs.length = qn1) := ⟨_, rfl⟩
                have GH := hst.out.rn
                have RQ := fun v0 v1 v2 v3 v4 => hst.out.rq pb PBL.out v0 v1 v2 v3 v4
                have LW := hst.out.gd.da.low
                simp only [htn.out, hrn1.out, hen1.out, hqn1.out] at GH RQ
                rw [← hK'.out] at RQ
                have PB : Hid (wr.heap[pb]? = some (.cells #[.int .i64 0, .slice none 0 0, .slice none 0 0, .slice none 0 0, .slice none 0 0] 33 (0, 0))) := (LW.block pb PBL.out).trans PBH.out
                have g0 : wr.cell? ⟨g, 0, none⟩ = some (.int .i64 (tn : Int)) := by rw [cell_of GH]; rfl
                have g1 : wr.cell? ⟨g, 1, none⟩ = some (.slice ta tn tc1) := by rw [cell_of GH]; rfl
                have g2 : wr.cell? ⟨g, 2, none⟩ = some (.slice ra rn1 rc1) := by rw [cell_of GH]; rfl
                have g3 : wr.cell? ⟨g, 3, none⟩ = some (.slice ea en1 ec1) := by rw [cell_of GH]; rfl
                have g4 : wr.cell? ⟨g, 4, none⟩ = some (.slice qa1 qn1 qc1) := by rw [cell_of GH]; rfl
                have z0 : wr.cell? ⟨pb, 0, none⟩ = some (.int .i64 0) := by rw [cell_of PB.out]; rfl
                have z1 : wr.cell? ⟨pb, 1, none⟩ = some (.slice none 0 0) := by rw [cell_of PB.out]; rfl
                have z2 : wr.cell? ⟨pb, 2, none⟩ = some (.slice none 0 0) := by rw [cell_of PB.out]; rfl
                have z3 : wr.cell? ⟨pb, 3, none⟩ = some (.slice none 0 0) := by rw [cell_of PB.out]; rfl
                have z4 : wr.cell? ⟨pb, 4, none⟩ = some (.slice none 0 0) := by rw [cell_of PB.out]; rfl
                have y0 : wr.frozen? ⟨pb, 0, none⟩ = false := frz_of PB.out
                have y1 : wr.frozen? ⟨pb, 1, none⟩ = false := frz_of PB.out
                have y2 : wr.frozen? ⟨pb, 2, none⟩ = false := frz_of PB.out
                have y3 : wr.frozen? ⟨pb, 3, none⟩ = false := frz_of PB.out
                have y4 : wr.frozen? ⟨pb, 4, none⟩ = false := frz_of PB.out
                have FIN : Hid (Rq (put5 wr pb (.int .i64 (tn : Int)) (.slice ta tn tc1) (.slice ra rn1 rc1) (.slice ea en1 ec1) (.slice qa1 qn1 qc1)) (.slice ta tn tc1) (.slice ra rn1 rc1) (.slice ea en1 ec1) (.slice qa1 qn1 qc1) (trI SS.tr) (regs SS) (endsI SS SS.tk.length) (quesI SS 4) ∧ Below w.heap.size w (put5 wr pb (.int .i64 (tn : Int)) (.slice ta tn tc1) (.slice ra rn1 rc1) (.slice ea en1 ec1) (.slice qa1 qn1 qc1))) := by
                  refine ⟨RQ _ _ _ _ _, ?_⟩
                  have b1 : Below w.heap.size w wr := W0.out.trans (LW.mono W0.out.size)
                  exact b1.trans ((put5_but wr pb _ _ _ _ _).below b1.size fun k c => by have := hpb.out; omega)
                have PH := hide (put5_heap PB.out (.int .i64 (tn : Int)) (.slice ta tn tc1) (.slice ra rn1 rc1) (.slice ea en1 ec1) (.slice qa1 qn1 qc1))
                clear GH RQ LW PB hst
                go_wp2_with fail
                show bodyPost _ _ _ _ _ (put5 wr pb (.int .i64 (tn : Int)) (.slice ta tn tc1) (.slice ra rn1 rc1) (.slice ea en1 ec1) (.slice qa1 qn1 qc1))
                generalize put5 wr pb (.int .i64 (tn : Int)) (.slice ta tn tc1) (.slice ra rn1 rc1) (.slice ea en1 ec1) (.slice qa1 qn1 qc1) = w9 at *
                have k0 : w9.cell? ⟨pb, 0, none⟩ = some (.int .i64 (tn : Int)) := by rw [cell_of PH.out]; rfl
                have k1 : w9.cell? ⟨pb, 1, none⟩ = some (.slice ta tn tc1) := by rw [cell_of PH.out]; rfl
                have k2 : w9.cell? ⟨pb, 2, none⟩ = some (.slice ra rn1 rc1) := by rw [cell_of PH.out]; rfl
                have k3 : w9.cell? ⟨pb, 3, none⟩ = some (.slice ea en1 ec1) := by rw [cell_of PH.out]; rfl
                have k4 : w9.cell? ⟨pb, 4, none⟩ = some (.slice qa1 qn1 qc1) := by rw [cell_of PH.out]; rfl
                refine bodyPost_ret (by simp [results, Tryd.results8, go_sem, k0, k1, k2, k3, k4]; rfl) rfl ?_
                exact ⟨_, _, _, _, by rw [htn.out], FIN.out.1, FIN.out.2⟩
      have i2 : (N : Int) > 0 := by omega
      have hne : rdy S ≠ [] := fun c => hz (by rw [← hNN.out, c]; rfl)
      have hpos : Hid (0 < (rdy S).length) := List.length_pos_iff.2 hne
      have hle16 : Hid ((rdy S).length ≤ 16) := Nat.le_trans (rdy_len S) R1.out.gd.ok.n
      obtain ⟨m, hm⟩ : ∃ m, Hid (nx picks S = m) := ⟨_, rfl⟩
      have hmr : Hid (isR S m = true) := by show _ = _; rw [← hm.out]; exact nx_rdy hne
      have htl : Hid (S.tr.length ≤ 65535) := by have := M2.out; have := hT.out; show _ ≤ _; omega
      have htl65 : Hid (S.tr.length ≤ 65536) := Nat.le_succ_of_le htl.out
      have hlt2 : Hid (T < most) := hlt
      have T3 : (T : Int) ≤ 65535 := by omega
      obtain ⟨t, a, ht, -, -, -, -, -, -, etr⟩ := turn_of R1.out.gd.ok R1.out.gd.wt hmr.out (lastS S)
      replace etr := hide etr
      have htr2 : Hid ((turnS S m).tr.length = T + 1) := by show _ = _; rw [(turn_ok R1.out.gd.ok hmr.out (Nat.lt_succ_of_le htl.out)).2, hT.out]
      have hpl2 : Hid (playS picks (most - (turnS S m).tr.length) (turnS S m) = SS) := by
        show _ = _
        rw [← hpl.out, htr2.out, hT.out, show most - T = (most - (T + 1)) + 1 by omega, play_succ, if_neg hne, hm.out]
      obtain ⟨tb, tcap, hX, hcap, -, -, ⟨-, -, -, -⟩, p1, -, -, -, -⟩ := R1.out.gd.da.tcell (dOf_get ht)
      have hlK : (dOf S (lastS S)).tk.length = S.tk.length := by show (S.tk.map dk).length = _; simp
      rw [hlK] at hX hcap
      have r0 := R1.out.gd.da.cells.1
      rw [hX] at r0
      have hmK : m < S.tk.length := (List.getElem?_eq_some_iff.1 ht).1
      have TBH : Hid (tb < wr.heap.size ∧ tv.ownBlock ≠ some tb ∧ rb < wr.heap.size ∧ tv.ownBlock ≠ some rb) := by
        have ot : OwnD rb X tb := own_of R1.out.gd.da (i := 0) (by omega) (by rw [hX]; rfl)
        have orb : OwnD rb X rb := ⟨0, rfl⟩
        exact ⟨R1.out.gd.da.lt tb ot, fun e => (R1.out.tn tb e).1 ot, R1.out.gd.da.lt rb orb, fun e => (R1.out.tn rb e).1 orb⟩
      obtain ⟨K, hK⟩ : ∃ K, Hid (S.tk.length = K) := ⟨_, rfl⟩
      rw [hK.out] at r0 hcap hmK
      have m1 : (m : Int) < (K : Int) := by omega
      have m2 : (K : Int) ≤ (tcap : Int) := by omega
      have epc : (dk t).pc = t.pc := rfl
      rw [epc] at p1
      clear hX hcap hlK hmK epc hlt ht hca
      by_cases hpq : T < Q
      · have i4 : (T : Int) < (Q : Int) := by omega
        obtain ⟨k0, hk0⟩ : ∃ k0, picks[T]? = some k0 := ⟨_, List.getElem?_eq_getElem (by rw [hQ.out]; exact hpq)⟩
        obtain ⟨kn, rfl⟩ := nat_of (HP0.out k0 (List.mem_of_getElem? hk0)).1
        have hk64 : Hid ((kn : Int) ≤ 9223372036854775807) := (HP0.out _ (List.mem_of_getElem? hk0)).2
        have RW := Below.row (R1.out.gd.da.low) HP2.out
        obtain ⟨hcp, hrow⟩ := row_at RW (by rw [List.length_map]; exact hQ.out)
        obtain ⟨pkb, po, e, pk⟩ := hrow T (.int .i64 (kn : Int)) (by rw [List.getElem?_map, hk0]; rfl)
        subst e
        have i5 : (Q : Int) ≤ (pc : Int) := by omega
        have PE : Hid (pickK (rdy S) (kn : Int) (lastS S) = m) := by
          show _ = _
          rw [← hm.out]
          unfold nx
          rw [pickK_some (by rw [hT.out]; exact hk0) (by omega)]
        clear hne RW hrow hk0 hpl hcp hz hpq
        go_upto_region 13 with fail
        clear pk g0
        have PK := hide (rpick_any wr w.heap.size _ (rdy S) (kn : Int) (lastS S) hv.out hpos.out hle16.out hk64.out)
        rw [PE.out] at PK
        go_upto_region 14 with (go_at_call 23; refine PK.out.mono ?_; rintro e w4 ⟨rfl, hw4⟩; subst hw4)
        refine wp_region_T (fun q => q.cell? ⟨g, 1, none⟩ = some (tv) ∧ q.cell? ⟨rb, 0, none⟩ = some (.slice (some ⟨tb, 0, none⟩) K tcap) ∧ q.cell? ⟨tb, m * 6 + 1, none⟩ = some (.int .i64 (t.pc : Int))) 15 (by kernel_rfl) ?_
        have KP : Hid (w4.drew.cell? ⟨g, 1, none⟩ = some (tv) ∧ w4.drew.cell? ⟨rb, 0, none⟩ = some (.slice (some ⟨tb, 0, none⟩) K tcap) ∧ w4.drew.cell? ⟨tb, m * 6 + 1, none⟩ = some (.int .i64 (t.pc : Int))) := ⟨g1, r0, p1⟩
        have RV := hide (R1.out.below (Below.refl _ _).drew)
        have TB : Hid (w4.drew.heap[tb]? = w4.heap[tb]? ∧ tb < w4.drew.heap.size ∧ tv.ownBlock ≠ some tb ∧ rb < w4.drew.heap.size ∧ tv.ownBlock ≠ some rb) := ⟨rfl, TBH.out⟩
        clear R1 hv g1 r0 p1 PK
        generalize w4.drew = u1 at *
        refine wpAnyT_take (i := 0) (oi := { dst := some 68, op := Op.fieldAddr 33 (Operand.tmp 12) 1, type := 0, pos := "ref.go:275", after := #[], guard := none }) (v := .pointer (some ⟨g, 1, none⟩)) [1, 13, 15] rfl (by kernel_rfl) (by kernel_rfl) (by kernel_rfl) (by kernel_rfl) (fun _ _ _ h => h) (Or.inl ⟨by rfl, ?_⟩) KP.out ?_
        · intro wq hSw
          obtain ⟨y0, y1, y2⟩ := hSw
          go_simp
        (try simp only [Act.put, List.setIfInBounds_toArray, List.set_cons_zero, List.set_cons_succ])
        refine wpAnyT_take (i := 1) (oi := { dst := some 69, op := Op.load 28 (Operand.tmp 68), type := 28, pos := "ref.go:275", after := #[{ on := 0, ground := Ground.data }], guard := none }) (v := tv) [13, 15] rfl (by kernel_rfl) (by kernel_rfl) (by kernel_rfl) (by kernel_rfl) (fun _ _ _ h => h) (Or.inl ⟨by rfl, ?_⟩) KP.out ?_
        · intro wq hSw
          obtain ⟨y0, y1, y2⟩ := hSw
          go_simp
        (try simp only [Act.put, List.setIfInBounds_toArray, List.set_cons_zero, List.set_cons_succ])
        refine wpAnyT_take (i := 2) (oi := { dst := some 70, op := Op.move (Operand.tmp 15), type := 3, pos := "ref.go:275", after := #[], guard := none }) (v := .int .i64 (m : Int)) [11, 12, 13, 15] rfl (by kernel_rfl) (by kernel_rfl) (by kernel_rfl) (by kernel_rfl) (fun _ _ _ h => h) (Or.inl ⟨by rfl, ?_⟩) KP.out ?_
        · intro wq hSw
          obtain ⟨y0, y1, y2⟩ := hSw
          go_simp
        (try simp only [Act.put, List.setIfInBounds_toArray, List.set_cons_zero, List.set_cons_succ])
        refine wpAnyT_take (i := 3) (oi := { dst := some 71, op := Op.move (Operand.tmp 11), type := 53, pos := "ref.go:275", after := #[], guard := none }) (v := .pointer (some ⟨rb, 0, none⟩)) [4, 5, 6, 8, 9, 10, 11, 12, 13, 15] rfl (by kernel_rfl) (by kernel_rfl) (by kernel_rfl) (by kernel_rfl) (fun _ _ _ h => h) (Or.inl ⟨by rfl, ?_⟩) KP.out ?_
        · intro wq hSw
          obtain ⟨y0, y1, y2⟩ := hSw
          go_simp
        (try simp only [Act.put, List.setIfInBounds_toArray, List.set_cons_zero, List.set_cons_succ])
        refine wpAnyT_take (i := 4) (oi := { dst := some 72, op := Op.nilCheck (Operand.tmp 71), type := 0, pos := "ref.go:275", after := #[{ on := 3, ground := Ground.data }], guard := none }) (v := .pointer (some ⟨rb, 0, none⟩)) [5, 6, 8, 9, 10, 11, 12, 13, 15] rfl (by kernel_rfl) (by kernel_rfl) (by kernel_rfl) (by kernel_rfl) (fun _ _ _ h => h) (Or.inl ⟨by rfl, ?_⟩) KP.out ?_
        · intro wq hSw
          obtain ⟨y0, y1, y2⟩ := hSw
          go_simp
        (try simp only [Act.put, List.setIfInBounds_toArray, List.set_cons_zero, List.set_cons_succ])
        refine wpAnyT_take (i := 5) (oi := { dst := some 73, op := Op.fieldAddr 63 (Operand.tmp 72) 0, type := 0, pos := "ref.go:275", after := #[{ on := 4, ground := Ground.data }], guard := none }) (v := .pointer (some ⟨rb, 0, none⟩)) [6, 8, 9, 10, 11, 12, 13, 15] rfl (by kernel_rfl) (by kernel_rfl) (by kernel_rfl) (by kernel_rfl) (fun _ _ _ h => h) (Or.inl ⟨by rfl, ?_⟩) KP.out ?_
        · intro wq hSw
          obtain ⟨y0, y1, y2⟩ := hSw
          go_simp
        (try simp only [Act.put, List.setIfInBounds_toArray, List.set_cons_zero, List.set_cons_succ])
        refine wpAnyT_take (i := 6) (oi := { dst := some 74, op := Op.load 57 (Operand.tmp 73), type := 57, pos := "ref.go:275", after := #[{ on := 5, ground := Ground.data }], guard := none }) (v := .slice (some ⟨tb, 0, none⟩) K tcap) [8, 9, 10, 11, 12, 13, 15] rfl (by kernel_rfl) (by kernel_rfl) (by kernel_rfl) (by kernel_rfl) (fun _ _ _ h => h) (Or.inl ⟨by rfl, ?_⟩) KP.out ?_
        · intro wq hSw
          obtain ⟨y0, y1, y2⟩ := hSw
          go_simp
        (try simp only [Act.put, List.setIfInBounds_toArray, List.set_cons_zero, List.set_cons_succ])
        refine wpAnyT_take (i := 7) (oi := { dst := some 75, op := Op.move (Operand.tmp 15), type := 3, pos := "ref.go:275", after := #[], guard := none }) (v := .int .i64 (m : Int)) [8, 9, 10, 11, 12, 13, 15] rfl (by kernel_rfl) (by kernel_rfl) (by kernel_rfl) (by kernel_rfl) (fun _ _ _ h => h) (Or.inl ⟨by rfl, ?_⟩) KP.out ?_
        · intro wq hSw
          obtain ⟨y0, y1, y2⟩ := hSw
          go_simp
        (try simp only [Act.put, List.setIfInBounds_toArray, List.set_cons_zero, List.set_cons_succ])
        refine wpAnyT_take (i := 8) (oi := { dst := some 76, op := Op.indexAddr 57 (Operand.tmp 74) (Operand.tmp 75), type := 0, pos := "ref.go:275", after := #[{ on := 6, ground := Ground.data }, { on := 7, ground := Ground.data }], guard := none }) (v := .pointer (some ⟨tb, m * 6, none⟩)) [9, 10, 11, 12, 13, 15] rfl (by kernel_rfl) (by kernel_rfl) (by kernel_rfl) (by kernel_rfl) (fun _ _ _ h => h) (Or.inl ⟨by rfl, ?_⟩) KP.out ?_
        · intro wq hSw
          obtain ⟨y0, y1, y2⟩ := hSw
          go_simp
        (try simp only [Act.put, List.setIfInBounds_toArray, List.set_cons_zero, List.set_cons_succ])
        refine wpAnyT_take (i := 9) (oi := { dst := some 77, op := Op.fieldAddr 65 (Operand.tmp 76) 1, type := 0, pos := "ref.go:275", after := #[{ on := 8, ground := Ground.data }], guard := none }) (v := .pointer (some ⟨tb, m * 6 + 1, none⟩)) [10, 11, 12, 13, 15] rfl (by kernel_rfl) (by kernel_rfl) (by kernel_rfl) (by kernel_rfl) (fun _ _ _ h => h) (Or.inl ⟨by rfl, ?_⟩) KP.out ?_
        · intro wq hSw
          obtain ⟨y0, y1, y2⟩ := hSw
          go_simp
        (try simp only [Act.put, List.setIfInBounds_toArray, List.set_cons_zero, List.set_cons_succ])
        refine wpAnyT_take (i := 10) (oi := { dst := some 78, op := Op.load 3 (Operand.tmp 77), type := 3, pos := "ref.go:275", after := #[{ on := 9, ground := Ground.data }], guard := none }) (v := .int .i64 (t.pc : Int)) [11, 12, 13, 15] rfl (by kernel_rfl) (by kernel_rfl) (by kernel_rfl) (by kernel_rfl) (fun _ _ _ h => h) (Or.inl ⟨by rfl, ?_⟩) KP.out ?_
        · intro wq hSw
          obtain ⟨y0, y1, y2⟩ := hSw
          go_simp
        (try simp only [Act.put, List.setIfInBounds_toArray, List.set_cons_zero, List.set_cons_succ])
        refine wpAnyT_take (i := 11) (oi := { dst := some 79, op := Op.build 39 #[(0, Operand.tmp 70), (1, Operand.tmp 78)], type := 39, pos := "ref.go:275", after := #[{ on := 2, ground := Ground.data }, { on := 10, ground := Ground.data }], guard := none }) (v := .agg #[.int .i64 (m : Int), .int .i64 (t.pc : Int)]) [12, 13, 15] rfl (by kernel_rfl) (by kernel_rfl) (by kernel_rfl) (by kernel_rfl) (fun _ _ _ h => h) (Or.inl ⟨by rfl, ?_⟩) KP.out ?_
        · intro wq hSw
          obtain ⟨y0, y1, y2⟩ := hSw
          go_simp
        (try simp only [Act.put, List.setIfInBounds_toArray, List.set_cons_zero, List.set_cons_succ])
        obtain ⟨a7, n7, c7, w7, r7, F7⟩ := RV.out.push (m, t.pc) htl65.out
        have AL : Hid ((u1.alloc (.cells #[.int .i64 (m : Int), .int .i64 (t.pc : Int)] 39)).cell? ⟨g, 1, none⟩ = some (tv) ∧ (u1.alloc (.cells #[.int .i64 (m : Int), .int .i64 (t.pc : Int)] 39)).cell? ⟨rb, 0, none⟩ = some (.slice (some ⟨tb, 0, none⟩) K tcap) ∧ (u1.alloc (.cells #[.int .i64 (m : Int), .int .i64 (t.pc : Int)] 39)).cell? ⟨tb, m * 6 + 1, none⟩ = some (.int .i64 (t.pc : Int))) := ⟨alloc_cell _ KP.out.1, alloc_cell _ KP.out.2.1, alloc_cell _ KP.out.2.2⟩
        have K7 : Hid (w7.cell? ⟨g, 1, none⟩ = some (tv) ∧ w7.cell? ⟨rb, 0, none⟩ = some (.slice (some ⟨tb, 0, none⟩) K tcap) ∧ w7.cell? ⟨tb, m * 6 + 1, none⟩ = some (.int .i64 (t.pc : Int))) := ⟨F7.out.2.1, (World.cell?_of_block (F7.out.2.2.2 rb TB.out.2.2.2.1 TB.out.2.2.2.2)).trans KP.out.2.1, (World.cell?_of_block (F7.out.2.2.2 tb TB.out.2.1 TB.out.2.2.1)).trans KP.out.2.2⟩
        refine wpAnyT_one (i := 12) (o := { dst := some 80, op := Op.buildSlice 28 1 #[(0, Operand.tmp 79)], type := 28, pos := "ref.go:275", after := #[{ on := 11, ground := Ground.data }], guard := none }) (by kernel_rfl) rfl (fun K hK => ?_)
        go_simp
        refine hK.out _ _ (fun _ => AL.out) ?_
        clear hK K
        (try simp only [Act.put, List.setIfInBounds_toArray, List.set_cons_zero, List.set_cons_succ])
        refine wpAnyT_one (i := 13) (o := { dst := some 81, op := Op.call { callee := Callee.builtin Builtin.append, args := #[Operand.tmp 69, Operand.tmp 80], argTypes := #[28, 28] }, type := 28, pos := "ref.go:275", after := #[{ on := 1, ground := Ground.data }, { on := 12, ground := Ground.data }], guard := none }) (by kernel_rfl) rfl (fun K hK => ?_)
        rw [if_pos (by simp [Region.wanted])]
        refine Lib.wp_append_run _ (.tmp 69) (.tmp 80) 28 28 rfl tv (.slice (some ⟨u1.heap.size, 0, none⟩) 1 1) (by simp [Act.eval]) (by simp [Act.eval]) _ w7 r7.out ?_
        refine hK.out _ _ (fun _ => K7.out) ?_
        clear hK K
        (try simp only [Act.put, List.setIfInBounds_toArray, List.set_cons_zero, List.set_cons_succ])
        refine wpAnyT_one (i := 14) (o := { dst := some 82, op := Op.fieldAddr 33 (Operand.tmp 12) 1, type := 0, pos := "ref.go:275", after := #[{ on := 0, ground := Ground.phase }, { on := 1, ground := Ground.phase }, { on := 2, ground := Ground.phase }, { on := 3, ground := Ground.phase }, { on := 4, ground := Ground.phase }, { on := 5, ground := Ground.phase }, { on := 6, ground := Ground.phase }, { on := 7, ground := Ground.phase }, { on := 8, ground := Ground.phase }, { on := 9, ground := Ground.phase }, { on := 10, ground := Ground.phase }, { on := 11, ground := Ground.phase }, { on := 12, ground := Ground.phase }, { on := 13, ground := Ground.phase }], guard := none }) (by kernel_rfl) rfl (fun K hK => ?_)
        go_simp
        refine hK.out _ _ (fun _ => K7.out) ?_
        clear hK K
        (try simp only [Act.put, List.setIfInBounds_toArray, List.set_cons_zero, List.set_cons_succ])
        obtain ⟨-, k7, z7, -⟩ := F7.out
        clear AL K7
        refine wpAnyT_one (i := 15) (o := { dst := none, op := Op.store 28 (Operand.tmp 82) (Operand.tmp 81), type := 0, pos := "ref.go:275", after := #[{ on := 14, ground := Ground.data }, { on := 13, ground := Ground.data }, { on := 13, ground := Ground.chain }, { on := 0, ground := Ground.phase }, { on := 1, ground := Ground.phase }, { on := 2, ground := Ground.phase }, { on := 3, ground := Ground.phase }, { on := 4, ground := Ground.phase }, { on := 5, ground := Ground.phase }, { on := 6, ground := Ground.phase }, { on := 7, ground := Ground.phase }, { on := 8, ground := Ground.phase }, { on := 9, ground := Ground.phase }, { on := 10, ground := Ground.phase }, { on := 11, ground := Ground.phase }, { on := 12, ground := Ground.phase }, { on := 13, ground := Ground.phase }], guard := none }) (by kernel_rfl) rfl (fun K hK => ?_)
        go_simp
        refine hK.out _ _ (vac (by kernel_rfl)) ?_
        clear hK K
        (try simp only [Act.put, List.setIfInBounds_toArray, List.set_cons_zero, List.set_cons_succ])
        refine wpAnyT_done (by kernel_rfl) ?_ _
        have R6 := hide F7.out.1
        clear KP RV TB F7 r7 k7 z7
        generalize w7.setCell ⟨g, 1, none⟩ (.slice a7 n7 c7) = w6 at *
        have SP := hide (R6.out.gd.step hmr.out (Nat.lt_succ_of_le htl.out))
        go_upto_region 16 with (go_at_call 24; refine SP.out.mono ?_; rintro e w8 ⟨rfl, X8, G8, S8⟩; have R8 := hide (R6.out.step G8 S8); clear G8 S8)
        rw [← etr.out] at R8
        have q0 : w8.cell? ⟨g, 0, none⟩ = some (.int .i64 (T : Int)) := by rw [cell_of R8.out.rn, ← hT.out]; rfl
        have z0 : w8.frozen? ⟨g, 0, none⟩ = false := frz_of R8.out.rn
        have R9 : Hid (Rl w0 (w8.setCell ⟨g, 0, none⟩ (.int .i64 ((T : Int) + 1))) us rb X8 (turnS S m) g (.slice a7 n7 c7) (turnS S m).tr.length (turnS S m).tr) := by
          rw [htr2.out]
          exact R8.out.inc (T + 1)
        clear SP R6 R8
        go_upto_region 17 with fail
        generalize w8.setCell ⟨g, 0, none⟩ (.int .i64 ((T : Int) + 1)) = w9 at *
        clear q0 z0
        have RD := hide R9.out.gd.ready
        go_wp2_with (go_at_call 22; refine RD.out.mono ?_; rintro e w10 ⟨v10, rfl, n10, b10⟩; replace n10 := hide n10; replace b10 := hide b10)
        have RA := hide (R9.out.below b10.out)
        have NA : Hid (Nms w.heap.size w10 v10 (ns (rdy (turnS S m)))) := row_low n10.out (Nat.le_trans WL.out R9.out.gd.da.low.size)
        clear RD R9 n10 b10
        go_roundw
        case rel => exact ⟨X8, turnS S m, _, RA.out, NA.out, by rw [htr2.out]; have := hlt2.out; omega, hpl2.out⟩
        case measure =>
          have e7 : w10.cell? ⟨g, 0, none⟩ = some (.int .i64 ((turnS S m).tr.length : Int)) := by rw [cell_of RA.out.rn]; rfl
          rw [intO_of e7, intO_of gme.out, htr2.out]
          have := hlt2.out
          omega
      · have i4 : ¬ (T : Int) < (Q : Int) := by omega
        have hk0 : picks[T]? = none := List.getElem?_eq_none_iff.2 (by rw [hQ.out]; omega)
        have hk64 : Hid ((-1 : Int) ≤ 9223372036854775807) := by show _ ≤ _; decide
        have PE : Hid (pickK (rdy S) (-1) (lastS S) = m) := by
          show _ = _
          rw [← hm.out]
          unfold nx
          rw [pickK_none (by rw [hT.out]; exact hk0)]
        clear hne hk0 hpl hz hpq
        go_upto_region 13 with fail
        clear g0
        have PK := hide (rpick_any wr w.heap.size _ (rdy S) (-1) (lastS S) hv.out hpos.out hle16.out hk64.out)
        rw [PE.out] at PK
        go_upto_region 14 with (go_at_call 23; refine PK.out.mono ?_; rintro e w4 ⟨rfl, hw4⟩; subst hw4)
        refine wp_region_T (fun q => q.cell? ⟨g, 1, none⟩ = some (tv) ∧ q.cell? ⟨rb, 0, none⟩ = some (.slice (some ⟨tb, 0, none⟩) K tcap) ∧ q.cell? ⟨tb, m * 6 + 1, none⟩ = some (.int .i64 (t.pc : Int))) 15 (by kernel_rfl) ?_
        have KP : Hid (w4.drew.cell? ⟨g, 1, none⟩ = some (tv) ∧ w4.drew.cell? ⟨rb, 0, none⟩ = some (.slice (some ⟨tb, 0, none⟩) K tcap) ∧ w4.drew.cell? ⟨tb, m * 6 + 1, none⟩ = some (.int .i64 (t.pc : Int))) := ⟨g1, r0, p1⟩
        have RV := hide (R1.out.below (Below.refl _ _).drew)
        have TB : Hid (w4.drew.heap[tb]? = w4.heap[tb]? ∧ tb < w4.drew.heap.size ∧ tv.ownBlock ≠ some tb ∧ rb < w4.drew.heap.size ∧ tv.ownBlock ≠ some rb) := ⟨rfl, TBH.out⟩
        clear R1 hv g1 r0 p1 PK
        generalize w4.drew = u1 at *
        refine wpAnyT_take (i := 0) (oi := { dst := some 68, op := Op.fieldAddr 33 (Operand.tmp 12) 1, type := 0, pos := "ref.go:275", after := #[], guard := none }) (v := .pointer (some ⟨g, 1, none⟩)) [1, 13, 15] rfl (by kernel_rfl) (by kernel_rfl) (by kernel_rfl) (by kernel_rfl) (fun _ _ _ h => h) (Or.inl ⟨by rfl, ?_⟩) KP.out ?_
        · intro wq hSw
          obtain ⟨y0, y1, y2⟩ := hSw
          go_simp
        (try simp only [Act.put, List.setIfInBounds_toArray, List.set_cons_zero, List.set_cons_succ])
        refine wpAnyT_take (i := 1) (oi := { dst := some 69, op := Op.load 28 (Operand.tmp 68), type := 28, pos := "ref.go:275", after := #[{ on := 0, ground := Ground.data }], guard := none }) (v := tv) [13, 15] rfl (by kernel_rfl) (by kernel_rfl) (by kernel_rfl) (by kernel_rfl) (fun _ _ _ h => h) (Or.inl ⟨by rfl, ?_⟩) KP.out ?_
        · intro wq hSw
          obtain ⟨y0, y1, y2⟩ := hSw
          go_simp
        (try simp only [Act.put, List.setIfInBounds_toArray, List.set_cons_zero, List.set_cons_succ])
        refine wpAnyT_take (i := 2) (oi := { dst := some 70, op := Op.move (Operand.tmp 15), type := 3, pos := "ref.go:275", after := #[], guard := none }) (v := .int .i64 (m : Int)) [11, 12, 13, 15] rfl (by kernel_rfl) (by kernel_rfl) (by kernel_rfl) (by kernel_rfl) (fun _ _ _ h => h) (Or.inl ⟨by rfl, ?_⟩) KP.out ?_
        · intro wq hSw
          obtain ⟨y0, y1, y2⟩ := hSw
          go_simp
        (try simp only [Act.put, List.setIfInBounds_toArray, List.set_cons_zero, List.set_cons_succ])
        refine wpAnyT_take (i := 3) (oi := { dst := some 71, op := Op.move (Operand.tmp 11), type := 53, pos := "ref.go:275", after := #[], guard := none }) (v := .pointer (some ⟨rb, 0, none⟩)) [4, 5, 6, 8, 9, 10, 11, 12, 13, 15] rfl (by kernel_rfl) (by kernel_rfl) (by kernel_rfl) (by kernel_rfl) (fun _ _ _ h => h) (Or.inl ⟨by rfl, ?_⟩) KP.out ?_
        · intro wq hSw
          obtain ⟨y0, y1, y2⟩ := hSw
          go_simp
        (try simp only [Act.put, List.setIfInBounds_toArray, List.set_cons_zero, List.set_cons_succ])
        refine wpAnyT_take (i := 4) (oi := { dst := some 72, op := Op.nilCheck (Operand.tmp 71), type := 0, pos := "ref.go:275", after := #[{ on := 3, ground := Ground.data }], guard := none }) (v := .pointer (some ⟨rb, 0, none⟩)) [5, 6, 8, 9, 10, 11, 12, 13, 15] rfl (by kernel_rfl) (by kernel_rfl) (by kernel_rfl) (by kernel_rfl) (fun _ _ _ h => h) (Or.inl ⟨by rfl, ?_⟩) KP.out ?_
        · intro wq hSw
          obtain ⟨y0, y1, y2⟩ := hSw
          go_simp
        (try simp only [Act.put, List.setIfInBounds_toArray, List.set_cons_zero, List.set_cons_succ])
        refine wpAnyT_take (i := 5) (oi := { dst := some 73, op := Op.fieldAddr 63 (Operand.tmp 72) 0, type := 0, pos := "ref.go:275", after := #[{ on := 4, ground := Ground.data }], guard := none }) (v := .pointer (some ⟨rb, 0, none⟩)) [6, 8, 9, 10, 11, 12, 13, 15] rfl (by kernel_rfl) (by kernel_rfl) (by kernel_rfl) (by kernel_rfl) (fun _ _ _ h => h) (Or.inl ⟨by rfl, ?_⟩) KP.out ?_
        · intro wq hSw
          obtain ⟨y0, y1, y2⟩ := hSw
          go_simp
        (try simp only [Act.put, List.setIfInBounds_toArray, List.set_cons_zero, List.set_cons_succ])
        refine wpAnyT_take (i := 6) (oi := { dst := some 74, op := Op.load 57 (Operand.tmp 73), type := 57, pos := "ref.go:275", after := #[{ on := 5, ground := Ground.data }], guard := none }) (v := .slice (some ⟨tb, 0, none⟩) K tcap) [8, 9, 10, 11, 12, 13, 15] rfl (by kernel_rfl) (by kernel_rfl) (by kernel_rfl) (by kernel_rfl) (fun _ _ _ h => h) (Or.inl ⟨by rfl, ?_⟩) KP.out ?_
        · intro wq hSw
          obtain ⟨y0, y1, y2⟩ := hSw
          go_simp
        (try simp only [Act.put, List.setIfInBounds_toArray, List.set_cons_zero, List.set_cons_succ])
        refine wpAnyT_take (i := 7) (oi := { dst := some 75, op := Op.move (Operand.tmp 15), type := 3, pos := "ref.go:275", after := #[], guard := none }) (v := .int .i64 (m : Int)) [8, 9, 10, 11, 12, 13, 15] rfl (by kernel_rfl) (by kernel_rfl) (by kernel_rfl) (by kernel_rfl) (fun _ _ _ h => h) (Or.inl ⟨by rfl, ?_⟩) KP.out ?_
        · intro wq hSw
          obtain ⟨y0, y1, y2⟩ := hSw
          go_simp
        (try simp only [Act.put, List.setIfInBounds_toArray, List.set_cons_zero, List.set_cons_succ])
        refine wpAnyT_take (i := 8) (oi := { dst := some 76, op := Op.indexAddr 57 (Operand.tmp 74) (Operand.tmp 75), type := 0, pos := "ref.go:275", after := #[{ on := 6, ground := Ground.data }, { on := 7, ground := Ground.data }], guard := none }) (v := .pointer (some ⟨tb, m * 6, none⟩)) [9, 10, 11, 12, 13, 15] rfl (by kernel_rfl) (by kernel_rfl) (by kernel_rfl) (by kernel_rfl) (fun _ _ _ h => h) (Or.inl ⟨by rfl, ?_⟩) KP.out ?_
        · intro wq hSw
          obtain ⟨y0, y1, y2⟩ := hSw
          go_simp
        (try simp only [Act.put, List.setIfInBounds_toArray, List.set_cons_zero, List.set_cons_succ])
        refine wpAnyT_take (i := 9) (oi := { dst := some 77, op := Op.fieldAddr 65 (Operand.tmp 76) 1, type := 0, pos := "ref.go:275", after := #[{ on := 8, ground := Ground.data }], guard := none }) (v := .pointer (some ⟨tb, m * 6 + 1, none⟩)) [10, 11, 12, 13, 15] rfl (by kernel_rfl) (by kernel_rfl) (by kernel_rfl) (by kernel_rfl) (fun _ _ _ h => h) (Or.inl ⟨by rfl, ?_⟩) KP.out ?_
        · intro wq hSw
          obtain ⟨y0, y1, y2⟩ := hSw
          go_simp
        (try simp only [Act.put, List.setIfInBounds_toArray, List.set_cons_zero, List.set_cons_succ])
        refine wpAnyT_take (i := 10) (oi := { dst := some 78, op := Op.load 3 (Operand.tmp 77), type := 3, pos := "ref.go:275", after := #[{ on := 9, ground := Ground.data }], guard := none }) (v := .int .i64 (t.pc : Int)) [11, 12, 13, 15] rfl (by kernel_rfl) (by kernel_rfl) (by kernel_rfl) (by kernel_rfl) (fun _ _ _ h => h) (Or.inl ⟨by rfl, ?_⟩) KP.out ?_
        · intro wq hSw
          obtain ⟨y0, y1, y2⟩ := hSw
          go_simp
        (try simp only [Act.put, List.setIfInBounds_toArray, List.set_cons_zero, List.set_cons_succ])
        refine wpAnyT_take (i := 11) (oi := { dst := some 79, op := Op.build 39 #[(0, Operand.tmp 70), (1, Operand.tmp 78)], type := 39, pos := "ref.go:275", after := #[{ on := 2, ground := Ground.data }, { on := 10, ground := Ground.data }], guard := none }) (v := .agg #[.int .i64 (m : Int), .int .i64 (t.pc : Int)]) [12, 13, 15] rfl (by kernel_rfl) (by kernel_rfl) (by kernel_rfl) (by kernel_rfl) (fun _ _ _ h => h) (Or.inl ⟨by rfl, ?_⟩) KP.out ?_
        · intro wq hSw
          obtain ⟨y0, y1, y2⟩ := hSw
          go_simp
        (try simp only [Act.put, List.setIfInBounds_toArray, List.set_cons_zero, List.set_cons_succ])
        obtain ⟨a7, n7, c7, w7, r7, F7⟩ := RV.out.push (m, t.pc) htl65.out
        have AL : Hid ((u1.alloc (.cells #[.int .i64 (m : Int), .int .i64 (t.pc : Int)] 39)).cell? ⟨g, 1, none⟩ = some (tv) ∧ (u1.alloc (.cells #[.int .i64 (m : Int), .int .i64 (t.pc : Int)] 39)).cell? ⟨rb, 0, none⟩ = some (.slice (some ⟨tb, 0, none⟩) K tcap) ∧ (u1.alloc (.cells #[.int .i64 (m : Int), .int .i64 (t.pc : Int)] 39)).cell? ⟨tb, m * 6 + 1, none⟩ = some (.int .i64 (t.pc : Int))) := ⟨alloc_cell _ KP.out.1, alloc_cell _ KP.out.2.1, alloc_cell _ KP.out.2.2⟩
        have K7 : Hid (w7.cell? ⟨g, 1, none⟩ = some (tv) ∧ w7.cell? ⟨rb, 0, none⟩ = some (.slice (some ⟨tb, 0, none⟩) K tcap) ∧ w7.cell? ⟨tb, m * 6 + 1, none⟩ = some (.int .i64 (t.pc : Int))) := ⟨F7.out.2.1, (World.cell?_of_block (F7.out.2.2.2 rb TB.out.2.2.2.1 TB.out.2.2.2.2)).trans KP.out.2.1, (World.cell?_of_block (F7.out.2.2.2 tb TB.out.2.1 TB.out.2.2.1)).trans KP.out.2.2⟩
        refine wpAnyT_one (i := 12) (o := { dst := some 80, op := Op.buildSlice 28 1 #[(0, Operand.tmp 79)], type := 28, pos := "ref.go:275", after := #[{ on := 11, ground := Ground.data }], guard := none }) (by kernel_rfl) rfl (fun K hK => ?_)
        go_simp
        refine hK.out _ _ (fun _ => AL.out) ?_
        clear hK K
        (try simp only [Act.put, List.setIfInBounds_toArray, List.set_cons_zero, List.set_cons_succ])
        refine wpAnyT_one (i := 13) (o := { dst := some 81, op := Op.call { callee := Callee.builtin Builtin.append, args := #[Operand.tmp 69, Operand.tmp 80], argTypes := #[28, 28] }, type := 28, pos := "ref.go:275", after := #[{ on := 1, ground := Ground.data }, { on := 12, ground := Ground.data }], guard := none }) (by kernel_rfl) rfl (fun K hK => ?_)
        rw [if_pos (by simp [Region.wanted])]
        refine Lib.wp_append_run _ (.tmp 69) (.tmp 80) 28 28 rfl tv (.slice (some ⟨u1.heap.size, 0, none⟩) 1 1) (by simp [Act.eval]) (by simp [Act.eval]) _ w7 r7.out ?_
        refine hK.out _ _ (fun _ => K7.out) ?_
        clear hK K
        (try simp only [Act.put, List.setIfInBounds_toArray, List.set_cons_zero, List.set_cons_succ])
        refine wpAnyT_one (i := 14) (o := { dst := some 82, op := Op.fieldAddr 33 (Operand.tmp 12) 1, type := 0, pos := "ref.go:275", after := #[{ on := 0, ground := Ground.phase }, { on := 1, ground := Ground.phase }, { on := 2, ground := Ground.phase }, { on := 3, ground := Ground.phase }, { on := 4, ground := Ground.phase }, { on := 5, ground := Ground.phase }, { on := 6, ground := Ground.phase }, { on := 7, ground := Ground.phase }, { on := 8, ground := Ground.phase }, { on := 9, ground := Ground.phase }, { on := 10, ground := Ground.phase }, { on := 11, ground := Ground.phase }, { on := 12, ground := Ground.phase }, { on := 13, ground := Ground.phase }], guard := none }) (by kernel_rfl) rfl (fun K hK => ?_)
        go_simp
        refine hK.out _ _ (fun _ => K7.out) ?_
        clear hK K
        (try simp only [Act.put, List.setIfInBounds_toArray, List.set_cons_zero, List.set_cons_succ])
        obtain ⟨-, k7, z7, -⟩ := F7.out
        clear AL K7
        refine wpAnyT_one (i := 15) (o := { dst := none, op := Op.store 28 (Operand.tmp 82) (Operand.tmp 81), type := 0, pos := "ref.go:275", after := #[{ on := 14, ground := Ground.data }, { on := 13, ground := Ground.data }, { on := 13, ground := Ground.chain }, { on := 0, ground := Ground.phase }, { on := 1, ground := Ground.phase }, { on := 2, ground := Ground.phase }, { on := 3, ground := Ground.phase }, { on := 4, ground := Ground.phase }, { on := 5, ground := Ground.phase }, { on := 6, ground := Ground.phase }, { on := 7, ground := Ground.phase }, { on := 8, ground := Ground.phase }, { on := 9, ground := Ground.phase }, { on := 10, ground := Ground.phase }, { on := 11, ground := Ground.phase }, { on := 12, ground := Ground.phase }, { on := 13, ground := Ground.phase }], guard := none }) (by kernel_rfl) rfl (fun K hK => ?_)
        go_simp
        refine hK.out _ _ (vac (by kernel_rfl)) ?_
        clear hK K
        (try simp only [Act.put, List.setIfInBounds_toArray, List.set_cons_zero, List.set_cons_succ])
        refine wpAnyT_done (by kernel_rfl) ?_ _
        have R6 := hide F7.out.1
        clear KP RV TB F7 r7 k7 z7
        generalize w7.setCell ⟨g, 1, none⟩ (.slice a7 n7 c7) = w6 at *
        have SP := hide (R6.out.gd.step hmr.out (Nat.lt_succ_of_le htl.out))
        go_upto_region 16 with (go_at_call 24; refine SP.out.mono ?_; rintro e w8 ⟨rfl, X8, G8, S8⟩; have R8 := hide (R6.out.step G8 S8); clear G8 S8)
        rw [← etr.out] at R8
        have q0 : w8.cell? ⟨g, 0, none⟩ = some (.int .i64 (T : Int)) := by rw [cell_of R8.out.rn, ← hT.out]; rfl
        have z0 : w8.frozen? ⟨g, 0, none⟩ = false := frz_of R8.out.rn
        have R9 : Hid (Rl w0 (w8.setCell ⟨g, 0, none⟩ (.int .i64 ((T : Int) + 1))) us rb X8 (turnS S m) g (.slice a7 n7 c7) (turnS S m).tr.length (turnS S m).tr) := by
          rw [htr2.out]
          exact R8.out.inc (T + 1)
        clear SP R6 R8
        go_upto_region 17 with fail
        generalize w8.setCell ⟨g, 0, none⟩ (.int .i64 ((T : Int) + 1)) = w9 at *
        clear q0 z0
        have RD := hide R9.out.gd.ready
        go_wp2_with (go_at_call 22; refine RD.out.mono ?_; rintro e w10 ⟨v10, rfl, n10, b10⟩; replace n10 := hide n10; replace b10 := hide b10)
        have RA := hide (R9.out.below b10.out)
        have NA : Hid (Nms w.heap.size w10 v10 (ns (rdy (turnS S m)))) := row_low n10.out (Nat.le_trans WL.out R9.out.gd.da.low.size)
        clear RD R9 n10 b10
        go_roundw
        case rel => exact ⟨X8, turnS S m, _, RA.out, NA.out, by rw [htr2.out]; have := hlt2.out; omega, hpl2.out⟩
        case measure =>
          have e7 : w10.cell? ⟨g, 0, none⟩ = some (.int .i64 ((turnS S m).tr.length : Int)) := by rw [cell_of RA.out.rn]; rfl
          rw [intO_of e7, intO_of gme.out, htr2.out]
          have := hlt2.out
          omega
    · have i1 : ¬ (T : Int) < (most : Int) := by omega
      have EP : Hid (S = SS) := by
        show _ = _
        rw [← hpl.out, hT.out, show most - T = 0 by omega]
        rfl
      have r0 := True.intro
      clear r22
      obtain ⟨WS, hWS⟩ : ∃ WS, WS = wr := ⟨_, rfl⟩
      subst hWS
      have RE : Hid (Rl w0 WS us rb X SS g tv SS.tr.length SS.tr) := by rw [← EP.out]; exact R1.out
      have Z0 := hide RE.out.rz
      have KK : Hid (SS.tk.length ≤ 16) := RE.out.gd.ok.n
      clear RE
      go_upto_region 18 with fail
      clear R1 hv g0 g1 r0 gme
      refine wp_region_T (fun q => q.cell? ⟨g, 2, none⟩ = some (.slice none 0 0)) 8 (by kernel_rfl) ?_
      have KP : Hid (WS.drew.cell? ⟨g, 2, none⟩ = some (.slice none 0 0)) := (cell_of Z0.out.rn).trans rfl
      have ZV := hide (Z0.out.below (Below.refl _ _).drew)
      generalize WS.drew = u1 at *
      refine wpAnyT_take (i := 0) (oi := { dst := some 92, op := Op.fieldAddr 33 (Operand.tmp 12) 2, type := 0, pos := "ref.go:280", after := #[], guard := none }) (v := .pointer (some ⟨g, 2, none⟩)) [1, 6, 8] rfl (by kernel_rfl) (by kernel_rfl) (by kernel_rfl) (by kernel_rfl) (fun _ _ _ h => h) (Or.inl ⟨by rfl, ?_⟩) KP.out ?_
      · intro wq hSw
        have y0 := hSw
        go_simp
      (try simp only [Act.put, List.setIfInBounds_toArray, List.set_cons_zero, List.set_cons_succ])
      refine wpAnyT_take (i := 1) (oi := { dst := some 93, op := Op.load 29 (Operand.tmp 92), type := 29, pos := "ref.go:280", after := #[{ on := 0, ground := Ground.data }], guard := none }) (v := .slice none 0 0) [6, 8] rfl (by kernel_rfl) (by kernel_rfl) (by kernel_rfl) (by kernel_rfl) (fun _ _ _ h => h) (Or.inl ⟨by rfl, ?_⟩) KP.out ?_
      · intro wq hSw
        have y0 := hSw
        go_simp
      (try simp only [Act.put, List.setIfInBounds_toArray, List.set_cons_zero, List.set_cons_succ])
      refine wpAnyT_take (i := 2) (oi := { dst := some 94, op := Op.move (Operand.tmp 11), type := 53, pos := "ref.go:280", after := #[], guard := none }) (v := .pointer (some ⟨rb, 0, none⟩)) [3, 4, 5, 6, 8] rfl (by kernel_rfl) (by kernel_rfl) (by kernel_rfl) (by kernel_rfl) (fun _ _ _ h => h) (Or.inl ⟨by rfl, ?_⟩) KP.out ?_
      · intro wq hSw
        have y0 := hSw
        go_simp
      (try simp only [Act.put, List.setIfInBounds_toArray, List.set_cons_zero, List.set_cons_succ])
      refine wpAnyT_take (i := 3) (oi := { dst := some 95, op := Op.nilCheck (Operand.tmp 94), type := 0, pos := "ref.go:280", after := #[{ on := 2, ground := Ground.data }], guard := none }) (v := .pointer (some ⟨rb, 0, none⟩)) [4, 5, 6, 8] rfl (by kernel_rfl) (by kernel_rfl) (by kernel_rfl) (by kernel_rfl) (fun _ _ _ h => h) (Or.inl ⟨by rfl, ?_⟩) KP.out ?_
      · intro wq hSw
        have y0 := hSw
        go_simp
      (try simp only [Act.put, List.setIfInBounds_toArray, List.set_cons_zero, List.set_cons_succ])
      refine wpAnyT_take (i := 4) (oi := { dst := some 96, op := Op.fieldAddr 63 (Operand.tmp 95) 4, type := 0, pos := "ref.go:280", after := #[{ on := 3, ground := Ground.data }], guard := none }) (v := .pointer (some ⟨rb, 13, none⟩)) [5, 6, 8] rfl (by kernel_rfl) (by kernel_rfl) (by kernel_rfl) (by kernel_rfl) (fun _ _ _ h => h) (Or.inl ⟨by rfl, ?_⟩) KP.out ?_
      · intro wq hSw
        have y0 := hSw
        go_simp
      (try simp only [Act.put, List.setIfInBounds_toArray, List.set_cons_zero, List.set_cons_succ])
      refine wpAnyT_take (i := 5) (oi := { dst := some 97, op := Op.slice 61 (Operand.tmp 96) none none none, type := 29, pos := "ref.go:280", after := #[{ on := 4, ground := Ground.data }], guard := none }) (v := .slice (some ⟨rb, 13, none⟩) 8 8) [6, 8] rfl (by kernel_rfl) (by kernel_rfl) (by kernel_rfl) (by kernel_rfl) (fun _ _ _ h => h) (Or.inl ⟨by rfl, ?_⟩) KP.out ?_
      · intro wq hSw
        have y0 := hSw
        go_simp
      (try simp only [Act.put, List.setIfInBounds_toArray, List.set_cons_zero, List.set_cons_succ])
      obtain ⟨a7, n7, c7, w7, r7, I7, B7⟩ := regs_dup ZV.out.gd.da
      obtain ⟨Z8, k7, z7⟩ := ZV.out.addG B7.out I7.out
      replace Z8 := hide Z8
      refine wpAnyT_one (i := 6) (o := { dst := some 98, op := Op.call { callee := Callee.builtin Builtin.append, args := #[Operand.tmp 93, Operand.tmp 97], argTypes := #[29, 29] }, type := 29, pos := "ref.go:280", after := #[{ on := 1, ground := Ground.data }, { on := 5, ground := Ground.data }], guard := none }) (by kernel_rfl) rfl (fun K hK => ?_)
      rw [if_pos (by simp [Region.wanted])]
      refine Lib.wp_append_run _ (.tmp 93) (.tmp 97) 29 29 rfl (.slice none 0 0) (.slice (some ⟨rb, 13, none⟩) 8 8) (by simp [Act.eval]) (by simp [Act.eval]) _ w7 r7.out ?_
      refine hK.out _ _ (fun _ => k7) ?_
      clear hK K
      (try simp only [Act.put, List.setIfInBounds_toArray, List.set_cons_zero, List.set_cons_succ])
      refine wpAnyT_one (i := 7) (o := { dst := some 99, op := Op.fieldAddr 33 (Operand.tmp 12) 2, type := 0, pos := "ref.go:280", after := #[{ on := 0, ground := Ground.phase }, { on := 1, ground := Ground.phase }, { on := 2, ground := Ground.phase }, { on := 3, ground := Ground.phase }, { on := 4, ground := Ground.phase }, { on := 5, ground := Ground.phase }, { on := 6, ground := Ground.phase }], guard := none }) (by kernel_rfl) rfl (fun K hK => ?_)
      go_simp
      refine hK.out _ _ (fun _ => k7) ?_
      clear hK K
      (try simp only [Act.put, List.setIfInBounds_toArray, List.set_cons_zero, List.set_cons_succ])
      refine wpAnyT_one (i := 8) (o := { dst := none, op := Op.store 29 (Operand.tmp 99) (Operand.tmp 98), type := 0, pos := "ref.go:280", after := #[{ on := 7, ground := Ground.data }, { on := 6, ground := Ground.data }, { on := 6, ground := Ground.chain }, { on := 0, ground := Ground.phase }, { on := 1, ground := Ground.phase }, { on := 2, ground := Ground.phase }, { on := 3, ground := Ground.phase }, { on := 4, ground := Ground.phase }, { on := 5, ground := Ground.phase }, { on := 6, ground := Ground.phase }], guard := none }) (by kernel_rfl) rfl (fun K hK => ?_)
      go_simp
      refine hK.out _ _ (vac (by kernel_rfl)) ?_
      clear hK K
      (try simp only [Act.put, List.setIfInBounds_toArray, List.set_cons_zero, List.set_cons_succ])
      refine wpAnyT_done (by kernel_rfl) ?_ _
      clear KP ZV r7 I7 B7 k7 z7
      generalize w7.setCell ⟨g, 2, none⟩ (.slice a7 n7 c7) = w8 at *
      generalize Value.slice a7 n7 c7 = rv at *
      go_wp2_with fail
      go_loopw [16] (fun s wq => ∃ (i : Nat) (qv : Value) (vs : List Value), s = .int .i64 (i : Int) ∧ i ≤ 4 ∧ Hid (Rz w0 WS us rb X SS g tv wq rv (.slice none 0 0) qv vs (regs SS) [] (quesI SS i))) (fun s wq => 4 - (intOf s).toNat)
      case atStart => exact ⟨0, _, _, rfl, by omega, Z8.out⟩
      case round =>
        obtain ⟨i, qv, vs, rfl, hi4, hst⟩ := hrel
        by_cases hlt : i < 4
        · have i1 : (i : Int) < 4 := by omega
          have IW := hst.out.gd.da.qu i hlt
          obtain ⟨qa, qc, e⟩ := slice_ofR IW
          obtain ⟨qn, hqn⟩ : ∃ qn, Hid ((SS.qu i).length = qn) := ⟨_, rfl⟩
          have e' : X (5 + i) = .slice qa qn qc := by rw [← hqn.out]; exact e
          have qc0 := hst.out.gd.da.qcell hlt
          rw [e'] at qc0
          have HE := hide e'
          clear IW e e'
          go_upto_region 22 with fail
          refine wp_region_T (fun q => q.cell? ⟨g, 4, none⟩ = some (qv) ∧ q.cell? ⟨rb, 9 + i, none⟩ = some (.slice qa qn qc)) 12 (by kernel_rfl) ?_
          have KP : Hid (wr.drew.cell? ⟨g, 4, none⟩ = some (qv) ∧ wr.drew.cell? ⟨rb, 9 + i, none⟩ = some (.slice qa qn qc)) := ⟨(cell_of hst.out.rn).trans rfl, qc0⟩
          have ZV := hide (hst.out.below (Below.refl _ _).drew)
          clear hst qc0
          generalize wr.drew = u1 at *
          refine wpAnyT_take (i := 0) (oi := { dst := some 104, op := Op.fieldAddr 33 (Operand.tmp 12) 4, type := 0, pos := "ref.go:282", after := #[], guard := none }) (v := .pointer (some ⟨g, 4, none⟩)) [1, 10, 12] rfl (by kernel_rfl) (by kernel_rfl) (by kernel_rfl) (by kernel_rfl) (fun _ _ _ h => h) (Or.inl ⟨by rfl, ?_⟩) KP.out ?_
          · intro wq hSw
            obtain ⟨y0, y1⟩ := hSw
            go_simp
          (try simp only [Act.put, List.setIfInBounds_toArray, List.set_cons_zero, List.set_cons_succ])
          refine wpAnyT_take (i := 1) (oi := { dst := some 105, op := Op.load 31 (Operand.tmp 104), type := 31, pos := "ref.go:282", after := #[{ on := 0, ground := Ground.data }], guard := none }) (v := qv) [10, 12] rfl (by kernel_rfl) (by kernel_rfl) (by kernel_rfl) (by kernel_rfl) (fun _ _ _ h => h) (Or.inl ⟨by rfl, ?_⟩) KP.out ?_
          · intro wq hSw
            obtain ⟨y0, y1⟩ := hSw
            go_simp
          (try simp only [Act.put, List.setIfInBounds_toArray, List.set_cons_zero, List.set_cons_succ])
          refine wpAnyT_take (i := 2) (oi := { dst := some 106, op := Op.move (Operand.tmp 11), type := 53, pos := "ref.go:282", after := #[], guard := none }) (v := .pointer (some ⟨rb, 0, none⟩)) [4, 5, 6, 7, 8, 9, 10, 12] rfl (by kernel_rfl) (by kernel_rfl) (by kernel_rfl) (by kernel_rfl) (fun _ _ _ h => h) (Or.inl ⟨by rfl, ?_⟩) KP.out ?_
          · intro wq hSw
            obtain ⟨y0, y1⟩ := hSw
            go_simp
          (try simp only [Act.put, List.setIfInBounds_toArray, List.set_cons_zero, List.set_cons_succ])
          refine wpAnyT_take (i := 3) (oi := { dst := some 107, op := Op.move (Operand.tmp 16), type := 3, pos := "ref.go:282", after := #[], guard := none }) (v := .int .i64 (i : Int)) [6, 7, 8, 9, 10, 12] rfl (by kernel_rfl) (by kernel_rfl) (by kernel_rfl) (by kernel_rfl) (fun _ _ _ h => h) (Or.inl ⟨by rfl, ?_⟩) KP.out ?_
          · intro wq hSw
            obtain ⟨y0, y1⟩ := hSw
            go_simp
          (try simp only [Act.put, List.setIfInBounds_toArray, List.set_cons_zero, List.set_cons_succ])
          refine wpAnyT_take (i := 4) (oi := { dst := some 108, op := Op.nilCheck (Operand.tmp 106), type := 0, pos := "ref.go:282", after := #[{ on := 2, ground := Ground.data }], guard := none }) (v := .pointer (some ⟨rb, 0, none⟩)) [5, 6, 7, 8, 9, 10, 12] rfl (by kernel_rfl) (by kernel_rfl) (by kernel_rfl) (by kernel_rfl) (fun _ _ _ h => h) (Or.inl ⟨by rfl, ?_⟩) KP.out ?_
          · intro wq hSw
            obtain ⟨y0, y1⟩ := hSw
            go_simp
          (try simp only [Act.put, List.setIfInBounds_toArray, List.set_cons_zero, List.set_cons_succ])
          refine wpAnyT_take (i := 5) (oi := { dst := some 109, op := Op.fieldAddr 63 (Operand.tmp 108) 3, type := 0, pos := "ref.go:282", after := #[{ on := 4, ground := Ground.data }], guard := none }) (v := .pointer (some ⟨rb, 9, none⟩)) [6, 7, 8, 9, 10, 12] rfl (by kernel_rfl) (by kernel_rfl) (by kernel_rfl) (by kernel_rfl) (fun _ _ _ h => h) (Or.inl ⟨by rfl, ?_⟩) KP.out ?_
          · intro wq hSw
            obtain ⟨y0, y1⟩ := hSw
            go_simp
          (try simp only [Act.put, List.setIfInBounds_toArray, List.set_cons_zero, List.set_cons_succ])
          refine wpAnyT_take (i := 6) (oi := { dst := some 110, op := Op.indexAddr 60 (Operand.tmp 109) (Operand.tmp 107), type := 0, pos := "ref.go:282", after := #[{ on := 5, ground := Ground.data }, { on := 3, ground := Ground.data }], guard := none }) (v := .pointer (some ⟨rb, 9 + i, none⟩)) [7, 8, 9, 10, 12] rfl (by kernel_rfl) (by kernel_rfl) (by kernel_rfl) (by kernel_rfl) (fun _ _ _ h => h) (Or.inl ⟨by rfl, ?_⟩) KP.out ?_
          · intro wq hSw
            obtain ⟨y0, y1⟩ := hSw
            go_simp
          (try simp only [Act.put, List.setIfInBounds_toArray, List.set_cons_zero, List.set_cons_succ])
          refine wpAnyT_take (i := 7) (oi := { dst := some 111, op := Op.load 29 (Operand.tmp 110), type := 29, pos := "ref.go:282", after := #[{ on := 6, ground := Ground.data }], guard := none }) (v := .slice qa qn qc) [8, 9, 10, 12] rfl (by kernel_rfl) (by kernel_rfl) (by kernel_rfl) (by kernel_rfl) (fun _ _ _ h => h) (Or.inl ⟨by rfl, ?_⟩) KP.out ?_
          · intro wq hSw
            obtain ⟨y0, y1⟩ := hSw
            go_simp
          (try simp only [Act.put, List.setIfInBounds_toArray, List.set_cons_zero, List.set_cons_succ])
          obtain ⟨a7, n7, c7, w7, a8, n8, c8, w8, r7, r8, F8⟩ := ques_dup ZV.out hlt HE.out hqn.out
          have K7 : Hid (w7.cell? ⟨g, 4, none⟩ = some (qv) ∧ w7.cell? ⟨rb, 9 + i, none⟩ = some (.slice qa qn qc)) := ⟨(F8.out.1.cell (lt_of_cell KP.out.1)).trans KP.out.1, (F8.out.1.cell (lt_of_cell KP.out.2)).trans KP.out.2⟩
          have KA : Hid ((w7.alloc (.cells #[.slice a7 n7 c7] 29)).cell? ⟨g, 4, none⟩ = some (qv) ∧ (w7.alloc (.cells #[.slice a7 n7 c7] 29)).cell? ⟨rb, 9 + i, none⟩ = some (.slice qa qn qc)) := ⟨alloc_cell _ K7.out.1, alloc_cell _ K7.out.2⟩
          have K8 : Hid (w8.cell? ⟨g, 4, none⟩ = some (qv) ∧ w8.cell? ⟨rb, 9 + i, none⟩ = some (.slice qa qn qc)) := ⟨F8.out.2.2.1, (World.cell?_of_block (F8.out.2.2.2.2 rb (lt_of_cell KP.out.2) (ZV.out.own rb ⟨0, rfl⟩).1)).trans KP.out.2⟩
          refine wpAnyT_one (i := 8) (o := { dst := some 112, op := Op.call { callee := Callee.builtin Builtin.append, args := #[Operand.const (Value.slice none 0 0), Operand.tmp 111], argTypes := #[29, 29] }, type := 29, pos := "ref.go:282", after := #[{ on := 7, ground := Ground.data }], guard := none }) (by kernel_rfl) rfl (fun K hK => ?_)
          rw [if_pos (by simp [Region.wanted])]
          refine Lib.wp_append_run _ (.const (.slice none 0 0)) (.tmp 111) 29 29 rfl (.slice none 0 0) (.slice qa qn qc) (by simp [Act.eval]) (by simp [Act.eval]) _ w7 r7.out ?_
          refine hK.out _ _ (fun _ => K7.out) ?_
          clear hK K
          (try simp only [Act.put, List.setIfInBounds_toArray, List.set_cons_zero, List.set_cons_succ])
          refine wpAnyT_one (i := 9) (o := { dst := some 113, op := Op.buildSlice 31 1 #[(0, Operand.tmp 112)], type := 31, pos := "ref.go:282", after := #[{ on := 8, ground := Ground.data }], guard := none }) (by kernel_rfl) rfl (fun K hK => ?_)
          go_simp
          refine hK.out _ _ (fun _ => KA.out) ?_
          clear hK K
          (try simp only [Act.put, List.setIfInBounds_toArray, List.set_cons_zero, List.set_cons_succ])
          refine wpAnyT_one (i := 10) (o := { dst := some 114, op := Op.call { callee := Callee.builtin Builtin.append, args := #[Operand.tmp 105, Operand.tmp 113], argTypes := #[31, 31] }, type := 31, pos := "ref.go:282", after := #[{ on := 1, ground := Ground.data }, { on := 9, ground := Ground.data }, { on := 8, ground := Ground.chain }], guard := none }) (by kernel_rfl) rfl (fun K hK => ?_)
          rw [if_pos (by simp [Region.wanted])]
          refine Lib.wp_append_run _ (.tmp 105) (.tmp 113) 31 31 rfl qv (.slice (some ⟨w7.heap.size, 0, none⟩) 1 1) (by simp [Act.eval]) (by simp [Act.eval]) _ w8 r8.out ?_
          refine hK.out _ _ (fun _ => K8.out) ?_
          clear hK K
          (try simp only [Act.put, List.setIfInBounds_toArray, List.set_cons_zero, List.set_cons_succ])
          refine wpAnyT_one (i := 11) (o := { dst := some 115, op := Op.fieldAddr 33 (Operand.tmp 12) 4, type := 0, pos := "ref.go:282", after := #[{ on := 0, ground := Ground.phase }, { on := 1, ground := Ground.phase }, { on := 2, ground := Ground.phase }, { on := 3, ground := Ground.phase }, { on := 4, ground := Ground.phase }, { on := 5, ground := Ground.phase }, { on := 6, ground := Ground.phase }, { on := 7, ground := Ground.phase }, { on := 8, ground := Ground.phase }, { on := 9, ground := Ground.phase }, { on := 10, ground := Ground.phase }], guard := none }) (by kernel_rfl) rfl (fun K hK => ?_)
          go_simp
          refine hK.out _ _ (fun _ => K8.out) ?_
          clear hK K
          (try simp only [Act.put, List.setIfInBounds_toArray, List.set_cons_zero, List.set_cons_succ])
          obtain ⟨-, -, k8, z8, -⟩ := F8.out
          refine wpAnyT_one (i := 12) (o := { dst := none, op := Op.store 31 (Operand.tmp 115) (Operand.tmp 114), type := 0, pos := "ref.go:282", after := #[{ on := 11, ground := Ground.data }, { on := 10, ground := Ground.data }, { on := 10, ground := Ground.chain }, { on := 0, ground := Ground.phase }, { on := 1, ground := Ground.phase }, { on := 2, ground := Ground.phase }, { on := 3, ground := Ground.phase }, { on := 4, ground := Ground.phase }, { on := 5, ground := Ground.phase }, { on := 6, ground := Ground.phase }, { on := 7, ground := Ground.phase }, { on := 8, ground := Ground.phase }, { on := 9, ground := Ground.phase }, { on := 10, ground := Ground.phase }], guard := none }) (by kernel_rfl) rfl (fun K hK => ?_)
          go_simp
          refine hK.out _ _ (vac (by kernel_rfl)) ?_
          clear hK K
          (try simp only [Act.put, List.setIfInBounds_toArray, List.set_cons_zero, List.set_cons_succ])
          refine wpAnyT_done (by kernel_rfl) ?_ _
          have Z9 := hide F8.out.2.1
          clear KP ZV r7 r8 F8 K7 KA K8 k8 z8
          go_wp2_with fail
          go_roundw
          case rel => exact ⟨i + 1, _, _, by go_num, by omega, Z9.out⟩
          case measure => simp only [intOf]; omega
        · obtain rfl : i = 4 := by omega
          have i1 : ¬ (4 : Int) < 4 := by omega
          have ZE := hst
          clear hst
          go_wp2_with fail
          go_loopw [17] (fun s wq => ∃ (i : Nat) (ev : Value), s = .int .i64 (i : Int) ∧ i ≤ SS.tk.length ∧ Hid (Rz w0 WS us rb X SS g tv wq rv ev qv vs (regs SS) (endsI SS i) (quesI SS 4))) (fun s wq => SS.tk.length - (intOf s).toNat)
          case atStart => exact ⟨0, _, rfl, Nat.zero_le _, ZE.out⟩
          case round =>
            obtain ⟨i, ev, rfl, hiK, hst⟩ := hrel
            obtain ⟨r0, -, -⟩ := hst.out.gd.da.cells
            obtain ⟨tto, tcap, hX, hcap, -⟩ := hst.out.gd.da.form
            have hlK : (dOf SS (lastS SS)).tk.length = SS.tk.length := by show (SS.tk.map dk).length = _; simp
            rw [hlK] at hX hcap
            rw [hX] at r0
            obtain ⟨K, hK'⟩ : ∃ K, Hid (SS.tk.length = K) := ⟨_, rfl⟩
            rw [hK'.out] at r0 hcap hiK
            by_cases hlt : i < K
            · have i1 : (i : Int) < (K : Int) := by omega
              have i2 : (K : Int) ≤ (tcap : Int) := by omega
              have i3 : (K : Int) ≤ 16 := by have := KK.out; have := hK'.out; omega
              obtain ⟨t, ht⟩ : ∃ t, SS.tk[i]? = some t := ⟨_, List.getElem?_eq_getElem (by rw [hK'.out]; exact hlt)⟩
              obtain ⟨tb, tcap2, hX2, -, -, -, ⟨-, -, -, -⟩, -, -, -, p4, p5⟩ := hst.out.gd.da.tcell (dOf_get ht)
              rw [hX] at hX2
              simp only [Value.slice.injEq] at hX2
              obtain ⟨hx1, -, -⟩ := hX2
              subst hx1
              have hsx := endsI_succ ht
              obtain ⟨hw, hhw⟩ : ∃ hw, Hid ((dk t).hw = hw) := ⟨_, rfl⟩
              have ewt : (dk t).wt = t.wt := rfl
              rw [hhw.out] at p4
              rw [ewt] at p5
              have Yr := alloc_cell (w := wr) (.cells #[.int .i64 0, .int .i64 0] 48) r0
              have Yr' : ((wr.alloc (.cells #[.int .i64 0, .int .i64 0] 48)).drew).cell? ⟨rb, 0, none⟩ = some (.slice (some ⟨tb, 0, none⟩) K tcap) := Yr
              have Y4 := alloc_cell (w := wr) (.cells #[.int .i64 0, .int .i64 0] 48) p4
              have Y4' : ((wr.alloc (.cells #[.int .i64 0, .int .i64 0] 48)).drew).cell? ⟨tb, i * 6 + 4, none⟩ = some (.int .i64 hw) := Y4
              have Y5 := alloc_cell (w := wr) (.cells #[.int .i64 0, .int .i64 0] 48) p5
              have Y5' : ((wr.alloc (.cells #[.int .i64 0, .int .i64 0] 48)).drew).cell? ⟨tb, i * 6 + 5, none⟩ = some (.int .i64 t.wt) := Y5
              have KP1 := hide hK'.out
              go_upto_region 26 with fail
              go_region
              have BB : Hid (Below wr.heap.size wr (wr.alloc (.cells #[.int .i64 hw, .int .i64 t.wt] 48)).drew) := (box_below wr (.cells #[.int .i64 hw, .int .i64 t.wt] 48)).drew
              have NB : Hid ((wr.alloc (.cells #[.int .i64 hw, .int .i64 t.wt] 48)).drew.heap[wr.heap.size]? = some (.cells #[.int .i64 hw, .int .i64 t.wt] 48)) := heap_alloc_new wr (.cells #[.int .i64 hw, .int .i64 t.wt] 48)
              clear Yr Yr' Y4 Y4' Y5 Y5' r0 p4 p5
              have ZV := hide (hst.out.below BB.out)
              have BQ : Hid (Below wr.heap.size wr wr) := Below.refl _ _
              obtain ⟨xb, hxb⟩ : ∃ xb, Hid (wr.heap.size = xb) := ⟨_, rfl⟩
              have HZ := hst
              clear hst
              generalize (wr.alloc (.cells #[.int .i64 hw, .int .i64 t.wt] 48)).drew = u2 at *
              rw [hxb.out] at NB BB ⊢
              have x0 : u2.cell? ⟨xb, 0, none⟩ = some (.int .i64 hw) := by rw [cell_of NB.out]; rfl
              have x1 : u2.cell? ⟨xb, 1, none⟩ = some (.int .i64 t.wt) := by rw [cell_of NB.out]; rfl
              have xz : u2.frozen? ⟨xb, 0, none⟩ = false := frz_of NB.out
              by_cases h0 : hw = 0
              · subst h0
                obtain ⟨-, hl⟩ := dk_hw0.1 hhw.out
                obtain ⟨a, ha⟩ : ∃ a, t.ac[t.pc]? = some a := ⟨_, List.getElem?_eq_getElem hl⟩
                have okt := ZV.out.gd.ok.tk t (List.mem_of_getElem? ht)
                have oka := okt.ac a (List.mem_of_getElem? ha)
                have w3 : t.sl ≠ 0 → a.k = 3 := fun c => by
                  obtain ⟨-, b, hb, hk⟩ := (ZV.out.gd.wt.t3 i t ht).2 c
                  rw [ha] at hb; cases hb
                  exact hk
                have HW := hide (why_any w0 u2 us rb X (dOf SS (lastS SS)) ZV.out.gd.da (dOf_get ht) (m := t.ac.length) (a := a) ha oka w3 (ZV.out.gd.wt.t3 i t ht).1)
                have HH0 := end_why (S := SS) (la := lastS SS) hhw.out ha w3
                obtain ⟨wy, hwy⟩ : ∃ wy, Hid (whyD (dOf SS (lastS SS)) (dk t) a = wy) := ⟨_, rfl⟩
                rw [hwy.out] at HW HH0
                clear oka okt w3 ha hl ht
                go_upto_region 29 with (go_at_call 25; refine HW.out.mono ?_; rintro e u3 ⟨rfl, b3⟩; replace b3 := hide b3; have y0 : u3.cell? ⟨xb, 0, none⟩ = some (.int .i64 0) := (b3.out.cell (lt_of_cell x0)).trans x0; have yz : u3.frozen? ⟨xb, 0, none⟩ = false := frz_of ((b3.out.block _ (heap_lt NB.out)).trans NB.out); have Z3 := hide (ZV.out.below b3.out); have N3 := hide ((b3.out.block _ (heap_lt NB.out)).trans NB.out))
                have B3 : Hid (Below xb wr u3) := by
                  have := b3.out.mono (show xb ≤ u2.heap.size from by have := heap_lt NB.out; omega)
                  exact BB.out.trans this
                have N4 : Hid ((u3.setCell ⟨xb, 0, none⟩ (.int .i64 wy)).heap[xb]? = some (.cells #[.int .i64 wy, .int .i64 t.wt] 48)) := by
                  show _ = _
                  rw [heap_setCell_same _ _ _ _ _ _ N3.out]; rfl
                have B4 : Hid (Below xb wr (u3.setCell ⟨xb, 0, none⟩ (.int .i64 wy))) := B3.out.setCell (Nat.le_refl _) _
                clear x0 x1 xz HW Z3 N3 y0 yz B3 b3 ZV NB BB
                generalize u3.setCell ⟨xb, 0, none⟩ (.int .i64 wy) = u4 at *
                by_cases hy : wy = 0
                · subst hy
                  have x0 : u4.cell? ⟨xb, 0, none⟩ = some (.int .i64 0) := by rw [cell_of N4.out]; rfl
                  have xz : u4.frozen? ⟨xb, 0, none⟩ = false := frz_of N4.out
                  have N5 : Hid ((u4.setCell ⟨xb, 0, none⟩ (.int .i64 3)).heap[xb]? = some (.cells #[.int .i64 3, .int .i64 t.wt] 48)) := by
                    show _ = _
                    rw [heap_setCell_same _ _ _ _ _ _ N4.out]; rfl
                  have B5 : Hid (Below xb wr (u4.setCell ⟨xb, 0, none⟩ (.int .i64 3))) := B4.out.setCell (Nat.le_refl _) _
                  have HH : Hid (howS SS t = 3) := by show _ = _; rw [HH0, if_pos rfl]
                  clear N4 B4
                  go_upto_region 31 with fail
                  clear x0 xz
                  generalize u4.setCell ⟨xb, 0, none⟩ (.int .i64 3) = u5 at *
                  have N4 := N5
                  have Z4 := hide (HZ.out.below (by rw [hxb.out]; exact B5.out))
                  clear N5 B5
                  have x0 : u5.cell? ⟨xb, 0, none⟩ = some (.int .i64 3) := by rw [cell_of N4.out]; rfl
                  have x1 : u5.cell? ⟨xb, 1, none⟩ = some (.int .i64 t.wt) := by rw [cell_of N4.out]; rfl
                  have g3 : u5.cell? ⟨g, 3, none⟩ = some ev := (cell_of Z4.out.rn).trans rfl
                  obtain ⟨a7, n7, c7, w7, r7, F7⟩ := ends_app Z4.out (3) t.wt (by rw [endsI_len (by rw [KP1.out]; omega)]; omega)
                  obtain ⟨Z9', k9, z9⟩ := F7.out
                  have Z9 : Hid (Rz w0 WS us rb X SS g tv (w7.setCell ⟨g, 3, none⟩ (.slice a7 n7 c7)) rv (.slice a7 n7 c7) qv vs (regs SS) (endsI SS (i + 1)) (quesI SS 4)) := by rw [hsx, HH.out]; exact Z9'
                  clear Z9' F7
                  obtain ⟨ea, ec, ee⟩ := slice_ofR Z4.out.en
                  obtain ⟨en, hen⟩ : ∃ en, Hid ((endsI SS i).length = en) := ⟨_, rfl⟩
                  rw [hen.out] at ee
                  rw [ee] at r7 g3 k9
                  clear Z4 N4
                  go_wp2_with (at_builtin; refine wpList_append_run rfl 30 (.tmp 154) (.tmp 156) rfl rfl rfl r7.out ?_)
                  go_roundw
                  case rel => exact ⟨i + 1, _, by go_num, (by rw [KP1.out]; omega), Z9.out⟩
                  case measure => simp only [intOf]; rw [KP1.out]; omega
                · have hy' : (wy == 0) = false := by simpa using hy
                  have HH : Hid (howS SS t = wy) := by show _ = _; rw [HH0, if_neg hy]
                  have Z4 := hide (HZ.out.below (by rw [hxb.out]; exact B4.out))
                  clear B4
                  have x0 : u4.cell? ⟨xb, 0, none⟩ = some (.int .i64 wy) := by rw [cell_of N4.out]; rfl
                  go_upto_region 31 with fail
                  clear x0
                  have x0 : u4.cell? ⟨xb, 0, none⟩ = some (.int .i64 wy) := by rw [cell_of N4.out]; rfl
                  have x1 : u4.cell? ⟨xb, 1, none⟩ = some (.int .i64 t.wt) := by rw [cell_of N4.out]; rfl
                  have g3 : u4.cell? ⟨g, 3, none⟩ = some ev := (cell_of Z4.out.rn).trans rfl
                  obtain ⟨a7, n7, c7, w7, r7, F7⟩ := ends_app Z4.out (wy) t.wt (by rw [endsI_len (by rw [KP1.out]; omega)]; omega)
                  obtain ⟨Z9', k9, z9⟩ := F7.out
                  have Z9 : Hid (Rz w0 WS us rb X SS g tv (w7.setCell ⟨g, 3, none⟩ (.slice a7 n7 c7)) rv (.slice a7 n7 c7) qv vs (regs SS) (endsI SS (i + 1)) (quesI SS 4)) := by rw [hsx, HH.out]; exact Z9'
                  clear Z9' F7
                  obtain ⟨ea, ec, ee⟩ := slice_ofR Z4.out.en
                  obtain ⟨en, hen⟩ : ∃ en, Hid ((endsI SS i).length = en) := ⟨_, rfl⟩
                  rw [hen.out] at ee
                  rw [ee] at r7 g3 k9
                  clear Z4 N4
                  go_wp2_with (at_builtin; refine wpList_append_run rfl 30 (.tmp 154) (.tmp 156) rfl rfl rfl r7.out ?_)
                  go_roundw
                  case rel => exact ⟨i + 1, _, by go_num, (by rw [KP1.out]; omega), Z9.out⟩
                  case measure => simp only [intOf]; rw [KP1.out]; omega
              · have h0' : (hw == 0) = false := by simpa using h0
                have HH : Hid (howS SS t = hw) := by show _ = _; rw [end_hw (by rw [hhw.out]; exact h0), hhw.out]
                have Z4 := ZV
                have N4 := NB
                go_upto_region 31 with fail
                clear x0 x1 xz ZV NB BB ht
                generalize u2 = u4 at *
                have x0 : u4.cell? ⟨xb, 0, none⟩ = some (.int .i64 hw) := by rw [cell_of N4.out]; rfl
                have x1 : u4.cell? ⟨xb, 1, none⟩ = some (.int .i64 t.wt) := by rw [cell_of N4.out]; rfl
                have g3 : u4.cell? ⟨g, 3, none⟩ = some ev := (cell_of Z4.out.rn).trans rfl
                obtain ⟨a7, n7, c7, w7, r7, F7⟩ := ends_app Z4.out (hw) t.wt (by rw [endsI_len (by rw [KP1.out]; omega)]; omega)
                obtain ⟨Z9', k9, z9⟩ := F7.out
                have Z9 : Hid (Rz w0 WS us rb X SS g tv (w7.setCell ⟨g, 3, none⟩ (.slice a7 n7 c7)) rv (.slice a7 n7 c7) qv vs (regs SS) (endsI SS (i + 1)) (quesI SS 4)) := by rw [hsx, HH.out]; exact Z9'
                clear Z9' F7
                obtain ⟨ea, ec, ee⟩ := slice_ofR Z4.out.en
                obtain ⟨en, hen⟩ : ∃ en, Hid ((endsI SS i).length = en) := ⟨_, rfl⟩
                rw [hen.out] at ee
                rw [ee] at r7 g3 k9
                clear Z4 N4
                go_wp2_with (at_builtin; refine wpList_append_run rfl 30 (.tmp 154) (.tmp 156) rfl rfl rfl r7.out ?_)
                go_roundw
                case rel => exact ⟨i + 1, _, by go_num, (by rw [KP1.out]; omega), Z9.out⟩
                case measure => simp only [intOf]; rw [KP1.out]; omega
            · obtain rfl : i = K := by omega
              have i1 : ¬ (i : Int) < (i : Int) := by omega
              obtain ⟨ta, tc1, e⟩ := slice_ofR hst.out.tr
              subst e
              obtain ⟨ra, rc1, e⟩ := slice_ofR hst.out.rg
              subst e
              obtain ⟨ea, ec1, e⟩ := slice_ofR hst.out.en
              subst e
              obtain ⟨qa1, qc1, e⟩ := slice_ofR hst.out.qs
              subst e
              obtain ⟨tn, htn⟩ : ∃ tn, Hid (SS.tr.length = tn) := ⟨_, rfl⟩
              obtain ⟨rn1, hrn1⟩ : ∃ rn1, Hid ((regs SS).length = rn1) := ⟨_, rfl⟩
              obtain ⟨en1, hen1⟩ : ∃ en1, Hid ((endsI SS i).length = en1) := ⟨_, rfl⟩
              obtain ⟨qn1, hqn1⟩ : ∃ qn1, Hid (vs.length = qn1) := ⟨_, rfl⟩
              have GH := hst.out.rn
              have RQ := fun v0 v1 v2 v3 v4 => hst.out.rq pb PBL.out v0 v1 v2 v3 v4
              have LW := hst.out.gd.da.low
              simp only [htn.out, hrn1.out, hen1.out, hqn1.out] at GH RQ
              rw [← hK'.out] at RQ
              have PB : Hid (wr.heap[pb]? = some (.cells #[.int .i64 0, .slice none 0 0, .slice none 0 0, .slice none 0 0, .slice none 0 0] 33 (0, 0))) := (LW.block pb PBL.out).trans PBH.out
              have g0 : wr.cell? ⟨g, 0, none⟩ = some (.int .i64 (tn : Int)) := by rw [cell_of GH]; rfl
              have g1 : wr.cell? ⟨g, 1, none⟩ = some (.slice ta tn tc1) := by rw [cell_of GH]; rfl
              have g2 : wr.cell? ⟨g, 2, none⟩ = some (.slice ra rn1 rc1) := by rw [cell_of GH]; rfl
              have g3 : wr.cell? ⟨g, 3, none⟩ = some (.slice ea en1 ec1) := by rw [cell_of GH]; rfl
              have g4 : wr.cell? ⟨g, 4, none⟩ = some (.slice qa1 qn1 qc1) := by rw [cell_of GH]; rfl
              have z0 : wr.cell? ⟨pb, 0, none⟩ = some (.int .i64 0) := by rw [cell_of PB.out]; rfl
              have z1 : wr.cell? ⟨pb, 1, none⟩ = some (.slice none 0 0) := by rw [cell_of PB.out]; rfl
              have z2 : wr.cell? ⟨pb, 2, none⟩ = some (.slice none 0 0) := by rw [cell_of PB.out]; rfl
              have z3 : wr.cell? ⟨pb, 3, none⟩ = some (.slice none 0 0) := by rw [cell_of PB.out]; rfl
              have z4 : wr.cell? ⟨pb, 4, none⟩ = some (.slice none 0 0) := by rw [cell_of PB.out]; rfl
              have y0 : wr.frozen? ⟨pb, 0, none⟩ = false := frz_of PB.out
              have y1 : wr.frozen? ⟨pb, 1, none⟩ = false := frz_of PB.out
              have y2 : wr.frozen? ⟨pb, 2, none⟩ = false := frz_of PB.out
              have y3 : wr.frozen? ⟨pb, 3, none⟩ = false := frz_of PB.out
              have y4 : wr.frozen? ⟨pb, 4, none⟩ = false := frz_of PB.out
              have FIN : Hid (Rq (put5 wr pb (.int .i64 (tn : Int)) (.slice ta tn tc1) (.slice ra rn1 rc1) (.slice ea en1 ec1) (.slice qa1 qn1 qc1)) (.slice ta tn tc1) (.slice ra rn1 rc1) (.slice ea en1 ec1) (.slice qa1 qn1 qc1) (trI SS.tr) (regs SS) (endsI SS SS.tk.length) (quesI SS 4) ∧ Below w.heap.size w (put5 wr pb (.int .i64 (tn : Int)) (.slice ta tn tc1) (.slice ra rn1 rc1) (.slice ea en1 ec1) (.slice qa1 qn1 qc1))) := by
                refine ⟨RQ _ _ _ _ _, ?_⟩
                have b1 : Below w.heap.size w wr := W0.out.trans (LW.mono W0.out.size)
                exact b1.trans ((put5_but wr pb _ _ _ _ _).below b1.size fun k c => by have := hpb.out; omega)
              have PH := hide (put5_heap PB.out (.int .i64 (tn : Int)) (.slice ta tn tc1) (.slice ra rn1 rc1) (.slice ea en1 ec1) (.slice qa1 qn1 qc1))
              clear GH RQ LW PB hst
              go_wp2_with fail
              show bodyPost _ _ _ _ _ (put5 wr pb (.int .i64 (tn : Int)) (.slice ta tn tc1) (.slice ra rn1 rc1) (.slice ea en1 ec1) (.slice qa1 qn1 qc1))
              generalize put5 wr pb (.int .i64 (tn : Int)) (.slice ta tn tc1) (.slice ra rn1 rc1) (.slice ea en1 ec1) (.slice qa1 qn1 qc1) = w9 at *
              have k0 : w9.cell? ⟨pb, 0, none⟩ = some (.int .i64 (tn : Int)) := by rw [cell_of PH.out]; rfl
              have k1 : w9.cell? ⟨pb, 1, none⟩ = some (.slice ta tn tc1) := by rw [cell_of PH.out]; rfl
              have k2 : w9.cell? ⟨pb, 2, none⟩ = some (.slice ra rn1 rc1) := by rw [cell_of PH.out]; rfl
              have k3 : w9.cell? ⟨pb, 3, none⟩ = some (.slice ea en1 ec1) := by rw [cell_of PH.out]; rfl
              have k4 : w9.cell? ⟨pb, 4, none⟩ = some (.slice qa1 qn1 qc1) := by rw [cell_of PH.out]; rfl
              refine bodyPost_ret (by simp [results, Tryd.results8, go_sem, k0, k1, k2, k3, k4]; rfl) rfl ?_
              exact ⟨_, _, _, _, by rw [htn.out], FIN.out.1, FIN.out.2⟩
end Go.Proofs.YtiiinpmkidobgaaDoor.Sd

