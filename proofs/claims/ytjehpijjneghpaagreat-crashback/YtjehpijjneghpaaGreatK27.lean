/-
  Package crash: Ways, At, After.
-/
import Derived.Test.YtjehpijjneghpaaGreatK26
import Derived.Test.YtjehpijjneghpaaGreatK10
namespace Go.Proofs.YtjehpijjneghpaaGreat.Dk
open Go.RowKit Go.Maps Go.Sort Go.Shelf Go.Proofs.YtjehpijjneghpaaGreat.Nm
set_option linter.unusedVariables false
set_option maxRecDepth 100000 in
theorem ways_dsk {w : World} {b : Nat} {S : DS} {O : Nat → Prop} (h : DskE w b S O) (hc : S.c7 < 900000000) :
    Calls Tryz.prog 31 #[.pointer (some ⟨b, 0, none⟩)] w fun e w' => e = .returned (.tuple #[.int .i64 S.cnt.2.1, .int .i64 S.cnt.2.2]) ∧ Below w.heap.size w w' := by
  have hC := ccount_dsk h hc
  clear h
  generalize S.cnt = R at *
  go_enter Tryz.func31, Tryz.ntmps31
  go_wp2_with (go_at_call 86; refine hC.mono ?_; rintro e w1 ⟨v, rfl, _, b1⟩; replace b1 := hide b1)
  go_ret2
  exact ⟨rfl, b1.out⟩
def DS.atE (S : DS) (i : Int) : Int := if S.ways ≤ M40 then (if 0 ≤ i ∧ i < (S.ways : Int) then 0 else 8) else 9
theorem digs_small {S : DS} (h : S.ok) (d j : Nat) (hj : j < prodT (S.tails (d : Int))) : ∀ x ∈ digs (S.tails (d : Int)) j, x ≤ 16777216 := by
  intro x hx
  obtain ⟨k, hk, rfl⟩ := List.getElem_of_mem hx
  rw [digs_len] at hk
  have h1 := digs_le (S.tails (d : Int)) j k hj hk
  have h2 := tails_small h (d : Int) (S.tails (d : Int))[k] (List.getElem_mem hk)
  rw [List.getD_eq_getElem?_getD, List.getElem?_eq_getElem (by rw [digs_len]; exact hk)] at h1
  simp only [Option.getD_some] at h1
  omega
theorem Ks.form {B : Nat} {w : World} {v : Value} {ds : List Nat} (h : Ks B w v ds) : ∃ ao n ca, v = .slice ao n ca := by
  rcases h.2 with ⟨rfl, e⟩ | ⟨g, cap, cur, rfl, _⟩
  · exact ⟨_, _, _, rfl⟩
  · exact ⟨_, _, _, rfl⟩
theorem two_store {q : World} {g : Nat} {a b : Value} {T : TypeId} (x y : Value) (hz : q.heap[g]? = some (.cells #[a, b] T)) :
    q.cell? ⟨g, 0, none⟩ = some a ∧ q.frozen? ⟨g, 0, none⟩ = false ∧ (q.setCell ⟨g, 0, none⟩ x).cell? ⟨g, 1, none⟩ = some b ∧ (q.setCell ⟨g, 0, none⟩ x).frozen? ⟨g, 1, none⟩ = false ∧
    ((q.setCell ⟨g, 0, none⟩ x).setCell ⟨g, 1, none⟩ y).heap[g]? = some (.cells #[x, y] T) ∧ But (fun k => k = g) q ((q.setCell ⟨g, 0, none⟩ x).setCell ⟨g, 1, none⟩ y) ∧ (q.setCell ⟨g, 0, none⟩ x).cell? ⟨g, 0, none⟩ = some x ∧ ((q.setCell ⟨g, 0, none⟩ x).setCell ⟨g, 1, none⟩ y).cell? ⟨g, 1, none⟩ = some y := by
  have h1 := heap_setCell_same q g 0 _ _ x hz
  have h2 := heap_setCell_same (q.setCell ⟨g, 0, none⟩ x) g 1 _ _ y h1
  have g3 := But.of_grownBy (X := fun k => k = g) (grown_setCell q g 0 x) fun k e => by cases e; rfl
  have g4 := But.of_grownBy (X := fun k => k = g) (grown_setCell (q.setCell ⟨g, 0, none⟩ x) g 1 y) fun k e => by cases e; rfl
  refine ⟨by simp [World.cell?, hz], by simp [World.frozen?, hz], by simp [World.cell?, h1], by simp [World.frozen?, h1], ?_, g3.trans g4, by simp [World.cell?, h1], by simp [World.cell?, h2]⟩
  rw [h2]
  rfl
theorem but_new {w q q' : World} {g : Nat} (hb : Below w.heap.size w q) (h : But (fun k => k = g) q q') (hg : w.heap.size ≤ g) : Below w.heap.size w q' :=
  ⟨h.os.trans hb.os, h.tape.trans hb.tape, h.output.trans hb.output, Nat.le_trans hb.size h.size, fun k hk => (h.block k (Nat.lt_of_lt_of_le hk hb.size) (by omega)).trans (hb.block k hk)⟩
theorem ks_but {q q' : World} {B g : Nat} {v : Value} {ds : List Nat} (h : Ks B q v ds) (hb : But (fun k => k = g) q q') (hg : g < B) : Ks g q' v ds :=
  ⟨h.1, h.2.imp id fun ⟨g', cap, cur, e, h1, hh, r⟩ => ⟨g', cap, cur, e, Nat.le_trans (Nat.le_of_lt hg) h1, (hb.block g' (heap_lt hh) (by show ¬ _ = _; omega)).trans hh, r⟩⟩
set_option maxRecDepth 100000 in
set_option maxHeartbeats 4000000 in
theorem at_dsk {w : World} {b : Nat} {S : DS} {O : Nat → Prop} (h : DskE w b S O) (hc : S.c7 < 900000000) (i : Int) (n0 : -9223372036854775808 ≤ i) (n1 : i ≤ 9223372036854775807) :
    Calls Tryz.prog 33 #[.pointer (some ⟨b, 0, none⟩), .int .i64 i] w fun e w' => Below w.heap.size w w' ∧ ((S.atE i ≠ 0 ∧ e = .returned (.tuple #[.agg #[.int .i64 0, .slice none 0 0], .int .i64 (S.atE i)])) ∨
      (S.atE i = 0 ∧ ∃ d j v, FateOf S i.toNat d j ∧ e = .returned (.tuple #[.agg #[.int .i64 (d : Int), v], .int .i64 0]) ∧ Ks w.heap.size w' v (digs (S.tails (d : Int)) j))) := by
  have B0 := hide (box_below w (.cells #[.int .i64 0, .slice none 0 0] 34))
  have N0 := hide (heap_alloc_new w (.cells #[.int .i64 0, .slice none 0 0] 34))
  obtain ⟨u, hu⟩ : ∃ u, Hid (w.alloc (.cells #[.int .i64 0, .slice none 0 0] 34) = u) := ⟨_, rfl⟩
  rw [hu.out] at B0 N0
  have hok := h.ok
  have hC := ccount_dsk (h.below B0.out) hc
  have hcu : Hid (w.heap.size < u.heap.size) := heap_lt N0.out
  by_cases hw : S.ways ≤ M40
  · have hcnt : S.cnt = (S.cnts (S.P.length + 1), (S.ways : Int), 0) := by unfold DS.cnt; rw [if_pos hw]
    rw [hcnt] at hC
    clear hcnt
    obtain ⟨W, hW⟩ : ∃ W, Hid (S.ways = W) := ⟨_, rfl⟩
    rw [hW.out] at hC
    have W1 : (W : Int) ≤ 1099511627776 := by rw [← hW.out]; unfold M40 at hw; omega
    by_cases hi : 0 ≤ i ∧ i < (W : Int)
    · have hE : S.atE i = 0 := by unfold DS.atE; rw [if_pos hw, hW.out, if_pos hi]
      obtain ⟨hi1, hi2⟩ := hi
      obtain ⟨I, eI⟩ : ∃ I : Nat, Hid (i = (I : Int)) := Int.eq_ofNat_of_zero_le hi1
      have eI2 : Hid (i.toNat = I) := by show _ = _; rw [eI.out]; exact Int.toNat_natCast I
      rw [eI2.out]
      obtain ⟨E, hE2⟩ : ∃ E, Hid (S.atE i = E) := ⟨_, rfl⟩
      have j1 : ¬ (i < 0) := by omega
      obtain ⟨Wz, hWz⟩ : ∃ Wz : Int, Hid ((W : Int) = Wz) := ⟨_, rfl⟩
      rw [hWz.out] at hC
      have j2 : ¬ (i ≥ Wz) := by rw [← hWz.out]; omega
      rw [hE2.out] at hE ⊢
      subst hE
      obtain ⟨N, hN⟩ : ∃ N, Hid (S.P.length = N) := ⟨_, rfl⟩
      rw [hN.out] at hC
      have hN2 : Hid ((N : Int) ≤ 900000000) := by show _ ≤ _; have := hok.cnt; rw [← hN.out]; omega
      have hI : Hid (I < (S.cnts (N + 1)).sum) := by show _ < _; rw [← hN.out]; have := hW.out; unfold DS.ways at this; rw [this]; have := eI.out; omega
      have KT : Hid (∀ q, Below w.heap.size w q → ∀ d : Nat, d ≤ N → Calls Tryz.prog 27 #[.pointer (some ⟨b, 0, none⟩), .int .i64 (d : Int)] q fun e w' => ∃ v, e = .returned v ∧ Tr w' v (S.tails (d : Int)) ∧ Below q.heap.size q w') := fun q hq d hd => by
        refine (tails_dsk (h.below hq) (by omega) (d : Int) (by omega) (by have := hN2.out; omega)).mono ?_
        rintro e w' ⟨v, rfl, ht, hb⟩
        exact ⟨v, rfl, ht.tr, hb⟩
      have KA : Hid (∀ q (d j : Nat) v, Tr q v (S.tails (d : Int)) → j < prodT (S.tails (d : Int)) → j < 1099511627776 → Calls Tryz.prog 88 #[v, .int .i64 (j : Int)] q fun e w' => ∃ v', e = .returned v' ∧ Ks q.heap.size w' v' (digs (S.tails (d : Int)) j) ∧ Below q.heap.size q w') := fun q d j v hv hj hm => apart_any q v _ j hv (tails_small hok _) hj hm (tails_len hok (by omega) _)
      have hI2 : (I : Int) ≤ 1099511627775 := by have := eI.out; omega
      clear h hok hc hw hi1 n0 n1
      replace hI2 := hide hI2
      replace W1 := hide W1
      replace hi2 := hide hi2
      go_enter Tryz.func33, Tryz.ntmps33
      go_upto_region 1 with fail
      rw [hu.out]
      go_upto_region 2 with (go_at_call 86; refine hC.mono ?_; rintro e w1 ⟨v, rfl, c1, b1⟩; have z1 := hide ((b1.block _ (heap_lt N0.out)).trans N0.out); replace b1 := hide b1; replace c1 := hide c1)
      go_upto_region 4 with fail
      go_upto_region 6 with fail
      have B1 : Hid (Below w.heap.size w w1) := B0.out.trans (b1.out.mono B0.out.size)
      obtain ⟨av, cv, rfl, hf1, hf2⟩ := c1.out.form
      rw [cnts_len] at c1 hf1 ⊢
      clear hC j1 j2
      go_wp2_with fail
      go_loopw [1, 9] (fun vi vd wr => ∃ d j : Nat, vd = .int .i64 d ∧ vi = .int .i64 j ∧ Hid (d ≤ N ∧ I = (S.cnts d).sum + j) ∧ wr = w1) (fun _ vd _ => N + 1 - (intOf vd).toNat)
      case atStart => exact ⟨0, I, rfl, by rw [eI.out], ⟨Nat.zero_le _, by simp [DS.cnts]⟩, rfl⟩
      case round =>
        obtain ⟨d, j, rfl, rfl, hd, rfl⟩ := hrel
        have hdN : (d : Int) < ((N + 1 : Nat) : Int) := by have := hd.out.1; omega
        obtain ⟨g, cap, e, hcell⟩ := c1.out.at (cnts_get S (N + 1) d (by have := hd.out.1; omega))
        rw [cnts_len] at e
        simp only [Value.slice.injEq] at e
        obtain ⟨rfl, _, rfl⟩ := e
        have hsum : Hid ((S.cnts (d + 1)).sum = (S.cnts d).sum + prodT (S.tails (d : Int))) := cnts_sum S d
        obtain ⟨c, hcc⟩ : ∃ c, Hid (prodT (S.tails (d : Int)) = c) := ⟨_, rfl⟩
        rw [hcc.out] at hcell hsum
        have hjc : Hid ((j : Int) ≤ 1099511627775) := by show _ ≤ _; have := hd.out.2; have := hI2.out; omega
        by_cases hjl : j < c
        · have t1 : ¬ ((j : Int) ≥ (c : Int)) := by omega
          have hT := KT.out wr B1.out d hd.out.1
          have KA2 := KA.out
          go_upto_region 10 with fail
          clear t1 hcell hf1 hf2 hdN
          go_wp2_with (first
            | (go_at_call 27; refine hT.mono ?_; rintro e w2 ⟨v2, rfl, r2, b2⟩; replace r2 := hide r2; replace b2 := hide b2)
            | (go_at_call 88; refine (KA.out w2 d j v2 r2.out (by rw [hcc.out]; exact hjl) (by have := hjc.out; omega)).mono ?_; rintro e w3 ⟨v3, rfl, r3, b3⟩; obtain ⟨a3, n3, c3, rfl⟩ := r3.form; have z3 := (b3.block _ (heap_lt ((b2.out.block _ (heap_lt z1.out)).trans z1.out))).trans ((b2.out.block _ (heap_lt z1.out)).trans z1.out); obtain ⟨x1, x2, x3, x4, x5, x6, x7, x8⟩ := two_store (.int .i64 (d : Int)) (.slice a3 n3 c3) z3; replace z3 := hide z3; replace r3 := hide r3; replace b3 := hide b3; replace x6 := hide x6; clear x5)
            | fail)
          try simp only [Exit.inBlock, Exit.then]
          refine bodyPost_ret (by simp [results, Tryz.results33, go_sem, x7, x8]; try rfl) rfl ?_
          have B3 : Below w.heap.size w w3 := B1.out.trans ((b2.out.trans (b3.out.mono b2.out.size)).mono B1.out.size)
          refine ⟨but_new B3 x6.out (Nat.le_refl _), .inr ⟨trivial, d, j, _, ⟨by rw [hN.out]; exact hd.out.1, hd.out.2, by rw [hcc.out]; exact hjl⟩, rfl, ?_⟩⟩
          have hO : w2.heap.size ≤ w3.heap.size := b3.out.size
          have hlow : w.heap.size < w2.heap.size := Nat.lt_of_lt_of_le (heap_lt z1.out) b2.out.size
          exact ks_but r3.out x6.out hlow
        · have t1 : (j : Int) ≥ (c : Int) := by omega
          have t2 := hjc.out
          go_wp2_with fail
          go_roundw
          case rel =>
            refine ⟨d + 1, j - c, by go_num, by go_num, ⟨?_, ?_⟩, trivial⟩
            · have h1 := hd.out; have h2 := hsum.out; have h3 := hI.out
              by_cases hdn : d = N
              · subst hdn; omega
              · omega
            · have h1 := hd.out; have h2 := hsum.out
              omega
          case measure => have := hd.out.1; simp [intOf]; omega
    · have hE : S.atE i = 8 := by unfold DS.atE; rw [if_pos hw, hW.out, if_neg hi]
      obtain ⟨E, hE2⟩ : ∃ E, Hid (S.atE i = E) := ⟨_, rfl⟩
      rw [hE2.out] at hE ⊢
      subst hE
      clear h hok hw
      obtain ⟨N, hN⟩ : ∃ N, Hid (S.P.length = N) := ⟨_, rfl⟩
      rw [hN.out] at hC
      have hc1 : i < 0 ∨ i ≥ (W : Int) := by omega
      rcases hc1 with hc1 | hc1
      all_goals
        go_enter Tryz.func33, Tryz.ntmps33
        go_upto_region 1 with fail
        rw [hu.out]
        go_wp2_with (go_at_call 86; refine hC.mono ?_; rintro e w1 ⟨v, rfl, _, b1⟩; have z1 := (b1.block _ (heap_lt N0.out)).trans N0.out; obtain ⟨x1, x2, x3, x4, x5, x6, x7, x8⟩ := two_store (.int .i64 0) (.slice none 0 0) z1; replace b1 := hide b1; replace z1 := hide z1; replace x6 := hide x6; clear x5)
        try simp only [Exit.inBlock, Exit.then]
        refine bodyPost_ret (by simp [results, Tryz.results33, go_sem, x7, x8]; try rfl) rfl ?_
        exact ⟨but_new (B0.out.trans (b1.out.mono B0.out.size)) x6.out (Nat.le_refl _), .inl ⟨by decide, rfl⟩⟩
  · have hcnt : S.cnt = ([], 0, 9) := by unfold DS.cnt; rw [if_neg hw]
    rw [hcnt] at hC
    have hE : S.atE i = 9 := by unfold DS.atE; rw [if_neg hw]
    obtain ⟨E, hE2⟩ : ∃ E, Hid (S.atE i = E) := ⟨_, rfl⟩
    rw [hE2.out] at hE ⊢
    subst hE
    clear h hok hw hcnt
    go_enter Tryz.func33, Tryz.ntmps33
    go_upto_region 1 with fail
    rw [hu.out]
    go_wp2_with (go_at_call 86; refine hC.mono ?_; rintro e w1 ⟨v, rfl, _, b1⟩; have z1 := (b1.block _ (heap_lt N0.out)).trans N0.out; obtain ⟨x1, x2, x3, x4, x5, x6, x7, x8⟩ := two_store (.int .i64 0) (.slice none 0 0) z1; replace b1 := hide b1; replace z1 := hide z1; replace x6 := hide x6; clear x5)
    try simp only [Exit.inBlock, Exit.then]
    refine bodyPost_ret (by simp [results, Tryz.results33, go_sem, x7, x8]; try rfl) rfl ?_
    exact ⟨but_new (B0.out.trans (b1.out.mono B0.out.size)) x6.out (Nat.le_refl _), .inl ⟨by decide, rfl⟩⟩
end Go.Proofs.YtjehpijjneghpaaGreat.Dk
namespace Go.Proofs.YtjehpijjneghpaaGreat.Re
open Go.RowKit Go.Maps Go.Sort Go.Shelf Go.Proofs.YtjehpijjneghpaaGreat.Nm Go.Proofs.YtjehpijjneghpaaGreat.Dk
set_option linter.unusedVariables false
def crD (f : FD) (k : Kep) : FD := (crF (flD f) k.1 k.2, crF (flD f) k.1 k.2, 0)
def crR (L : Dr) (ks : List Kep) : Nat → RB → RB
  | 0, R => R
  | k + 1, R => (crR L ks k R).one ((L[k]?.map (·.2)).getD 0) (crD ((crR L ks k R).fOf ((L[k]?.map (·.2)).getD 0)) (ks.getD k (0, [])))
def RB.reset (R : RB) (L : Dr) : RB := { R with dir := L, old := L, pe := [], fs := [], down := false }
def RB.crash (R : RB) (d : Int) (ks : List Kep) : RB := (crR (R.front d) ks (R.front d).length R).reset (R.front d)
theorem crR_len (L : Dr) (ks : List Kep) (R : RB) : ∀ k, (crR L ks k R).F.length = R.F.length
  | 0 => rfl
  | k + 1 => by
    show ((crR L ks k R).F.set _ _).length = _
    rw [List.length_set]
    exact crR_len L ks R k
theorem crR_la (L : Dr) (ks : List Kep) {R : RB} (h : ∀ f ∈ R.F, f.2.1.length ≤ f.1.length ∧ (f.1.length : Int) ≤ 100000000) : ∀ k, ∀ f ∈ (crR L ks k R).F, f.2.1.length ≤ f.1.length ∧ (f.1.length : Int) ≤ 100000000
  | 0 => h
  | k + 1 => fun f hf => by
    have ih := crR_la L ks h k
    rcases List.mem_or_eq_of_mem_set hf with q | q
    · exact ih f q
    · subst q
      refine ⟨Nat.le_refl _, ?_⟩
      show ((crF _ _ _).length : Int) ≤ _
      unfold RB.fOf
      cases hx : (crR L ks k R).F[(L[k]?.map (·.2)).getD 0]? with
      | none => simp [flD, crF, svd, jnk]
      | some g =>
        have hg := ih g (List.mem_of_getElem? hx)
        have := crF_len (flD g) (ks.getD k (0, [])).1 (ks.getD k (0, [])).2 hg.1
        have h2 : (flD g).by_.length = g.1.length := rfl
        simp only [Option.getD_some]
        omega
def RV.reset (V : RV) (vd vo : Value) : RV := { V with vD := vd, vO := vo, vP := .slice none 0 0, vA := .slice none 0 0 }
theorem reset_cs (R : RB) (V : RV) (L : Dr) (vd vo : Value) : (((((R.cs V).setIfInBounds 2 vd).setIfInBounds 3 vo).setIfInBounds 4 (.slice none 0 0)).setIfInBounds 5 (.slice none 0 0)).setIfInBounds 16 (.bool false) = (R.reset L).cs (V.reset vd vo) := by simp [RB.cs, RB.reset, RV.reset]
theorem blk_reset (b : Nat) (V : RV) (vd vo : Value) (x : Nat) (h2 : x ≠ 2) (h3 : x ≠ 3) (h4 : x ≠ 4) (h5 : x ≠ 5) : blk b (V.reset vd vo) x = blk b V x := by
  match x with
  | 0 => rfl
  | 1 => rfl
  | 2 => exact absurd rfl h2
  | 3 => exact absurd rfl h3
  | 4 => exact absurd rfl h4
  | 5 => exact absurd rfl h5
  | n + 6 => rfl
theorem RM.reset {wr w' : World} {b : Nat} {R : RB} {V : RV} {vd vo : Value} {L : Dr} (h : RM wr b R V) (hd : En 0 w' vd L) (hdn : ∀ k, vd.ownBlock = some k → (∀ x, blk b V x ≠ some k) ∧ k < wr.heap.size) (ho : En wr.heap.size w' vo L) (hb : But (fun k => k = b) wr w')
    (hbox : w'.heap[b]? = some (.cells ((((((R.cs V).setIfInBounds 2 vd).setIfInBounds 3 vo).setIfInBounds 4 (.slice none 0 0)).setIfInBounds 5 (.slice none 0 0)).setIfInBounds 16 (.bool false)) TRD (0, 0))) : RM w' b (R.reset L) (V.reset vd vo) := by
  have nx : ∀ x, x ≠ 0 → ∀ k, blk b V x = some k → ¬ k = b := fun x hx k hk c => h.ds 0 x (Ne.symm hx) b rfl (by rw [hk, c])
  have hsz := hb.size
  have no4 : ∀ k, blk b (V.reset vd vo) 4 ≠ some k := fun k c => by simp [blk, RV.reset, Value.ownBlock] at c
  have no5 : ∀ k, blk b (V.reset vd vo) 5 ≠ some k := fun k c => by simp [blk, RV.reset, Value.ownBlock] at c
  have key : ∀ x y, x ≠ y → (x = 2 ∨ x = 3) → ∀ k, blk b (V.reset vd vo) x = some k → blk b (V.reset vd vo) y ≠ some k := fun x y hxy hx k h1 h2 => by
    by_cases y4 : y = 4
    · subst y4; exact no4 k h2
    · by_cases y5 : y = 5
      · subst y5; exact no5 k h2
      · rcases hx with rfl | rfl
        · by_cases y3 : y = 3
          · subst y3
            have q1 := (ho.lt k h2).1
            have q2 := (hdn k h1).2
            omega
          · rw [blk_reset b V vd vo y (Ne.symm hxy) y3 y4 y5] at h2
            exact (hdn k h1).1 y h2
        · by_cases y2 : y = 2
          · subst y2
            have q1 := (ho.lt k h1).1
            have q2 := (hdn k h2).2
            omega
          · rw [blk_reset b V vd vo y y2 (Ne.symm hxy) y4 y5] at h2
            have q1 := (ho.lt k h1).1
            have q2 := h.lt y k h2
            omega
  refine ⟨by rw [← reset_cs]; exact hbox, hd, owns_lower2 ho (Nat.zero_le _), World.ownsRow_nil _ _ _ _, World.ownsRow_nil _ _ _ _, ownsRow_but h.ff hb (nx 1 (by omega)), h.ln, fun i hi => ?_, ?_, ?_⟩
  · have hi' : i < R.F.length := hi
    have hl' : i < V.T.length := by rw [h.ln]; exact hi'
    obtain ⟨a, q⟩ := h.nn i hi'
    exact ⟨Oc.but a hb (fun k hk => nx (2 * i + 6) (by omega) k (by rw [blk_N b V hl']; exact hk)), Oc.but q hb (fun k hk => nx (2 * i + 7) (by omega) k (by rw [blk_L b V hl']; exact hk))⟩
  · intro x y hxy k h1 h2
    by_cases x2 : x = 2 ∨ x = 3
    · exact key x y hxy x2 k h1 h2
    · by_cases y2 : y = 2 ∨ y = 3
      · exact key y x (Ne.symm hxy) y2 k h2 h1
      · by_cases x4 : x = 4
        · subst x4; exact no4 k h1
        · by_cases x5 : x = 5
          · subst x5; exact no5 k h1
          · by_cases y4 : y = 4
            · subst y4; exact no4 k h2
            · by_cases y5 : y = 5
              · subst y5; exact no5 k h2
              · rw [blk_reset b V vd vo x (fun e => x2 (.inl e)) (fun e => x2 (.inr e)) x4 x5] at h1
                rw [blk_reset b V vd vo y (fun e => y2 (.inl e)) (fun e => y2 (.inr e)) y4 y5] at h2
                exact h.ds x y hxy k h1 h2
  · intro x k hk
    by_cases x2 : x = 2
    · subst x2; have := (hdn k hk).2; omega
    · by_cases x3 : x = 3
      · subst x3; exact (ho.lt k hk).2
      · by_cases x4 : x = 4
        · subst x4; exact absurd hk (no4 k)
        · by_cases x5 : x = 5
          · subst x5; exact absurd hk (no5 k)
          · rw [blk_reset b V vd vo x x2 x3 x4 x5] at hk
            have := h.lt x k hk
            omega
end Go.Proofs.YtjehpijjneghpaaGreat.Re
