/-
  The document's May.
-/
import Derived.Test.YtdhjlongdfgejaaCtO
import Derived.Deep.LoopGhost
import Derived.Deep.CutRange
namespace Go.Proofs.Ytdhjlongdfgejaa.Ct
open Go.RowKit

/-- What the document asks of the segment j. -/
structure Rk (l : List Sg) (j : Nat) : Prop where
  nm : 1 ≤ (sg l j).nm
  ba : 1 ≤ (sg l j).ba
  op : j + 1 = l.length → (sg l j).en = 0 ∧ (sg l j).sz = 0
  lk : j + 1 ≠ l.length → (sg l j).ba ≤ (sg l j).en ∧ 32 ≤ (sg l j).sz ∧ (sg l j).sz ≤ 2147483647 ∧ wrap64 ((sg l (j + 1)).nm - 1) = (sg l j).nm ∧ (sg l (j + 1)).ba = (sg l j).en
theorem may_iff {g f : Int} {l : List Sg} (ha : AIn l) : May g f l ↔ (1 ≤ g ∧ 1 ≤ f ∧ 1 ≤ l.length ∧ l.length ≤ 64 ∧ (∀ j, j < l.length → Rk l j) ∧ (sg l 0).ba ≤ f ∧ (l.length = 1 ∨ f ≤ (sg l 0).en)) := by
  constructor
  · intro h
    refine ⟨h.g1, h.f0, h.n1, h.n2, fun j hj => ?_, h.be.1, ?_⟩
    · obtain ⟨a, b⟩ := h.nmba hj
      refine ⟨a, b, fun e => ?_, fun e => ?_⟩
      · have h3 : ¬ sldF (sg l j) := fun c => by have := (h.sld hj).1 c; omega
        exact ⟨Classical.byContradiction fun c => h3 (.inl c), Classical.byContradiction fun c => h3 (.inr c)⟩
      · obtain ⟨⟨_, _, c, d, e'⟩, p, q, r⟩ := h.lk j (by omega)
        refine ⟨c, d, e', ?_, r⟩
        unfold wrap64; omega
    · by_cases e : l.length = 1
      · exact .inl e
      · have hn := h.n1
        exact .inr (h.be.2 ((h.sld (i := 0) (by omega)).2 (by omega)))
  · rintro ⟨h1, h2, h3, h4, h5, h6, h7⟩
    have sealed : ∀ j, j + 1 < l.length → slF (sg l j) ∧ foF (sg l j) (sg l (j + 1)) := fun j hj => by
      have a := h5 j (by omega)
      have b := h5 (j + 1) hj
      obtain ⟨c, d, e, p, q⟩ := a.lk (by omega)
      have x := ha.sg j
      have y := ha.sg (j + 1)
      have hb := b.nm
      have hy := y.a2
      unfold wrap64 at p
      exact ⟨⟨a.nm, a.ba, c, d, e⟩, by omega, by omega, q⟩
    refine ⟨h1, h3, h4, sealed, ?_, h6, ?_⟩
    · have a := h5 (l.length - 1) (by omega)
      obtain ⟨p, q⟩ := a.op (by omega)
      exact ⟨a.nm, a.ba, fun c => by rcases c with c | c; exact c p; exact c q⟩
    · intro c
      rcases h7 with e | e
      · have a := h5 0 (by omega)
        obtain ⟨p, q⟩ := a.op (by omega)
        rcases c with c | c
        · exact absurd p c
        · exact absurd q c
      · exact e
theorem may_no_round {g f : Int} {l : List Sg} (ha : AIn l) {j : Nat} (hj : j < l.length) (h : ¬ Rk l j) : mayB g f l = false := mayB_f fun c => h (((may_iff ha).1 c).2.2.2.2.1 j hj)
set_option maxRecDepth 20000 in
set_option maxHeartbeats 4000000 in
theorem refMay_any : DoesMay 14 := by
  intro w g fi v l hv
  obtain ⟨N, hN⟩ : ∃ N, Hid (l.length = N) := ⟨_, rfl⟩
  have HI := hide hv.1
  obtain ⟨ao, ca, rfl, q1, q2⟩ := hv.form
  rw [hN.out] at hv q1 ⊢
  have X0 := hide (box_below w (.cells #[.int .i64 g, .int .i64 fi, .slice ao N ca] 29))
  have Z1 := hide (heap_alloc_new w (.cells #[.int .i64 g, .int .i64 fi, .slice ao N ca] 29))
  have V1 := hide (hv.below X0.out)
  go_enter Try.func14, Try.ntmps14
  go_upto_region 1 with fail
  generalize w.alloc (.cells #[.int .i64 g, .int .i64 fi, .slice ao N ca] 29) = w1 at *
  clear hv
  obtain ⟨c0, c1, c2⟩ := three_cells Z1.out
  have no : ∀ (P : Prop), (May g fi l → P) → ¬ P → mayB g fi l = false := fun P h n => mayB_f fun c => n (h c)
  replace no := hide no
  by_cases h1 : g < 1
  · have hE := hide (no.out _ (fun c => c.g1) (by omega))
    go_wp2_with fail
    go_ret
    exact ⟨by rw [hE.out]; rfl, X0.out⟩
  by_cases h2 : fi < 1
  · have hE := hide (no.out _ (fun c => c.f0) (by omega))
    go_wp2_with fail
    go_ret
    exact ⟨by rw [hE.out]; rfl, X0.out⟩
  by_cases h3 : N < 1
  · have hE := hide (no.out _ (fun c => c.n1) (by rw [hN.out]; omega))
    have h3' : (N : Int) < 1 := by omega
    go_wp2_with fail
    go_ret
    exact ⟨by rw [hE.out]; rfl, X0.out⟩
  by_cases h4 : 64 < N
  · have hE := hide (no.out _ (fun c => c.n2) (by rw [hN.out]; omega))
    have h3' : ¬ (N : Int) < 1 := by omega
    have h4' : (64 : Int) < (N : Int) := by omega
    go_wp2_with fail
    go_ret
    exact ⟨by rw [hE.out]; rfl, X0.out⟩
  clear no
  obtain ⟨M, rfl⟩ : ∃ M, N = M + 1 := ⟨N - 1, by omega⟩
  obtain ⟨b, off, ca', e, _, _, hc⟩ := V1.out.at (by rw [hN.out]; omega)
  rw [hN.out] at e hc
  simp only [Value.slice.injEq, true_and] at e
  obtain ⟨rfl, rfl⟩ := e
  have HC := hide hc
  clear hc
  have hM : M < 64 := by omega
  have h3' : ¬ ((M : Int) + 1 < 1) := by omega
  have h4' : ¬ (64 : Int) < (M : Int) + 1 := by omega
  have h1' : ¬ g < 1 := h1
  have hwm : IntKind.i64.wrap (M : Int) = (M : Int) := by rw [IntKind.wrap_i64]; omega
  clear h3 h4
  go_wp2_with fail
  go_loopg [4] (M + 1) (fun kx vi wr => ∃ i : Nat, i ≤ M + 1 ∧ M + 1 - i ≤ kx ∧ vi = .int .i64 (i : Int) ∧ Hid (Below w1.heap.size w1 wr) ∧ Hid (∀ j, j < i → Rk l j))
  case atStart => exact ⟨0, Nat.zero_le _, Nat.le_refl _, rfl, Below.refl _ _, fun j hj => by omega⟩
  case round =>
    obtain ⟨i, hi, hkx, rfl, hW, hR⟩ := hrel
    have ZW : Hid (wr.heap[w.heap.size]? = some (.cells #[.int .i64 g, .int .i64 fi, .slice (some ⟨b, off, none⟩) (M + 1) ca] 29 (0, 0))) := by show _ = _; rw [hW.out.block _ (heap_lt Z1.out)]; exact Z1.out
    have BW := hide (keepF X0.out hW.out)
    clear c0 c1 c2
    by_cases hlt : ¬ i < M + 1
    · obtain rfl : i = M + 1 := by omega
      have hng : ¬ ((M : Int) + 1 < (M : Int) + 1) := by omega
      obtain ⟨c0, c1, c2⟩ := three_cells ZW.out
      obtain ⟨k0, k1, k2, k3, k4⟩ := (HC.out 0 (by omega)).below hW.out
      rw [Nat.zero_mul, Nat.add_zero] at k0 k1 k2 k3 k4
      have hfin : Hid (mayB g fi l = decide ((sg l 0).ba ≤ fi ∧ (M = 0 ∨ fi ≤ (sg l 0).en))) := by
        show _ = _
        by_cases c : (sg l 0).ba ≤ fi ∧ (M = 0 ∨ fi ≤ (sg l 0).en)
        · rw [decide_eq_true c]
          exact mayB_t ((may_iff HI.out).2 ⟨by omega, by omega, by rw [hN.out]; omega, by rw [hN.out]; omega, fun j hj => hR.out j (by rw [hN.out] at hj; exact hj), c.1, by rw [hN.out]; rcases c.2 with e | e; exact .inl (by omega); exact .inr e⟩)
        · rw [decide_eq_false c]
          refine mayB_f fun m => c ?_
          obtain ⟨_, _, _, _, _, a, b⟩ := (may_iff HI.out).1 m
          rw [hN.out] at b
          exact ⟨a, by rcases b with e | e; exact .inl (by omega); exact .inr e⟩
      generalize sg l 0 = s at *
      obtain ⟨nm, ba, se, en, sz⟩ := s
      dsimp only at k0 k1 k2 k3 k4 hfin
      have i0 : (0 : Int) < (M : Int) + 1 := by omega
      clear hlt HC V1
      go_upto_region 15 with fail
      by_cases p1 : ba ≤ fi
      · by_cases p2 : M = 0
        · subst p2
          have hE : Hid (mayB g fi l = true) := by show _ = _; rw [hfin.out]; simp [p1]
          clear hfin
          go_quiet (fail)
          go_wp2_with fail
          go_ret
          exact ⟨by rw [hE.out]; rfl, keepF BW.out ((show Qt wr _ from ⟨_, rfl⟩).below _)⟩
        · have p2' : ((M : Int) + 1 == 1) = false := by simp; omega
          by_cases p3 : fi ≤ en
          · have hE : Hid (mayB g fi l = true) := by show _ = _; rw [hfin.out]; simp [p1, p3]
            clear hfin
            go_quiet (fail)
            go_wp2_with fail
            go_ret
            exact ⟨by rw [hE.out]; rfl, keepF BW.out ((show Qt wr _ from ⟨_, rfl⟩).below _)⟩
          · have hE : Hid (mayB g fi l = false) := by show _ = _; rw [hfin.out]; simp [p2, p3]
            have p3' : decide (fi ≤ en) = false := by simp [p3]
            clear hfin
            go_quiet (fail)
            go_wp2_with fail
            go_ret
            exact ⟨by rw [hE.out]; rfl, keepF BW.out ((show Qt wr _ from ⟨_, rfl⟩).below _)⟩
      · have hE : Hid (mayB g fi l = false) := by show _ = _; rw [hfin.out]; simp [p1]
        have p1' : decide (ba ≤ fi) = false := by simp [p1]
        clear hfin
        go_quiet (fail)
        go_wp2_with fail
        go_ret
        exact ⟨by rw [hE.out]; rfl, keepF BW.out ((show Qt wr _ from ⟨_, rfl⟩).below _)⟩
    have hlt' : (i : Int) < (M : Int) + 1 := by omega
    obtain ⟨c0, c1, c2⟩ := three_cells ZW.out
    obtain ⟨k0, k1, k2, k3, k4⟩ := (HC.out i (by omega)).below hW.out
    have NO : Hid (¬ Rk l i → mayB g fi l = false) := fun h => may_no_round HI.out (by rw [hN.out]; omega) h
    obtain ⟨s, hs⟩ : ∃ s, Hid (sg l i = s) := ⟨_, rfl⟩
    rw [hs.out] at k0 k1 k2 k3 k4
    obtain ⟨nm, ba, se, en, sz⟩ := s
    dsimp only at k0 k1 k2 k3 k4
    go_upto_region 8 with fail
    have X2 := hide (box_below wr (.cells #[.int .i64 nm, .int .i64 ba, .int .u32 (se : Int), .int .i64 en, .int .i64 sz] 53))
    have S2 := hide (heap_alloc_new wr (.cells #[.int .i64 nm, .int .i64 ba, .int .u32 (se : Int), .int .i64 en, .int .i64 sz] 53))
    have Z2 : Hid ((wr.alloc (.cells #[.int .i64 nm, .int .i64 ba, .int .u32 (se : Int), .int .i64 en, .int .i64 sz] 53)).heap[w.heap.size]? = some (.cells #[.int .i64 g, .int .i64 fi, .slice (some ⟨b, off, none⟩) (M + 1) ca] 29 (0, 0))) := by show _ = _; rw [X2.out.block _ (heap_lt ZW.out)]; exact ZW.out
    have W2 := hide (keepF hW.out X2.out)
    have B2 := hide (keepF BW.out X2.out)
    generalize wr.alloc (.cells #[.int .i64 nm, .int .i64 ba, .int .u32 (se : Int), .int .i64 en, .int .i64 sz] 53) = w2 at *
    generalize wr.heap.size = sb at *
    clear c0 c1 c2 k0 k1 k2 k3 k4 X2 ZW hW BW
    obtain ⟨c0, c1, c2⟩ := three_cells Z2.out
    obtain ⟨k0, k1, k2, k3, k4⟩ := five_cells S2.out
    by_cases p1 : nm < 1
    · have hE := hide (NO.out fun c => by have := c.nm; rw [hs.out] at this; dsimp only at this; omega)
      go_wp2_with fail
      go_ret
      exact ⟨by rw [hE.out]; rfl, B2.out⟩
    by_cases p2 : ba < 1
    · have hE := hide (NO.out fun c => by have := c.ba; rw [hs.out] at this; dsimp only at this; omega)
      go_wp2_with fail
      go_ret
      exact ⟨by rw [hE.out]; rfl, B2.out⟩
    by_cases hiM : i = M
    · subst hiM
      by_cases p3 : en = 0
      · subst p3
        by_cases p4 : sz = 0
        · subst p4
          go_wp2_with fail
          go_roundg (i + 1 - (i + 1))
          case measure => omega
          case rel =>
            refine ⟨i + 1, by omega, Nat.le_refl _, by go_num, W2.out, fun j hj => ?_⟩
            by_cases e : j = i
            · subst e
              refine ⟨by rw [hs.out]; dsimp only; omega, by rw [hs.out]; dsimp only; omega, fun _ => by rw [hs.out]; exact ⟨rfl, rfl⟩, fun h => absurd hN.out.symm h⟩
            · exact hR.out j (by omega)
        · have hE := hide (NO.out fun c => by have := (c.op hN.out.symm).2; rw [hs.out] at this; exact p4 this)
          have p4' : (sz != 0) = true := by simp [p4]
          go_wp2_with fail
          go_ret
          exact ⟨by rw [hE.out]; rfl, B2.out⟩
      · have hE := hide (NO.out fun c => by have := (c.op hN.out.symm).1; rw [hs.out] at this; exact p3 this)
        have p3' : (en != 0) = true := by simp [p3]
        go_wp2_with fail
        go_ret
        exact ⟨by rw [hE.out]; rfl, B2.out⟩
    have hiM2 : i < M := by omega
    obtain ⟨j0, j1, j2, j3, j4⟩ := (HC.out (i + 1) (by omega)).below W2.out
    have hwi : IntKind.i64.wrap ((i : Int) + 1) = (i : Int) + 1 := by rw [IntKind.wrap_i64]; omega
    have i1 : (i : Int) + 1 < (M : Int) + 1 := by omega
    have i2 : (0 : Int) ≤ (i : Int) + 1 := by omega
    have i3 : ((i : Int) == (M : Int)) = false := by simp; omega
    obtain ⟨t, ht⟩ : ∃ t, Hid (sg l (i + 1) = t) := ⟨_, rfl⟩
    rw [ht.out] at j0 j1 j2 j3 j4
    obtain ⟨nm', ba', se', en', sz'⟩ := t
    dsimp only at j0 j1 j2 j3 j4
    obtain ⟨PV, hPV⟩ : ∃ PV, IntKind.i64.wrap (nm' - 1) = PV := ⟨_, rfl⟩
    have hPV' : Hid (wrap64 (nm' - 1) = PV) := by show wrap64 _ = _; rw [← hPV]; exact (Go.IntWalk.i64_left _).symm
    have iff : Hid (Rk l i ↔ (ba ≤ en ∧ 32 ≤ sz ∧ sz ≤ 2147483647 ∧ PV = nm ∧ ba' = en)) := by
      constructor
      · intro c
        have := c.lk (by rw [hN.out]; omega)
        rw [hs.out, ht.out] at this
        dsimp only at this
        rw [hPV'.out] at this
        exact this
      · intro c
        refine ⟨by rw [hs.out]; dsimp only; omega, by rw [hs.out]; dsimp only; omega, fun h => by rw [hN.out] at h; omega, fun _ => ?_⟩
        rw [hs.out, ht.out]
        dsimp only
        rw [hPV'.out]
        exact c
    clear hPV' ht hs
    go_upto_region 13 with fail
    by_cases d1 : en < ba
    · have hE := hide (NO.out fun c => by have := (iff.out.1 c).1; omega)
      have e1 : decide (en < ba) = true := by simp [d1]
      clear NO iff
      go_quiet (fail)
      go_wp2_with fail
      go_ret
      exact ⟨by rw [hE.out]; rfl, keepF B2.out ((show Qt w2 _ from ⟨_, rfl⟩).below _)⟩
    have e1 : decide (en < ba) = false := by simp [d1]
    by_cases d2 : sz < 32
    · have hE := hide (NO.out fun c => by have := (iff.out.1 c).2.1; omega)
      have e2 : decide (sz < 32) = true := by simp [d2]
      clear NO iff
      go_quiet (fail)
      go_wp2_with fail
      go_ret
      exact ⟨by rw [hE.out]; rfl, keepF B2.out ((show Qt w2 _ from ⟨_, rfl⟩).below _)⟩
    have e2 : decide (sz < 32) = false := by simp [d2]
    by_cases d3 : 2147483647 < sz
    · have hE := hide (NO.out fun c => by have := (iff.out.1 c).2.2.1; omega)
      have e3 : decide (2147483647 < sz) = true := by simp [d3]
      clear NO iff
      go_quiet (fail)
      go_wp2_with fail
      go_ret
      exact ⟨by rw [hE.out]; rfl, keepF B2.out ((show Qt w2 _ from ⟨_, rfl⟩).below _)⟩
    have e3 : decide (2147483647 < sz) = false := by simp [d3]
    by_cases d4 : ¬ PV = nm
    · have hE := hide (NO.out fun c => d4 (iff.out.1 c).2.2.2.1)
      have e4 : (PV != nm) = true := by simp [d4]
      clear NO iff
      go_quiet (fail)
      go_wp2_with fail
      go_ret
      exact ⟨by rw [hE.out]; rfl, keepF B2.out ((show Qt w2 _ from ⟨_, rfl⟩).below _)⟩
    replace d4 := Classical.not_not.1 d4
    have e4 : (PV != nm) = false := by simp [d4]
    by_cases d5 : ¬ ba' = en
    · have hE := hide (NO.out fun c => d5 (iff.out.1 c).2.2.2.2)
      have e5 : (ba' != en) = true := by simp [d5]
      clear NO iff d4
      go_quiet (fail)
      go_wp2_with fail
      go_ret
      exact ⟨by rw [hE.out]; rfl, keepF B2.out ((show Qt w2 _ from ⟨_, rfl⟩).below _)⟩
    replace d5 := Classical.not_not.1 d5
    have e5 : (ba' != en) = false := by simp [d5]
    have hRK := hide (iff.out.2 ⟨by omega, by omega, by omega, d4, d5⟩)
    clear NO iff d4 d5
    go_quiet (fail)
    go_wp2_with fail
    go_roundg (M + 1 - (i + 1))
    case measure => omega
    case rel =>
      refine ⟨i + 1, by omega, Nat.le_refl _, by go_num, keepF W2.out ((show Qt w2 _ from ⟨_, rfl⟩).below _), fun j hj => ?_⟩
      by_cases e : j = i
      · subst e; exact hRK.out
      · exact hR.out j (by omega)
#print axioms refMay_any
end Go.Proofs.Ytdhjlongdfgejaa.Ct
