/-
  The document's All whatever the base; its Find.
-/
import Derived.Test.YtebhkdaefjmbnaaJi
import Derived.BigRegion
namespace Go.Proofs.Ytebhkdaefjmbnaa
open Go.RowKit Go.Shelf
set_option maxRecDepth 100000
set_option linter.unusedVariables false

theorem refAll_zero (w : World) (ao : Option Addr) (M ca : Nat) (base : Int) (seed : Crc.R) (hb : base < 1) :
    Calls Try.prog 6 #[.slice ao M ca, .int .i64 base, .int .u32 (seed.toNat : Int), .int .i64 (-1)] w fun e w' => e = .returned (.tuple #[.agg #[.int .i64 0, .int .i64 0, .int .i64 0, .int .u32 0, .int .i64 0], .slice none 0 0]) ∧ Below w.heap.size w w' := by
  go_enter Try.func6, Try.ntmps6
  go_wp2_with fail
  go_returns
  exact ⟨rfl, box_below _ _⟩

theorem refAll_any (w : World) (v : Value) (L : List UInt8) (base : Int) (seed : Crc.R) (xs ys : List Sc) (hx : EvP L base seed xs) (hy : EvS L base seed ys) (g1 : base ≤ 9223372036854775807) (hv : Sl w v L) (hL : L.length ≤ 1099511627776) :
    Calls Try.prog 6 #[v, .int .i64 base, .int .u32 (seed.toNat : Int), .int .i64 (-1)] w fun e w' => ∃ ps vf, e = .returned (.tuple #[.agg (lastc L ys), vf]) ∧ ps.map (·.1) = xs ∧ Plc w.heap.size L w' ps vf ∧ Below w.heap.size w w' := by
  rcases hx with ⟨hb, rfl⟩ | ⟨hb, K, hK, rfl⟩
  · rcases hy with ⟨_, rfl⟩ | ⟨h, _⟩
    · obtain ⟨ao, ca, rfl, _⟩ := hv
      refine (refAll_zero w ao _ ca base seed hb).mono ?_
      rintro e w' ⟨rfl, h⟩
      exact ⟨[], _, rfl, rfl, ⟨World.ownsRow_nil _ _ _ _, by simp⟩, h⟩
    · omega
  · rcases hy with ⟨h, _⟩ | ⟨_, K', hK', rfl⟩
    · omega
    · obtain rfl := hK.unique hK'
      obtain ⟨bn, rfl⟩ : ∃ bn : Nat, base = (bn : Int) := ⟨base.toNat, by omega⟩
      rw [Int.toNat_natCast] at *
      refine (refAll_one w v L bn seed K (by omega) (by omega) hK hv hL).mono ?_
      rintro e w' ⟨ps, vf, rfl, h1, h2, h3⟩
      exact ⟨ps, vf, by rw [lastc_map], h1, h2, h3⟩

theorem pcells_at (ps : List (Sc × Value)) : ∀ (i : Nat) (h : i < ps.length), (pcells ps)[i * 3]? = some (.int .i64 (ps[i].1.e : Int)) ∧ (pcells ps)[i * 3 + 1]? = some (.int .i64 (ps[i].1.n : Int)) ∧ (pcells ps)[i * 3 + 2]? = some ps[i].2 := by
  induction ps with
  | nil => intro i h; simp at h
  | cons p r ih =>
    intro i h
    have e : pcells (p :: r) = .int .i64 (p.1.e : Int) :: .int .i64 (p.1.n : Int) :: p.2 :: pcells r := rfl
    rw [e]
    cases i with
    | zero => simp
    | succ i =>
      have := ih i (by simpa using h)
      rw [show (i + 1) * 3 = i * 3 + 3 by omega]
      simpa using this
/-- A row's cells. -/
theorem Plc.cells {base : Nat} {L : List UInt8} {W : World} {ps : List (Sc × Value)} {ao : Option Addr} {N ca : Nat} (h : Plc base L W ps (.slice ao N ca)) (hN : ps.length = N) (hp : 0 < N) : ∃ g, ao = some ⟨g, 0, none⟩ ∧ ∀ i (hi : i < ps.length), W.cell? ⟨g, i * 3, none⟩ = some (.int .i64 (ps[i].1.e : Int)) ∧ W.cell? ⟨g, i * 3 + 1, none⟩ = some (.int .i64 (ps[i].1.n : Int)) ∧ W.cell? ⟨g, i * 3 + 2, none⟩ = some ps[i].2 := by
  obtain ⟨h1, h2⟩ := h.row
  rcases h2 with ⟨e1, e2⟩ | ⟨g, cap, cur, e1, hg, hh, hnc, hcm, hcs, ht⟩
  · omega
  · simp only [Value.slice.injEq] at e1
    obtain ⟨rfl, _, rfl⟩ := e1
    refine ⟨g, rfl, fun i hi => ?_⟩
    have key : ∀ j u, (pcells ps)[j]? = some u → W.cell? ⟨g, j, none⟩ = some u := fun j u hu => by
      have hj : j < (pcells ps).length := (List.getElem?_eq_some_iff.1 hu).1
      have e2 : cur[j]? = some u := by
        rw [← ht, List.getElem?_take_of_lt (by omega)] at hu
        simpa using hu
      simp [World.cell?, hh, e2]
    obtain ⟨a, b, c⟩ := pcells_at ps i hi
    exact ⟨key _ _ a, key _ _ b, key _ _ c⟩

set_option maxHeartbeats 4000000 in
theorem refFind_any : DoesFind 12 := by
  intro w v L base seed lsn xs hx g0 g1 hv hL
  obtain ⟨ys, hys⟩ := exS L base seed
  have CA := hide (refAll_any (w.alloc (.cells #[.int .i64 0, .slice none 0 0] 41)) v L base seed xs ys hx hys g1 (Below.sl (box_below _ _) hv) hL)
  obtain ⟨ao, ca, rfl, hrest⟩ := hv
  clear hrest
  obtain ⟨M, hM⟩ : ∃ M, Hid (L.length = M) := ⟨_, rfl⟩
  obtain ⟨F, hF⟩ : ∃ F, Hid (fndF L xs lsn = F) := ⟨_, rfl⟩
  rw [hM.out] at CA ⊢
  rw [hF.out]
  obtain ⟨z0, z1, z2, z3, z4, hz⟩ := lastc_form L ys
  rw [hz] at CA
  clear hz hys
  go_enter Try.func12, Try.ntmps12
  go_wp2_with (go_at_call 6; refine CA.out.mono ?_; rintro e u ⟨ps, vf, rfl, hps, hP, hb⟩; obtain ⟨gv, cv, rfl⟩ := owns_form hP.row)
  obtain ⟨N, hN⟩ : ∃ N, Hid (ps.length = N) := ⟨_, rfl⟩
  rw [hN.out] at hP ⊢
  have bb := keepF hb (box_below u (.cells #[.int .i64 z0, .int .i64 z1, .int .i64 z2, .int .u32 z3, .int .i64 z4] 28))
  have P0 := hide (hP.below (box_below u (.cells #[.int .i64 z0, .int .i64 z1, .int .i64 z2, .int .u32 z3, .int .i64 z4] 28)))
  have r0 : Hid ((u.alloc (.cells #[.int .i64 z0, .int .i64 z1, .int .i64 z2, .int .u32 z3, .int .i64 z4] 28)).heap[w.heap.size]? = some (.cells #[.int .i64 0, .slice none 0 0] 41 (0, 0))) := (bb.block w.heap.size (by simp)).trans (heap_alloc_new _ _)
  have B0 := hide (keepF (box_below w (.cells #[.int .i64 0, .slice none 0 0] 41)) bb)
  have hNl : Hid (N ≤ 1099511627776) := by
    show _ ≤ _
    have h1 := evP_len hx
    have h2 := congrArg List.length hps
    simp at h2
    rw [← hN.out]; omega
  replace hps := hide hps
  revert P0 r0 B0
  generalize u.alloc (.cells #[.int .i64 z0, .int .i64 z1, .int .i64 z2, .int .u32 z3, .int .i64 z4] 28) = W0
  intro P0 r0 B0
  clear bb hP hb CA hx
  go_loopw [13] (fun vi wz => ∃ i : Nat, vi = .int .i64 (i : Int) ∧ i ≤ N ∧ Hid (wz = W0) ∧ Hid (∀ x ∈ xs.take i, (x.n : Int) ≠ lsn)) (fun vi _ => N - (intOf vi).toNat)
  case atStart => exact ⟨0, rfl, Nat.zero_le _, hide rfl, fun x hx => by simp at hx⟩
  case round =>
    obtain ⟨i, rfl, hi, hwz, hne⟩ := hrel
    have hwz' := hwz.out.symm
    subst hwz'
    clear hwz
    by_cases hlt : i < N
    · obtain ⟨g, rfl, hcs⟩ := P0.out.cells hN.out (by omega)
      have hip : i < ps.length := by rw [hN.out]; exact hlt
      obtain ⟨c0, c1, c2⟩ := hcs i hip
      have hdat := hide (P0.out.data ps[i] (List.getElem_mem hip))
      have hxi : Hid (xs[i]? = some ps[i].1) := by show _ = _; rw [← hps.out]; simp [hip]
      obtain ⟨x, vi, hpi⟩ : ∃ x vi, ps[i] = (x, vi) := ⟨_, _, rfl⟩
      rw [hpi] at c0 c1 c2 hdat hxi
      simp only at c0 c1 c2 hdat hxi
      have l1 : (i : Int) < (N : Int) := by omega
      have l0 : (0 : Int) ≤ (i : Int) := by omega
      obtain ⟨dn, hdn⟩ : ∃ dn, Hid ((dat L x).length = dn) := ⟨_, rfl⟩
      rw [hdn.out] at hdat
      obtain ⟨av, cv', rfl⟩ := owns_form hdat.out
      by_cases hx : (x.n : Int) = lsn
      · subst hx
        have hFx : F = ((x.n : Int), dat L x, (x.e : Int), 0) := by
          rw [← hF.out]
          refine fndF_some (p := xs.take i) ?_ hne.out rfl
          obtain ⟨h1, h2⟩ := List.getElem?_eq_some_iff.1 hxi.out
          rw [← h2, ← List.take_succ_eq_append_getElem h1]; exact List.take_prefix _ _
        subst hFx
        obtain ⟨s0, s1, t0, t1⟩ := two_cells r0.out
        have hP0 := hide (put2_heap r0.out (.int .i64 (x.n : Int)) (.slice av dn cv'))
        have hOw := hide ((owns_lower hdat.out (show w.heap.size ≤ _ by simp)).kept (put2_grown W0 w.heap.size (.int .i64 (x.n : Int)) (.slice av dn cv')) (.inr (owns_no hdat.out r0.out (by decide))))
        have hBw := hide (B0.out.grown (put2_grown W0 w.heap.size (.int .i64 (x.n : Int)) (.slice av dn cv')) B0.out.size (fun k e => by cases e; exact Nat.le_refl _))
        have hgn : ¬ g = w.heap.size := fun e => owns_no P0.out.row r0.out (by decide) (by simp [Value.ownBlock, e])
        have hgn2 : ¬ w.heap.size = g := fun e => hgn e.symm
        go_wp2_with fail
        go_region
        go_wp2_with fail
        have e1 : (put2 W0 w.heap.size (.int .i64 (x.n : Int)) (.slice av dn cv')).drew.heap[w.heap.size]? = some (.cells #[.int .i64 (x.n : Int), .slice av dn cv'] 41 (0, 0)) := hP0.out
        have e2 := hOw.out.drew
        have e3 := hBw.out.drew
        unfold put2 at e1 e2 e3
        clear s0 s1 t0 t1 c0 c1 c2
        obtain ⟨s0, s1, -, -⟩ := two_cells e1
        refine bodyPost_ret (by simp [results, Try.results12, go_sem, s0, s1]; rfl) rfl ?_
        exact ⟨.slice av dn cv', rfl, by rw [hdn.out]; exact e2, e3⟩
      · have hxb : ((x.n : Int) == lsn) = false := by simpa using hx
        have hne2 : Hid (∀ x ∈ xs.take (i + 1), (x.n : Int) ≠ lsn) := fun x' hx' => by
          obtain ⟨h1, h2⟩ := List.getElem?_eq_some_iff.1 hxi.out
          rw [List.take_succ_eq_append_getElem h1, List.mem_append, List.mem_singleton, h2] at hx'
          rcases hx' with h | rfl
          · exact hne.out x' h
          · exact hx
        have hNl' : (i : Int) + 1 ≤ 9223372036854775807 := by have := hNl.out; omega
        go_wp2_with fail
        go_roundw
        case rel => exact ⟨i + 1, by go_num, by omega, hide trivial, hne2⟩
        case measure => simp [intOf]; omega
    · obtain rfl : F = (0, [], 0, 6) := by
        rw [← hF.out]
        refine fndF_none fun x hx => hne.out x ?_
        rwa [List.take_of_length_le (by have := congrArg List.length hps.out; simp at this; have := hN.out; omega)]
      have hl' : ¬ (i : Int) < (N : Int) := by omega
      obtain ⟨s0, s1, t0, t1⟩ := two_cells r0.out
      have hP0 := hide (put2_heap r0.out (.int .i64 0) (.slice none 0 0))
      have hBw := hide (B0.out.grown (put2_grown W0 w.heap.size (.int .i64 0) (.slice none 0 0)) B0.out.size (fun k e => by cases e; exact Nat.le_refl _))
      go_wp2_with fail
      have e1 := hP0.out
      have e3 := hBw.out
      unfold put2 at e1 e3
      clear s0 s1 t0 t1
      obtain ⟨s0, s1, -, -⟩ := two_cells e1
      refine bodyPost_ret (by simp [results, Try.results12, go_sem, s0, s1]; rfl) rfl ?_
      exact ⟨.slice none 0 0, rfl, World.ownsRow_nil _ _ _ _, e3⟩

end Go.Proofs.Ytebhkdaefjmbnaa
