/-
  Entries and Cut: the program's.
-/
import Derived.Test.YtoffahbnffhliaaIxE
import Derived.Maps.AppendAt
namespace Go.Proofs.Ytoffahbnffhliaa.Ix
open Go.RowKit

theorem Ents.news {w : World} {g n ca : Nat} {l : List (Int × Int)} (h : Ents w (.slice (some ⟨g, 0, none⟩) n ca) l) : ∀ j u, (ecells l)[j]? = some u → w.cell? ((⟨g, 0, none⟩ : Addr).add j) = some u := by
  intro j u hu
  rw [addr_add, Nat.zero_add]
  rcases h.2 with ⟨e, _⟩ | ⟨g', cap, cur, e, _, hh, a, b, c, d⟩
  · simp at e
  · simp at e
    obtain ⟨rfl, rfl, rfl⟩ := e
    have hj : j < l.length * 2 := by
      have := (List.getElem?_eq_some_iff.1 hu).1
      rw [ecells_len] at this
      exact this
    rw [← d, List.getElem?_take_of_lt hj] at hu
    simpa [World.cell?, hh] using hu
theorem ents_low {w : World} {B : Nat} {v : Value} {l : List (Int × Int)} (h : w.ownsRow B 35 2 v l.length (ecells l)) : Ents w v l := by
  refine ⟨h.1, ?_⟩
  rcases h.2 with h | ⟨g, cap, cur, rfl, hg, r⟩
  · exact .inl h
  · exact .inr ⟨g, cap, cur, rfl, Nat.zero_le _, r⟩
theorem ecells_one (l : List (Int × Int)) : ∀ u ∈ ecells l, u.oneCell' = true := by
  intro u hu
  simp only [ecells, List.mem_flatMap] at hu
  obtain ⟨e, _, hu⟩ := hu
  simp at hu
  rcases hu with rfl | rfl <;> rfl
set_option maxHeartbeats 1000000 in
theorem clone_any (w : World) (v : Value) (l : List (Int × Int)) (hv : Ents w v l) (hl : l.length ≤ 2147483648) :
    Calls Try.prog 41 #[v] w fun e w' => ∃ v', e = .returned v' ∧ Ents w' v' l ∧ Below w.heap.size w w' ∧ (∀ k, v'.ownBlock = some k → w.heap.size ≤ k) := by
  have he := fun (u : World) (ao : Option Addr) (n c n' c' : Nat) => Lib.run_eql_slice_nil (P := Try.prog) u 36 35 ao n c n' c' Try.underlying36
  rcases id hv.2 with ⟨rfl, e⟩ | ⟨g, cap, cur, rfl, _⟩
  · have hl0 : l = [] := List.length_eq_zero_iff.1 e
    subst hl0
    clear hv
    go_enter Try.func41, Try.ntmps41
    go_wp2_with fail
    go_ret
    exact ⟨_, rfl, Ents.nil _, Below.refl _ _, fun k hk => by simp [Value.ownBlock] at hk⟩
  · have HN := hide (fun o => (hv.below (box_below w o)).news)
    obtain ⟨i0, hi, hz0, hz1, hz2⟩ := info_parts infoEnt
    have OWN := hide (World.ownsRow_made (base := w.heap.size) (e := 35) (size := 2) w #[] 0 (Nat.le_refl _) (Nat.zero_le _) rfl)
    have hcl := hide (ecells_len l)
    have hlen := hide hl
    obtain ⟨N, hN⟩ : ∃ N, Hid (l.length = N) := ⟨_, rfl⟩
    rw [hN.out] at hcl hl ⊢
    clear hv
    go_enter Try.func41, Try.ntmps41
    go_wp2_with (at_builtin; refine wpList_append_own_at _ rfl (.tmp 5) (.tmp 6) 36 rfl w.heap.size 35 i0 (.agg #[.int .i64 0, .int .i64 0]) 2 16 Try.underlying36 hi hz0 hz1 hz2 rfl (by decide) _ 0 [] rfl OWN.out ⟨g, 0, none⟩ N cap (ecells l) rfl hcl.out (HN.out _) (ecells_one l) (by unfold maxLen; omega) (by omega) (by simp) ?_; intro v' w1 hown' hgrow hnil hat; rw [List.nil_append, Nat.zero_add] at hown'; replace hown' := hide hown'; have hgr := hide hgrow; clear hgrow hnil hat)
    go_ret
    refine ⟨_, rfl, ents_low (B := w.heap.size) (by rw [hN.out]; exact hown'.out), ?_, fun k hk => (hown'.out.lt k hk).1⟩
    exact Below.grown (box_below w _) hgr.out (by simp) (fun k hk => by cases hk; exact Nat.le_refl _)
theorem entries_any (w : World) (b : Nat) (x : X) (v : Value) (h : At TI w b x v) (hk : Ok x) :
    Calls Try.prog 22 #[.pointer (some ⟨b, 0, none⟩)] w fun e w' => ∃ v', e = .returned v' ∧ Ents w' v' x.l ∧ Below w.heap.size w w' ∧ (∀ k, v'.ownBlock = some k → w.heap.size ≤ k) := by
  obtain ⟨c0, c1, _, _⟩ := h.cells
  have HR := hide h.row
  have hlen := hide hk.srt.len
  obtain ⟨ao, ca, rfl, _, _⟩ := h.row.form
  clear h hk
  obtain ⟨N, hN⟩ : ∃ N, Hid (x.l.length = N) := ⟨_, rfl⟩
  rw [hN.out] at HR c1
  go_enter Try.func22, Try.ntmps22
  go_wp2_with fail
  refine (clone_any _ _ x.l HR.out hlen.out).mono ?_
  rintro e w1 ⟨v', rfl, h1, h2, h3⟩
  replace h1 := hide h1
  replace h2 := hide h2
  replace h3 := hide h3
  go_wp2_with fail
  go_ret
  exact ⟨_, rfl, h1.out, h2.out, h3.out⟩
/-- What Cut owes. -/
def DoesCut (T : TypeId) (f : Nat) : Prop := ∀ (w : World) (b : Nat) (x : X) (v : Value) (n : Int), At T w b x v → Ok x → -9223372036854775808 ≤ n → n ≤ 9223372036854775807 →
  Calls Try.prog f #[.pointer (some ⟨b, 0, none⟩), .int .i64 n] w fun e w' => e = .returned (.int .i64 ((cutF x n).1 : Int)) ∧ ∃ v', At T w' b (cutF x n).2 v' ∧ But (Own b v) w w' ∧ (∀ k, v'.ownBlock = some k → v.ownBlock = some k)
set_option maxHeartbeats 2000000 in
theorem cut_any : DoesCut TI 15 := by
  intro w b x v n h hk n0 n1
  obtain ⟨c0, c1, c2, c3⟩ := h.cells
  have H := hide h
  have HK := hide hk
  have hlen := hk.srt.len
  by_cases hl : x.l = []
  · have hA : Hid (cutF x n = (0, x)) := by show _ = _; rw [cutF, if_pos (.inl hl)]
    obtain ⟨ao, ca, rfl, _, _⟩ := h.row.form
    rw [hl] at c1
    simp only [List.length_nil] at c1
    clear h hk
    go_enter Try.func15, Try.ntmps15
    go_wp2_with fail
    go_ret
    rw [hA.out]
    exact ⟨rfl, _, H.out, But.refl _ _, fun k hk => hk⟩
  · obtain ⟨g, ca, rfl, hc, q1, q2, _⟩ := h.row.at hl
    have hp := List.length_pos_iff.2 hl
    by_cases hla : x.la.1 < n
    · have hA : Hid (cutF x n = (0, x)) := by show _ = _; rw [cutF, if_pos (.inr hla)]
      obtain ⟨N, hN⟩ : ∃ N, Hid (x.l.length = N) := ⟨_, rfl⟩
      rw [hN.out] at H c1 hp hlen q1 ⊢
      have hne : ¬ ((N : Int) = 0) := by omega
      have hb0 : ((N : Int) == 0) = false := by simpa using hne
      clear h hk hc hl
      go_enter Try.func15, Try.ntmps15
      go_wp2_with fail
      go_ret
      rw [hA.out]
      exact ⟨rfl, _, H.out, But.refl _ _, fun k hk => hk⟩
    · have hA : Hid (cutF x n = (x.l.length - cnt x.l n, ⟨x.st, x.l.take (cnt x.l n), lastE (x.l.take (cnt x.l n))⟩)) := by
        show _ = _
        rw [cutF, if_neg (by simp [hl, hla])]
      have hcl := cnt_le x.l n
      have HC := hide hc
      obtain ⟨N, hN⟩ : ∃ N, Hid (x.l.length = N) := ⟨_, rfl⟩
      rw [hN.out] at H c1 hp hlen q1 hcl hA ⊢
      have hne : ¬ ((N : Int) = 0) := by omega
      have hb0 : ((N : Int) == 0) = false := by simpa using hne
      clear h hk hc hl
      go_enter Try.func15, Try.ntmps15
      go_wp2_with fail
      refine (below_any _ b x _ n H.out HK.out).mono ?_
      rintro e w2 ⟨rfl, b2⟩
      have hB := hide b2
      have H2 := hide (H.out.below b2)
      generalize isAt x.l n = iz
      clear b2 c0 c1 c2 c3
      obtain ⟨C, hC⟩ : ∃ C, Hid (cnt x.l n = C) := ⟨_, rfl⟩
      rw [hC.out] at hcl hA ⊢
      obtain ⟨c0, c1, c2, c3⟩ := H2.out.cells
      obtain ⟨f0, f1, f2, f3⟩ := H2.out.frozen
      have E3 : Hid (Ents w2 (.slice (some ⟨g, 0, none⟩) C ca) (x.l.take C)) := H2.out.row.take C (by rw [hN.out]; exact hcl)
      have H3 := hide (H2.out.setV (by decide) E3.out)
      have hCc : C ≤ ca := by omega
      have hw2 : IntKind.i64.wrap ((N : Int) - (C : Int)) = (N : Int) - (C : Int) := by rw [IntKind.wrap_i64]; omega
      have hB3 := hide (but_v w2 b (.slice (some ⟨g, 0, none⟩) C ca) (.slice (some ⟨g, 0, none⟩) N ca))
      by_cases hz : C = 0
      · subst hz
        have hl0 : Hid (lastE (x.l.take 0) = (0, 0)) := rfl
        go_wp2_with fail
        go_ret
        rw [hA.out]
        refine ⟨by simp, .slice (some ⟨g, 0, none⟩) 0 ca, ?_, ((But.of_below hB.out _).trans hB3.out).trans (but_la _ _ _ _ _), fun k hk => hk⟩
        exact H3.out.setLa (by decide) 0 0
      · obtain ⟨M, rfl⟩ : ∃ M, C = M + 1 := ⟨C - 1, by omega⟩
        have hM : M < x.l.length := by rw [hN.out]; omega
        obtain ⟨k0, k1⟩ := HC.out M hM
        have gB := hB.out.cell (lt_of_cell k0)
        have gB1 := hB.out.cell (lt_of_cell k1)
        rw [k0] at gB
        rw [k1] at gB1
        have hl0 : Hid (lastE (x.l.take (M + 1)) = x.l[M]) := by
          show _ = _
          rw [lastE, List.getLast?_eq_getElem?]
          have : (x.l.take (M + 1)).length - 1 = M := by simp; omega
          rw [this, List.getElem?_take_of_lt (by omega), List.getElem?_eq_getElem hM]
          rfl
        rw [hl0.out] at hA
        have hgb : g ≠ b := fun e => by have := H2.out.row.no H2.out.box (by decide); exact this (by rw [e]; rfl)
        generalize x.l[M] = en at *
        obtain ⟨e1, e2⟩ := en
        simp only at gB gB1 hA
        have hw3 : IntKind.i64.wrap (M : Int) = (M : Int) := by rw [IntKind.wrap_i64]; omega
        clear k0 k1
        replace hM := hide hM
        go_wp2_with fail
        go_ret
        rw [hA.out]
        refine ⟨?_, .slice (some ⟨g, 0, none⟩) (M + 1) ca, ?_, (((But.of_below hB.out _).trans hB3.out).trans (but_la _ _ _ _ _)).trans (but_la _ _ _ _ _), fun k hk => hk⟩
        · show Ending.returned (Value.int .i64 ((N : Int) - ((M : Int) + 1))) = Ending.returned (Value.int .i64 ((N - (M + 1) : Nat) : Int))
          rw [show ((N - (M + 1) : Nat) : Int) = (N : Int) - ((M : Int) + 1) by omega]
        · exact (H3.out.setLa (by decide) 0 0).setLa (by decide) e1 e2
#print axioms cut_any
end Go.Proofs.Ytoffahbnffhliaa.Ix
