/-
  The document's Add and Find.
-/
import Derived.Test.YtoffahbnffhliaaIxG
import Derived.Deep.RegionHeld
import Derived.Test.YtoffahbnffhliaaRws
import Derived.Deep.Strs
import Derived.Deep.Slices
import Derived.Test.YtoffahbnffhliaaIxV
namespace Go.Proofs.Ytoffahbnffhliaa.Ix
open Go.RowKit

set_option maxHeartbeats 4000000 in
theorem refAdd_any : DoesAdd TR 12 := by
  intro w b x v n o h hk n0 n1 o0 o1
  obtain ⟨c0, c1, c2, c3⟩ := h.cells
  obtain ⟨f0, f1, f2, f3⟩ := h.frozen
  have s0 := hk.srt.s0
  have s1 := hk.srt.s1
  by_cases ha : n < 1 ∨ o < 0 ∨ 2147483647 < o
  · have hA : Hid (addF x n o = (1, x)) := by show _ = _; rw [addF, if_pos ha]
    have H := hide h
    clear h
    go_enter Try.func12, Try.ntmps12
    by_cases a1 : n < 1
    · go_wp2_with fail
      go_ret
      rw [hA.out]
      exact ⟨rfl, v, H.out, But.refl _ _, fun k hk => .inl hk⟩
    by_cases a2 : o < 0
    · go_wp2_with fail
      go_ret
      rw [hA.out]
      exact ⟨rfl, v, H.out, But.refl _ _, fun k hk => .inl hk⟩
    · have a3 : 2147483647 < o := by omega
      go_wp2_with fail
      go_ret
      rw [hA.out]
      exact ⟨rfl, v, H.out, But.refl _ _, fun k hk => .inl hk⟩
  · have a1 : ¬ n < 1 := by omega
    have a2 : ¬ o < 0 := by omega
    have a3 : ¬ 2147483647 < o := by omega
    have H := hide h
    have HA := hide ha
    obtain ⟨ao, ca, rfl, q1, q2⟩ := h.row.form
    have hlen := hk.srt.len
    obtain ⟨z1, z2, z3, z4, z5⟩ := hk.la
    have Z5 := hide z5
    obtain ⟨z, hz⟩ : ∃ z, Hid (z = decide (x.l ≠ [] ∧ ¬ (n - 1 = x.la.1 ∧ x.la.2 < o))) := ⟨_, rfl⟩
    obtain ⟨N, hN⟩ : ∃ N, Hid (x.l.length = N) := ⟨_, rfl⟩
    rw [hN.out] at H hlen c1 q2 ⊢
    have HK := hide hk
    have hw1 : IntKind.i64.wrap (n - 1) = n - 1 := by rw [IntKind.wrap_i64]; omega
    clear ha h hk z5
    obtain ⟨p1, hp1⟩ : ∃ p1, Hid (x.la.1 = p1) := ⟨_, rfl⟩
    obtain ⟨p2, hp2⟩ : ∃ p2, Hid (x.la.2 = p2) := ⟨_, rfl⟩
    rw [hp1.out] at c2 z1 z3 Z5 hz
    rw [hp2.out] at c3 z2 z4 hz
    go_enter Try.func12, Try.ntmps12
    go_upto_region 3 with fail
    go_cut [41] from 7 to 40 (fun y wx => y = .bool z ∧ w = wx)
    case first =>
      by_cases hl : x.l = []
      · have hp0 : p1 = 0 := Z5.out.1 hl
        have hz' : Hid (z = false) := by show _ = _; rw [hz.out]; simp [hl]
        subst hp0
        go_wp2_with fail
        go_meet
        case rel => exact ⟨by rw [hz'.out], rfl⟩
      · have hpp : 0 < p1 := by have : p1 ≠ 0 := fun e => hl (Z5.out.2 e); omega
        by_cases e1 : n - 1 = p1
        · subst e1
          by_cases e2 : p2 < o
          · have hz' : Hid (z = false) := by show _ = _; rw [hz.out]; exact decide_eq_false (by simp [e2])
            have e3 : ¬ o ≤ p2 := by omega
            go_wp2_with fail
            go_meet
            case rel => exact ⟨by rw [hz'.out], rfl⟩
          · have hz' : Hid (z = true) := by show _ = _; rw [hz.out]; exact decide_eq_true ⟨hl, fun c => e2 c.2⟩
            have e3 : o ≤ p2 := by omega
            go_wp2_with fail
            go_meet
            case rel => exact ⟨by rw [hz'.out], rfl⟩
        · have hz' : Hid (z = true) := by show _ = _; rw [hz.out]; exact decide_eq_true ⟨hl, fun c => e1 c.1⟩
          go_wp2_with fail
          go_meet
          case rel => exact ⟨by rw [hz'.out], rfl⟩
    case rest =>
      obtain ⟨rfl, rfl⟩ := hcut
      rw [← hp1.out, ← hp2.out] at hz
      by_cases hzt : x.l ≠ [] ∧ ¬ (n - 1 = x.la.1 ∧ x.la.2 < o)
      · have hA : Hid (addF x n o = (63, x)) := by show _ = _; rw [addF, if_neg HA.out, if_pos hzt]
        obtain rfl : z = true := by rw [hz.out]; exact decide_eq_true hzt
        go_wp2_with fail
        go_ret
        rw [hA.out]
        exact ⟨rfl, _, H.out, But.refl _ _, fun k hk => .inl hk⟩
      · have hA : Hid (addF x n o = (0, ⟨x.st, if x.l = [] ∨ (x.st : Int) ≤ o - (lastE x.l).2 then x.l ++ [(n, o)] else x.l, (n, o)⟩)) := by show _ = _; rw [addF, if_neg HA.out, if_neg hzt]
        obtain rfl : z = false := by rw [hz.out]; exact decide_eq_false hzt
        have A1 := hide (H.out.setLa (by decide) n o)
        have B1 := hide (but_la w b (.int .i64 n) (.int .i64 o) (.slice ao N ca))
        clear hzt hz
        go_upto_region 6 with fail
        show Code.wp _ _ _ _ ((w.setCell ⟨b, 2, none⟩ (.int .i64 n)).setCell ⟨b, 3, none⟩ (.int .i64 o))
        generalize (w.setCell ⟨b, 2, none⟩ (.int .i64 n)).setCell ⟨b, 3, none⟩ (.int .i64 o) = w1 at *
        clear c0 c1 c2 c3 f0 f1 f2 f3
        obtain ⟨d0, d1, d2, d3⟩ := A1.out.cells
        simp only at d0 d2 d3
        go_cut [75] from 42 to 74 (fun y wx => y = .bool (farF x o) ∧ Hid (At TR wx b ⟨x.st, x.l, (n, o)⟩ (.slice ao N ca) ∧ But (Own b (.slice ao N ca)) w wx))
        case first =>
          by_cases hl : x.l = []
          · have hf : Hid (farF x o = true) := by show _ = _; simp [farF, hl]
            have hN0 : N = 0 := by rw [← hN.out, hl]; rfl
            subst hN0
            go_quiet (fail)
            go_wp2_with fail
            go_meet
            case rel => exact ⟨by rw [hf.out], A1.out.below (Qt.below ⟨_, rfl⟩ _), B1.out.trans (But.of_below (Qt.below ⟨_, rfl⟩ _) _)⟩
          · have hp := List.length_pos_iff.2 hl
            obtain ⟨M, hM⟩ : ∃ M, x.l.length = M + 1 := ⟨x.l.length - 1, by omega⟩
            have hMl : M < x.l.length := by omega
            obtain ⟨g, rfl, k0, k1⟩ := A1.out.row.rd M hMl
            have hle : lastE x.l = x.l[M] := by rw [lastE_get hl]; congr 1; omega
            have hr := HK.out.srt.rng _ (List.getElem_mem hMl)
            have hf : Hid (farF x o = decide ((x.st : Int) ≤ o - x.l[M].2)) := by show _ = _; unfold farF; rw [hle]; simp [hl]
            simp only at k0 k1
            generalize x.l[M] = en at *
            obtain ⟨e1, e2⟩ := en
            simp only at k0 k1 hf hr
            obtain ⟨r1, r2, r3, r4⟩ := hr
            rw [hN.out] at hM
            subst hM
            have hw2 : IntKind.i64.wrap (o - e2) = o - e2 := by rw [IntKind.wrap_i64]; omega
            have hne : ¬ ((M : Int) + 1 = 0) := by omega
            have hw3 : IntKind.i64.wrap (M : Int) = (M : Int) := by rw [IntKind.wrap_i64]; omega
            have hb0 : ((M : Int) + 1 == 0) = false := by simpa using hne
            obtain ⟨st, hst⟩ : ∃ st, Hid (x.st = st) := ⟨_, rfl⟩
            rw [hst.out] at d0 hf
            clear hle hp hl
            replace hMl := hide hMl
            go_quiet (fail)
            go_wp2_with fail
            go_meet
            case rel => exact ⟨by rw [hf.out], A1.out.below (Qt.below ⟨_, rfl⟩ _), B1.out.trans (But.of_below (Qt.below ⟨_, rfl⟩ _) _)⟩
        case rest =>
          obtain ⟨rfl, hcut⟩ := hcut
          have A2 := hide hcut.out.1
          have B2 := hide hcut.out.2
          clear hcut A1 B1 d0 d1 d2 d3
          obtain ⟨d0, d1, d2, d3⟩ := A2.out.cells
          obtain ⟨e0, e1, e2, e3⟩ := A2.out.frozen
          simp only at d0 d2 d3
          by_cases hf : x.l = [] ∨ (x.st : Int) ≤ o - (lastE x.l).2
          · rw [if_pos hf] at hA
            have hff : farF x o = true := by simpa [farF] using hf
            rw [hff]
            clear hf hff
            obtain ⟨i0, hi, hz0, hz1, hz2⟩ := info_parts infoEnt
            have ROW : Hid (wc.ownsRow 0 35 2 (.slice ao N ca) N (ecells x.l)) := by have := A2.out.row; unfold Ents at this; rw [hN.out] at this; exact this
            have hbl2 : b < wc.heap.size := lt_of_cell d0
            go_wp2_with fail
            go_region_law (first | (refine step_append_lies _ rfl (.tmp 80) (.tmp 85) 36 rfl 0 35 i0 (.agg #[.int .i64 0, .int .i64 0]) 2 16 Try.underlying36 hi hz0 hz1 hz2 rfl (by decide) (.slice ao N ca) N (ecells x.l) (by simp [Act.eval]) (ROW.out.alloc _) ⟨wc.heap.size, 0, none⟩ 1 1 [.int .i64 n, .int .i64 o] (by simp [Act.eval]) rfl (two_newE _ _ _ _) (by simp [Value.oneCell']) (by decide) (by unfold maxLen; omega) (by omega) (Nat.zero_le _) (wc.heap.size + 1) (by simp) ?_; intro g2 cap2 w3 hown3 hgrow3 hat hlt3; obtain ⟨F1, F2, F3, F4⟩ := At.app A2.out (by decide) (by first | exact (box_below wc _).drew | exact (box_below wc.drew _) | exact box_below wc _) hgrow3 (by rw [hN.out]; exact hown3) (hat_of hat (by omega)); have cc3 := (show w3.cell? ⟨b, 1, none⟩ = some (.slice ao N ca) by simp [World.cell?, F1]); have ff3 := (show w3.frozen? ⟨b, 1, none⟩ = false by simp [World.frozen?, F1])))
            all_goals
              clear d0 d1 d2 d3 e0 e1 e2 e3 cc3 ff3 F1 hown3 hgrow3 hat hlt3 ROW hbl2
              replace F3 := hide F3
              replace F4 := hide F4
              replace F2 := hide F2
              generalize w3.setCell ⟨b, 1, none⟩ (.slice (some ⟨g2, 0, none⟩) (N + 1) cap2) = w4 at *
              go_wp2_with fail
              go_ret
              rw [hA.out]
              exact ⟨rfl, _, F2.out, B2.out.trans F3.out, fun k hk => (F4.out k hk).imp id fun h => Nat.le_trans B2.out.size h⟩
          · rw [if_neg hf] at hA
            have hff : farF x o = false := by simpa [farF] using hf
            rw [hff]
            clear hf hff
            go_wp2_with fail
            go_ret
            rw [hA.out]
            exact ⟨rfl, _, A2.out, B2.out, fun k hk => .inl hk⟩
#print axioms refAdd_any
set_option maxHeartbeats 1000000 in
theorem refFind_any : DoesFind TR 14 := by
  intro w b x v n h hk n0 n1
  obtain ⟨ao, ca, rfl, q1, q2⟩ := h.row.form
  have H1 := hide (h.below (box_below w (.cells #[.int .i64 0, .int .i64 0] 35)))
  have hlen := hk.srt.len
  obtain ⟨N, hN⟩ : ∃ N, Hid (x.l.length = N) := ⟨_, rfl⟩
  rw [hN.out] at H1 hlen q2
  have hh : Hid ((w.alloc (.cells #[.int .i64 0, .int .i64 0] 35)).heap[w.heap.size]? = some (.cells #[.int .i64 0, .int .i64 0] 35 (0, 0))) := heap_alloc_new _ _
  have hB : Hid (Below w.heap.size w (w.alloc (.cells #[.int .i64 0, .int .i64 0] 35))) := box_below _ _
  obtain ⟨d0, d1, _, _⟩ := H1.out.cells
  obtain ⟨x0, x1, y0, y1⟩ := two_cells hh.out
  clear h hk
  go_enter Try.func14, Try.ntmps14
  have hw1 : IntKind.i64.wrap ((N : Int) - 1) = (N : Int) - 1 := by rw [IntKind.wrap_i64]; omega
  go_wp2_with fail
  generalize hw1 : w.alloc (.cells #[.int .i64 0, .int .i64 0] 35) = w1 at *
  have fin : ∀ (tm : Array Value) (F : (Int × Int) × Bool), Hid (findF x.l n = F) → tm[4]? = some (.pointer (some ⟨w.heap.size, 0, none⟩)) → tm[5]? = some (.bool F.2) →
      bodyPost Try.prog Try.f14 (fun e w' => e = .returned (.tuple #[entv (findF x.l n).1, .bool (findF x.l n).2]) ∧ Below w.heap.size w w') .ret ⟨tm, []⟩ (put2 w1 w.heap.size (.int .i64 F.1.1) (.int .i64 F.1.2)) := by
    intro tm F hF t4 t5
    obtain ⟨k0, k1, _, _⟩ := two_cells (put2_heap hh.out (.int .i64 F.1.1) (.int .i64 F.1.2))
    refine bodyPost_ret (by simp [results, Try.results14, go_sem, k0, k1, t4, t5]; rfl) rfl ?_
    rw [hF.out]
    exact ⟨rfl, put2_below hB.out (Nat.le_refl _) _ _⟩
  replace fin := hide fin
  clear hw1
  go_loopw [6] (fun vi wr => ∃ i : Nat, i ≤ N ∧ vi = .int .i64 ((i : Int) - 1) ∧ Hid (∀ j (hj : j < x.l.length), i ≤ j → n < x.l[j].1) ∧ w1 = wr) (fun vi _ => (intOf vi + 1).toNat)
  case atStart => exact ⟨N, Nat.le_refl _, by go_num, fun j hj hij => by rw [hN.out] at hj; omega, rfl⟩
  case round =>
    obtain ⟨i, hi, rfl, hA, rfl⟩ := hrel
    by_cases hi0 : i = 0
    · subst hi0
      have hF := hide (find_no (fun j hj => hA.out j hj (Nat.zero_le _)))
      go_wp2_with fail
      exact fin.out _ ((0, 0), false) hF.out (by simp) (by simp)
    · obtain ⟨M, rfl⟩ : ∃ M, i = M + 1 := ⟨i - 1, by omega⟩
      have hM : M < x.l.length := by rw [hN.out]; omega
      obtain ⟨g, ca', ev, hc, _, _, _⟩ := H1.out.row.at (fun c => by rw [c] at hM; simp at hM)
      simp only [Value.slice.injEq] at ev
      obtain ⟨rfl, _, rfl⟩ := ev
      obtain ⟨k0, k1⟩ := hc M hM
      have hF1 : Hid (x.l[M].1 ≤ n → findF x.l n = (x.l[M], true)) := fun hle => find_at hM hle fun j hj hij => hA.out j hj (by omega)
      have hF2 : Hid (n < x.l[M].1 → ∀ j (hj : j < x.l.length), M ≤ j → n < x.l[j].1) := fun hlt j hj hij => by
        by_cases e : j = M
        · subst e; exact hlt
        · exact hA.out j hj (by omega)
      clear hc hA
      generalize x.l[M] = en at *
      obtain ⟨e1, e2⟩ := en
      simp only at k0 k1 hF1 hF2
      have hMN : M < N := by omega
      have hw2 : IntKind.i64.wrap (M : Int) = (M : Int) := by rw [IntKind.wrap_i64]; omega
      have hw3 : IntKind.i64.wrap ((M : Int) - 1) = (M : Int) - 1 := by rw [IntKind.wrap_i64]; omega
      replace hM := hide hM
      by_cases hle : e1 ≤ n
      · have hF := hide (hF1.out hle)
        go_wp2_with fail
        exact fin.out _ ((e1, e2), true) hF.out (by simp) (by simp)
      · have hF := hide (hF2.out (by omega))
        go_wp2_with fail
        go_roundw
        case rel => exact ⟨M, by omega, by go_num, hF.out, by trivial⟩
        case measure => simp [intOf]
#print axioms refFind_any
end Go.Proofs.Ytoffahbnffhliaa.Ix

/-
  The document's Cut.
-/
namespace Go.Proofs.Ytoffahbnffhliaa.Ix
open Go.RowKit

theorem take_pred (l : List (Int × Int)) (n : Nat) : (l.take (n + 1)).take n = l.take n := by rw [List.take_take]; congr 1; omega
set_option maxHeartbeats 8000000 in
theorem refCut_any : DoesCut TR 16 := by
  intro w b x v n h hk n0 n1
  obtain ⟨c0, c1, c2, c3⟩ := h.cells
  have H := hide h
  have HK := hide hk
  have hlen := hk.srt.len
  obtain ⟨z1, z2, z3, z4, z5⟩ := hk.la
  obtain ⟨p1, hp1⟩ : ∃ p1, Hid (x.la.1 = p1) := ⟨_, rfl⟩
  rw [hp1.out] at c2 z1 z3 z5
  replace z5 := hide z5
  obtain ⟨ao, ca, rfl, q1, q2⟩ := h.row.form
  by_cases hl : x.l = []
  · have hA : Hid (cutF x n = (0, x)) := by show _ = _; rw [cutF, if_pos (.inl hl)]
    have hp0 : p1 = 0 := z5.out.1 hl
    subst hp0
    clear h hk
    go_enter Try.func16, Try.ntmps16
    go_wp2_with fail
    go_ret
    rw [hA.out]
    exact ⟨rfl, _, H.out, But.refl _ _, fun k hk => by cases ao <;> exact hk⟩
  have hpp : ¬ p1 = 0 := fun e => hl (z5.out.2 e)
  have hb0 : (p1 == 0) = false := by simpa using hpp
  by_cases hla : p1 < n
  · have hA : Hid (cutF x n = (0, x)) := by show _ = _; rw [cutF, if_pos (.inr (by rw [hp1.out]; exact hla))]
    clear h hk
    go_enter Try.func16, Try.ntmps16
    go_wp2_with fail
    go_ret
    rw [hA.out]
    exact ⟨rfl, _, H.out, But.refl _ _, fun k hk => hk⟩
  have hA : Hid (cutF x n = (x.l.length - cnt x.l n, ⟨x.st, x.l.take (cnt x.l n), lastE (x.l.take (cnt x.l n))⟩)) := by
    show _ = _
    rw [cutF, if_neg (by rw [hp1.out]; simp [hl, hla])]
  have SP := hide (cnt_split hk.srt n)
  have hcl := cnt_le x.l n
  obtain ⟨g, hg⟩ : ∃ g, ao = some ⟨g, 0, none⟩ := by
    obtain ⟨g, e, _⟩ := h.row.rd 0 (List.length_pos_iff.2 hl)
    exact ⟨g, e⟩
  subst hg
  obtain ⟨C, hC⟩ : ∃ C, Hid (cnt x.l n = C) := ⟨_, rfl⟩
  rw [hC.out] at hA SP hcl
  obtain ⟨N, hN⟩ : ∃ N, Hid (x.l.length = N) := ⟨_, rfl⟩
  rw [hN.out] at H c1 hlen q2 hA hcl ⊢
  obtain ⟨p2, hp2⟩ : ∃ p2, Hid (x.la.2 = p2) := ⟨_, rfl⟩
  rw [hp2.out] at c3
  clear h hk
  go_enter Try.func16, Try.ntmps16
  go_wp2_with fail
  go_loopg [5] N (fun kx vi wr => ∃ m : Nat, C ≤ m ∧ m ≤ N ∧ m - C ≤ kx ∧ vi = .int .i64 ((N : Int) - (m : Int)) ∧ Hid (At TR wr b ⟨x.st, x.l.take m, x.la⟩ (.slice (some ⟨g, 0, none⟩) m ca)) ∧ Hid (But (Own b (.slice (some ⟨g, 0, none⟩) N ca)) w wr))
  case atStart => exact ⟨N, hcl, Nat.le_refl _, by omega, by rw [Int.sub_self], by have := H.out; rw [show x = ⟨x.st, x.l, x.la⟩ from rfl] at this; show At TR w b ⟨x.st, x.l.take N, x.la⟩ _; rw [List.take_of_length_le (by rw [hN.out]; exact Nat.le_refl _)]; exact this, But.refl _ _⟩
  case round =>
    obtain ⟨m, hCm, hmN, hmk, rfl, hAt, hBt⟩ := hrel
    obtain ⟨d0, d1, d2, d3⟩ := hAt.out.cells
    obtain ⟨f0, f1, f2, f3⟩ := hAt.out.frozen
    simp only at d0 d2 d3
    have hml : Hid ((x.l.take m).length = m) := by show _ = _; rw [List.length_take, hN.out]; omega
    by_cases hgo : C < m
    · obtain ⟨M, rfl⟩ : ∃ M, m = M + 1 := ⟨m - 1, by omega⟩
      have hMx : M < x.l.length := by rw [hN.out]; omega
      have hge := SP.out.2 M hMx (by omega)
      obtain ⟨g', e', k0, k1⟩ := hAt.out.row.rd M (by simp only; rw [hml.out]; omega)
      simp only [Option.some.injEq, Addr.mk.injEq, and_true] at e'
      subst e'
      simp only [List.getElem_take] at k0 k1
      generalize x.l[M] = en at *
      obtain ⟨e1, e2⟩ := en
      simp only at k0 k1 hge
      have hMp : (0 : Int) < (M : Int) + 1 := by omega
      have hw2 : IntKind.i64.wrap (M : Int) = (M : Int) := by rw [IntKind.wrap_i64]; omega
      have hMc : M ≤ ca := by omega
      have hM1 : M ≤ M + 1 := by omega
      have hMi : (M : Int) ≤ (ca : Int) := by omega
      have hMi0 : (0 : Int) ≤ (M : Int) := by omega
      replace hMx := hide hMx
      go_upto_region 4 with fail
      go_cut [43] from 21 to 42 (fun y wx => y = .bool true ∧ Hid (Qt wr wx))
      case first =>
        go_quiet (fail)
        go_wp2_with fail
        go_meet
        case rel => exact ⟨by first | rfl | (rw [decide_eq_true (by omega)]), ⟨_, rfl⟩⟩
      case rest =>
        obtain ⟨rfl, hQ⟩ := hcut
        have hA4 := hide (hAt.out.below (hQ.out.below _))
        have hB4 := hide (hBt.out.trans (But.of_below (hQ.out.below _) _))
        clear hAt hBt hQ d0 d1 d2 d3 f0 f1 f2 f3 k0 k1
        obtain ⟨d0, d1, d2, d3⟩ := hA4.out.cells
        obtain ⟨f0, f1, f2, f3⟩ := hA4.out.frozen
        simp only at d0 d2 d3
        have E3 : Hid (Ents wc (.slice (some ⟨g, 0, none⟩) M ca) (x.l.take M)) := by
          have := hA4.out.row.take M (by simp only; rw [hml.out]; omega)
          simp only [take_pred x.l M] at this
          exact this
        have A3 := hide (hA4.out.setV (by decide) E3.out)
        have B3 := hide (hB4.out.trans (but_v wc b (.slice (some ⟨g, 0, none⟩) M ca) (.slice (some ⟨g, 0, none⟩) N ca)))
        simp only at A3
        go_upto_region 5 with fail
        go_cut [] from 44 to 57 (fun wx => Hid (At TR wx b ⟨x.st, x.l.take M, x.la⟩ (.slice (some ⟨g, 0, none⟩) M ca) ∧ But (Own b (.slice (some ⟨g, 0, none⟩) N ca)) w wx))
        case first =>
          go_region
          all_goals
            go_wp2_with fail
            go_meet
            case rel => exact ⟨A3.out.below (Below.refl _ _).drew, B3.out.trans (But.of_below (Below.refl _ _).drew _)⟩
        case rest =>
          have hw9 : IntKind.i64.wrap ((N : Int) - ((M : Int) + 1) + 1) = (N : Int) - (M : Int) := by rw [IntKind.wrap_i64]; omega
          go_wp2_with fail
          go_roundg (M - C)
          case measure => omega
          case rel => exact ⟨M, by omega, by omega, Nat.le_refl _, by first | rfl | go_num | (congr 1; omega), hcut.out.1, hcut.out.2⟩
    · obtain rfl : m = C := by omega
      go_upto_region 4 with fail
      go_cut [43] from 21 to 42 (fun y wx => y = .bool false ∧ Hid (Qt wr wx))
      case first =>
        by_cases hm0 : m = 0
        · subst hm0
          go_quiet (fail)
          go_wp2_with fail
          go_meet
          case rel => exact ⟨by first | rfl | simp, ⟨_, rfl⟩⟩
        · obtain ⟨M, rfl⟩ : ∃ M, m = M + 1 := ⟨m - 1, by omega⟩
          have hMx : M < x.l.length := by rw [hN.out]; omega
          have hge := SP.out.1 M hMx (by omega)
          obtain ⟨g', e', k0, k1⟩ := hAt.out.row.rd M (by simp only; rw [hml.out]; omega)
          simp only [Option.some.injEq, Addr.mk.injEq, and_true] at e'
          subst e'
          simp only [List.getElem_take] at k0 k1
          generalize x.l[M] = en at *
          obtain ⟨e1, e2⟩ := en
          simp only at k0 k1 hge
          have hMp : (0 : Int) < (M : Int) + 1 := by omega
          have hw2 : IntKind.i64.wrap (M : Int) = (M : Int) := by rw [IntKind.wrap_i64]; omega
          have hng : ¬ n ≤ e1 := by omega
          replace hMx := hide hMx
          go_quiet (fail)
          go_wp2_with fail
          go_meet
          case rel => exact ⟨by first | rfl | (rw [decide_eq_false (by omega)]), ⟨_, rfl⟩⟩
      case rest =>
        obtain ⟨rfl, hQ⟩ := hcut
        have hA4 := hide (hAt.out.below (hQ.out.below _))
        have hB4 := hide (hBt.out.trans (But.of_below (hQ.out.below _) _))
        clear hAt hBt hQ d0 d1 d2 d3 f0 f1 f2 f3
        obtain ⟨d0, d1, d2, d3⟩ := hA4.out.cells
        obtain ⟨f0, f1, f2, f3⟩ := hA4.out.frozen
        simp only at d0 d2 d3
        have A5 := hide (hA4.out.setLa (by decide) 0 0)
        have B5 := hide (hB4.out.trans (but_la wc b (.int .i64 0) (.int .i64 0) (.slice (some ⟨g, 0, none⟩) N ca)))
        simp only at A5
        by_cases hm0 : m = 0
        · subst hm0
          have hA' : Hid (cutF x n = (N, ⟨x.st, x.l.take 0, (0, 0)⟩)) := by show _ = _; rw [hA.out]; rfl
          go_wp2_with fail
          go_ret
          rw [hA'.out]
          exact ⟨by first | rfl | simp, _, A5.out, B5.out, fun k hk => hk⟩
        · obtain ⟨M, rfl⟩ : ∃ M, m = M + 1 := ⟨m - 1, by omega⟩
          have hMx : M < x.l.length := by rw [hN.out]; omega
          have hl0 : Hid (lastE (x.l.take (M + 1)) = x.l[M]) := lastE_take hMx
          go_upto_region 9 with fail
          show Code.wp _ _ _ _ ((wc.setCell ⟨b, 2, none⟩ (.int .i64 0)).setCell ⟨b, 3, none⟩ (.int .i64 0))
          generalize (wc.setCell ⟨b, 2, none⟩ (.int .i64 0)).setCell ⟨b, 3, none⟩ (.int .i64 0) = w5 at *
          clear d0 d1 d2 d3 f0 f1 f2 f3
          obtain ⟨d0, d1, d2, d3⟩ := A5.out.cells
          obtain ⟨f0, f1, f2, f3⟩ := A5.out.frozen
          simp only at d0 d2 d3
          obtain ⟨g', e', k0, k1⟩ := A5.out.row.rd M (by simp only; rw [hml.out]; omega)
          simp only [Option.some.injEq, Addr.mk.injEq, and_true] at e'
          subst e'
          simp only [List.getElem_take] at k0 k1
          generalize x.l[M] = en at *
          obtain ⟨e1, e2⟩ := en
          simp only at k0 k1
          rw [hl0.out] at hA
          have hw2 : IntKind.i64.wrap (M : Int) = (M : Int) := by rw [IntKind.wrap_i64]; omega
          have A6 := hide (A5.out.setLa (by decide) e1 e2)
          have B6 := hide (B5.out.trans (but_la w5 b (.int .i64 e1) (.int .i64 e2) (.slice (some ⟨g, 0, none⟩) N ca)))
          simp only at A6
          replace hMx := hide hMx
          go_cut [] from 70 to 84 (fun wx => Hid (At TR wx b ⟨x.st, x.l.take (M + 1), (e1, e2)⟩ (.slice (some ⟨g, 0, none⟩) (M + 1) ca) ∧ But (Own b (.slice (some ⟨g, 0, none⟩) N ca)) w wx))
          case first =>
            go_region
            all_goals
              go_wp2_with fail
              go_meet
              case rel => exact ⟨A6.out.below (Below.refl _ _).drew, B6.out.trans (But.of_below (Below.refl _ _).drew _)⟩
          case rest =>
            go_wp2_with fail
            go_ret
            rw [hA.out]
            refine ⟨?_, _, hcut.out.1, hcut.out.2, fun k hk => hk⟩
            show Ending.returned (Value.int .i64 ((N : Int) - ((M : Int) + 1))) = Ending.returned (Value.int .i64 ((N - (M + 1) : Nat) : Int))
            rw [show ((N - (M + 1) : Nat) : Int) = (N : Int) - ((M : Int) + 1) by omega]
#print axioms refCut_any
end Go.Proofs.Ytoffahbnffhliaa.Ix

/-
  A region that draws its order, whose last call turns what the loads read: S is asked behind every operation but that one, for which all loads wait no more. (After the law of regions that hold loads beside calls: the same proof, but for the one operation.)
-/
namespace Go.Proofs.Ytoffahbnffhliaa.Ix
open Go

variable {P : Program} {ops : Array Oper} {Q : Exit → Act → World → Prop} {md : Region.Mode} {S : World → Prop} {d : Nat}

/-- m waits for p, the next for m, and so on. -/
def pathB (md : Region.Mode) (ops : Array Oper) : Nat → List Nat → Bool
  | _, [] => true
  | p, m :: r => (match ops[m]? with | some o => o.after.any fun e => Region.binds md e && e.on == p | none => false) && pathB md ops m r
theorem not_ready {listed : Array Bool} : ∀ (ms : List Nat) (p : Nat), pathB md ops p ms = true → listed.getD p false = false → (∀ m ∈ ms, listed.getD m true = false) → ∀ m ∈ ms, m ∉ Region.ready md ops listed := by
  intro ms
  induction ms with
  | nil => intro p _ _ _ m hm; cases hm
  | cons a r ih =>
    intro p hp hl hu m hm
    rw [pathB, Bool.and_eq_true] at hp
    obtain ⟨h1, h2⟩ := hp
    have ha : a ∉ Region.ready md ops listed := fun hr => by
      obtain ⟨_, o, ho, hall⟩ := mem_ready.1 hr
      rw [ho] at h1
      simp only [Array.any_eq_true] at h1
      obtain ⟨i, hi, he⟩ := h1
      rw [Bool.and_eq_true] at he
      have := hall _ (Array.getElem_mem hi) he.1
      rw [show (o.after[i]).on = p by simpa using he.2, hl] at this
      cases this
    rcases List.mem_cons.1 hm with rfl | hm
    · exact ha
    · have hla : listed.getD a false = false := by
        have := hu a (by simp)
        by_cases hs : a < listed.size
        · simp [Array.getD, hs] at this ⊢; exact this
        · simp [Array.getD, hs]
      exact ih a h2 hla (fun m hm => hu m (by simp [hm])) m hm
/-- Whatever order is picked from here on, and S holds behind every operation that is carried out, but behind d. -/
def wpAnyT (P : Program) (md : Region.Mode) (ops : Array Oper) (Q : Exit → Act → World → Prop) (S : World → Prop) (d : Nat) : Nat → Array Bool → Act → World → Prop
  | 0, listed, a, w => Region.ready md ops listed = [] ∧ Q .normal a w
  | fuel + 1, listed, a, w =>
    (Region.ready md ops listed = [] → Q .normal a w) ∧
    ∀ i ∈ Region.ready md ops listed, wpOp P ops Q i (fun a' w' => ((listed.setIfInBounds i true).getD d false = false → S w') ∧ wpAnyT P md ops Q S d fuel (listed.setIfInBounds i true) a' w') a w
theorem wpAny_of_T : ∀ (fuel : Nat) (listed : Array Bool) (a : Act) (w : World), wpAnyT P md ops Q S d fuel listed a w → wpAny P md ops Q fuel listed a w
  | 0, _, _, _, h => h
  | fuel + 1, _, _, _, h => ⟨h.1, fun i hi => wpOp_mono (fun a' w' h' => wpAny_of_T fuel _ a' w' h'.2) (h.2 i hi)⟩
theorem getD_false {listed : Array Bool} {m : Nat} (h : listed.getD m true = false) : listed.getD m false = false := by
  by_cases hs : m < listed.size
  · simp [Array.getD, hs] at h ⊢; exact h
  · simp [Array.getD, hs]
theorem vac {b : Bool} {p : Prop} (hb : b = true) : b = false → p := fun h => by rw [hb] at h; cases h
theorem getD_unlisted {listed : Array Bool} {j m : Nat} (h : listed.getD m true = false) (hne : j ≠ m) : (listed.setIfInBounds j true).getD m true = false := by
  rw [getD_set_ne true hne]; exact h
theorem wpAnyT_first {i : Nat} {oi : Oper} {v : Value} {ms : List Nat} (hi : ops[i]? = some oi) (hsel : ∀ (j : Nat) (o : Oper) cs b, ops[j]? = some o → o.op ≠ .select cs b)
    (hQ : ∀ c a w, Q (.panic c) (a.put oi.dst v) w → Q (.panic c) a w) (hpath : pathB md ops i ms = true) (hdm : d ∈ ms) :
    ∀ (fuel : Nat) (listed : Array Bool) (a : Act) (w : World),
      (∀ j oj, ops[j]? = some oj → j ≠ i → listed.getD j true = false → (∀ e ∈ oj.after, Region.binds md e = true → e.on ≠ i) → oi.apart ops oj = true) →
      i ∈ Region.ready md ops listed → (∀ m ∈ ms, listed.getD m true = false) → YieldsIf P ops S oi v a → S w →
      wpAnyT P md ops Q S d fuel (listed.setIfInBounds i true) (a.put oi.dst v) w → wpAnyT P md ops Q S d (fuel + 1) listed a w := by
  intro fuel
  induction fuel with
  | zero =>
    intro listed a w _ hr _ hy hS H
    refine ⟨fun h => (by rw [h] at hr; cases hr), fun j hj => ?_⟩
    by_cases hji : j = i
    · subst hji; exact hy.wpOp hi hS ⟨fun _ => hS, H⟩
    · have := ready_mono hj hji
      rw [H.1] at this
      cases this
  | succ fuel ih =>
    intro listed a w hfree hr hms hy hS H
    refine ⟨fun h => (by rw [h] at hr; cases hr), fun j hj => ?_⟩
    by_cases hji : j = i
    · subst hji; exact hy.wpOp hi hS ⟨fun _ => hS, H⟩
    · have hil : listed.getD i false = false := by
        have := (mem_ready.1 hr).1
        by_cases hs : i < listed.size
        · simp [Array.getD, hs] at this ⊢; exact this
        · simp [Array.getD, hs]
      have hnm : j ∉ ms := fun h => not_ready ms i hpath hil hms j h hj
      have hjd : j ≠ d := fun e => hnm (by rw [e]; exact hdm)
      have hid : i ≠ d := fun e => not_ready ms i hpath hil hms d hdm (by rw [← e]; exact hr)
      have hdj : ((listed.setIfInBounds i true).setIfInBounds j true).getD d false = false := getD_false (getD_unlisted (getD_unlisted (hms d hdm) hid) hjd)
      have h1 := H.2 j (ready_mono hj hji)
      obtain ⟨hjun, oj, hoj, hall⟩ := mem_ready.1 hj
      have hnot : ∀ e ∈ oj.after, Region.binds md e = true → e.on ≠ i := fun e he hb heq => by
        have h1 := hall e he hb
        rw [heq, hil] at h1
        cases h1
      have h2 := wpOp_putIf hoj (hfree j oj hoj hji hjun hnot) (fun cs b => hsel i oi cs b hi) (fun cs b => hsel j oj cs b hoj) hQ hy h1
      have hfree' : ∀ k ok, ops[k]? = some ok → k ≠ i → (listed.setIfInBounds j true).getD k true = false →
          (∀ e ∈ ok.after, Region.binds md e = true → e.on ≠ i) → oi.apart ops ok = true := fun k ok hk hki hun hno => by
        refine hfree k ok hk hki ?_ hno
        by_cases hjk : j = k
        · subst hjk; exact hjun
        · rw [getD_set_ne true hjk] at hun; exact hun
      refine wpOp_mono (fun a' w' h3 => ⟨fun _ => h3.2.1 hdj, ih (listed.setIfInBounds j true) a' w' hfree' (ready_mono hr (Ne.symm hji)) (fun m hm => getD_unlisted (hms m hm) (fun e => hnm (by rw [e]; exact hm))) h3.1 (h3.2.1 hdj) ?_⟩) h2
      rw [Array.setIfInBounds_comm _ _ hji]
      exact h3.2.2
theorem wpAnyT_take {i : Nat} {oi : Oper} {v : Value} (ms : List Nat) {fuel : Nat} {listed : Array Bool} {a : Act} {w : World} (hi : ops[i]? = some oi)
    (hs : Region.noSelect ops = true) (hf : Region.free md ops listed i = true) (hr : (Region.ready md ops listed).contains i = true)
    (hp : (pathB md ops i ms && ms.contains d && ms.all fun m => listed.getD m true == false) = true)
    (hQ : ∀ c a w, Q (.panic c) (a.put oi.dst v) w → Q (.panic c) a w) (hy : YieldsIf P ops S oi v a) (hS : S w)
    (h : wpAnyT P md ops Q S d fuel (listed.setIfInBounds i true) (a.put oi.dst v) w) : wpAnyT P md ops Q S d (fuel + 1) listed a w := by
  simp only [Bool.and_eq_true, List.all_eq_true] at hp
  exact wpAnyT_first hi (Region.noSelect_spec hs) hQ hp.1.1 (by simpa using hp.1.2) fuel listed a w (Region.free_spec hi hf) (by simpa using hr) (fun m hm => by simpa using hp.2 m hm) hy hS h
/-- Only one may come up. -/
theorem wpAnyT_one {i : Nat} {o : Oper} {fuel : Nat} {listed : Array Bool} {a : Act} {w : World} (hr : Region.ready md ops listed = [i]) (ho : ops[i]? = some o)
    (h : ∀ K' : Act → World → Prop, Shut (∀ a w, ((listed.setIfInBounds i true).getD d false = false → S w) → wpAnyT P md ops Q S d fuel (listed.setIfInBounds i true) a w → K' a w) → if Region.wanted o (yielded ops a.tmps) = true then Oper.wp P o a w K' Q else K' (a.put o.dst undef) w) :
    wpAnyT P md ops Q S d (fuel + 1) listed a w := by
  refine ⟨fun h0 => (by rw [h0] at hr; cases hr), fun j hj => ?_⟩
  rw [hr, List.mem_singleton] at hj
  subst hj
  exact wpOp_step ho (fun K' hK => h K' (fun a w hS hW => hK a w ⟨hS, hW⟩))
theorem wpAnyT_done {listed : Array Bool} {a : Act} {w : World} (hr : Region.ready md ops listed = []) (h : Q .normal a w) : ∀ fuel, wpAnyT P md ops Q S d fuel listed a w
  | 0 => ⟨hr, h⟩
  | _ + 1 => ⟨fun _ => h, by rw [hr]; simp⟩
theorem wp_region_T {id : Nat} {a : Act} {w : World} (S : World → Prop) (d : Nat) (hm : P.follows .mixedOrders = true)
    (h : wpAnyT P .any ops Q S d ops.size (Array.replicate ops.size false) a w.drew) : (Code.region id ops true).wp P Q a w :=
  wp_region_any hm (wpAny_of_T _ _ _ _ h)
end Go.Proofs.Ytoffahbnffhliaa.Ix

/-
  An argument that is a list of calls, opened.
-/
namespace Go.Proofs.Ytoffahbnffhliaa
open Go.ChangeShapes Go.WideShapes Go.ChangeAt Go.RowKit Go.Deep
set_option maxRecDepth 100000

theorem cellsIop : Try.prog.cellsOf 32 = 3 := by kernel_rfl
theorem cellsI64 : Try.prog.cellsOf 2 = 1 := by kernel_rfl
theorem cellsInt : Try.prog.cellsOf 3 = 1 := by kernel_rfl
/-- Calls lie from address ao on. -/
def AtIops (w : World) (ao : Option Addr) (hs : List (Int × Int × Int)) : Prop :=
  ∀ i (h : i < hs.length), ∃ b off, ao = some ⟨b, off, none⟩ ∧ w.cell? ⟨b, off + i * 3, none⟩ = some (.int .i64 hs[i].1) ∧ w.cell? ⟨b, off + i * 3 + 1, none⟩ = some (.int .i64 hs[i].2.1) ∧ w.cell? ⟨b, off + i * 3 + 2, none⟩ = some (.int .i64 hs[i].2.2)
def IopOk (o : Int × Int × Int) : Prop := (-9223372036854775808 ≤ o.1 ∧ o.1 ≤ 9223372036854775807) ∧ (-9223372036854775808 ≤ o.2.1 ∧ o.2.1 ≤ 9223372036854775807) ∧ -9223372036854775808 ≤ o.2.2 ∧ o.2.2 ≤ 9223372036854775807
theorem open_iop {H : Type} {enc : TypeId × Value → H} {w : World} {base : Nat} {spare : Nat → Bool} {held : Bool} {fuel : Nat} {cs : List Value} {y : DataW H × List MemPlace}
    (h : DataW.trod enc Try.prog w base spare held fuel 32 cs = some y) :
    ∃ a b c : Int, cs = [.int .i64 a, .int .i64 b, .int .i64 c] ∧ IopOk (a, b, c) := by
  obtain ⟨y0, y1, y2, n, _, hlen, h0, h1, h2⟩ := trod_struct3 Try.underlying32 h
  rw [cellsIop] at hlen
  obtain ⟨c0, c1, c2, rfl⟩ : ∃ c0 c1 c2, cs = [c0, c1, c2] := by
    match cs, hlen with
    | [c0, c1, c2], _ => exact ⟨c0, c1, c2, rfl⟩
  simp only [cellsI64, cellsInt] at h0 h1 h2
  obtain ⟨a0, e0, _, w0⟩ := DataW.trod_int Try.underlying3 h0
  obtain ⟨a1, e1, _, w1⟩ := DataW.trod_int Try.underlying2 h1
  obtain ⟨a2, e2, _, w2⟩ := DataW.trod_int Try.underlying3 h2
  simp at e0 e1 e2
  subst e0 e1 e2
  exact ⟨a0, a1, a2, rfl, i64_bounds w0, i64_bounds w1, i64_bounds w2⟩
theorem open_iops {H : Type} {enc : TypeId × Value → H} {w : World} {base : Nat} {spare : Nat → Bool} {held : Bool} {fuel : Nat} {v : Value} {x : DataW H × List MemPlace}
    (h : DataW.trod enc Try.prog w base spare held fuel 22 [v] = some x) :
    ∃ (os : List (Int × Int × Int)) (ao : Option Addr) (cap : Nat), v = .slice ao os.length cap ∧ os.length ≤ 9223372036854775807 ∧ AtIops w ao os ∧ (∀ o ∈ os, IopOk o) := by
  rcases open_slice Try.underlying22 h with ⟨hcs, hx⟩ | ⟨a, len, cap, m, n, D, Pl, hcs, hb, hl, hm, hmm, hx, hel⟩
  · simp at hcs
    subst hcs hx
    exact ⟨[], none, 0, rfl, by simp, fun i hi => by simp at hi, fun o ho => by simp at ho⟩
  · simp at hcs
    subst hcs hx
    have hlm : len ≤ m := by split at hmm <;> omega
    have each : ∀ i, ∃ o : Int × Int × Int, i < m → IopOk o ∧ ∃ b off, a = ⟨b, off, none⟩ ∧ w.cell? ⟨b, off + i * 3, none⟩ = some (.int .i64 o.1) ∧ w.cell? ⟨b, off + i * 3 + 1, none⟩ = some (.int .i64 o.2.1) ∧ w.cell? ⟨b, off + i * 3 + 2, none⟩ = some (.int .i64 o.2.2) := by
      intro i
      by_cases hi : i < m
      · obtain ⟨cs', h1, h2⟩ := hel i hi
        obtain ⟨o1, o2, o3, rfl, hok⟩ := open_iop h2
        rw [cellsIop] at h1
        obtain ⟨b, off, sp⟩ := a
        have hsp : sp = none := by
          obtain ⟨cs0, g1, g2⟩ := hel 0 (by omega)
          obtain ⟨_, _, _, rfl, _⟩ := open_iop g2
          rw [cellsIop] at g1
          have g3 := (World.cells?_some g1).2.2 0 (by omega)
          simp [Addr.add] at g3
          exact World.cell?_spot g3
        subst hsp
        have hcell := (World.cells?_some h1).2.2
        rw [addr_add] at hcell
        have k0 := hcell 0 (by omega)
        have k1 := hcell 1 (by omega)
        have k2 := hcell 2 (by omega)
        rw [addr_add] at k0 k1 k2
        exact ⟨(o1, o2, o3), fun _ => ⟨hok, b, off, rfl, by simpa using k0, by simpa using k1, by simpa using k2⟩⟩
      · exact ⟨(0, 0, 0), fun h => absurd h hi⟩
    obtain ⟨O, hO⟩ : ∃ O : Nat → Int × Int × Int, ∀ i, i < m → IopOk (O i) ∧ ∃ b off, a = ⟨b, off, none⟩ ∧ w.cell? ⟨b, off + i * 3, none⟩ = some (.int .i64 (O i).1) ∧ w.cell? ⟨b, off + i * 3 + 1, none⟩ = some (.int .i64 (O i).2.1) ∧ w.cell? ⟨b, off + i * 3 + 2, none⟩ = some (.int .i64 (O i).2.2) := ⟨fun i => Classical.choose (each i), fun i => Classical.choose_spec (each i)⟩
    refine ⟨(List.range len).map O, some a, cap, by simp, by simp; unfold maxLen at hm; omega, ?_, ?_⟩
    · intro i hi
      simp at hi
      obtain ⟨_, b, off, rfl, q1, q2, q3⟩ := hO i (by omega)
      exact ⟨b, off, rfl, by simpa using q1, by simpa using q2, by simpa using q3⟩
    · intro o ho
      simp only [List.mem_map, List.mem_range] at ho
      obtain ⟨i, hi, rfl⟩ := ho
      exact (hO i (by omega)).1

end Go.Proofs.Ytoffahbnffhliaa

/-
  Two indexes and a block of another kind.
-/
namespace Go.Proofs.Ytoffahbnffhliaa.Ix
open Go.RowKit

/-- A block of another kind is as it was. -/
theorem Pair.far {T2 : TypeId} {w wr w' : World} {b1 b2 : Nat} {x1 x2 : X} {v1 v2 : Value} (h : Pair TI T2 w wr b1 x1 v1 b2 x2 v2) (hb : But (Own b1 v1) wr w') {ob : Nat} {cs : Array Value} (ho : wr.heap[ob]? = some (.cells cs 32 (0, 0))) : w'.heap[ob]? = some (.cells cs 32 (0, 0)) := by
  refine hb.at ho ?_
  rintro (e | e)
  · rw [e, h.m1.at0.box] at ho
    simp at ho
    exact absurd ho.2 (by decide)
  · exact h.m1.at0.row.no ho (by decide) e
theorem Pair.far2 {T1 : TypeId} {w wr w' : World} {b1 b2 : Nat} {x1 x2 : X} {v1 v2 : Value} (h : Pair T1 TR w wr b1 x1 v1 b2 x2 v2) (hb : But (Own b2 v2) wr w') {ob : Nat} {cs : Array Value} (ho : wr.heap[ob]? = some (.cells cs 32 (0, 0))) : w'.heap[ob]? = some (.cells cs 32 (0, 0)) := by
  refine hb.at ho ?_
  rintro (e | e)
  · rw [e, h.m2.at0.box] at ho
    simp at ho
    exact absurd ho.2 (by decide)
  · exact h.m2.at0.row.no ho (by decide) e
theorem three_cells {w : World} {b : Nat} {a0 a1 a2 : Value} {T : TypeId} (h : w.heap[b]? = some (.cells #[a0, a1, a2] T (0, 0))) : w.cell? ⟨b, 0, none⟩ = some a0 ∧ w.cell? ⟨b, 1, none⟩ = some a1 ∧ w.cell? ⟨b, 2, none⟩ = some a2 := by
  simp [World.cell?, h]
end Go.Proofs.Ytoffahbnffhliaa.Ix

/-
  A region of IndexAll that draws its order: both are told the next frame. (Written by gen_IxZ.py.)
-/
namespace Go.Proofs.Ytoffahbnffhliaa.Ix
open Go.RowKit

set_option maxRecDepth 100000 in
set_option maxHeartbeats 16000000 in
theorem region17 {w w3 : World} {b1 b2 ob : Nat} {x : X} {v1 v2 : Value} {ln of p1 p2 : Int} (P3 : Pair TI TR w w3 b1 x v1 b2 x v2) (hO : Ok x) (O3 : w3.heap[ob]? = some (.cells #[.int .i64 2, .int .i64 ln, .int .i64 of] 32 (0, 0)))
    (hp1 : x.la.1 = p1) (hp2 : x.la.2 = p2) (z1 : 0 ≤ p1) (z3 : p1 < 9223372036854775807) (z2 : 0 ≤ p2) (g1 : p2 ≤ 1073741824) (g2 : of ≤ 1073741824) (o4 : -9223372036854775808 ≤ of) {Q : Exit → Act → World → Prop}
    (hQp : ∀ (c : _) (a : Act) (d : Option Tmp) (v : Value) (u : World), Q (.panic c) (a.put d v) u → Q (.panic c) a u) {s0 s1 s2 s3 s4 s6 s8 s9 s11 s12 s13 s14 s15 s16 s17 s18 s19 s20 s21 s22 s23 s24 s25 s26 s27 s28 s29 s30 s31 s32 s33 s34 s35 s36 s37 s38 s39 s40 s41 s42 s43 s44 s45 s46 s47 s48 s49 s50 s51 s52 s53 s54 s55 s56 s57 s58 s59 s60 s61 s62 s63 s64 s65 s66 s67 s68 s69 s70 s71 s72 s73 s74 s75 s76 s77 s78 s79 s80 s81 s82 s83 s84 s85 s86 s87 s88 s89 s90 s91 s92 s93 s94 s95 s96 s97 s98 s99 s100 s101 s102 s103 s104 s105 s106 s107 s108 s109 s110 s111 s112 s113 s114 s115 s116 s117 s118 s119 s120 s121 s122 s123 s124 s125 s126 s127 s128 s129 s130 s131 s132 s133 s134 s135 s136 s137 s138 s139 s140 s141 s142 s143 s144 s145 s146 s147 s148 s149 s150 s151 s152 s153 s154 s155 s156 s157 s158 s159 s160 s161 s162 s163 s164 s165 s166 s167 s168 s169 s170 s171 s172 s173 s174 s175 s176 s177 s178 s179 s180 s181 s182 s183 s184 s185 s186 s187 s188 s189 s190 s191 s192 s193 s194 s195 s196 s197 s198 s199 s200 s201 s202 s203 s204 s205 s206 s207 s208 s209 s210 s211 s212 s213 : Value}
    (hQ : ∀ (v1' v2' : Value) (u : World) (t94 t95 t96 t97 t98 t99 t100 t101 t102 t103 t104 t105 t106 t107 t108 t109 t110 t111 t112 t113 t114 t115 t116 t117 t118 t119 t120 t121 t122 t123 t124 t125 t126 : Value), Pair TI TR w u b1 (addF x (p1 + 1) (p2 + of)).2 v1' b2 (addF x (p1 + 1) (p2 + of)).2 v2' → Q .normal ⟨#[s0, s1, s2, s3, s4, .pointer (some ⟨b1, 0, none⟩), s6, .pointer (some ⟨b2, 0, none⟩), s8, s9, .pointer (some ⟨ob, 0, none⟩), .bool true, s12, s13, s14, s15, s16, s17, s18, s19, s20, s21, s22, s23, s24, s25, s26, s27, s28, s29, s30, s31, s32, s33, s34, s35, s36, s37, s38, s39, s40, s41, s42, s43, s44, s45, s46, s47, s48, s49, s50, s51, s52, s53, s54, s55, s56, s57, s58, s59, s60, s61, s62, s63, s64, s65, s66, s67, s68, s69, s70, s71, s72, s73, s74, s75, s76, s77, s78, s79, s80, s81, s82, s83, s84, s85, s86, s87, s88, s89, s90, s91, s92, s93, t94, t95, t96, t97, t98, t99, t100, t101, t102, t103, t104, t105, t106, t107, t108, t109, t110, t111, t112, t113, t114, t115, t116, t117, t118, t119, t120, t121, t122, t123, t124, t125, t126, s127, s128, s129, s130, s131, s132, s133, s134, s135, s136, s137, s138, s139, s140, s141, s142, s143, s144, s145, s146, s147, s148, s149, s150, s151, s152, s153, s154, s155, s156, s157, s158, s159, s160, s161, s162, s163, s164, s165, s166, s167, s168, s169, s170, s171, s172, s173, s174, s175, s176, s177, s178, s179, s180, s181, s182, s183, s184, s185, s186, s187, s188, s189, s190, s191, s192, s193, s194, s195, s196, s197, s198, s199, s200, s201, s202, s203, s204, s205, s206, s207, s208, s209, s210, s211, s212, s213], []⟩ u) :
    (Code.region 17 #[{ dst := some 94, op := Op.move (Operand.tmp 5), type := 24, pos := "law.go:83", after := #[], guard := none }, { dst := some 95, op := Op.move (Operand.tmp 7), type := 28, pos := "law.go:83", after := #[], guard := none }, { dst := some 96, op := Op.nilCheck (Operand.tmp 95), type := 0, pos := "law.go:83", after := #[{ on := 1, ground := Ground.data }], guard := none }, { dst := some 97, op := Op.fieldAddr 38 (Operand.tmp 96) 2, type := 0, pos := "law.go:83", after := #[{ on := 2, ground := Ground.data }], guard := none }, { dst := some 98, op := Op.fieldAddr 35 (Operand.tmp 97) 0, type := 0, pos := "law.go:83", after := #[{ on := 3, ground := Ground.data }], guard := none }, { dst := some 99, op := Op.load 2 (Operand.tmp 98), type := 2, pos := "law.go:83", after := #[{ on := 4, ground := Ground.data }], guard := none }, { dst := some 100, op := Op.binOp BinOp.add 2 (Operand.tmp 99) (Operand.const (Value.int IntKind.i64 1)) 2, type := 2, pos := "law.go:83", after := #[{ on := 5, ground := Ground.data }], guard := none }, { dst := some 101, op := Op.move (Operand.tmp 7), type := 28, pos := "law.go:83", after := #[], guard := none }, { dst := some 102, op := Op.nilCheck (Operand.tmp 101), type := 0, pos := "law.go:83", after := #[{ on := 7, ground := Ground.data }], guard := none }, { dst := some 103, op := Op.fieldAddr 38 (Operand.tmp 102) 2, type := 0, pos := "law.go:83", after := #[{ on := 8, ground := Ground.data }], guard := none }, { dst := some 104, op := Op.fieldAddr 35 (Operand.tmp 103) 1, type := 0, pos := "law.go:83", after := #[{ on := 9, ground := Ground.data }], guard := none }, { dst := some 105, op := Op.load 3 (Operand.tmp 104), type := 3, pos := "law.go:83", after := #[{ on := 10, ground := Ground.data }], guard := none }, { dst := some 106, op := Op.fieldAddr 32 (Operand.tmp 10) 2, type := 0, pos := "law.go:83", after := #[], guard := none }, { dst := some 107, op := Op.load 3 (Operand.tmp 106), type := 3, pos := "law.go:83", after := #[{ on := 12, ground := Ground.data }], guard := none }, { dst := some 108, op := Op.binOp BinOp.add 3 (Operand.tmp 105) (Operand.tmp 107) 3, type := 3, pos := "law.go:83", after := #[{ on := 11, ground := Ground.data }, { on := 13, ground := Ground.data }], guard := none }, { dst := some 109, op := Op.call { callee := Callee.value (Operand.func 11), args := #[Operand.tmp 94, Operand.tmp 100, Operand.tmp 108], argTypes := #[24, 2, 3] }, type := 25, pos := "law.go:83", after := #[{ on := 0, ground := Ground.data }, { on := 6, ground := Ground.data }, { on := 14, ground := Ground.data }], guard := none }, { dst := some 110, op := Op.move (Operand.tmp 7), type := 28, pos := "law.go:83", after := #[], guard := none }, { dst := some 111, op := Op.move (Operand.tmp 7), type := 28, pos := "law.go:83", after := #[], guard := none }, { dst := some 112, op := Op.nilCheck (Operand.tmp 111), type := 0, pos := "law.go:83", after := #[{ on := 17, ground := Ground.data }], guard := none }, { dst := some 113, op := Op.fieldAddr 38 (Operand.tmp 112) 2, type := 0, pos := "law.go:83", after := #[{ on := 18, ground := Ground.data }], guard := none }, { dst := some 114, op := Op.fieldAddr 35 (Operand.tmp 113) 0, type := 0, pos := "law.go:83", after := #[{ on := 19, ground := Ground.data }], guard := none }, { dst := some 115, op := Op.load 2 (Operand.tmp 114), type := 2, pos := "law.go:83", after := #[{ on := 20, ground := Ground.data }], guard := none }, { dst := some 116, op := Op.binOp BinOp.add 2 (Operand.tmp 115) (Operand.const (Value.int IntKind.i64 1)) 2, type := 2, pos := "law.go:83", after := #[{ on := 21, ground := Ground.data }], guard := none }, { dst := some 117, op := Op.move (Operand.tmp 7), type := 28, pos := "law.go:83", after := #[], guard := none }, { dst := some 118, op := Op.nilCheck (Operand.tmp 117), type := 0, pos := "law.go:83", after := #[{ on := 23, ground := Ground.data }], guard := none }, { dst := some 119, op := Op.fieldAddr 38 (Operand.tmp 118) 2, type := 0, pos := "law.go:83", after := #[{ on := 24, ground := Ground.data }], guard := none }, { dst := some 120, op := Op.fieldAddr 35 (Operand.tmp 119) 1, type := 0, pos := "law.go:83", after := #[{ on := 25, ground := Ground.data }], guard := none }, { dst := some 121, op := Op.load 3 (Operand.tmp 120), type := 3, pos := "law.go:83", after := #[{ on := 26, ground := Ground.data }], guard := none }, { dst := some 122, op := Op.fieldAddr 32 (Operand.tmp 10) 2, type := 0, pos := "law.go:83", after := #[], guard := none }, { dst := some 123, op := Op.load 3 (Operand.tmp 122), type := 3, pos := "law.go:83", after := #[{ on := 28, ground := Ground.data }], guard := none }, { dst := some 124, op := Op.binOp BinOp.add 3 (Operand.tmp 121) (Operand.tmp 123) 3, type := 3, pos := "law.go:83", after := #[{ on := 27, ground := Ground.data }, { on := 29, ground := Ground.data }], guard := none }, { dst := some 125, op := Op.call { callee := Callee.value (Operand.func 12), args := #[Operand.tmp 110, Operand.tmp 116, Operand.tmp 124], argTypes := #[28, 2, 3] }, type := 25, pos := "law.go:83", after := #[{ on := 16, ground := Ground.data }, { on := 22, ground := Ground.data }, { on := 30, ground := Ground.data }, { on := 15, ground := Ground.chain }], guard := none }, { dst := some 126, op := Op.binOp BinOp.eql 25 (Operand.tmp 109) (Operand.tmp 125) 25, type := 4, pos := "law.go:83", after := #[{ on := 15, ground := Ground.data }, { on := 31, ground := Ground.data }], guard := none }, { dst := some 11, op := Op.assign (Operand.tmp 126), type := 4, pos := "law.go:83", after := #[{ on := 32, ground := Ground.data }, { on := 31, ground := Ground.chain }, { on := 0, ground := Ground.phase }, { on := 1, ground := Ground.phase }, { on := 2, ground := Ground.phase }, { on := 3, ground := Ground.phase }, { on := 4, ground := Ground.phase }, { on := 5, ground := Ground.phase }, { on := 6, ground := Ground.phase }, { on := 7, ground := Ground.phase }, { on := 8, ground := Ground.phase }, { on := 9, ground := Ground.phase }, { on := 10, ground := Ground.phase }, { on := 11, ground := Ground.phase }, { on := 12, ground := Ground.phase }, { on := 13, ground := Ground.phase }, { on := 14, ground := Ground.phase }, { on := 15, ground := Ground.phase }, { on := 16, ground := Ground.phase }, { on := 17, ground := Ground.phase }, { on := 18, ground := Ground.phase }, { on := 19, ground := Ground.phase }, { on := 20, ground := Ground.phase }, { on := 21, ground := Ground.phase }, { on := 22, ground := Ground.phase }, { on := 23, ground := Ground.phase }, { on := 24, ground := Ground.phase }, { on := 25, ground := Ground.phase }, { on := 26, ground := Ground.phase }, { on := 27, ground := Ground.phase }, { on := 28, ground := Ground.phase }, { on := 29, ground := Ground.phase }, { on := 30, ground := Ground.phase }, { on := 31, ground := Ground.phase }, { on := 32, ground := Ground.phase }], guard := none }] true).wp Try.prog Q ⟨#[s0, s1, s2, s3, s4, .pointer (some ⟨b1, 0, none⟩), s6, .pointer (some ⟨b2, 0, none⟩), s8, s9, .pointer (some ⟨ob, 0, none⟩), s11, s12, s13, s14, s15, s16, s17, s18, s19, s20, s21, s22, s23, s24, s25, s26, s27, s28, s29, s30, s31, s32, s33, s34, s35, s36, s37, s38, s39, s40, s41, s42, s43, s44, s45, s46, s47, s48, s49, s50, s51, s52, s53, s54, s55, s56, s57, s58, s59, s60, s61, s62, s63, s64, s65, s66, s67, s68, s69, s70, s71, s72, s73, s74, s75, s76, s77, s78, s79, s80, s81, s82, s83, s84, s85, s86, s87, s88, s89, s90, s91, s92, s93, s94, s95, s96, s97, s98, s99, s100, s101, s102, s103, s104, s105, s106, s107, s108, s109, s110, s111, s112, s113, s114, s115, s116, s117, s118, s119, s120, s121, s122, s123, s124, s125, s126, s127, s128, s129, s130, s131, s132, s133, s134, s135, s136, s137, s138, s139, s140, s141, s142, s143, s144, s145, s146, s147, s148, s149, s150, s151, s152, s153, s154, s155, s156, s157, s158, s159, s160, s161, s162, s163, s164, s165, s166, s167, s168, s169, s170, s171, s172, s173, s174, s175, s176, s177, s178, s179, s180, s181, s182, s183, s184, s185, s186, s187, s188, s189, s190, s191, s192, s193, s194, s195, s196, s197, s198, s199, s200, s201, s202, s203, s204, s205, s206, s207, s208, s209, s210, s211, s212, s213], []⟩ w3 := by
  replace hQ := hide hQ
  replace hQp := hide hQp
  have hw1 : IntKind.i64.wrap (p1 + 1) = p1 + 1 := by rw [IntKind.wrap_i64]; omega
  have hw2 : IntKind.i64.wrap (p2 + of) = p2 + of := by rw [IntKind.wrap_i64]; omega
  have P3d := hide (P3.below (Below.refl _ _).drew)
  have O3d : Hid (w3.drew.heap[ob]? = some (.cells #[.int .i64 2, .int .i64 ln, .int .i64 of] 32 (0, 0))) := O3
  have HO := hide hO
  have SS : Hid (∀ (q : World) (x1 : X) (v1 : Value), Pair TI TR w q b1 x1 v1 b2 x v2 → q.heap[ob]? = some (.cells #[.int .i64 2, .int .i64 ln, .int .i64 of] 32 (0, 0)) → q.cell? ⟨b2, 2, none⟩ = some (.int .i64 p1) ∧ q.cell? ⟨b2, 3, none⟩ = some (.int .i64 p2) ∧ q.cell? ⟨ob, 2, none⟩ = some (.int .i64 of)) := fun q x1 v1 h hq => by
    obtain ⟨_, _, y2, y3⟩ := h.m2.at0.cells
    rw [hp1] at y2
    rw [hp2] at y3
    exact ⟨y2, y3, (three_cells hq).2.2⟩
  have hS0 := SS.out _ _ _ P3d.out O3d.out
  clear P3 O3 hO hp1 hp2
  refine wp_region_T (fun q => q.cell? ⟨b2, 2, none⟩ = some (.int .i64 p1) ∧ q.cell? ⟨b2, 3, none⟩ = some (.int .i64 p2) ∧ q.cell? ⟨ob, 2, none⟩ = some (.int .i64 of)) 31 (by kernel_rfl) ?_
  refine wpAnyT_take (i := 0) (oi := { dst := some 94, op := Op.move (Operand.tmp 5), type := 24, pos := "law.go:83", after := #[], guard := none }) (v := .pointer (some ⟨b1, 0, none⟩)) [15, 31] rfl (by kernel_rfl) (by kernel_rfl) (by kernel_rfl) (by kernel_rfl) (fun _ _ _ h => hQp.out _ _ _ _ _ h) (Or.inl ⟨by rfl, ?_⟩) hS0 ?_
  · intro wq hSw
    obtain ⟨s0', s1', s2'⟩ := hSw
    go_simp
  simp only [Act.put, List.setIfInBounds_toArray, List.set_cons_zero, List.set_cons_succ]
  refine wpAnyT_take (i := 1) (oi := { dst := some 95, op := Op.move (Operand.tmp 7), type := 28, pos := "law.go:83", after := #[], guard := none }) (v := .pointer (some ⟨b2, 0, none⟩)) [2, 3, 4, 5, 6, 15, 31] rfl (by kernel_rfl) (by kernel_rfl) (by kernel_rfl) (by kernel_rfl) (fun _ _ _ h => hQp.out _ _ _ _ _ h) (Or.inl ⟨by rfl, ?_⟩) hS0 ?_
  · intro wq hSw
    obtain ⟨s0', s1', s2'⟩ := hSw
    go_simp
  simp only [Act.put, List.setIfInBounds_toArray, List.set_cons_zero, List.set_cons_succ]
  refine wpAnyT_take (i := 2) (oi := { dst := some 96, op := Op.nilCheck (Operand.tmp 95), type := 0, pos := "law.go:83", after := #[{ on := 1, ground := Ground.data }], guard := none }) (v := .pointer (some ⟨b2, 0, none⟩)) [3, 4, 5, 6, 15, 31] rfl (by kernel_rfl) (by kernel_rfl) (by kernel_rfl) (by kernel_rfl) (fun _ _ _ h => hQp.out _ _ _ _ _ h) (Or.inl ⟨by rfl, ?_⟩) hS0 ?_
  · intro wq hSw
    obtain ⟨s0', s1', s2'⟩ := hSw
    go_simp
  simp only [Act.put, List.setIfInBounds_toArray, List.set_cons_zero, List.set_cons_succ]
  refine wpAnyT_take (i := 3) (oi := { dst := some 97, op := Op.fieldAddr 38 (Operand.tmp 96) 2, type := 0, pos := "law.go:83", after := #[{ on := 2, ground := Ground.data }], guard := none }) (v := .pointer (some ⟨b2, 2, none⟩)) [4, 5, 6, 15, 31] rfl (by kernel_rfl) (by kernel_rfl) (by kernel_rfl) (by kernel_rfl) (fun _ _ _ h => hQp.out _ _ _ _ _ h) (Or.inl ⟨by rfl, ?_⟩) hS0 ?_
  · intro wq hSw
    obtain ⟨s0', s1', s2'⟩ := hSw
    go_simp
  simp only [Act.put, List.setIfInBounds_toArray, List.set_cons_zero, List.set_cons_succ]
  refine wpAnyT_take (i := 4) (oi := { dst := some 98, op := Op.fieldAddr 35 (Operand.tmp 97) 0, type := 0, pos := "law.go:83", after := #[{ on := 3, ground := Ground.data }], guard := none }) (v := .pointer (some ⟨b2, 2, none⟩)) [5, 6, 15, 31] rfl (by kernel_rfl) (by kernel_rfl) (by kernel_rfl) (by kernel_rfl) (fun _ _ _ h => hQp.out _ _ _ _ _ h) (Or.inl ⟨by rfl, ?_⟩) hS0 ?_
  · intro wq hSw
    obtain ⟨s0', s1', s2'⟩ := hSw
    go_simp
  simp only [Act.put, List.setIfInBounds_toArray, List.set_cons_zero, List.set_cons_succ]
  refine wpAnyT_take (i := 5) (oi := { dst := some 99, op := Op.load 2 (Operand.tmp 98), type := 2, pos := "law.go:83", after := #[{ on := 4, ground := Ground.data }], guard := none }) (v := .int .i64 p1) [6, 15, 31] rfl (by kernel_rfl) (by kernel_rfl) (by kernel_rfl) (by kernel_rfl) (fun _ _ _ h => hQp.out _ _ _ _ _ h) (Or.inl ⟨by rfl, ?_⟩) hS0 ?_
  · intro wq hSw
    obtain ⟨s0', s1', s2'⟩ := hSw
    go_simp
  simp only [Act.put, List.setIfInBounds_toArray, List.set_cons_zero, List.set_cons_succ]
  refine wpAnyT_take (i := 6) (oi := { dst := some 100, op := Op.binOp BinOp.add 2 (Operand.tmp 99) (Operand.const (Value.int IntKind.i64 1)) 2, type := 2, pos := "law.go:83", after := #[{ on := 5, ground := Ground.data }], guard := none }) (v := .int .i64 (p1 + 1)) [15, 31] rfl (by kernel_rfl) (by kernel_rfl) (by kernel_rfl) (by kernel_rfl) (fun _ _ _ h => hQp.out _ _ _ _ _ h) (Or.inl ⟨by rfl, ?_⟩) hS0 ?_
  · intro wq hSw
    obtain ⟨s0', s1', s2'⟩ := hSw
    go_simp
  simp only [Act.put, List.setIfInBounds_toArray, List.set_cons_zero, List.set_cons_succ]
  refine wpAnyT_take (i := 7) (oi := { dst := some 101, op := Op.move (Operand.tmp 7), type := 28, pos := "law.go:83", after := #[], guard := none }) (v := .pointer (some ⟨b2, 0, none⟩)) [8, 9, 10, 11, 14, 15, 31] rfl (by kernel_rfl) (by kernel_rfl) (by kernel_rfl) (by kernel_rfl) (fun _ _ _ h => hQp.out _ _ _ _ _ h) (Or.inl ⟨by rfl, ?_⟩) hS0 ?_
  · intro wq hSw
    obtain ⟨s0', s1', s2'⟩ := hSw
    go_simp
  simp only [Act.put, List.setIfInBounds_toArray, List.set_cons_zero, List.set_cons_succ]
  refine wpAnyT_take (i := 8) (oi := { dst := some 102, op := Op.nilCheck (Operand.tmp 101), type := 0, pos := "law.go:83", after := #[{ on := 7, ground := Ground.data }], guard := none }) (v := .pointer (some ⟨b2, 0, none⟩)) [9, 10, 11, 14, 15, 31] rfl (by kernel_rfl) (by kernel_rfl) (by kernel_rfl) (by kernel_rfl) (fun _ _ _ h => hQp.out _ _ _ _ _ h) (Or.inl ⟨by rfl, ?_⟩) hS0 ?_
  · intro wq hSw
    obtain ⟨s0', s1', s2'⟩ := hSw
    go_simp
  simp only [Act.put, List.setIfInBounds_toArray, List.set_cons_zero, List.set_cons_succ]
  refine wpAnyT_take (i := 9) (oi := { dst := some 103, op := Op.fieldAddr 38 (Operand.tmp 102) 2, type := 0, pos := "law.go:83", after := #[{ on := 8, ground := Ground.data }], guard := none }) (v := .pointer (some ⟨b2, 2, none⟩)) [10, 11, 14, 15, 31] rfl (by kernel_rfl) (by kernel_rfl) (by kernel_rfl) (by kernel_rfl) (fun _ _ _ h => hQp.out _ _ _ _ _ h) (Or.inl ⟨by rfl, ?_⟩) hS0 ?_
  · intro wq hSw
    obtain ⟨s0', s1', s2'⟩ := hSw
    go_simp
  simp only [Act.put, List.setIfInBounds_toArray, List.set_cons_zero, List.set_cons_succ]
  refine wpAnyT_take (i := 10) (oi := { dst := some 104, op := Op.fieldAddr 35 (Operand.tmp 103) 1, type := 0, pos := "law.go:83", after := #[{ on := 9, ground := Ground.data }], guard := none }) (v := .pointer (some ⟨b2, 3, none⟩)) [11, 14, 15, 31] rfl (by kernel_rfl) (by kernel_rfl) (by kernel_rfl) (by kernel_rfl) (fun _ _ _ h => hQp.out _ _ _ _ _ h) (Or.inl ⟨by rfl, ?_⟩) hS0 ?_
  · intro wq hSw
    obtain ⟨s0', s1', s2'⟩ := hSw
    go_simp
  simp only [Act.put, List.setIfInBounds_toArray, List.set_cons_zero, List.set_cons_succ]
  refine wpAnyT_take (i := 11) (oi := { dst := some 105, op := Op.load 3 (Operand.tmp 104), type := 3, pos := "law.go:83", after := #[{ on := 10, ground := Ground.data }], guard := none }) (v := .int .i64 p2) [14, 15, 31] rfl (by kernel_rfl) (by kernel_rfl) (by kernel_rfl) (by kernel_rfl) (fun _ _ _ h => hQp.out _ _ _ _ _ h) (Or.inl ⟨by rfl, ?_⟩) hS0 ?_
  · intro wq hSw
    obtain ⟨s0', s1', s2'⟩ := hSw
    go_simp
  simp only [Act.put, List.setIfInBounds_toArray, List.set_cons_zero, List.set_cons_succ]
  refine wpAnyT_take (i := 12) (oi := { dst := some 106, op := Op.fieldAddr 32 (Operand.tmp 10) 2, type := 0, pos := "law.go:83", after := #[], guard := none }) (v := .pointer (some ⟨ob, 2, none⟩)) [13, 14, 15, 31] rfl (by kernel_rfl) (by kernel_rfl) (by kernel_rfl) (by kernel_rfl) (fun _ _ _ h => hQp.out _ _ _ _ _ h) (Or.inl ⟨by rfl, ?_⟩) hS0 ?_
  · intro wq hSw
    obtain ⟨s0', s1', s2'⟩ := hSw
    go_simp
  simp only [Act.put, List.setIfInBounds_toArray, List.set_cons_zero, List.set_cons_succ]
  refine wpAnyT_take (i := 13) (oi := { dst := some 107, op := Op.load 3 (Operand.tmp 106), type := 3, pos := "law.go:83", after := #[{ on := 12, ground := Ground.data }], guard := none }) (v := .int .i64 of) [14, 15, 31] rfl (by kernel_rfl) (by kernel_rfl) (by kernel_rfl) (by kernel_rfl) (fun _ _ _ h => hQp.out _ _ _ _ _ h) (Or.inl ⟨by rfl, ?_⟩) hS0 ?_
  · intro wq hSw
    obtain ⟨s0', s1', s2'⟩ := hSw
    go_simp
  simp only [Act.put, List.setIfInBounds_toArray, List.set_cons_zero, List.set_cons_succ]
  refine wpAnyT_take (i := 14) (oi := { dst := some 108, op := Op.binOp BinOp.add 3 (Operand.tmp 105) (Operand.tmp 107) 3, type := 3, pos := "law.go:83", after := #[{ on := 11, ground := Ground.data }, { on := 13, ground := Ground.data }], guard := none }) (v := .int .i64 (p2 + of)) [15, 31] rfl (by kernel_rfl) (by kernel_rfl) (by kernel_rfl) (by kernel_rfl) (fun _ _ _ h => hQp.out _ _ _ _ _ h) (Or.inl ⟨by rfl, ?_⟩) hS0 ?_
  · intro wq hSw
    obtain ⟨s0', s1', s2'⟩ := hSw
    go_simp
  simp only [Act.put, List.setIfInBounds_toArray, List.set_cons_zero, List.set_cons_succ]
  refine wpAnyT_take (i := 16) (oi := { dst := some 110, op := Op.move (Operand.tmp 7), type := 28, pos := "law.go:83", after := #[], guard := none }) (v := .pointer (some ⟨b2, 0, none⟩)) [31] rfl (by kernel_rfl) (by kernel_rfl) (by kernel_rfl) (by kernel_rfl) (fun _ _ _ h => hQp.out _ _ _ _ _ h) (Or.inl ⟨by rfl, ?_⟩) hS0 ?_
  · intro wq hSw
    obtain ⟨s0', s1', s2'⟩ := hSw
    go_simp
  simp only [Act.put, List.setIfInBounds_toArray, List.set_cons_zero, List.set_cons_succ]
  refine wpAnyT_take (i := 17) (oi := { dst := some 111, op := Op.move (Operand.tmp 7), type := 28, pos := "law.go:83", after := #[], guard := none }) (v := .pointer (some ⟨b2, 0, none⟩)) [18, 19, 20, 21, 22, 31] rfl (by kernel_rfl) (by kernel_rfl) (by kernel_rfl) (by kernel_rfl) (fun _ _ _ h => hQp.out _ _ _ _ _ h) (Or.inl ⟨by rfl, ?_⟩) hS0 ?_
  · intro wq hSw
    obtain ⟨s0', s1', s2'⟩ := hSw
    go_simp
  simp only [Act.put, List.setIfInBounds_toArray, List.set_cons_zero, List.set_cons_succ]
  refine wpAnyT_take (i := 18) (oi := { dst := some 112, op := Op.nilCheck (Operand.tmp 111), type := 0, pos := "law.go:83", after := #[{ on := 17, ground := Ground.data }], guard := none }) (v := .pointer (some ⟨b2, 0, none⟩)) [19, 20, 21, 22, 31] rfl (by kernel_rfl) (by kernel_rfl) (by kernel_rfl) (by kernel_rfl) (fun _ _ _ h => hQp.out _ _ _ _ _ h) (Or.inl ⟨by rfl, ?_⟩) hS0 ?_
  · intro wq hSw
    obtain ⟨s0', s1', s2'⟩ := hSw
    go_simp
  simp only [Act.put, List.setIfInBounds_toArray, List.set_cons_zero, List.set_cons_succ]
  refine wpAnyT_take (i := 19) (oi := { dst := some 113, op := Op.fieldAddr 38 (Operand.tmp 112) 2, type := 0, pos := "law.go:83", after := #[{ on := 18, ground := Ground.data }], guard := none }) (v := .pointer (some ⟨b2, 2, none⟩)) [20, 21, 22, 31] rfl (by kernel_rfl) (by kernel_rfl) (by kernel_rfl) (by kernel_rfl) (fun _ _ _ h => hQp.out _ _ _ _ _ h) (Or.inl ⟨by rfl, ?_⟩) hS0 ?_
  · intro wq hSw
    obtain ⟨s0', s1', s2'⟩ := hSw
    go_simp
  simp only [Act.put, List.setIfInBounds_toArray, List.set_cons_zero, List.set_cons_succ]
  refine wpAnyT_take (i := 20) (oi := { dst := some 114, op := Op.fieldAddr 35 (Operand.tmp 113) 0, type := 0, pos := "law.go:83", after := #[{ on := 19, ground := Ground.data }], guard := none }) (v := .pointer (some ⟨b2, 2, none⟩)) [21, 22, 31] rfl (by kernel_rfl) (by kernel_rfl) (by kernel_rfl) (by kernel_rfl) (fun _ _ _ h => hQp.out _ _ _ _ _ h) (Or.inl ⟨by rfl, ?_⟩) hS0 ?_
  · intro wq hSw
    obtain ⟨s0', s1', s2'⟩ := hSw
    go_simp
  simp only [Act.put, List.setIfInBounds_toArray, List.set_cons_zero, List.set_cons_succ]
  refine wpAnyT_take (i := 21) (oi := { dst := some 115, op := Op.load 2 (Operand.tmp 114), type := 2, pos := "law.go:83", after := #[{ on := 20, ground := Ground.data }], guard := none }) (v := .int .i64 p1) [22, 31] rfl (by kernel_rfl) (by kernel_rfl) (by kernel_rfl) (by kernel_rfl) (fun _ _ _ h => hQp.out _ _ _ _ _ h) (Or.inl ⟨by rfl, ?_⟩) hS0 ?_
  · intro wq hSw
    obtain ⟨s0', s1', s2'⟩ := hSw
    go_simp
  simp only [Act.put, List.setIfInBounds_toArray, List.set_cons_zero, List.set_cons_succ]
  refine wpAnyT_take (i := 22) (oi := { dst := some 116, op := Op.binOp BinOp.add 2 (Operand.tmp 115) (Operand.const (Value.int IntKind.i64 1)) 2, type := 2, pos := "law.go:83", after := #[{ on := 21, ground := Ground.data }], guard := none }) (v := .int .i64 (p1 + 1)) [31] rfl (by kernel_rfl) (by kernel_rfl) (by kernel_rfl) (by kernel_rfl) (fun _ _ _ h => hQp.out _ _ _ _ _ h) (Or.inl ⟨by rfl, ?_⟩) hS0 ?_
  · intro wq hSw
    obtain ⟨s0', s1', s2'⟩ := hSw
    go_simp
  simp only [Act.put, List.setIfInBounds_toArray, List.set_cons_zero, List.set_cons_succ]
  refine wpAnyT_take (i := 23) (oi := { dst := some 117, op := Op.move (Operand.tmp 7), type := 28, pos := "law.go:83", after := #[], guard := none }) (v := .pointer (some ⟨b2, 0, none⟩)) [24, 25, 26, 27, 30, 31] rfl (by kernel_rfl) (by kernel_rfl) (by kernel_rfl) (by kernel_rfl) (fun _ _ _ h => hQp.out _ _ _ _ _ h) (Or.inl ⟨by rfl, ?_⟩) hS0 ?_
  · intro wq hSw
    obtain ⟨s0', s1', s2'⟩ := hSw
    go_simp
  simp only [Act.put, List.setIfInBounds_toArray, List.set_cons_zero, List.set_cons_succ]
  refine wpAnyT_take (i := 24) (oi := { dst := some 118, op := Op.nilCheck (Operand.tmp 117), type := 0, pos := "law.go:83", after := #[{ on := 23, ground := Ground.data }], guard := none }) (v := .pointer (some ⟨b2, 0, none⟩)) [25, 26, 27, 30, 31] rfl (by kernel_rfl) (by kernel_rfl) (by kernel_rfl) (by kernel_rfl) (fun _ _ _ h => hQp.out _ _ _ _ _ h) (Or.inl ⟨by rfl, ?_⟩) hS0 ?_
  · intro wq hSw
    obtain ⟨s0', s1', s2'⟩ := hSw
    go_simp
  simp only [Act.put, List.setIfInBounds_toArray, List.set_cons_zero, List.set_cons_succ]
  refine wpAnyT_take (i := 25) (oi := { dst := some 119, op := Op.fieldAddr 38 (Operand.tmp 118) 2, type := 0, pos := "law.go:83", after := #[{ on := 24, ground := Ground.data }], guard := none }) (v := .pointer (some ⟨b2, 2, none⟩)) [26, 27, 30, 31] rfl (by kernel_rfl) (by kernel_rfl) (by kernel_rfl) (by kernel_rfl) (fun _ _ _ h => hQp.out _ _ _ _ _ h) (Or.inl ⟨by rfl, ?_⟩) hS0 ?_
  · intro wq hSw
    obtain ⟨s0', s1', s2'⟩ := hSw
    go_simp
  simp only [Act.put, List.setIfInBounds_toArray, List.set_cons_zero, List.set_cons_succ]
  refine wpAnyT_take (i := 26) (oi := { dst := some 120, op := Op.fieldAddr 35 (Operand.tmp 119) 1, type := 0, pos := "law.go:83", after := #[{ on := 25, ground := Ground.data }], guard := none }) (v := .pointer (some ⟨b2, 3, none⟩)) [27, 30, 31] rfl (by kernel_rfl) (by kernel_rfl) (by kernel_rfl) (by kernel_rfl) (fun _ _ _ h => hQp.out _ _ _ _ _ h) (Or.inl ⟨by rfl, ?_⟩) hS0 ?_
  · intro wq hSw
    obtain ⟨s0', s1', s2'⟩ := hSw
    go_simp
  simp only [Act.put, List.setIfInBounds_toArray, List.set_cons_zero, List.set_cons_succ]
  refine wpAnyT_take (i := 27) (oi := { dst := some 121, op := Op.load 3 (Operand.tmp 120), type := 3, pos := "law.go:83", after := #[{ on := 26, ground := Ground.data }], guard := none }) (v := .int .i64 p2) [30, 31] rfl (by kernel_rfl) (by kernel_rfl) (by kernel_rfl) (by kernel_rfl) (fun _ _ _ h => hQp.out _ _ _ _ _ h) (Or.inl ⟨by rfl, ?_⟩) hS0 ?_
  · intro wq hSw
    obtain ⟨s0', s1', s2'⟩ := hSw
    go_simp
  simp only [Act.put, List.setIfInBounds_toArray, List.set_cons_zero, List.set_cons_succ]
  refine wpAnyT_take (i := 28) (oi := { dst := some 122, op := Op.fieldAddr 32 (Operand.tmp 10) 2, type := 0, pos := "law.go:83", after := #[], guard := none }) (v := .pointer (some ⟨ob, 2, none⟩)) [29, 30, 31] rfl (by kernel_rfl) (by kernel_rfl) (by kernel_rfl) (by kernel_rfl) (fun _ _ _ h => hQp.out _ _ _ _ _ h) (Or.inl ⟨by rfl, ?_⟩) hS0 ?_
  · intro wq hSw
    obtain ⟨s0', s1', s2'⟩ := hSw
    go_simp
  simp only [Act.put, List.setIfInBounds_toArray, List.set_cons_zero, List.set_cons_succ]
  refine wpAnyT_take (i := 29) (oi := { dst := some 123, op := Op.load 3 (Operand.tmp 122), type := 3, pos := "law.go:83", after := #[{ on := 28, ground := Ground.data }], guard := none }) (v := .int .i64 of) [30, 31] rfl (by kernel_rfl) (by kernel_rfl) (by kernel_rfl) (by kernel_rfl) (fun _ _ _ h => hQp.out _ _ _ _ _ h) (Or.inl ⟨by rfl, ?_⟩) hS0 ?_
  · intro wq hSw
    obtain ⟨s0', s1', s2'⟩ := hSw
    go_simp
  simp only [Act.put, List.setIfInBounds_toArray, List.set_cons_zero, List.set_cons_succ]
  refine wpAnyT_take (i := 30) (oi := { dst := some 124, op := Op.binOp BinOp.add 3 (Operand.tmp 121) (Operand.tmp 123) 3, type := 3, pos := "law.go:83", after := #[{ on := 27, ground := Ground.data }, { on := 29, ground := Ground.data }], guard := none }) (v := .int .i64 (p2 + of)) [31] rfl (by kernel_rfl) (by kernel_rfl) (by kernel_rfl) (by kernel_rfl) (fun _ _ _ h => hQp.out _ _ _ _ _ h) (Or.inl ⟨by rfl, ?_⟩) hS0 ?_
  · intro wq hSw
    obtain ⟨s0', s1', s2'⟩ := hSw
    go_simp
  simp only [Act.put, List.setIfInBounds_toArray, List.set_cons_zero, List.set_cons_succ]
  refine wpAnyT_one (i := 15) (o := { dst := some 109, op := Op.call { callee := Callee.value (Operand.func 11), args := #[Operand.tmp 94, Operand.tmp 100, Operand.tmp 108], argTypes := #[24, 2, 3] }, type := 25, pos := "law.go:83", after := #[{ on := 0, ground := Ground.data }, { on := 6, ground := Ground.data }, { on := 14, ground := Ground.data }], guard := none }) (by kernel_rfl) rfl (fun K hK => ?_)
  go_simp
  refine (add_any _ b1 x v1 (p1 + 1) (p2 + of) P3d.out.m1.at0 HO.out (by omega) (by omega) (by omega) (by omega)).mono ?_
  rintro ee u1 ⟨rfl, v4, A4, B4, F4⟩
  have P4 := hide (P3d.out.next (by decide) (by decide) A4 B4 F4)
  have O4 := hide (P3d.out.far B4 O3d.out)
  have hS1 := SS.out _ _ _ P4.out O4.out
  clear A4 B4 F4
  refine hK.out _ _ (fun _ => hS1) ?_
  clear hK K
  (try simp only [Act.put, List.setIfInBounds_toArray, List.set_cons_zero, List.set_cons_succ])
  refine wpAnyT_one (i := 31) (o := { dst := some 125, op := Op.call { callee := Callee.value (Operand.func 12), args := #[Operand.tmp 110, Operand.tmp 116, Operand.tmp 124], argTypes := #[28, 2, 3] }, type := 25, pos := "law.go:83", after := #[{ on := 16, ground := Ground.data }, { on := 22, ground := Ground.data }, { on := 30, ground := Ground.data }, { on := 15, ground := Ground.chain }], guard := none }) (by kernel_rfl) rfl (fun K hK => ?_)
  go_simp
  refine (refAdd_any _ b2 x v2 (p1 + 1) (p2 + of) P4.out.m2.at0 HO.out (by omega) (by omega) (by omega) (by omega)).mono ?_
  rintro ee u2 ⟨rfl, v5, A5, B5, F5⟩
  have P5 := hide (P4.out.symm.next (by decide) (by decide) A5 B5 F5).symm
  clear A5 B5 F5
  refine hK.out _ _ (vac (by kernel_rfl)) ?_
  clear hK K
  (try simp only [Act.put, List.setIfInBounds_toArray, List.set_cons_zero, List.set_cons_succ])
  refine wpAnyT_one (i := 32) (o := { dst := some 126, op := Op.binOp BinOp.eql 25 (Operand.tmp 109) (Operand.tmp 125) 25, type := 4, pos := "law.go:83", after := #[{ on := 15, ground := Ground.data }, { on := 31, ground := Ground.data }], guard := none }) (by kernel_rfl) rfl (fun K hK => ?_)
  go_simp
  refine hK.out _ _ (vac (by kernel_rfl)) ?_
  clear hK K
  (try simp only [Act.put, List.setIfInBounds_toArray, List.set_cons_zero, List.set_cons_succ])
  refine wpAnyT_one (i := 33) (o := { dst := some 11, op := Op.assign (Operand.tmp 126), type := 4, pos := "law.go:83", after := #[{ on := 32, ground := Ground.data }, { on := 31, ground := Ground.chain }, { on := 0, ground := Ground.phase }, { on := 1, ground := Ground.phase }, { on := 2, ground := Ground.phase }, { on := 3, ground := Ground.phase }, { on := 4, ground := Ground.phase }, { on := 5, ground := Ground.phase }, { on := 6, ground := Ground.phase }, { on := 7, ground := Ground.phase }, { on := 8, ground := Ground.phase }, { on := 9, ground := Ground.phase }, { on := 10, ground := Ground.phase }, { on := 11, ground := Ground.phase }, { on := 12, ground := Ground.phase }, { on := 13, ground := Ground.phase }, { on := 14, ground := Ground.phase }, { on := 15, ground := Ground.phase }, { on := 16, ground := Ground.phase }, { on := 17, ground := Ground.phase }, { on := 18, ground := Ground.phase }, { on := 19, ground := Ground.phase }, { on := 20, ground := Ground.phase }, { on := 21, ground := Ground.phase }, { on := 22, ground := Ground.phase }, { on := 23, ground := Ground.phase }, { on := 24, ground := Ground.phase }, { on := 25, ground := Ground.phase }, { on := 26, ground := Ground.phase }, { on := 27, ground := Ground.phase }, { on := 28, ground := Ground.phase }, { on := 29, ground := Ground.phase }, { on := 30, ground := Ground.phase }, { on := 31, ground := Ground.phase }, { on := 32, ground := Ground.phase }], guard := none }) (by kernel_rfl) rfl (fun K hK => ?_)
  go_simp
  refine hK.out _ _ (vac (by kernel_rfl)) ?_
  clear hK K
  (try simp only [Act.put, List.setIfInBounds_toArray, List.set_cons_zero, List.set_cons_succ])
  refine wpAnyT_done (by kernel_rfl) ?_ _
  exact hQ.out _ _ _ _ _ _ _ _ _ _ _ _ _ _ _ _ _ _ _ _ _ _ _ _ _ _ _ _ _ _ _ _ _ _ _ _ P5.out
#print axioms region17
end Go.Proofs.Ytoffahbnffhliaa.Ix

