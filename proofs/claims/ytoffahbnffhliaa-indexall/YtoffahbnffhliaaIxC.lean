/-
  Add: the program's.
-/
import Derived.Test.YtoffahbnffhliaaIxB
import Derived.Deep.AppendLies
import Derived.Deep.RegionHeld3
import Derived.Deep.CutRange
import Derived.Deep.RegionLaw
import Derived.BigRegion
namespace Go.Proofs.Ytoffahbnffhliaa.Ix
open Go.RowKit

theorem Ents.drew {w : World} {v : Value} {l : List (Int × Int)} (h : Ents w v l) : Ents w.drew v l := h
theorem At.setLa {T : TypeId} {w : World} {b : Nat} {x : X} {v : Value} (h : At T w b x v) (hT : T ≠ 35) (a1 a2 : Int) : At T ((w.setCell ⟨b, 2, none⟩ (.int .i64 a1)).setCell ⟨b, 3, none⟩ (.int .i64 a2)) b ⟨x.st, x.l, (a1, a2)⟩ v := by
  have h1 : (w.setCell ⟨b, 2, none⟩ (.int .i64 a1)).heap[b]? = some (.cells #[.int .i64 (x.st : Int), v, .int .i64 a1, .int .i64 x.la.2] T (0, 0)) := by
    rw [heap_setCell_same w b 2 _ _ _ h.box]; simp
  refine ⟨?_, ?_⟩
  · rw [heap_setCell_same _ b 3 _ _ _ h1]; simp
  · have g1 : But (fun k => k = b) w (w.setCell ⟨b, 2, none⟩ (.int .i64 a1)) := But.of_grownBy (grown_setCell _ _ _ _) fun k e => by cases e; rfl
    have g2 : But (fun k => k = b) (w.setCell ⟨b, 2, none⟩ (.int .i64 a1)) ((w.setCell ⟨b, 2, none⟩ (.int .i64 a1)).setCell ⟨b, 3, none⟩ (.int .i64 a2)) := But.of_grownBy (grown_setCell _ _ _ _) fun k e => by cases e; rfl
    exact h.row.but (g1.trans g2) fun k hk e => h.row.no h.box hT (by rw [← e]; exact hk)
theorem but_la (w : World) (b : Nat) (a1 a2 v : Value) : But (Own b v) w ((w.setCell ⟨b, 2, none⟩ a1).setCell ⟨b, 3, none⟩ a2) :=
  (But.of_grownBy (grown_setCell w b 2 a1) fun k e => by cases e; exact .inl rfl).trans (But.of_grownBy (grown_setCell _ b 3 a2) fun k e => by cases e; exact .inl rfl)
theorem At.setV {T : TypeId} {w : World} {b : Nat} {x : X} {v : Value} (h : At T w b x v) (hT : T ≠ 35) {v' : Value} {l' : List (Int × Int)} (hv : Ents w v' l') : At T (w.setCell ⟨b, 1, none⟩ v') b ⟨x.st, l', x.la⟩ v' := by
  refine ⟨?_, ?_⟩
  · rw [heap_setCell_same w b 1 _ _ _ h.box]; simp
  · have g1 : But (fun k => k = b) w (w.setCell ⟨b, 1, none⟩ v') := But.of_grownBy (grown_setCell _ _ _ _) fun k e => by cases e; rfl
    exact hv.but g1 fun k hk e => hv.no h.box hT (by rw [← e]; exact hk)
theorem but_v (w : World) (b : Nat) (a v : Value) : But (Own b v) w (w.setCell ⟨b, 1, none⟩ a) := But.of_grownBy (grown_setCell w b 1 a) fun k e => by cases e; exact .inl rfl
/-- One more entry, laid behind the others: the list is now v'. -/
theorem At.app {T : TypeId} {w u w3 : World} {b : Nat} {x : X} {v v' : Value} {n o : Int} (h : At T w b x v) (hT : T ≠ 35) (hu : Below w.heap.size w u) (hg : u.grownBy w3 v.ownBlock)
    (ho : w3.ownsRow 0 35 2 v' (x.l.length + 1) (ecells x.l ++ [.int .i64 n, .int .i64 o])) (hat : v'.ownBlock = v.ownBlock ∨ ∃ k, v'.ownBlock = some k ∧ w.heap.size ≤ k) :
    w3.heap[b]? = some (.cells #[.int .i64 (x.st : Int), v, .int .i64 x.la.1, .int .i64 x.la.2] T (0, 0)) ∧ At T (w3.setCell ⟨b, 1, none⟩ v') b ⟨x.st, x.l ++ [(n, o)], x.la⟩ v' ∧ But (Own b v) w (w3.setCell ⟨b, 1, none⟩ v') ∧ (∀ k, v'.ownBlock = some k → v.ownBlock = some k ∨ w.heap.size ≤ k) := by
  have hb : w3.heap[b]? = some (.cells #[.int .i64 (x.st : Int), v, .int .i64 x.la.1, .int .i64 x.la.2] T (0, 0)) := by
    have hl := heap_lt h.box
    rw [hg.block b (by have := hu.size; omega) (fun e => h.row.no h.box hT e.symm), hu.block b hl]
    exact h.box
  have hv : Ents w3 v' (x.l ++ [(n, o)]) := by
    unfold Ents
    rw [ecells_snoc, List.length_append]
    exact ho
  have g1 : But (fun k => k = b) w3 (w3.setCell ⟨b, 1, none⟩ v') := But.of_grownBy (grown_setCell _ _ _ _) fun k e => by cases e; rfl
  refine ⟨hb, ⟨?_, ?_⟩, ?_, ?_⟩
  · rw [heap_setCell_same w3 b 1 _ _ _ hb]; simp
  · exact hv.but g1 fun k hk e => hv.no hb hT (by rw [← e]; exact hk)
  · exact ((But.of_below hu _).trans (But.of_grownBy hg fun k e => .inr e)).trans (g1.mono fun k _ e => .inl e)
  · intro k hk
    rcases hat with e | ⟨k', e, hk'⟩
    · exact .inl (by rw [← e]; exact hk)
    · rw [e] at hk; cases hk; exact .inr hk'
theorem hat_of {v : Value} {g n c H B : Nat} (h : v.ownBlock = some g ∨ g = H) (hB : B ≤ H) : (Value.slice (some ⟨g, 0, none⟩) n c).ownBlock = v.ownBlock ∨ ∃ k, (Value.slice (some ⟨g, 0, none⟩) n c).ownBlock = some k ∧ B ≤ k := by
  rcases h with h | h
  · exact .inl h.symm
  · exact .inr ⟨g, rfl, by omega⟩
theorem infoEnt : (Try.prog.info? 35).map (fun i => (i.zero, i.size, i.bytes)) = some (some (.agg #[.int .i64 0, .int .i64 0]), 2, 16) := by kernel_rfl
theorem two_newE (w : World) (a b : Value) (T : TypeId) : ∀ (j : Nat) (u : Value), [a, b][j]? = some u → (w.alloc (.cells #[a, b] T)).cell? ((⟨w.heap.size, 0, none⟩ : Addr).add j) = some u := by
  intro j u h
  rw [addr_add]
  match j with
  | 0 => simp at h; subst h; unfold World.cell?; rw [show (w.alloc (.cells #[a, b] T)).heap[(⟨w.heap.size, 0 + 0, none⟩ : Addr).block]? = _ from heap_alloc_new _ _]; rfl
  | 1 => simp at h; subst h; unfold World.cell?; rw [show (w.alloc (.cells #[a, b] T)).heap[(⟨w.heap.size, 0 + 1, none⟩ : Addr).block]? = _ from heap_alloc_new _ _]; rfl
  | j + 2 => simp at h
/-- What Add owes. -/
def DoesAdd (T : TypeId) (f : Nat) : Prop := ∀ (w : World) (b : Nat) (x : X) (v : Value) (n o : Int), At T w b x v → Ok x → -9223372036854775808 ≤ n → n ≤ 9223372036854775807 → -9223372036854775808 ≤ o → o ≤ 9223372036854775807 →
  Calls Try.prog f #[.pointer (some ⟨b, 0, none⟩), .int .i64 n, .int .i64 o] w fun e w' => e = .returned (.int .i64 (addF x n o).1) ∧ ∃ v', At T w' b (addF x n o).2 v' ∧ But (Own b v) w w' ∧ (∀ k, v'.ownBlock = some k → v.ownBlock = some k ∨ w.heap.size ≤ k)

/-- How Add goes on behind its tests: the world w2 has the index as it was, and the frame in the block fb. -/
def Beh (w w2 : World) (b fb : Nat) (x : X) (v : Value) (n o : Int) : Prop := At TI w2 b x v ∧ w2.cell? ⟨fb, 0, none⟩ = some (.int .i64 n) ∧ w2.cell? ⟨fb, 1, none⟩ = some (.int .i64 o) ∧ Below w.heap.size w w2
set_option maxHeartbeats 2000000 in
theorem add_any : DoesAdd TI 11 := by
  intro w b x v n o h hk n0 n1 o0 o1
  obtain ⟨c0, c1, c2, c3⟩ := h.cells
  have s0 := hk.srt.s0
  have s1 := hk.srt.s1
  have hs0 : ¬ ((x.st : Int) = 0) := by omega
  have hb0 : ((x.st : Int) == 0) = false := by simpa using hs0
  by_cases ha : n < 1 ∨ o < 0 ∨ 2147483647 < o
  · have hA : Hid (addF x n o = (1, x)) := by show _ = _; rw [addF, if_pos ha]
    have H := hide h
    clear h
    go_enter Try.func11, Try.ntmps11
    by_cases a1 : n < 1
    · go_wp2_with fail
      go_ret
      rw [hA.out]
      exact ⟨rfl, v, H.out, But.refl _ _, fun k hk => .inl hk⟩
    by_cases a2 : o < 0
    · go_wp2_with fail
      go_ret
      rw [hA.out]
      exact ⟨rfl, v, H.out, But.refl _ _, fun k hk => .inl hk⟩
    · have a3 : 2147483647 < o := by omega
      go_wp2_with fail
      go_ret
      rw [hA.out]
      exact ⟨rfl, v, H.out, But.refl _ _, fun k hk => .inl hk⟩
  · have a1 : ¬ n < 1 := by omega
    have a2 : ¬ o < 0 := by omega
    have a3 : ¬ 2147483647 < o := by omega
    have H := hide h
    have HA := hide ha
    obtain ⟨ao, ca, rfl, q1, q2⟩ := h.row.form
    have hlen := hk.srt.len
    have hW : Hid (At TI (w.alloc (.cells #[.int .i64 n, .int .i64 o] 35)) b x (.slice ao x.l.length ca)) := h.below (box_below _ _)
    have KS : Hid (∀ q : World, Below (w.alloc (.cells #[.int .i64 n, .int .i64 o] 35)).heap.size (w.alloc (.cells #[.int .i64 n, .int .i64 o] 35)) q → Beh w q b w.heap.size x (.slice ao x.l.length ca) n o) := fun q hq => by
      have hh := hq.block w.heap.size (by simp)
      rw [heap_alloc_new] at hh
      obtain ⟨y0, y1, _, _⟩ := two_cells hh
      exact ⟨hW.out.below hq, y0, y1, keepF (box_below _ _) hq⟩
    clear ha h
    obtain ⟨z, hz⟩ : ∃ z, Hid (z = decide (x.l ≠ [] ∧ ¬ (n - 1 = x.la.1 ∧ x.la.2 < o))) := ⟨_, rfl⟩
    have fbv : Hid ((Value.slice ao x.l.length ca).ownBlock ≠ some w.heap.size) := fun e => by have := H.out.row.lt _ e; omega
    obtain ⟨N, hN⟩ : ∃ N, Hid (x.l.length = N) := ⟨_, rfl⟩
    rw [hN.out] at H hlen hW KS c1 q2 fbv ⊢
    have hS0 := KS.out _ (Below.refl _ _)
    go_enter Try.func11, Try.ntmps11
    go_wp2_with fail
    generalize hw1 : w.alloc (.cells #[.int .i64 n, .int .i64 o] 35) = w1 at *
    clear hw1 c0 c1 c2 c3
    obtain ⟨d0, d1, d2, d3⟩ := hS0.1.cells
    obtain ⟨_, f0, f1, _⟩ := hS0
    go_cut [46] from 32 to 45 (fun y wx => y = .bool z ∧ Hid (Beh w wx b w.heap.size x (.slice ao N ca) n o))
    case first =>
      by_cases hl : x.l = []
      · have hlz : N = 0 := by rw [← hN.out, hl]; rfl
        have hz' : Hid (z = false) := by show _ = _; rw [hz.out]; simp [hl]
        subst hlz
        go_quiet (fail)
        go_wp2_with fail
        go_meet
        case rel => exact ⟨by rw [hz'.out], KS.out _ (Qt.below ⟨_, rfl⟩ _)⟩
      · have hnp : 0 < N := by rw [← hN.out]; exact List.length_pos_iff.2 hl
        have hni : (0 : Int) < (N : Int) := by omega
        have hz' : Hid ((!decide (n - 1 = x.la.1 ∧ x.la.2 < o)) = z) := by
          show _ = _
          rw [hz.out]
          by_cases q : (n - 1 = x.la.1 ∧ x.la.2 < o) <;> simp [hl, q]
        have KC : Hid (∀ q : World, Below w1.heap.size w1 q → Below w1.heap.size w1 q ∧ q.cell? ⟨b, 1, none⟩ = some (.slice ao N ca) ∧ q.cell? ⟨b, 2, none⟩ = some (.int .i64 x.la.1) ∧ q.cell? ⟨b, 3, none⟩ = some (.int .i64 x.la.2) ∧ q.cell? ⟨w.heap.size, 0, none⟩ = some (.int .i64 n) ∧ q.cell? ⟨w.heap.size, 1, none⟩ = some (.int .i64 o)) := fun q hq => by
          obtain ⟨a, b, c, _⟩ := KS.out q hq
          exact ⟨hq, a.cells.2.1, a.cells.2.2.1, a.cells.2.2.2, b, c⟩
        have hS1 := KC.out w1.drew (Below.refl _ _).drew
        obtain ⟨fv, hfv⟩ : ∃ fv, Hid (decide (n - 1 = x.la.1 ∧ x.la.2 < o) = fv) := ⟨_, rfl⟩
        rw [hfv.out] at hz'
        generalize x.la.1 = p1 at *
        generalize x.la.2 = p2 at *
        clear d0 d1 d2 d3 f0 f1
        go_region_held3 (fun q => Below w1.heap.size w1 q ∧ q.cell? ⟨b, 1, none⟩ = some (.slice ao N ca) ∧ q.cell? ⟨b, 2, none⟩ = some (.int .i64 p1) ∧ q.cell? ⟨b, 3, none⟩ = some (.int .i64 p2) ∧ q.cell? ⟨w.heap.size, 0, none⟩ = some (.int .i64 n) ∧ q.cell? ⟨w.heap.size, 1, none⟩ = some (.int .i64 o))
          (first | exact hS1 | assumption | exact KC.out _ KP | exact KC.out _ (Below.drew KP) | fail)
          (first
            | (go_at_call 27; refine (follows_any _ p1 p2 n o (by omega) n1).mono ?_; rintro e u1 ⟨rfl, B4⟩; rw [hfv.out]; have KP := keepF (And.left (by assumption)) B4)
            | fail)
        all_goals
          go_wp2_with fail
          go_meet
          case rel => exact ⟨by rw [← hz'.out], KS.out _ (And.left (by assumption))⟩
    case rest =>
      obtain ⟨rfl, hbh⟩ := hcut
      clear d0 d1 d2 d3 f0 f1 KS hW
      by_cases hzt : x.l ≠ [] ∧ ¬ (n - 1 = x.la.1 ∧ x.la.2 < o)
      · have hA : Hid (addF x n o = (63, x)) := by show _ = _; rw [addF, if_neg HA.out, if_pos hzt]
        obtain rfl : z = true := by rw [hz.out]; exact decide_eq_true hzt
        have hF : Hid (At TI wc b x (.slice ao N ca) ∧ Below w.heap.size w wc) := ⟨hbh.out.1, hbh.out.2.2.2⟩
        go_wp2_with fail
        go_ret
        rw [hA.out]
        exact ⟨rfl, _, hF.out.1, But.of_below hF.out.2 _, fun k hk => .inl hk⟩
      · have hA : Hid (addF x n o = (0, ⟨x.st, if x.l = [] ∨ (x.st : Int) ≤ o - (lastE x.l).2 then x.l ++ [(n, o)] else x.l, (n, o)⟩)) := by show _ = _; rw [addF, if_neg HA.out, if_neg hzt]
        obtain rfl : z = false := by rw [hz.out]; exact decide_eq_false hzt
        clear hzt hz
        go_wp2_with fail
        refine (far_any wc b x _ o hbh.out.1 hk (by omega) (by omega)).mono ?_
        rintro e w2 ⟨rfl, hq⟩
        have hb2 : Hid (Beh w w2 b w.heap.size x (.slice ao N ca) n o) := by
          obtain ⟨a1, a2, a3, a4⟩ := hbh.out
          have hqb := hq.below wc.heap.size
          exact ⟨a1.below hqb, by rw [hqb.cell (lt_of_cell a2)]; exact a2, by rw [hqb.cell (lt_of_cell a3)]; exact a3, keepF a4 hqb⟩
        clear hq hbh
        obtain ⟨d0, d1, d2, d3⟩ := hb2.out.1.cells
        obtain ⟨e0, e1, e2, e3⟩ := hb2.out.1.frozen
        obtain ⟨f0, f1, hB2⟩ := hb2.out.2
        replace hB2 := hide hB2
        by_cases hf : x.l = [] ∨ (x.st : Int) ≤ o - (lastE x.l).2
        · rw [if_pos hf] at hA
          have hff : farF x o = true := by simpa [farF] using hf
          rw [hff]
          clear hf hff
          obtain ⟨i0, hi, hz0, hz1, hz2⟩ := info_parts infoEnt
          have ROW : Hid (w2.ownsRow 0 35 2 (.slice ao N ca) N (ecells x.l)) := by have := hb2.out.1.row; unfold Ents at this; rw [hN.out] at this; exact this
          have hszf : w.heap.size < w2.heap.size := lt_of_cell f0
          have hbl2 : b < w2.heap.size := lt_of_cell d0
          go_wp2_with fail
          go_region_law (first | (refine step_append_lies _ rfl (.tmp 54) (.tmp 56) 36 rfl 0 35 i0 (.agg #[.int .i64 0, .int .i64 0]) 2 16 Try.underlying36 hi hz0 hz1 hz2 rfl (by decide) (.slice ao N ca) N (ecells x.l) (by simp [Act.eval]) (ROW.out.alloc _) ⟨w2.heap.size, 0, none⟩ 1 1 [.int .i64 n, .int .i64 o] (by simp [Act.eval]) rfl (two_newE _ _ _ _) (by simp [Value.oneCell']) (by decide) (by unfold maxLen; omega) (by omega) (Nat.zero_le _) (w2.heap.size + 1) (by simp) ?_; intro g2 cap2 w3 hown3 hgrow3 hat hlt3; obtain ⟨F1, F2, F3, F4⟩ := At.app hb2.out.1 (by decide) (by first | exact (box_below w2 _).drew | exact (box_below w2.drew _) | exact box_below w2 _) hgrow3 (by rw [hN.out]; exact hown3) (hat_of hat (by omega)); have cc3 := (show w3.cell? ⟨b, 1, none⟩ = some (.slice ao N ca) by simp [World.cell?, F1]); have ff3 := (show w3.frozen? ⟨b, 1, none⟩ = false by simp [World.frozen?, F1])))
          all_goals
            have hbl : b < w.heap.size := H.out.lt b (.inl rfl)
            have y0 : w3.cell? ⟨w.heap.size, 0, none⟩ = some (.int .i64 n) := by
              rw [hgrow3.cell_far ⟨w.heap.size, 0, none⟩ (by simp; omega) (fun e => fbv.out e.symm), Below.cell (by first | exact (box_below w2 _).drew | exact (box_below w2.drew _) | exact box_below w2 _) (by simpa using hszf)]
              exact f0
            have y1 : w3.cell? ⟨w.heap.size, 1, none⟩ = some (.int .i64 o) := by
              rw [hgrow3.cell_far ⟨w.heap.size, 1, none⟩ (by simp; omega) (fun e => fbv.out e.symm), Below.cell (by first | exact (box_below w2 _).drew | exact (box_below w2.drew _) | exact box_below w2 _) (by simpa using hszf)]
              exact f1
            have z0 := (grown_setCell w3 b 1 (.slice (some ⟨g2, 0, none⟩) (N + 1) cap2)).cell y0 (by simp; omega)
            have z1 := (grown_setCell w3 b 1 (.slice (some ⟨g2, 0, none⟩) (N + 1) cap2)).cell y1 (by simp; omega)
            clear d0 d1 d2 d3 e0 e1 e2 e3 f0 f1 y0 y1 cc3 ff3 F1 hown3 hgrow3 hat hlt3 ROW hszf hbl2
            replace F3 := hide F3
            replace F4 := hide F4
            generalize w3.setCell ⟨b, 1, none⟩ (.slice (some ⟨g2, 0, none⟩) (N + 1) cap2) = w4 at *
            obtain ⟨d0, d1, d2, d3⟩ := F2.cells
            obtain ⟨e0, e1, e2, e3⟩ := F2.frozen
            replace F2 := hide F2
            go_wp2_with fail
            go_ret
            rw [hA.out]
            exact ⟨rfl, _, F2.out.setLa (by decide) n o, ((But.of_below hB2.out _).trans F3.out).trans (but_la _ _ _ _ _), fun k hk => (F4.out k hk).imp id fun h => Nat.le_trans hB2.out.size h⟩
        · rw [if_neg hf] at hA
          have hff : farF x o = false := by simpa [farF] using hf
          rw [hff]
          clear hf hff
          go_wp2_with fail
          go_ret
          rw [hA.out]
          exact ⟨rfl, _, hb2.out.1.setLa (by decide) n o, (But.of_below hB2.out _).trans (but_la _ _ _ _ _), fun k hk => .inl hk⟩
#print axioms add_any
end Go.Proofs.Ytoffahbnffhliaa.Ix
