/-
  Add: the program's.
-/
import Derived.Test.YtbmnjaaacodgdaaL02
import Derived.Deep.AppendLies
import Derived.Deep.RegionHeld3
import Derived.Deep.CutRange
import Derived.Deep.RegionLaw
import Derived.BigRegion
import Derived.Deep.RegionHeld
import Derived.Test.YtbmnjaaacodgdaaL01
import Derived.Handy
import Derived.Laws.Externs
import Derived.Carry
import Derived.Shelf.SlGeneric
import Derived.Shelf.SlIter.Nil
import Derived.Shelf.SortM.Plain
import Derived.Shelf.SortM.SortNone
import Derived.Ground.GgzProg
import Derived.Ground.SlgmProg
import Derived.Test.YtbmnjaaacodgdaaProg
import Derived.Shelf.LaysM
import Derived.Shelf.Strconv.Clone
set_option maxRecDepth 100000
set_option maxHeartbeats 40000000
set_option linter.unusedVariables false
namespace Go.Proofs.Ytbmnjaaacodgdaa.Ix
open Go.RowKit
theorem At.setLa {T : TypeId} {w : World} {b : Nat} {x : X} {v : Value} (h : At T w b x v) (hT : T ≠ 136) (a1 a2 : Int) : At T ((w.setCell ⟨b, 2, none⟩ (.int .i64 a1)).setCell ⟨b, 3, none⟩ (.int .i64 a2)) b ⟨x.st, x.l, (a1, a2)⟩ v := by
 have h1 : (w.setCell ⟨b, 2, none⟩ (.int .i64 a1)).heap[b]? = some (.cells #[.int .i64 (x.st : Int), v, .int .i64 a1, .int .i64 x.la.2] T (0, 0)) := by
  rw [heap_setCell_same w b 2 _ _ _ h.box]; simp
 refine ⟨?_, ?_⟩
 ·rw [heap_setCell_same _ b 3 _ _ _ h1]; simp
 ·have g1 : But (fun k => k = b) w (w.setCell ⟨b, 2, none⟩ (.int .i64 a1)) := But.of_grownBy (grown_setCell _ _ _ _) fun k e => by cases e; rfl
  have g2 : But (fun k => k = b) (w.setCell ⟨b, 2, none⟩ (.int .i64 a1)) ((w.setCell ⟨b, 2, none⟩ (.int .i64 a1)).setCell ⟨b, 3, none⟩ (.int .i64 a2)) := But.of_grownBy (grown_setCell _ _ _ _) fun k e => by cases e; rfl
  exact h.row.but (g1.trans g2) fun k hk e => h.row.no h.box hT (by rw [← e]; exact hk)
theorem but_la (w : World) (b : Nat) (a1 a2 v : Value) : But (Own b v) w ((w.setCell ⟨b, 2, none⟩ a1).setCell ⟨b, 3, none⟩ a2) :=
 (But.of_grownBy (grown_setCell w b 2 a1) fun k e => by cases e; exact .inl rfl).trans (But.of_grownBy (grown_setCell _ b 3 a2) fun k e => by cases e; exact .inl rfl)
theorem At.app {T : TypeId} {w u w3 : World} {b : Nat} {x : X} {v v' : Value} {n o : Int} (h : At T w b x v) (hT : T ≠ 136) (hu : Below w.heap.size w u) (hg : u.grownBy w3 v.ownBlock)
    (ho : w3.ownsRow 0 136 2 v' (x.l.length + 1) (ecells x.l ++ [.int .i64 n, .int .i64 o])) (hat : v'.ownBlock = v.ownBlock ∨ ∃ k, v'.ownBlock = some k ∧ w.heap.size ≤ k) :
    w3.heap[b]? = some (.cells #[.int .i64 (x.st : Int), v, .int .i64 x.la.1, .int .i64 x.la.2] T (0, 0)) ∧ At T (w3.setCell ⟨b, 1, none⟩ v') b ⟨x.st, x.l ++ [(n, o)], x.la⟩ v' ∧ But (Own b v) w (w3.setCell ⟨b, 1, none⟩ v') ∧ (∀ k, v'.ownBlock = some k → v.ownBlock = some k ∨ w.heap.size ≤ k) := by
 have hb : w3.heap[b]? = some (.cells #[.int .i64 (x.st : Int), v, .int .i64 x.la.1, .int .i64 x.la.2] T (0, 0)) := by
  have hl := heap_lt h.box
  rw [hg.block b (by have := hu.size; omega) (fun e => h.row.no h.box hT e.symm), hu.block b hl]
  exact h.box
 have hv : Ents w3 v' (x.l ++ [(n, o)]) := by
  unfold Ents
  rw [ecells_snoc, List.length_append]
  exact ho
 have g1 : But (fun k => k = b) w3 (w3.setCell ⟨b, 1, none⟩ v') := But.of_grownBy (grown_setCell _ _ _ _) fun k e => by cases e; rfl
 refine ⟨hb, ⟨?_, ?_⟩, ?_, ?_⟩
 ·rw [heap_setCell_same w3 b 1 _ _ _ hb]; simp
 ·exact hv.but g1 fun k hk e => hv.no hb hT (by rw [← e]; exact hk)
 ·exact ((But.of_below hu _).trans (But.of_grownBy hg fun k e => .inr e)).trans (g1.mono fun k _ e => .inl e)
 ·intro k hk
  rcases hat with e | ⟨k', e, hk'⟩
  ·exact .inl (by rw [← e]; exact hk)
  ·rw [e] at hk; cases hk; exact .inr hk'
theorem hat_of {v : Value} {g n c H B : Nat} (h : v.ownBlock = some g ∨ g = H) (hB : B ≤ H) : (Value.slice (some ⟨g, 0, none⟩) n c).ownBlock = v.ownBlock ∨ ∃ k, (Value.slice (some ⟨g, 0, none⟩) n c).ownBlock = some k ∧ B ≤ k := by
 rcases h with h | h
 ·exact .inl h.symm
 ·exact .inr ⟨g, rfl, by omega⟩
theorem infoEnt : (Try.prog.info? 136).map (fun i => (i.zero, i.size, i.bytes)) = some (some (.agg #[.int .i64 0, .int .i64 0]), 2, 16) := by kernel_rfl
theorem two_newE (w : World) (a b : Value) (T : TypeId) : ∀ (j : Nat) (u : Value), [a, b][j]? = some u → (w.alloc (.cells #[a, b] T)).cell? ((⟨w.heap.size, 0, none⟩ : Addr).add j) = some u := by
 intro j u h
 rw [addr_add]
 match j with
 | 0 => simp at h; subst h; unfold World.cell?; rw [show (w.alloc (.cells #[a, b] T)).heap[(⟨w.heap.size, 0 + 0, none⟩ : Addr).block]? = _ from heap_alloc_new _ _]; rfl
 | 1 => simp at h; subst h; unfold World.cell?; rw [show (w.alloc (.cells #[a, b] T)).heap[(⟨w.heap.size, 0 + 1, none⟩ : Addr).block]? = _ from heap_alloc_new _ _]; rfl
 | j + 2 => simp at h
def DoesAdd (T : TypeId) (f : Nat) : Prop := ∀ (w : World) (b : Nat) (x : X) (v : Value) (n o : Int), At T w b x v → Ok x → -9223372036854775808 ≤ n → n ≤ 9223372036854775807 → -9223372036854775808 ≤ o → o ≤ 9223372036854775807 →
 Calls Try.prog f #[.pointer (some ⟨b, 0, none⟩), .int .i64 n, .int .i64 o] w fun e w' => e = .returned (.int .i64 (addF x n o).1) ∧ ∃ v', At T w' b (addF x n o).2 v' ∧ But (Own b v) w w' ∧ (∀ k, v'.ownBlock = some k → v.ownBlock = some k ∨ w.heap.size ≤ k)
def Beh (w w2 : World) (b fb : Nat) (x : X) (v : Value) (n o : Int) : Prop := At TI w2 b x v ∧ w2.cell? ⟨fb, 0, none⟩ = some (.int .i64 n) ∧ w2.cell? ⟨fb, 1, none⟩ = some (.int .i64 o) ∧ Below w.heap.size w w2
theorem add_any : DoesAdd TI 70 := by
 intro w b x v n o h hk n0 n1 o0 o1
 obtain ⟨c0, c1, c2, c3⟩ := h.cells
 have s0 := hk.srt.s0
 have s1 := hk.srt.s1
 have hs0 : ¬ ((x.st : Int) = 0) := by omega
 have hb0 : ((x.st : Int) == 0) = false := by simpa using hs0
 by_cases ha : n < 1 ∨ o < 0 ∨ 2147483647 < o
 ·have hA : Hid (addF x n o = (1, x)) := by show _ = _; rw [addF, if_pos ha]
  have H := hide h
  clear h
  go_enter Try.func70, Try.ntmps70
  by_cases a1 : n < 1
  ·go_wp2_with fail
   go_ret
   rw [hA.out]
   exact ⟨rfl, v, H.out, But.refl _ _, fun k hk => .inl hk⟩
  by_cases a2 : o < 0
  ·go_wp2_with fail
   go_ret
   rw [hA.out]
   exact ⟨rfl, v, H.out, But.refl _ _, fun k hk => .inl hk⟩
  ·have a3 : 2147483647 < o := by omega
   go_wp2_with fail
   go_ret
   rw [hA.out]
   exact ⟨rfl, v, H.out, But.refl _ _, fun k hk => .inl hk⟩
 ·have a1 : ¬ n < 1 := by omega
  have a2 : ¬ o < 0 := by omega
  have a3 : ¬ 2147483647 < o := by omega
  have H := hide h
  have HA := hide ha
  obtain ⟨ao, ca, rfl, q1, q2⟩ := h.row.form
  have hlen := hk.srt.len
  have hW : Hid (At TI (w.alloc (.cells #[.int .i64 n, .int .i64 o] 136)) b x (.slice ao x.l.length ca)) := h.below (box_below _ _)
  have KS : Hid (∀ q : World, Below (w.alloc (.cells #[.int .i64 n, .int .i64 o] 136)).heap.size (w.alloc (.cells #[.int .i64 n, .int .i64 o] 136)) q → Beh w q b w.heap.size x (.slice ao x.l.length ca) n o) := fun q hq => by
   have hh := hq.block w.heap.size (by simp)
   rw [heap_alloc_new] at hh
   obtain ⟨y0, y1, _, _⟩ := two_cells hh
   exact ⟨hW.out.below hq, y0, y1, keepF (box_below _ _) hq⟩
  clear ha h
  obtain ⟨z, hz⟩ : ∃ z, Hid (z = decide (x.l ≠ [] ∧ ¬ (n - 1 = x.la.1 ∧ x.la.2 < o))) := ⟨_, rfl⟩
  have fbv : Hid ((Value.slice ao x.l.length ca).ownBlock ≠ some w.heap.size) := fun e => by have := H.out.row.lt _ e; omega
  obtain ⟨N, hN⟩ : ∃ N, Hid (x.l.length = N) := ⟨_, rfl⟩
  rw [hN.out] at H hlen hW KS c1 q2 fbv ⊢
  have hS0 := KS.out _ (Below.refl _ _)
  go_enter Try.func70, Try.ntmps70
  go_wp2_with fail
  generalize hw1 : w.alloc (.cells #[.int .i64 n, .int .i64 o] 136) = w1 at *
  clear hw1 c0 c1 c2 c3
  obtain ⟨d0, d1, d2, d3⟩ := hS0.1.cells
  obtain ⟨_, f0, f1, _⟩ := hS0
  go_cut [46] from 32 to 45 (fun y wx => y = .bool z ∧ Hid (Beh w wx b w.heap.size x (.slice ao N ca) n o))
  case first =>
   by_cases hl : x.l = []
   ·have hlz : N = 0 := by rw [← hN.out, hl]; rfl
    have hz' : Hid (z = false) := by show _ = _; rw [hz.out]; simp [hl]
    subst hlz
    go_quiet (fail)
    go_wp2_with fail
    go_meet
    case rel => exact ⟨by rw [hz'.out], KS.out _ (Qt.below ⟨_, rfl⟩ _)⟩
   ·have hnp : 0 < N := by rw [← hN.out]; exact List.length_pos_iff.2 hl
    have hni : (0 : Int) < (N : Int) := by omega
    have hz' : Hid ((!decide (n - 1 = x.la.1 ∧ x.la.2 < o)) = z) := by
     show _ = _
     rw [hz.out]
     by_cases q : (n - 1 = x.la.1 ∧ x.la.2 < o) <;> simp [hl, q]
    have KC : Hid (∀ q : World, Below w1.heap.size w1 q → Below w1.heap.size w1 q ∧ q.cell? ⟨b, 1, none⟩ = some (.slice ao N ca) ∧ q.cell? ⟨b, 2, none⟩ = some (.int .i64 x.la.1) ∧ q.cell? ⟨b, 3, none⟩ = some (.int .i64 x.la.2) ∧ q.cell? ⟨w.heap.size, 0, none⟩ = some (.int .i64 n) ∧ q.cell? ⟨w.heap.size, 1, none⟩ = some (.int .i64 o)) := fun q hq => by
     obtain ⟨a, b, c, _⟩ := KS.out q hq
     exact ⟨hq, a.cells.2.1, a.cells.2.2.1, a.cells.2.2.2, b, c⟩
    have hS1 := KC.out w1.drew (Below.refl _ _).drew
    obtain ⟨fv, hfv⟩ : ∃ fv, Hid (decide (n - 1 = x.la.1 ∧ x.la.2 < o) = fv) := ⟨_, rfl⟩
    rw [hfv.out] at hz'
    generalize x.la.1 = p1 at *
    generalize x.la.2 = p2 at *
    clear d0 d1 d2 d3 f0 f1
    go_region_held3 (fun q => Below w1.heap.size w1 q ∧ q.cell? ⟨b, 1, none⟩ = some (.slice ao N ca) ∧ q.cell? ⟨b, 2, none⟩ = some (.int .i64 p1) ∧ q.cell? ⟨b, 3, none⟩ = some (.int .i64 p2) ∧ q.cell? ⟨w.heap.size, 0, none⟩ = some (.int .i64 n) ∧ q.cell? ⟨w.heap.size, 1, none⟩ = some (.int .i64 o))
     (first | exact hS1 | assumption | exact KC.out _ KP | exact KC.out _ (Below.drew KP) | fail)
     (first
      | (go_at_call 90; refine (follows_any _ p1 p2 n o (by omega) n1).mono ?_; rintro e u1 ⟨rfl, B4⟩; rw [hfv.out]; have KP := keepF (And.left (by assumption)) B4)
      | fail)
    all_goals
     go_wp2_with fail
     go_meet
     case rel => exact ⟨by rw [← hz'.out], KS.out _ (And.left (by assumption))⟩
  case rest =>
   obtain ⟨rfl, hbh⟩ := hcut
   clear d0 d1 d2 d3 f0 f1 KS hW
   by_cases hzt : x.l ≠ [] ∧ ¬ (n - 1 = x.la.1 ∧ x.la.2 < o)
   ·have hA : Hid (addF x n o = (63, x)) := by show _ = _; rw [addF, if_neg HA.out, if_pos hzt]
    obtain rfl : z = true := by rw [hz.out]; exact decide_eq_true hzt
    have hF : Hid (At TI wc b x (.slice ao N ca) ∧ Below w.heap.size w wc) := ⟨hbh.out.1, hbh.out.2.2.2⟩
    go_wp2_with fail
    go_ret
    rw [hA.out]
    exact ⟨rfl, _, hF.out.1, But.of_below hF.out.2 _, fun k hk => .inl hk⟩
   ·have hA : Hid (addF x n o = (0, ⟨x.st, if x.l = [] ∨ (x.st : Int) ≤ o - (lastE x.l).2 then x.l ++ [(n, o)] else x.l, (n, o)⟩)) := by show _ = _; rw [addF, if_neg HA.out, if_neg hzt]
    obtain rfl : z = false := by rw [hz.out]; exact decide_eq_false hzt
    clear hzt hz
    go_wp2_with fail
    refine (far_any wc b x _ o hbh.out.1 hk (by omega) (by omega)).mono ?_
    rintro e w2 ⟨rfl, hq⟩
    have hb2 : Hid (Beh w w2 b w.heap.size x (.slice ao N ca) n o) := by
     obtain ⟨a1, a2, a3, a4⟩ := hbh.out
     have hqb := hq.below wc.heap.size
     exact ⟨a1.below hqb, by rw [hqb.cell (lt_of_cell a2)]; exact a2, by rw [hqb.cell (lt_of_cell a3)]; exact a3, keepF a4 hqb⟩
    clear hq hbh
    obtain ⟨d0, d1, d2, d3⟩ := hb2.out.1.cells
    obtain ⟨e0, e1, e2, e3⟩ := hb2.out.1.frozen
    obtain ⟨f0, f1, hB2⟩ := hb2.out.2
    replace hB2 := hide hB2
    by_cases hf : x.l = [] ∨ (x.st : Int) ≤ o - (lastE x.l).2
    ·rw [if_pos hf] at hA
     have hff : farF x o = true := by simpa [farF] using hf
     rw [hff]
     clear hf hff
     obtain ⟨i0, hi, hz0, hz1, hz2⟩ := info_parts infoEnt
     have ROW : Hid (w2.ownsRow 0 136 2 (.slice ao N ca) N (ecells x.l)) := by have := hb2.out.1.row; unfold Ents at this; rw [hN.out] at this; exact this
     have hszf : w.heap.size < w2.heap.size := lt_of_cell f0
     have hbl2 : b < w2.heap.size := lt_of_cell d0
     go_wp2_with fail
     go_region_law (first | (refine step_append_lies _ rfl (.tmp 54) (.tmp 56) 164 rfl 0 136 i0 (.agg #[.int .i64 0, .int .i64 0]) 2 16 Try.underlying164 hi hz0 hz1 hz2 rfl (by decide) (.slice ao N ca) N (ecells x.l) (by simp [Act.eval]) (ROW.out.alloc _) ⟨w2.heap.size, 0, none⟩ 1 1 [.int .i64 n, .int .i64 o] (by simp [Act.eval]) rfl (two_newE _ _ _ _) (by simp [Value.oneCell']) (by decide) (by unfold maxLen; omega) (by omega) (Nat.zero_le _) (w2.heap.size + 1) (by simp) ?_; intro g2 cap2 w3 hown3 hgrow3 hat hlt3; obtain ⟨F1, F2, F3, F4⟩ := At.app hb2.out.1 (by decide) (by first | exact (box_below w2 _).drew | exact (box_below w2.drew _) | exact box_below w2 _) hgrow3 (by rw [hN.out]; exact hown3) (hat_of hat (by omega)); have cc3 := (show w3.cell? ⟨b, 1, none⟩ = some (.slice ao N ca) by simp [World.cell?, F1]); have ff3 := (show w3.frozen? ⟨b, 1, none⟩ = false by simp [World.frozen?, F1])))
     all_goals
      have hbl : b < w.heap.size := H.out.lt b (.inl rfl)
      have y0 : w3.cell? ⟨w.heap.size, 0, none⟩ = some (.int .i64 n) := by
       rw [hgrow3.cell_far ⟨w.heap.size, 0, none⟩ (by simp; omega) (fun e => fbv.out e.symm), Below.cell (by first | exact (box_below w2 _).drew | exact (box_below w2.drew _) | exact box_below w2 _) (by simpa using hszf)]
       exact f0
      have y1 : w3.cell? ⟨w.heap.size, 1, none⟩ = some (.int .i64 o) := by
       rw [hgrow3.cell_far ⟨w.heap.size, 1, none⟩ (by simp; omega) (fun e => fbv.out e.symm), Below.cell (by first | exact (box_below w2 _).drew | exact (box_below w2.drew _) | exact box_below w2 _) (by simpa using hszf)]
       exact f1
      have z0 := (grown_setCell w3 b 1 (.slice (some ⟨g2, 0, none⟩) (N + 1) cap2)).cell y0 (by simp; omega)
      have z1 := (grown_setCell w3 b 1 (.slice (some ⟨g2, 0, none⟩) (N + 1) cap2)).cell y1 (by simp; omega)
      clear d0 d1 d2 d3 e0 e1 e2 e3 f0 f1 y0 y1 cc3 ff3 F1 hown3 hgrow3 hat hlt3 ROW hszf hbl2
      replace F3 := hide F3
      replace F4 := hide F4
      generalize w3.setCell ⟨b, 1, none⟩ (.slice (some ⟨g2, 0, none⟩) (N + 1) cap2) = w4 at *
      obtain ⟨d0, d1, d2, d3⟩ := F2.cells
      obtain ⟨e0, e1, e2, e3⟩ := F2.frozen
      replace F2 := hide F2
      go_wp2_with fail
      go_ret
      rw [hA.out]
      exact ⟨rfl, _, F2.out.setLa (by decide) n o, ((But.of_below hB2.out _).trans F3.out).trans (but_la _ _ _ _ _), fun k hk => (F4.out k hk).imp id fun h => Nat.le_trans hB2.out.size h⟩
    ·rw [if_neg hf] at hA
     have hff : farF x o = false := by simpa [farF] using hf
     rw [hff]
     clear hf hff
     go_wp2_with fail
     go_ret
     rw [hA.out]
     exact ⟨rfl, _, hb2.out.1.setLa (by decide) n o, (But.of_below hB2.out _).trans (but_la _ _ _ _ _), fun k hk => .inl hk⟩
end Go.Proofs.Ytbmnjaaacodgdaa.Ix
namespace Go.Proofs.Ytbmnjaaacodgdaa.Ix
open Go
variable {P : Program} {ops : Array Oper} {Q : Exit → Act → World → Prop} {md : Region.Mode} {S : World → Prop} {d : Nat}
def pathB (md : Region.Mode) (ops : Array Oper) : Nat → List Nat → Bool
 | _, [] => true
 | p, m :: r => (match ops[m]? with | some o => o.after.any fun e => Region.binds md e && e.on == p | none => false) && pathB md ops m r
theorem not_ready {listed : Array Bool} : ∀ (ms : List Nat) (p : Nat), pathB md ops p ms = true → listed.getD p false = false → (∀ m ∈ ms, listed.getD m true = false) → ∀ m ∈ ms, m ∉ Region.ready md ops listed := by
 intro ms
 induction ms with
 | nil => intro p _ _ _ m hm; cases hm
 | cons a r ih =>
  intro p hp hl hu m hm
  rw [pathB, Bool.and_eq_true] at hp
  obtain ⟨h1, h2⟩ := hp
  have ha : a ∉ Region.ready md ops listed := fun hr => by
   obtain ⟨_, o, ho, hall⟩ := mem_ready.1 hr
   rw [ho] at h1
   simp only [Array.any_eq_true] at h1
   obtain ⟨i, hi, he⟩ := h1
   rw [Bool.and_eq_true] at he
   have := hall _ (Array.getElem_mem hi) he.1
   rw [show (o.after[i]).on = p by simpa using he.2, hl] at this
   cases this
  rcases List.mem_cons.1 hm with rfl | hm
  ·exact ha
  ·have hla : listed.getD a false = false := by
     have := hu a (by simp)
     by_cases hs : a < listed.size
     ·simp [Array.getD, hs] at this ⊢; exact this
     ·simp [Array.getD, hs]
   exact ih a h2 hla (fun m hm => hu m (by simp [hm])) m hm
def wpAnyT (P : Program) (md : Region.Mode) (ops : Array Oper) (Q : Exit → Act → World → Prop) (S : World → Prop) (d : Nat) : Nat → Array Bool → Act → World → Prop
 | 0, listed, a, w => Region.ready md ops listed = [] ∧ Q .normal a w
 | fuel + 1, listed, a, w =>
  (Region.ready md ops listed = [] → Q .normal a w) ∧
  ∀ i ∈ Region.ready md ops listed, wpOp P ops Q i (fun a' w' => ((listed.setIfInBounds i true).getD d false = false → S w') ∧ wpAnyT P md ops Q S d fuel (listed.setIfInBounds i true) a' w') a w
theorem wpAny_of_T : ∀ (fuel : Nat) (listed : Array Bool) (a : Act) (w : World), wpAnyT P md ops Q S d fuel listed a w → wpAny P md ops Q fuel listed a w
 | 0, _, _, _, h => h
 | fuel + 1, _, _, _, h => ⟨h.1, fun i hi => wpOp_mono (fun a' w' h' => wpAny_of_T fuel _ a' w' h'.2) (h.2 i hi)⟩
theorem getD_false {listed : Array Bool} {m : Nat} (h : listed.getD m true = false) : listed.getD m false = false := by
 by_cases hs : m < listed.size
 ·simp [Array.getD, hs] at h ⊢; exact h
 ·simp [Array.getD, hs]
theorem vac {b : Bool} {p : Prop} (hb : b = true) : b = false → p := fun h => by rw [hb] at h; cases h
theorem getD_unlisted {listed : Array Bool} {j m : Nat} (h : listed.getD m true = false) (hne : j ≠ m) : (listed.setIfInBounds j true).getD m true = false := by
 rw [getD_set_ne true hne]; exact h
theorem wpAnyT_first {i : Nat} {oi : Oper} {v : Value} {ms : List Nat} (hi : ops[i]? = some oi) (hsel : ∀ (j : Nat) (o : Oper) cs b, ops[j]? = some o → o.op ≠ .select cs b)
    (hQ : ∀ c a w, Q (.panic c) (a.put oi.dst v) w → Q (.panic c) a w) (hpath : pathB md ops i ms = true) (hdm : d ∈ ms) :
    ∀ (fuel : Nat) (listed : Array Bool) (a : Act) (w : World),
     (∀ j oj, ops[j]? = some oj → j ≠ i → listed.getD j true = false → (∀ e ∈ oj.after, Region.binds md e = true → e.on ≠ i) → oi.apart ops oj = true) →
     i ∈ Region.ready md ops listed → (∀ m ∈ ms, listed.getD m true = false) → YieldsIf P ops S oi v a → S w →
     wpAnyT P md ops Q S d fuel (listed.setIfInBounds i true) (a.put oi.dst v) w → wpAnyT P md ops Q S d (fuel + 1) listed a w := by
 intro fuel
 induction fuel with
 | zero =>
  intro listed a w _ hr _ hy hS H
  refine ⟨fun h => (by rw [h] at hr; cases hr), fun j hj => ?_⟩
  by_cases hji : j = i
  ·subst hji; exact hy.wpOp hi hS ⟨fun _ => hS, H⟩
  ·have := ready_mono hj hji
   rw [H.1] at this
   cases this
 | succ fuel ih =>
  intro listed a w hfree hr hms hy hS H
  refine ⟨fun h => (by rw [h] at hr; cases hr), fun j hj => ?_⟩
  by_cases hji : j = i
  ·subst hji; exact hy.wpOp hi hS ⟨fun _ => hS, H⟩
  ·have hil : listed.getD i false = false := by
     have := (mem_ready.1 hr).1
     by_cases hs : i < listed.size
     ·simp [Array.getD, hs] at this ⊢; exact this
     ·simp [Array.getD, hs]
   have hnm : j ∉ ms := fun h => not_ready ms i hpath hil hms j h hj
   have hjd : j ≠ d := fun e => hnm (by rw [e]; exact hdm)
   have hid : i ≠ d := fun e => not_ready ms i hpath hil hms d hdm (by rw [← e]; exact hr)
   have hdj : ((listed.setIfInBounds i true).setIfInBounds j true).getD d false = false := getD_false (getD_unlisted (getD_unlisted (hms d hdm) hid) hjd)
   have h1 := H.2 j (ready_mono hj hji)
   obtain ⟨hjun, oj, hoj, hall⟩ := mem_ready.1 hj
   have hnot : ∀ e ∈ oj.after, Region.binds md e = true → e.on ≠ i := fun e he hb heq => by
    have h1 := hall e he hb
    rw [heq, hil] at h1
    cases h1
   have h2 := wpOp_putIf hoj (hfree j oj hoj hji hjun hnot) (fun cs b => hsel i oi cs b hi) (fun cs b => hsel j oj cs b hoj) hQ hy h1
   have hfree' : ∀ k ok, ops[k]? = some ok → k ≠ i → (listed.setIfInBounds j true).getD k true = false →
       (∀ e ∈ ok.after, Region.binds md e = true → e.on ≠ i) → oi.apart ops ok = true := fun k ok hk hki hun hno => by
    refine hfree k ok hk hki ?_ hno
    by_cases hjk : j = k
    ·subst hjk; exact hjun
    ·rw [getD_set_ne true hjk] at hun; exact hun
   refine wpOp_mono (fun a' w' h3 => ⟨fun _ => h3.2.1 hdj, ih (listed.setIfInBounds j true) a' w' hfree' (ready_mono hr (Ne.symm hji)) (fun m hm => getD_unlisted (hms m hm) (fun e => hnm (by rw [e]; exact hm))) h3.1 (h3.2.1 hdj) ?_⟩) h2
   rw [Array.setIfInBounds_comm _ _ hji]
   exact h3.2.2
theorem wpAnyT_take {i : Nat} {oi : Oper} {v : Value} (ms : List Nat) {fuel : Nat} {listed : Array Bool} {a : Act} {w : World} (hi : ops[i]? = some oi)
    (hs : Region.noSelect ops = true) (hf : Region.free md ops listed i = true) (hr : (Region.ready md ops listed).contains i = true)
    (hp : (pathB md ops i ms && ms.contains d && ms.all fun m => listed.getD m true == false) = true)
    (hQ : ∀ c a w, Q (.panic c) (a.put oi.dst v) w → Q (.panic c) a w) (hy : YieldsIf P ops S oi v a) (hS : S w)
    (h : wpAnyT P md ops Q S d fuel (listed.setIfInBounds i true) (a.put oi.dst v) w) : wpAnyT P md ops Q S d (fuel + 1) listed a w := by
 simp only [Bool.and_eq_true, List.all_eq_true] at hp
 exact wpAnyT_first hi (Region.noSelect_spec hs) hQ hp.1.1 (by simpa using hp.1.2) fuel listed a w (Region.free_spec hi hf) (by simpa using hr) (fun m hm => by simpa using hp.2 m hm) hy hS h
theorem wpAnyT_one {i : Nat} {o : Oper} {fuel : Nat} {listed : Array Bool} {a : Act} {w : World} (hr : Region.ready md ops listed = [i]) (ho : ops[i]? = some o)
    (h : ∀ K' : Act → World → Prop, Shut (∀ a w, ((listed.setIfInBounds i true).getD d false = false → S w) → wpAnyT P md ops Q S d fuel (listed.setIfInBounds i true) a w → K' a w) → if Region.wanted o (yielded ops a.tmps) = true then Oper.wp P o a w K' Q else K' (a.put o.dst undef) w) :
    wpAnyT P md ops Q S d (fuel + 1) listed a w := by
 refine ⟨fun h0 => (by rw [h0] at hr; cases hr), fun j hj => ?_⟩
 rw [hr, List.mem_singleton] at hj
 subst hj
 exact wpOp_step ho (fun K' hK => h K' (fun a w hS hW => hK a w ⟨hS, hW⟩))
theorem _root_.Go.Proofs.Ytbmnjaaacodgdaa.zzp (l : List Value) (d : List Deferred) (t : Nat) (v : Value) : (Act.mk l.toArray d).put (some t) v = Act.mk (l.set t v).toArray d := by simp [Act.put]
theorem _root_.Go.Proofs.Ytbmnjaaacodgdaa.zzq (a : Act) (v : Value) : a.put none v = a := rfl
theorem _root_.Go.Proofs.Ytbmnjaaacodgdaa.zzb {α : Type} (a b : α) (l : List α) : (a :: l).set 0 b = b :: l := rfl
theorem _root_.Go.Proofs.Ytbmnjaaacodgdaa.zzc {α : Type} (a b : α) (l : List α) (n : Nat) : (a :: l).set (n + 1) b = a :: l.set n b := rfl
theorem tk (i : Nat) (oi : Oper) (v : Value) (ms : List Nat) {fuel : Nat} {listed : Array Bool} {a : Act} {w : World} (hy : ∀ w, S w → (execOp a.eval oi).run P w = .ok (.value v) w) (hS : S w)
    (h : wpAnyT P md ops Q S d fuel (listed.setIfInBounds i true) (a.put oi.dst v) w) (hi : ops[i]? = some oi := by rfl) (hw : Region.wanted oi (yielded ops a.tmps) = true := by rfl)
    (hs : Region.noSelect ops = true := by kernel_rfl) (hf : Region.free md ops listed i = true := by kernel_rfl) (hr : (Region.ready md ops listed).contains i = true := by kernel_rfl)
    (hp : (pathB md ops i ms && ms.contains d && ms.all fun m => listed.getD m true == false) = true := by kernel_rfl) (hQ : ∀ c a w, Q (.panic c) (a.put oi.dst v) w → Q (.panic c) a w := by exact fun _ _ _ h => h) :
    wpAnyT P md ops Q S d (fuel + 1) listed a w := wpAnyT_take ms hi hs hf hr hp hQ (.inl ⟨hw, hy⟩) hS h
theorem wpAnyT_done {listed : Array Bool} {a : Act} {w : World} (hr : Region.ready md ops listed = []) (h : Q .normal a w) : ∀ fuel, wpAnyT P md ops Q S d fuel listed a w
 | 0 => ⟨hr, h⟩
 | _ + 1 => ⟨fun _ => h, by rw [hr]; simp⟩
theorem wp_region_T {id : Nat} {a : Act} {w : World} (S : World → Prop) (d : Nat) (hm : P.follows .mixedOrders = true)
    (h : wpAnyT P .any ops Q S d ops.size (Array.replicate ops.size false) a w.drew) : (Code.region id ops true).wp P Q a w :=
 wp_region_any hm (wpAny_of_T _ _ _ _ h)
end Go.Proofs.Ytbmnjaaacodgdaa.Ix
namespace Go.Proofs.Ytbmnjaaacodgdaa.Dk
open Go.RowKit Go.Maps Go.Proofs.Ytbmnjaaacodgdaa.Nm
structure Sb (w u : World) (b rb : Nat) (cs : Array Value) (am : Option Nat) (al : Ar) (f : Ft) : Prop where
 box : u.heap[b]? = some (.cells cs TD (0, 0))
 ans : u.heap[rb]? = some (.cells #[.int .i64 f.1, .int .i64 f.2.1, .int .i64 f.2.2] 105 (0, 0))
 arm : ∀ m, am = some m → Am u m al
 but : But (fun k => k = b ∨ am = some k) w u
 lo : w.heap.size ≤ rb
theorem Sb.ne {w u : World} {b rb : Nat} {cs : Array Value} {am : Option Nat} {al : Ar} {f : Ft} (h : Sb w u b rb cs am al f) : b ≠ rb := by
 intro e
 have h1 := h.box
 rw [e, h.ans] at h1
 simp [TD] at h1
theorem Am.setCell {u : World} {m : Nat} {al : Ar} (h : Am u m al) {b j : Nat} {v : Value} (hb : b ≠ m) : Am (u.setCell ⟨b, j, none⟩ v) m al := h.heap ((grown_setCell u b j v).block m h.lt (by simpa using fun e => hb e.symm))
theorem Am.ne {u : World} {m b : Nat} {al : Ar} {cs : Array Value} {T : TypeId} {z : Nat × Nat} (h : Am u m al) (hb : u.heap[b]? = some (.cells cs T z)) : b ≠ m := by
 rintro rfl
 obtain ⟨es, clock, h, _⟩ := h
 rw [hb] at h
 cases h
theorem Sb.set {w u : World} {b rb : Nat} {cs : Array Value} {am : Option Nat} {al : Ar} {f : Ft} (h : Sb w u b rb cs am al f) (j : Nat) (v : Value) : Sb w (u.setCell ⟨b, j, none⟩ v) b rb (cs.setIfInBounds j v) am al f := by
 have g := grown_setCell u b j v
 refine ⟨heap_setCell_same _ _ _ _ _ _ h.box, ?_, fun m e => ((h.arm m e)).setCell ((h.arm m e).ne h.box), h.but.trans (But.of_grownBy g fun k e => by cases e; exact .inl rfl), h.lo⟩
 rw [g.block rb (heap_lt h.ans) (by simpa using fun e => h.ne e.symm)]
 exact h.ans
theorem Sb.start {w : World} {b : Nat} {cs : Array Value} {am : Option Nat} {al : Ar} (hb : w.heap[b]? = some (.cells cs TD (0, 0))) (hm : ∀ m, am = some m → Am w m al) :
    Sb w (w.alloc (.cells #[.int .i64 0, .int .i64 0, .int .i64 0] 105)) b w.heap.size cs am al zf := by
 have hB := (Below.refl _ w).alloc (Nat.le_refl _) (.cells #[.int .i64 0, .int .i64 0, .int .i64 0] 105)
 exact ⟨(hB.block b (heap_lt hb)).trans hb, heap_alloc_new _ _, fun m e => (hm m e).heap (hB.block m (hm m e).lt), But.of_below hB _, Nat.le_refl _⟩
theorem Sb.more {w u u' : World} {b rb : Nat} {cs : Array Value} {am : Option Nat} {al : Ar} {f : Ft} (h : Sb w u b rb cs am al f) (hB : Below u.heap.size u u') : Sb w u' b rb cs am al f :=
 ⟨(hB.block b (heap_lt h.box)).trans h.box, (hB.block rb (heap_lt h.ans)).trans h.ans, fun m e => (h.arm m e).heap (hB.block m (h.arm m e).lt), h.but.trans (But.of_below hB _), h.lo⟩
theorem Sb.cell {w u : World} {b rb : Nat} {cs : Array Value} {am : Option Nat} {al : Ar} {f : Ft} (h : Sb w u b rb cs am al f) (i : Nat) : u.cell? ⟨b, i, none⟩ = cs[i]? := by simp [World.cell?, h.box]
theorem Sb.frozen {w u : World} {b rb : Nat} {cs : Array Value} {am : Option Nat} {al : Ar} {f : Ft} (h : Sb w u b rb cs am al f) (i : Nat) : u.frozen? ⟨b, i, none⟩ = false := by simp [World.frozen?, h.box]
theorem Sb.put {w u : World} {b rb : Nat} {cs : Array Value} {am : Option Nat} {al : Ar} {g : Ft} (h : Sb w u b rb cs am al g) (f : Ft) :
    Sb w (((u.setCell ⟨rb, 0, none⟩ (.int .i64 f.1)).setCell ⟨rb, 1, none⟩ (.int .i64 f.2.1)).setCell ⟨rb, 2, none⟩ (.int .i64 f.2.2)) b rb cs am al f := by
 have g0 := grown_setCell u rb 0 (.int .i64 f.1)
 have g1 := grown_setCell (u.setCell ⟨rb, 0, none⟩ (.int .i64 f.1)) rb 1 (.int .i64 f.2.1)
 have g2 := grown_setCell ((u.setCell ⟨rb, 0, none⟩ (.int .i64 f.1)).setCell ⟨rb, 1, none⟩ (.int .i64 f.2.1)) rb 2 (.int .i64 f.2.2)
 have B := ((But.of_grownBy (X := fun k => k = rb) g0 fun k e => by cases e; rfl).trans (But.of_grownBy g1 fun k e => by cases e; rfl)).trans (But.of_grownBy g2 fun k e => by cases e; rfl)
 have z0 := heap_setCell_same u rb 0 _ _ (.int .i64 f.1) h.ans
 have z1 := heap_setCell_same _ rb 1 _ _ (.int .i64 f.2.1) z0
 have z2 := heap_setCell_same _ rb 2 _ _ (.int .i64 f.2.2) z1
 refine ⟨B.at h.box h.ne, by simpa using z2, fun m e => (h.arm m e).heap (B.block m (h.arm m e).lt (fun q => (h.arm m e).ne h.ans q.symm)), ?_, h.lo⟩
 have lo := h.lo
 exact ⟨B.os.trans h.but.os, B.tape.trans h.but.tape, B.output.trans h.but.output, Nat.le_trans h.but.size B.size, fun k hk hx => (B.block k (Nat.lt_of_lt_of_le hk h.but.size) (by omega)).trans (h.but.block k hk hx)⟩
theorem cells3 {w : World} {b : Nat} {a0 a1 a2 : Value} {T : TypeId} {z : Nat × Nat} (h : w.heap[b]? = some (.cells #[a0, a1, a2] T z)) : w.cell? ⟨b, 0, none⟩ = some a0 ∧ w.cell? ⟨b, 1, none⟩ = some a1 ∧ w.cell? ⟨b, 2, none⟩ = some a2 := by simp [World.cell?, h]
theorem frozen3 {w : World} {b : Nat} {a0 a1 a2 : Value} {T : TypeId} (h : w.heap[b]? = some (.cells #[a0, a1, a2] T (0, 0))) : w.frozen? ⟨b, 0, none⟩ = false ∧ w.frozen? ⟨b, 1, none⟩ = false ∧ w.frozen? ⟨b, 2, none⟩ = false := by simp [World.frozen?, h]
theorem begin_gen (w : World) (b j : Nat) (cs : Array Value) (c a : Int) (am : Option Nat) (al : Ar) (hb : w.heap[b]? = some (.cells cs TD (0, 0))) (hz : cs.size = 15) (hj : j < 7)
    (h1 : cs[6 + j]? = some (.int .i64 c)) (h2 : cs[13]? = some (.int .i64 a)) (h3 : cs[5]? = some (.map am)) (hm : ∀ m, am = some m → Am w m al) (hn : am = none → al = [])
    (c0 : 0 ≤ c) (c1 : c < 4611686018427387904) (a0 : 0 ≤ a) (a1 : a < 4611686018427387904) :
    Calls Try.prog 40 #[.pointer (some ⟨b, 0, none⟩), .pointer (some ⟨b, 6 + j, none⟩)] w fun e w' => e = .returned (fv ((aget al (a + 1)).getD zf)) ∧
     w'.heap[b]? = some (.cells ((cs.setIfInBounds (6 + j) (.int .i64 (c + 1))).setIfInBounds 13 (.int .i64 (a + 1))) TD (0, 0)) ∧ (∀ m, am = some m → Am w' m (adel al (a + 1))) ∧ But (fun k => k = b ∨ am = some k) w w' := by
 obtain ⟨f, hf⟩ : ∃ f, Hid ((aget al (a + 1)).getD zf = f) := ⟨_, rfl⟩
 rw [hf.out]
 have S0 := hide (Sb.start (am := am) hb hm)
 obtain ⟨u0, hu0⟩ : ∃ u0, Hid (w.alloc (.cells #[.int .i64 0, .int .i64 0, .int .i64 0] 105) = u0) := ⟨_, rfl⟩
 rw [hu0.out] at S0
 have k1 : u0.cell? ⟨b, 6 + j, none⟩ = some (.int .i64 c) := (S0.out.cell _).trans h1
 have k2 := S0.out.frozen (6 + j)
 replace hm := hide hm
 replace hb := hide hb
 replace hn := hide hn
 clear h1
 go_enter Try.func40, Try.ntmps40
 go_upto_region 1 with fail
 rw [hu0.out]
 go_upto_region 2 with fail
 have S1 := hide (S0.out.set (6 + j) (.int .i64 (c + 1)))
 generalize u0.setCell ⟨b, 6 + j, none⟩ (.int .i64 (c + 1)) = u1 at *
 obtain ⟨cs1, hc1⟩ : ∃ cs1, Hid (cs.setIfInBounds (6 + j) (.int .i64 (c + 1)) = cs1) := ⟨_, rfl⟩
 rw [hc1.out] at S1
 have g2 : cs1[13]? = some (.int .i64 a) := by rw [← hc1.out, Array.getElem?_setIfInBounds_ne (by omega)]; exact h2
 have g3 : cs1[5]? = some (.map am) := by rw [← hc1.out, Array.getElem?_setIfInBounds_ne (by omega)]; exact h3
 have g4 : cs1.size = 15 := by rw [← hc1.out]; simpa using hz
 have l1 : u1.cell? ⟨b, 13, none⟩ = some (.int .i64 a) := (S1.out.cell _).trans g2
 have l2 := S1.out.frozen 13
 clear k1 k2 S0 hu0 h2 h3 hz
 go_upto_region 3 with fail
 have S2 := hide (S1.out.set 13 (.int .i64 (a + 1)))
 generalize u1.setCell ⟨b, 13, none⟩ (.int .i64 (a + 1)) = u2 at *
 obtain ⟨cs2, hc2⟩ : ∃ cs2, Hid (cs1.setIfInBounds 13 (.int .i64 (a + 1)) = cs2) := ⟨_, rfl⟩
 rw [hc2.out] at S2
 have g5 : cs2[13]? = some (.int .i64 (a + 1)) := by rw [← hc2.out, Array.getElem?_setIfInBounds_self_of_lt (by omega)]
 have g6 : cs2[5]? = some (.map am) := by rw [← hc2.out, Array.getElem?_setIfInBounds_ne (by omega)]; exact g3
 have m1 : u2.cell? ⟨b, 13, none⟩ = some (.int .i64 (a + 1)) := (S2.out.cell _).trans g5
 have m2 : u2.cell? ⟨b, 5, none⟩ = some (.map am) := (S2.out.cell _).trans g6
 clear l1 l2 S1 g2 g3 g4
 have hG : ∀ q : World, (∀ m, am = some m → Am q m al) → (Instr.lookup 49 (.map am) (.int .i64 (a + 1)) false).run Try.prog q = .ok (.agg #[.int .i64 f.1, .int .i64 f.2.1, .int .i64 f.2.2]) q := by
  intro q hq
  cases am with
  | none => have := look_nilA q (n := a + 1) (by omega) (by omega); have hq := hf.out; rw [hn.out rfl] at hq; simp [aget] at hq; rw [← hq]; exact this
  | some m => have := (hq m rfl).look (n := a + 1) (by omega) (by omega); rw [hf.out] at this; exact this
 have L1 := hG u2.drew fun m e => S2.out.arm m e
 have L2 := hG (u2.alloc (.cells #[.int .i64 0, .int .i64 0, .int .i64 0] 105)).drew fun m e => (S2.out.arm m e).heap (by show (u2.alloc _).heap[m]? = _; exact Below.heap_alloc _ _ _ (S2.out.arm m e).lt)
 have n1 : (u2.alloc (.cells #[.int .i64 0, .int .i64 0, .int .i64 0] 105)).cell? ⟨b, 13, none⟩ = some (.int .i64 (a + 1)) := by rw [((Below.refl _ u2).alloc (Nat.le_refl _) _).cell (p := ⟨b, 13, none⟩) (lt_of_cell m1)]; exact m1
 have n2 : (u2.alloc (.cells #[.int .i64 0, .int .i64 0, .int .i64 0] 105)).cell? ⟨b, 5, none⟩ = some (.map am) := by rw [((Below.refl _ u2).alloc (Nat.le_refl _) _).cell (p := ⟨b, 5, none⟩) (lt_of_cell m2)]; exact m2
 replace hG := hide hG
 go_upto_region 3 with fail
 go_region
 all_goals
  have S3 : Hid (Sb w (u2.alloc (.cells #[.int .i64 f.1, .int .i64 f.2.1, .int .i64 f.2.2] 105)).drew b w.heap.size cs2 am al zf) := S2.out.more (((Below.refl _ u2).alloc (Nat.le_refl _) _).drew)
  have F3 : Hid ((u2.alloc (.cells #[.int .i64 f.1, .int .i64 f.2.1, .int .i64 f.2.2] 105)).drew.heap[u2.heap.size]? = some (.cells #[.int .i64 f.1, .int .i64 f.2.1, .int .i64 f.2.2] 105 (0, 0))) := heap_alloc_new u2 _
  have Z3 : Hid (w.heap.size < u2.heap.size) := heap_lt S2.out.ans
  generalize (u2.alloc (.cells #[.int .i64 f.1, .int .i64 f.2.1, .int .i64 f.2.2] 105)).drew = u3 at *
  have m3 : u3.cell? ⟨b, 13, none⟩ = some (.int .i64 (a + 1)) := (S3.out.cell _).trans g5
  have m4 : u3.cell? ⟨b, 5, none⟩ = some (.map am) := (S3.out.cell _).trans g6
  clear L1 L2 n1 n2 m1 m2 hG S2 g5 g6
  obtain ⟨u4, hD, S4, F4⟩ : ∃ u4, (Builtin.delete_ #[49, 2] 0 #[.map am, .int .i64 (a + 1)]).run Try.prog u3.drew = .ok (.tuple #[]) u4 ∧ Hid (Sb w u4 b w.heap.size cs2 am (adel al (a + 1)) zf) ∧ Hid (u4.heap[u2.heap.size]? = some (.cells #[.int .i64 f.1, .int .i64 f.2.1, .int .i64 f.2.2] 105 (0, 0))) := by
   cases am with
   | none => exact ⟨u3.drew, drop_nilA u3.drew (by omega) (by omega) 0, by have q := S3.out.more (Below.refl _ u3).drew; rw [hn.out rfl] at q ⊢; exact q, F3.out⟩
   | some m =>
    have hA : Am u3.drew m al := S3.out.arm m rfl
    obtain ⟨u4, hr, h4, ht⟩ := hA.drop (n := a + 1) (by omega) (by omega) 0
    refine ⟨u4, hr, ⟨?_, ?_, fun m' e => by cases e; exact h4, ?_, S3.out.lo⟩, ?_⟩
    ·exact (turned_but ht).at (k := b) S3.out.box ((S3.out.arm m rfl).ne S3.out.box)
    ·exact (turned_but ht).at (k := w.heap.size) S3.out.ans ((S3.out.arm m rfl).ne S3.out.ans)
    ·exact (S3.out.more (Below.refl _ u3).drew).but.trans ((turned_but ht).mono fun k _ e => .inr (by rw [e]))
    ·exact (turned_but ht).at (k := u2.heap.size) F3.out ((S3.out.arm m rfl).ne F3.out)
  go_upto_region 4 with fail
  go_region
  obtain ⟨x0, x1, x2⟩ := cells3 F4.out
  obtain ⟨y0, y1, y2⟩ := cells3 S4.out.ans
  obtain ⟨r0, r1, r2⟩ := frozen3 S4.out.ans
  go_wp2_with fail
  have S5 := hide (S4.out.put f)
  generalize ((u4.setCell ⟨w.heap.size, 0, none⟩ (.int .i64 f.1)).setCell ⟨w.heap.size, 1, none⟩ (.int .i64 f.2.1)).setCell ⟨w.heap.size, 2, none⟩ (.int .i64 f.2.2) = u5 at *
  clear x0 x1 x2 y0 y1 y2 r0 r1 r2 S4 F4
  obtain ⟨x0, x1, x2⟩ := cells3 S5.out.ans
  refine bodyPost_ret (v := fv f) (by simp [results, Try.results40, go_sem, x0, x1, x2]; try rfl) rfl ?_
  exact ⟨rfl, by rw [hc1.out, hc2.out]; exact S5.out.box, S5.out.arm, S5.out.but⟩
def strF (k : Int) : Int := if k = 1 then 20 else if k = 2 then 21 else if k = 3 then 22 else 0
def strC (k : Int) (cs : Array Value) : Array Value := if k = 3 then cs.setIfInBounds 1 (.bool false) else cs
theorem strike_any (w : World) (b : Nat) (cs : Array Value) (f : Ft) (hb : w.heap[b]? = some (.cells cs TD (0, 0))) (h1 : ∃ u, cs[1]? = some u) (hk : f.2.1 ≠ 4) :
    Calls Try.prog 42 #[.pointer (some ⟨b, 0, none⟩), fv f] w fun e w' => e = .returned (.int .i64 (strF f.2.1)) ∧ w'.heap[b]? = some (.cells (strC f.2.1 cs) TD (0, 0)) ∧ But (fun k => k = b) w w' := by
 obtain ⟨a, k, p⟩ := f
 obtain ⟨u, h1⟩ := h1
 dsimp only at hk ⊢
 have hB := hide ((Below.refl _ w).alloc (Nat.le_refl _) (.cells #[.int .i64 a, .int .i64 k, .int .i64 p] 105))
 have hN : Hid ((w.alloc (.cells #[.int .i64 a, .int .i64 k, .int .i64 p] 105)).heap[w.heap.size]? = some (.cells #[.int .i64 a, .int .i64 k, .int .i64 p] 105 (0, 0))) := heap_alloc_new _ _
 obtain ⟨w1, hw1⟩ : ∃ w1, Hid (w.alloc (.cells #[.int .i64 a, .int .i64 k, .int .i64 p] 105) = w1) := ⟨_, rfl⟩
 rw [hw1.out] at hB hN
 have hb1 : w1.heap[b]? = some (.cells cs TD (0, 0)) := (hB.out.block b (heap_lt hb)).trans hb
 obtain ⟨x0, x1, x2⟩ := cells3 hN.out
 have y1 : w1.cell? ⟨b, 1, none⟩ = some u := by simp [World.cell?, hb1, h1]
 have y2 : w1.frozen? ⟨b, 1, none⟩ = false := by simp [World.frozen?, hb1]
 have hG := hide (But.of_grownBy (X := fun k => k = b) (grown_setCell w1 b 1 (.bool false)) fun k e => by cases e; rfl)
 have hC := hide (heap_setCell_same w1 b 1 _ _ (.bool false) hb1)
 replace hb1 := hide hb1
 unfold fv
 dsimp only
 obtain ⟨E, hE⟩ : ∃ E, Hid (strF k = E) := ⟨_, rfl⟩
 obtain ⟨C, hC0⟩ : ∃ C, Hid (strC k cs = C) := ⟨_, rfl⟩
 rw [hE.out, hC0.out]
 clear hb h1
 by_cases k1 : k = 1
 ·subst k1
  go_enter Try.func42, Try.ntmps42
  go_upto_region 1 with fail
  rw [hw1.out]
  go_wp2_with fail
  go_ret
  exact ⟨by rw [← hE.out]; rfl, by rw [← hC0.out]; exact hb1.out, But.of_below hB.out _⟩
 have k1' : (k == 1) = false := by simpa using k1
 by_cases k2 : k = 2
 ·subst k2
  go_enter Try.func42, Try.ntmps42
  go_upto_region 1 with fail
  rw [hw1.out]
  go_wp2_with fail
  go_ret
  exact ⟨by rw [← hE.out]; rfl, by rw [← hC0.out]; exact hb1.out, But.of_below hB.out _⟩
 have k2' : (k == 2) = false := by simpa using k2
 by_cases k3 : k = 3
 ·subst k3
  go_enter Try.func42, Try.ntmps42
  go_upto_region 1 with fail
  rw [hw1.out]
  go_wp2_with fail
  go_ret
  exact ⟨by rw [← hE.out]; rfl, by rw [← hC0.out]; exact hC.out, (But.of_below hB.out _).trans hG.out⟩
 have k3' : (k == 3) = false := by simpa using k3
 have k4' : (k == 4) = false := by simpa using hk
 have e1 : Hid (E = 0) := by show _ = _; rw [← hE.out]; simp [strF, k1, k2, k3]
 have e2 : Hid (C = cs) := by show _ = _; rw [← hC0.out]; simp [strC, k3]
 clear hE hC0
 go_enter Try.func42, Try.ntmps42
 go_upto_region 1 with fail
 rw [hw1.out]
 go_wp2_with fail
 go_ret
 exact ⟨by rw [e1.out]; rfl, by rw [e2.out]; exact hb1.out, But.of_below hB.out _⟩
def strR (k : Int) : Int := if k = 2 then 0 else strF k
theorem strikeRoomless_any (w : World) (b : Nat) (cs : Array Value) (f : Ft) (hb : w.heap[b]? = some (.cells cs TD (0, 0))) (h1 : ∃ u, cs[1]? = some u) (hk : f.2.1 ≠ 4) :
    Calls Try.prog 53 #[.pointer (some ⟨b, 0, none⟩), fv f] w fun e w' => e = .returned (.int .i64 (strR f.2.1)) ∧ w'.heap[b]? = some (.cells (strC f.2.1 cs) TD (0, 0)) ∧ But (fun k => k = b) w w' := by
 have hB := hide ((Below.refl _ w).alloc (Nat.le_refl _) (.cells #[.int .i64 f.1, .int .i64 f.2.1, .int .i64 f.2.2] 105))
 have hN : Hid ((w.alloc (.cells #[.int .i64 f.1, .int .i64 f.2.1, .int .i64 f.2.2] 105)).heap[w.heap.size]? = some (.cells #[.int .i64 f.1, .int .i64 f.2.1, .int .i64 f.2.2] 105 (0, 0))) := heap_alloc_new _ _
 obtain ⟨w1, hw1⟩ : ∃ w1, Hid (w.alloc (.cells #[.int .i64 f.1, .int .i64 f.2.1, .int .i64 f.2.2] 105) = w1) := ⟨_, rfl⟩
 rw [hw1.out] at hB hN
 have hb1 : w1.heap[b]? = some (.cells cs TD (0, 0)) := (hB.out.block b (heap_lt hb)).trans hb
 have hS := strike_any w1 b cs f hb1 h1 hk
 unfold fv at hS ⊢
 obtain ⟨a, k, p⟩ := f
 dsimp only at *
 obtain ⟨x0, x1, x2⟩ := cells3 hN.out
 replace hb1 := hide hb1
 by_cases k2 : k = 2
 ·subst k2
  clear hS hb
  go_enter Try.func53, Try.ntmps53
  go_upto_region 1 with fail
  rw [hw1.out]
  go_wp2_with fail
  go_ret
  exact ⟨rfl, hb1.out, But.of_below hB.out _⟩
 have k2' : (k == 2) = false := by simpa using k2
 obtain ⟨E, hE⟩ : ∃ E, Hid (strF k = E) := ⟨_, rfl⟩
 have hR : Hid (strR k = E) := by show _ = _; rw [← hE.out]; simp [strR, k2]
 rw [hR.out]
 rw [hE.out] at hS
 clear hb
 go_enter Try.func53, Try.ntmps53
 go_upto_region 1 with fail
 rw [hw1.out]
 go_wp2_with (go_at_call 42; refine hS.mono ?_; rintro e w2 ⟨rfl, hc, hbt⟩; replace hc := hide hc; replace hbt := hide hbt)
 go_ret
 exact ⟨rfl, hc.out, (But.of_below hB.out _).trans hbt.out⟩
theorem Mp.ne {u : World} {m b : Nat} {l : Dr} {cs : Array Value} {T : TypeId} {z : Nat × Nat} (h : Mp u m l) (hb : u.heap[b]? = some (.cells cs T z)) : b ≠ m := by
 rintro rfl
 obtain ⟨es, clock, h, _⟩ := h
 rw [hb] at h
 cases h
theorem Mp.but {X : Nat → Prop} {A B : World} {m : Nat} {l : Dr} (h : Mp A m l) (hb : But X A B) (hx : ¬ X m) : Mp B m l := h.heap (hb.block m h.lt hx)
theorem Am.but {X : Nat → Prop} {A B : World} {m : Nat} {l : Ar} (h : Am A m l) (hb : But X A B) (hx : ¬ X m) : Am B m l := h.heap (hb.block m h.lt hx)
def newC (most : Int) (f g : Nat) : Array Value := dcells ⟨most, true, some f, some g, .slice none 0 0, none, 0, 0, 0, 0, 0, 0, 0, 0, 0⟩
theorem new_any (w : World) (most : Int) (h0 : -9223372036854775808 ≤ most) (h1 : most ≤ 9223372036854775807) :
    Calls Try.prog 6 #[.int .i64 most] w fun e w' => Below w.heap.size w w' ∧ ((¬ (0 ≤ most ∧ most ≤ 16777216) ∧ e = .returned (.pointer none) ∧ w' = w) ∨
     (0 ≤ most ∧ most ≤ 16777216 ∧ e = .returned (.pointer (some ⟨w.heap.size + 2, 0, none⟩)) ∧ w'.heap[w.heap.size + 2]? = some (.cells (newC most w.heap.size (w.heap.size + 1)) TD (0, 0)) ∧ Mp w' w.heap.size [] ∧ Mp w' (w.heap.size + 1) [])) := by
 by_cases h2 : 0 ≤ most ∧ most ≤ 16777216
 ·obtain ⟨g1, g2⟩ := h2
  have hmm := @run_makeMap Try.prog
  have n1 : ¬ most < 0 := by omega
  have n2 : ¬ 16777216 < most := by omega
  obtain ⟨u, hu⟩ : ∃ u, Hid (((w.alloc (.map #[] 0)).alloc (.map #[] 0)).alloc (.cells (newC most w.heap.size (w.heap.size + 1)) TD) = u) := ⟨_, rfl⟩
  have hB1 := (Below.refl _ w).alloc (Nat.le_refl _) (.map #[] 0)
  have hB2 := (Below.refl _ (w.alloc (.map #[] 0))).alloc (Nat.le_refl _) (.map #[] 0)
  have hB3 := (Below.refl _ ((w.alloc (.map #[] 0)).alloc (.map #[] 0))).alloc (Nat.le_refl _) (.cells (newC most w.heap.size (w.heap.size + 1)) TD)
  have m1 := Mp.made w
  have m2 := Mp.made (w.alloc (.map #[] 0))
  have n3 := heap_alloc_new ((w.alloc (.map #[] 0)).alloc (.map #[] 0)) (.cells (newC most w.heap.size (w.heap.size + 1)) TD)
  have e1 : (w.alloc (.map #[] 0)).heap.size = w.heap.size + 1 := by simp
  have e2 : ((w.alloc (.map #[] 0)).alloc (.map #[] 0)).heap.size = w.heap.size + 2 := by simp
  rw [e1] at m2
  rw [e2, hu.out] at n3
  have k1 : Mp u w.heap.size [] := by rw [← hu.out]; exact (m1.heap (hB2.block _ (by omega))).heap (hB3.block _ (by omega))
  have k2 : Mp u (w.heap.size + 1) [] := by rw [← hu.out]; exact m2.heap (hB3.block _ (by omega))
  have k3 : Below w.heap.size w u := by rw [← hu.out]; exact (hB1.trans (hB2.mono (by omega))).trans (hB3.mono (by omega))
  have K := hide (And.intro n3 (And.intro k1 (And.intro k2 k3)))
  clear n3 k1 k2 k3 m1 m2 hB1 hB2 hB3 e1 e2
  go_enter Try.func6, Try.ntmps6
  go_wp2_with fail
  go_ret
  obtain ⟨k0, k1, k2, k3⟩ := K.out
  rw [← hu.out] at k0 k1 k2 k3
  exact ⟨k3, rfl, k0, k1, k2⟩
 ·go_enter Try.func6, Try.ntmps6
  by_cases g1 : most < 0
  ·go_wp2_with fail
   go_ret
   exact ⟨Below.refl _ _, by first | exact .inl ⟨h2, rfl, rfl⟩ | exact .inl ⟨rfl, rfl⟩ | exact .inl rfl⟩
  ·have g2 : 16777216 < most := by omega
   go_wp2_with fail
   go_ret
   exact ⟨Below.refl _ _, by first | exact .inl ⟨h2, rfl, rfl⟩ | exact .inl ⟨rfl, rfl⟩ | exact .inl rfl⟩
inductive Ch where
 | cr (n : ByteArray) (p : Nat)
 | rn (f t : ByteArray)
 | rm (n : ByteArray)
def Ch.val : Ch → Value
 | .cr n p => .agg #[.string n, .pointer (some ⟨p, 0, none⟩)]
 | .rn f t => .agg #[.string f, .string t]
 | .rm n => .agg #[.string n]
def Ch.ty : Ch → TypeId
 | .cr _ _ => 120
 | .rn _ _ => 123
 | .rm _ => 125
def Ch.ok : Ch → Prop
 | .cr n _ => n.size ≤ maxLen
 | .rn f t => f.size ≤ maxLen ∧ t.size ≤ maxLen
 | .rm n => n.size ≤ maxLen
def Ch.run (l : Dr) : Ch → Dr
 | .cr n p => dput l n.data.toList p
 | .rn f t => match get l f.data.toList with | some p => ddel (dput l t.data.toList p) f.data.toList | none => l
 | .rm n => ddel l n.data.toList
theorem doC_any (w : World) (m : Nat) (l : Dr) (n : ByteArray) (p : Nat) (hm : Mp w m l) (hn : n.size ≤ maxLen) (hl : l.length < maxLen) :
    Calls Try.prog 161 #[.agg #[.string n, .pointer (some ⟨p, 0, none⟩)], .map (some m)] w fun e w' => e = .returned (.tuple #[]) ∧ Mp w' m (dput l n.data.toList p) ∧ But (fun k => k = m) w w' := by
 have hB := hide ((Below.refl _ w).alloc (Nat.le_refl _) (.cells #[.string n, .pointer (some ⟨p, 0, none⟩)] 120))
 have m1 : Mp (w.alloc (.cells #[.string n, .pointer (some ⟨p, 0, none⟩)] 120)) m l := hm.heap (hB.out.block m hm.lt)
 obtain ⟨w2, hU, m2, ht⟩ := m1.store (s := n) (p := p) hn hl
 unfold TM at hU
 have k2 := hide (turned_but ht)
 replace m2 := hide m2
 clear m1 ht hm
 go_enter Try.func161, Try.ntmps161
 go_wp2_with fail
 go_end0
 exact ⟨rfl, m2.out, (But.of_below hB.out _).trans k2.out⟩
theorem doX_any (w : World) (m : Nat) (l : Dr) (n : ByteArray) (hm : Mp w m l) (hn : n.size ≤ maxLen) :
    Calls Try.prog 165 #[.agg #[.string n], .map (some m)] w fun e w' => e = .returned (.tuple #[]) ∧ Mp w' m (ddel l n.data.toList) ∧ But (fun k => k = m) w w' := by
 have hB := hide ((Below.refl _ w).alloc (Nat.le_refl _) (.cells #[.string n] 125))
 have m1 : Mp (w.alloc (.cells #[.string n] 125)) m l := hm.heap (hB.out.block m hm.lt)
 obtain ⟨w2, hU, m2, ht⟩ := m1.drop (s := n) hn 0
 unfold TM TS at hU
 have k2 := hide (turned_but ht)
 replace m2 := hide m2
 clear m1 ht hm
 go_enter Try.func165, Try.ntmps165
 go_wp2_with fail
 go_end0
 exact ⟨rfl, m2.out, (But.of_below hB.out _).trans k2.out⟩
theorem doN_any (w : World) (m p : Nat) (l : Dr) (f t : ByteArray) (hm : Mp w m l) (hf : f.size ≤ maxLen) (ht : t.size ≤ maxLen) (hl : l.length < maxLen) (hg : get l f.data.toList = some p) :
    Calls Try.prog 163 #[.agg #[.string f, .string t], .map (some m)] w fun e w' => e = .returned (.tuple #[]) ∧ Mp w' m (ddel (dput l t.data.toList p) f.data.toList) ∧ But (fun k => k = m) w w' := by
 have hB := hide ((Below.refl _ w).alloc (Nat.le_refl _) (.cells #[.string f, .string t] 123))
 have hN := hide (heap_alloc_new w (.cells #[.string f, .string t] 123))
 obtain ⟨w1, hw1⟩ : ∃ w1, Hid (w.alloc (.cells #[.string f, .string t] 123) = w1) := ⟨_, rfl⟩
 rw [hw1.out] at hB hN
 have m1 : Mp w1 m l := hm.heap (hB.out.block m hm.lt)
 have hL := m1.look hf hg
 obtain ⟨w2, hU, m2, t2⟩ := m1.store (s := t) (p := p) ht hl
 have n2 : w2.heap[w.heap.size]? = some (.cells #[.string f, .string t] 123) := (turned_but t2).at hN.out (m1.ne hN.out)
 obtain ⟨w3, hD, m3, t3⟩ := m2.drop (s := f) hf 0
 have x0 : w1.cell? ⟨w.heap.size, 0, none⟩ = some (.string f) := by simp [World.cell?, hN.out]
 have x1 : w1.cell? ⟨w.heap.size, 1, none⟩ = some (.string t) := by simp [World.cell?, hN.out]
 have y0 : w2.cell? ⟨w.heap.size, 0, none⟩ = some (.string f) := by simp [World.cell?, n2]
 have K := hide (((But.of_below hB.out (fun k => k = m)).trans (turned_but t2)).trans (turned_but t3))
 replace m3 := hide m3
 unfold TM at hL hU hD
 unfold TS at hD
 clear m1 m2 t2 t3 n2 hm hg
 go_enter Try.func163, Try.ntmps163
 go_upto_region 1 with fail
 rw [hw1.out]
 go_wp2_with fail
 go_end0
 exact ⟨rfl, m3.out, K.out⟩
def Ch.fn : Ch → Nat
 | .cr _ _ => 161
 | .rn _ _ => 163
 | .rm _ => 165
def Ch.can (l : Dr) : Ch → Prop
 | .rn f _ => (get l f.data.toList).isSome = true
 | _ => True
theorem do_any (w : World) (m : Nat) (l : Dr) (c : Ch) (hm : Mp w m l) (hc : c.ok) (hk : c.can l) (hl : l.length < maxLen) :
    Calls Try.prog c.fn #[c.val, .map (some m)] w fun e w' => e = .returned (.tuple #[]) ∧ Mp w' m (c.run l) ∧ But (fun k => k = m) w w' := by
 cases c with
 | cr n p => exact doC_any w m l n p hm hc hl
 | rm n => exact doX_any w m l n hm hc
 | rn f t =>
  obtain ⟨p, hp⟩ := Option.isSome_iff_exists.1 (show (get l f.data.toList).isSome = true from hk)
  have := doN_any w m p l f t hm hc.1 hc.2 hl hp
  simp only [Ch.run, hp]
  exact this
def Ch.iface (c : Ch) : Value := .iface c.ty c.val
def Cans : Dr → List Ch → Prop
 | _, [] => True
 | l, c :: r => c.can l ∧ Cans (c.run l) r
def runs (l : Dr) (P : List Ch) : Dr := P.foldl Ch.run l
theorem runs_snoc (l : Dr) (P : List Ch) (c : Ch) : runs l (P ++ [c]) = c.run (runs l P) := by simp [runs]
theorem dins_len (x : List UInt8 × Nat) (l : Dr) : (dins x l).length = l.length + 1 := by
 induction l with
 | nil => rfl
 | cons y r ih => unfold dins; split <;> simp [ih]
theorem run_len (l : Dr) (c : Ch) : (c.run l).length ≤ l.length + 1 := by
 have hd : ∀ (l : Dr) n, (ddel l n).length ≤ l.length := fun l n => List.length_filter_le _ _
 have hp : ∀ (l : Dr) n p, (dput l n p).length ≤ l.length + 1 := fun l n p => by have := hd l n; rw [dput, dins_len]; omega
 cases c with
 | cr n p => exact hp _ _ _
 | rm n => exact Nat.le_trans (hd _ _) (by omega)
 | rn f t =>
  show List.length (match get l f.data.toList with | some p => ddel (dput l t.data.toList p) f.data.toList | none => l) ≤ _
  split
  ·exact Nat.le_trans (hd _ _) (hp _ _ _)
  ·omega
theorem runs_len (l : Dr) (P : List Ch) : (runs l P).length ≤ l.length + P.length := by
 induction P generalizing l with
 | nil => simp [runs]
 | cons c r ih => have := ih (c.run l); have := run_len l c; simp only [runs, List.foldl_cons, List.length_cons] at *; omega
theorem disp_any (c : Ch) : (∀ q, (method 347 c.ty c.val "flume/disk.do").run Try.prog q = .ok (c.fn, c.val) q) ∧ (∀ a q, (callFunc c.fn a).run Try.prog q = .ok (.enter c.fn a) q) := by
 cases c with
 | cr n p => exact ⟨fun q => by kernel_rfl, fun a q => by kernel_rfl⟩
 | rn f t => exact ⟨fun q => by kernel_rfl, fun a q => by kernel_rfl⟩
 | rm n => exact ⟨fun q => by kernel_rfl, fun a q => by kernel_rfl⟩
def Pd (w : World) (v : Value) (P : List Ch) : Prop := w.ownsRow 0 131 1 v P.length (P.map Ch.iface)
theorem Pd.nil (w : World) : Pd w (.slice none 0 0) [] := World.ownsRow_nil _ _ _ _
theorem Pd.no {w : World} {v : Value} {P : List Ch} {b : Nat} {cs : Array Value} {T : TypeId} {fz : Nat × Nat} (h : Pd w v P) (hb : w.heap[b]? = some (.cells cs T fz)) (hT : T ≠ 131) : v.ownBlock ≠ some b := fun e1 => by
 rcases h.2 with ⟨rfl, _⟩ | ⟨g, cap, cur, rfl, hg, hh, r⟩
 ·simp [Value.ownBlock] at e1
 ·simp [Value.ownBlock] at e1
  subst e1
  rw [hb] at hh
  simp at hh
  exact hT hh.2.1
theorem Pd.noM {w : World} {v : Value} {P : List Ch} {m : Nat} {l : Dr} (h : Pd w v P) (hm : Mp w m l) : v.ownBlock ≠ some m := fun e1 => by
 rcases h.2 with ⟨rfl, _⟩ | ⟨g, cap, cur, rfl, hg, hh, r⟩
 ·simp [Value.ownBlock] at e1
 ·simp [Value.ownBlock] at e1
  subst e1
  obtain ⟨es, clock, hb, _⟩ := hm
  rw [hb] at hh
  cases hh
theorem Pd.but {X : Nat → Prop} {A B : World} {v : Value} {P : List Ch} (h : Pd A v P) (hb : But X A B) (hx : ∀ k, v.ownBlock = some k → ¬ X k) : Pd B v P := by
 refine ⟨h.1, ?_⟩
 rcases h.2 with h | ⟨g, cap, cur, rfl, hg, hh, r⟩
 ·exact .inl h
 ·exact .inr ⟨g, cap, cur, rfl, hg, hb.at hh (hx g rfl), r⟩
theorem Pd.lt {w : World} {v : Value} {P : List Ch} (h : Pd w v P) : ∀ k, v.ownBlock = some k → k < w.heap.size := fun k hk => (World.ownsRow.lt h k hk).2
theorem infoCh : (Try.prog.info? 131).map (fun i => (i.zero, i.size, i.bytes)) = some (some .nilIface, 1, 16) := by kernel_rfl
theorem infoCh2 : ∃ i, Try.prog.info? 131 = some i ∧ i.zero = some .nilIface ∧ i.size = 1 ∧ i.bytes = 16 := by
 have h := infoCh
 cases hq : Try.prog.info? 131 with
 | none => rw [hq] at h; cases h
 | some i => rw [hq] at h; simp only [Option.map_some, Option.some.injEq, Prod.mk.injEq] at h; exact ⟨i, rfl, h.1, h.2.1, h.2.2⟩
theorem ahead_any (c : Ch) : ∀ q, (nilAhead 347 c.ty c.val "flume/disk.do").run Try.prog q = .ok (some false) q := by
 cases c with
 | cr n p => exact fun q => by kernel_rfl
 | rn f t => exact fun q => by kernel_rfl
 | rm n => exact fun q => by kernel_rfl
theorem grownAt {w3 w4 : World} {b : Nat} {o o' : Obj} {r : Option Nat} (hb : w3.heap[b]? = some o) (hg : (w3.alloc o').grownBy w4 r) (hr : r ≠ some b) : w4.heap[b]? = some o := by
 rw [hg.block b (by have := heap_lt hb; simp; omega) (fun e => hr e.symm)]
 exact (Below.heap_alloc _ _ _ (heap_lt hb)).trans hb
theorem change_any (w : World) (b m : Nat) (cs : Array Value) (l : Dr) (P : List Ch) (pd : Value) (c : Ch) (hb : w.heap[b]? = some (.cells cs TD (0, 0))) (h2 : cs[2]? = some (.map (some m))) (h4 : cs[4]? = some pd)
    (hm : Mp w m l) (hp : Pd w pd P) (hc : c.ok) (hk : c.can l) (hl : l.length < maxLen) (hP : P.length < 1000000000) :
    Calls Try.prog 50 #[.pointer (some ⟨b, 0, none⟩), c.iface] w fun e w' => e = .returned (.tuple #[]) ∧ Mp w' m (c.run l) ∧ ∃ pd', Pd w' pd' (P ++ [c]) ∧ w'.heap[b]? = some (.cells (cs.setIfInBounds 4 pd') TD (0, 0)) ∧
     But (fun k => k = b ∨ k = m ∨ pd.ownBlock = some k) w w' ∧ (∀ k, pd'.ownBlock = some k → pd.ownBlock = some k ∨ w.heap.size ≤ k) := by
 have c2 : w.cell? ⟨b, 2, none⟩ = some (.map (some m)) := by simp [World.cell?, hb, h2]
 have hD := do_any w.drew m l c hm hc hk hl
 obtain ⟨d1, d2⟩ := disp_any c
 have d3 := ahead_any c
 have hne := hide (hm.ne hb)
 have hnp := hide (hp.no hb (by decide))
 have hnm := hide (hp.noM hm)
 have KC : Hid (∀ q, But (fun k => k = m) w.drew q → q.cell? ⟨b, 2, none⟩ = some (.map (some m))) := by
  intro q B3
  have q1 := B3.at (k := b) hb hne.out
  simp [World.cell?, q1, h2]
 rw [show c.iface = .iface c.ty c.val from rfl]
 obtain ⟨ci, hci⟩ : ∃ ci, Hid (c.iface = ci) := ⟨_, rfl⟩
 have hci2 : Hid (Value.iface c.ty c.val = ci) := hci.out
 replace hb := hide hb
 replace hp := hide hp
 replace hm := hide hm
 obtain ⟨r, hr⟩ : ∃ r, Hid (c.run l = r) := ⟨_, rfl⟩
 rw [hr.out] at hD ⊢
 generalize hfn : c.fn = f at *
 generalize hty : c.ty = T at *
 generalize hvl : c.val = u at *
 replace hD := hide hD
 replace hty := hide hty
 replace hvl := hide hvl
 clear hfn hk hc
 go_enter Try.func50, Try.ntmps50
 go_upto_region 0 with fail
 go_region_held3 (fun q => q.cell? ⟨b, 2, none⟩ = some (.map (some m)))
  (first | exact c2 | assumption | exact KC.out _ (Hid.out (by assumption)) | fail)
  (first | (refine hD.out.mono ?_; rintro e w3 ⟨rfl, M3, B3⟩; replace M3 := hide M3; replace B3 := hide B3) | fail)
 have hb3 : Hid (w3.heap[b]? = some (.cells cs TD (0, 0))) := B3.out.at (k := b) hb.out hne.out
 have hp3 : Hid (Pd w3 pd P) := hp.out.but (A := w.drew) B3.out (fun k hk e => hnm.out (by rw [← e]; exact hk))
 have hW3 := hide (((But.of_below ((Below.refl _ w).drew) (fun k => k = m)).trans B3.out))
 have c4 : w3.cell? ⟨b, 4, none⟩ = some pd := by simp [World.cell?, hb3.out, h4]
 clear d1 d2 d3 hD KC c2 h2
 obtain ⟨i0, hi, hz0, hz1, hz2⟩ : ∃ i, Try.prog.info? 131 = some i ∧ i.zero = some .nilIface ∧ i.size = 1 ∧ i.bytes = 16 := infoCh2
 replace hi := hide hi
 go_wp2_with (first
  | (at_builtin; refine wpList_append_lies _ rfl (.tmp 17) (.tmp 19) 48 rfl 0 131 i0 .nilIface 1 16 Try.underlying48 hi.out hz0 hz1 hz2 rfl (by decide) pd P.length (P.map Ch.iface) rfl (World.ownsRow.alloc hp3.out _) ⟨w3.heap.size, 0, none⟩ 1 1 [.iface T u] rfl rfl (cell_one_new _ _ _) (by simp [Value.oneCell']) (by decide) (by unfold maxLen; omega) (by omega) (Nat.zero_le _) (w3.heap.size + 1) (by simp) ?_; intro g2 cap2 w4 ho4 g4 hat hlt4; have hb4 : Hid (w4.heap[b]? = some (.cells cs TD (0, 0))) := hide (grownAt hb3.out g4 hnp.out); have f1 : w4.cell? ⟨b, 4, none⟩ = some pd := (by simp [World.cell?, hb4.out, h4]); have f2 : w4.frozen? ⟨b, 4, none⟩ = false := (by simp [World.frozen?, hb4.out]); replace ho4 := hide ho4; replace g4 := hide g4; replace hat := hide hat)
  | fail)
 go_end0
 have e1 : T = c.ty ∧ u = c.val := ⟨hty.out.symm, hvl.out.symm⟩
 have G4 : But (fun k => pd.ownBlock = some k) w3 w4 := (But.of_below ((Below.refl _ w3).alloc (Nat.le_refl _) _) _).trans (But.of_grownBy g4.out fun k e => e)
 have G5 : But (fun k => k = b) w4 (w4.setCell ⟨b, 4, none⟩ (.slice (some ⟨g2, 0, none⟩) (P.length + 1) cap2)) := But.of_grownBy (grown_setCell _ _ _ _) fun k e => by cases e; rfl
 have p4 : Pd w4 (.slice (some ⟨g2, 0, none⟩) (P.length + 1) cap2) (P ++ [c]) := by
  unfold Pd
  rw [List.length_append, List.map_append]
  have q := ho4.out
  rw [e1.1, e1.2] at q
  exact q
 refine ⟨rfl, ?_, _, p4.but G5 (fun k hk e => p4.no hb4.out (by decide) (by rw [← e]; exact hk)), heap_setCell_same _ _ _ _ _ _ hb4.out, ?_, ?_⟩
 ·have q1 := M3.out.but G4 (fun e => hp3.out.noM M3.out e)
  exact q1.but G5 (fun e => hne.out e.symm)
 ·exact ((hW3.out.mono fun k _ e => .inr (.inl e)).trans (G4.mono fun k _ e => .inr (.inr e))).trans (G5.mono fun k _ e => .inl e)
 ·intro k hk
  simp only [Value.ownBlock, Option.some.injEq] at hk
  subst hk
  rcases hat.out with e | e
  ·exact .inl e
  ·right
   have := hW3.out.size
   omega
structure Dk (w : World) (b : Nat) (x : Dc) (f g : Nat) (l l2 : Dr) (P : List Ch) (al : Ar) : Prop where
 box : Bx w b x
 fm : x.fm = some f
 lm : x.lm = some g
 mf : Mp w f l
 mg : Mp w g l2
 fg : f ≠ g
 pd : Pd w x.pd P
 am : ∀ m, x.am = some m → Am w m al ∧ m ≠ f ∧ m ≠ g
 an : x.am = none → al = []
 run : l = runs l2 P
 can : Cans l2 P
 ok : ∀ c ∈ P, c.ok
 c0 : 0 ≤ x.c0 ∧ 0 ≤ x.c1 ∧ 0 ≤ x.c2 ∧ 0 ≤ x.c3 ∧ 0 ≤ x.c4 ∧ 0 ≤ x.c5 ∧ 0 ≤ x.c6 ∧ 0 ≤ x.c7
 c1 : x.c0 ≤ x.c7 ∧ x.c1 ≤ x.c7 ∧ x.c2 ≤ x.c7 ∧ x.c3 ≤ x.c7 ∧ x.c4 ≤ x.c7 ∧ x.c5 ≤ x.c7 ∧ x.c6 ≤ x.c7
def Own (b : Nat) (x : Dc) (k : Nat) : Prop := k = b ∨ x.fm = some k ∨ x.lm = some k ∨ x.pd.ownBlock = some k ∨ x.am = some k
def inc (x : Dc) : Nat → Dc
 | 0 => { x with c0 := x.c0 + 1, c7 := x.c7 + 1 }
 | 1 => { x with c1 := x.c1 + 1, c7 := x.c7 + 1 }
 | 2 => { x with c2 := x.c2 + 1, c7 := x.c7 + 1 }
 | 3 => { x with c3 := x.c3 + 1, c7 := x.c7 + 1 }
 | 4 => { x with c4 := x.c4 + 1, c7 := x.c7 + 1 }
 | 5 => { x with c5 := x.c5 + 1, c7 := x.c7 + 1 }
 | _ => { x with c6 := x.c6 + 1, c7 := x.c7 + 1 }
def cnt (x : Dc) : Nat → Int
 | 0 => x.c0 | 1 => x.c1 | 2 => x.c2 | 3 => x.c3 | 4 => x.c4 | 5 => x.c5 | _ => x.c6
theorem inc_cells (x : Dc) : ∀ j, j < 7 → ((dcells x).setIfInBounds (6 + j) (.int .i64 (cnt x j + 1))).setIfInBounds 13 (.int .i64 (x.c7 + 1)) = dcells (inc x j) := by
 intro j hj
 match j with
 | 0 => rfl
 | 1 => rfl
 | 2 => rfl
 | 3 => rfl
 | 4 => rfl
 | 5 => rfl
 | 6 => rfl
 | j + 7 => omega
theorem cnt_cell (x : Dc) : ∀ j, j < 7 → (dcells x)[6 + j]? = some (.int .i64 (cnt x j)) := by
 intro j hj
 match j with
 | 0 => rfl
 | 1 => rfl
 | 2 => rfl
 | 3 => rfl
 | 4 => rfl
 | 5 => rfl
 | 6 => rfl
 | j + 7 => omega
theorem inc_rest (x : Dc) (j : Nat) : (inc x j).most = x.most ∧ (inc x j).up = x.up ∧ (inc x j).fm = x.fm ∧ (inc x j).lm = x.lm ∧ (inc x j).pd = x.pd ∧ (inc x j).am = x.am ∧ (inc x j).c7 = x.c7 + 1 ∧ (inc x j).c8 = x.c8 := by
 unfold inc
 split <;> exact ⟨rfl, rfl, rfl, rfl, rfl, rfl, rfl, rfl⟩
theorem cnt_all {w : World} {b : Nat} {x : Dc} {f g : Nat} {l l2 : Dr} {P : List Ch} {al : Ar} (h : Dk w b x f g l l2 P al) (j : Nat) : 0 ≤ cnt x j ∧ cnt x j ≤ x.c7 ∧ 0 ≤ x.c7 := by
 have h0 := h.c0
 have h1 := h.c1
 unfold cnt
 split <;> omega
theorem inc_ok {x : Dc} (h0 : 0 ≤ x.c0 ∧ 0 ≤ x.c1 ∧ 0 ≤ x.c2 ∧ 0 ≤ x.c3 ∧ 0 ≤ x.c4 ∧ 0 ≤ x.c5 ∧ 0 ≤ x.c6 ∧ 0 ≤ x.c7) (h1 : x.c0 ≤ x.c7 ∧ x.c1 ≤ x.c7 ∧ x.c2 ≤ x.c7 ∧ x.c3 ≤ x.c7 ∧ x.c4 ≤ x.c7 ∧ x.c5 ≤ x.c7 ∧ x.c6 ≤ x.c7) (j : Nat) :
    (0 ≤ (inc x j).c0 ∧ 0 ≤ (inc x j).c1 ∧ 0 ≤ (inc x j).c2 ∧ 0 ≤ (inc x j).c3 ∧ 0 ≤ (inc x j).c4 ∧ 0 ≤ (inc x j).c5 ∧ 0 ≤ (inc x j).c6 ∧ 0 ≤ (inc x j).c7) ∧
    ((inc x j).c0 ≤ (inc x j).c7 ∧ (inc x j).c1 ≤ (inc x j).c7 ∧ (inc x j).c2 ≤ (inc x j).c7 ∧ (inc x j).c3 ≤ (inc x j).c7 ∧ (inc x j).c4 ≤ (inc x j).c7 ∧ (inc x j).c5 ≤ (inc x j).c7 ∧ (inc x j).c6 ≤ (inc x j).c7) := by
 unfold inc
 split <;> (dsimp only; omega)
theorem Dk.cells {w : World} {b : Nat} {x : Dc} {f g : Nat} {l l2 : Dr} {P : List Ch} {al : Ar} (h : Dk w b x f g l l2 P al) : w.heap[b]? = some (.cells (dcells x) TD (0, 0)) := h.box
theorem Dk.but {X : Nat → Prop} {A B : World} {b : Nat} {x : Dc} {f g : Nat} {l l2 : Dr} {P : List Ch} {al : Ar} (h : Dk A b x f g l l2 P al) (hb : But X A B) (hx : ∀ k, Own b x k → ¬ X k) : Dk B b x f g l l2 P al :=
 ⟨hb.at h.box (hx b (.inl rfl)), h.fm, h.lm, h.mf.but hb (hx f (.inr (.inl h.fm))), h.mg.but hb (hx g (.inr (.inr (.inl h.lm)))), h.fg, h.pd.but hb (fun k hk => hx k (.inr (.inr (.inr (.inl hk))))),
  fun m e => ⟨(h.am m e).1.but hb (hx m (.inr (.inr (.inr (.inr e))))), (h.am m e).2⟩, h.an, h.run, h.can, h.ok, h.c0, h.c1⟩
theorem Dk.below {A B : World} {b : Nat} {x : Dc} {f g : Nat} {l l2 : Dr} {P : List Ch} {al : Ar} (h : Dk A b x f g l l2 P al) (hb : Below A.heap.size A B) : Dk B b x f g l l2 P al := h.but (But.of_below hb fun _ => False) fun _ _ c => c
theorem Dk.lt {w : World} {b : Nat} {x : Dc} {f g : Nat} {l l2 : Dr} {P : List Ch} {al : Ar} (h : Dk w b x f g l l2 P al) : ∀ k, Own b x k → k < w.heap.size := by
 rintro k (rfl | e | e | e | e)
 ·exact heap_lt h.box
 ·rw [h.fm] at e; cases e; exact h.mf.lt
 ·rw [h.lm] at e; cases e; exact h.mg.lt
 ·exact h.pd.lt k e
 ·exact (h.am k e).1.lt
theorem Dk.dp {w : World} {b : Nat} {x : Dc} {f g : Nat} {l l2 : Dr} {P : List Ch} {al : Ar} (h : Dk w b x f g l l2 P al) : Dp w (.pointer (some ⟨b, 0, none⟩)) (some x) := .inr ⟨b, x, rfl, rfl, h.box⟩
theorem begin_any (w : World) (b : Nat) (x : Dc) (f g : Nat) (l l2 : Dr) (P : List Ch) (al : Ar) (j : Nat) (hj : j < 7) (h : Dk w b x f g l l2 P al) (hc : x.c7 < 4611686018427387904) :
    Calls Try.prog 40 #[.pointer (some ⟨b, 0, none⟩), .pointer (some ⟨b, 6 + j, none⟩)] w fun e w' => e = .returned (fv ((aget al (x.c7 + 1)).getD zf)) ∧ Dk w' b (inc x j) f g l l2 P (adel al (x.c7 + 1)) ∧ But (Own b x) w w' := by
 obtain ⟨q0, q1, q2⟩ := cnt_all h j
 refine (begin_gen w b j (dcells x) (cnt x j) x.c7 x.am al h.box rfl hj (cnt_cell x j hj) rfl rfl (fun m e => (h.am m e).1) h.an q0 (by omega) q2 hc).mono ?_
 rintro e w' ⟨rfl, hb, hm, hB⟩
 rw [inc_cells x j hj] at hb
 obtain ⟨e1, e2, e3, e4, e5, e6, e7, e8⟩ := inc_rest x j
 obtain ⟨k0, k1⟩ := inc_ok h.c0 h.c1 j
 refine ⟨rfl, ⟨hb, by rw [e3]; exact h.fm, by rw [e4]; exact h.lm, ?_, ?_, h.fg, ?_, ?_, ?_, h.run, h.can, h.ok, k0, k1⟩, hB.mono ?_⟩
 ·refine h.mf.but hB ?_
  rintro (c | c)
  ·exact h.mf.ne h.box c.symm
  ·exact (h.am f c).2.1 rfl
 ·refine h.mg.but hB ?_
  rintro (c | c)
  ·exact h.mg.ne h.box c.symm
  ·exact (h.am g c).2.2 rfl
 ·rw [e5]
  refine h.pd.but hB fun k hk => ?_
  rintro (c | c)
  ·exact h.pd.no h.box (by decide) (by rw [← c]; exact hk)
  ·rcases h.pd.2 with ⟨q, _⟩ | ⟨g', cap, cur, q, hg, hh, r⟩
   ·rw [q] at hk; simp [Value.ownBlock] at hk
   ·rw [q] at hk; simp [Value.ownBlock] at hk; subst hk; exact (h.am _ c).1.ne hh rfl
 ·rw [e6]
  exact fun m e => ⟨hm m e, (h.am m e).2⟩
 ·rw [e6]
  intro e
  rw [h.an e]
  rfl
 ·rintro k _ (c | c)
  ·exact .inl c
  ·exact .inr (.inr (.inr (.inr c)))
def strX (k : Int) (x : Dc) : Dc := if k = 3 then { x with up := false } else x
theorem str_cells (k : Int) (x : Dc) : strC k (dcells x) = dcells (strX k x) := by
 unfold strC strX
 split <;> rfl
theorem strX_rest (k : Int) (x : Dc) : (strX k x).fm = x.fm ∧ (strX k x).lm = x.lm ∧ (strX k x).pd = x.pd ∧ (strX k x).am = x.am ∧ (strX k x).c0 = x.c0 ∧ (strX k x).c1 = x.c1 ∧ (strX k x).c2 = x.c2 ∧ (strX k x).c3 = x.c3 ∧ (strX k x).c4 = x.c4 ∧ (strX k x).c5 = x.c5 ∧ (strX k x).c6 = x.c6 ∧ (strX k x).c7 = x.c7 := by
 unfold strX
 split <;> exact ⟨rfl, rfl, rfl, rfl, rfl, rfl, rfl, rfl, rfl, rfl, rfl, rfl⟩
theorem Dk.noB {w : World} {b : Nat} {x : Dc} {f g : Nat} {l l2 : Dr} {P : List Ch} {al : Ar} (h : Dk w b x f g l l2 P al) : f ≠ b ∧ g ≠ b ∧ (∀ m, x.am = some m → m ≠ b) ∧ (∀ k, x.pd.ownBlock = some k → k ≠ b) :=
 ⟨fun e => h.mf.ne h.box e.symm, fun e => h.mg.ne h.box e.symm, fun m e c => (h.am m e).1.ne h.box c.symm, fun k e c => h.pd.no h.box (by decide) (by rw [← c]; exact e)⟩
theorem Dk.noP {w : World} {b : Nat} {x : Dc} {f g : Nat} {l l2 : Dr} {P : List Ch} {al : Ar} (h : Dk w b x f g l l2 P al) : ∀ k, x.pd.ownBlock = some k → k ≠ f ∧ k ≠ g ∧ x.am ≠ some k := by
 intro k hk
 refine ⟨fun e => h.pd.noM h.mf (by rw [← e]; exact hk), fun e => h.pd.noM h.mg (by rw [← e]; exact hk), fun c => ?_⟩
 rcases h.pd.2 with ⟨q, _⟩ | ⟨g', cap, cur, q, hg, hh, r⟩
 ·rw [q] at hk; simp [Value.ownBlock] at hk
 ·rw [q] at hk; simp [Value.ownBlock] at hk; subst hk; exact (h.am _ c).1.ne hh rfl
theorem Dk.strX {w w' : World} {b : Nat} {x : Dc} {f g : Nat} {l l2 : Dr} {P : List Ch} {al : Ar} (h : Dk w b x f g l l2 P al) (k : Int) (hc : w'.heap[b]? = some (.cells (strC k (dcells x)) TD (0, 0))) (hB : But (fun k => k = b) w w') : Dk w' b (strX k x) f g l l2 P al := by
 rw [str_cells] at hc
 obtain ⟨e3, e4, e5, e6, r⟩ := strX_rest k x
 obtain ⟨r0, r1, r2, r3, r4, r5, r6, r7⟩ := r
 obtain ⟨n1, n2, n3, n4⟩ := h.noB
 refine ⟨hc, by rw [e3]; exact h.fm, by rw [e4]; exact h.lm, h.mf.but hB n1, h.mg.but hB n2, h.fg, by rw [e5]; exact h.pd.but hB n4, ?_, by rw [e6]; exact h.an, h.run, h.can, h.ok, by rw [r0, r1, r2, r3, r4, r5, r6, r7]; exact h.c0, by rw [r0, r1, r2, r3, r4, r5, r6, r7]; exact h.c1⟩
 rw [e6]
 exact fun m e => ⟨(h.am m e).1.but hB (n3 m e), (h.am m e).2⟩
theorem dk_strike (w : World) (b : Nat) (x : Dc) (f g : Nat) (l l2 : Dr) (P : List Ch) (al : Ar) (t : Ft) (h : Dk w b x f g l l2 P al) (hk : t.2.1 ≠ 4) :
    Calls Try.prog 42 #[.pointer (some ⟨b, 0, none⟩), fv t] w fun e w' => e = .returned (.int .i64 (strF t.2.1)) ∧ Dk w' b (strX t.2.1 x) f g l l2 P al ∧ But (fun k => k = b) w w' :=
 (strike_any w b (dcells x) t h.box ⟨_, rfl⟩ hk).mono fun _ _ ⟨he, hc, hB⟩ => ⟨he, h.strX _ hc hB, hB⟩
theorem dk_strikeR (w : World) (b : Nat) (x : Dc) (f g : Nat) (l l2 : Dr) (P : List Ch) (al : Ar) (t : Ft) (h : Dk w b x f g l l2 P al) (hk : t.2.1 ≠ 4) :
    Calls Try.prog 53 #[.pointer (some ⟨b, 0, none⟩), fv t] w fun e w' => e = .returned (.int .i64 (strR t.2.1)) ∧ Dk w' b (strX t.2.1 x) f g l l2 P al ∧ But (fun k => k = b) w w' :=
 (strikeRoomless_any w b (dcells x) t h.box ⟨_, rfl⟩ hk).mono fun _ _ ⟨he, hc, hB⟩ => ⟨he, h.strX _ hc hB, hB⟩
theorem cans_snoc {l : Dr} {P : List Ch} {c : Ch} (h : Cans l P) (hc : c.can (runs l P)) : Cans l (P ++ [c]) := by
 induction P generalizing l with
 | nil => exact ⟨hc, trivial⟩
 | cons d r ih => exact ⟨h.1, ih h.2 (by simpa [runs] using hc)⟩
theorem dk_change (w : World) (b : Nat) (x : Dc) (f g : Nat) (l l2 : Dr) (P : List Ch) (al : Ar) (c : Ch) (h : Dk w b x f g l l2 P al) (hc : c.ok) (hk : c.can l) (hl : l.length < maxLen) (hP : P.length < 1000000000) :
    Calls Try.prog 50 #[.pointer (some ⟨b, 0, none⟩), c.iface] w fun e w' => e = .returned (.tuple #[]) ∧ ∃ pd', Dk w' b { x with pd := pd' } f g (c.run l) l2 (P ++ [c]) al ∧ But (Own b x) w w' ∧ (∀ k, pd'.ownBlock = some k → x.pd.ownBlock = some k ∨ w.heap.size ≤ k) := by
 refine (change_any w b f (dcells x) l P x.pd c h.box (by rw [← h.fm]; rfl) rfl h.mf h.pd hc hk hl hP).mono ?_
 rintro e w' ⟨rfl, mf, pd', hp, hb, hB, ho⟩
 obtain ⟨n1, n2, n3, n4⟩ := h.noB
 refine ⟨rfl, pd', ⟨hb, h.fm, h.lm, mf, ?_, h.fg, hp, ?_, h.an, by rw [runs_snoc, ← h.run], cans_snoc h.can (by rw [← h.run]; exact hk), ?_, h.c0, h.c1⟩, hB.mono ?_, ho⟩
 ·refine h.mg.but hB ?_
  rintro (q | q | q)
  ·exact n2 q
  ·exact h.fg q.symm
  ·exact (h.noP g q).2.1 rfl
 ·intro m e
  refine ⟨(h.am m e).1.but hB ?_, (h.am m e).2⟩
  rintro (q | q | q)
  ·exact n3 m e q
  ·exact (h.am m e).2.1 q
  ·exact (h.noP m q).2.2 e
 ·intro d hd
  rcases List.mem_append.1 hd with q | q
  ·exact h.ok d q
  ·rw [List.mem_singleton.1 q]; exact hc
 ·rintro k _ (q | q | q)
  ·exact .inl q
  ·rw [q]; exact .inr (.inl h.fm)
  ·exact .inr (.inr (.inr (.inl q)))
def nextF (x : Dc) (al : Ar) : Ft := (aget al (x.c7 + 1)).getD zf
structure Stp (w w' : World) (b : Nat) (x x' : Dc) : Prop where
 but : But (Own b x) w w'
 own : ∀ k, Own b x' k → Own b x k ∨ w.heap.size ≤ k
theorem Stp.of_below {w w' : World} {b : Nat} {x : Dc} (h : Below w.heap.size w w') : Stp w w' b x x := ⟨But.of_below h _, fun _ q => .inl q⟩
theorem Stp.trans {w u w' : World} {b : Nat} {x y z : Dc} (h : Stp w u b x y) (k : Stp u w' b y z) : Stp w w' b x z := by
 refine ⟨⟨k.but.os.trans h.but.os, k.but.tape.trans h.but.tape, k.but.output.trans h.but.output, Nat.le_trans h.but.size k.but.size, fun i hi hx => ?_⟩, fun i hi => ?_⟩
 ·rw [k.but.block i (Nat.lt_of_lt_of_le hi h.but.size) (fun c => ?_)]
  ·exact h.but.block i hi hx
  ·rcases h.own i c with q | q
   ·exact hx q
   ·omega
 ·rcases k.own i hi with q | q
  ·exact h.own i q
  ·exact .inr (Nat.le_trans h.but.size q)
theorem own_inc {b : Nat} {x : Dc} {j k : Nat} : Own b (inc x j) k ↔ Own b x k := by
 obtain ⟨e1, e2, e3, e4, e5, e6, e7, e8⟩ := inc_rest x j
 unfold Own
 rw [e3, e4, e5, e6]
theorem own_strX {b : Nat} {x : Dc} {t : Int} {k : Nat} : Own b (strX t x) k ↔ Own b x k := by
 obtain ⟨e3, e4, e5, e6, _⟩ := strX_rest t x
 unfold Own
 rw [e3, e4, e5, e6]
theorem Stp.inc {w w' : World} {b : Nat} {x : Dc} {j : Nat} (h : But (Own b x) w w') : Stp w w' b x (inc x j) := ⟨h, fun _ q => .inl (own_inc.1 q)⟩
theorem Stp.strX {w w' : World} {b : Nat} {x : Dc} {t : Int} (h : But (fun k => k = b) w w') : Stp w w' b x (strX t x) := ⟨h.mono fun _ _ e => .inl e, fun _ q => .inl (own_strX.1 q)⟩
theorem Stp.change {w w' : World} {b : Nat} {x : Dc} {pd : Value} (h : But (Own b x) w w') (ho : ∀ k, pd.ownBlock = some k → x.pd.ownBlock = some k ∨ w.heap.size ≤ k) : Stp w w' b x { x with pd := pd } := by
 refine ⟨h, ?_⟩
 rintro k (q | q | q | q | q)
 ·exact .inl (.inl q)
 ·exact .inl (.inr (.inl q))
 ·exact .inl (.inr (.inr (.inl q)))
 ·rcases ho k q with r | r
  ·exact .inl (.inr (.inr (.inr (.inl r))))
  ·exact .inr r
 ·exact .inl (.inr (.inr (.inr (.inr q))))
end Go.Proofs.Ytbmnjaaacodgdaa.Dk
namespace Go.Proofs
open Go.Shelf
end Go.Proofs
namespace Go.Proofs.Ytbmnjaaacodgdaa.Dk
open Go.RowKit Go.Maps Go.Sort Go.Shelf Go.Proofs.Ytbmnjaaacodgdaa.Nm
end Go.Proofs.Ytbmnjaaacodgdaa.Dk
namespace Go.Proofs
open Go.Shelf
def Try.laysM316_ren : Go.Shelf.Ren := ⟨fun | 316 => 77 | n => n, fun | 9 => 9 | 3 => 3 | 4 => 4 | 37 => 40 | 0 => 0 | 127 => 181 | 5 => 5 | n => n, fun | n => n⟩
theorem Try.laysM316 : Go.Proofs.LaysM.n316 Try.prog Try.laysM316_ren := {
 mixed := by kernel_rfl
 f316 := Try.func77.trans (congrArg some (by kernel_rfl))
 t0 := Try.underlying0
 a0 := Try.isAgg0
 z0 := Try.sizeOf0
 v0 := Try.zeroValue0
 t3 := Try.underlying3
 a3 := Try.isAgg3
 z3 := Try.sizeOf3
 v3 := Try.zeroValue3
 t4 := Try.underlying4
 a4 := Try.isAgg4
 z4 := Try.sizeOf4
 v4 := Try.zeroValue4
 t9 := Try.underlying9
 a9 := Try.isAgg9
 z9 := Try.sizeOf9
 v9 := Try.zeroValue9
 t37 := Try.underlying40
 a37 := Try.isAgg40
 z37 := Try.sizeOf40
 v37 := Try.zeroValue40
 t127 := Try.underlying181
 a127 := Try.isAgg181
 z127 := Try.sizeOf181
 v127 := Try.zeroValue181
 t5 := Try.underlying5
 a5 := Try.isAgg5
 z5 := Try.sizeOf5
 v5 := Try.zeroValue5
 i0 := by kernel_rfl
 i3 := by kernel_rfl
 i4 := by kernel_rfl
 i5 := by kernel_rfl
 i9 := by kernel_rfl
 i37 := by kernel_rfl
 i127 := by kernel_rfl }
open Go.RowKit in
theorem Try.stringslite_Clone (s : ByteArray) (w : World) (hlim : s.size ≤ 281474976710656) :
    Calls Try.prog 77 #[.string s] w fun e w' => e = .returned (.string s) ∧ Below w.heap.size w w' := Any.stringslite_Clone Try.laysM316 s w hlim
end Go.Proofs
namespace Go.Proofs.Ytbmnjaaacodgdaa.Dk
open Go.RowKit Go.Maps Go.Sort Go.Shelf Go.Proofs.Ytbmnjaaacodgdaa.Nm
theorem clone_str (s : ByteArray) (w : World) (hs : s.size ≤ 281474976710656) : Calls Try.prog 51 #[.string s] w fun e w' => e = .returned (.string s) ∧ Below w.heap.size w w' := by
 have hc := Try.stringslite_Clone s w hs
 go_enter Try.func51, Try.ntmps51
 go_wp2_with (go_at_call 77; refine hc.mono ?_; rintro e w1 ⟨rfl, B1⟩; replace B1 := hide B1)
 go_ret
 exact ⟨rfl, B1.out⟩
inductive Created (w w' : World) (b : Nat) (x : Dc) (f g : Nat) (l l2 : Dr) (P : List Ch) (al : Ar) (s : ByteArray) : Int → Prop where
 | no (r : Int) (hr : refF (some x) [s] = r) (h0 : r ≠ 0) (hd : Dk w' b x f g l l2 P al) (st : Stp w w' b x x) : Created w w' b x f g l l2 P al s r
 | there (hr : refF (some x) [s] = 0) (ht : (get l s.data.toList).isSome = true) (hd : Dk w' b x f g l l2 P al) (st : Stp w w' b x x) : Created w w' b x f g l l2 P al s 7
 | many (hr : refF (some x) [s] = 0) (ht : get l s.data.toList = none) (hm : 256 ≤ l.length) (hd : Dk w' b x f g l l2 P al) (st : Stp w w' b x x) : Created w w' b x f g l l2 P al s 9
 | struck (e : Int) (hr : refF (some x) [s] = 0) (ht : get l s.data.toList = none) (hm : l.length < 256) (he : strF (nextF x al).2.1 = e) (h0 : e ≠ 0) (hd : Dk w' b (strX (nextF x al).2.1 (inc x 0)) f g l l2 P (adel al (x.c7 + 1))) (st : Stp w w' b x (strX (nextF x al).2.1 (inc x 0))) : Created w w' b x f g l l2 P al s e
 | done (hr : refF (some x) [s] = 0) (ht : get l s.data.toList = none) (hm : l.length < 256) (he : strF (nextF x al).2.1 = 0) (p : Nat) (pd : Value) (hp : w.heap.size ≤ p) (ho : ¬ Own b { strX (nextF x al).2.1 (inc x 0) with pd := pd } p) (hf : w'.heap[p]? = some (.cells #[.slice none 0 0, .slice none 0 0, .int .i64 0] 109 (0, 0)))
     (hd : Dk w' b { strX (nextF x al).2.1 (inc x 0) with pd := pd } f g (dput l s.data.toList p) l2 (P ++ [.cr s p]) (adel al (x.c7 + 1))) (st : Stp w w' b x { strX (nextF x al).2.1 (inc x 0) with pd := pd }) : Created w w' b x f g l l2 P al s 0
theorem create_any (w : World) (b : Nat) (x : Dc) (f g : Nat) (l l2 : Dr) (P : List Ch) (al : Ar) (s : ByteArray) (hs : s.size ≤ 140737488355328) (h : Dk w b x f g l l2 P al) (hc : x.c7 < 4611686018427387904) (hk : (nextF x al).2.1 ≠ 4) (hP : P.length < 1000000000) :
    Calls Try.prog 16 #[.pointer (some ⟨b, 0, none⟩), .string s] w fun e w' => ∃ r, e = .returned (.int .i64 r) ∧ Created w w' b x f g l l2 P al s r := by
 have hs2 : s.size ≤ maxLen := by unfold maxLen; omega
 have hB := hide ((Below.refl _ w).alloc (Nat.le_refl _) (.cells #[.string s] 9))
 have H1 := hide (h.below hB.out)
 have hr := refuse_any (w.alloc (.cells #[.string s] 9)) _ _ (some x) [s] H1.out.dp (row1 w s _ _) (by simpa using hs2)
 obtain ⟨r, hR⟩ : ∃ r, Hid (refF (some x) [s] = r) := ⟨_, rfl⟩
 rw [hR.out] at hr
 generalize hw1 : w.alloc (.cells #[.string s] 9) = w1 at *
 replace hw1 := hide hw1
 have K1 := hide (Stp.of_below (b := b) (x := x) hB.out)
 by_cases r0 : r = 0
 ·subst r0
  have c2 : w1.cell? ⟨b, 2, none⟩ = some (.map (some f)) := by have := H1.out.box.cells.2.2.1; rw [H1.out.fm] at this; exact this
  by_cases g0 : (get l s.data.toList).isSome = true
  ·obtain ⟨p, hp⟩ := Option.isSome_iff_exists.1 g0
   have hL := H1.out.mf.look_some hs2 hp
   unfold TM at hL
   clear h hk
   replace g0 := hide g0
   go_enter Try.func16, Try.ntmps16
   go_upto_region 1 with fail
   go_wp2_with (go_at_call 44; rw [hw1.out]; refine hr.mono ?_; rintro e w2 ⟨rfl, e1⟩; subst w2)
   go_ret
   exact ⟨7, rfl, .there hR.out g0.out H1.out K1.out⟩
  ·have hg : get l s.data.toList = none := by simpa using g0
   have hL := H1.out.mf.look_none hs2 hg
   have hLen := fun ty => H1.out.mf.len ty
   unfold TM at hL hLen
   replace hg := hide hg
   by_cases m0 : 256 ≤ l.length
   ·have m1 : (256 : Int) ≤ (l.length : Int) := by omega
    clear h hk g0
    go_enter Try.func16, Try.ntmps16
    go_wp2_with (go_at_call 44; rw [hw1.out]; refine hr.mono ?_; rintro e w2 ⟨rfl, e1⟩; subst w2)
    go_ret
    exact ⟨9, rfl, .many hR.out hg.out m0 H1.out K1.out⟩
   ·have m1 : ¬ (256 : Int) ≤ (l.length : Int) := by omega
    have m2 : l.length < 256 := by omega
    have hb := begin_any w1 b x f g l l2 P al 0 (by omega) H1.out hc
    rw [show (aget al (x.c7 + 1)).getD zf = nextF x al from rfl] at hb
    have hS : Hid (∀ u, Dk u b (inc x 0) f g l l2 P (adel al (x.c7 + 1)) → _) := fun u hu => dk_strike u b (inc x 0) f g l l2 P (adel al (x.c7 + 1)) (nextF x al) hu hk
    obtain ⟨t, ht⟩ : ∃ t, Hid (nextF x al = t) := ⟨_, rfl⟩
    rw [ht.out] at hS hb hk
    obtain ⟨e0, he⟩ : ∃ e0, Hid (strF t.2.1 = e0) := ⟨_, rfl⟩
    rw [he.out] at hS
    obtain ⟨y, hX⟩ : ∃ y, Hid (strX t.2.1 (inc x 0) = y) := ⟨_, rfl⟩
    rw [hX.out] at hS
    by_cases s0 : e0 = 0
    ·subst s0
     have hC := hide (clone_str s)
     have hT : Hid (∀ u p, Dk u b y f g l l2 P (adel al (x.c7 + 1)) → _) := fun u p hu => dk_change u b y f g l l2 P _ (.cr s p) hu hs2 trivial (by unfold maxLen; omega) hP
     clear h hk g0
     go_enter Try.func16, Try.ntmps16
     go_wp2_with (first
      | (go_at_call 44; rw [hw1.out]; refine hr.mono ?_; rintro e w2 ⟨rfl, e1⟩; subst w2)
      | (go_at_call 40; refine hb.mono ?_; rintro e w2 ⟨rfl, D2, B2⟩; replace D2 := hide D2; replace B2 := hide B2; clear hL hLen c2)
      | (go_at_call 42; refine (hS.out _ D2.out).mono ?_; rintro e w3 ⟨rfl, D3, B3⟩; replace D3 := hide D3; replace B3 := hide B3)
      | (go_at_call 51; refine (hC.out w3 (by omega)).mono ?_; rintro e w4 ⟨rfl, B4⟩; replace B4 := hide B4; have D4 := hide (D3.out.below B4.out); have B5 := hide ((Below.refl _ w4).alloc (Nat.le_refl _) (.cells #[.slice none 0 0, .slice none 0 0, .int .i64 0] 109)); have N5 := hide (heap_alloc_new w4 (.cells #[.slice none 0 0, .slice none 0 0, .int .i64 0] 109)); have D5 := hide (D4.out.below B5.out))
      | (go_at_call 50; refine (hT.out _ w4.heap.size D5.out).mono ?_; rintro e w6 ⟨rfl, pd, D6, B6, O6⟩; replace D6 := hide D6; replace B6 := hide B6; replace O6 := hide O6))
     go_ret
     have T3 : Stp w2 w3 b (inc x 0) y := by rw [← hX.out]; exact Stp.strX B3.out
     have T5 : Stp w3 (w4.alloc (.cells #[.slice none 0 0, .slice none 0 0, .int .i64 0] 109)) b y y := Stp.of_below (B4.out.trans (B5.out.mono B4.out.size))
     have T6 := Stp.change B6.out O6.out
     have T4 := (K1.out.trans (Stp.inc B2.out)).trans T3
     have z3 := T4.but.size
     have z4 := B4.out.size
     have hno : ¬ Own b y w4.heap.size := fun c => Nat.lt_irrefl _ (D4.out.lt _ c)
     refine ⟨0, rfl, .done hR.out hg.out m2 (by rw [ht.out, he.out]) w4.heap.size pd (by omega) ?_ (B6.out.at N5.out hno) ?_ ?_⟩
     ·rw [ht.out, hX.out]
      intro c
      rcases T6.own _ c with q | q
      ·exact hno q
      ·simp at q
       omega
     ·rw [ht.out, hX.out]; exact D6.out
     ·rw [ht.out, hX.out]; exact (T4.trans T5).trans T6
    ·have s0' : (e0 != 0) = true := by simpa using s0
     replace s0 := hide s0
     clear h hk g0
     go_enter Try.func16, Try.ntmps16
     go_wp2_with (first
      | (go_at_call 44; rw [hw1.out]; refine hr.mono ?_; rintro e w2 ⟨rfl, e1⟩; subst w2)
      | (go_at_call 40; refine hb.mono ?_; rintro e w2 ⟨rfl, D2, B2⟩; replace D2 := hide D2; replace B2 := hide B2; clear hL hLen c2)
      | (go_at_call 42; refine (hS.out _ D2.out).mono ?_; rintro e w3 ⟨rfl, D3, B3⟩; replace D3 := hide D3; replace B3 := hide B3))
     go_ret
     have T2 : Stp w2 w3 b (inc x 0) y := by rw [← hX.out]; exact Stp.strX B3.out
     refine ⟨e0, rfl, .struck e0 hR.out hg.out m2 (by rw [ht.out, he.out]) s0.out ?_ ?_⟩
     ·rw [ht.out, hX.out]; exact D3.out
     ·rw [ht.out, hX.out]; exact (K1.out.trans (Stp.inc B2.out)).trans T2
 ·have r0' : (r != 0) = true := by simpa using r0
  replace r0 := hide r0
  clear h hk
  go_enter Try.func16, Try.ntmps16
  go_wp2_with (go_at_call 44; rw [hw1.out]; refine hr.mono ?_; rintro e w2 ⟨rfl, e1⟩; subst w2)
  go_ret
  exact ⟨r, rfl, .no r hR.out r0.out H1.out K1.out⟩
end Go.Proofs.Ytbmnjaaacodgdaa.Dk
