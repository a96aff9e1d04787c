/-
  What flumelaw9.same says of two indexes that are the same by data.
-/
import Derived.Test.YtoffahbnffhliaaIxQ
import Derived.Test.YtoffahbnffhliaaIxM
namespace Go.Proofs.Ytoffahbnffhliaa.Ix
open Go.RowKit

/-- How the writing over of a list leaves its block: so many cells, in the same place. -/
structure Ov (w wr : World) (g cap : Nat) : Prop where
  but : But (fun k => k = g) w wr
  cs : ∃ cur : Array Value, wr.heap[g]? = some (.cells cur 35 (0, 0)) ∧ cur.size = cap * 2
theorem Ov.cell {w wr : World} {g cap : Nat} (h : Ov w wr g cap) {j : Nat} (hj : j < cap * 2) : (∃ u, wr.cell? ⟨g, j, none⟩ = some u) ∧ wr.frozen? ⟨g, j, none⟩ = false := by
  obtain ⟨cur, h1, h2⟩ := h.cs
  exact ⟨⟨cur[j]'(by omega), by simp [World.cell?, h1, show j < cur.size by omega]⟩, by simp [World.frozen?, h1]⟩
theorem Ov.set {w wr : World} {g cap : Nat} (h : Ov w wr g cap) (j : Nat) (v : Value) : Ov w (wr.setCell ⟨g, j, none⟩ v) g cap := by
  obtain ⟨cur, h1, h2⟩ := h.cs
  refine ⟨h.but.trans (But.of_grownBy (grown_setCell wr g j v) fun k e => by cases e; rfl), cur.setIfInBounds j v, ?_, by simpa using h2⟩
  rw [heap_setCell_same wr g j _ _ _ h1]
/-- What the first list may be: nothing of the others is in its memory. -/
structure Sm (w wr : World) (b1 b2 : Nat) (x : X) (v1 v2 va : Value) : Prop where
  p1 : At TI wr b1 x v1
  p2 : At TR wr b2 x v2
  en : Ents wr va x.l
  bel : Below w.heap.size w wr
theorem Sm.below {w wr w' : World} {b1 b2 : Nat} {x : X} {v1 v2 va : Value} (h : Sm w wr b1 b2 x v1 v2 va) (hb : Below wr.heap.size wr w') : Sm w w' b1 b2 x v1 v2 va :=
  ⟨h.p1.below hb, h.p2.below hb, h.en.below hb, keepF h.bel hb⟩
theorem Sm.ov {w wr w' : World} {b1 b2 g : Nat} {x : X} {v1 v2 va : Value} (h : Sm w wr b1 b2 x v1 v2 va) (hb : But (fun k => k = g) wr w') (h1 : ∀ k, Own b1 v1 k → k ≠ g) (h2 : ∀ k, Own b2 v2 k → k ≠ g) (h3 : ∀ k, va.ownBlock = some k → k ≠ g) (hg : w.heap.size ≤ g) : Sm w w' b1 b2 x v1 v2 va :=
  ⟨h.p1.but hb h1, h.p2.but hb h2, h.en.but hb h3, h.bel.trans (hb.below h.bel.size fun k e => by rw [e]; exact hg)⟩
set_option maxHeartbeats 4000000 in
theorem same_any (w : World) (b1 b2 : Nat) (x : X) (v1 v2 : Value) (h1 : At TI w b1 x v1) (h2 : At TR w b2 x v2) (hk : Ok x) :
    Calls Try.prog 21 #[.pointer (some ⟨b1, 0, none⟩), .pointer (some ⟨b2, 0, none⟩)] w fun e w' => e = .returned (.bool true) ∧ Below w.heap.size w w' := by
  have HK := hide hk
  have hlen := hk.srt.len
  have H1 := hide h1
  have H2 := hide h2
  have L1 := hide h1.lt
  have L2 := hide h2.lt
  clear h1 h2 hk
  go_enter Try.func21, Try.ntmps21
  go_wp2_with fail
  refine (entries_any w b1 x v1 H1.out HK.out).mono ?_
  rintro e w1 ⟨vl, rfl, el, bl, ol⟩
  have A1 := hide (H1.out.below bl)
  have A2 := hide (H2.out.below bl)
  have EL := hide el
  have OL := hide ol
  have LL := hide el.lt
  replace bl := hide bl
  obtain ⟨aol, cal, rfl, q1, q2⟩ := el.form
  clear el ol
  go_wp2_with fail
  refine (entries_any w1 b1 x v1 A1.out HK.out).mono ?_
  rintro e w2 ⟨va, rfl, ea, ba, oa⟩
  have S2 : Hid (Sm w w2 b1 b2 x v1 v2 va) := ⟨A1.out.below ba, A2.out.below ba, ea, keepF bl.out ba⟩
  have EL2 := hide (EL.out.below ba)
  have OA := hide oa
  obtain ⟨aoa, caa, rfl, _, _⟩ := ea.form
  clear ea ba oa EL A1 A2
  obtain ⟨N, hN⟩ : ∃ N, Hid (x.l.length = N) := ⟨_, rfl⟩
  rw [hN.out] at S2 EL2 OA OL LL q2 hlen ⊢
  obtain ⟨_, c1, _, _⟩ := S2.out.p2.cells
  go_wp2_with fail
  refine (eqE_any w2 _ _ x.l x.l EL2.out S2.out.p2.row HK.out.srt.len).mono ?_
  rintro e w3 ⟨rfl, q3⟩
  rw [decide_eq_true rfl]
  have S3 := hide (S2.out.below (q3.below _))
  have EL3 := hide (EL2.out.below (q3.below _))
  have G : ∃ g, Hid (0 < N → aol = some ⟨g, 0, none⟩ ∧ Ov w3 w3 g cal ∧ w.heap.size ≤ g ∧ g < w1.heap.size) := by
    rcases EL3.out.2 with ⟨e, e2⟩ | ⟨g, cap, cur, e, _, hh, _, _, hc, _⟩
    · exact ⟨0, fun h => by rw [hN.out] at e2; omega⟩
    · refine ⟨g, fun _ => ?_⟩
      simp only [Value.slice.injEq] at e
      obtain ⟨rfl, _, rfl⟩ := e
      exact ⟨rfl, ⟨But.refl _ _, cur, hh, hc⟩, OL.out g rfl, LL.out g rfl⟩
  obtain ⟨g, hG⟩ := G
  have n1 : Hid (0 < N → ∀ k, Own b1 v1 k → k ≠ g) := fun h k hk e => by have := L1.out k hk; have := (hG.out h).2.2.1; omega
  have n2 : Hid (0 < N → ∀ k, Own b2 v2 k → k ≠ g) := fun h k hk e => by have := L2.out k hk; have := (hG.out h).2.2.1; omega
  have n3 : Hid (0 < N → ∀ k, (Value.slice aoa N caa).ownBlock = some k → k ≠ g) := fun h k hk e => by have := OA.out k hk; have := (hG.out h).2.2.2; omega
  clear q3 S2 EL2 c1
  go_wp2_with fail
  go_loopg [8] N (fun kx vi wr => ∃ i : Nat, i ≤ N ∧ N - i ≤ kx ∧ vi = .int .i64 (i : Int) ∧ Hid (Sm w wr b1 b2 x v1 v2 (.slice aoa N caa)) ∧ Hid (0 < N → Ov w3 wr g cal))
  case atStart => exact ⟨0, Nat.zero_le _, by omega, rfl, S3.out, fun h => (hG.out h).2.1⟩
  case round =>
    obtain ⟨i, hi, hik, rfl, hS, hO⟩ := hrel
    by_cases hlt : i < N
    · have hp : 0 < N := by omega
      obtain ⟨rfl, _, hgw, hgl⟩ := hG.out hp
      have O1 := hide (hO.out hp)
      obtain ⟨⟨u0, k0⟩, f0⟩ := O1.out.cell (j := i * 2) (by omega)
      obtain ⟨⟨u1, k1⟩, f1⟩ := O1.out.cell (j := i * 2 + 1) (by omega)
      have hO2 := hide ((O1.out.set (i * 2) (.int .i64 (-1))).set (i * 2 + 1) (.int .i64 0))
      have hS2 : Hid (Sm w ((wr.setCell ⟨g, i * 2, none⟩ (.int .i64 (-1))).setCell ⟨g, i * 2 + 1, none⟩ (.int .i64 0)) b1 b2 x v1 v2 (.slice aoa N caa)) :=
        hS.out.ov ((But.of_grownBy (grown_setCell wr g (i * 2) _) fun k e => by cases e; rfl).trans (But.of_grownBy (grown_setCell _ g (i * 2 + 1) _) fun k e => by cases e; rfl)) (n1.out hp) (n2.out hp) (n3.out hp) hgw
      go_wp2_with fail
      go_roundg (N - (i + 1))
      case measure => omega
      case rel => exact ⟨i + 1, by omega, Nat.le_refl _, by go_num, hS2.out, fun _ => hO2.out⟩
    · obtain rfl : i = N := by omega
      obtain ⟨_, c1, _, _⟩ := hS.out.p2.cells
      clear hO hG n1 n2 n3 S3 EL3
      go_wp2_with fail
      refine (eqE_any wr _ _ x.l x.l hS.out.en hS.out.p2.row HK.out.srt.len).mono ?_
      rintro e w4 ⟨rfl, q4⟩
      rw [decide_eq_true rfl]
      have S4 := hide (hS.out.below (q4.below _))
      clear q4 hS c1
      go_wp2_with fail
      refine (bytes_any w4 b1 x v1 S4.out.p1 HK.out).mono ?_
      rintro e w5 ⟨v5, rfl, s5, b5⟩
      have S5 := hide (S4.out.below b5)
      replace s5 := hide s5
      clear b5 S4
      go_wp2_with fail
      refine (refBytes_any w5 b2 x v2 S5.out.p2 HK.out).mono ?_
      rintro e w6 ⟨v6, rfl, s6, b6⟩
      have S6 := hide (S5.out.below b6)
      have Q5 := hide (Sl.of_owns (s5.out.below b6))
      have Q6 := hide (Sl.of_owns s6)
      clear b6 s5 s6 S5
      go_wp2_with fail
      refine (eq_sl w6 _ _ _ _ Q5.out Q6.out).mono ?_
      rintro e w7 ⟨rfl, q7⟩
      rw [decide_eq_true rfl]
      have hB := hide (keepF S6.out.bel (q7.below _))
      clear q7 S6 Q5 Q6
      go_wp2_with fail
      go_ret
      exact ⟨rfl, hB.out⟩
#print axioms same_any
end Go.Proofs.Ytoffahbnffhliaa.Ix
