/-
  Two indexes side by side; two lists of entries held against one another.
-/
import Derived.Test.YtoffahbnffhliaaIxK
namespace Go.Proofs.Ytoffahbnffhliaa.Ix
open Go.RowKit

structure Pair (T1 T2 : TypeId) (w wr : World) (b1 : Nat) (x1 : X) (v1 : Value) (b2 : Nat) (x2 : X) (v2 : Value) : Prop where
  m1 : Mine T1 w wr b1 x1 v1
  m2 : Mine T2 w wr b2 x2 v2
  ne : b1 ≠ b2
  ap : ∀ k, v1.ownBlock = some k → v2.ownBlock ≠ some k
theorem Pair.symm {T1 T2 : TypeId} {w wr : World} {b1 b2 : Nat} {x1 x2 : X} {v1 v2 : Value} (h : Pair T1 T2 w wr b1 x1 v1 b2 x2 v2) : Pair T2 T1 w wr b2 x2 v2 b1 x1 v1 :=
  ⟨h.m2, h.m1, fun e => h.ne e.symm, fun k hk e => h.ap k e hk⟩
theorem Pair.below {T1 T2 : TypeId} {w wr w' : World} {b1 b2 : Nat} {x1 x2 : X} {v1 v2 : Value} (h : Pair T1 T2 w wr b1 x1 v1 b2 x2 v2) (hb : Below wr.heap.size wr w') : Pair T1 T2 w w' b1 x1 v1 b2 x2 v2 :=
  ⟨h.m1.below hb, h.m2.below hb, h.ne, h.ap⟩
/-- What turned the first one left the second one as it was. -/
theorem Pair.next {T1 T2 : TypeId} {w wr w' : World} {b1 b2 : Nat} {x1 x2 x' : X} {v1 v2 v' : Value} (h : Pair T1 T2 w wr b1 x1 v1 b2 x2 v2) (h1 : T1 ≠ 35) (h2 : T2 ≠ 35)
    (ha : At T1 w' b1 x' v') (hb : But (Own b1 v1) wr w') (ho : ∀ k, v'.ownBlock = some k → v1.ownBlock = some k ∨ wr.heap.size ≤ k) : Pair T1 T2 w w' b1 x' v' b2 x2 v2 := by
  have M1 := h.m1.next ha hb ho
  have A2 : At T2 w' b2 x2 v2 := by
    refine h.m2.at0.but hb ?_
    rintro k (e | e) (f | f)
    · exact h.ne (by rw [← e, ← f])
    · rw [e] at f; exact h.m1.at0.row.no h.m2.at0.box h2 f
    · rw [f] at e; exact h.m2.at0.row.no h.m1.at0.box h1 e
    · exact h.ap k f e
  refine ⟨M1, ⟨A2, M1.bel, h.m2.lo, h.m2.own⟩, h.ne, fun k hk e => ?_⟩
  rcases ho k hk with g | g
  · exact h.ap k g e
  · have := h.m2.at0.row.lt k e; omega
theorem u16_bounds {n : Int} (h : (Lit.int .u16 n).wf = true) : 0 ≤ n ∧ n ≤ 65535 := by
  simpa [Lit.wf, IntKind.min, IntKind.max, IntKind.signed, IntKind.bits] using h
set_option maxHeartbeats 1000000 in
theorem eqE_any (w : World) (v1 v2 : Value) (l m : List (Int × Int)) (h1 : Ents w v1 l) (h2 : Ents w v2 m) (hl : l.length ≤ 2147483648) :
    Calls Try.prog 26 #[v1, v2] w fun e w' => e = .returned (.bool (decide (l = m))) ∧ Qt w w' := by
  have hq : ∀ (a b c d : Int) (u : World), (binOp .neq 35 (.agg #[.int .i64 a, .int .i64 b]) (.agg #[.int .i64 c, .int .i64 d])).run Try.prog u = .ok (.bool (!decide (a = c ∧ b = d))) u := fun a b c d u => entNeq u a b c d
  obtain ⟨ao1, ca1, rfl, q1, q2⟩ := h1.form
  obtain ⟨ao2, ca2, rfl, q3, q4⟩ := h2.form
  have D1 := hide h1.rd
  have D2 := hide h2.rd
  obtain ⟨N, hN⟩ : ∃ N, Hid (l.length = N) := ⟨_, rfl⟩
  obtain ⟨M, hM⟩ : ∃ M, Hid (m.length = M) := ⟨_, rfl⟩
  rw [hN.out] at q2 hl
  rw [hM.out] at q4
  rw [hN.out, hM.out]
  clear h1 h2
  by_cases hne : N = M
  · subst hne
    go_enter Try.func26, Try.ntmps26
    go_wp2_with fail
    go_loopw [5] (fun vi wr => ∃ i : Nat, i ≤ N ∧ vi = .int .i64 (i : Int) ∧ Hid (l.take i = m.take i) ∧ Hid (Qt w wr)) (fun vi _ => N - (intOf vi).toNat)
    case atStart => exact ⟨0, Nat.zero_le _, rfl, by simp [Hid], Qt.refl _⟩
    case round =>
      obtain ⟨i, hi, rfl, hE, hQ⟩ := hrel
      by_cases hlt : i < N
      · have i1 : i < l.length := by rw [hN.out]; exact hlt
        have i2 : i < m.length := by rw [hM.out]; exact hlt
        obtain ⟨g1, rfl, a1, a2⟩ := D1.out i i1
        obtain ⟨g2, rfl, c1, c2⟩ := D2.out i i2
        have hb := hQ.out.below w.heap.size
        have a1' : wr.cell? ⟨g1, i * 2, none⟩ = some (.int .i64 l[i].1) := by rw [hb.cell (lt_of_cell a1)]; exact a1
        have a2' : wr.cell? ⟨g1, i * 2 + 1, none⟩ = some (.int .i64 l[i].2) := by rw [hb.cell (lt_of_cell a2)]; exact a2
        have c1' : wr.cell? ⟨g2, i * 2, none⟩ = some (.int .i64 m[i].1) := by rw [hb.cell (lt_of_cell c1)]; exact c1
        have c2' : wr.cell? ⟨g2, i * 2 + 1, none⟩ = some (.int .i64 m[i].2) := by rw [hb.cell (lt_of_cell c2)]; exact c2
        have hT1 : Hid (l.take (i + 1) = l.take i ++ [l[i]]) := List.take_succ_eq_append_getElem i1
        have hT2 : Hid (m.take (i + 1) = m.take i ++ [m[i]]) := List.take_succ_eq_append_getElem i2
        have hne : Hid (l[i] ≠ m[i] → l ≠ m) := fun h e => by subst e; exact h rfl
        clear a1 a2 c1 c2 hb
        generalize l[i] = e at *
        generalize m[i] = f at *
        obtain ⟨e1, e2⟩ := e
        obtain ⟨f1, f2⟩ := f
        simp only at a1' a2' c1' c2'
        by_cases hs : e1 = f1 ∧ e2 = f2
        · obtain ⟨rfl, rfl⟩ := hs
          have hE' : Hid (l.take (i + 1) = m.take (i + 1)) := by show _ = _; rw [hT1.out, hT2.out, hE.out]
          have hd : decide (e1 = e1 ∧ e2 = e2) = true := by simp
          go_wp2_with fail
          go_quiet (fail)
          go_wp2_with fail
          go_roundw
          case rel => exact ⟨i + 1, by omega, by go_num, hE'.out, hQ.out.trans ⟨_, rfl⟩⟩
          case measure => simp [intOf]; omega
        · have hfin : Hid (decide (l = m) = false) := decide_eq_false (hne.out fun c => hs (by simpa using c))
          have hd : decide (e1 = f1 ∧ e2 = f2) = false := decide_eq_false hs
          clear hne
          go_wp2_with fail
          go_quiet (fail)
          go_wp2_with fail
          go_ret
          exact ⟨by rw [hfin.out]; rfl, hQ.out.trans ⟨_, rfl⟩⟩
      · obtain rfl : i = N := by omega
        have hfin : Hid (decide (l = m) = true) := by
          have := hE.out
          rw [List.take_of_length_le (by rw [hN.out]; exact Nat.le_refl _), List.take_of_length_le (by rw [hM.out]; exact Nat.le_refl _)] at this
          exact decide_eq_true this
        go_wp2_with fail
        go_ret
        exact ⟨by rw [hfin.out]; rfl, hQ.out⟩
  · have hfin : Hid (decide (l = m) = false) := decide_eq_false fun e => hne (by rw [← hN.out, ← hM.out, e])
    have hni : ¬ ((N : Int) = (M : Int)) := by omega
    go_enter Try.func26, Try.ntmps26
    go_wp2_with fail
    go_ret
    exact ⟨by rw [hfin.out]; rfl, Qt.refl _⟩
#print axioms eqE_any
end Go.Proofs.Ytoffahbnffhliaa.Ix
