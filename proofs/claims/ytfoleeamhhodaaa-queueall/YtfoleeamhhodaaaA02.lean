/-
  Going over the ring: the iterator's contract.
-/
import Derived.Test.YtfoleeamhhodaaaA01
import Derived.RangeFuncBound
import Derived.Shelf.Abstract
import Derived.WalkKit
import Derived.OwnWalkIn
import Derived.TacticsInMore
import Derived.LoopNIn
import Derived.LoopIn
import Derived.OrdersIn
import Derived.Stop.RegionWithIn
import Derived.Maps.OwnIn
namespace Go.Proofs.Ytfoleeamhhodaaa.Qu
open Go.RowKit Go.Shelf
set_option linter.unusedVariables false
set_option linter.unusedSimpArgs false
set_option maxRecDepth 100000
attribute [local go_sem] Oper.semAt_some
theorem all_any (w : World) (b : Nat) : Calls Try.prog 36 #[.pointer (some ⟨b, 2, none⟩)] w fun e w' => e = .returned (.func (.func 46) #[] #[.pointer (some ⟨w.heap.size, 0, none⟩)]) ∧ w' = w.alloc (.cells #[.pointer (some ⟨b, 2, none⟩)] 79) := by
  have hmf : ∀ (fn : Fn) (first cap : Array Value) (w : World), (Instr.makeFunc fn first cap).run Try.prog w = .ok (.func fn first cap) w := fun _ _ _ _ => rfl
  go_enter Try.func36, Try.ntmps36
  go_wp2_with fail
  go_ret
  exact ⟨rfl, rfl⟩
/-- How an item is handed over. -/
def RepI (x : Itm) (args : Array Value) (W : World) (D : Nat → Prop) : Prop := args = #[.agg #[.int .i64 x.1, .int .i64 x.2]] ∧ ∀ k, ¬ D k
def Rd (pb b : Nat) (v vl : Value) (k : Nat) : Prop := k = pb ∨ Own b v vl k
theorem Its.same {A B : World} {v : Value} {l : List Itm} (h : Its A v l) (hb : ∀ k, v.ownBlock = some k → B.heap[k]? = A.heap[k]?) : Its B v l := by
  refine ⟨h.1, ?_⟩
  rcases h.2 with h | ⟨g, cap, cur, rfl, hg, hh, r⟩
  · exact .inl h
  · exact .inr ⟨g, cap, cur, rfl, hg, (hb g rfl).trans hh, r⟩
theorem At.same {A B : World} {b : Nat} {d : D} {v vl : Value} (h : At A b d v vl) (hb : ∀ k, Own b v vl k → B.heap[k]? = A.heap[k]?) : At B b d v vl :=
  ⟨(hb b (.inl rfl)).trans h.box, h.row.same fun k hk => hb k (.inr (.inl hk)), h.rg, h.line.same fun k hk => hb k (.inr (.inr hk)), h.ap, h.rl, h.nv, h.r4⟩
theorem list_at {l : List Itm} {k : Nat} (h : k < l.length) : l = l.take k ++ g l k :: l.drop (k + 1) := by
  rw [← g_get h, ← List.drop_eq_getElem_cons, List.take_append_drop]
theorem list_take {l : List Itm} {k : Nat} (h : k < l.length) : l.take k ++ [g l k] = l.take (k + 1) := by
  rw [← g_get h, ← List.take_succ_eq_append_getElem]
/-- Where the loop stands. -/
def ALoop (J : List Itm → (Nat → Prop) → World → Prop) (H : List Itm) (W : World) (R : Nat → Prop) (i : Nat) (wr : World) : Prop :=
  ∃ C1 : Nat → Prop, J (H.take i) C1 wr ∧ (∀ j, R j → ¬ C1 j ∧ wr.heap[j]? = W.heap[j]?) ∧ (∀ j, C1 j → j < wr.heap.size) ∧ W.heap.size ≤ wr.heap.size
set_option maxHeartbeats 2000000 in
theorem all_seq (w : World) (pb b : Nat) (d : D) (v vl : Value) (h1 : w.heap[pb]? = some (.cells #[.pointer (some ⟨b, 2, none⟩)] 79 (0, 0))) (h : At w b d v vl) :
    Seq Try.prog 46 #[.pointer (some ⟨pb, 0, none⟩)] d.H RepI (Rd pb b v vl) w := by
  intro l J Jx C W hsz hRd hC hJ hJx hY h0
  refine callsIn_wide.2 ?_
  have hp := (hRd pb (.inl rfl)).trans h1
  have hA : At W b d v vl := h.same fun k hk => hRd k (.inr hk)
  have hrl := hA.rl
  have hHl := hA.rg.len
  have c1 : W.cell? ⟨pb, 0, none⟩ = some (.pointer (some ⟨b, 2, none⟩)) := by rw [cell_of hp]; rfl
  obtain ⟨-, -, -, -, c4, -⟩ := hA.cells
  replace hp := hide hp
  replace hA := hide hA
  replace hC := hide hC
  replace hJ := hide hJ
  replace hJx := hide hJx
  replace hY := hide hY
  clear h h1 hRd hsz
  obtain ⟨n, hn⟩ : ∃ n, Hid (d.H.length = n) := ⟨_, rfl⟩
  rw [hn.out] at c4 hHl
  go_enter Try.func46, Try.ntmps46
  go_wp2_with fail
  go_loopw [8] (fun s8 wr => ∃ i : Nat, s8 = .int .i64 (i : Int) ∧ i ≤ n ∧ Hid (ALoop J d.H W (Rd pb b v vl) i wr)) (fun s8 wr => n - (intOf s8).toNat)
  case atStart =>
    refine ⟨0, rfl, Nat.zero_le _, C, h0, fun j hj => ⟨fun h => (hC.out _ h).1 hj, rfl⟩, fun j hj => (hC.out j hj).2, Nat.le_refl _⟩
  case round =>
    obtain ⟨i, rfl, hi, C1, hj, hrd, hcl, hsz⟩ := hrel
    replace hj := hide hj
    replace hrd := hide hrd
    replace hcl := hide hcl
    replace hsz := hide hsz
    clear c1 c4
    by_cases hin : i < n
    · have hin' : (i : Int) < (n : Int) := by omega
      have ew : wrap64 ((i : Int) + 1) = (i : Int) + 1 := by unfold wrap64; omega
      go_upto_region 3 with fail
      have A1 : At wr b d v vl := hA.out.same fun k hk => (hrd.out k (.inr hk)).2
      have hR : d.R ≠ [] := fun e => by rw [e] at hHl; simp at hHl; omega
      have P1 : wr.heap[pb]? = some (.cells #[.pointer (some ⟨b, 2, none⟩)] 79 (0, 0)) := (hrd.out pb (.inl rfl)).2.trans hp.out
      obtain ⟨tb, ca, cs, hv, _, _, _, k1, k2, _⟩ := A1.row.at hR
      obtain ⟨x, hx⟩ : ∃ x, Hid (g d.H i = x) := ⟨_, rfl⟩
      obtain ⟨p, hpp⟩ : ∃ p, Hid ((d.f + i) % d.R.length = p) := ⟨_, rfl⟩
      have hpl : p < d.R.length := by rw [← hpp.out]; exact Nat.mod_lt _ (by omega)
      have hgx : g d.R p = x := by rw [← hpp.out, ← A1.rg.held i (by rw [hn.out]; exact hin)]; exact hx.out
      have CP : Hid (∀ q, Qt wr q → Calls Try.prog 47 #[.pointer (some ⟨b, 2, none⟩), .int .i64 (i : Int)] q fun e w' => e = .returned (.int .i64 (p : Int)) ∧ Qt wr w') := by
        intro q hq
        have := place_any q b d v vl i (A1.qt hq) hR (by omega)
        rw [hpp.out] at this
        refine this.mono ?_
        rintro e w' ⟨rfl, h⟩
        exact ⟨rfl, hq.trans h⟩
      have YY : Hid (∀ q, Qt wr q → YieldAt Fence.wide 0 Try.prog l #[.agg #[.int .i64 x.1, .int .i64 x.2]] q fun e W' => ∃ z : Bool, e = .returned (.bool z) ∧ Hid ((z = true ∧ ALoop J d.H W (Rd pb b v vl) (i + 1) W') ∨ (z = false ∧ ∃ pre C2, pre <+: d.H ∧ Jx pre C2 W'))) := by
        intro q hq
        have hxs := list_at (l := d.H) (k := i) (by rw [hn.out]; exact hin)
        have hst : But (fun k => W.heap.size ≤ k ∧ ¬ C1 k) wr q := But.of_below (hq.below _) _
        have J1 := hJ.out _ _ _ _ hj.out hst
        have szq : q.heap.size = wr.heap.size := hq.size
        have s1 := hsz.out
        refine (hY.out _ _ _ C1 (fun _ => False) #[.agg #[.int .i64 x.1, .int .i64 x.2]] q hxs J1 ⟨by rw [hx.out], fun _ c => c⟩ (by omega) (fun k c => c.elim)).mono ?_
        rintro e W' (⟨rfl, C2, hJ2, hB2, hC2⟩ | ⟨rfl, C2, hJ2, hB2, hC2⟩)
        · refine ⟨true, rfl, .inl ⟨rfl, C2, ?_, fun j hj' => ⟨fun h => ?_, ?_⟩, fun j h => (hC2 j h).2, Nat.le_trans (by omega) hB2.size⟩⟩
          · rwa [list_take (by rw [hn.out]; exact hin)] at hJ2
          · have hlt : j < W.heap.size := by
              rcases hj' with rfl | hk
              · exact heap_lt hp.out
              · exact hA.out.lt j hk
            rcases (hC2 j h).1 with h | h | h
            · exact (hrd.out j hj').1 h
            · exact h
            · omega
          · have hlt : j < W.heap.size := by
              rcases hj' with rfl | hk
              · exact heap_lt hp.out
              · exact hA.out.lt j hk
            rw [hB2.block j (by omega) (hrd.out j hj').1]
            have := (hq.below q.heap.size).block j (by omega)
            rw [this]
            exact (hrd.out j hj').2
        · exact ⟨false, rfl, .inr ⟨rfl, _, C2, ⟨d.H.drop (i + 1), by rw [List.append_assoc]; exact hxs.symm⟩, hJ2⟩⟩
      have FC : Hid (∀ q, Qt wr q → q.cell? ⟨pb, 0, none⟩ = some (.pointer (some ⟨b, 2, none⟩)) ∧ q.cell? ⟨b, 2, none⟩ = some (.slice (some ⟨tb, 0, none⟩) d.R.length ca) ∧ q.cell? ⟨tb, p * 2, none⟩ = some (.int .i64 x.1) ∧ q.cell? ⟨tb, p * 2 + 1, none⟩ = some (.int .i64 x.2)) := by
        intro q hq
        have A2 := A1.qt hq
        obtain ⟨-, -, y2, -⟩ := A2.cells
        have rr := A2.row
        rw [hv] at y2 rr
        obtain ⟨r0, r1⟩ := rr.read p hpl
        rw [hgx] at r0 r1
        refine ⟨?_, y2, r0, r1⟩
        rw [hq.cell, cell_of P1]; rfl
      have ee1 : (p : Int) < (d.R.length : Int) := by omega
      have ee0 : 0 ≤ (p : Int) := by omega
      obtain ⟨f1, f2, f3, f4⟩ := FC.out wr (Qt.refl _)
      clear A1 P1 hgx hv
      refine (wpIn_wide (n := 0)).1 ?_
      gi_region_with (first | (refine ⟨trivial, rfl, (callsIn_wide.2 (CP.out _ ⟨1, rfl⟩)).mono ?_⟩; rintro e u ⟨rfl, qu⟩; obtain ⟨f1', f2', f3', f4'⟩ := FC.out u qu; obtain ⟨fn, tmps, assign, body, hy, hRn⟩ := YY.out u qu; replace hRn := hide hRn) | (refine ⟨rfl, hRn.out.mono ?_⟩; rintro e W3 ⟨z, rfl, hz⟩))
      all_goals (clear hY hJ hJx hrd hcl hj CP YY FC f1 f2 f3 f4 f1' f2' f3' f4' hy hRn hsz hp hA hC)
      all_goals (rcases hz.out with ⟨rfl, hE⟩ | ⟨rfl, hE⟩)
      all_goals (replace hE := hide hE)
      all_goals (try simp only [Act.put, List.setIfInBounds_toArray, List.set_cons_zero, List.set_cons_succ])
      all_goals (go_wp2_with fail)
      all_goals first
        | (go_roundw
           case measure => (simp [intOf]; omega)
           case rel => exact ⟨i + 1, rfl, by omega, hE.out⟩)
        | (refine bodyPost_ret (results_none rfl _ _ _) rfl ?_
           obtain ⟨pre, C2, q1, q2⟩ := hE.out
           exact ⟨⟨_, rfl⟩, .inr ⟨pre, q1, C2, q2⟩⟩)
    · have hin' : ¬ (i : Int) < (n : Int) := by omega
      obtain rfl : i = n := by omega
      go_wp2_with fail
      go_end0
      refine ⟨⟨_, rfl⟩, .inl ⟨C1, ?_⟩⟩
      have := hj.out
      rwa [List.take_of_length_le (by rw [hn.out]; exact Nat.le_refl _)] at this
end Go.Proofs.Ytfoleeamhhodaaa.Qu

/-
  Who stands in line: where.
-/
namespace Go.Proofs.Ytfoleeamhhodaaa.Qu
open Go.RowKit
set_option linter.unusedVariables false
set_option maxRecDepth 100000
/-- Where the first of a number stands; the list's length where none does. -/
def ixI : List Itm → Int → Nat
  | [], _ => 0
  | x :: r, i => if x.1 = i then 0 else ixI r i + 1
theorem ix_le (l : List Itm) (x : Int) : ixI l x ≤ l.length := by
  induction l with
  | nil => exact Nat.le_refl _
  | cons b r ih => unfold ixI; split <;> simp <;> omega
theorem ix_low (l : List Itm) (x : Int) : ∀ j, j < ixI l x → (g l j).1 ≠ x := by
  induction l with
  | nil => intro j hj; simp [ixI] at hj
  | cons b r ih =>
    intro j hj
    unfold ixI at hj
    split at hj
    · omega
    · match j with
      | 0 => rw [g_zero]; assumption
      | j + 1 => rw [g_cons]; exact ih j (by omega)
theorem ix_at (l : List Itm) (x : Int) (h : ixI l x < l.length) : (g l (ixI l x)).1 = x := by
  induction l with
  | nil => simp [ixI] at h
  | cons b r ih =>
    unfold ixI at h ⊢
    split at h
    · rename_i hb
      rw [if_pos hb, g_zero]; exact hb
    · rename_i hb
      rw [if_neg hb, g_cons]
      exact ih (by simpa using h)
theorem ix_mem (l : List Itm) (x : Int) : ixI l x < l.length ↔ x ∈ l.map (·.1) := by
  induction l with
  | nil => simp [ixI]
  | cons b r ih =>
    unfold ixI
    split
    · rename_i hb
      simp [hb]
    · rename_i hb
      rw [List.length_cons, Nat.add_lt_add_iff_right, ih]
      simp
      exact fun e => absurd e.symm hb
/-- What inLine answers. -/
def inlF (l : List Itm) (x : Int) : Int := if ixI l x < l.length then (ixI l x : Int) else -1
theorem inl1_any (w : World) (x : Itm) (kb : Nat) (id : Int) (h : w.cell? ⟨kb, 0, none⟩ = some (.int .i64 id)) : Calls Try.prog 45 #[.agg #[.int .i64 x.1, .int .i64 x.2], .pointer (some ⟨kb, 0, none⟩)] w fun e w' => e = .returned (.bool (x.1 == id)) ∧ Below w.heap.size w w' := by
  have B1 := box_below w (.cells #[.int .i64 x.1, .int .i64 x.2] 48)
  have X1 : Ib (w.alloc (.cells #[.int .i64 x.1, .int .i64 x.2] 48)) w.heap.size x := heap_alloc_new _ _
  obtain ⟨z0, -⟩ := X1.cells
  have c0 := (World.cell?_of_block (a := ⟨kb, 0, none⟩) (Below.heap_alloc w (.cells #[.int .i64 x.1, .int .i64 x.2] 48) kb (lt_of_cell h))).trans h
  replace B1 := hide B1
  clear X1
  go_enter Try.func45, Try.ntmps45
  go_wp2_with fail
  go_ret
  exact ⟨rfl, B1.out⟩
set_option maxHeartbeats 1000000 in
theorem ixf_any (w : World) (v : Value) (l : List Itm) (kb : Nat) (id : Int) (hv : Its w v l) (hl : l.length ≤ 1000000) (hk : w.cell? ⟨kb, 0, none⟩ = some (.int .i64 id)) : Calls Try.prog 44 #[v, .func (.func 45) #[] #[.pointer (some ⟨kb, 0, none⟩)]] w fun e w' => e = .returned (.int .i64 (inlF l id)) ∧ Below w.heap.size w w' := by
  obtain ⟨ao, ca, rfl, k1, k2⟩ := hv.form
  have HV := hide hv
  have HK := hide hk
  have HLo := hide (ix_low l id)
  have HAt := hide (ix_at l id)
  have hcl := ix_le l id
  unfold inlF
  obtain ⟨C, hC⟩ : ∃ C, Hid (ixI l id = C) := ⟨_, rfl⟩
  obtain ⟨N, hN⟩ : ∃ N, Hid (l.length = N) := ⟨_, rfl⟩
  rw [hC.out] at HLo HAt hcl ⊢
  rw [hN.out] at hl k2 hcl HV HAt ⊢
  obtain ⟨Rz, hRz⟩ : ∃ Rz, Hid ((if C < N then (C : Int) else -1) = Rz) := ⟨_, rfl⟩
  rw [hRz.out]
  clear hv hk
  go_enter Try.func44, Try.ntmps44
  go_wp2_with fail
  go_loopw [8] (fun s8 wr => ∃ i : Nat, s8 = .int .i64 (i : Int) ∧ i ≤ C ∧ Hid (Below w.heap.size w wr)) (fun s8 wr => N - (intOf s8).toNat)
  case atStart => exact ⟨0, rfl, Nat.zero_le _, Below.refl _ _⟩
  case round =>
    obtain ⟨i, rfl, hi, hb⟩ := hrel
    by_cases hiN : i < N
    · have hiN' : (i : Int) < (N : Int) := by omega
      obtain ⟨tb, ca', cs, e, _, _, _, _, _, _⟩ := (HV.out.below hb.out).at (fun c => by rw [c] at hN; have := hN.out; simp at this; omega)
      simp only [Value.slice.injEq] at e
      obtain ⟨rfl, e2, rfl⟩ := e
      clear e2
      obtain ⟨r0, r1⟩ := (HV.out.below hb.out).read i (by rw [hN.out]; exact hiN)
      have HC := hide (inl1_any wr (g l i) kb id ((World.cell?_of_block (hb.out.block kb (lt_of_cell HK.out))).trans HK.out))
      obtain ⟨xi, xs, hx⟩ : ∃ xi xs, Hid (g l i = (xi, xs)) := ⟨_, _, rfl⟩
      rw [hx.out] at r0 r1 HC
      simp only at r0 r1 HC
      have ew : wrap64 ((i : Int) + 1) = (i : Int) + 1 := by unfold wrap64; omega
      obtain ⟨z, hz⟩ : ∃ z, Hid ((xi == id) = z) := ⟨_, rfl⟩
      rw [hz.out] at HC
      go_wp2_with fail
      refine HC.out.mono ?_
      rintro e w2 ⟨rfl, b2⟩
      replace b2 := hide (keepF hb.out b2)
      clear HC r0 r1 hb
      cases z with
      | true =>
        have hiC : i = C := by
          refine Classical.byContradiction fun c => HLo.out i (by omega) ?_
          rw [hx.out]
          simpa using hz.out
        subst hiC
        have hRz' : (i : Int) = Rz := by rw [← hRz.out, if_pos hiN]
        subst hRz'
        go_wp2_with fail
        go_ret
        exact ⟨rfl, b2.out⟩
      | false =>
        have hiC : i ≠ C := fun c => by
          have h1 := HAt.out (by omega)
          rw [← c, hx.out] at h1
          have h2 := hz.out
          simp at h1 h2
          exact h2 h1
        go_wp2_with fail
        go_roundw
        case measure => simp [intOf]; omega
        case rel => exact ⟨i + 1, rfl, by omega, b2.out⟩
    · have hiC : C = N := by omega
      have hiN' : ¬ (i : Int) < (N : Int) := by omega
      have hRz' : (-1 : Int) = Rz := by rw [← hRz.out, if_neg (by omega)]
      subst hRz'
      go_wp2_with fail
      go_ret
      exact ⟨rfl, hb.out⟩
theorem inLine_any (w : World) (b : Nat) (d : D) (v vl : Value) (id : Int) (h : At w b d v vl) (hl : d.L.length ≤ 1000000) : Calls Try.prog 34 #[.pointer (some ⟨b, 0, none⟩), .int .i64 id] w fun e w' => e = .returned (.int .i64 (inlF d.L id)) ∧ Below w.heap.size w w' := by
  have B1 := box_below w (.cells #[.int .i64 id] 2)
  have h1 := h.below B1
  have N1 : (w.alloc (.cells #[.int .i64 id] 2)).cell? ⟨w.heap.size, 0, none⟩ = some (.int .i64 id) := by rw [cell_of (heap_alloc_new _ _)]; rfl
  have IX := hide (ixf_any _ vl d.L w.heap.size id h1.line hl N1)
  obtain ⟨-, -, -, -, -, -, c6⟩ := h1.cells
  obtain ⟨z, hz⟩ : ∃ z, Hid (inlF d.L id = z) := ⟨_, rfl⟩
  rw [hz.out] at IX ⊢
  obtain ⟨ao, ca, hvl, _, _⟩ := h1.line.form
  rw [hvl] at c6 IX
  have hmf : ∀ (fn : Fn) (first cap : Array Value) (w : World), (Instr.makeFunc fn first cap).run Try.prog w = .ok (.func fn first cap) w := fun _ _ _ _ => rfl
  replace B1 := hide B1
  clear h h1 N1
  go_enter Try.func34, Try.ntmps34
  go_wp2_with (go_at_call 44; refine IX.out.mono ?_; rintro e w2 ⟨rfl, b2⟩)
  go_ret
  exact ⟨rfl, keepF B1.out b2⟩
end Go.Proofs.Ytfoleeamhhodaaa.Qu

/-
  slices.Collect of the ring; Held.
-/
namespace Go.Proofs.Ytfoleeamhhodaaa.Qu
open Go.RowKit Go.Shelf
set_option linter.unusedVariables false
set_option maxRecDepth 100000
attribute [local go_sem] Oper.semAt_some
/-- Items of memory from block B on. -/
def Itb (B : Nat) (w : World) (v : Value) (l : List Itm) : Prop := w.ownsRow B 48 2 v l.length (icells l)
theorem Itb.its {B : Nat} {w : World} {v : Value} {l : List Itm} (h : Itb B w v l) : Its w v l := by
  refine ⟨h.1, ?_⟩
  rcases h.2 with h | ⟨g, cap, cur, rfl, hg, r⟩
  · exact .inl h
  · exact .inr ⟨g, cap, cur, rfl, Nat.zero_le _, r⟩
theorem Itb.of {B : Nat} {w : World} {v : Value} {l : List Itm} (h : Its w v l) (hb : ∀ k, v.ownBlock = some k → B ≤ k) : Itb B w v l := by
  refine ⟨h.1, ?_⟩
  rcases h.2 with h | ⟨g, cap, cur, rfl, hg, r⟩
  · exact .inl h
  · exact .inr ⟨g, cap, cur, rfl, hb g rfl, r⟩
theorem Itb.lt {B : Nat} {w : World} {v : Value} {l : List Itm} (h : Itb B w v l) : ∀ k, v.ownBlock = some k → B ≤ k ∧ k < w.heap.size := fun k hk => World.ownsRow.lt h k hk
theorem Itb.but {X : Nat → Prop} {B : Nat} {w w' : World} {v : Value} {l : List Itm} (h : Itb B w v l) (hb : But X w w') (hx : ∀ k, v.ownBlock = some k → ¬ X k) : Itb B w' v l := Itb.of (h.its.but hb hx) fun k hk => (h.lt k hk).1
theorem Itb.below {B : Nat} {w w' : World} {v : Value} {l : List Itm} (h : Itb B w v l) (hb : Below w.heap.size w w') : Itb B w' v l := h.but (But.of_below hb fun _ => False) fun _ _ c => c
theorem slice_of {w : World} {v : Value} {l : List Itm} (h : Its w v l) : ∃ ao n ca, v = .slice ao n ca := by
  obtain ⟨ao, ca, e, _⟩ := h.form
  exact ⟨ao, _, ca, e⟩
/-- One more item, appended. -/
theorem run_appI {B : Nat} {w : World} {v : Value} {l : List Itm} (t : Itm) (gg : Nat) (h : Itb B w v l) (h0 : Ib w gg t) (hl : l.length ≤ 1000000) (hB : B ≤ w.heap.size) (ty : TypeId) :
    ∃ v' w', (Builtin.append_ #[35, 35] ty #[v, .slice (some ⟨gg, 0, none⟩) 1 1]).run Try.prog w = .ok v' w' ∧ Itb B w' v' (l ++ [t]) ∧ w.grownBy w' v.ownBlock ∧ (v'.ownBlock = v.ownBlock ∨ v'.ownBlock = some w.heap.size) := by
  obtain ⟨i0, hi, hz0, hz1, hz2⟩ := info_parts infoIt
  have hcells : ∀ j u, ([.int .i64 t.1, .int .i64 t.2] : List Value)[j]? = some u → w.cell? ((⟨gg, 0, none⟩ : Addr).add j) = some u := by
    intro j u hu
    rw [addr_add]
    match j with
    | 0 => simp at hu; subst hu; exact h0.cells.1
    | 1 => simp at hu; subst hu; exact h0.cells.2
    | j + 2 => simp at hu
  obtain ⟨v', w', hr, ho, hg, _, hat⟩ := run_append_own_at (P := Try.prog) w B 35 ty 48 i0 (.agg #[.int .i64 0, .int .i64 0]) 2 16 Try.underlying35 hi hz0 hz1 hz2 rfl (by decide) v l.length (icells l) h ⟨gg, 0, none⟩ 1 1 [.int .i64 t.1, .int .i64 t.2] rfl hcells (by
      intro u hu
      simp at hu
      rcases hu with rfl | rfl <;> rfl) (by unfold maxLen; omega) (by omega) hB
  refine ⟨v', w', hr, ?_, hg, hat⟩
  unfold Itb
  rw [List.length_append, icells_snoc]
  exact ho
/-- What has been gathered: the variable's block fb holds the list vf. -/
structure Fi (w0 : World) (fb : Nat) (W : World) (C : Nat → Prop) (l : List Itm) (vf : Value) : Prop where
  box : W.heap[fb]? = some (.cells #[vf] 35 (0, 0))
  row : Itb w0.heap.size W vf l
  own : ∀ k, C k ↔ k = fb ∨ vf.ownBlock = some k
  below : Below w0.heap.size w0 W
theorem Fi.lt {w0 : World} {fb : Nat} {W : World} {C : Nat → Prop} {l : List Itm} {vf : Value} (h : Fi w0 fb W C l vf) : ∀ k, C k → k < W.heap.size := by
  intro k hk
  rcases (h.own k).1 hk with rfl | hk
  · exact heap_lt h.box
  · exact (h.row.lt k hk).2
theorem Fi.but {w0 : World} {fb : Nat} {W W' : World} {C : Nat → Prop} {l : List Itm} {vf : Value} {X : Nat → Prop} (h : Fi w0 fb W C l vf) (hb : But X W W') (hX : ∀ k, X k → w0.heap.size ≤ k ∧ ¬ C k) : Fi w0 fb W' C l vf where
  box := hb.at h.box fun hx => (hX _ hx).2 ((h.own _).2 (.inl rfl))
  row := h.row.but hb fun k hk hx => (hX _ hx).2 ((h.own _).2 (.inr hk))
  own := h.own
  below := h.below.trans (hb.below h.below.size fun k hx => (hX k hx).1)
theorem Fi.more {w0 : World} {fb : Nat} {W w1 : World} {C : Nat → Prop} {l : List Itm} {vf vf' : Value} {x : Itm} {o : Obj} (h : Fi w0 fb W C l vf) (hfb : w0.heap.size ≤ fb)
    (hg : (W.alloc o).grownBy w1 vf.ownBlock) (hrow : Itb w0.heap.size w1 vf' (l ++ [x])) (hat : vf'.ownBlock = vf.ownBlock ∨ vf'.ownBlock = some (W.alloc o).heap.size) :
    Fi w0 fb (w1.setCell ⟨fb, 0, none⟩ vf') (fun k => k = fb ∨ vf'.ownBlock = some k) (l ++ [x]) vf' ∧ w1.heap[fb]? = some (.cells #[vf] 35 (0, 0)) ∧ But C W (w1.setCell ⟨fb, 0, none⟩ vf') ∧ (∀ k, (k = fb ∨ vf'.ownBlock = some k) → C k ∨ W.heap.size ≤ k) := by
  have hbx : w1.heap[fb]? = some (.cells #[vf] 35 (0, 0)) := by
    rw [hg.block fb (by have := heap_lt h.box; simp; omega) (fun e => h.row.its.no h.box (by decide) e.symm), Below.heap_alloc _ _ _ (heap_lt h.box)]
    exact h.box
  have b0 : But (fun k => vf.ownBlock = some k) W w1 := ((But.alloc W o _).trans (But.of_grownBy hg fun k e => e))
  have b1 : But (fun k => k = fb) w1 (w1.setCell ⟨fb, 0, none⟩ vf') := But.of_grownBy (grown_setCell _ _ _ _) fun k e => by cases e; rfl
  refine ⟨⟨?_, ?_, fun k => Iff.rfl, ?_⟩, hbx, ?_, ?_⟩
  · exact Boxed.set vf' hbx
  · exact hrow.but b1 (fun k hk e => hrow.its.no hbx (by decide) (by rw [← e]; exact hk))
  · refine (h.below.trans (b0.below h.below.size fun k hk => (h.row.lt k hk).1)).trans (b1.below ?_ fun k e => by rw [e]; exact hfb)
    exact Nat.le_trans h.below.size b0.size
  · exact (b0.mono fun k _ hk => (h.own k).2 (.inr hk)).trans (b1.mono fun k _ e => (h.own k).2 (.inl e))
  · rintro k (rfl | hk)
    · exact .inl ((h.own _).2 (.inl rfl))
    · rcases hat with e | e
      · exact .inl ((h.own _).2 (.inr (by rw [← e]; exact hk)))
      · rw [e] at hk
        simp at hk
        exact .inr (by omega)
theorem two_new (w : World) (a b : Value) (T : TypeId) : ∀ (j : Nat) (u : Value), [a, b][j]? = some u → (w.alloc (.cells #[a, b] T)).cell? ((⟨w.heap.size, 0, none⟩ : Addr).add j) = some u := by
  intro j u h
  rw [addr_add]
  match j with
  | 0 => simp at h; subst h; unfold World.cell?; rw [show (w.alloc (.cells #[a, b] T)).heap[(⟨w.heap.size, 0 + 0, none⟩ : Addr).block]? = _ from heap_alloc_new _ _]; rfl
  | 1 => simp at h; subst h; unfold World.cell?; rw [show (w.alloc (.cells #[a, b] T)).heap[(⟨w.heap.size, 0 + 1, none⟩ : Addr).block]? = _ from heap_alloc_new _ _]; rfl
  | j + 2 => simp at h
theorem calls_marks {P : Program} {f : FuncId} {fn : Func} {c : Code} {args : Array Value} {w : World} {R : Ending → World → Prop} (hf : P.funcs[f]? = some fn) (hb : fn.body = some c)
    (h : c.wp P (bodyPostM Fence.wide 0 P fn R) { tmps := args ++ Array.replicate (fn.ntmps - args.size) undef, defers := [] } w) : Calls P f args w R :=
  callsIn_wide.1 (callsIn_of_wp_marks (n := 0) hf hb trivial ((wpIn_wide (n := 0)).2 h) rfl)
theorem Ib.new (w : World) (x : Itm) : Ib (w.alloc (.cells #[.int .i64 x.1, .int .i64 x.2] 48)) w.heap.size x := heap_alloc_new _ _
set_option maxHeartbeats 2000000 in
theorem appSeq_any (w : World) (pb b : Nat) (d : D) (v vl : Value) (h1 : w.heap[pb]? = some (.cells #[.pointer (some ⟨b, 2, none⟩)] 79 (0, 0))) (h : At w b d v vl) :
    Calls Try.prog 48 #[.slice none 0 0, .func (.func 46) #[] #[.pointer (some ⟨pb, 0, none⟩)]] w fun e w' => ∃ vf, e = .returned vf ∧ Itb w.heap.size w' vf d.H ∧ Below w.heap.size w w' := by
  have hHl : d.H.length ≤ 4096 := Nat.le_trans h.rg.len h.rl
  have hpl := heap_lt h1
  have hbl := h.lt
  refine calls_marks Try.func48 rfl ?_
  simp only [Try.ntmps48, List.size_toArray, List.length_cons, List.length_nil, Nat.reduceAdd, Nat.reduceSub, Array.replicate_succ, Array.replicate_zero, List.push_toArray, List.append_toArray, List.nil_append, List.cons_append]
  go_wp2_with fail
  have aB := box_below w (.cells #[.slice none 0 0] 35)
  have a1 := heap_alloc_new w (.cells #[.slice none 0 0] 35)
  have hs : (w.alloc (.cells #[.slice none 0 0] 35)).heap.size = w.heap.size + 1 := by simp
  obtain ⟨W0, hW0⟩ : ∃ W0, w.alloc (.cells #[.slice none 0 0] 35) = W0 := ⟨_, rfl⟩
  rw [hW0] at aB a1 hs ⊢
  have hA := h.below aB
  have hP : W0.heap[pb]? = some (.cells #[.pointer (some ⟨b, 2, none⟩)] 79 (0, 0)) := (aB.block pb hpl).trans h1
  have rlt : ∀ k, Rd pb b v vl k → k < W0.heap.size ∧ k ≠ w.heap.size := by
    rintro k (rfl | hk)
    · exact ⟨by omega, by omega⟩
    · have := hbl k hk
      exact ⟨by omega, by omega⟩
  refine wp_range (gf := 46) rfl (enters_of Try.func46 (by kernel_rfl) rfl) (all_seq W0 pb b d v vl hP hA) (Nat.le_refl _) (fun k hk => ⟨rfl, (rlt k hk).1⟩)
    (fun x args W D h => by obtain ⟨rfl, _⟩ := h; rfl)
    (fun pre C W => ∃ vf, Fi w w.heap.size W C pre vf)
    (fun c pre C W => False) ?hI ?hIx (fun k => k = w.heap.size) (fun k hk => ⟨fun h => (rlt k h).2 hk, by omega⟩)
    ⟨.slice none 0 0, ⟨a1, World.ownsRow_nil _ _ _ _, fun k => by simp [Value.ownBlock], aB⟩⟩ ?round ?done ?stop
  case hI =>
    rintro pre C A B ⟨vf, i3⟩ hb
    exact ⟨vf, i3.but hb fun k hk => ⟨by omega, hk.2⟩⟩
  case hIx =>
    rintro c pre C A B h hb
    exact h.elim
  case round =>
    rintro m pre x rest C1 D args W1 hxs ⟨vf, i3⟩ ⟨rfl, hDk⟩ hlt hD hl hlW nl nD
    have hpx : pre.length < d.H.length := by rw [hxs]; simp
    replace i3 := hide i3
    replace hD := hide hD
    replace hDk := hide hDk
    replace hxs := hide hxs
    clear hA hP h1 h a1
    simp only [List.zip_toArray, List.zip_cons_cons, List.zip_nil_right, List.foldl_toArray, List.foldl_cons, List.foldl_nil]
    gi_wp2
    refine ⟨But.alloc _ _ _, ?_⟩
    intro Wb hWb hsb
    have sb : Wb.heap.size = W1.heap.size + 1 := by rw [hsb]; simp
    have n1 := hide (hWb.at (Ib.new W1 x) (by omega))
    have bW : Hid (But (fun k => k = m) W1 Wb) := (But.alloc _ _ _).trans hWb
    have n3 := hide (i3.out.but bW.out fun k e => ⟨by omega, by rw [e]; exact nl⟩)
    clear hWb hsb i3
    have n1' : Ib Wb W1.heap.size x := n1.out
    obtain ⟨k0, k1⟩ := n1'.cells
    have k2 : Wb.cell? ⟨w.heap.size, 0, none⟩ = some vf := by rw [cell_of n3.out.box]; rfl
    have hB := n3.out.below.size
    obtain ⟨i0, hi, hz0, hz1, hz2⟩ := info_parts infoIt
    obtain ⟨N, hN⟩ : ∃ N, Hid (pre.length = N) := ⟨_, rfl⟩
    obtain ⟨gv, gc, hvf, _, _⟩ := n3.out.row.its.form
    rw [hN.out] at hvf hpx
    subst hvf
    have AL : Hid (∀ (o : Obj) (w1 : World) (vf' : Value), (Wb.alloc o).grownBy w1 (Value.slice gv N gc).ownBlock → w1.ownsRow w.heap.size 48 2 vf' (N + 1) (icells pre ++ [.int .i64 x.1, .int .i64 x.2]) → (vf'.ownBlock = (Value.slice gv N gc).ownBlock ∨ vf'.ownBlock = some (Wb.alloc o).heap.size) →
        Fi w w.heap.size (w1.setCell ⟨w.heap.size, 0, none⟩ vf') (fun k => k = w.heap.size ∨ vf'.ownBlock = some k) (pre ++ [x]) vf' ∧ w1.heap[w.heap.size]? = some (.cells #[.slice gv N gc] 35 (0, 0)) ∧ But C1 Wb (w1.setCell ⟨w.heap.size, 0, none⟩ vf') ∧ (∀ k, (k = w.heap.size ∨ vf'.ownBlock = some k) → C1 k ∨ Wb.heap.size ≤ k)) := by
      intro o w1 vf' h1 h2 h3
      refine n3.out.more (Nat.le_refl _) h1 ?_ h3
      unfold Itb
      rw [List.length_append, icells_snoc, hN.out]
      exact h2
    have ROW : Hid (Wb.ownsRow w.heap.size 48 2 (.slice gv N gc) N (icells pre)) := by
      have := n3.out.row
      unfold Itb at this
      rw [hN.out] at this
      exact this
    replace sb := hide sb
    clear n1' n1 n3 bW
    gi_wp2_with (gi_at_builtin; refine wpListIn_append_own_at _ rfl _ _ 35 rfl w.heap.size 48 i0 (.agg #[.int .i64 0, .int .i64 0]) 2 16 Try.underlying35 hi hz0 hz1 hz2 rfl (by decide) _ N (icells pre) rfl (ROW.out.alloc _) ⟨Wb.heap.size, 0, none⟩ 1 1 [.int .i64 x.1, .int .i64 x.2] rfl rfl (two_new _ _ _ _) (by simp [Value.oneCell']) (by unfold maxLen; omega) (by omega) (by simp; omega) ?_; intro vf' w1 hown' hgrow _ hat; obtain ⟨g', cap', rfl⟩ := ownsRow_succ hown'; obtain ⟨F1, F2, F3, F4⟩ := AL.out _ _ _ hgrow hown' hat; have hc1 := Boxed.cell F2; have hf1 := Boxed.frozen F2; replace F1 := hide F1; replace F2 := hide F2; replace F3 := hide F3; replace F4 := hide F4)
    refine ⟨_, ⟨_, F1.out⟩, F3.out, fun k hk => ⟨?_, F1.out.lt k hk⟩⟩
    rcases F4.out k hk with h | h
    · exact .inl h
    · exact .inr (.inr (by have := sb.out; omega))
  case done =>
    rintro C2 W ⟨vf, i3⟩ hK nD
    have c0 : W.cell? ⟨w.heap.size, 0, none⟩ = some vf := by rw [cell_of i3.box]; rfl
    obtain ⟨gv, gn, gc, rfl⟩ := slice_of i3.row.its
    replace i3 := hide i3
    replace hK := hide hK
    have hsz : w.heap.size ≤ W0.heap.size := by omega
    clear h hA hP h1 a1
    dsimp only
    go_wp2_with fail
    refine ⟨by simp, .inl ⟨_, _, rfl, run_takeDeferred hK.out, ?_⟩⟩
    have FF := fun o => i3.out.but (But.putObj (X := fun k => k = W0.heap.size) W W0.heap.size o rfl) (fun k e => ⟨by rw [e]; exact hsz, by rw [e]; exact nD⟩)
    exact ⟨_, results_tmp rfl _ _ _, _, rfl, (FF _).row, (FF _).below⟩
  case stop =>
    rintro c pre C2 W _ h
    exact h.elim
theorem collect_any (w : World) (pb b : Nat) (d : D) (v vl : Value) (h1 : w.heap[pb]? = some (.cells #[.pointer (some ⟨b, 2, none⟩)] 79 (0, 0))) (h : At w b d v vl) :
    Calls Try.prog 39 #[.func (.func 46) #[] #[.pointer (some ⟨pb, 0, none⟩)]] w fun e w' => ∃ vf, e = .returned vf ∧ Itb w.heap.size w' vf d.H ∧ Below w.heap.size w w' := by
  have AP := hide (appSeq_any w pb b d v vl h1 h)
  clear h h1
  go_enter Try.func39, Try.ntmps39
  go_wp2_with (go_at_call 48; refine AP.out.mono ?_; rintro e w2 ⟨vf, rfl, i1, b1⟩; replace i1 := hide i1; replace b1 := hide b1)
  go_ret
  exact ⟨vf, rfl, i1.out, b1.out⟩
theorem held_any (w : World) (b : Nat) (d : D) (v vl : Value) (h : At w b d v vl) (hc : 1 ≤ d.cap) :
    Calls Try.prog 22 #[.pointer (some ⟨b, 0, none⟩)] w fun e w' => ∃ vf, e = .returned vf ∧ Itb w.heap.size w' vf d.H ∧ Below w.heap.size w w' := by
  have HM := hide (made_any w b d v vl h hc)
  have B1 := box_below w (.cells #[.pointer (some ⟨b, 2, none⟩)] 79)
  have CC := hide (collect_any _ w.heap.size b d v vl (heap_alloc_new _ _) (h.below B1))
  obtain ⟨W1, hW1⟩ : ∃ W1, Hid (w.alloc (.cells #[.pointer (some ⟨b, 2, none⟩)] 79) = W1) := ⟨_, rfl⟩
  rw [hW1.out] at CC B1
  replace B1 := hide B1
  clear h
  go_enter Try.func22, Try.ntmps22
  go_wp2_with (first | (go_at_call 29; refine HM.out.mono ?_; rintro e w' ⟨rfl, hw⟩; rw [hw]; clear hw w') | (go_at_call 36; refine (all_any _ _).mono ?_; rintro e w' ⟨rfl, hw⟩; rw [hw, hW1.out]; clear hw w') | (go_at_call 39; refine CC.out.mono ?_; rintro e w2 ⟨vf, rfl, i1, b1⟩; replace i1 := hide i1; replace b1 := hide b1))
  go_ret
  exact ⟨vf, rfl, Itb.of i1.out.its fun k hk => Nat.le_trans B1.out.size (i1.out.lt k hk).1, keepF B1.out b1.out⟩
end Go.Proofs.Ytfoleeamhhodaaa.Qu

/-
  knows: is a number held, or in line?
-/
namespace Go.Proofs.Ytfoleeamhhodaaa.Qu
open Go.RowKit Go.Shelf
set_option linter.unusedVariables false
set_option maxRecDepth 100000
attribute [local go_sem] Oper.semAt_some
theorem heap3 (w : World) (o0 o1 o2 : Obj) : ∃ W, ((w.alloc o0).alloc o1).alloc o2 = W ∧ W.heap.size = w.heap.size + 3 ∧ W.heap[w.heap.size]? = some o0 ∧ W.heap[w.heap.size + 1]? = some o1 ∧ W.heap[w.heap.size + 1 + 1]? = some o2 ∧ Below w.heap.size w W := by
  have a := heap_alloc_new w o0
  have hs : (w.alloc o0).heap.size = w.heap.size + 1 := by simp
  have hB := (Below.refl w.heap.size w).alloc (Nat.le_refl _) o0
  revert a hs hB
  generalize w.alloc o0 = u
  intro a hs hB
  have c := heap_alloc_new u o1
  have a' := (Below.heap_alloc u o1 w.heap.size (by omega)).trans a
  have hs' : (u.alloc o1).heap.size = w.heap.size + 1 + 1 := by simp [hs]
  have hB' := hB.alloc (by omega) o1
  rw [hs] at c
  revert a' hs' hB' c
  generalize u.alloc o1 = u1
  intro c a' hs' hB'
  refine ⟨_, rfl, by simp [hs'], ?_, ?_, ?_, hB'.alloc (by omega) o2⟩
  · rw [Below.heap_alloc _ _ _ (by omega)]; assumption
  · rw [Below.heap_alloc _ _ _ (by omega)]; assumption
  · rw [← hs']; exact heap_alloc_new _ _
def knB (d : D) (id : Int) : Bool := decide (id ∈ d.H.map (·.1)) || decide (id ∈ d.L.map (·.1))
theorem inl_ge (l : List Itm) (id : Int) : decide (inlF l id ≥ 0) = decide (id ∈ l.map (·.1)) := by
  unfold inlF
  rw [decide_eq_decide]
  by_cases h : ixI l id < l.length
  · rw [if_pos h]
    exact ⟨fun _ => (ix_mem l id).1 h, fun _ => by omega⟩
  · rw [if_neg h]
    exact ⟨fun h => by omega, fun h' => absurd ((ix_mem l id).2 h') h⟩
set_option maxHeartbeats 2000000 in
theorem knows_any (w : World) (b : Nat) (d : D) (v vl : Value) (id : Int) (h : At w b d v vl) (hL : d.L.length ≤ 1000000) :
    Calls Try.prog 40 #[.pointer (some ⟨b, 0, none⟩), .int .i64 id] w fun e w' => e = .returned (.bool (knB d id)) ∧ Below w.heap.size w w' := by
  have hHl : d.H.length ≤ 4096 := Nat.le_trans h.rg.len h.rl
  have hbl := h.lt
  obtain ⟨F, hF⟩ : ∃ F, Hid (knB d id = F) := ⟨_, rfl⟩
  rw [hF.out]
  refine calls_marks Try.func40 rfl ?_
  simp only [Try.ntmps40, List.size_toArray, List.length_cons, List.length_nil, Nat.reduceAdd, Nat.reduceSub, Array.replicate_succ, Array.replicate_zero, List.push_toArray, List.append_toArray, List.nil_append, List.cons_append]
  go_wp2_with (go_at_call 36; refine (all_any _ _).mono ?_; rintro e u ⟨rfl, rfl⟩)
  obtain ⟨W0, hW0, hs, a0, a1, a2, aB⟩ := heap3 w (.cells #[.int .i64 id] 2) (.cells #[.bool false] 4) (.cells #[.pointer (some ⟨b, 2, none⟩)] 79)
  rw [hW0]
  have hA := h.below aB
  have rlt : ∀ k, Rd (w.heap.size + 1 + 1) b v vl k → k < W0.heap.size ∧ k ≠ w.heap.size + 1 := by
    rintro k (rfl | hk)
    · exact ⟨by omega, by omega⟩
    · have := hbl k hk
      exact ⟨by omega, by omega⟩
  refine wp_range (gf := 46) rfl (enters_of Try.func46 (by kernel_rfl) rfl) (all_seq W0 _ b d v vl a2 hA) (Nat.le_refl _) (fun k hk => ⟨rfl, (rlt k hk).1⟩)
    (fun x args W D h => by obtain ⟨rfl, _⟩ := h; rfl)
    (fun pre C W => (∀ x ∈ pre, x.1 ≠ id) ∧ W.heap[w.heap.size + 1]? = some (.cells #[.bool false] 4 (0, 0)) ∧ W.heap[w.heap.size]? = some (.cells #[.int .i64 id] 2 (0, 0)) ∧ Below w.heap.size w W ∧ ∀ k, C k ↔ k = w.heap.size + 1)
    (fun c pre C W => c = .ret ∧ (∃ x ∈ pre, x.1 = id) ∧ W.heap[w.heap.size + 1]? = some (.cells #[.bool true] 4 (0, 0)) ∧ Below w.heap.size w W ∧ ∀ k, C k ↔ k = w.heap.size + 1) ?hI ?hIx (fun k => k = w.heap.size + 1) (fun k hk => ⟨fun h => (rlt k h).2 hk, by omega⟩)
    ⟨by simp, a1, a0, aB, fun k => Iff.rfl⟩ ?round ?done ?stop
  case hI =>
    rintro pre C A B ⟨i1, i2, i3, i4, i5⟩ hb
    exact ⟨i1, hb.at i2 (fun h => h.2 ((i5 _).2 rfl)), hb.at i3 (by omega), i4.trans (hb.below i4.size fun k hk => by omega), i5⟩
  case hIx =>
    rintro c pre C A B ⟨i0, i1, i2, i4, i5⟩ hb
    exact ⟨i0, i1, hb.at i2 (fun h => h.2 ((i5 _).2 rfl)), i4.trans (hb.below i4.size fun k hk => by omega), i5⟩
  case round =>
    rintro m pre x rest C1 D args W1 hxs ⟨i1, i2, i3, i4, i5⟩ ⟨rfl, hDk⟩ hlt hD hl hlW nl nD
    replace i1 := hide i1
    replace i2 := hide i2
    replace i3 := hide i3
    replace i4 := hide i4
    replace i5 := hide i5
    replace hxs := hide hxs
    clear a0 a1 a2 hA h hD hDk
    simp only [List.zip_toArray, List.zip_cons_cons, List.zip_nil_right, List.foldl_toArray, List.foldl_cons, List.foldl_nil]
    gi_wp2
    refine ⟨But.alloc _ _ _, ?_⟩
    intro Wb hWb hsb
    have sb : Wb.heap.size = W1.heap.size + 1 := by rw [hsb]; simp
    have n1 : Ib Wb W1.heap.size x := hWb.at (Ib.new W1 x) (by omega)
    have bW : Hid (But (fun k => k = m) W1 Wb) := (But.alloc _ _ _).trans hWb
    have n2 := hide (bW.out.at i2.out (by omega))
    have n3 := hide (bW.out.at i3.out (by omega))
    have n4 := hide (i4.out.trans (bW.out.below i4.out.size fun k e => by omega))
    obtain ⟨k0, -⟩ := n1.cells
    have k2 : Wb.cell? ⟨w.heap.size, 0, none⟩ = some (.int .i64 id) := by rw [cell_of n3.out]; rfl
    have c1 : Wb.cell? ⟨w.heap.size + 1, 0, none⟩ = some (.bool false) := by rw [cell_of n2.out]; rfl
    have f1 : Wb.frozen? ⟨w.heap.size + 1, 0, none⟩ = false := by have := n2.out; simp [World.frozen?, this]
    replace sb := hide sb
    clear n1 bW hWb hsb i2 i3 i4
    gi_wp2
    · have heq : x.1 = id := by rename_i h; simpa using h
      have bb := But.set (w := Wb) (w.heap.size + 1) 0 (.bool true)
      refine ⟨C1, ⟨rfl, ⟨x, by simp, heq⟩, ?_, n4.out.trans (bb.below n4.out.size fun k e => by omega), i5.out⟩, bb.mono fun k _ e => (i5.out k).2 e, fun k hk => ⟨.inl hk, ?_⟩⟩
      · rw [heap_setCell_same Wb _ 0 _ _ _ n2.out]; rfl
      · rw [(i5.out k).1 hk]
        have := heap_lt n2.out
        simpa using this
    · have hne : ¬ x.1 = id := by rename_i h; simpa using h
      refine ⟨C1, ⟨?_, n2.out, n3.out, n4.out, i5.out⟩, But.refl _ _, fun k hk => ⟨.inl hk, ?_⟩⟩
      · intro x' hx'
        rcases List.mem_append.1 hx' with h | h
        · exact i1.out x' h
        · rw [List.mem_singleton.1 h]; exact hne
      · rw [(i5.out k).1 hk]; exact heap_lt n2.out
  case done =>
    rintro C2 W ⟨i1, i2, i3, i4, i5⟩ hK nD
    have hF' : F = decide (inlF d.L id ≥ 0) := by
      rw [← hF.out, inl_ge]
      unfold knB
      rw [decide_eq_false (p := id ∈ d.H.map (·.1)) (by
        intro hm
        obtain ⟨x, hx, e⟩ := List.mem_map.1 hm
        exact i1 x hx e)]
      rfl
    have IL := hide (inLine_any W b d v vl id (h.below i4) hL)
    have k2 : W.cell? ⟨w.heap.size, 0, none⟩ = some (.int .i64 id) := by rw [cell_of i3]; rfl
    obtain ⟨z, hz⟩ : ∃ z, Hid (inlF d.L id = z) := ⟨_, rfl⟩
    rw [hz.out] at IL hF'
    replace hF' := hide hF'
    have FC : Hid (∀ U, Below W.heap.size W U → U.heap[w.heap.size + 1]? = some (.cells #[.bool false] 4 (0, 0)) ∧ U.heap[W0.heap.size]? = some (.deferred (some [])) ∧ Below w.heap.size w U) := fun U hU => ⟨(hU.block _ (heap_lt i2)).trans i2, (hU.block _ (heap_lt hK)).trans hK, i4.trans (hU.mono i4.size)⟩
    replace hs := hide hs
    clear i1 i2 i3 i4 i5 a0 a1 a2 hA hW0 h hK
    dsimp only
    go_wp2_with (go_at_call 34; refine IL.out.mono ?_; rintro e U ⟨rfl, bU⟩; obtain ⟨j1, j2, j3⟩ := FC.out U bU; have c1 : U.cell? ⟨w.heap.size + 1, 0, none⟩ = some (.bool false) := (by rw [cell_of j1]; rfl); have f1 : U.frozen? ⟨w.heap.size + 1, 0, none⟩ = false := (by simp [World.frozen?, j1]); replace j1 := hide j1; replace j2 := hide j2; replace j3 := hide j3)
    have hF2 : F = decide (0 ≤ z) := hF'.out
    rw [← hF2]
    have bb := But.set (w := U) (w.heap.size + 1) 0 (.bool F)
    have N1 : (U.setCell ⟨w.heap.size + 1, 0, none⟩ (.bool F)).heap[w.heap.size + 1]? = some (.cells #[.bool F] 4 (0, 0)) := by rw [heap_setCell_same U _ 0 _ _ _ j1.out]; rfl
    have N2 := bb.at j2.out (by have := hs.out; omega)
    have N3 := j3.out.trans (bb.below j3.out.size fun k e => by omega)
    refine ⟨by simp, .inl ⟨_, _, rfl, run_takeDeferred N2, ?_⟩⟩
    have pb := But.putObj (X := fun k => k = W0.heap.size) (U.setCell ⟨w.heap.size + 1, 0, none⟩ (.bool F)) W0.heap.size (.deferred none) rfl
    have G1 := pb.at N1 (by have := hs.out; omega)
    have G2 := N3.trans (pb.below N3.size fun k e => by have := hs.out; omega)
    have k0 : ((U.setCell ⟨w.heap.size + 1, 0, none⟩ (.bool F)).putObj W0.heap.size (.deferred none)).cell? ⟨w.heap.size + 1, 0, none⟩ = some (.bool F) := by rw [cell_of G1]; rfl
    exact ⟨_, by simp [results, Try.results40, go_sem, k0], rfl, G2⟩
  case stop =>
    rintro c pre C2 W hp ⟨rfl, i1, i2, i4, i5⟩ hK nD
    have hF' : F = true := by
      rw [← hF.out]
      unfold knB
      obtain ⟨x, hx, e⟩ := i1
      rw [decide_eq_true (p := id ∈ d.H.map (·.1)) (List.mem_map.2 ⟨x, hp.subset hx, e⟩)]
      rfl
    subst hF'
    replace hK := hide hK
    replace hs := hide hs
    replace i2 := hide i2
    replace i4 := hide i4
    clear i1 a0 a1 a2 hA hW0 h
    dsimp only
    go_wp2_with fail
    refine ⟨by simp, .inl ⟨_, _, rfl, run_takeDeferred hK.out, ?_⟩⟩
    have pb := But.putObj (X := fun k => k = W0.heap.size) W W0.heap.size (.deferred none) rfl
    have G1 := pb.at i2.out (by have := hs.out; omega)
    have G2 := i4.out.trans (pb.below i4.out.size fun k e => by have := hs.out; omega)
    have k0 : (W.putObj W0.heap.size (.deferred none)).cell? ⟨w.heap.size + 1, 0, none⟩ = some (.bool true) := by rw [cell_of G1]; rfl
    exact ⟨_, by simp [results, Try.results40, go_sem, k0], rfl, G2⟩
end Go.Proofs.Ytfoleeamhhodaaa.Qu

/-
  refuses, Put.
-/
namespace Go.Proofs.Ytfoleeamhhodaaa.Qu
open Go.RowKit
open Ix (wp_region_T wpAnyT wpAnyT_take wpAnyT_one wpAnyT_done vac)
set_option linter.unusedVariables false
set_option maxRecDepth 100000
/-- Why an item is refused; 0: it is not. -/
def refF (d : D) (id s : Int) : Int := if s < 0 then 1 else if s > d.bytes then 3 else if knB d id = true then 7 else if 1024 ≤ d.L.length then 9 else 0
theorem refuses_any (w : World) (b : Nat) (d : D) (v vl : Value) (id s : Int) (h : At w b d v vl) (hc : 1 ≤ d.cap) (hL : d.L.length ≤ 1000000) :
    Calls Try.prog 24 #[.pointer (some ⟨b, 0, none⟩), .int .i64 id, .int .i64 s] w fun e w' => e = .returned (.int .i64 (refF d id s)) ∧ Below w.heap.size w w' := by
  have HM := hide (made_any w b d v vl h hc)
  have KN := hide (knows_any w b d v vl id h hL)
  obtain ⟨-, c1, -⟩ := h.cells
  obtain ⟨R, hR⟩ : ∃ R, Hid (refF d id s = R) := ⟨_, rfl⟩
  rw [hR.out]
  by_cases h1 : s < 0
  · obtain rfl : R = 1 := by rw [← hR.out]; unfold refF; rw [if_pos h1]
    clear h KN hR
    go_enter Try.func24, Try.ntmps24
    go_wp2_with (go_at_call 29; refine HM.out.mono ?_; rintro e w' ⟨rfl, hw⟩; rw [hw]; clear hw w')
    go_ret
    exact ⟨rfl, Below.refl _ _⟩
  · by_cases h2 : s > d.bytes
    · obtain rfl : R = 3 := by rw [← hR.out]; unfold refF; rw [if_neg h1, if_pos h2]
      clear h KN hR
      go_enter Try.func24, Try.ntmps24
      go_wp2_with (go_at_call 29; refine HM.out.mono ?_; rintro e w' ⟨rfl, hw⟩; rw [hw]; clear hw w')
      go_ret
      exact ⟨rfl, Below.refl _ _⟩
    · have hE : Hid ((if knB d id = true then 7 else if 1024 ≤ d.L.length then 9 else 0 : Int) = R) := by rw [← hR.out]; show _ = _; unfold refF; rw [if_neg h1, if_neg h2]
      obtain ⟨ao, ca, hvl, _, _⟩ := h.line.form
      have FC : Hid (∀ U, Below w.heap.size w U → U.cell? ⟨b, 6, none⟩ = some vl) := fun U hU => by obtain ⟨-, -, -, -, -, -, c6⟩ := (h.below hU).cells; exact c6
      subst hvl
      obtain ⟨n, hn⟩ : ∃ n, Hid (d.L.length = n) := ⟨_, rfl⟩
      rw [hn.out] at hE FC hL
      obtain ⟨z, hz⟩ : ∃ z, Hid (knB d id = z) := ⟨_, rfl⟩
      rw [hz.out] at KN hE
      clear h hR
      cases z with
      | true =>
        obtain rfl : R = 7 := by rw [← hE.out]; rfl
        go_enter Try.func24, Try.ntmps24
        go_wp2_with (first | (go_at_call 29; refine HM.out.mono ?_; rintro e w' ⟨rfl, hw⟩; rw [hw]; clear hw w') | (go_at_call 40; refine KN.out.mono ?_; rintro e w2 ⟨rfl, b2⟩))
        go_ret
        exact ⟨rfl, b2⟩
      | false =>
        have hE2 : (if 1024 ≤ n then 9 else 0 : Int) = R := by simpa using hE.out
        by_cases h3 : 1024 ≤ n
        · have h3' : (n : Int) ≥ 1024 := by omega
          obtain rfl : R = 9 := by rw [← hE2, if_pos h3]
          clear hE2
          go_enter Try.func24, Try.ntmps24
          go_wp2_with (first | (go_at_call 29; refine HM.out.mono ?_; rintro e w' ⟨rfl, hw⟩; rw [hw]; clear hw w') | (go_at_call 40; refine KN.out.mono ?_; rintro e w2 ⟨rfl, b2⟩; have c6 := FC.out w2 b2))
          go_ret
          exact ⟨rfl, b2⟩
        · have h3' : ¬ (n : Int) ≥ 1024 := by omega
          obtain rfl : R = 0 := by rw [← hE2, if_neg h3]
          clear hE2
          go_enter Try.func24, Try.ntmps24
          go_wp2_with (first | (go_at_call 29; refine HM.out.mono ?_; rintro e w' ⟨rfl, hw⟩; rw [hw]; clear hw w') | (go_at_call 40; refine KN.out.mono ?_; rintro e w2 ⟨rfl, b2⟩; have c6 := FC.out w2 b2))
          go_ret
          exact ⟨rfl, b2⟩
end Go.Proofs.Ytfoleeamhhodaaa.Qu

/-
  Put. (gen_QuM.py)
-/
namespace Go.Proofs.Ytfoleeamhhodaaa.Qu
open Go.RowKit
open Ix (wp_region_T wpAnyT wpAnyT_take wpAnyT_one wpAnyT_done vac)
set_option linter.unusedVariables false
set_option maxRecDepth 100000
/-- A queue as it is told: its bounds, what is held, who stands in line. -/
structure Q where
  cap : Int
  bytes : Int
  H : List Itm
  L : List Itm
def sumS (l : List Itm) : Int := (l.map (·.2)).sum
theorem sumS_snoc (l : List Itm) (x : Itm) : sumS (l ++ [x]) = sumS l + x.2 := by simp [sumS]
theorem sumS_cons (l : List Itm) (x : Itm) : sumS (x :: l) = x.2 + sumS l := by simp [sumS]
theorem sumS_nonneg {l : List Itm} (h : ∀ x ∈ l, 0 ≤ x.2) : 0 ≤ sumS l := by
  induction l with
  | nil => simp [sumS]
  | cons a r ih =>
    rw [sumS_cons]
    have := h a (by simp)
    have := ih fun x hx => h x (by simp [hx])
    omega
/-- What is so of a queue between calls. -/
structure Ok (q : Q) : Prop where
  c1 : 1 ≤ q.cap
  c2 : q.cap ≤ 1024
  b1 : 1 ≤ q.bytes
  b2 : q.bytes ≤ 16777216
  hl : (q.H.length : Int) ≤ q.cap
  us : sumS q.H ≤ q.bytes
  ln : q.L.length ≤ 1024
  sz : ∀ x ∈ q.H, 0 ≤ x.2 ∧ x.2 ≤ q.bytes
  szL : ∀ x ∈ q.L, 0 ≤ x.2 ∧ x.2 ≤ q.bytes
theorem Ok.u0 {q : Q} (h : Ok q) : 0 ≤ sumS q.H := sumS_nonneg fun x hx => (h.sz x hx).1
/-- At block b lies the queue q. -/
def QA (w : World) (b : Nat) (q : Q) (v vl : Value) : Prop := ∃ R f, At w b ⟨q.cap, q.bytes, sumS q.H, R, f, q.H, q.L⟩ v vl
theorem QA.but {Y : Nat → Prop} {A B : World} {b : Nat} {q : Q} {v vl : Value} (h : QA A b q v vl) (hb : But Y A B) (hx : ∀ k, Own b v vl k → ¬ Y k) : QA B b q v vl := by
  obtain ⟨R, f, h⟩ := h
  exact ⟨R, f, h.but hb hx⟩
theorem QA.below {A B : World} {b : Nat} {q : Q} {v vl : Value} (h : QA A b q v vl) (hb : Below A.heap.size A B) : QA B b q v vl := h.but (But.of_below hb fun _ => False) fun _ _ c => c
theorem QA.lt {w : World} {b : Nat} {q : Q} {v vl : Value} (h : QA w b q v vl) : ∀ k, Own b v vl k → k < w.heap.size := by
  obtain ⟨R, f, h⟩ := h
  exact h.lt
def room (q : Q) (s : Int) : Bool := decide ((q.H.length : Int) < q.cap ∧ s ≤ q.bytes - sumS q.H)
def hasI (l : List Itm) (id : Int) : Bool := decide (id ∈ l.map (·.1))
def refQ (q : Q) (id s : Int) : Int := if s < 0 then 1 else if s > q.bytes then 3 else if (hasI q.H id || hasI q.L id) = true then 7 else if 1024 ≤ q.L.length then 9 else 0
def putQ (q : Q) (id s : Int) : Bool × Int × Q :=
  if refQ q id s ≠ 0 then (false, refQ q id s, q) else if q.L = [] ∧ room q s = true then (true, 0, ⟨q.cap, q.bytes, q.H ++ [(id, s)], q.L⟩) else (false, 0, ⟨q.cap, q.bytes, q.H, q.L ++ [(id, s)]⟩)
theorem ref0 {q : Q} {id s : Int} (h : refQ q id s = 0) : 0 ≤ s ∧ s ≤ q.bytes ∧ (hasI q.H id || hasI q.L id) = false ∧ q.L.length < 1024 := by
  unfold refQ at h
  split at h
  · cases h
  · split at h
    · cases h
    · split at h
      · cases h
      · split at h
        · cases h
        · rename_i a b c d
          exact ⟨by omega, by omega, by simpa using c, by omega⟩
theorem put_ok {q : Q} (h : Ok q) (id s : Int) : Ok (putQ q id s).2.2 := by
  unfold putQ
  split
  · exact h
  · rename_i h0
    have h0 : refQ q id s = 0 := by simpa using h0
    obtain ⟨r1, r2, r3, r4⟩ := ref0 h0
    split
    · rename_i h1
      unfold room at h1
      simp only [decide_eq_true_eq] at h1
      refine ⟨h.c1, h.c2, h.b1, h.b2, by simp; omega, by rw [sumS_snoc]; simp; omega, h.ln, ?_, h.szL⟩
      intro x hx
      rcases List.mem_append.1 hx with hx | hx
      · exact h.sz x hx
      · rw [List.mem_singleton.1 hx]; exact ⟨r1, r2⟩
    · refine ⟨h.c1, h.c2, h.b1, h.b2, h.hl, h.us, by simp; omega, h.sz, ?_⟩
      intro x hx
      rcases List.mem_append.1 hx with hx | hx
      · exact h.szL x hx
      · rw [List.mem_singleton.1 hx]; exact ⟨r1, r2⟩
def Bx (w : World) (b : Nat) (d : D) (v vl : Value) : Prop := w.heap[b]? = some (.cells (qc d v vl) 58 (0, 0))
theorem Bx.c6 {w : World} {b : Nat} {d : D} {v vl : Value} (h : Bx w b d v vl) : w.cell? ⟨b, 6, none⟩ = some vl := by rw [cell_of h]; rfl
theorem Bx.f6 {w : World} {b : Nat} {d : D} {v vl : Value} (h : Bx w b d v vl) : w.frozen? ⟨b, 6, none⟩ = false := by
  unfold Bx at h
  simp [World.frozen?, h]
/-- The line one longer. -/
theorem At.longer {w w4 : World} {b : Nat} {cap bytes u : Int} {R H L : List Itm} {f : Nat} {v vl vl' : Value} {x : Itm} (h : At w b ⟨cap, bytes, u, R, f, H, L⟩ v vl) (ho : Its w4 vl' (L ++ [x])) (hg : w.grownBy w4 vl.ownBlock) (hat : vl'.ownBlock = vl.ownBlock ∨ vl'.ownBlock = some w.heap.size) :
    Bx w4 b ⟨cap, bytes, u, R, f, H, L⟩ v vl ∧ At (w4.setCell ⟨b, 6, none⟩ vl') b ⟨cap, bytes, u, R, f, H, L ++ [x]⟩ v vl' ∧ Stp b v vl v vl' w (w4.setCell ⟨b, 6, none⟩ vl') := by
  have hb : w4.heap[b]? = some (.cells (qc ⟨cap, bytes, u, R, f, H, L⟩ v vl) 58 (0, 0)) := by
    rw [hg.block b (heap_lt h.box) (fun e => h.no2 e.symm)]
    exact h.box
  have g0 : But (fun k => vl.ownBlock = some k) w w4 := But.of_grownBy hg fun k e => e
  have g1 : But (fun k => k = b) w4 (w4.setCell ⟨b, 6, none⟩ vl') := But.set b 6 vl'
  refine ⟨hb, ⟨?_, ?_, h.rg, ?_, ?_, h.rl, h.nv, h.r4⟩, (g0.mono fun k _ e => .inr (.inr e)).trans (g1.mono fun k _ e => .inl e), ?_⟩
  · rw [heap_setCell_same w4 b 6 _ _ _ hb]; rfl
  · exact (h.row.but g0 fun k hk e => h.ap k hk e).but g1 fun k hk e => h.no1 (by rw [← e]; exact hk)
  · exact ho.but g1 fun k hk e => ho.no hb (by decide) (by rw [← e]; exact hk)
  · intro k hk e
    rcases hat with q | q
    · exact h.ap k hk (by rw [← q]; exact e)
    · rw [q] at e
      cases e
      exact absurd (h.row.lt _ hk) (Nat.lt_irrefl _)
  · rintro k (e | e | e)
    · exact .inl (.inl e)
    · exact .inl (.inr (.inl e))
    · rcases hat with q | q
      · exact .inl (.inr (.inr (by rw [← q]; exact e)))
      · rw [q] at e
        cases e
        exact .inr (Nat.le_refl _)
set_option maxHeartbeats 2000000 in
theorem put_any (w : World) (b : Nat) (q : Q) (v vl : Value) (id s : Int) (hq : QA w b q v vl) (ok : Ok q) :
    Calls Try.prog 9 #[.pointer (some ⟨b, 0, none⟩), .int .i64 id, .int .i64 s] w fun e w' => e = .returned (.tuple #[.bool (putQ q id s).1, .int .i64 (putQ q id s).2.1]) ∧ ∃ v' vl', QA w' b (putQ q id s).2.2 v' vl' ∧ Stp b v vl v' vl' w w' := by
  obtain ⟨R, f, h⟩ := hq
  have hu0 := ok.u0
  have RF := hide (refuses_any w b _ v vl id s h ok.c1 (by have := ok.ln; show q.L.length ≤ _; omega))
  have eR : refF ⟨q.cap, q.bytes, sumS q.H, R, f, q.H, q.L⟩ id s = refQ q id s := rfl
  rw [eR] at RF
  clear eR
  obtain ⟨P1, P2, P3, hP⟩ : ∃ P1 P2 P3, Hid (putQ q id s = (P1, P2, P3)) := ⟨_, _, _, rfl⟩
  rw [hP.out]
  by_cases h0 : refQ q id s ≠ 0
  · have e1 : putQ q id s = (false, refQ q id s, q) := by unfold putQ; rw [if_pos h0]
    rw [hP.out] at e1
    simp only [Prod.mk.injEq] at e1
    obtain ⟨rfl, rfl, rfl⟩ := e1
    have H0 := hide h
    clear h hP hu0
    obtain ⟨r, hr⟩ : ∃ r, Hid (refQ P3 id s = r) := ⟨_, rfl⟩
    rw [hr.out] at RF h0 ⊢
    have h0' : (r != 0) = true := by simpa using h0
    go_enter Try.func9, Try.ntmps9
    go_wp2_with (go_at_call 24; refine RF.out.mono ?_; rintro e w2 ⟨rfl, b2⟩)
    go_ret2
    exact ⟨rfl, v, vl, ⟨R, f, H0.out.below b2⟩, But.of_below b2 _, fun k hk => .inl hk⟩
  · have h0 : refQ q id s = 0 := by simpa using h0
    obtain ⟨r1, r2, r3, r4⟩ := ref0 h0
    rw [h0] at RF
    have e1 : putQ q id s = if q.L = [] ∧ room q s = true then (true, 0, ⟨q.cap, q.bytes, q.H ++ [(id, s)], q.L⟩) else (false, 0, ⟨q.cap, q.bytes, q.H, q.L ++ [(id, s)]⟩) := by unfold putQ; rw [if_neg (by simp [h0])]
    rw [hP.out] at e1
    replace e1 := hide e1
    have H0 := hide h
    have hc2 := ok.c2
    have hl2 := ok.hl
    have hb2 := ok.b2
    have hb1 := ok.b1
    have hus := ok.us
    -- what stands behind refuses and the new box
    have HW : Hid (∀ w2, Below w.heap.size w w2 → At (w2.alloc (.cells #[.int .i64 id, .int .i64 s] 48)) b ⟨q.cap, q.bytes, sumS q.H, R, f, q.H, q.L⟩ v vl ∧ Ib (w2.alloc (.cells #[.int .i64 id, .int .i64 s] 48)) w2.heap.size (id, s) ∧ Below w.heap.size w (w2.alloc (.cells #[.int .i64 id, .int .i64 s] 48))) := fun w2 b2 => ⟨h.below (keepF b2 (box_below _ _)), Ib.new w2 (id, s), keepF b2 (box_below _ _)⟩
    have hxl := hide h.lt
    clear h
    go_enter Try.func9, Try.ntmps9
    go_upto_region 5 with (go_at_call 24; refine RF.out.mono ?_; rintro e w2 ⟨rfl, b2⟩)
    obtain ⟨A2, X2, B2⟩ := HW.out w2 b2
    have lx : Hid (w.heap.size ≤ w2.heap.size) := b2.size
    clear HW RF b2
    generalize w2.alloc (.cells #[.int .i64 id, .int .i64 s] 48) = w3 at *
    generalize w2.heap.size = xb at *
    obtain ⟨-, -, -, -, -, -, c6⟩ := A2.cells
    obtain ⟨ao, ca, hvl, _, _⟩ := A2.line.form
    simp only at c6 hvl
    have z01 := X2.cells
    obtain ⟨z0, z1⟩ := z01
    simp only at z0 z1
    have HR := hide (hasRoom_any w3 b _ v vl (id, s) A2 (by exact hu0) (by show sumS q.H ≤ _; omega) (by show 0 ≤ q.bytes; omega) hb2)
    have eR : roomB ⟨q.cap, q.bytes, sumS q.H, R, f, q.H, q.L⟩ s = room q s := rfl
    simp only [eR] at HR
    clear eR
    subst hvl
    by_cases hL : q.L = []
    · by_cases hr : room q s = true
      · rw [if_pos ⟨hL, hr⟩] at e1
        have e2 := e1.out
        simp only [Prod.mk.injEq] at e2
        obtain ⟨rfl, rfl, rfl⟩ := e2
        rw [hr] at HR
        rw [hL] at c6
        simp only [List.length_nil] at c6
        have HO : Hid (∀ w4, Below w3.heap.size w3 w4 → Calls Try.prog 26 #[.pointer (some ⟨b, 0, none⟩), .agg #[.int .i64 id, .int .i64 s]] w4 fun e w' => e = .returned (.tuple #[]) ∧ ∃ v' vl', QA w' b ⟨q.cap, q.bytes, q.H ++ [(id, s)], q.L⟩ v' vl' ∧ Stp b v (.slice ao q.L.length ca) v' vl' w w') := by
          intro w4 b4
          refine (hold_any w4 b _ v _ (id, s) (A2.below b4) (by show q.H.length ≤ _; omega) (by exact hu0) (by show sumS q.H ≤ _; omega) r1 (by show s ≤ _; omega)).mono ?_
          rintro e w' ⟨rfl, R', f', v', k1, k2⟩
          refine ⟨rfl, v', _, ⟨R', f', ?_⟩, (But.of_below (keepF B2 b4) _).trans k2.1, fun k hk => (k2.2 k hk).imp (fun e => e) fun e => Nat.le_trans (keepF B2 b4).size e⟩
          simp only [sumS_snoc]
          exact k1
        have FC : Hid (∀ w4, Below w3.heap.size w3 w4 → w4.cell? ⟨xb, 0, none⟩ = some (.int .i64 id) ∧ w4.cell? ⟨xb, 1, none⟩ = some (.int .i64 s)) := fun w4 b4 => (X2.below b4).cells
        clear A2 X2 B2 H0 e1
        go_wp2_with (first | (go_at_call 25; refine HR.out.mono ?_; rintro e w4 ⟨rfl, b4⟩; obtain ⟨y0, y1⟩ := FC.out w4 b4) | (go_at_call 26; refine (HO.out w4 b4).mono ?_; rintro e w5 ⟨rfl, v', vl', k1, k2⟩; replace k1 := hide k1; replace k2 := hide k2))
        go_ret2
        exact ⟨rfl, v', vl', k1.out, k2.out⟩
      · rw [if_neg (fun h => hr h.2)] at e1
        have e2 := e1.out
        simp only [Prod.mk.injEq] at e2
        obtain ⟨rfl, rfl, rfl⟩ := e2
        rw [show room q s = false by simpa using hr] at HR
        have c6' := c6
        rw [hL] at c6
        simp only [List.length_nil] at c6
        clear hL
        have FC : Hid (∀ w4, Below w3.heap.size w3 w4 → At w4 b ⟨q.cap, q.bytes, sumS q.H, R, f, q.H, q.L⟩ v (.slice ao q.L.length ca) ∧ Ib w4 xb (id, s) ∧ Below w.heap.size w w4) := fun w4 b4 => ⟨A2.below b4, X2.below b4, keepF B2 b4⟩
        clear A2 X2 B2 H0 e1
        go_upto_region 8 with (go_at_call 25; refine HR.out.mono ?_; rintro e w4 ⟨rfl, b4⟩)
        obtain ⟨A4, X4, B4⟩ := FC.out w4 b4
        clear FC c6 c6' z0 z1 b4 HR
        refine wp_region_T (fun q2 => Bx q2 b ⟨q.cap, q.bytes, sumS q.H, R, f, q.H, q.L⟩ v (.slice ao q.L.length ca) ∧ Ib q2 xb (id, s)) 10 (by kernel_rfl) ?_
        have bq : Below w4.heap.size w4 w4.drew := (Below.refl _ _).drew
        have KA := hide (A4.below bq)
        have KX := hide (X4.below bq)
        have KP : Hid (Bx w4.drew b ⟨q.cap, q.bytes, sumS q.H, R, f, q.H, q.L⟩ v (.slice ao q.L.length ca) ∧ Ib w4.drew xb (id, s)) := ⟨KA.out.box, KX.out⟩
        have KQ := hide (keepF B4 bq)
        clear A4 X4 B4 bq
        generalize w4.drew = q2 at *
        refine wpAnyT_take (i := 0) (oi := { dst := some 34, op := Op.move (Operand.tmp 0), type := 24, pos := "queue.go:50", after := #[], guard := none }) (v := .pointer (some ⟨b, 0, none⟩)) [8, 9, 10] rfl (by kernel_rfl) (by kernel_rfl) (by kernel_rfl) (by kernel_rfl) (fun _ _ _ h => h) (Or.inl ⟨by rfl, ?_⟩) ⟨KP.out.1, KP.out.2⟩ ?_
        · intro wq hSw
          have y6 := hSw.1.c6
          obtain ⟨y1, y2⟩ := hSw.2.cells
          simp only at y1 y2
          go_simp
        (try simp only [Act.put, List.setIfInBounds_toArray, List.set_cons_zero, List.set_cons_succ])
        refine wpAnyT_take (i := 1) (oi := { dst := some 35, op := Op.move (Operand.tmp 0), type := 24, pos := "queue.go:50", after := #[], guard := none }) (v := .pointer (some ⟨b, 0, none⟩)) [2, 3, 4, 7, 10] rfl (by kernel_rfl) (by kernel_rfl) (by kernel_rfl) (by kernel_rfl) (fun _ _ _ h => h) (Or.inl ⟨by rfl, ?_⟩) ⟨KP.out.1, KP.out.2⟩ ?_
        · intro wq hSw
          have y6 := hSw.1.c6
          obtain ⟨y1, y2⟩ := hSw.2.cells
          simp only at y1 y2
          go_simp
        (try simp only [Act.put, List.setIfInBounds_toArray, List.set_cons_zero, List.set_cons_succ])
        refine wpAnyT_take (i := 2) (oi := { dst := some 36, op := Op.nilCheck (Operand.tmp 35), type := 0, pos := "queue.go:50", after := #[{ on := 1, ground := Ground.data }], guard := none }) (v := .pointer (some ⟨b, 0, none⟩)) [3, 4, 7, 10] rfl (by kernel_rfl) (by kernel_rfl) (by kernel_rfl) (by kernel_rfl) (fun _ _ _ h => h) (Or.inl ⟨by rfl, ?_⟩) ⟨KP.out.1, KP.out.2⟩ ?_
        · intro wq hSw
          have y6 := hSw.1.c6
          obtain ⟨y1, y2⟩ := hSw.2.cells
          simp only at y1 y2
          go_simp
        (try simp only [Act.put, List.setIfInBounds_toArray, List.set_cons_zero, List.set_cons_succ])
        refine wpAnyT_take (i := 3) (oi := { dst := some 37, op := Op.fieldAddr 58 (Operand.tmp 36) 4, type := 0, pos := "queue.go:50", after := #[{ on := 2, ground := Ground.data }], guard := none }) (v := .pointer (some ⟨b, 6, none⟩)) [4, 7, 10] rfl (by kernel_rfl) (by kernel_rfl) (by kernel_rfl) (by kernel_rfl) (fun _ _ _ h => h) (Or.inl ⟨by rfl, ?_⟩) ⟨KP.out.1, KP.out.2⟩ ?_
        · intro wq hSw
          have y6 := hSw.1.c6
          obtain ⟨y1, y2⟩ := hSw.2.cells
          simp only at y1 y2
          go_simp
        (try simp only [Act.put, List.setIfInBounds_toArray, List.set_cons_zero, List.set_cons_succ])
        refine wpAnyT_take (i := 4) (oi := { dst := some 38, op := Op.load 35 (Operand.tmp 37), type := 35, pos := "queue.go:50", after := #[{ on := 3, ground := Ground.data }], guard := none }) (v := .slice ao q.L.length ca) [7, 10] rfl (by kernel_rfl) (by kernel_rfl) (by kernel_rfl) (by kernel_rfl) (fun _ _ _ h => h) (Or.inl ⟨by rfl, ?_⟩) ⟨KP.out.1, KP.out.2⟩ ?_
        · intro wq hSw
          have y6 := hSw.1.c6
          obtain ⟨y1, y2⟩ := hSw.2.cells
          simp only at y1 y2
          go_simp
        (try simp only [Act.put, List.setIfInBounds_toArray, List.set_cons_zero, List.set_cons_succ])
        refine wpAnyT_take (i := 5) (oi := { dst := some 39, op := Op.load 48 (Operand.tmp 9), type := 48, pos := "queue.go:50", after := #[], guard := none }) (v := .agg #[.int .i64 id, .int .i64 s]) [6, 7, 10] rfl (by kernel_rfl) (by kernel_rfl) (by kernel_rfl) (by kernel_rfl) (fun _ _ _ h => h) (Or.inl ⟨by rfl, ?_⟩) ⟨KP.out.1, KP.out.2⟩ ?_
        · intro wq hSw
          have y6 := hSw.1.c6
          obtain ⟨y1, y2⟩ := hSw.2.cells
          simp only at y1 y2
          go_simp
        (try simp only [Act.put, List.setIfInBounds_toArray, List.set_cons_zero, List.set_cons_succ])
        refine wpAnyT_one (i := 6) (o := { dst := some 40, op := Op.buildSlice 35 1 #[(0, Operand.tmp 39)], type := 35, pos := "queue.go:50", after := #[{ on := 5, ground := Ground.data }], guard := none }) (by kernel_rfl) rfl (fun K hK => ?_)
        go_simp
        refine hK.out _ _ (fun _ => ⟨(KA.out.below (box_below _ _)).box, KX.out.below (box_below _ _)⟩) ?_
        clear hK K
        (try simp only [Act.put, List.setIfInBounds_toArray, List.set_cons_zero, List.set_cons_succ])
        have B5 := box_below q2 (.cells #[.int .i64 id, .int .i64 s] 48)
        have X5 := Ib.new q2 (id, s)
        have A5 := KA.out.below B5
        have Y5 := KX.out.below B5
        have Q5 := keepF KQ.out B5
        clear KP KQ KA KX B5
        simp only at X5
        generalize q2.alloc (.cells #[.int .i64 id, .int .i64 s] 48) = w5 at *
        generalize q2.heap.size = g5 at *
        obtain ⟨vl', w6, r6, M6, G6, H6⟩ := run_appI (B := 0) (id, s) g5 (show Itb 0 w5 (.slice ao q.L.length ca) q.L from A5.line) X5 (by omega) (Nat.zero_le _) 35
        have Z6 := A5.longer M6.its G6 H6
        have nx : Value.ownBlock (.slice ao q.L.length ca) ≠ some xb := fun e => by have h1 := hxl.out _ (.inr (.inr e)); have h2 := lx.out; omega
        have S6 : Hid (Bx w6 b ⟨q.cap, q.bytes, sumS q.H, R, f, q.H, q.L⟩ v (.slice ao q.L.length ca) ∧ Ib w6 xb (id, s)) := ⟨Z6.1, (G6.block xb (heap_lt Y5) (fun e => nx e.symm)).trans Y5⟩
        have FIN : Hid (At (w6.setCell ⟨b, 6, none⟩ vl') b ⟨q.cap, q.bytes, sumS q.H, R, f, q.H, q.L ++ [(id, s)]⟩ v vl' ∧ Stp b v (.slice ao q.L.length ca) v vl' w (w6.setCell ⟨b, 6, none⟩ vl')) := ⟨Z6.2.1, (But.of_below Q5 _).trans Z6.2.2.1, fun k hk => (Z6.2.2.2 k hk).imp (fun e => e) fun e => Nat.le_trans Q5.size e⟩
        have c6 := S6.out.1.c6
        have f6 := S6.out.1.f6
        obtain ⟨ao', n', ca', rfl⟩ := slice_of M6.its
        clear A5 Y5 X5 M6 G6 H6 Z6 Q5
        replace r6 := hide r6
        refine wpAnyT_one (i := 7) (o := { dst := some 41, op := Op.call { callee := Callee.builtin Builtin.append, args := #[Operand.tmp 38, Operand.tmp 40], argTypes := #[35, 35] }, type := 35, pos := "queue.go:50", after := #[{ on := 4, ground := Ground.data }, { on := 6, ground := Ground.data }], guard := none }) (by kernel_rfl) rfl (fun K hK => ?_)
        rw [if_pos (by simp [Region.wanted])]
        refine Lib.wp_append_run _ (.tmp 38) (.tmp 40) 35 35 rfl (.slice ao q.L.length ca) (.slice (some ⟨g5, 0, none⟩) 1 1) (by simp [Act.eval]) (by simp [Act.eval]) _ w6 r6.out ?_
        refine hK.out _ _ (fun _ => S6.out) ?_
        clear hK K
        (try simp only [Act.put, List.setIfInBounds_toArray, List.set_cons_zero, List.set_cons_succ])
        refine wpAnyT_one (i := 8) (o := { dst := some 42, op := Op.nilCheck (Operand.tmp 34), type := 0, pos := "queue.go:50", after := #[{ on := 0, ground := Ground.data }, { on := 0, ground := Ground.phase }, { on := 1, ground := Ground.phase }, { on := 2, ground := Ground.phase }, { on := 3, ground := Ground.phase }, { on := 4, ground := Ground.phase }, { on := 5, ground := Ground.phase }, { on := 6, ground := Ground.phase }, { on := 7, ground := Ground.phase }], guard := none }) (by kernel_rfl) rfl (fun K hK => ?_)
        go_simp
        refine hK.out _ _ (fun _ => S6.out) ?_
        clear hK K
        (try simp only [Act.put, List.setIfInBounds_toArray, List.set_cons_zero, List.set_cons_succ])
        refine wpAnyT_one (i := 9) (o := { dst := some 43, op := Op.fieldAddr 58 (Operand.tmp 42) 4, type := 0, pos := "queue.go:50", after := #[{ on := 8, ground := Ground.data }, { on := 0, ground := Ground.phase }, { on := 1, ground := Ground.phase }, { on := 2, ground := Ground.phase }, { on := 3, ground := Ground.phase }, { on := 4, ground := Ground.phase }, { on := 5, ground := Ground.phase }, { on := 6, ground := Ground.phase }, { on := 7, ground := Ground.phase }], guard := none }) (by kernel_rfl) rfl (fun K hK => ?_)
        go_simp
        refine hK.out _ _ (fun _ => S6.out) ?_
        clear hK K
        (try simp only [Act.put, List.setIfInBounds_toArray, List.set_cons_zero, List.set_cons_succ])
        refine wpAnyT_one (i := 10) (o := { dst := none, op := Op.store 35 (Operand.tmp 43) (Operand.tmp 41), type := 0, pos := "queue.go:50", after := #[{ on := 9, ground := Ground.data }, { on := 7, ground := Ground.data }, { on := 7, ground := Ground.chain }, { on := 0, ground := Ground.phase }, { on := 1, ground := Ground.phase }, { on := 2, ground := Ground.phase }, { on := 3, ground := Ground.phase }, { on := 4, ground := Ground.phase }, { on := 5, ground := Ground.phase }, { on := 6, ground := Ground.phase }, { on := 7, ground := Ground.phase }], guard := none }) (by kernel_rfl) rfl (fun K hK => ?_)
        go_simp
        refine hK.out _ _ (vac (by kernel_rfl)) ?_
        clear hK K
        (try simp only [Act.put, List.setIfInBounds_toArray, List.set_cons_zero, List.set_cons_succ])
        refine wpAnyT_done (by kernel_rfl) ?_ _
        clear c6 f6 r6 S6
        go_wp2_with fail
        go_ret2
        exact ⟨rfl, v, _, ⟨R, f, FIN.out.1⟩, FIN.out.2⟩
    · rw [if_neg (fun h => hL h.1)] at e1
      have e2 := e1.out
      simp only [Prod.mk.injEq] at e2
      obtain ⟨rfl, rfl, rfl⟩ := e2
      have hL' : ((q.L.length : Int) == 0) = false := by
        have := List.length_pos_iff.2 hL
        simp
        exact hL
      clear H0 e1 HR
      go_upto_region 8 with fail
      have A4 := A2
      have X4 := X2
      have B4 := B2
      clear A2 X2 B2 c6 z0 z1
      generalize w3 = w4 at *
      refine wp_region_T (fun q2 => Bx q2 b ⟨q.cap, q.bytes, sumS q.H, R, f, q.H, q.L⟩ v (.slice ao q.L.length ca) ∧ Ib q2 xb (id, s)) 10 (by kernel_rfl) ?_
      have bq : Below w4.heap.size w4 w4.drew := (Below.refl _ _).drew
      have KA := hide (A4.below bq)
      have KX := hide (X4.below bq)
      have KP : Hid (Bx w4.drew b ⟨q.cap, q.bytes, sumS q.H, R, f, q.H, q.L⟩ v (.slice ao q.L.length ca) ∧ Ib w4.drew xb (id, s)) := ⟨KA.out.box, KX.out⟩
      have KQ := hide (keepF B4 bq)
      clear A4 X4 B4 bq
      generalize w4.drew = q2 at *
      refine wpAnyT_take (i := 0) (oi := { dst := some 34, op := Op.move (Operand.tmp 0), type := 24, pos := "queue.go:50", after := #[], guard := none }) (v := .pointer (some ⟨b, 0, none⟩)) [8, 9, 10] rfl (by kernel_rfl) (by kernel_rfl) (by kernel_rfl) (by kernel_rfl) (fun _ _ _ h => h) (Or.inl ⟨by rfl, ?_⟩) ⟨KP.out.1, KP.out.2⟩ ?_
      · intro wq hSw
        have y6 := hSw.1.c6
        obtain ⟨y1, y2⟩ := hSw.2.cells
        simp only at y1 y2
        go_simp
      (try simp only [Act.put, List.setIfInBounds_toArray, List.set_cons_zero, List.set_cons_succ])
      refine wpAnyT_take (i := 1) (oi := { dst := some 35, op := Op.move (Operand.tmp 0), type := 24, pos := "queue.go:50", after := #[], guard := none }) (v := .pointer (some ⟨b, 0, none⟩)) [2, 3, 4, 7, 10] rfl (by kernel_rfl) (by kernel_rfl) (by kernel_rfl) (by kernel_rfl) (fun _ _ _ h => h) (Or.inl ⟨by rfl, ?_⟩) ⟨KP.out.1, KP.out.2⟩ ?_
      · intro wq hSw
        have y6 := hSw.1.c6
        obtain ⟨y1, y2⟩ := hSw.2.cells
        simp only at y1 y2
        go_simp
      (try simp only [Act.put, List.setIfInBounds_toArray, List.set_cons_zero, List.set_cons_succ])
      refine wpAnyT_take (i := 2) (oi := { dst := some 36, op := Op.nilCheck (Operand.tmp 35), type := 0, pos := "queue.go:50", after := #[{ on := 1, ground := Ground.data }], guard := none }) (v := .pointer (some ⟨b, 0, none⟩)) [3, 4, 7, 10] rfl (by kernel_rfl) (by kernel_rfl) (by kernel_rfl) (by kernel_rfl) (fun _ _ _ h => h) (Or.inl ⟨by rfl, ?_⟩) ⟨KP.out.1, KP.out.2⟩ ?_
      · intro wq hSw
        have y6 := hSw.1.c6
        obtain ⟨y1, y2⟩ := hSw.2.cells
        simp only at y1 y2
        go_simp
      (try simp only [Act.put, List.setIfInBounds_toArray, List.set_cons_zero, List.set_cons_succ])
      refine wpAnyT_take (i := 3) (oi := { dst := some 37, op := Op.fieldAddr 58 (Operand.tmp 36) 4, type := 0, pos := "queue.go:50", after := #[{ on := 2, ground := Ground.data }], guard := none }) (v := .pointer (some ⟨b, 6, none⟩)) [4, 7, 10] rfl (by kernel_rfl) (by kernel_rfl) (by kernel_rfl) (by kernel_rfl) (fun _ _ _ h => h) (Or.inl ⟨by rfl, ?_⟩) ⟨KP.out.1, KP.out.2⟩ ?_
      · intro wq hSw
        have y6 := hSw.1.c6
        obtain ⟨y1, y2⟩ := hSw.2.cells
        simp only at y1 y2
        go_simp
      (try simp only [Act.put, List.setIfInBounds_toArray, List.set_cons_zero, List.set_cons_succ])
      refine wpAnyT_take (i := 4) (oi := { dst := some 38, op := Op.load 35 (Operand.tmp 37), type := 35, pos := "queue.go:50", after := #[{ on := 3, ground := Ground.data }], guard := none }) (v := .slice ao q.L.length ca) [7, 10] rfl (by kernel_rfl) (by kernel_rfl) (by kernel_rfl) (by kernel_rfl) (fun _ _ _ h => h) (Or.inl ⟨by rfl, ?_⟩) ⟨KP.out.1, KP.out.2⟩ ?_
      · intro wq hSw
        have y6 := hSw.1.c6
        obtain ⟨y1, y2⟩ := hSw.2.cells
        simp only at y1 y2
        go_simp
      (try simp only [Act.put, List.setIfInBounds_toArray, List.set_cons_zero, List.set_cons_succ])
      refine wpAnyT_take (i := 5) (oi := { dst := some 39, op := Op.load 48 (Operand.tmp 9), type := 48, pos := "queue.go:50", after := #[], guard := none }) (v := .agg #[.int .i64 id, .int .i64 s]) [6, 7, 10] rfl (by kernel_rfl) (by kernel_rfl) (by kernel_rfl) (by kernel_rfl) (fun _ _ _ h => h) (Or.inl ⟨by rfl, ?_⟩) ⟨KP.out.1, KP.out.2⟩ ?_
      · intro wq hSw
        have y6 := hSw.1.c6
        obtain ⟨y1, y2⟩ := hSw.2.cells
        simp only at y1 y2
        go_simp
      (try simp only [Act.put, List.setIfInBounds_toArray, List.set_cons_zero, List.set_cons_succ])
      refine wpAnyT_one (i := 6) (o := { dst := some 40, op := Op.buildSlice 35 1 #[(0, Operand.tmp 39)], type := 35, pos := "queue.go:50", after := #[{ on := 5, ground := Ground.data }], guard := none }) (by kernel_rfl) rfl (fun K hK => ?_)
      go_simp
      refine hK.out _ _ (fun _ => ⟨(KA.out.below (box_below _ _)).box, KX.out.below (box_below _ _)⟩) ?_
      clear hK K
      (try simp only [Act.put, List.setIfInBounds_toArray, List.set_cons_zero, List.set_cons_succ])
      have B5 := box_below q2 (.cells #[.int .i64 id, .int .i64 s] 48)
      have X5 := Ib.new q2 (id, s)
      have A5 := KA.out.below B5
      have Y5 := KX.out.below B5
      have Q5 := keepF KQ.out B5
      clear KP KQ KA KX B5
      simp only at X5
      generalize q2.alloc (.cells #[.int .i64 id, .int .i64 s] 48) = w5 at *
      generalize q2.heap.size = g5 at *
      obtain ⟨vl', w6, r6, M6, G6, H6⟩ := run_appI (B := 0) (id, s) g5 (show Itb 0 w5 (.slice ao q.L.length ca) q.L from A5.line) X5 (by omega) (Nat.zero_le _) 35
      have Z6 := A5.longer M6.its G6 H6
      have nx : Value.ownBlock (.slice ao q.L.length ca) ≠ some xb := fun e => by have h1 := hxl.out _ (.inr (.inr e)); have h2 := lx.out; omega
      have S6 : Hid (Bx w6 b ⟨q.cap, q.bytes, sumS q.H, R, f, q.H, q.L⟩ v (.slice ao q.L.length ca) ∧ Ib w6 xb (id, s)) := ⟨Z6.1, (G6.block xb (heap_lt Y5) (fun e => nx e.symm)).trans Y5⟩
      have FIN : Hid (At (w6.setCell ⟨b, 6, none⟩ vl') b ⟨q.cap, q.bytes, sumS q.H, R, f, q.H, q.L ++ [(id, s)]⟩ v vl' ∧ Stp b v (.slice ao q.L.length ca) v vl' w (w6.setCell ⟨b, 6, none⟩ vl')) := ⟨Z6.2.1, (But.of_below Q5 _).trans Z6.2.2.1, fun k hk => (Z6.2.2.2 k hk).imp (fun e => e) fun e => Nat.le_trans Q5.size e⟩
      have c6 := S6.out.1.c6
      have f6 := S6.out.1.f6
      obtain ⟨ao', n', ca', rfl⟩ := slice_of M6.its
      clear A5 Y5 X5 M6 G6 H6 Z6 Q5
      replace r6 := hide r6
      refine wpAnyT_one (i := 7) (o := { dst := some 41, op := Op.call { callee := Callee.builtin Builtin.append, args := #[Operand.tmp 38, Operand.tmp 40], argTypes := #[35, 35] }, type := 35, pos := "queue.go:50", after := #[{ on := 4, ground := Ground.data }, { on := 6, ground := Ground.data }], guard := none }) (by kernel_rfl) rfl (fun K hK => ?_)
      rw [if_pos (by simp [Region.wanted])]
      refine Lib.wp_append_run _ (.tmp 38) (.tmp 40) 35 35 rfl (.slice ao q.L.length ca) (.slice (some ⟨g5, 0, none⟩) 1 1) (by simp [Act.eval]) (by simp [Act.eval]) _ w6 r6.out ?_
      refine hK.out _ _ (fun _ => S6.out) ?_
      clear hK K
      (try simp only [Act.put, List.setIfInBounds_toArray, List.set_cons_zero, List.set_cons_succ])
      refine wpAnyT_one (i := 8) (o := { dst := some 42, op := Op.nilCheck (Operand.tmp 34), type := 0, pos := "queue.go:50", after := #[{ on := 0, ground := Ground.data }, { on := 0, ground := Ground.phase }, { on := 1, ground := Ground.phase }, { on := 2, ground := Ground.phase }, { on := 3, ground := Ground.phase }, { on := 4, ground := Ground.phase }, { on := 5, ground := Ground.phase }, { on := 6, ground := Ground.phase }, { on := 7, ground := Ground.phase }], guard := none }) (by kernel_rfl) rfl (fun K hK => ?_)
      go_simp
      refine hK.out _ _ (fun _ => S6.out) ?_
      clear hK K
      (try simp only [Act.put, List.setIfInBounds_toArray, List.set_cons_zero, List.set_cons_succ])
      refine wpAnyT_one (i := 9) (o := { dst := some 43, op := Op.fieldAddr 58 (Operand.tmp 42) 4, type := 0, pos := "queue.go:50", after := #[{ on := 8, ground := Ground.data }, { on := 0, ground := Ground.phase }, { on := 1, ground := Ground.phase }, { on := 2, ground := Ground.phase }, { on := 3, ground := Ground.phase }, { on := 4, ground := Ground.phase }, { on := 5, ground := Ground.phase }, { on := 6, ground := Ground.phase }, { on := 7, ground := Ground.phase }], guard := none }) (by kernel_rfl) rfl (fun K hK => ?_)
      go_simp
      refine hK.out _ _ (fun _ => S6.out) ?_
      clear hK K
      (try simp only [Act.put, List.setIfInBounds_toArray, List.set_cons_zero, List.set_cons_succ])
      refine wpAnyT_one (i := 10) (o := { dst := none, op := Op.store 35 (Operand.tmp 43) (Operand.tmp 41), type := 0, pos := "queue.go:50", after := #[{ on := 9, ground := Ground.data }, { on := 7, ground := Ground.data }, { on := 7, ground := Ground.chain }, { on := 0, ground := Ground.phase }, { on := 1, ground := Ground.phase }, { on := 2, ground := Ground.phase }, { on := 3, ground := Ground.phase }, { on := 4, ground := Ground.phase }, { on := 5, ground := Ground.phase }, { on := 6, ground := Ground.phase }, { on := 7, ground := Ground.phase }], guard := none }) (by kernel_rfl) rfl (fun K hK => ?_)
      go_simp
      refine hK.out _ _ (vac (by kernel_rfl)) ?_
      clear hK K
      (try simp only [Act.put, List.setIfInBounds_toArray, List.set_cons_zero, List.set_cons_succ])
      refine wpAnyT_done (by kernel_rfl) ?_ _
      clear c6 f6 r6 S6
      go_wp2_with fail
      go_ret2
      exact ⟨rfl, v, _, ⟨R, f, FIN.out.1⟩, FIN.out.2⟩
end Go.Proofs.Ytfoleeamhhodaaa.Qu

/-
  slices.Delete of items of one's own. (gen_QuN.py)
-/
namespace Go.Proofs.Ytfoleeamhhodaaa.Qu
open Go.RowKit
open Ix (wp_region_T wpAnyT wpAnyT_take wpAnyT_one wpAnyT_done vac)
set_option linter.unusedVariables false
set_option maxRecDepth 100000
/-- clear of what lies behind one's own items. -/
theorem run_clearI {w : World} {gb n ca o k c : Nat} {l : List Itm} (h : Its w (.slice (some ⟨gb, 0, none⟩) n ca) l) (ho : l.length ≤ o) (hk : 0 < k) (hc : o + k ≤ ca) (ty : TypeId) :
    ∃ w', (Builtin.clear_ #[35] ty #[.slice (some ⟨gb, o * 2, none⟩) k c]).run Try.prog w = .ok (.tuple #[]) w' ∧ Its w' (.slice (some ⟨gb, 0, none⟩) n ca) l ∧ w.grownBy w' (some gb) := by
  rcases h.2 with ⟨e, _⟩ | ⟨g', cap, cur, e, hg, hh, a, b', hcs, hd'⟩
  · simp at e
  · simp at e
    obtain ⟨rfl, rfl, rfl⟩ := e
    obtain ⟨zs, hzs⟩ : ∃ zs, (Builtin.zeroCells (Value.agg #[.int .i64 0, .int .i64 0]).cells k).toList = zs := ⟨_, rfl⟩
    have hzl : zs.length = k * 2 := by
      rw [← hzs]
      simp [size_zeroCells, Value.cells]
    have hz1 : ∀ u ∈ zs, u.oneCell' = true := by
      intro u hu
      rw [← hzs] at hu
      simp [Builtin.zeroCells, Value.cells] at hu
      obtain ⟨j, _, rfl⟩ := hu
      rcases Nat.mod_two_eq_zero_or_one j with q | q <;> simp [q, Value.oneCell']
    have hst := run_storeCells_at Try.prog gb (o * 2) 48 zs 0 cur w hh (by rw [hzl]; omega) hz1
    have hcl : cur.toList.length = ca * 2 := by simpa using hcs
    obtain ⟨k', rfl⟩ : ∃ k', k = k' + 1 := ⟨k - 1, by omega⟩
    refine ⟨w.setRow gb (cur.toList.take (o * 2 + 0) ++ zs ++ cur.toList.drop (o * 2 + 0 + zs.length)).toArray, ?_, ?_, ?_⟩
    · simp [Builtin.clear_, run_underlying Try.underlying35, hzs, hst]
    · refine ⟨h.1, .inr ⟨gb, ca, _, rfl, hg, setRow_heap w gb _ _ _ _ hh, a, b', ?_, ?_⟩⟩
      · simp [hcl, hzl]
        omega
      · rw [← hd']
        have e1 : (List.take (o * 2) cur.toList).length = o * 2 := by rw [List.length_take, hcl]; omega
        rw [Nat.add_zero, List.append_assoc]
        show List.take (l.length * 2) (List.take (o * 2) cur.toList ++ _) = _
        rw [List.take_append_of_le_length (by rw [e1]; omega), List.take_take]
        congr 1
        omega
    · exact ⟨rfl, rfl, rfl, by simp [World.setRow], fun j hj hne => setRow_other w gb j _ (fun e => hne (by rw [e]))⟩
/-- append(s[:i], s[j:]...), which fits. -/
theorem run_closeI {w : World} {gb n ca i j c : Nat} {a : Addr} {l : List Itm} (h : Its w (.slice (some ⟨gb, 0, none⟩) n ca) l) (hij : i ≤ j) (hj : j ≤ l.length) (ha : a = ⟨gb, j * 2, none⟩ ∨ j = l.length) (ty : TypeId) :
    ∃ w', (Builtin.append_ #[35, 35] ty #[.slice (some ⟨gb, 0, none⟩) i ca, .slice (some a) (l.length - j) c]).run Try.prog w = .ok (.slice (some ⟨gb, 0, none⟩) (i + (l.length - j)) ca) w' ∧ Its w' (.slice (some ⟨gb, 0, none⟩) (i + (l.length - j)) ca) (l.take i ++ l.drop j) ∧ w.grownBy w' (some gb) := by
  obtain ⟨i0, hi, hz0, hz1, hz2⟩ := info_parts infoIt
  have ht := h.take i (by omega)
  have hti : (l.take i).length = i := by rw [List.length_take]; omega
  have hdl : (l.drop j).length = l.length - j := by simp
  have hle : l.length ≤ ca := by obtain ⟨ao, ca', e, _, q⟩ := h.form; simp at e; omega
  have hca : Its w (.slice (some ⟨gb, 0, none⟩) i ca) (l.take i) := ht
  unfold Its at hca
  rw [hti] at hca
  obtain ⟨w', hr, ho, hg⟩ := run_append_fits (P := Try.prog) w 0 35 ty 48 i0 2 Try.underlying35 hi hz1 gb i ca (icells (l.take i)) hca a (l.length - j) c (icells (l.drop j)) (by rw [icells_len, hdl]) (by
    intro k u hu
    rcases ha with rfl | hl
    · rw [addr_add]
      exact h.lie.drop j k u hu
    · rw [hl] at hu
      simp [icells] at hu) (ione _) (by omega)
  refine ⟨w', hr, ?_, hg⟩
  unfold Its
  rw [icells_append, List.length_append, hti, hdl]
  exact ho
set_option maxHeartbeats 1000000 in
theorem del_any (w : World) (v : Value) (l : List Itm) (i j : Nat) (h : Its w v l) (hij : i ≤ j) (hj : j ≤ l.length) (hl : l.length ≤ 1000000) :
    Calls Try.prog 35 #[v, .int .i64 (i : Int), .int .i64 (j : Int)] w fun e w' => ∃ v', e = .returned v' ∧ Its w' v' (l.take i ++ l.drop j) ∧ But (fun k => v.ownBlock = some k) w w' ∧ v'.ownBlock = v.ownBlock := by
  obtain ⟨ao, ca, rfl, k1, k2⟩ := h.form
  have HL := hide h
  obtain ⟨n, hn⟩ : ∃ n, Hid (l.length = n) := ⟨_, rfl⟩
  rw [hn.out] at hj hl k2 ⊢
  have q1 : (i : Int) ≤ (j : Int) := by omega
  have q2 : (j : Int) ≤ (n : Int) := by omega
  have q3 : (n : Int) ≤ (ca : Int) := by omega
  by_cases he : i = j
  · subst he
    have FIN : Hid (Its w (.slice ao n ca) (l.take i ++ l.drop i)) := by rw [List.take_append_drop]; rw [← hn.out]; exact h
    clear h
    cases ao with
    | none =>
      have hn0 : n = 0 ∧ ca = 0 := by
        rcases HL.out.2 with ⟨e, e2⟩ | ⟨g', cap, cur, e, _⟩
        · simp at e; omega
        · simp at e
      obtain ⟨rfl, rfl⟩ := hn0
      obtain rfl : i = 0 := by omega
      go_enter Try.func35, Try.ntmps35
      go_wp2_with fail
      go_ret
      exact ⟨_, rfl, FIN.out, But.refl _ _, rfl⟩
    | some ad =>
      by_cases hni : n = i
      · subst hni
        go_enter Try.func35, Try.ntmps35
        go_wp2_with fail
        go_ret
        exact ⟨_, rfl, by first | exact FIN.out | (rw [List.take_append_drop] at FIN; exact FIN.out), But.refl _ _, rfl⟩
      · go_enter Try.func35, Try.ntmps35
        go_wp2_with fail
        go_ret
        exact ⟨_, rfl, by first | exact FIN.out | (rw [List.take_append_drop] at FIN; exact FIN.out), But.refl _ _, rfl⟩
  · have hne : l ≠ [] := fun e => by rw [e] at hn; have := hn.out; simp at this; omega
    obtain ⟨gb, ca', cs, e, _, _, _, _, _, _⟩ := h.at hne
    simp only [Value.slice.injEq] at e
    obtain ⟨rfl, e2, rfl⟩ := e
    clear e2
    have q4 : ((i : Int) == (j : Int)) = false := by simp; omega
    have hbd := (h.below (Below.refl w.heap.size w).drew)
    rw [hn.out] at hbd
    have x1 : ¬ n = i := by omega
    have x2 : (i : Int) ≤ (ca : Int) := by omega
    have x3 : (j : Int) ≤ (ca : Int) := by omega
    by_cases hjn : j = n
    · subst hjn
      have I2 := hbd.take i (by rw [hn.out]; exact hij)
      obtain ⟨w3, cl, I3, G3⟩ := run_clearI (o := i) (k := j - i) (c := ca - i) I2 (by rw [List.length_take]; omega) (by omega) (by omega) 0
      have FIN : Hid (Its w3 (.slice (some ⟨gb, 0, none⟩) i ca) (l.take i ++ l.drop j) ∧ But (fun k => (Value.slice (some ⟨gb, 0, none⟩) j ca).ownBlock = some k) w w3) := by
        refine ⟨?_, (But.of_below (Below.refl w.heap.size w).drew _).trans (But.of_grownBy G3 fun k e => ?_)⟩
        · rw [List.drop_of_length_le (by rw [hn.out]; exact Nat.le_refl _), List.append_nil]; exact I3
        · simpa [Value.ownBlock] using e
      have x4 : ¬ ca = i := by omega
      clear h hbd I2 I3 G3 HL hne
      by_cases c : ca = j
      · subst c
        go_enter Try.func35, Try.ntmps35
        go_upto_region 5 with fail
        go_region
        go_wp2_with fail
        go_ret
        exact ⟨_, rfl, FIN.out.1, FIN.out.2, rfl⟩
      · go_enter Try.func35, Try.ntmps35
        go_upto_region 5 with fail
        go_region
        go_wp2_with fail
        go_ret
        exact ⟨_, rfl, FIN.out.1, FIN.out.2, rfl⟩
    · have x4 : ¬ ca = j := by omega
      obtain ⟨w2, ap, I2, G2⟩ := run_closeI (a := ⟨gb, j * 2, none⟩) (c := ca - j) hbd hij (by rw [hn.out]; exact hj) (.inl rfl) 35
      rw [hn.out] at ap I2
      obtain ⟨m, hm⟩ : ∃ m, Hid (i + (n - j) = m) := ⟨_, rfl⟩
      rw [hm.out] at ap I2
      have hlm : (l.take i ++ l.drop j).length = m := by rw [← hm.out]; simp [hn.out]; omega
      have hmn : m < n := by have := hm.out; omega
      obtain ⟨w3, cl, I3, G3⟩ := run_clearI (o := m) (k := n - m) (c := ca - m) I2 (by omega) (by omega) (by omega) 0
      have FIN : Hid (Its w3 (.slice (some ⟨gb, 0, none⟩) m ca) (l.take i ++ l.drop j) ∧ But (fun k => (Value.slice (some ⟨gb, 0, none⟩) n ca).ownBlock = some k) w w3) := by
        refine ⟨I3, ((But.of_below (Below.refl w.heap.size w).drew _).trans (But.of_grownBy G2 fun k e => ?_)).trans (But.of_grownBy G3 fun k e => ?_)⟩
        · simpa [Value.ownBlock] using e
        · simpa [Value.ownBlock] using e
      have x5 : ¬ ca = m := by omega
      have x6 : (m : Int) ≤ (n : Int) := by omega
      clear h hbd I2 I3 G2 G3 HL hne hlm
      go_enter Try.func35, Try.ntmps35
      go_upto_region 5 with fail
      refine wp_region_T (fun _ => True) 7 (by kernel_rfl) ?_
      refine wpAnyT_take (i := 0) (oi := { dst := some 20, op := Op.move (Operand.tmp 0), type := 35, pos := "slices.go:232", after := #[], guard := none }) (v := .slice (some ⟨gb, 0, none⟩) n ca) [2, 6, 7] rfl (by kernel_rfl) (by kernel_rfl) (by kernel_rfl) (by kernel_rfl) (fun _ _ _ h => h) (Or.inl ⟨by rfl, ?_⟩) trivial ?_
      · intro wq hSw
        skip
        go_simp
      (try simp only [Act.put, List.setIfInBounds_toArray, List.set_cons_zero, List.set_cons_succ])
      refine wpAnyT_take (i := 1) (oi := { dst := some 21, op := Op.move (Operand.tmp 1), type := 3, pos := "slices.go:232", after := #[], guard := none }) (v := .int .i64 (i : Int)) [2, 6, 7] rfl (by kernel_rfl) (by kernel_rfl) (by kernel_rfl) (by kernel_rfl) (fun _ _ _ h => h) (Or.inl ⟨by rfl, ?_⟩) trivial ?_
      · intro wq hSw
        skip
        go_simp
      (try simp only [Act.put, List.setIfInBounds_toArray, List.set_cons_zero, List.set_cons_succ])
      refine wpAnyT_take (i := 2) (oi := { dst := some 22, op := Op.slice 35 (Operand.tmp 20) none (some (Operand.tmp 21)) none, type := 35, pos := "slices.go:232", after := #[{ on := 0, ground := Ground.data }, { on := 1, ground := Ground.data }], guard := none }) (v := .slice (some ⟨gb, 0, none⟩) i ca) [6, 7] rfl (by kernel_rfl) (by kernel_rfl) (by kernel_rfl) (by kernel_rfl) (fun _ _ _ h => h) (Or.inl ⟨by rfl, ?_⟩) trivial ?_
      · intro wq hSw
        skip
        go_simp
      (try simp only [Act.put, List.setIfInBounds_toArray, List.set_cons_zero, List.set_cons_succ])
      refine wpAnyT_take (i := 3) (oi := { dst := some 23, op := Op.move (Operand.tmp 0), type := 35, pos := "slices.go:232", after := #[], guard := none }) (v := .slice (some ⟨gb, 0, none⟩) n ca) [5, 6, 7] rfl (by kernel_rfl) (by kernel_rfl) (by kernel_rfl) (by kernel_rfl) (fun _ _ _ h => h) (Or.inl ⟨by rfl, ?_⟩) trivial ?_
      · intro wq hSw
        skip
        go_simp
      (try simp only [Act.put, List.setIfInBounds_toArray, List.set_cons_zero, List.set_cons_succ])
      refine wpAnyT_take (i := 4) (oi := { dst := some 24, op := Op.move (Operand.tmp 2), type := 3, pos := "slices.go:232", after := #[], guard := none }) (v := .int .i64 (j : Int)) [5, 6, 7] rfl (by kernel_rfl) (by kernel_rfl) (by kernel_rfl) (by kernel_rfl) (fun _ _ _ h => h) (Or.inl ⟨by rfl, ?_⟩) trivial ?_
      · intro wq hSw
        skip
        go_simp
      (try simp only [Act.put, List.setIfInBounds_toArray, List.set_cons_zero, List.set_cons_succ])
      refine wpAnyT_take (i := 5) (oi := { dst := some 25, op := Op.slice 35 (Operand.tmp 23) (some (Operand.tmp 24)) none none, type := 35, pos := "slices.go:232", after := #[{ on := 3, ground := Ground.data }, { on := 4, ground := Ground.data }], guard := none }) (v := .slice (some ⟨gb, j * 2, none⟩) (n - j) (ca - j)) [6, 7] rfl (by kernel_rfl) (by kernel_rfl) (by kernel_rfl) (by kernel_rfl) (fun _ _ _ h => h) (Or.inl ⟨by rfl, ?_⟩) trivial ?_
      · intro wq hSw
        skip
        go_simp
      (try simp only [Act.put, List.setIfInBounds_toArray, List.set_cons_zero, List.set_cons_succ])
      refine wpAnyT_one (i := 6) (o := { dst := some 26, op := Op.call { callee := Callee.builtin Builtin.append, args := #[Operand.tmp 22, Operand.tmp 25], argTypes := #[35, 35] }, type := 35, pos := "slices.go:232", after := #[{ on := 2, ground := Ground.data }, { on := 5, ground := Ground.data }], guard := none }) (by kernel_rfl) rfl (fun K hK => ?_)
      rw [if_pos (by simp [Region.wanted])]
      refine Lib.wp_append_run _ (.tmp 22) (.tmp 25) 35 35 rfl (.slice (some ⟨gb, 0, none⟩) i ca) (.slice (some ⟨gb, j * 2, none⟩) (n - j) (ca - j)) (by simp [Act.eval]) (by simp [Act.eval]) _ w2 ap ?_
      refine hK.out _ _ (fun _ => trivial) ?_
      clear hK K
      (try simp only [Act.put, List.setIfInBounds_toArray, List.set_cons_zero, List.set_cons_succ])
      refine wpAnyT_one (i := 7) (o := { dst := some 0, op := Op.assign (Operand.tmp 26), type := 35, pos := "slices.go:232", after := #[{ on := 6, ground := Ground.data }, { on := 6, ground := Ground.chain }, { on := 0, ground := Ground.phase }, { on := 1, ground := Ground.phase }, { on := 2, ground := Ground.phase }, { on := 3, ground := Ground.phase }, { on := 4, ground := Ground.phase }, { on := 5, ground := Ground.phase }, { on := 6, ground := Ground.phase }], guard := none }) (by kernel_rfl) rfl (fun K hK => ?_)
      go_simp
      refine hK.out _ _ (vac (by kernel_rfl)) ?_
      clear hK K
      (try simp only [Act.put, List.setIfInBounds_toArray, List.set_cons_zero, List.set_cons_succ])
      refine wpAnyT_done (by kernel_rfl) ?_ _
      go_wp2_with fail
      go_ret
      exact ⟨_, rfl, FIN.out.1, FIN.out.2, rfl⟩
end Go.Proofs.Ytfoleeamhhodaaa.Qu

/-
  Who can comes in.
-/
namespace Go.Proofs.Ytfoleeamhhodaaa.Qu
open Go.RowKit
set_option linter.unusedVariables false
set_option maxRecDepth 100000
/-- Numbers as a list v of memory from block B on. -/
def Ids (B : Nat) (w : World) (v : Value) (l : List Int) : Prop := w.ownsRow B 2 1 v l.length (l.map (Value.int .i64))
theorem Ids.nil (B : Nat) (w : World) : Ids B w (.slice none 0 0) [] := World.ownsRow_nil _ _ _ _
theorem Ids.but {X : Nat → Prop} {B : Nat} {w w' : World} {v : Value} {l : List Int} (h : Ids B w v l) (hb : But X w w') (hx : ∀ k, v.ownBlock = some k → ¬ X k) : Ids B w' v l := by
  refine ⟨h.1, ?_⟩
  rcases h.2 with h | ⟨g, cap, cur, rfl, hg, hh, r⟩
  · exact .inl h
  · exact .inr ⟨g, cap, cur, rfl, hg, hb.at hh (hx g rfl), r⟩
theorem Ids.below {B : Nat} {w w' : World} {v : Value} {l : List Int} (h : Ids B w v l) (hb : Below w.heap.size w w') : Ids B w' v l := h.but (But.of_below hb fun _ => False) fun _ _ c => c
theorem Ids.lt {B : Nat} {w : World} {v : Value} {l : List Int} (h : Ids B w v l) : ∀ k, v.ownBlock = some k → B ≤ k ∧ k < w.heap.size := fun k hk => World.ownsRow.lt h k hk
theorem Ids.form {B : Nat} {w : World} {v : Value} {l : List Int} (h : Ids B w v l) : ∃ ao ca, v = .slice ao l.length ca := by
  rcases h.2 with ⟨rfl, e⟩ | ⟨g, cap, cur, rfl, _⟩
  · exact ⟨_, _, by rw [e]⟩
  · exact ⟨_, _, rfl⟩
theorem Ids.type {B : Nat} {w : World} {v : Value} {l : List Int} (h : Ids B w v l) : ∀ k, v.ownBlock = some k → ∃ cs fz, w.heap[k]? = some (.cells cs 2 fz) := by
  rcases h.2 with ⟨rfl, _⟩ | ⟨g, cap, cur, rfl, hg, hh, r⟩
  · intro k hk; simp [Value.ownBlock] at hk
  · intro k hk
    simp [Value.ownBlock] at hk
    subst hk
    exact ⟨_, _, hh⟩
theorem infoInt : (Try.prog.info? 2).map (fun i => (i.zero, i.size, i.bytes)) = some (some (.int .i64 0), 1, 8) := by kernel_rfl
theorem run_appN {B : Nat} {w : World} {v : Value} {l : List Int} (t : Int) (gg : Nat) (h : Ids B w v l) (h0 : w.cell? ⟨gg, 0, none⟩ = some (.int .i64 t)) (hl : l.length ≤ 1000000) (hB : B ≤ w.heap.size) (ty : TypeId) :
    ∃ v' w', (Builtin.append_ #[36, 36] ty #[v, .slice (some ⟨gg, 0, none⟩) 1 1]).run Try.prog w = .ok v' w' ∧ Ids B w' v' (l ++ [t]) ∧ w.grownBy w' v.ownBlock ∧ (v'.ownBlock = v.ownBlock ∨ v'.ownBlock = some w.heap.size) := by
  obtain ⟨i0, hi, hz0, hz1, hz2⟩ := info_parts infoInt
  have hcells : ∀ j u, ([.int .i64 t] : List Value)[j]? = some u → w.cell? ((⟨gg, 0, none⟩ : Addr).add j) = some u := by
    intro j u hu
    rw [addr_add]
    match j with
    | 0 => simp at hu; subst hu; exact h0
    | j + 1 => simp at hu
  obtain ⟨v', w', hr, ho, hg, _, hat⟩ := run_append_own_at (P := Try.prog) w B 36 ty 2 i0 (.int .i64 0) 1 8 Try.underlying36 hi hz0 hz1 hz2 rfl (by decide) v l.length (l.map (Value.int .i64)) h ⟨gg, 0, none⟩ 1 1 [.int .i64 t] rfl hcells (by
      intro u hu
      simp at hu
      rcases hu with rfl
      rfl) (by unfold maxLen; omega) (by omega) hB
  refine ⟨v', w', hr, ?_, hg, hat⟩
  unfold Ids
  rw [List.length_append, List.map_append]
  exact ho
theorem At.type {w : World} {b : Nat} {d : D} {v vl : Value} (h : At w b d v vl) : ∀ k, Own b v vl k → ∀ cs fz, w.heap[k]? ≠ some (.cells cs 2 fz) := by
  intro k hk cs fz e
  rcases hk with rfl | hk | hk
  · rw [h.box] at e
    simp at e
  · exact h.row.no e (by decide) hk
  · exact h.line.no e (by decide) hk
theorem Ids.apart {B : Nat} {w : World} {b : Nat} {d : D} {v vl i : Value} {l : List Int} (hi : Ids B w i l) (h : At w b d v vl) : ∀ k, i.ownBlock = some k → ¬ Own b v vl k := by
  intro k hk ho
  obtain ⟨cs, fz, e⟩ := hi.type k hk
  exact h.type k ho cs fz e
/-- How many of the line come in. -/
def roomH (cap bytes : Int) (H : List Itm) (s : Int) : Bool := decide ((H.length : Int) < cap ∧ s ≤ bytes - sumS H)
def cnt (cap bytes : Int) : List Itm → List Itm → Nat
  | _, [] => 0
  | H, x :: r => if roomH cap bytes H x.2 = true then cnt cap bytes (H ++ [x]) r + 1 else 0
theorem cnt_le (cap bytes : Int) (L : List Itm) : ∀ H, cnt cap bytes H L ≤ L.length := by
  induction L with
  | nil => intro H; exact Nat.le_refl _
  | cons x r ih =>
    intro H
    unfold cnt
    split
    · have := ih (H ++ [x]); simp; omega
    · simp
theorem cnt_low (cap bytes : Int) (L : List Itm) : ∀ H j, j < cnt cap bytes H L → roomH cap bytes (H ++ L.take j) (g L j).2 = true := by
  induction L with
  | nil => intro H j hj; simp [cnt] at hj
  | cons x r ih =>
    intro H j hj
    unfold cnt at hj
    split at hj
    · rename_i hr
      match j with
      | 0 => rw [g_zero]; simpa using hr
      | j + 1 =>
        rw [g_cons]
        have := ih (H ++ [x]) j (by omega)
        simpa using this
    · omega
theorem cnt_at (cap bytes : Int) (L : List Itm) : ∀ H, cnt cap bytes H L < L.length → roomH cap bytes (H ++ L.take (cnt cap bytes H L)) (g L (cnt cap bytes H L)).2 = false := by
  induction L with
  | nil => intro H hj; simp at hj
  | cons x r ih =>
    intro H hj
    unfold cnt at hj ⊢
    split at hj
    · rename_i hr
      rw [if_pos hr, g_cons]
      have := ih (H ++ [x]) (by simpa using hj)
      simpa using this
    · rename_i hr
      rw [if_neg hr, g_zero]
      simpa using hr
def comeN (q : Q) : Nat := cnt q.cap q.bytes q.H q.L
def comeQ (q : Q) : List Int × Q := ((q.L.take (comeN q)).map (·.1), ⟨q.cap, q.bytes, q.H ++ q.L.take (comeN q), q.L.drop (comeN q)⟩)
theorem sumS_app (l m : List Itm) : sumS (l ++ m) = sumS l + sumS m := by simp [sumS]
/-- Behind so many of the line. -/
theorem come_ok {q : Q} (h : Ok q) : ∀ k, k ≤ comeN q → Ok ⟨q.cap, q.bytes, q.H ++ q.L.take k, q.L⟩ := by
  intro k
  induction k with
  | zero => intro _; simpa using h
  | succ k ih =>
    intro hk
    have h0 := ih (by omega)
    have hr := cnt_low q.cap q.bytes q.L q.H k hk
    have hl : k < q.L.length := Nat.lt_of_lt_of_le hk (cnt_le _ _ _ _)
    unfold roomH at hr
    simp only [decide_eq_true_eq] at hr
    have ht : q.L.take (k + 1) = q.L.take k ++ [g q.L k] := (list_take hl).symm
    have hm : g q.L k ∈ q.L := by rw [← g_get hl]; exact List.getElem_mem hl
    refine ⟨h.c1, h.c2, h.b1, h.b2, ?_, ?_, h.ln, ?_, h.szL⟩
    · show ((q.H ++ q.L.take (k + 1)).length : Int) ≤ q.cap
      rw [ht, ← List.append_assoc, List.length_append]
      simp only [List.length_singleton]
      omega
    · show sumS (q.H ++ q.L.take (k + 1)) ≤ q.bytes
      rw [ht, ← List.append_assoc, sumS_snoc]
      omega
    · intro x hx
      simp only [ht, ← List.append_assoc] at hx
      rcases List.mem_append.1 hx with hx | hx
      · exact h0.sz x hx
      · rw [List.mem_singleton.1 hx]; exact h.szL _ hm
theorem come_ok2 {q : Q} (h : Ok q) : Ok (comeQ q).2 := by
  have h0 := come_ok h (comeN q) (Nat.le_refl _)
  exact ⟨h0.c1, h0.c2, h0.b1, h0.b2, h0.hl, h0.us, by show (q.L.drop _).length ≤ 1024; rw [List.length_drop]; have := h.ln; omega, h0.sz, fun x hx => h.szL x (List.mem_of_mem_drop hx)⟩
end Go.Proofs.Ytfoleeamhhodaaa.Qu

/-
  comeIn. (gen_QuP.py)
-/
namespace Go.Proofs.Ytfoleeamhhodaaa.Qu
open Go.RowKit
set_option linter.unusedVariables false
set_option maxRecDepth 100000
theorem wpList_append_runN {w : World} {ops : Array Oper} {rest : List Oper} {o : Oper} {a : Act} {Q : Exit → Act → World → Prop} (hgd : o.guard = none) (s x : Operand) {vs vx v' : Value} {w' : World}
    (ho : o.op = .call { callee := .builtin .append, args := #[s, x], argTypes := #[36, 36] }) (hs : a.eval s = vs) (hx : a.eval x = vx)
    (hr : (Builtin.append_ #[36, 36] o.type #[vs, vx]).run Try.prog w = .ok v' w') (h : wpList Try.prog ops Q rest (a.put o.dst v') w') : wpList Try.prog ops Q (o :: rest) a w := by
  refine wpList_plain hgd fun K hK => ?_
  exact Lib.wp_append_run _ s x 36 36 ho vs vx hs hx v' w' hr (hK _ _ h)
theorem Stp.refl (b : Nat) (v vl : Value) (w : World) : Stp b v vl v vl w w := ⟨But.refl _ _, fun k hk => .inl hk⟩
theorem Stp.trans {b : Nat} {v vl v1 vl1 v2 vl2 : Value} {w w1 w2 : World} (h : Stp b v vl v1 vl1 w w1) (k : Stp b v1 vl1 v2 vl2 w1 w2) : Stp b v vl v2 vl2 w w2 := by
  refine ⟨⟨k.1.os.trans h.1.os, k.1.tape.trans h.1.tape, k.1.output.trans h.1.output, Nat.le_trans h.1.size k.1.size, fun j hj hx => ?_⟩, fun j hj => ?_⟩
  · rw [k.1.block j (Nat.lt_of_lt_of_le hj h.1.size) (fun e => by
      rcases h.2 j e with e | e
      · exact hx e
      · omega)]
    exact h.1.block j hj hx
  · rcases k.2 j hj with e | e
    · exact h.2 j e
    · exact .inr (Nat.le_trans h.1.size e)
theorem Stp.below {b : Nat} {v vl : Value} {w w1 : World} (h : Below w.heap.size w w1) : Stp b v vl v vl w w1 := ⟨But.of_below h _, fun k hk => .inl hk⟩
/-- Behind i of the line. -/
def Cm (w wr : World) (b : Nat) (q : Q) (v vl idv : Value) (i : Nat) : Prop :=
  ∃ v', QA wr b ⟨q.cap, q.bytes, q.H ++ q.L.take i, q.L⟩ v' vl ∧ Stp b v vl v' vl w wr ∧ Ids w.heap.size wr idv ((q.L.take i).map (·.1))
theorem Cm.below {w wr w1 : World} {b : Nat} {q : Q} {v vl idv : Value} {i : Nat} (h : Cm w wr b q v vl idv i) (hb : Below wr.heap.size wr w1) : Cm w w1 b q v vl idv i := by
  obtain ⟨v', h1, h2, h3⟩ := h
  exact ⟨v', h1.below hb, h2.trans (Stp.below hb), h3.below hb⟩
/-- One more came in. -/
theorem Cm.next {w w4 w6 : World} {b : Nat} {q : Q} {v vl idv v6 v4 : Value} {i : Nat} {R' : List Itm} {f' : Nat} {o : Obj} (hi : i < q.L.length) (hA : At w4 b ⟨q.cap, q.bytes, sumS (q.H ++ q.L.take i) + (g q.L i).2, R', f', (q.H ++ q.L.take i) ++ [g q.L i], q.L⟩ v4 vl) (hS : Stp b v vl v4 vl w w4) (hI : Ids w.heap.size w4 idv ((q.L.take i).map (·.1)))
    (h6 : Ids w.heap.size w6 v6 ((q.L.take i).map (·.1) ++ [(g q.L i).1])) (hg : (w4.alloc o).grownBy w6 idv.ownBlock) : Cm w w6 b q v vl v6 (i + 1) := by
  have ht := (list_take hi).symm
  have b5 := box_below w4 o
  have IA := (hI.below b5).apart (hA.below b5)
  have gb : But (fun k => idv.ownBlock = some k) (w4.alloc o) w6 := But.of_grownBy hg fun k e => e
  refine ⟨v4, ⟨R', f', ?_⟩, ?_, ?_⟩
  · have := (hA.below b5).but gb fun k hk e => IA k e hk
    simp only [ht, ← List.append_assoc, sumS_snoc]
    exact this
  · refine ⟨⟨gb.os.trans ((But.of_below b5 (fun _ => False)).os.trans hS.1.os), gb.tape.trans ((But.of_below b5 (fun _ => False)).tape.trans hS.1.tape), gb.output.trans ((But.of_below b5 (fun _ => False)).output.trans hS.1.output), Nat.le_trans hS.1.size (Nat.le_trans b5.size gb.size), fun k hk hx => ?_⟩, hS.2⟩
    rw [gb.block k (Nat.lt_of_lt_of_le hk (Nat.le_trans hS.1.size b5.size)) (fun e => by have := (hI.lt k e).1; omega), b5.block k (Nat.lt_of_lt_of_le hk hS.1.size)]
    exact hS.1.block k hk hx
  · rw [ht, List.map_append]
    exact h6
set_option maxHeartbeats 4000000 in
theorem comeIn_any (w : World) (b : Nat) (q : Q) (v vl : Value) (hq : QA w b q v vl) (ok : Ok q) :
    Calls Try.prog 31 #[.pointer (some ⟨b, 0, none⟩)] w fun e w' => ∃ idv v' vl', e = .returned idv ∧ QA w' b (comeQ q).2 v' vl' ∧ Stp b v vl v' vl' w w' ∧ Ids w.heap.size w' idv (comeQ q).1 := by
  have H0 : Hid (Cm w w b q v vl (.slice none 0 0) 0) := ⟨v, by simpa using hq, Stp.refl _ _ _ _, Ids.nil _ _⟩
  have HK := hide (cnt_low q.cap q.bytes q.L q.H)
  have HKA := hide (cnt_at q.cap q.bytes q.L q.H)
  have HOK := hide (fun k hk => come_ok ok k hk)
  have hln := ok.ln
  unfold comeQ
  simp only
  obtain ⟨K, hK⟩ : ∃ K, Hid (comeN q = K) := ⟨_, rfl⟩
  have hKN := hide (cnt_le q.cap q.bytes q.L q.H)
  have eK : cnt q.cap q.bytes q.H q.L = K := hK.out
  rw [eK] at HK HKA hKN
  rw [hK.out] at HOK ⊢
  obtain ⟨R, f, h⟩ := hq
  obtain ⟨-, -, -, -, -, -, c6⟩ := h.cells
  obtain ⟨ao, ca, hvl, k1, k2⟩ := h.line.form
  simp only at c6 hvl k2
  obtain ⟨N, hN⟩ : ∃ N, Hid (q.L.length = N) := ⟨_, rfl⟩
  rw [hN.out] at hvl k2 hKN hln
  subst hvl
  have hNl : N ≤ 1000000 := by omega
  have hb1 := ok.b1
  have hb2 := ok.b2
  have hc2 := ok.c2
  have hszL := hide ok.szL
  clear h eK ok
  go_enter Try.func31, Try.ntmps31
  go_wp2_with fail
  go_loopw [3, 11] (fun s3 s11 wr => ∃ i : Nat, s11 = .int .i64 (i : Int) ∧ i ≤ K ∧ Hid (Cm w wr b q v (.slice ao N ca) s3 i)) (fun s3 s11 wr => N - (intOf s11).toNat)
  case atStart => exact ⟨0, rfl, Nat.zero_le _, H0.out⟩
  case round =>
    obtain ⟨i, rfl, hiK, hst⟩ := hrel
    clear c6
    by_cases hiN : i < N
    · have hiN' : (i : Int) < (N : Int) := by omega
      have hil : i < q.L.length := by rw [hN.out]; exact hiN
      obtain ⟨v', ⟨R', f', A1⟩, S1, I1⟩ := hst.out
      obtain ⟨tb, ca', cs, e, l1, l2, l3, l4, l5, l6⟩ := A1.line.at (fun c => by simp only at c; rw [c] at hil; simp at hil)
      simp only [Value.slice.injEq] at e
      obtain ⟨rfl, e2, rfl⟩ := e
      clear e2 l1 l2 l3 l4 l5 l6
      obtain ⟨r0, r1⟩ := A1.line.read i hil
      have OKi := HOK.out i hiK
      have hu0 := OKi.u0
      have hus := OKi.us
      have hhl := OKi.hl
      simp only at hu0 hus hhl r0 r1
      have hxs := hszL.out (g q.L i) (by rw [← g_get hil]; exact List.getElem_mem hil)
      have ew : wrap64 ((i : Int) + 1) = (i : Int) + 1 := by unfold wrap64; omega
      have B2 := box_below wr (.cells #[.int .i64 (g q.L i).1, .int .i64 (g q.L i).2] 48)
      have X2 := Ib.new wr (g q.L i)
      have ST2 := hide (hst.out.below B2)
      have A2 := A1.below B2
      have HR := hide (hasRoom_any _ b _ v' _ (g q.L i) A2 (by exact hu0) (by show sumS (q.H ++ q.L.take i) ≤ _; omega) (by show 0 ≤ q.bytes; omega) hb2)
      have eR : roomB ⟨q.cap, q.bytes, sumS (q.H ++ q.L.take i), R', f', q.H ++ q.L.take i, q.L⟩ (g q.L i).2 = roomH q.cap q.bytes (q.H ++ q.L.take i) (g q.L i).2 := rfl
      rw [eR] at HR
      clear eR
      obtain ⟨w1, hw1⟩ : ∃ w1, Hid (wr.alloc (.cells #[.int .i64 (g q.L i).1, .int .i64 (g q.L i).2] 48) = w1) := ⟨_, rfl⟩
      obtain ⟨xb, hxb⟩ : ∃ xb, Hid (wr.heap.size = xb) := ⟨_, rfl⟩
      have nox : ∀ k, Own b v' (.slice (some ⟨tb, 0, none⟩) N ca) k → k ≠ xb := fun k hk e => by
        have := A1.lt k hk
        have := hxb.out
        omega
      rw [hw1.out] at HR ST2 A2 X2 B2
      rw [hxb.out] at X2
      by_cases hK1 : i < K
      · rw [HK.out i hK1] at HR
        have FC : Hid (∀ w2, Below w1.heap.size w1 w2 → w2.cell? ⟨xb, 0, none⟩ = some (.int .i64 (g q.L i).1) ∧ w2.cell? ⟨xb, 1, none⟩ = some (.int .i64 (g q.L i).2)) := fun w2 b2 => (X2.below b2).cells
        have HO : Hid (∀ w2, Below w1.heap.size w1 w2 → Calls Try.prog 26 #[.pointer (some ⟨b, 0, none⟩), .agg #[.int .i64 (g q.L i).1, .int .i64 (g q.L i).2]] w2 fun e w4 => e = .returned (.tuple #[]) ∧ ∃ R2 f2 v4, Hid (At w4 b ⟨q.cap, q.bytes, sumS (q.H ++ q.L.take i) + (g q.L i).2, R2, f2, (q.H ++ q.L.take i) ++ [g q.L i], q.L⟩ v4 (.slice (some ⟨tb, 0, none⟩) N ca) ∧ Stp b v (.slice (some ⟨tb, 0, none⟩) N ca) v4 (.slice (some ⟨tb, 0, none⟩) N ca) w w4 ∧ Ids w.heap.size w4 u3 ((q.L.take i).map (·.1)) ∧ Ib w4 xb (g q.L i))) := by
          intro w2 b2
          have A3 := A2.below b2
          refine (hold_any w2 b _ v' _ (g q.L i) A3 (by show (q.H ++ q.L.take i).length ≤ 2000; omega) (by exact hu0) (by show sumS (q.H ++ q.L.take i) ≤ _; omega) hxs.1 (by omega)).mono ?_
          rintro e w4 ⟨rfl, R2, f2, v4, k1, k2⟩
          have b3 := keepF B2 b2
          have I3 := (I1.below b3)
          refine ⟨rfl, R2, f2, v4, k1, (S1.trans (Stp.below b3)).trans k2, I3.but k2.1 fun k hk e => I3.apart A3 k hk e, ?_⟩
          exact (X2.below b2).but k2.1 fun e => nox _ e rfl
        clear A1 A2 X2 S1 I1 hst B2 OKi ST2
        go_upto_region 7 with (first | (go_at_call 25; rw [hw1.out]; refine HR.out.mono ?_; rintro e w2 ⟨rfl, b2⟩; obtain ⟨y0, y1⟩ := FC.out w2 b2; rw [hxb.out]) | (go_at_call 26; refine (HO.out w2 b2).mono ?_; rintro e w4 ⟨rfl, R2, f2, v4, hh⟩))
        obtain ⟨A4, S4, I4, X4⟩ := hh.out
        obtain ⟨y2, -⟩ := X4.cells
        have B5 := box_below w4 (.cells #[.int .i64 (g q.L i).1] 2)
        have N5 := heap_alloc_new w4 (.cells #[.int .i64 (g q.L i).1] 2)
        have N6 : (w4.alloc (.cells #[.int .i64 (g q.L i).1] 2)).cell? ⟨w4.heap.size, 0, none⟩ = some (.int .i64 (g q.L i).1) := by rw [cell_of N5]; simp
        have lk : ((q.L.take i).map (·.1)).length ≤ 1000000 := Nat.le_trans (by rw [List.length_map, List.length_take]; exact Nat.min_le_left _ _) (Nat.le_trans (Nat.le_of_lt hiN) hNl)
        obtain ⟨v6, w6, r6, I6, G6, H6⟩ := run_appN (g q.L i).1 w4.heap.size (I4.below B5) N6 lk (Nat.le_trans S4.1.size B5.size) 36
        have CN := hide (Cm.next hil A4 S4 I4 I6 G6)
        obtain ⟨ai, ci, hidv⟩ := I4.form
        obtain ⟨ai6, ci6, hidv6⟩ := I6.form
        revert hidv hidv6
        generalize ((q.L.take i).map (·.1)).length = n4
        generalize ((q.L.take i).map (·.1) ++ [(g q.L i).1]).length = n6
        intro hidv hidv6
        subst hidv hidv6
        replace r6 := hide r6
        clear A4 S4 I4 X4 I6 G6 H6 B5 N5 N6 lk hh HO FC HR hu0 hus hhl hxs
        go_wp2_with (at_builtin; refine wpList_append_runN rfl (.tmp 22) (.tmp 25) rfl rfl rfl r6.out ?_)
        go_roundw
        case measure => simp [intOf]; omega
        case rel => exact ⟨i + 1, rfl, by omega, CN.out⟩
      · obtain rfl : i = K := Nat.le_antisymm hiK (Nat.not_lt.1 hK1)
        rw [HKA.out (by rw [hN.out]; exact hiN)] at HR
        have STB : Hid (∀ w2, Below w1.heap.size w1 w2 → Cm w w2 b q v (.slice (some ⟨tb, 0, none⟩) N ca) u3 i) := fun w2 b2 => ST2.out.below b2
        clear A1 A2 X2 S1 I1 hst B2 OKi ST2 HK HKA hu0 hus hhl hxs ew hb1 hb2 hc2 nox hK1 hiK hszL HOK H0
        go_upto_region 9 with (go_at_call 25; rw [hw1.out]; refine HR.out.mono ?_; rintro e w2 ⟨rfl, b2⟩)
        have ST2 := hide (STB.out w2 b2)
        clear STB HR b2
        obtain ⟨ao, hao⟩ : ∃ ao, Hid ((some ⟨tb, 0, none⟩ : Option Addr) = ao) := ⟨_, rfl⟩
        rw [hao.out] at ST2 ⊢
        obtain ⟨v', ⟨R', f', A5⟩, S5, I5⟩ := ST2.out
        obtain ⟨-, -, -, -, -, -, c6⟩ := A5.cells
        have lik : ((q.L.take i).map (·.1)).length = i := by rw [List.length_map, List.length_take, hN.out]; exact Nat.min_eq_left hKN.out
        obtain ⟨ai, ci, hidv⟩ := I5.form
        rw [lik] at hidv
        subst hidv
        have LN : Hid (q.L.length ≤ 1000000) := by rw [hN.out]; exact hNl
        have DL := hide (del_any w2 (.slice ao N ca) q.L 0 i A5.line (Nat.zero_le _) (by rw [hN.out]; exact hKN.out) LN.out)
        rw [show ((0 : Nat) : Int) = 0 from rfl] at DL
        have DC : Hid (∀ U u, Its U u (q.L.take 0 ++ q.L.drop i) → But (fun k => (Value.slice ao N ca).ownBlock = some k) w2 U → u.ownBlock = (Value.slice ao N ca).ownBlock → Bx U b ⟨q.cap, q.bytes, sumS (q.H ++ q.L.take i), R', f', q.H ++ q.L.take i, q.L⟩ v' (.slice ao N ca) ∧ QA (U.setCell ⟨b, 6, none⟩ u) b ⟨q.cap, q.bytes, q.H ++ q.L.take i, q.L.drop i⟩ v' u ∧ Stp b v (.slice ao N ca) v' u w (U.setCell ⟨b, 6, none⟩ u) ∧ Ids w.heap.size (U.setCell ⟨b, 6, none⟩ u) (.slice ai i ci) ((q.L.take i).map (·.1))) := by
          intro U u hu hb hub
          have e0 : q.L.take 0 ++ q.L.drop i = q.L.drop i := by simp
          rw [e0] at hu
          have vln : (Value.slice ao N ca).ownBlock = (Value.slice ao N ca).ownBlock := rfl
          have hbx : Bx U b ⟨q.cap, q.bytes, sumS (q.H ++ q.L.take i), R', f', q.H ++ q.L.take i, q.L⟩ v' (.slice ao N ca) := hb.at A5.box (fun e => A5.no2 (vln.trans e))
          have bb := But.set (w := U) b 6 u
          have IA := I5.apart A5
          refine ⟨hbx, ⟨R', f', ?_, ?_, A5.rg, ?_, ?_, A5.rl, A5.nv, A5.r4⟩, ⟨?_, ?_⟩, ?_⟩
          · rw [heap_setCell_same U b 6 _ _ _ hbx]; rfl
          · exact (A5.row.but hb fun k hk e => A5.ap k hk (vln.trans e)).but bb fun k hk e => A5.no1 (by rw [← e]; exact hk)
          · exact hu.but bb fun k hk e => A5.no2 (by rw [← hub, ← e]; exact hk)
          · intro k hk e
            exact A5.ap k hk (by rw [← hub]; exact e)
          · refine ⟨bb.os.trans (hb.os.trans S5.1.os), bb.tape.trans (hb.tape.trans S5.1.tape), bb.output.trans (hb.output.trans S5.1.output), Nat.le_trans S5.1.size (Nat.le_trans hb.size bb.size), fun k hk hx => ?_⟩
            rw [bb.block k (Nat.lt_of_lt_of_le hk (Nat.le_trans S5.1.size hb.size)) (fun e => hx (.inl e)), hb.block k (Nat.lt_of_lt_of_le hk S5.1.size) (fun e => hx (.inr (.inr (vln.trans e))))]
            exact S5.1.block k hk hx
          · rintro k (e | e | e)
            · exact S5.2 k (.inl e)
            · exact S5.2 k (.inr (.inl e))
            · exact S5.2 k (.inr (.inr (by rw [← hub]; exact e)))
          · exact (I5.but hb fun k hk e => IA k hk (.inr (.inr (vln.trans e)))).but bb fun k hk e => IA k hk (.inl e)
        clear A5 S5 I5
        go_wp2_with (go_at_call 35; refine DL.out.mono ?_; rintro e U ⟨u, rfl, u1, u2, u3⟩; obtain ⟨E1, E2, E3, E4⟩ := DC.out U u u1 u2 u3; obtain ⟨ua, un, uc, rfl⟩ := slice_of u1; have d6 := E1.c6; have g6 := E1.f6; replace E2 := hide E2; replace E3 := hide E3; replace E4 := hide E4; clear E1 u1 u2 u3)
        go_ret
        first
          | exact ⟨_, v', _, rfl, E2.out, E3.out, E4.out⟩
          | (rw [hao.out]; exact ⟨_, v', _, rfl, E2.out, E3.out, E4.out⟩)
    · have hiN' : ¬ (i : Int) < (N : Int) := by omega
      obtain rfl : i = K := by have := hKN.out; omega
      clear HK HKA
      go_upto_region 9 with fail
      obtain ⟨v', ⟨R', f', A5⟩, S5, I5⟩ := hst.out
      obtain ⟨-, -, -, -, -, -, c6⟩ := A5.cells
      have lik : ((q.L.take i).map (·.1)).length = i := by rw [List.length_map, List.length_take, hN.out]; exact Nat.min_eq_left hKN.out
      obtain ⟨ai, ci, hidv⟩ := I5.form
      rw [lik] at hidv
      subst hidv
      have LN : Hid (q.L.length ≤ 1000000) := by rw [hN.out]; exact hNl
      have DL := hide (del_any wr (.slice ao N ca) q.L 0 i A5.line (Nat.zero_le _) (by rw [hN.out]; exact hKN.out) LN.out)
      rw [show ((0 : Nat) : Int) = 0 from rfl] at DL
      have DC : Hid (∀ U u, Its U u (q.L.take 0 ++ q.L.drop i) → But (fun k => (Value.slice ao N ca).ownBlock = some k) wr U → u.ownBlock = (Value.slice ao N ca).ownBlock → Bx U b ⟨q.cap, q.bytes, sumS (q.H ++ q.L.take i), R', f', q.H ++ q.L.take i, q.L⟩ v' (.slice ao N ca) ∧ QA (U.setCell ⟨b, 6, none⟩ u) b ⟨q.cap, q.bytes, q.H ++ q.L.take i, q.L.drop i⟩ v' u ∧ Stp b v (.slice ao N ca) v' u w (U.setCell ⟨b, 6, none⟩ u) ∧ Ids w.heap.size (U.setCell ⟨b, 6, none⟩ u) (.slice ai i ci) ((q.L.take i).map (·.1))) := by
        intro U u hu hb hub
        have e0 : q.L.take 0 ++ q.L.drop i = q.L.drop i := by simp
        rw [e0] at hu
        have vln : (Value.slice ao N ca).ownBlock = (Value.slice ao N ca).ownBlock := rfl
        have hbx : Bx U b ⟨q.cap, q.bytes, sumS (q.H ++ q.L.take i), R', f', q.H ++ q.L.take i, q.L⟩ v' (.slice ao N ca) := hb.at A5.box (fun e => A5.no2 (vln.trans e))
        have bb := But.set (w := U) b 6 u
        have IA := I5.apart A5
        refine ⟨hbx, ⟨R', f', ?_, ?_, A5.rg, ?_, ?_, A5.rl, A5.nv, A5.r4⟩, ⟨?_, ?_⟩, ?_⟩
        · rw [heap_setCell_same U b 6 _ _ _ hbx]; rfl
        · exact (A5.row.but hb fun k hk e => A5.ap k hk (vln.trans e)).but bb fun k hk e => A5.no1 (by rw [← e]; exact hk)
        · exact hu.but bb fun k hk e => A5.no2 (by rw [← hub, ← e]; exact hk)
        · intro k hk e
          exact A5.ap k hk (by rw [← hub]; exact e)
        · refine ⟨bb.os.trans (hb.os.trans S5.1.os), bb.tape.trans (hb.tape.trans S5.1.tape), bb.output.trans (hb.output.trans S5.1.output), Nat.le_trans S5.1.size (Nat.le_trans hb.size bb.size), fun k hk hx => ?_⟩
          rw [bb.block k (Nat.lt_of_lt_of_le hk (Nat.le_trans S5.1.size hb.size)) (fun e => hx (.inl e)), hb.block k (Nat.lt_of_lt_of_le hk S5.1.size) (fun e => hx (.inr (.inr (vln.trans e))))]
          exact S5.1.block k hk hx
        · rintro k (e | e | e)
          · exact S5.2 k (.inl e)
          · exact S5.2 k (.inr (.inl e))
          · exact S5.2 k (.inr (.inr (by rw [← hub]; exact e)))
        · exact (I5.but hb fun k hk e => IA k hk (.inr (.inr (vln.trans e)))).but bb fun k hk e => IA k hk (.inl e)
      clear A5 S5 I5
      go_wp2_with (go_at_call 35; refine DL.out.mono ?_; rintro e U ⟨u, rfl, u1, u2, u3⟩; obtain ⟨E1, E2, E3, E4⟩ := DC.out U u u1 u2 u3; obtain ⟨ua, un, uc, rfl⟩ := slice_of u1; have d6 := E1.c6; have g6 := E1.f6; replace E2 := hide E2; replace E3 := hide E3; replace E4 := hide E4; clear E1 u1 u2 u3)
      go_ret
      first
        | exact ⟨_, v', _, rfl, E2.out, E3.out, E4.out⟩
        | (rw [hao.out]; exact ⟨_, v', _, rfl, E2.out, E3.out, E4.out⟩)
end Go.Proofs.Ytfoleeamhhodaaa.Qu

