/-
  What is told of a run: told. (gen_TdS.py)
-/
import Derived.Test.YtdbhfeiibcpcaaaDoorS03
import Derived.Test.YtdbhfeiibcpcaaaDoorS01
import Derived.Laws.StructEq
import Derived.BigQuiet
namespace Go.Proofs.YtdbhfeiibcpcaaaDoor.Sd
open Go.RowKit
open Ix (wp_region_T wpAnyT wpAnyT_take wpAnyT_one wpAnyT_done vac)
set_option linter.unusedVariables false
set_option linter.unusedSimpArgs false
set_option maxRecDepth 100000
/-- Two may come up. -/
theorem wpAnyT_two {P : Program} {ops : Array Oper} {Q : Exit → Act → World → Prop} {md : Region.Mode} {S : World → Prop} {d : Nat} {i j : Nat} {oi oj : Oper} {fuel : Nat} {listed : Array Bool} {a : Act} {w : World} (hr : Region.ready md ops listed = [i, j]) (hoi : ops[i]? = some oi) (hoj : ops[j]? = some oj)
    (hI : ∀ K' : Act → World → Prop, Shut (∀ a w, ((listed.setIfInBounds i true).getD d false = false → S w) → wpAnyT P md ops Q S d fuel (listed.setIfInBounds i true) a w → K' a w) → if Region.wanted oi (yielded ops a.tmps) = true then Oper.wp P oi a w K' Q else K' (a.put oi.dst undef) w)
    (hJ : ∀ K' : Act → World → Prop, Shut (∀ a w, ((listed.setIfInBounds j true).getD d false = false → S w) → wpAnyT P md ops Q S d fuel (listed.setIfInBounds j true) a w → K' a w) → if Region.wanted oj (yielded ops a.tmps) = true then Oper.wp P oj a w K' Q else K' (a.put oj.dst undef) w) :
    wpAnyT P md ops Q S d (fuel + 1) listed a w := by
  refine ⟨fun h0 => (by rw [h0] at hr; cases hr), fun k hk => ?_⟩
  rw [hr] at hk
  simp only [List.mem_cons, List.not_mem_nil, or_false] at hk
  rcases hk with rfl | rfl
  · exact wpOp_step hoi (fun K' hK => hI K' (fun a w hS hW => hK a w ⟨hS, hW⟩))
  · exact wpOp_step hoj (fun K' hK => hJ K' (fun a w hS hW => hK a w ⟨hS, hW⟩))
def put5 (w : World) (b : Nat) (v0 v1 v2 v3 v4 : Value) : World := ((((w.setCell ⟨b, 0, none⟩ v0).setCell ⟨b, 1, none⟩ v1).setCell ⟨b, 2, none⟩ v2).setCell ⟨b, 3, none⟩ v3).setCell ⟨b, 4, none⟩ v4
theorem put5_heap {w : World} {b : Nat} {a0 a1 a2 a3 a4 : Value} {T : TypeId} (h : w.heap[b]? = some (.cells #[a0, a1, a2, a3, a4] T (0, 0))) (v0 v1 v2 v3 v4 : Value) : (put5 w b v0 v1 v2 v3 v4).heap[b]? = some (.cells #[v0, v1, v2, v3, v4] T (0, 0)) := by
  unfold put5
  have h0 := heap_setCell_same w b 0 _ _ v0 h
  have h1 := heap_setCell_same _ b 1 _ _ v1 h0
  have h2 := heap_setCell_same _ b 2 _ _ v2 h1
  have h3 := heap_setCell_same _ b 3 _ _ v3 h2
  have h4 := heap_setCell_same _ b 4 _ _ v4 h3
  rw [h4]
  simp
theorem put5_but (w : World) (b : Nat) (v0 v1 v2 v3 v4 : Value) : But (fun k => k = b) w (put5 w b v0 v1 v2 v3 v4) :=
  have h : ∀ (u : World) (o : Nat) (v : Value), But (fun k => k = b) u (u.setCell ⟨b, o, none⟩ v) := fun u o v => But.set _ _ _ _ rfl
  ((((h _ _ _).trans (h _ _ _)).trans (h _ _ _)).trans (h _ _ _)).trans (h _ _ _)
section
variable {w0 w : World} {us : List Value} {rb : Nat} {X : V} {S : St}
theorem dis_new {pA g : Nat} {rv : Value} {L : Nat} {l : List Int} {q : World} (h1 : pA ≠ g) (I : Iw L q rv l) (hp : pA < L) (hg : ∀ k, rv.ownBlock = some k → k ≠ g) : ∀ i j k, tbl (some pA) (some g) rv (.slice none 0 0) (.slice none 0 0) [] i = some k → tbl (some pA) (some g) rv (.slice none 0 0) (.slice none 0 0) [] j = some k → i = j := by
  have hb : ∀ i k, tbl (some pA) (some g) rv (.slice none 0 0) (.slice none 0 0) [] i = some k → (i = 0 ∧ k = pA) ∨ (i = 1 ∧ k = g) ∨ (i = 2 ∧ L ≤ k ∧ k ≠ g) := by
    intro i k hk
    match i with
    | 0 => cases hk; exact .inl ⟨rfl, rfl⟩
    | 1 => cases hk; exact .inr (.inl ⟨rfl, rfl⟩)
    | 2 => exact .inr (.inr ⟨rfl, (World.ownsRow.lt I k hk).1, hg k hk⟩)
    | 3 => cases hk
    | 4 => cases hk
    | n + 5 => simp [tbl] at hk
  intro i j k hi hj
  rcases hb i k hi with ⟨a, b⟩ | ⟨a, b⟩ | ⟨a, b, c⟩ <;> rcases hb j k hj with ⟨a', b'⟩ | ⟨a', b'⟩ | ⟨a', b', c'⟩ <;> omega
theorem lo_new {pA g : Nat} {rv : Value} {L B : Nat} {l : List Int} {q : World} (I : Iw L q rv l) (hp : B ≤ pA) (hg : B ≤ g) (hL : B ≤ L) : ∀ i k, tbl (some pA) (some g) rv (.slice none 0 0) (.slice none 0 0) [] i = some k → B ≤ k := by
  intro i k hk
  match i with
  | 0 => cases hk; exact hp
  | 1 => cases hk; exact hg
  | 2 => exact Nat.le_trans hL (World.ownsRow.lt I k hk).1
  | 3 => cases hk
  | 4 => cases hk
  | n + 5 => simp [tbl] at hk
theorem rn_new {q2 : World} {pA : Nat} {rv : Value} (A0 : At w0 us w rb X S) (A : At w0 us q2 rb X S) (B : Below w.heap.size w q2) (N : q2.heap[pA]? = some (.cells #[.int .i64 0, .slice none 0 0, .slice none 0 0, .slice none 0 0, .slice none 0 0] 33 (0, 0))) (I : Iw (pA + 1) q2 rv (regs S)) (hA : w.heap.size = pA) (D : Obj) (hD : D = .cells #[.int .i64 (S.tr.length : Int), X.t, rv, .slice none 0 0, .slice none 0 0] 33) :
    Rn w0 w us rb X S (q2.alloc D) pA q2.heap.size rv (.slice none 0 0) (.slice none 0 0) [] [] [] := by
  have b := box_below q2 D
  have hp := heap_lt N
  exact ⟨A.below b, fun k hk => A0.lt k hk, A0.low.size, keepF B b, (b.block _ hp).trans N, by rw [hD]; exact heap_alloc_new q2 _, row_below (iw_low I (by omega)) b, World.ownsRow_nil _ _ _ _, World.ownsRow_nil _ _ _ _, ⟨rfl, fun j v l h1 => by simp at h1⟩, dis_new (by omega) I (by omega) fun k hk => by have := (World.ownsRow.lt I k hk).2; omega, lo_new I (by omega) B.size (by omega)⟩
theorem rn_old {q2 : World} {pA g : Nat} {rv : Value} (A0 : At w0 us w rb X S) (A : At w0 us q2 rb X S) (B : Below w.heap.size w q2) (N : q2.heap[pA]? = some (.cells #[.int .i64 0, .slice none 0 0, .slice none 0 0, .slice none 0 0, .slice none 0 0] 33 (0, 0))) (I : Iw (g + 1) q2 rv (regs S)) (hA : w.heap.size = pA) (hpg : pA < g) (G : q2.heap[g]? = some (.cells #[.int .i64 0, .slice none 0 0, .slice none 0 0, .slice none 0 0, .slice none 0 0] 33 (0, 0))) (v0 v1 : Value) (h0 : v0 = .int .i64 (S.tr.length : Int)) (h1 : X.t = v1) :
    Rn w0 w us rb X S (put5 q2 g v0 v1 rv (.slice none 0 0) (.slice none 0 0)) pA g rv (.slice none 0 0) (.slice none 0 0) [] [] [] := by
  have hb := put5_but q2 g v0 v1 rv (.slice none 0 0) (.slice none 0 0)
  subst h0
  subst h1
  have hI : ∀ k, rv.ownBlock = some k → k ≠ g := fun k hk => by have := (World.ownsRow.lt I k hk).1; omega
  exact ⟨A.but hb (fun k hk c => by have := A0.lt k hk; omega) (fun k c => by have := A0.low.size; omega), fun k hk => A0.lt k hk, A0.low.size, B.trans (hb.below B.size fun k c => by omega), hb.at N (by omega), put5_heap G _ _ _ _ _, ownsRow_but (iw_low I (by omega)) hb hI, World.ownsRow_nil _ _ _ _, World.ownsRow_nil _ _ _ _, ⟨rfl, fun j v l h1 => by simp at h1⟩, dis_new (by omega) I (by omega) hI, lo_new I (by omega) (by omega) (by omega)⟩
end
theorem sld_row {w : World} {T : TypeId} {v : Value} {xs : List Value} (h : Sld w T v xs) : Row w v xs := by
  rcases h with ⟨rfl, rfl⟩ | ⟨g, off, cap, cur, rfl, h1, h2, h3, h4, h5⟩
  · exact ⟨none, 0, rfl, fun _ => ⟨rfl, rfl⟩, Nat.le_refl _, Nat.zero_le _, fun i hi => absurd hi (by simp)⟩
  · exact ⟨_, cap, rfl, (fun e => by cases e), h2, h3, fun i hi => ⟨g, off, rfl, by rw [cell_of h1, h5 i hi, List.getElem?_eq_getElem hi]⟩⟩
def endOf (S : St) (t : Tk) : Int × Int := (howS S t, t.wt)
def endsI (S : St) (i : Nat) : List (Int × Int) := (S.tk.take i).map (endOf S)
theorem endsI_succ {S : St} {i : Nat} {t : Tk} (h : S.tk[i]? = some t) : endsI S (i + 1) = endsI S i ++ [(howS S t, t.wt)] := by
  unfold endsI
  rw [List.take_add_one, h]
  simp [endOf]
theorem endsI_len {S : St} {i : Nat} (h : i ≤ S.tk.length) : (endsI S i).length = i := by simp [endsI, h]
def quesI (S : St) (i : Nat) : List (List Int) := (List.range i).map S.qu
theorem quesI_succ (S : St) (i : Nat) : quesI S (i + 1) = quesI S i ++ [S.qu i] := by simp [quesI, List.range_succ]
theorem ix4_0 (a b c d : Value) (u : World) : (Instr.index 65 (.agg #[a, b, c, d]) (.int .i64 0)).run Tryd.prog u = .ok a u := by kernel_rfl
theorem ix4_1 (a b c d : Value) (u : World) : (Instr.index 65 (.agg #[a, b, c, d]) (.int .i64 1)).run Tryd.prog u = .ok b u := by kernel_rfl
theorem ix4_2 (a b c d : Value) (u : World) : (Instr.index 65 (.agg #[a, b, c, d]) (.int .i64 2)).run Tryd.prog u = .ok c u := by kernel_rfl
theorem ix4_3 (a b c d : Value) (u : World) : (Instr.index 65 (.agg #[a, b, c, d]) (.int .i64 3)).run Tryd.prog u = .ok d u := by kernel_rfl
theorem ix4 (a b c d : Value) (j : Nat) (hj : j < 4) (u : World) : (Instr.index 65 (.agg #[a, b, c, d]) (.int .i64 (j : Int))).run Tryd.prog u = .ok (match j with | 0 => a | 1 => b | 2 => c | _ => d) u := by
  have h : j = 0 ∨ j = 1 ∨ j = 2 ∨ j = 3 := by omega
  rcases h with rfl | rfl | rfl | rfl
  · exact ix4_0 a b c d u
  · exact ix4_1 a b c d u
  · exact ix4_2 a b c d u
  · exact ix4_3 a b c d u
theorem q4 (q : Nat → Value) {j : Nat} (hj : j < 4) : (match j with | 0 => q 0 | 1 => q 1 | 2 => q 2 | _ => q 3) = q j := by
  have h : j = 0 ∨ j = 1 ∨ j = 2 ∨ j = 3 := by omega
  rcases h with rfl | rfl | rfl | rfl <;> rfl
/-- A Ran in memory of one's own, from block B on. -/
structure Rt (B : Nat) (w : World) (tv rv ev qv : Value) (vs : List Value) (tr : List (Nat × Nat)) (rg : List Int) (E : List (Int × Int)) (L : List (List Int)) : Prop where
  tr : w.ownsRow B 39 2 tv tr.length (tcells tr)
  rg : Iw B w rv rg
  en : w.ownsRow B 49 2 ev E.length (ecells E)
  qs : w.ownsRow B 29 1 qv vs.length vs
  ql : vs.length = L.length ∧ ∀ (j : Nat) (v : Value) (l : List Int), vs[j]? = some v → L[j]? = some l → Iw B w v l
  dis : ∀ i j k, tbl tv.ownBlock none rv ev qv vs i = some k → tbl tv.ownBlock none rv ev qv vs j = some k → i = j
theorem Rn.rt {w0 w u : World} {us : List Value} {rb : Nat} {X : V} {S : St} {pA g : Nat} {rv ev qv : Value} {vs : List Value} {E : List (Int × Int)} {L : List (List Int)} (h : Rn w0 w us rb X S u pA g rv ev qv vs E L) (v0 v1 v2 v3 v4 : Value) :
    Rt w0.heap.size (put5 u pA v0 v1 v2 v3 v4) X.t rv ev qv vs S.tr (regs S) E L ∧ Below w0.heap.size w0 (put5 u pA v0 v1 v2 v3 v4) := by
  have hb := put5_but u pA v0 v1 v2 v3 v4
  have hpA := h.lo 0 pA rfl
  have hT : ∀ k, X.t.ownBlock = some k → k < w.heap.size := fun k hk => h.own k ⟨2, hk⟩
  have hno : ∀ i k, tbl (some pA) (some g) rv ev qv vs i = some k → i ≠ 0 → ¬ k = pA := fun i k hk hi e => hi (h.dis i 0 k hk (by rw [e]; rfl))
  have hl := h.lo0
  refine ⟨⟨ownsRow_but h.at_.tr hb fun k hk e => by have := hT k hk; omega, ownsRow_but (iw_low h.rg hl) hb fun k hk => hno 2 k hk (by decide), ownsRow_but (row_low h.en hl) hb fun k hk => hno 3 k hk (by decide), ownsRow_but (row_low h.qs hl) hb fun k hk => hno 4 k hk (by decide), ⟨h.ql.1, fun j v l h1 h2 => ownsRow_but (iw_low (h.ql.2 j v l h1 h2) hl) hb fun k hk => hno (j + 5) k (h.vsb h1 hk) (by omega)⟩, ?_⟩, h.at_.low.trans (hb.below h.at_.low.size fun k e => by omega)⟩
  intro i j k hi hj
  have hz : ∀ i, tbl X.t.ownBlock none rv ev qv vs i = some k → (i = 0 ∧ k < w.heap.size) ∨ (i ≠ 0 ∧ w.heap.size ≤ k ∧ tbl (some pA) (some g) rv ev qv vs i = some k) := by
    intro i hi
    match i with
    | 0 => exact .inl ⟨rfl, hT k hi⟩
    | 1 => cases hi
    | n + 2 =>
      have hi' : tbl (some pA) (some g) rv ev qv vs (n + 2) = some k := by
        match n, hi with
        | 0, hi => exact hi
        | 1, hi => exact hi
        | 2, hi => exact hi
        | n + 3, hi => exact hi
      exact .inr ⟨by omega, h.lo _ k hi', hi'⟩
  rcases hz i hi with ⟨a, b⟩ | ⟨a, b, c⟩ <;> rcases hz j hj with ⟨a', b'⟩ | ⟨a', b', c'⟩
  · omega
  · omega
  · omega
  · exact h.dis i j k c c'
set_option maxHeartbeats 8000000 in
theorem told_any (w0 w : World) (us : List Value) (rb : Nat) (X : V) (S : St) (h : At w0 us w rb X S) (ok : Ok S) :
    Calls Tryd.prog 34 #[.pointer (some ⟨rb, 0, none⟩)] w fun e w' => ∃ rv ev qv, e = .returned (.agg #[.int .i64 (S.tr.length : Int), X.t, rv, ev, qv]) ∧ (∃ vs, Rt w0.heap.size w' X.t rv ev qv vs S.tr (regs S) (endsI S S.tk.length) (quesI S 4)) ∧ Below w0.heap.size w0 w' := by
  obtain ⟨ta, tc, te, t1, t2, t3⟩ := turns_form h.tr
  obtain ⟨T, hT⟩ : ∃ T, Hid (S.tr.length = T) := ⟨_, rfl⟩
  obtain ⟨n, hnn⟩ : ∃ n, Hid (S.tk.length = n) := ⟨_, rfl⟩
  have hn := ok.n
  rw [hnn.out] at hn
  rw [hT.out] at te t1 ⊢
  rw [te, hnn.out]
  have hZ0 := box_below w (.cells #[.int .i64 0, .slice none 0 0, .slice none 0 0, .slice none 0 0, .slice none 0 0] 33)
  have hN0 := heap_alloc_new w (.cells #[.int .i64 0, .slice none 0 0, .slice none 0 0, .slice none 0 0, .slice none 0 0] 33)
  obtain ⟨w1, hw1⟩ : ∃ w1, Hid (w.alloc (.cells #[.int .i64 0, .slice none 0 0, .slice none 0 0, .slice none 0 0, .slice none 0 0] 33) = w1) := ⟨_, rfl⟩
  rw [hw1.out] at hZ0 hN0
  obtain ⟨pA, hpA⟩ : ∃ pA, Hid (w.heap.size = pA) := ⟨_, rfl⟩
  rw [hpA.out] at hN0
  have A0 := hide h
  have A1 := hide (h.below hZ0)
  have B1 := hide hZ0
  have N1 := hide hN0
  have OK := hide ok
  clear h ok t3 hZ0 hN0
  go_enter Tryd.func34, Tryd.ntmps34
  go_upto_region 1 with fail
  rw [hw1.out, hpA.out]
  go_cut [3] from 8 to 22 (fun v3 wx => ∃ g, v3 = .pointer (some ⟨g, 0, none⟩) ∧ ∃ rv, Hid (Rn w0 w us rb X S wx pA g rv (.slice none 0 0) (.slice none 0 0) [] [] []))
  case first =>
    have bq : Below w1.heap.size w1 w1.drew := (Below.refl _ _).drew
    have AD := hide (A1.out.below bq)
    have BD := hide (keepF B1.out bq)
    have N1d : Hid (w1.drew.heap[pA]? = some (.cells #[.int .i64 0, .slice none 0 0, .slice none 0 0, .slice none 0 0, .slice none 0 0] 33)) := N1.out
    have KP : Hid (w1.drew.cell? ⟨rb, 22, none⟩ = some (.slice ta T tc) ∧ True) := ⟨by rw [← te]; exact AD.out.rcell.2.2, trivial⟩
    clear bq A1 B1 N1
    refine wp_region_T (fun q => q.cell? ⟨rb, 22, none⟩ = some (.slice ta T tc) ∧ True) 16 (by kernel_rfl) ?_
    generalize w1.drew = q at *
    refine wpAnyT_take (i := 0) (oi := { dst := some 8, op := Op.move (Operand.tmp 0), type := 73, pos := "run.go:93", after := #[], guard := none }) (v := .pointer (some ⟨rb, 0, none⟩)) [1, 2, 3, 4, 14, 16] rfl (by kernel_rfl) (by kernel_rfl) (by kernel_rfl) (by kernel_rfl) (fun _ _ _ h => h) (Or.inl ⟨by rfl, ?_⟩) KP.out ?_
    · intro wq hSw
      obtain ⟨y0, y1⟩ := hSw
      go_simp
    (try simp only [Act.put, List.setIfInBounds_toArray, List.set_cons_zero, List.set_cons_succ])
    refine wpAnyT_take (i := 1) (oi := { dst := some 9, op := Op.nilCheck (Operand.tmp 8), type := 0, pos := "run.go:93", after := #[{ on := 0, ground := Ground.data }], guard := none }) (v := .pointer (some ⟨rb, 0, none⟩)) [2, 3, 4, 14, 16] rfl (by kernel_rfl) (by kernel_rfl) (by kernel_rfl) (by kernel_rfl) (fun _ _ _ h => h) (Or.inl ⟨by rfl, ?_⟩) KP.out ?_
    · intro wq hSw
      obtain ⟨y0, y1⟩ := hSw
      go_simp
    (try simp only [Act.put, List.setIfInBounds_toArray, List.set_cons_zero, List.set_cons_succ])
    refine wpAnyT_take (i := 2) (oi := { dst := some 10, op := Op.fieldAddr 95 (Operand.tmp 9) 6, type := 0, pos := "run.go:93", after := #[{ on := 1, ground := Ground.data }], guard := none }) (v := .pointer (some ⟨rb, 22, none⟩)) [3, 4, 14, 16] rfl (by kernel_rfl) (by kernel_rfl) (by kernel_rfl) (by kernel_rfl) (fun _ _ _ h => h) (Or.inl ⟨by rfl, ?_⟩) KP.out ?_
    · intro wq hSw
      obtain ⟨y0, y1⟩ := hSw
      go_simp
    (try simp only [Act.put, List.setIfInBounds_toArray, List.set_cons_zero, List.set_cons_succ])
    refine wpAnyT_take (i := 3) (oi := { dst := some 11, op := Op.load 28 (Operand.tmp 10), type := 28, pos := "run.go:93", after := #[{ on := 2, ground := Ground.data }], guard := none }) (v := .slice ta T tc) [4, 14, 16] rfl (by kernel_rfl) (by kernel_rfl) (by kernel_rfl) (by kernel_rfl) (fun _ _ _ h => h) (Or.inl ⟨by rfl, ?_⟩) KP.out ?_
    · intro wq hSw
      obtain ⟨y0, y1⟩ := hSw
      go_simp
    (try simp only [Act.put, List.setIfInBounds_toArray, List.set_cons_zero, List.set_cons_succ])
    refine wpAnyT_take (i := 4) (oi := { dst := some 12, op := Op.call { callee := Callee.builtin Builtin.len, args := #[Operand.tmp 11], argTypes := #[28] }, type := 3, pos := "run.go:93", after := #[{ on := 3, ground := Ground.data }], guard := none }) (v := .int .i64 (T : Int)) [14, 16] rfl (by kernel_rfl) (by kernel_rfl) (by kernel_rfl) (by kernel_rfl) (fun _ _ _ h => h) (Or.inl ⟨by rfl, ?_⟩) KP.out ?_
    · intro wq hSw
      obtain ⟨y0, y1⟩ := hSw
      go_simp
    (try simp only [Act.put, List.setIfInBounds_toArray, List.set_cons_zero, List.set_cons_succ])
    refine wpAnyT_take (i := 5) (oi := { dst := some 13, op := Op.move (Operand.tmp 0), type := 73, pos := "run.go:93", after := #[], guard := none }) (v := .pointer (some ⟨rb, 0, none⟩)) [6, 7, 8, 14, 16] rfl (by kernel_rfl) (by kernel_rfl) (by kernel_rfl) (by kernel_rfl) (fun _ _ _ h => h) (Or.inl ⟨by rfl, ?_⟩) KP.out ?_
    · intro wq hSw
      obtain ⟨y0, y1⟩ := hSw
      go_simp
    (try simp only [Act.put, List.setIfInBounds_toArray, List.set_cons_zero, List.set_cons_succ])
    refine wpAnyT_take (i := 6) (oi := { dst := some 14, op := Op.nilCheck (Operand.tmp 13), type := 0, pos := "run.go:93", after := #[{ on := 5, ground := Ground.data }], guard := none }) (v := .pointer (some ⟨rb, 0, none⟩)) [7, 8, 14, 16] rfl (by kernel_rfl) (by kernel_rfl) (by kernel_rfl) (by kernel_rfl) (fun _ _ _ h => h) (Or.inl ⟨by rfl, ?_⟩) KP.out ?_
    · intro wq hSw
      obtain ⟨y0, y1⟩ := hSw
      go_simp
    (try simp only [Act.put, List.setIfInBounds_toArray, List.set_cons_zero, List.set_cons_succ])
    refine wpAnyT_take (i := 7) (oi := { dst := some 15, op := Op.fieldAddr 95 (Operand.tmp 14) 6, type := 0, pos := "run.go:93", after := #[{ on := 6, ground := Ground.data }], guard := none }) (v := .pointer (some ⟨rb, 22, none⟩)) [8, 14, 16] rfl (by kernel_rfl) (by kernel_rfl) (by kernel_rfl) (by kernel_rfl) (fun _ _ _ h => h) (Or.inl ⟨by rfl, ?_⟩) KP.out ?_
    · intro wq hSw
      obtain ⟨y0, y1⟩ := hSw
      go_simp
    (try simp only [Act.put, List.setIfInBounds_toArray, List.set_cons_zero, List.set_cons_succ])
    refine wpAnyT_take (i := 8) (oi := { dst := some 16, op := Op.load 28 (Operand.tmp 15), type := 28, pos := "run.go:93", after := #[{ on := 7, ground := Ground.data }], guard := none }) (v := .slice ta T tc) [14, 16] rfl (by kernel_rfl) (by kernel_rfl) (by kernel_rfl) (by kernel_rfl) (fun _ _ _ h => h) (Or.inl ⟨by rfl, ?_⟩) KP.out ?_
    · intro wq hSw
      obtain ⟨y0, y1⟩ := hSw
      go_simp
    (try simp only [Act.put, List.setIfInBounds_toArray, List.set_cons_zero, List.set_cons_succ])
    refine wpAnyT_take (i := 9) (oi := { dst := some 17, op := Op.move (Operand.tmp 0), type := 73, pos := "run.go:93", after := #[], guard := none }) (v := .pointer (some ⟨rb, 0, none⟩)) [10, 11, 12, 13, 14, 16] rfl (by kernel_rfl) (by kernel_rfl) (by kernel_rfl) (by kernel_rfl) (fun _ _ _ h => h) (Or.inl ⟨by rfl, ?_⟩) KP.out ?_
    · intro wq hSw
      obtain ⟨y0, y1⟩ := hSw
      go_simp
    (try simp only [Act.put, List.setIfInBounds_toArray, List.set_cons_zero, List.set_cons_succ])
    refine wpAnyT_take (i := 10) (oi := { dst := some 18, op := Op.nilCheck (Operand.tmp 17), type := 0, pos := "run.go:93", after := #[{ on := 9, ground := Ground.data }], guard := none }) (v := .pointer (some ⟨rb, 0, none⟩)) [11, 12, 13, 14, 16] rfl (by kernel_rfl) (by kernel_rfl) (by kernel_rfl) (by kernel_rfl) (fun _ _ _ h => h) (Or.inl ⟨by rfl, ?_⟩) KP.out ?_
    · intro wq hSw
      obtain ⟨y0, y1⟩ := hSw
      go_simp
    (try simp only [Act.put, List.setIfInBounds_toArray, List.set_cons_zero, List.set_cons_succ])
    refine wpAnyT_take (i := 11) (oi := { dst := some 19, op := Op.fieldAddr 95 (Operand.tmp 18) 5, type := 0, pos := "run.go:93", after := #[{ on := 10, ground := Ground.data }], guard := none }) (v := .pointer (some ⟨rb, 14, none⟩)) [12, 13, 14, 16] rfl (by kernel_rfl) (by kernel_rfl) (by kernel_rfl) (by kernel_rfl) (fun _ _ _ h => h) (Or.inl ⟨by rfl, ?_⟩) KP.out ?_
    · intro wq hSw
      obtain ⟨y0, y1⟩ := hSw
      go_simp
    (try simp only [Act.put, List.setIfInBounds_toArray, List.set_cons_zero, List.set_cons_succ])
    refine wpAnyT_take (i := 12) (oi := { dst := some 20, op := Op.slice 66 (Operand.tmp 19) none none none, type := 29, pos := "run.go:93", after := #[{ on := 11, ground := Ground.data }], guard := none }) (v := .slice (some ⟨rb, 14, none⟩) 8 8) [13, 14, 16] rfl (by kernel_rfl) (by kernel_rfl) (by kernel_rfl) (by kernel_rfl) (fun _ _ _ h => h) (Or.inl ⟨by rfl, ?_⟩) KP.out ?_
    · intro wq hSw
      obtain ⟨y0, y1⟩ := hSw
      go_simp
    (try simp only [Act.put, List.setIfInBounds_toArray, List.set_cons_zero, List.set_cons_succ])
    refine wpAnyT_two (i := 13) (j := 15) (oi := { dst := some 21, op := Op.call { callee := Callee.value (Operand.func 45), args := #[Operand.tmp 20], argTypes := #[29] }, type := 29, pos := "run.go:93", after := #[{ on := 12, ground := Ground.data }], guard := none }) (oj := { dst := some 3, op := Op.alloc 33, type := 0, pos := "run.go:93", after := #[], guard := none }) (by kernel_rfl) rfl rfl (fun K hK => ?_) (fun K hK => ?_)
    · have CL := hide (clone_i q (.slice (some ⟨rb, 14, none⟩) 8 8) (regs S) (AD.out.regs) (by simp [regs]))
      go_simp
      go_at_call 45
      refine CL.out.mono ?_
      rintro e q2 ⟨rv, rfl, iv, bv⟩
      (try go_simp)
      have KP2 : Hid (q2.cell? ⟨rb, 22, none⟩ = some (.slice ta T tc) ∧ True) := ⟨(bv.cell (lt_of_cell KP.out.1)).trans KP.out.1, trivial⟩
      refine hK.out _ _ (fun _ => KP2.out) ?_
      clear hK K
      (try simp only [Act.put, List.setIfInBounds_toArray, List.set_cons_zero, List.set_cons_succ])
      have A2 := hide (AD.out.below bv)
      have B2 := hide (keepF BD.out bv)
      have N2 := hide ((bv.block pA (heap_lt N1d.out)).trans N1d.out)
      have iv' : Hid (Iw (pA + 1) q2 rv (regs S)) := iw_low iv (heap_lt N1d.out)
      obtain ⟨ra', rc', hrv0, -⟩ := own_form iv
      have hrv : rv = .slice ra' 8 rc' := by rw [hrv0]; simp [regs]
      clear hrv0
      subst hrv
      clear KP AD BD N1d CL bv iv
      refine wpAnyT_take (i := 14) (oi := { dst := some 22, op := Op.build 33 #[(0, Operand.tmp 12), (1, Operand.tmp 16), (2, Operand.tmp 21)], type := 33, pos := "run.go:93", after := #[{ on := 4, ground := Ground.data }, { on := 8, ground := Ground.data }, { on := 13, ground := Ground.data }], guard := none }) (v := .agg #[.int .i64 (T : Int), .slice ta T tc, .slice ra' 8 rc', .slice none 0 0, .slice none 0 0]) [16] rfl (by kernel_rfl) (by kernel_rfl) (by kernel_rfl) (by kernel_rfl) (fun _ _ _ h => h) (Or.inl ⟨by rfl, ?_⟩) KP2.out ?_
      · intro wq hSw
        obtain ⟨y0, y1⟩ := hSw
        go_simp
      (try simp only [Act.put, List.setIfInBounds_toArray, List.set_cons_zero, List.set_cons_succ])
      refine wpAnyT_one (i := 15) (o := { dst := some 3, op := Op.alloc 33, type := 0, pos := "run.go:93", after := #[], guard := none }) (by kernel_rfl) rfl (fun K hK => ?_)
      go_simp
      refine hK.out _ _ (fun _ => ⟨alloc_cell _ KP2.out.1, trivial⟩) ?_
      clear hK K
      (try simp only [Act.put, List.setIfInBounds_toArray, List.set_cons_zero, List.set_cons_succ])
      refine wpAnyT_one (i := 16) (o := { dst := none, op := Op.store 33 (Operand.tmp 3) (Operand.tmp 22), type := 0, pos := "run.go:93", after := #[{ on := 15, ground := Ground.data }, { on := 14, ground := Ground.data }, { on := 13, ground := Ground.chain }, { on := 0, ground := Ground.phase }, { on := 1, ground := Ground.phase }, { on := 2, ground := Ground.phase }, { on := 3, ground := Ground.phase }, { on := 4, ground := Ground.phase }, { on := 5, ground := Ground.phase }, { on := 6, ground := Ground.phase }, { on := 7, ground := Ground.phase }, { on := 8, ground := Ground.phase }, { on := 9, ground := Ground.phase }, { on := 10, ground := Ground.phase }, { on := 11, ground := Ground.phase }, { on := 12, ground := Ground.phase }, { on := 13, ground := Ground.phase }, { on := 14, ground := Ground.phase }, { on := 15, ground := Ground.phase }], guard := none }) (by kernel_rfl) rfl (fun K hK => ?_)
      go_simp
      refine hK.out _ _ (vac (by kernel_rfl)) ?_
      clear hK K
      (try simp only [Act.put, List.setIfInBounds_toArray, List.set_cons_zero, List.set_cons_succ])
      refine wpAnyT_done (by kernel_rfl) ?_ _
      have RN := hide (rn_new A0.out A2.out B2.out N2.out iv'.out hpA.out (.cells #[.int .i64 (T : Int), .slice ta T tc, .slice ra' 8 rc', .slice none 0 0, .slice none 0 0] 33) (by rw [te, hT.out]))
      go_wp2_with fail
      go_meet
      case rel => exact ⟨_, rfl, _, RN.out⟩
    · go_simp
      have bz := box_below q (.cells #[.int .i64 0, .slice none 0 0, .slice none 0 0, .slice none 0 0, .slice none 0 0] 33)
      have KP1 : Hid ((q.alloc (.cells #[.int .i64 0, .slice none 0 0, .slice none 0 0, .slice none 0 0, .slice none 0 0] 33)).cell? ⟨rb, 22, none⟩ = some (.slice ta T tc) ∧ True) := ⟨alloc_cell _ KP.out.1, trivial⟩
      refine hK.out _ _ (fun _ => KP1.out) ?_
      clear hK K
      (try simp only [Act.put, List.setIfInBounds_toArray, List.set_cons_zero, List.set_cons_succ])
      have AE := hide (AD.out.below bz)
      have BE := hide (keepF BD.out bz)
      have N1e := hide ((bz.block pA (heap_lt N1d.out)).trans N1d.out)
      have NZ := hide (heap_alloc_new q (.cells #[.int .i64 0, .slice none 0 0, .slice none 0 0, .slice none 0 0, .slice none 0 0] 33))
      have hpq : Hid (pA < q.heap.size) := heap_lt N1d.out
      clear AD BD N1d KP bz
      generalize q.alloc (.cells #[.int .i64 0, .slice none 0 0, .slice none 0 0, .slice none 0 0, .slice none 0 0] 33) = q1 at *
      generalize q.heap.size = g at *
      refine wpAnyT_one (i := 13) (o := { dst := some 21, op := Op.call { callee := Callee.value (Operand.func 45), args := #[Operand.tmp 20], argTypes := #[29] }, type := 29, pos := "run.go:93", after := #[{ on := 12, ground := Ground.data }], guard := none }) (by kernel_rfl) rfl (fun K hK => ?_)
      have CL := hide (clone_i q1 (.slice (some ⟨rb, 14, none⟩) 8 8) (regs S) (AE.out.regs) (by simp [regs]))
      go_simp
      go_at_call 45
      refine CL.out.mono ?_
      rintro e q2 ⟨rv, rfl, iv, bv⟩
      (try go_simp)
      have KP2 : Hid (q2.cell? ⟨rb, 22, none⟩ = some (.slice ta T tc) ∧ True) := ⟨(bv.cell (lt_of_cell KP1.out.1)).trans KP1.out.1, trivial⟩
      refine hK.out _ _ (fun _ => KP2.out) ?_
      clear hK K
      (try simp only [Act.put, List.setIfInBounds_toArray, List.set_cons_zero, List.set_cons_succ])
      have A2 := hide (AE.out.below bv)
      have B2 := hide (keepF BE.out bv)
      have N2 := hide ((bv.block pA (heap_lt N1e.out)).trans N1e.out)
      have NG := (bv.block g (heap_lt NZ.out)).trans NZ.out
      have iv' : Hid (Iw (g + 1) q2 rv (regs S)) := iw_low iv (heap_lt NZ.out)
      obtain ⟨ra', rc', hrv0, -⟩ := own_form iv
      have hrv : rv = .slice ra' 8 rc' := by rw [hrv0]; simp [regs]
      clear hrv0
      subst hrv
      have z0 : q2.cell? ⟨g, 0, none⟩ = some (.int .i64 0) := by rw [cell_of NG]; rfl
      have z1 : q2.cell? ⟨g, 1, none⟩ = some (.slice none 0 0) := by rw [cell_of NG]; rfl
      have z2 : q2.cell? ⟨g, 2, none⟩ = some (.slice none 0 0) := by rw [cell_of NG]; rfl
      have z3 : q2.cell? ⟨g, 3, none⟩ = some (.slice none 0 0) := by rw [cell_of NG]; rfl
      have z4 : q2.cell? ⟨g, 4, none⟩ = some (.slice none 0 0) := by rw [cell_of NG]; rfl
      have x0 : q2.frozen? ⟨g, 0, none⟩ = false := frz_of NG
      have x1 : q2.frozen? ⟨g, 1, none⟩ = false := frz_of NG
      have x2 : q2.frozen? ⟨g, 2, none⟩ = false := frz_of NG
      have x3 : q2.frozen? ⟨g, 3, none⟩ = false := frz_of NG
      have x4 : q2.frozen? ⟨g, 4, none⟩ = false := frz_of NG
      have NGh := hide NG
      clear KP1 AE BE N1e CL bv iv NG NZ
      refine wpAnyT_take (i := 14) (oi := { dst := some 22, op := Op.build 33 #[(0, Operand.tmp 12), (1, Operand.tmp 16), (2, Operand.tmp 21)], type := 33, pos := "run.go:93", after := #[{ on := 4, ground := Ground.data }, { on := 8, ground := Ground.data }, { on := 13, ground := Ground.data }], guard := none }) (v := .agg #[.int .i64 (T : Int), .slice ta T tc, .slice ra' 8 rc', .slice none 0 0, .slice none 0 0]) [16] rfl (by kernel_rfl) (by kernel_rfl) (by kernel_rfl) (by kernel_rfl) (fun _ _ _ h => h) (Or.inl ⟨by rfl, ?_⟩) KP2.out ?_
      · intro wq hSw
        obtain ⟨y0, y1⟩ := hSw
        go_simp
      (try simp only [Act.put, List.setIfInBounds_toArray, List.set_cons_zero, List.set_cons_succ])
      refine wpAnyT_one (i := 16) (o := { dst := none, op := Op.store 33 (Operand.tmp 3) (Operand.tmp 22), type := 0, pos := "run.go:93", after := #[{ on := 15, ground := Ground.data }, { on := 14, ground := Ground.data }, { on := 13, ground := Ground.chain }, { on := 0, ground := Ground.phase }, { on := 1, ground := Ground.phase }, { on := 2, ground := Ground.phase }, { on := 3, ground := Ground.phase }, { on := 4, ground := Ground.phase }, { on := 5, ground := Ground.phase }, { on := 6, ground := Ground.phase }, { on := 7, ground := Ground.phase }, { on := 8, ground := Ground.phase }, { on := 9, ground := Ground.phase }, { on := 10, ground := Ground.phase }, { on := 11, ground := Ground.phase }, { on := 12, ground := Ground.phase }, { on := 13, ground := Ground.phase }, { on := 14, ground := Ground.phase }, { on := 15, ground := Ground.phase }], guard := none }) (by kernel_rfl) rfl (fun K hK => ?_)
      go_simp
      refine hK.out _ _ (vac (by kernel_rfl)) ?_
      clear hK K
      (try simp only [Act.put, List.setIfInBounds_toArray, List.set_cons_zero, List.set_cons_succ])
      refine wpAnyT_done (by kernel_rfl) ?_ _
      have RN := hide (rn_old A0.out A2.out B2.out N2.out iv'.out hpA.out hpq.out NGh.out (.int .i64 (T : Int)) (.slice ta T tc) (by rw [hT.out]) te)
      go_wp2_with fail
      go_meet
      case rel => exact ⟨_, rfl, _, RN.out⟩
  case rest =>
    obtain ⟨g, rfl, rv, RN⟩ := hcut
    have c0 := RN.out.at_.rcell.1
    rw [hnn.out] at c0
    go_upto_region 3 with fail
    clear c0
    go_loopw [28] (fun s wr => ∃ (i : Nat) (ev : Value), s = .int .i64 (i : Int) ∧ i ≤ n ∧ Hid (Rn w0 w us rb X S wr pA g rv ev (.slice none 0 0) [] (endsI S i) [])) (fun s wr => n - (intOf s).toNat)
    case atStart => exact ⟨0, _, rfl, Nat.zero_le _, RN.out⟩
    case round =>
    obtain ⟨i, ev, rfl, hin, hst⟩ := hrel
    by_cases hlt : i < n
    · have i1 : (i : Int) < (n : Int) := by omega
      obtain ⟨t, ht0⟩ : ∃ t, S.tk[i]? = some t := ⟨_, List.getElem?_eq_getElem (by rw [hnn.out]; exact hlt)⟩
      have ht := hide ht0
      have hel : Hid ((endsI S i).length = i) := endsI_len (by rw [hnn.out]; exact hin)
      obtain ⟨ea, ec, hev, -⟩ := own_form hst.out.en
      rw [hel.out] at hev
      subst hev
      have c0 := hst.out.at_.rcell.1
      rw [hnn.out] at c0
      clear ht0 RN
      go_upto_region 6 with fail
      clear c0
      have bq : Below wr.heap.size wr wr.drew := (Below.refl _ _).drew
      have RD := hide (hst.out.below bq)
      have r3 : wr.drew.cell? ⟨g, 3, none⟩ = some (.slice ea i ec) := by rw [cell_of RD.out.rn]; rfl
      have KP : Hid (wr.drew.cell? ⟨g, 3, none⟩ = some (.slice ea i ec) ∧ wr.drew.cell? ⟨X.tb, i * 7 + 6, none⟩ = some (.int .i64 t.wt)) := ⟨r3, (RD.out.at_.tcell ht.out).2.2.2.2.2.2⟩
      clear bq hst r3
      refine wp_region_T (fun q => q.cell? ⟨g, 3, none⟩ = some (.slice ea i ec) ∧ q.cell? ⟨X.tb, i * 7 + 6, none⟩ = some (.int .i64 t.wt)) 13 (by kernel_rfl) ?_
      generalize wr.drew = q at *
      refine wpAnyT_take (i := 0) (oi := { dst := some 37, op := Op.fieldAddr 33 (Operand.tmp 3) 3, type := 0, pos := "run.go:96", after := #[], guard := none }) (v := .pointer (some ⟨g, 3, none⟩)) [1, 11, 13] rfl (by kernel_rfl) (by kernel_rfl) (by kernel_rfl) (by kernel_rfl) (fun _ _ _ h => h) (Or.inl ⟨by rfl, ?_⟩) KP.out ?_
      · intro wq hSw
        obtain ⟨y0, y1⟩ := hSw
        go_simp
      (try simp only [Act.put, List.setIfInBounds_toArray, List.set_cons_zero, List.set_cons_succ])
      refine wpAnyT_take (i := 1) (oi := { dst := some 38, op := Op.load 30 (Operand.tmp 37), type := 30, pos := "run.go:96", after := #[{ on := 0, ground := Ground.data }], guard := none }) (v := .slice ea i ec) [11, 13] rfl (by kernel_rfl) (by kernel_rfl) (by kernel_rfl) (by kernel_rfl) (fun _ _ _ h => h) (Or.inl ⟨by rfl, ?_⟩) KP.out ?_
      · intro wq hSw
        obtain ⟨y0, y1⟩ := hSw
        go_simp
      (try simp only [Act.put, List.setIfInBounds_toArray, List.set_cons_zero, List.set_cons_succ])
      refine wpAnyT_take (i := 2) (oi := { dst := some 39, op := Op.move (Operand.tmp 0), type := 73, pos := "run.go:96", after := #[], guard := none }) (v := .pointer (some ⟨rb, 0, none⟩)) [4, 9, 10, 11, 13] rfl (by kernel_rfl) (by kernel_rfl) (by kernel_rfl) (by kernel_rfl) (fun _ _ _ h => h) (Or.inl ⟨by rfl, ?_⟩) KP.out ?_
      · intro wq hSw
        obtain ⟨y0, y1⟩ := hSw
        go_simp
      (try simp only [Act.put, List.setIfInBounds_toArray, List.set_cons_zero, List.set_cons_succ])
      refine wpAnyT_take (i := 3) (oi := { dst := some 40, op := Op.move (Operand.tmp 5), type := 90, pos := "run.go:96", after := #[], guard := none }) (v := .pointer (some ⟨X.tb, i * 7, none⟩)) [4, 9, 10, 11, 13] rfl (by kernel_rfl) (by kernel_rfl) (by kernel_rfl) (by kernel_rfl) (fun _ _ _ h => h) (Or.inl ⟨by rfl, ?_⟩) KP.out ?_
      · intro wq hSw
        obtain ⟨y0, y1⟩ := hSw
        go_simp
      (try simp only [Act.put, List.setIfInBounds_toArray, List.set_cons_zero, List.set_cons_succ])
      refine wpAnyT_take (i := 5) (oi := { dst := some 42, op := Op.move (Operand.tmp 5), type := 90, pos := "run.go:96", after := #[], guard := none }) (v := .pointer (some ⟨X.tb, i * 7, none⟩)) [6, 7, 8, 9, 10, 11, 13] rfl (by kernel_rfl) (by kernel_rfl) (by kernel_rfl) (by kernel_rfl) (fun _ _ _ h => h) (Or.inl ⟨by rfl, ?_⟩) KP.out ?_
      · intro wq hSw
        obtain ⟨y0, y1⟩ := hSw
        go_simp
      (try simp only [Act.put, List.setIfInBounds_toArray, List.set_cons_zero, List.set_cons_succ])
      refine wpAnyT_take (i := 6) (oi := { dst := some 43, op := Op.nilCheck (Operand.tmp 42), type := 0, pos := "run.go:96", after := #[{ on := 5, ground := Ground.data }], guard := none }) (v := .pointer (some ⟨X.tb, i * 7, none⟩)) [7, 8, 9, 10, 11, 13] rfl (by kernel_rfl) (by kernel_rfl) (by kernel_rfl) (by kernel_rfl) (fun _ _ _ h => h) (Or.inl ⟨by rfl, ?_⟩) KP.out ?_
      · intro wq hSw
        obtain ⟨y0, y1⟩ := hSw
        go_simp
      (try simp only [Act.put, List.setIfInBounds_toArray, List.set_cons_zero, List.set_cons_succ])
      refine wpAnyT_take (i := 7) (oi := { dst := some 44, op := Op.fieldAddr 98 (Operand.tmp 43) 6, type := 0, pos := "run.go:96", after := #[{ on := 6, ground := Ground.data }], guard := none }) (v := .pointer (some ⟨X.tb, i * 7 + 6, none⟩)) [8, 9, 10, 11, 13] rfl (by kernel_rfl) (by kernel_rfl) (by kernel_rfl) (by kernel_rfl) (fun _ _ _ h => h) (Or.inl ⟨by rfl, ?_⟩) KP.out ?_
      · intro wq hSw
        obtain ⟨y0, y1⟩ := hSw
        go_simp
      (try simp only [Act.put, List.setIfInBounds_toArray, List.set_cons_zero, List.set_cons_succ])
      refine wpAnyT_take (i := 8) (oi := { dst := some 45, op := Op.load 2 (Operand.tmp 44), type := 2, pos := "run.go:96", after := #[{ on := 7, ground := Ground.data }], guard := none }) (v := .int .i64 t.wt) [9, 10, 11, 13] rfl (by kernel_rfl) (by kernel_rfl) (by kernel_rfl) (by kernel_rfl) (fun _ _ _ h => h) (Or.inl ⟨by rfl, ?_⟩) KP.out ?_
      · intro wq hSw
        obtain ⟨y0, y1⟩ := hSw
        go_simp
      (try simp only [Act.put, List.setIfInBounds_toArray, List.set_cons_zero, List.set_cons_succ])
      refine wpAnyT_one (i := 4) (o := { dst := some 41, op := Op.call { callee := Callee.value (Operand.func 46), args := #[Operand.tmp 39, Operand.tmp 40], argTypes := #[73, 90] }, type := 3, pos := "run.go:96", after := #[{ on := 2, ground := Ground.data }, { on := 3, ground := Ground.data }], guard := none }) (by kernel_rfl) rfl (fun K hK => ?_)
      have HW := hide (how_any w0 q us rb X S RD.out.at_ OK.out ht.out)
      go_simp
      go_at_call 46
      refine HW.out.mono ?_
      rintro e q2 ⟨rfl, bv⟩
      (try go_simp)
      have KP2 : Hid (q2.cell? ⟨g, 3, none⟩ = some (.slice ea i ec) ∧ q2.cell? ⟨X.tb, i * 7 + 6, none⟩ = some (.int .i64 t.wt)) := ⟨(bv.cell (lt_of_cell KP.out.1)).trans KP.out.1, (bv.cell (lt_of_cell KP.out.2)).trans KP.out.2⟩
      refine hK.out _ _ (fun _ => KP2.out) ?_
      clear hK K
      (try simp only [Act.put, List.setIfInBounds_toArray, List.set_cons_zero, List.set_cons_succ])
      have RD2 := hide (RD.out.below bv)
      obtain ⟨hw, hhw⟩ : ∃ hw, Hid (howS S t = hw) := ⟨_, rfl⟩
      rw [hhw.out]
      clear HW RD KP bv
      refine wpAnyT_take (i := 9) (oi := { dst := some 46, op := Op.build 49 #[(0, Operand.tmp 41), (1, Operand.tmp 45)], type := 49, pos := "run.go:96", after := #[{ on := 4, ground := Ground.data }, { on := 8, ground := Ground.data }], guard := none }) (v := .agg #[.int .i64 hw, .int .i64 t.wt]) [10, 11, 13] rfl (by kernel_rfl) (by kernel_rfl) (by kernel_rfl) (by kernel_rfl) (fun _ _ _ h => h) (Or.inl ⟨by rfl, ?_⟩) KP2.out ?_
      · intro wq hSw
        obtain ⟨y0, y1⟩ := hSw
        go_simp
      (try simp only [Act.put, List.setIfInBounds_toArray, List.set_cons_zero, List.set_cons_succ])
      refine wpAnyT_one (i := 10) (o := { dst := some 47, op := Op.buildSlice 30 1 #[(0, Operand.tmp 46)], type := 30, pos := "run.go:96", after := #[{ on := 9, ground := Ground.data }], guard := none }) (by kernel_rfl) rfl (fun K hK => ?_)
      go_simp
      refine hK.out _ _ (fun _ => ⟨alloc_cell _ KP2.out.1, alloc_cell _ KP2.out.2⟩) ?_
      clear hK K
      (try simp only [Act.put, List.setIfInBounds_toArray, List.set_cons_zero, List.set_cons_succ])
      have B3 := box_below q2 (.cells #[.int .i64 hw, .int .i64 t.wt] 49)
      have c0 : (q2.alloc (.cells #[.int .i64 hw, .int .i64 t.wt] 49)).cell? ⟨q2.heap.size, 0, none⟩ = some (.int .i64 hw) := by rw [cell_of (heap_alloc_new q2 (.cells #[.int .i64 hw, .int .i64 t.wt] 49))]; rfl
      have c1 : (q2.alloc (.cells #[.int .i64 hw, .int .i64 t.wt] 49)).cell? ⟨q2.heap.size, 1, none⟩ = some (.int .i64 t.wt) := by rw [cell_of (heap_alloc_new q2 (.cells #[.int .i64 hw, .int .i64 t.wt] 49))]; rfl
      have R4 := RD2.out.below B3
      have KW : Hid ((q2.alloc (.cells #[.int .i64 hw, .int .i64 t.wt] 49)).cell? ⟨X.tb, i * 7 + 6, none⟩ = some (.int .i64 t.wt)) := alloc_cell _ KP2.out.2
      clear KP2 RD2 B3
      generalize q2.alloc (.cells #[.int .i64 hw, .int .i64 t.wt] 49) = q4 at *
      generalize q2.heap.size = g3 at *
      obtain ⟨v', q5, r4, M4, G4, X4⟩ := run_appE (hw, t.wt) g3 R4.en c0 c1 (by have := hel.out; omega) (R4.lw.size) 30
      obtain ⟨Z1, Z2, Z3⟩ := R4.addE G4 M4 X4
      have ZZ : Hid (Rn w0 w us rb X S (q5.setCell ⟨g, 3, none⟩ v') pA g rv v' (.slice none 0 0) [] (endsI S (i + 1)) []) := by
        rw [endsI_succ ht.out, hhw.out]
        exact Z1
      have K4 : Hid (q5.cell? ⟨g, 3, none⟩ = some (.slice ea i ec) ∧ q5.cell? ⟨X.tb, i * 7 + 6, none⟩ = some (.int .i64 t.wt)) := by
        refine ⟨Z2, ?_⟩
        refine (World.cell?_of_block (G4.block X.tb (R4.at_.lt _ ⟨1, rfl⟩) fun e => ?_)).trans KW.out
        have h1 := R4.own X.tb ⟨1, rfl⟩
        have h2 := R4.lo 3 X.tb e.symm
        omega
      obtain ⟨a7, c7, e7, -⟩ := own_form M4
      rw [hel.out] at e7
      subst e7
      clear R4 M4 G4 X4 Z1 Z2 c0 c1 KW
      replace r4 := hide r4
      refine wpAnyT_one (i := 11) (o := { dst := some 48, op := Op.call { callee := Callee.builtin Builtin.append, args := #[Operand.tmp 38, Operand.tmp 47], argTypes := #[30, 30] }, type := 30, pos := "run.go:96", after := #[{ on := 1, ground := Ground.data }, { on := 10, ground := Ground.data }, { on := 4, ground := Ground.chain }], guard := none }) (by kernel_rfl) rfl (fun K hK => ?_)
      rw [if_pos (by simp [Region.wanted])]
      refine Lib.wp_append_run _ (.tmp 38) (.tmp 47) 30 30 rfl (.slice ea i ec) (.slice (some ⟨g3, 0, none⟩) 1 1) (by simp [Act.eval]) (by simp [Act.eval]) _ q5 r4.out ?_
      refine hK.out _ _ (fun _ => K4.out) ?_
      clear hK K
      (try simp only [Act.put, List.setIfInBounds_toArray, List.set_cons_zero, List.set_cons_succ])
      refine wpAnyT_one (i := 12) (o := { dst := some 49, op := Op.fieldAddr 33 (Operand.tmp 3) 3, type := 0, pos := "run.go:96", after := #[{ on := 0, ground := Ground.phase }, { on := 1, ground := Ground.phase }, { on := 2, ground := Ground.phase }, { on := 3, ground := Ground.phase }, { on := 4, ground := Ground.phase }, { on := 5, ground := Ground.phase }, { on := 6, ground := Ground.phase }, { on := 7, ground := Ground.phase }, { on := 8, ground := Ground.phase }, { on := 9, ground := Ground.phase }, { on := 10, ground := Ground.phase }, { on := 11, ground := Ground.phase }], guard := none }) (by kernel_rfl) rfl (fun K hK => ?_)
      go_simp
      refine hK.out _ _ (fun _ => K4.out) ?_
      clear hK K
      (try simp only [Act.put, List.setIfInBounds_toArray, List.set_cons_zero, List.set_cons_succ])
      have k4 := K4.out.1
      clear K4 r4
      refine wpAnyT_one (i := 13) (o := { dst := none, op := Op.store 30 (Operand.tmp 49) (Operand.tmp 48), type := 0, pos := "run.go:96", after := #[{ on := 12, ground := Ground.data }, { on := 11, ground := Ground.data }, { on := 11, ground := Ground.chain }, { on := 0, ground := Ground.phase }, { on := 1, ground := Ground.phase }, { on := 2, ground := Ground.phase }, { on := 3, ground := Ground.phase }, { on := 4, ground := Ground.phase }, { on := 5, ground := Ground.phase }, { on := 6, ground := Ground.phase }, { on := 7, ground := Ground.phase }, { on := 8, ground := Ground.phase }, { on := 9, ground := Ground.phase }, { on := 10, ground := Ground.phase }, { on := 11, ground := Ground.phase }], guard := none }) (by kernel_rfl) rfl (fun K hK => ?_)
      go_simp
      refine hK.out _ _ (vac (by kernel_rfl)) ?_
      clear hK K
      (try simp only [Act.put, List.setIfInBounds_toArray, List.set_cons_zero, List.set_cons_succ])
      refine wpAnyT_done (by kernel_rfl) ?_ _
      clear Z3 k4
      generalize q5.setCell ⟨g, 3, none⟩ (.slice a7 (i + 1) c7) = q6 at *
      go_wp2_with fail
      go_roundw
      case rel => exact ⟨i + 1, _, by go_num, hlt, ZZ.out⟩
      case measure => simp only [intOf]; omega
    · obtain rfl : i = n := by omega
      have i1 : ¬ (i : Int) < (i : Int) := by omega
      obtain ⟨E, hE⟩ : ∃ E, Hid (endsI S i = E) := ⟨_, rfl⟩
      rw [hE.out] at hst
      have q0 := hst.out.at_.qcell (i := 0) (by decide)
      have q1 := hst.out.at_.qcell (i := 1) (by decide)
      have q2 := hst.out.at_.qcell (i := 2) (by decide)
      have q3 := hst.out.at_.qcell (i := 3) (by decide)
      clear RN
      go_upto_region 9 with fail
      clear q0 q1 q2 q3
      go_loopw [55] (fun s wr => ∃ (j : Nat) (qv : Value) (vs : List Value), s = .int .i64 (j : Int) ∧ j ≤ 4 ∧ Hid (Rn w0 w us rb X S wr pA g rv ev qv vs E (quesI S j))) (fun s wr => 4 - (intOf s).toNat)
      case atStart => exact ⟨0, _, _, rfl, by omega, hst.out⟩
      case round =>
      replace hst := hst
      clear hst i1 hin
      obtain ⟨j, qv, vs, rfl, hjn, hst⟩ := hrel
      have hvl : Hid (vs.length = j) := by show _ = _; rw [hst.out.ql.1]; simp [quesI]
      obtain ⟨qa, qc, hqv, -⟩ := own_form hst.out.qs
      rw [hvl.out] at hqv
      subst hqv
      by_cases hj : j < 4
      · have i1 : (j : Int) < 4 := by omega
        obtain ⟨xa, xc, hx⟩ := (hst.out.at_.qu j hj).form
        obtain ⟨xn, hxn⟩ : ∃ xn, Hid (((S.qu j).map (Value.int .i64)).length = xn) := ⟨_, rfl⟩
        rw [hxn.out] at hx
        have hxv := hide hx
        have hql : Hid ((S.qu j).length ≤ 100) := by show _ ≤ _; have := OK.out.qu j; have := OK.out.r2; omega
        have IX : ∀ u : World, (Instr.index 65 (.agg #[X.q 0, X.q 1, X.q 2, X.q 3]) (.int .i64 (j : Int))).run Tryd.prog u = .ok (.slice xa xn xc) u := by
          intro u
          rw [← hx]
          rw [← q4 X.q hj]
          exact ix4 _ _ _ _ _ hj u
        clear hx
        go_upto_region 11 with fail
        clear IX
        have bq : Below wr.heap.size wr wr.drew := (Below.refl _ _).drew
        have RD := hide (hst.out.below bq)
        have r3 : wr.drew.cell? ⟨g, 4, none⟩ = some (.slice qa j qc) := by rw [cell_of RD.out.rn]; rfl
        have KP : Hid (wr.drew.cell? ⟨g, 4, none⟩ = some (.slice qa j qc) ∧ True) := ⟨r3, trivial⟩
        clear bq hst r3
        refine wp_region_T (fun q => q.cell? ⟨g, 4, none⟩ = some (.slice qa j qc) ∧ True) 7 (by kernel_rfl) ?_
        generalize wr.drew = q at *
        refine wpAnyT_take (i := 0) (oi := { dst := some 58, op := Op.fieldAddr 33 (Operand.tmp 3) 4, type := 0, pos := "run.go:99", after := #[], guard := none }) (v := .pointer (some ⟨g, 4, none⟩)) [1, 5, 7] rfl (by kernel_rfl) (by kernel_rfl) (by kernel_rfl) (by kernel_rfl) (fun _ _ _ h => h) (Or.inl ⟨by rfl, ?_⟩) KP.out ?_
        · intro wq hSw
          obtain ⟨y0, y1⟩ := hSw
          go_simp
        (try simp only [Act.put, List.setIfInBounds_toArray, List.set_cons_zero, List.set_cons_succ])
        refine wpAnyT_take (i := 1) (oi := { dst := some 59, op := Op.load 31 (Operand.tmp 58), type := 31, pos := "run.go:99", after := #[{ on := 0, ground := Ground.data }], guard := none }) (v := .slice qa j qc) [5, 7] rfl (by kernel_rfl) (by kernel_rfl) (by kernel_rfl) (by kernel_rfl) (fun _ _ _ h => h) (Or.inl ⟨by rfl, ?_⟩) KP.out ?_
        · intro wq hSw
          obtain ⟨y0, y1⟩ := hSw
          go_simp
        (try simp only [Act.put, List.setIfInBounds_toArray, List.set_cons_zero, List.set_cons_succ])
        refine wpAnyT_take (i := 2) (oi := { dst := some 60, op := Op.move (Operand.tmp 7), type := 29, pos := "run.go:99", after := #[], guard := none }) (v := .slice xa xn xc) [3, 4, 5, 7] rfl (by kernel_rfl) (by kernel_rfl) (by kernel_rfl) (by kernel_rfl) (fun _ _ _ h => h) (Or.inl ⟨by rfl, ?_⟩) KP.out ?_
        · intro wq hSw
          obtain ⟨y0, y1⟩ := hSw
          go_simp
        (try simp only [Act.put, List.setIfInBounds_toArray, List.set_cons_zero, List.set_cons_succ])
        refine wpAnyT_one (i := 3) (o := { dst := some 61, op := Op.call { callee := Callee.value (Operand.func 45), args := #[Operand.tmp 60], argTypes := #[29] }, type := 29, pos := "run.go:99", after := #[{ on := 2, ground := Ground.data }], guard := none }) (by kernel_rfl) rfl (fun K hK => ?_)
        have CL := hide (clone_i q (.slice xa xn xc) (S.qu j) (sld_row (by rw [← hxv.out]; exact RD.out.at_.qu j hj)) hql.out)
        go_simp
        go_at_call 45
        refine CL.out.mono ?_
        rintro e q2 ⟨cv, rfl, iv, bv⟩
        (try go_simp)
        have KP2 : Hid (q2.cell? ⟨g, 4, none⟩ = some (.slice qa j qc) ∧ True) := ⟨(bv.cell (lt_of_cell KP.out.1)).trans KP.out.1, trivial⟩
        refine hK.out _ _ (fun _ => KP2.out) ?_
        clear hK K
        (try simp only [Act.put, List.setIfInBounds_toArray, List.set_cons_zero, List.set_cons_succ])
        obtain ⟨ya, yc, hcv, -⟩ := own_form iv
        obtain ⟨yn, hyn⟩ : ∃ yn, Hid ((S.qu j).length = yn) := ⟨_, rfl⟩
        rw [hyn.out] at hcv
        subst hcv
        have IV := hide iv
        have BV := hide bv
        clear CL KP iv bv
        refine wpAnyT_one (i := 4) (o := { dst := some 62, op := Op.buildSlice 31 1 #[(0, Operand.tmp 61)], type := 31, pos := "run.go:99", after := #[{ on := 3, ground := Ground.data }], guard := none }) (by kernel_rfl) rfl (fun K hK => ?_)
        go_simp
        refine hK.out _ _ (fun _ => ⟨alloc_cell _ KP2.out.1, trivial⟩) ?_
        clear hK K
        (try simp only [Act.put, List.setIfInBounds_toArray, List.set_cons_zero, List.set_cons_succ])
        have B3 := box_below q2 (.cells #[.slice ya yn yc] 29)
        have c0 : (q2.alloc (.cells #[.slice ya yn yc] 29)).cell? ⟨q2.heap.size, 0, none⟩ = some (.slice ya yn yc) := by rw [cell_of (heap_alloc_new q2 (.cells #[.slice ya yn yc] 29))]; rfl
        have b4 := keepF BV.out B3
        have I4 := row_below IV.out B3
        have R4 := RD.out.below b4
        clear KP2 BV IV B3
        generalize q2.alloc (.cells #[.slice ya yn yc] 29) = q4 at *
        generalize q2.heap.size = g3 at *
        obtain ⟨v', q5, r4, M4, G4, X4⟩ := run_appW (.slice ya yn yc) rfl g3 R4.qs c0 (by have := hvl.out; omega) (R4.lw.size) 31
        obtain ⟨Z1, Z2, Z3⟩ := RD.out.addQ b4 I4 G4 M4 X4
        have ZZ : Hid (Rn w0 w us rb X S (q5.setCell ⟨g, 4, none⟩ v') pA g rv ev v' (vs ++ [.slice ya yn yc]) E (quesI S (j + 1))) := by
          rw [quesI_succ]
          exact Z1
        have K4 : Hid (q5.cell? ⟨g, 4, none⟩ = some (.slice qa j qc) ∧ True) := ⟨Z2, trivial⟩
        obtain ⟨a7, c7, e7, -⟩ := own_form M4
        rw [hvl.out] at e7
        subst e7
        clear RD R4 M4 G4 X4 Z1 Z2 c0 b4 I4
        replace r4 := hide r4
        refine wpAnyT_one (i := 5) (o := { dst := some 63, op := Op.call { callee := Callee.builtin Builtin.append, args := #[Operand.tmp 59, Operand.tmp 62], argTypes := #[31, 31] }, type := 31, pos := "run.go:99", after := #[{ on := 1, ground := Ground.data }, { on := 4, ground := Ground.data }, { on := 3, ground := Ground.chain }], guard := none }) (by kernel_rfl) rfl (fun K hK => ?_)
        rw [if_pos (by simp [Region.wanted])]
        refine Lib.wp_append_run _ (.tmp 59) (.tmp 62) 31 31 rfl (.slice qa j qc) (.slice (some ⟨g3, 0, none⟩) 1 1) (by simp [Act.eval]) (by simp [Act.eval]) _ q5 r4.out ?_
        refine hK.out _ _ (fun _ => K4.out) ?_
        clear hK K
        (try simp only [Act.put, List.setIfInBounds_toArray, List.set_cons_zero, List.set_cons_succ])
        refine wpAnyT_one (i := 6) (o := { dst := some 64, op := Op.fieldAddr 33 (Operand.tmp 3) 4, type := 0, pos := "run.go:99", after := #[{ on := 0, ground := Ground.phase }, { on := 1, ground := Ground.phase }, { on := 2, ground := Ground.phase }, { on := 3, ground := Ground.phase }, { on := 4, ground := Ground.phase }, { on := 5, ground := Ground.phase }], guard := none }) (by kernel_rfl) rfl (fun K hK => ?_)
        go_simp
        refine hK.out _ _ (fun _ => K4.out) ?_
        clear hK K
        (try simp only [Act.put, List.setIfInBounds_toArray, List.set_cons_zero, List.set_cons_succ])
        have k4 := K4.out.1
        clear K4 r4
        refine wpAnyT_one (i := 7) (o := { dst := none, op := Op.store 31 (Operand.tmp 64) (Operand.tmp 63), type := 0, pos := "run.go:99", after := #[{ on := 6, ground := Ground.data }, { on := 5, ground := Ground.data }, { on := 5, ground := Ground.chain }, { on := 0, ground := Ground.phase }, { on := 1, ground := Ground.phase }, { on := 2, ground := Ground.phase }, { on := 3, ground := Ground.phase }, { on := 4, ground := Ground.phase }, { on := 5, ground := Ground.phase }], guard := none }) (by kernel_rfl) rfl (fun K hK => ?_)
        go_simp
        refine hK.out _ _ (vac (by kernel_rfl)) ?_
        clear hK K
        (try simp only [Act.put, List.setIfInBounds_toArray, List.set_cons_zero, List.set_cons_succ])
        refine wpAnyT_done (by kernel_rfl) ?_ _
        clear Z3 k4
        generalize q5.setCell ⟨g, 4, none⟩ (.slice a7 (j + 1) c7) = q6 at *
        go_wp2_with fail
        go_roundw
        case rel => exact ⟨j + 1, _, _, by go_num, hj, ZZ.out⟩
        case measure => simp only [intOf]; omega
      · obtain rfl : j = 4 := by omega
        have i1 : ¬ ((4 : Nat) : Int) < 4 := by omega
        have NN := hst.out.rn
        rw [te, hT.out] at NN
        obtain ⟨r1, r2, hr, -⟩ := own_form hst.out.rg
        obtain ⟨y1, y2, hy, -⟩ := own_form hst.out.en
        have FIN := hide hst.out.rt
        rw [hr, hy] at NN FIN
        have PP := hst.out.bx
        have e0 : wr.cell? ⟨g, 0, none⟩ = some (.int .i64 (T : Int)) := by rw [cell_of NN]; rfl
        have e1 : wr.cell? ⟨g, 1, none⟩ = some (.slice ta T tc) := by rw [cell_of NN]; rfl
        have e2 : wr.cell? ⟨g, 2, none⟩ = some (.slice r1 (regs S).length r2) := by rw [cell_of NN]; rfl
        have e3 : wr.cell? ⟨g, 3, none⟩ = some (.slice y1 E.length y2) := by rw [cell_of NN]; rfl
        have e4 : wr.cell? ⟨g, 4, none⟩ = some (.slice qa 4 qc) := by rw [cell_of NN]; rfl
        have z0 : wr.cell? ⟨pA, 0, none⟩ = some (.int .i64 0) := by rw [cell_of PP]; rfl
        have z1 : wr.cell? ⟨pA, 1, none⟩ = some (.slice none 0 0) := by rw [cell_of PP]; rfl
        have z2 : wr.cell? ⟨pA, 2, none⟩ = some (.slice none 0 0) := by rw [cell_of PP]; rfl
        have z3 : wr.cell? ⟨pA, 3, none⟩ = some (.slice none 0 0) := by rw [cell_of PP]; rfl
        have z4 : wr.cell? ⟨pA, 4, none⟩ = some (.slice none 0 0) := by rw [cell_of PP]; rfl
        have x0 : wr.frozen? ⟨pA, 0, none⟩ = false := frz_of PP
        have x1 : wr.frozen? ⟨pA, 1, none⟩ = false := frz_of PP
        have x2 : wr.frozen? ⟨pA, 2, none⟩ = false := frz_of PP
        have x3 : wr.frozen? ⟨pA, 3, none⟩ = false := frz_of PP
        have x4 : wr.frozen? ⟨pA, 4, none⟩ = false := frz_of PP
        have PH := hide (put5_heap PP (.int .i64 (T : Int)) (.slice ta T tc) (.slice r1 (regs S).length r2) (.slice y1 E.length y2) (.slice qa 4 qc))
        obtain ⟨GL, hGL⟩ : ∃ GL, Hid ((regs S).length = GL) := ⟨_, rfl⟩
        obtain ⟨EL, hEL⟩ : ∃ EL, Hid (E.length = EL) := ⟨_, rfl⟩
        have F2 : Hid (Rt w0.heap.size (put5 wr pA (.int .i64 (T : Int)) (.slice ta T tc) (.slice r1 (regs S).length r2) (.slice y1 E.length y2) (.slice qa 4 qc)) X.t (.slice r1 (regs S).length r2) (.slice y1 E.length y2) (.slice qa 4 qc) vs S.tr (regs S) (endsI S i) (quesI S 4) ∧ Below w0.heap.size w0 (put5 wr pA (.int .i64 (T : Int)) (.slice ta T tc) (.slice r1 (regs S).length r2) (.slice y1 E.length y2) (.slice qa 4 qc))) := by
          show _ ∧ _
          rw [hE.out]
          exact FIN.out _ _ _ _ _
        rw [te] at F2
        clear NN PP FIN hst hr hy hvl
        simp only [hGL.out, hEL.out] at e2 e3 F2 PH
        go_wp2_with fail
        show bodyPost _ _ _ _ _ (put5 wr pA (.int .i64 (T : Int)) (.slice ta T tc) (.slice r1 GL r2) (.slice y1 EL y2) (.slice qa 4 qc))
        generalize put5 wr pA (.int .i64 (T : Int)) (.slice ta T tc) (.slice r1 GL r2) (.slice y1 EL y2) (.slice qa 4 qc) = w5 at *
        have k0 : w5.cell? ⟨pA, 0, none⟩ = some (.int .i64 (T : Int)) := by rw [cell_of PH.out]; rfl
        have k1 : w5.cell? ⟨pA, 1, none⟩ = some (.slice ta T tc) := by rw [cell_of PH.out]; rfl
        have k2 : w5.cell? ⟨pA, 2, none⟩ = some (.slice r1 GL r2) := by rw [cell_of PH.out]; rfl
        have k3 : w5.cell? ⟨pA, 3, none⟩ = some (.slice y1 EL y2) := by rw [cell_of PH.out]; rfl
        have k4 : w5.cell? ⟨pA, 4, none⟩ = some (.slice qa 4 qc) := by rw [cell_of PH.out]; rfl
        refine bodyPost_ret (by simp [results, Tryd.results34, go_sem, k0, k1, k2, k3, k4]; rfl) rfl ?_
        exact ⟨_, _, _, rfl, ⟨vs, F2.out.1⟩, F2.out.2⟩
end Go.Proofs.YtdbhfeiibcpcaaaDoor.Sd

/-
  Run, Ready.
-/
namespace Go.Proofs.YtdbhfeiibcpcaaaDoor.Sd
open Go.RowKit
set_option linter.unusedVariables false
set_option linter.unusedSimpArgs false
set_option maxRecDepth 100000
section
variable {B : Nat} {w w' : World} {tv rv ev qv : Value} {vs : List Value} {tr : List (Nat × Nat)} {rg : List Int} {E : List (Int × Int)} {L : List (List Int)}
theorem Rt.lo (h : Rt B w tv rv ev qv vs tr rg E L) : ∀ i k, tbl tv.ownBlock none rv ev qv vs i = some k → B ≤ k ∧ k < w.heap.size := by
  intro i k hk
  match i with
  | 0 => exact World.ownsRow.lt h.tr k hk
  | 1 => cases hk
  | 2 => exact World.ownsRow.lt h.rg k hk
  | 3 => exact World.ownsRow.lt h.en k hk
  | 4 => exact World.ownsRow.lt h.qs k hk
  | n + 5 =>
    have hk' : (vs[n]?).bind Value.ownBlock = some k := hk
    cases hv : vs[n]? with
    | none => rw [hv] at hk'; cases hk'
    | some v =>
      rw [hv] at hk'
      have hl : n < L.length := by rw [← h.ql.1]; exact (List.getElem?_eq_some_iff.1 hv).1
      exact World.ownsRow.lt (h.ql.2 n v _ hv (List.getElem?_eq_getElem hl)) k hk'
theorem Rt.vsb (h : Rt B w tv rv ev qv vs tr rg E L) {n : Nat} {v : Value} (hv : vs[n]? = some v) {k : Nat} (hk : v.ownBlock = some k) : tbl tv.ownBlock none rv ev qv vs (n + 5) = some k := by
  show (vs[n]?).bind Value.ownBlock = some k
  rw [hv]; exact hk
theorem Rt.but {Y : Nat → Prop} (h : Rt B w tv rv ev qv vs tr rg E L) (hb : But Y w w') (hY : ∀ k, Y k → k < B ∨ w.heap.size ≤ k) : Rt B w' tv rv ev qv vs tr rg E L := by
  have hno : ∀ i k, tbl tv.ownBlock none rv ev qv vs i = some k → ¬ Y k := fun i k hk c => by
    have := h.lo i k hk
    rcases hY k c with e | e <;> omega
  exact ⟨ownsRow_but h.tr hb fun k hk => hno 0 k hk, ownsRow_but h.rg hb fun k hk => hno 2 k hk, ownsRow_but h.en hb fun k hk => hno 3 k hk, ownsRow_but h.qs hb fun k hk => hno 4 k hk, ⟨h.ql.1, fun j v l h1 h2 => ownsRow_but (h.ql.2 j v l h1 h2) hb fun k hk => hno (j + 5) k (h.vsb h1 hk)⟩, h.dis⟩
theorem Rt.below (h : Rt B w tv rv ev qv vs tr rg E L) (hb : Below w.heap.size w w') : Rt B w' tv rv ev qv vs tr rg E L := h.but (But.of_below hb fun _ => False) fun _ c => c.elim
theorem Rt.low {B' : Nat} (h : Rt B w tv rv ev qv vs tr rg E L) (hb : B' ≤ B) : Rt B' w tv rv ev qv vs tr rg E L :=
  ⟨row_low h.tr hb, iw_low h.rg hb, row_low h.en hb, row_low h.qs hb, ⟨h.ql.1, fun j v l h1 h2 => iw_low (h.ql.2 j v l h1 h2) hb⟩, h.dis⟩
end
theorem rt_forms {B : Nat} {w : World} {tv rv ev qv : Value} {tr : List (Nat × Nat)} {rg : List Int} {E : List (Int × Int)} {L : List (List Int)} (h : ∃ vs, Rt B w tv rv ev qv vs tr rg E L) : ∃ r0 rn rc e0 en ec q0 qn qc, rv = .slice r0 rn rc ∧ ev = .slice e0 en ec ∧ qv = .slice q0 qn qc := by
  obtain ⟨vs, h⟩ := h
  obtain ⟨r0, rc, h1, -⟩ := own_form h.rg
  obtain ⟨e0, ec, h2, -⟩ := own_form h.en
  obtain ⟨q0, qc, h3, -⟩ := own_form h.qs
  exact ⟨r0, _, rc, e0, _, ec, q0, _, qc, h1, h2, h3⟩
def runS (ts : List (List Ac)) (room : Nat) (picks : List Int) (most : Nat) : St := playS picks most (init ts room)
theorem mayE_ok {ts : List (List Ac)} (h : mayE ts = 0) : ts.length ≤ 16 ∧ ∀ l ∈ ts, l.length ≤ 256 ∧ ∀ a ∈ l, OkA l.length a := by
  unfold mayE at h
  split at h
  · simp at h
  · next h1 =>
    split at h
    · simp at h
    · next h2 =>
      split at h
      · simp at h
      · next h3 =>
        obtain ⟨e1, e2⟩ := many_no (by simpa using h1)
        refine ⟨e1, fun l hl => ⟨e2 l hl, fun a ha => ?_⟩⟩
        have k2 : (ts.all fun l => l.all (kindB l.length)) = true := by simpa using h2
        have k3 : (ts.all fun l => l.all (useB l.length)) = true := by simpa using h3
        have k2' := List.all_eq_true.1 (List.all_eq_true.1 k2 l hl) a ha
        have k3' := List.all_eq_true.1 (List.all_eq_true.1 k3 l hl) a ha
        unfold kindB at k2'
        unfold useB at k3'
        obtain ⟨x1, x2⟩ := of_decide_eq_true k2'
        obtain ⟨y1, y2, y3, y4, y5⟩ := of_decide_eq_true k3'
        exact ⟨x1, x2, y1, y2, y3, y4, y5⟩
theorem ok_init {ts : List (List Ac)} (h : mayE ts = 0) {room : Nat} (h1 : 1 ≤ room) (h2 : room ≤ 16) : Ok (init ts room) := by
  obtain ⟨e1, e2⟩ := mayE_ok h
  have hl : (init ts room).tk.length = ts.length := by simp [init]
  refine ⟨by rw [hl]; exact e1, h1, h2, fun t ht => ?_, (fun i j c => by cases c), (fun i j c => by cases c), fun i => Nat.zero_le _, fun i => Nat.zero_le _, Nat.zero_le _⟩
  obtain ⟨l, hl, rfl⟩ := List.mem_map.1 ht
  obtain ⟨e3, e4⟩ := e2 l hl
  exact ⟨e3, e4, Nat.zero_le _, Nat.zero_le _⟩
theorem refE_ok {ts : List (List Ac)} {room : Int} {picks : List Int} {most : Int} (h : refE ts room picks most = 0) : mayE ts = 0 ∧ (∃ r : Nat, room = (r : Int) ∧ 1 ≤ r ∧ r ≤ 16) ∧ (∃ m : Nat, most = (m : Int) ∧ m ≤ 65536) ∧ picks.length ≤ 65536 ∧ ∀ k ∈ picks, 0 ≤ k := by
  unfold refE at h
  split at h
  · next h1 => exact absurd h h1
  · next h1 =>
    split at h
    · next h2 =>
      unfold argB pickB at h2
      simp only [Bool.and_eq_true, decide_eq_true_eq, List.all_eq_true] at h2
      obtain ⟨⟨a1, a2, a3, a4⟩, a5, a6⟩ := h2
      refine ⟨by simpa using h1, ⟨room.toNat, by omega, by omega, by omega⟩, ⟨most.toNat, by omega, by omega⟩, a5, a6⟩
    · simp at h
theorem run_no (w : World) (hT : Tb w) (v vp : Value) (us : List Value) (ts : List (List Ac)) (h : TksAt w v us ts) (picks : List Int) (hp : Row w vp (picks.map (Value.int .i64))) (room most : Int) (hE : refE ts room picks most ≠ 0) :
    Calls Tryd.prog 15 #[v, .int .i64 room, vp, .int .i64 most] w fun e w' => e = .returned (.tuple #[.agg #[.int .i64 0, .slice none 0 0, .slice none 0 0, .slice none 0 0, .slice none 0 0], .int .i64 (refE ts room picks most)]) ∧ Below w.heap.size w w' := by
  have hb := box_below w (.cells #[.int .i64 0, .slice none 0 0, .slice none 0 0, .slice none 0 0, .slice none 0 0] 33)
  have hN := heap_alloc_new w (.cells #[.int .i64 0, .slice none 0 0, .slice none 0 0, .slice none 0 0, .slice none 0 0] 33)
  have RF := hide (refuses_any _ (hT.below hb) v vp us ts (h.below hb) picks (Below.row hb hp) room most)
  obtain ⟨E, hEE⟩ : ∃ E, Hid (refE ts room picks most = E) := ⟨_, rfl⟩
  rw [hEE.out] at RF hE ⊢
  have hE' : (E != 0) = true := by simpa using hE
  clear h hp hT hE
  go_enter Tryd.func15, Tryd.ntmps15
  go_upto_region 1 with fail
  obtain ⟨w1, hw1⟩ : ∃ w1, Hid (w.alloc (.cells #[.int .i64 0, .slice none 0 0, .slice none 0 0, .slice none 0 0, .slice none 0 0] 33) = w1) := ⟨_, rfl⟩
  rw [hw1.out] at RF hb hN ⊢
  go_upto_region 3 with (go_at_call 31; refine RF.out.mono ?_; rintro e w2 ⟨rfl, b2⟩; have b2 := hide b2)
  have G := (b2.out.block _ (heap_lt hN)).trans hN
  have B2 := hide (keepF hb b2.out)
  obtain ⟨pb, hpb⟩ : ∃ pb, Hid (w.heap.size = pb) := ⟨_, rfl⟩
  rw [hpb.out] at G ⊢
  have z0 : w2.cell? ⟨pb, 0, none⟩ = some (.int .i64 0) := by rw [cell_of G]; rfl
  have z1 : w2.cell? ⟨pb, 1, none⟩ = some (.slice none 0 0) := by rw [cell_of G]; rfl
  have z2 : w2.cell? ⟨pb, 2, none⟩ = some (.slice none 0 0) := by rw [cell_of G]; rfl
  have z3 : w2.cell? ⟨pb, 3, none⟩ = some (.slice none 0 0) := by rw [cell_of G]; rfl
  have z4 : w2.cell? ⟨pb, 4, none⟩ = some (.slice none 0 0) := by rw [cell_of G]; rfl
  have x0 : w2.frozen? ⟨pb, 0, none⟩ = false := frz_of G
  have x1 : w2.frozen? ⟨pb, 1, none⟩ = false := frz_of G
  have x2 : w2.frozen? ⟨pb, 2, none⟩ = false := frz_of G
  have x3 : w2.frozen? ⟨pb, 3, none⟩ = false := frz_of G
  have x4 : w2.frozen? ⟨pb, 4, none⟩ = false := frz_of G
  have PH := hide (put5_heap G (.int .i64 0) (.slice none 0 0) (.slice none 0 0) (.slice none 0 0) (.slice none 0 0))
  have PB := hide (put5_but w2 pb (.int .i64 0) (.slice none 0 0) (.slice none 0 0) (.slice none 0 0) (.slice none 0 0))
  clear RF hb hN b2 G
  go_wp2_with fail
  show bodyPost _ _ _ _ _ (put5 w2 pb (.int .i64 0) (.slice none 0 0) (.slice none 0 0) (.slice none 0 0) (.slice none 0 0))
  have BB : Hid (Below w.heap.size w (put5 w2 pb (.int .i64 0) (.slice none 0 0) (.slice none 0 0) (.slice none 0 0) (.slice none 0 0))) := B2.out.trans (PB.out.below B2.out.size fun k c => by have := hpb.out; omega)
  generalize put5 w2 pb (.int .i64 0) (.slice none 0 0) (.slice none 0 0) (.slice none 0 0) (.slice none 0 0) = w5 at *
  have k0 : w5.cell? ⟨pb, 0, none⟩ = some (.int .i64 0) := by rw [cell_of PH.out]; rfl
  have k1 : w5.cell? ⟨pb, 1, none⟩ = some (.slice none 0 0) := by rw [cell_of PH.out]; rfl
  have k2 : w5.cell? ⟨pb, 2, none⟩ = some (.slice none 0 0) := by rw [cell_of PH.out]; rfl
  have k3 : w5.cell? ⟨pb, 3, none⟩ = some (.slice none 0 0) := by rw [cell_of PH.out]; rfl
  have k4 : w5.cell? ⟨pb, 4, none⟩ = some (.slice none 0 0) := by rw [cell_of PH.out]; rfl
  refine bodyPost_ret (by simp [results, Tryd.results15, go_sem, k0, k1, k2, k3, k4]; rfl) rfl ?_
  exact ⟨rfl, BB.out⟩
set_option maxHeartbeats 1000000 in
theorem run_yes (w : World) (hT : Tb w) (v vp : Value) (us : List Value) (ts : List (List Ac)) (h : TksAt w v us ts) (picks : List Int) (hp : Row w vp (picks.map (Value.int .i64))) (hp1 : ∀ k ∈ picks, k ≤ 9223372036854775807) (room most : Nat) (hE : refE ts room picks most = 0) :
    Calls Tryd.prog 15 #[v, .int .i64 (room : Int), vp, .int .i64 (most : Int)] w fun e w' => ∃ tv rv ev qv, e = .returned (.tuple #[.agg #[.int .i64 ((runS ts room picks most).tr.length : Int), tv, rv, ev, qv], .int .i64 0]) ∧ (∃ vs, Rt w.heap.size w' tv rv ev qv vs (runS ts room picks most).tr (regs (runS ts room picks most)) (endsI (runS ts room picks most) (runS ts room picks most).tk.length) (quesI (runS ts room picks most) 4)) ∧ Below w.heap.size w w' := by
  have hb := box_below w (.cells #[.int .i64 0, .slice none 0 0, .slice none 0 0, .slice none 0 0, .slice none 0 0] 33)
  have hN := heap_alloc_new w (.cells #[.int .i64 0, .slice none 0 0, .slice none 0 0, .slice none 0 0, .slice none 0 0] 33)
  have RF := hide (refuses_any _ (hT.below hb) v vp us ts (h.below hb) picks (Below.row hb hp) room most)
  rw [hE] at RF
  obtain ⟨m1, ⟨r, hr, r1, r2⟩, ⟨m, hm, m2⟩, p1, p2⟩ := refE_ok hE
  obtain rfl : room = r := by omega
  obtain rfl : most = m := by omega
  have OKI := hide (ok_init m1 r1 r2)
  have HTK := hide (h.below hb)
  have HP := hide (Below.row hb hp)
  have M2 := hide m2
  have N16 : Hid (ts.length ≤ 16) := (mayE_ok m1).1
  have HP0 : Hid (∀ k ∈ picks, 0 ≤ k ∧ k ≤ 9223372036854775807) := fun k hk => ⟨p2 k hk, hp1 k hk⟩
  obtain ⟨SS, hSS⟩ : ∃ SS, Hid (runS ts room picks most = SS) := ⟨_, rfl⟩
  rw [hSS.out]
  clear h hp hT hE hp1 m1 r1 r2 hr hm m2 p1 p2
  go_enter Tryd.func15, Tryd.ntmps15
  go_upto_region 1 with fail
  obtain ⟨w1, hw1⟩ : ∃ w1, Hid (w.alloc (.cells #[.int .i64 0, .slice none 0 0, .slice none 0 0, .slice none 0 0, .slice none 0 0] 33) = w1) := ⟨_, rfl⟩
  rw [hw1.out] at RF hb hN HTK HP ⊢
  go_upto_region 4 with (go_at_call 31; refine RF.out.mono ?_; rintro e w2 ⟨rfl, b2⟩; have b2 := hide b2)
  have G := (b2.out.block _ (heap_lt hN)).trans hN
  have B2 := hide (keepF hb b2.out)
  have BG := hide (begin_any w2 v us ts (HTK.out.below b2.out) N16.out room)
  have HP2 := hide (Below.row b2.out HP.out)
  have G2 := hide G
  clear RF HTK HP G hb hN b2
  go_upto_region 5 with (go_at_call 32; refine BG.out.mono ?_; rintro e w3 ⟨rfl, A3⟩; have A3 := hide A3)
  have PL := hide (play_any w2 w3 us (w2.heap.size + 1) (X0 w2.heap.size) (init ts room) A3.out OKI.out vp picks HP2.out HP0.out M2.out (Nat.zero_le _))
  clear BG
  go_upto_region 6 with (go_at_call 33; refine PL.out.mono ?_; rintro e w4 ⟨rfl, X1, hX1, A4, O4, S4⟩; have A4 := hide A4; have O4 := hide O4; clear S4)
  have eS : Hid (playS picks (most - (init ts room).tr.length) (init ts room) = SS) := hSS.out
  rw [eS.out] at A4 O4
  have TD := hide (told_any w2 w4 us (w2.heap.size + 1) X1 SS A4.out O4.out)
  clear PL hX1
  obtain ⟨pb, hpb⟩ : ∃ pb, Hid (w.heap.size = pb) := ⟨_, rfl⟩
  rw [hpb.out] at G2 ⊢
  have KC : Hid (∀ q, Below w2.heap.size w2 q → q.heap[pb]? = some (.cells #[.int .i64 0, .slice none 0 0, .slice none 0 0, .slice none 0 0, .slice none 0 0] 33 (0, 0))) := fun q hb => (hb.block _ (heap_lt G2.out)).trans G2.out
  obtain ⟨ta, tc, te, -, -, -⟩ := turns_form A4.out.tr
  obtain ⟨TL, hTL⟩ : ∃ TL, Hid (SS.tr.length = TL) := ⟨_, rfl⟩
  rw [hTL.out] at te
  rw [te] at TD
  simp only [hTL.out] at TD ⊢
  clear te A4 A3
  go_upto_region 9 with (go_at_call 34; refine TD.out.mono ?_; rintro e w5 ⟨rv, ev, qv, rfl, RT, b5⟩; have RT := hide RT; have b5 := hide b5; obtain ⟨r0, rn, rc, e0, en, ec, q0, qn, qc, hr, he, hq⟩ := rt_forms RT.out; subst hr; subst he; subst hq; have G := hide (KC.out _ b5.out); have z0 : w5.cell? ⟨pb, 0, none⟩ = some (.int .i64 0) := (by rw [cell_of G.out]; rfl); have z1 : w5.cell? ⟨pb, 1, none⟩ = some (.slice none 0 0) := (by rw [cell_of G.out]; rfl); have z2 : w5.cell? ⟨pb, 2, none⟩ = some (.slice none 0 0) := (by rw [cell_of G.out]; rfl); have z3 : w5.cell? ⟨pb, 3, none⟩ = some (.slice none 0 0) := (by rw [cell_of G.out]; rfl); have z4 : w5.cell? ⟨pb, 4, none⟩ = some (.slice none 0 0) := (by rw [cell_of G.out]; rfl); have x0 : w5.frozen? ⟨pb, 0, none⟩ = false := frz_of G.out; have x1 : w5.frozen? ⟨pb, 1, none⟩ = false := frz_of G.out; have x2 : w5.frozen? ⟨pb, 2, none⟩ = false := frz_of G.out; have x3 : w5.frozen? ⟨pb, 3, none⟩ = false := frz_of G.out; have x4 : w5.frozen? ⟨pb, 4, none⟩ = false := frz_of G.out)
  show bodyPost _ _ _ _ _ (put5 w5 pb (.int .i64 (TL : Int)) (.slice ta TL tc) (.slice r0 rn rc) (.slice e0 en ec) (.slice q0 qn qc))
  have PH := hide (put5_heap G.out (.int .i64 (TL : Int)) (.slice ta TL tc) (.slice r0 rn rc) (.slice e0 en ec) (.slice q0 qn qc))
  have FIN : Hid ((∃ vs, Rt w.heap.size (put5 w5 pb (.int .i64 (TL : Int)) (.slice ta TL tc) (.slice r0 rn rc) (.slice e0 en ec) (.slice q0 qn qc)) (.slice ta TL tc) (.slice r0 rn rc) (.slice e0 en ec) (.slice q0 qn qc) vs SS.tr (regs SS) (endsI SS SS.tk.length) (quesI SS 4)) ∧ Below w.heap.size w (put5 w5 pb (.int .i64 (TL : Int)) (.slice ta TL tc) (.slice r0 rn rc) (.slice e0 en ec) (.slice q0 qn qc))) := by
    have PB := put5_but w5 pb (.int .i64 (TL : Int)) (.slice ta TL tc) (.slice r0 rn rc) (.slice e0 en ec) (.slice q0 qn qc)
    have hp := heap_lt G2.out
    have hs := hpb.out
    obtain ⟨vs, R⟩ := RT.out
    have B5 : Below w.heap.size w w5 := B2.out.trans (b5.out.mono B2.out.size)
    exact ⟨⟨vs, (R.but PB fun k c => .inl (by omega)).low B2.out.size⟩, B5.trans (PB.below B5.size fun k c => by omega)⟩
  clear RT b5 G KC
  generalize put5 w5 pb (.int .i64 (TL : Int)) (.slice ta TL tc) (.slice r0 rn rc) (.slice e0 en ec) (.slice q0 qn qc) = w6 at *
  have k0 : w6.cell? ⟨pb, 0, none⟩ = some (.int .i64 (TL : Int)) := by rw [cell_of PH.out]; rfl
  have k1 : w6.cell? ⟨pb, 1, none⟩ = some (.slice ta TL tc) := by rw [cell_of PH.out]; rfl
  have k2 : w6.cell? ⟨pb, 2, none⟩ = some (.slice r0 rn rc) := by rw [cell_of PH.out]; rfl
  have k3 : w6.cell? ⟨pb, 3, none⟩ = some (.slice e0 en ec) := by rw [cell_of PH.out]; rfl
  have k4 : w6.cell? ⟨pb, 4, none⟩ = some (.slice q0 qn qc) := by rw [cell_of PH.out]; rfl
  refine bodyPost_ret (by simp [results, Tryd.results15, go_sem, k0, k1, k2, k3, k4]; rfl) rfl ?_
  exact ⟨_, _, _, _, by rw [hTL.out], FIN.out.1, FIN.out.2⟩
theorem ready_yes (w : World) (hT : Tb w) (v vp : Value) (us : List Value) (ts : List (List Ac)) (h : TksAt w v us ts) (picks : List Int) (hp : Row w vp (picks.map (Value.int .i64))) (hp1 : ∀ k ∈ picks, k ≤ 9223372036854775807) (room : Nat) (hE : refE ts room picks picks.length = 0) :
    Calls Tryd.prog 17 #[v, .int .i64 (room : Int), vp] w fun e w' => ∃ v', e = .returned (.tuple #[v', .int .i64 0]) ∧ Nms w.heap.size w' v' (ns (rdy (runS ts room picks picks.length))) ∧ Below w.heap.size w w' := by
  have HP := hide hp
  obtain ⟨pa, pc, rfl, -⟩ := hp
  have RF := hide (refuses_any w hT v _ us ts h picks HP.out room picks.length)
  rw [hE] at RF
  obtain ⟨m1, ⟨r, hr, r1, r2⟩, ⟨m, hm, m2⟩, p1, p2⟩ := refE_ok hE
  obtain rfl : room = r := by omega
  have hm' : picks.length = m := by omega
  have OKI := hide (ok_init m1 r1 r2)
  have HTK := hide h
  have N16 : Hid (ts.length ≤ 16) := (mayE_ok m1).1
  have HP0 : Hid (∀ k ∈ picks, 0 ≤ k ∧ k ≤ 9223372036854775807) := fun k hk => ⟨p2 k hk, hp1 k hk⟩
  rw [List.length_map] at RF HP ⊢
  obtain ⟨N, hN⟩ : ∃ N, Hid (picks.length = N) := ⟨_, rfl⟩
  have M2 : Hid (N ≤ 65536) := by show _ ≤ _; rw [← hN.out, hm']; exact m2
  obtain ⟨SS, hSS⟩ : ∃ SS, Hid (runS ts room picks picks.length = SS) := ⟨_, rfl⟩
  have hS2 : Hid (playS picks N (init ts room) = SS) := by show _ = _; rw [← hN.out]; exact hSS.out
  rw [hSS.out]
  rw [hN.out] at RF HP ⊢
  clear h hT hE hp1 m1 r1 r2 hr hm m2 p1 p2 hm' hSS
  go_enter Tryd.func17, Tryd.ntmps17
  go_upto_region 4 with (go_at_call 31; refine RF.out.mono ?_; rintro e w2 ⟨rfl, b2⟩; have b2 := hide b2)
  have BG := hide (begin_any w2 v us ts (HTK.out.below b2.out) N16.out room)
  have HP2 := hide (Below.row b2.out HP.out)
  clear RF HTK HP
  go_upto_region 5 with (go_at_call 32; refine BG.out.mono ?_; rintro e w3 ⟨rfl, A3⟩; have A3 := hide A3)
  have PL := hide (play_any w2 w3 us (w2.heap.size + 1) (X0 w2.heap.size) (init ts room) A3.out OKI.out _ picks HP2.out HP0.out M2.out (Nat.zero_le _))
  clear BG
  go_upto_region 6 with (go_at_call 33; refine PL.out.mono ?_; rintro e w4 ⟨rfl, X1, hX1, A4, O4, S4⟩; have A4 := hide A4; have O4 := hide O4; clear S4)
  have eS : Hid (playS picks (N - (init ts room).tr.length) (init ts room) = SS) := hS2.out
  rw [eS.out] at A4 O4
  have RD := hide (ready_any w2 w4 us (w2.heap.size + 1) X1 SS A4.out O4.out)
  have b4 := hide (b2.out.trans (A4.out.low.mono b2.out.size))
  clear PL hX1
  go_wp2_with (go_at_call 36; refine RD.out.mono ?_; rintro e w5 ⟨v', rfl, hv, b5⟩; have hv := hide hv; have b5 := hide b5)
  go_ret2
  exact ⟨_, rfl, row_low hv.out b4.out.size, b4.out.trans (b5.out.mono b4.out.size)⟩
end Go.Proofs.YtdbhfeiibcpcaaaDoor.Sd

/-
  What is told, as it is read; tasks laid; begun.
-/
namespace Go.Proofs.YtdbhfeiibcpcaaaDoor.Sd
open Go.RowKit
set_option linter.unusedVariables false
set_option linter.unusedSimpArgs false
set_option maxRecDepth 100000
theorem nums_form {B : Nat} {w : World} {v : Value} {l : List Int} (h : Iw B w v l) : ∃ ao ca, v = .slice ao l.length ca ∧ l.length ≤ ca ∧ ca ≤ 9223372036854775807 ∧ ∀ i x, l[i]? = some x → ∃ g, ao = some ⟨g, 0, none⟩ ∧ w.cell? ⟨g, i, none⟩ = some (.int .i64 x) := by
  rcases h.2 with ⟨e, hz⟩ | ⟨g, cap, cur, rfl, hg, h1, h2, h3, h4, h5⟩
  · refine ⟨none, 0, by rw [hz]; exact e, by omega, by omega, fun i x hi => ?_⟩
    rw [List.length_eq_zero_iff.1 hz] at hi
    simp at hi
  · refine ⟨_, cap, rfl, h2, by unfold maxLen at h3; exact h3, fun i x hi => ⟨g, rfl, ?_⟩⟩
    have hil := (List.getElem?_eq_some_iff.1 hi).1
    rw [cell_of h1, ← Array.getElem?_toList, ← List.getElem?_take_of_lt (j := l.length * 1) (by omega), h5, List.getElem?_map, hi]
    rfl
theorem ends_form {B : Nat} {w : World} {v : Value} {l : List (Int × Int)} (h : w.ownsRow B 49 2 v l.length (ecells l)) : ∃ ao ca, v = .slice ao l.length ca ∧ l.length ≤ ca ∧ ca ≤ 9223372036854775807 ∧ ∀ i x, l[i]? = some x → ∃ g, ao = some ⟨g, 0, none⟩ ∧ w.cell? ⟨g, i * 2, none⟩ = some (.int .i64 x.1) ∧ w.cell? ⟨g, i * 2 + 1, none⟩ = some (.int .i64 x.2) := by
  have tc : ∀ (l : List (Int × Int)) (i : Nat) (x : Int × Int), l[i]? = some x → (ecells l)[i * 2]? = some (.int .i64 x.1) ∧ (ecells l)[i * 2 + 1]? = some (.int .i64 x.2) := by
    intro l
    induction l with
    | nil => intro i x hx; simp at hx
    | cons a r ih =>
      intro i x hx
      match i with
      | 0 => simp at hx; subst hx; exact ⟨rfl, rfl⟩
      | i + 1 =>
        have := ih i x (by simpa using hx)
        rw [show (i + 1) * 2 = i * 2 + 1 + 1 by omega]
        exact this
  rcases h.2 with ⟨e, hz⟩ | ⟨g, cap, cur, rfl, hg, h1, h2, h3, h4, h5⟩
  · refine ⟨none, 0, by rw [hz]; exact e, by omega, by omega, fun i x hi => ?_⟩
    rw [List.length_eq_zero_iff.1 hz] at hi
    simp at hi
  · refine ⟨_, cap, rfl, h2, by unfold maxLen at h3; exact h3, fun i x hi => ⟨g, rfl, ?_⟩⟩
    have hil := (List.getElem?_eq_some_iff.1 hi).1
    obtain ⟨t1, t2⟩ := tc l i x hi
    rw [← h5, List.getElem?_take_of_lt (by omega)] at t1 t2
    rw [cell_of h1, cell_of h1, ← Array.getElem?_toList, ← Array.getElem?_toList]
    exact ⟨t1, t2⟩
def acell (a : Ac) : List Value := [.int .i64 a.k, .int .i64 a.a, .int .i64 a.b, .int .i64 a.n]
def acells (l : List Ac) : List Value := l.flatMap acell
theorem acells_get : ∀ (l : List Ac) (i : Nat) (a : Ac), l[i]? = some a → (acells l)[i * 4]? = some (.int .i64 a.k) ∧ (acells l)[i * 4 + 1]? = some (.int .i64 a.a) ∧ (acells l)[i * 4 + 2]? = some (.int .i64 a.b) ∧ (acells l)[i * 4 + 3]? = some (.int .i64 a.n) := by
  intro l
  induction l with
  | nil => intro i x hx; simp at hx
  | cons a r ih =>
    intro i x hx
    match i with
    | 0 => simp at hx; subst hx; exact ⟨rfl, rfl, rfl, rfl⟩
    | i + 1 =>
      have := ih i x (by simpa using hx)
      rw [show (i + 1) * 4 = i * 4 + 1 + 1 + 1 + 1 by omega]
      exact this
theorem acts_lit {w : World} {b : Nat} {l : List Ac} {cs : Array Value} {T : TypeId} {fz : Nat × Nat} (h : w.heap[b]? = some (.cells cs T fz)) (hc : cs.toList = acells l) : ActsAt w (.slice (some ⟨b, 0, none⟩) l.length l.length) l := by
  refine ⟨_, _, rfl, Nat.le_refl _, fun i a hi => ⟨b, 0, rfl, ?_⟩⟩
  obtain ⟨h1, h2, h3, h4⟩ := acells_get l i a hi
  have hz : ∀ j, w.cell? ⟨b, j, none⟩ = (acells l)[j]? := fun j => by rw [cell_of h, ← Array.getElem?_toList, hc]
  rw [Nat.zero_add]
  exact ⟨(hz _).trans h1, (hz _).trans h2, (hz _).trans h3, (hz _).trans h4⟩
theorem tks_lit {w : World} {b : Nat} {us : List Value} {ts : List (List Ac)} {cs : Array Value} {T : TypeId} {fz : Nat × Nat} (h : w.heap[b]? = some (.cells cs T fz)) (hc : cs.toList = us) (hm : us.length ≤ 1000000) (hl : us.length = ts.length) (ha : ∀ (i : Nat) (u : Value) (l : List Ac), us[i]? = some u → ts[i]? = some l → ActsAt w u l) : TksAt w (.slice (some ⟨b, 0, none⟩) us.length us.length) us ts := by
  refine ⟨⟨_, _, rfl, (fun e => by cases e), Nat.le_refl _, by unfold maxLen; omega, fun i hi => ⟨b, 0, rfl, ?_⟩⟩, hl, ha⟩
  rw [cell_of h, Nat.zero_add, ← Array.getElem?_toList, hc, List.getElem?_eq_getElem hi]
/-- What Run answered, read: the turns, the registers, the ends. -/
structure Rd (w : World) (S : St) (ta : Option Addr) (tc gr rc : Nat) (ea : Option Addr) (ec : Nat) : Prop where
  tr : S.tr.length ≤ tc ∧ ∀ i x, S.tr[i]? = some x → ∃ g, ta = some ⟨g, 0, none⟩ ∧ w.cell? ⟨g, i * 2, none⟩ = some (.int .i64 (x.1 : Int)) ∧ w.cell? ⟨g, i * 2 + 1, none⟩ = some (.int .i64 (x.2 : Int))
  rg : 8 ≤ rc ∧ ∀ i, i < 8 → w.cell? ⟨gr, i, none⟩ = some (.int .i64 (S.rg i))
  en : S.tk.length ≤ ec ∧ ∀ i t, S.tk[i]? = some t → ∃ g, ea = some ⟨g, 0, none⟩ ∧ w.cell? ⟨g, i * 2, none⟩ = some (.int .i64 (howS S t)) ∧ w.cell? ⟨g, i * 2 + 1, none⟩ = some (.int .i64 t.wt)
theorem Rd.below {w w' : World} {S : St} {ta : Option Addr} {tc gr rc : Nat} {ea : Option Addr} {ec : Nat} (h : Rd w S ta tc gr rc ea ec) (hb : Below w.heap.size w w') : Rd w' S ta tc gr rc ea ec := by
  refine ⟨⟨h.tr.1, fun i x hi => ?_⟩, ⟨h.rg.1, fun i hi => (hb.cell (lt_of_cell (h.rg.2 i hi))).trans (h.rg.2 i hi)⟩, ⟨h.en.1, fun i t hi => ?_⟩⟩
  · obtain ⟨g, e, h1, h2⟩ := h.tr.2 i x hi
    exact ⟨g, e, (hb.cell (lt_of_cell h1)).trans h1, (hb.cell (lt_of_cell h2)).trans h2⟩
  · obtain ⟨g, e, h1, h2⟩ := h.en.2 i t hi
    exact ⟨g, e, (hb.cell (lt_of_cell h1)).trans h1, (hb.cell (lt_of_cell h2)).trans h2⟩
theorem run_read (w : World) (hT : Tb w) (v vp : Value) (us : List Value) (ts : List (List Ac)) (h : TksAt w v us ts) (picks : List Int) (hp : Row w vp (picks.map (Value.int .i64))) (hp1 : ∀ k ∈ picks, k ≤ 9223372036854775807) (room most : Nat) (hE : refE ts room picks most = 0) (S : St) (hS : runS ts room picks most = S) :
    Calls Tryd.prog 15 #[v, .int .i64 (room : Int), vp, .int .i64 (most : Int)] w fun e w' => ∃ ta tc gr rc ea ec qv, e = .returned (.tuple #[.agg #[.int .i64 (S.tr.length : Int), .slice ta S.tr.length tc, .slice (some ⟨gr, 0, none⟩) 8 rc, .slice ea S.tk.length ec, qv], .int .i64 0]) ∧ (∃ qa qc, qv = .slice qa 4 qc) ∧ Rd w' S ta tc gr rc ea ec ∧ Below w.heap.size w w' := by
  subst hS
  refine (run_yes w hT v vp us ts h picks hp hp1 room most hE).mono ?_
  rintro e w' ⟨tv, rv, ev, qv, rfl, ⟨vs, R⟩, hb⟩
  obtain ⟨ta, tc, rfl, t1, -, t2⟩ := turns_form R.tr
  obtain ⟨ra, rc, rfl, r1, -, r2⟩ := nums_form R.rg
  obtain ⟨ea, ec, rfl, e1, -, e2⟩ := ends_form R.en
  obtain ⟨qa, qc, hq, -⟩ := own_form R.qs
  have h8 : (regs (runS ts room picks most)).length = 8 := by simp [regs]
  have hr : ∀ i, i < 8 → (regs (runS ts room picks most))[i]? = some ((runS ts room picks most).rg i) := fun i hi => by simp [regs, hi]
  obtain ⟨gr, rfl, -⟩ := r2 0 _ (hr 0 (by decide))
  have hn : (endsI (runS ts room picks most) (runS ts room picks most).tk.length).length = (runS ts room picks most).tk.length := endsI_len (Nat.le_refl _)
  rw [h8] at r1
  rw [hn] at e1
  rw [h8, hn]
  refine ⟨ta, tc, gr, rc, ea, ec, qv, rfl, ⟨qa, qc, ?_⟩, ⟨⟨t1, t2⟩, ⟨r1, fun i hi => ?_⟩, ⟨e1, fun i t hi => ?_⟩⟩, hb⟩
  · rw [hq, R.ql.1]; simp [quesI]
  · obtain ⟨g, e, h1⟩ := r2 i _ (hr i hi)
    cases e
    exact h1
  · refine e2 i (howS _ t, t.wt) ?_
    unfold endsI
    rw [List.take_length, List.getElem?_map, hi]
    rfl
theorem row_nil (w : World) : Row w (.slice none 0 0) ([].map (Value.int .i64)) := ⟨none, 0, rfl, fun _ => ⟨rfl, rfl⟩, Nat.le_refl _, Nat.zero_le _, fun i hi => absurd hi (by simp)⟩
def bg1 : List (List Ac) := [[⟨13, 0, 0, 2⟩, ⟨12, 0, 0, 9⟩, ⟨8, 0, 0, 1⟩], [⟨7, 0, 0, 0⟩]]
def bg2 : List (List Ac) := [[⟨11, 0, 0, 0⟩]]
theorem bg1_ref : refE bg1 (1 : Nat) [] (99 : Nat) = 0 := by decide +kernel
theorem bg2_ref : refE bg2 (1 : Nat) [] (([] : List Int).length : Nat) = 0 := by decide +kernel
def bgS : St := runS bg1 1 [] 99
theorem bg_facts : bgS.tr.length = 3 ∧ bgS.tk.length = 2 ∧ bgS.rg 7 = 9 ∧ bgS.rg 0 = 1 ∧ (bgS.tk[0]?.map (howS bgS)) = some 1 ∧ (bgS.tk[1]?.map (howS bgS)) = some 7 := by decide +kernel
theorem bg2_rdy : rdy (runS bg2 1 [] 0) = [0] := by decide +kernel
theorem may_nil (w : World) (hT : Tb w) : Calls Tryd.prog 11 #[.slice none 0 0] w fun e w' => e = .returned (.int .i64 0) ∧ Below w.heap.size w w' := by
  have := may_any w hT (.slice none 0 0) [] [] ⟨⟨none, 0, rfl, fun _ => ⟨rfl, rfl⟩, Nat.le_refl _, Nat.zero_le _, fun i hi => absurd hi (by simp)⟩, rfl, fun i u l h => by simp at h⟩
  have e : mayE [] = 0 := by decide +kernel
  rw [e] at this
  exact this
end Go.Proofs.YtdbhfeiibcpcaaaDoor.Sd

/-
  begun.
-/
namespace Go.Proofs.YtdbhfeiibcpcaaaDoor.Sd
open Go.RowKit
set_option linter.unusedVariables false
set_option linter.unusedSimpArgs false
set_option maxRecDepth 100000
theorem bg1_run (w : World) (hT : Tb w) : Calls Tryd.prog 15 #[.slice (some ⟨w.heap.size + 1 + 1, 0, none⟩) 2 2, .int .i64 1, .slice none 0 0, .int .i64 99] (((w.alloc (.cells #[.int .i64 13, .int .i64 0, .int .i64 0, .int .i64 2, .int .i64 12, .int .i64 0, .int .i64 0, .int .i64 9, .int .i64 8, .int .i64 0, .int .i64 0, .int .i64 1] 47)).alloc (.cells #[.int .i64 7, .int .i64 0, .int .i64 0, .int .i64 0] 47)).alloc (.cells #[.slice (some ⟨w.heap.size, 0, none⟩) 3 3, .slice (some ⟨w.heap.size + 1, 0, none⟩) 1 1] 45)) fun e w' => ∃ ta tc gr rc ga ec qa qc, e = .returned (.tuple #[.agg #[.int .i64 3, .slice ta 3 tc, .slice (some ⟨gr, 0, none⟩) 8 rc, .slice (some ⟨ga, 0, none⟩) 2 ec, .slice qa 4 qc], .int .i64 0]) ∧ Hid (8 ≤ rc ∧ 2 ≤ ec ∧ w'.cell? ⟨gr, 0, none⟩ = some (.int .i64 1) ∧ w'.cell? ⟨gr, 7, none⟩ = some (.int .i64 9) ∧ w'.cell? ⟨ga, 0, none⟩ = some (.int .i64 1) ∧ w'.cell? ⟨ga, 2, none⟩ = some (.int .i64 7)) ∧ Below w.heap.size w w' := by
  have b1 := box_below w (.cells #[.int .i64 13, .int .i64 0, .int .i64 0, .int .i64 2, .int .i64 12, .int .i64 0, .int .i64 0, .int .i64 9, .int .i64 8, .int .i64 0, .int .i64 0, .int .i64 1] 47)
  have n1 := heap_alloc_new w (.cells #[.int .i64 13, .int .i64 0, .int .i64 0, .int .i64 2, .int .i64 12, .int .i64 0, .int .i64 0, .int .i64 9, .int .i64 8, .int .i64 0, .int .i64 0, .int .i64 1] 47)
  have z1 : (w.alloc (.cells #[.int .i64 13, .int .i64 0, .int .i64 0, .int .i64 2, .int .i64 12, .int .i64 0, .int .i64 0, .int .i64 9, .int .i64 8, .int .i64 0, .int .i64 0, .int .i64 1] 47)).heap.size = w.heap.size + 1 := by simp
  generalize w.alloc (.cells #[.int .i64 13, .int .i64 0, .int .i64 0, .int .i64 2, .int .i64 12, .int .i64 0, .int .i64 0, .int .i64 9, .int .i64 8, .int .i64 0, .int .i64 0, .int .i64 1] 47) = w1 at *
  have b2 := box_below w1 (.cells #[.int .i64 7, .int .i64 0, .int .i64 0, .int .i64 0] 47)
  have n2 := heap_alloc_new w1 (.cells #[.int .i64 7, .int .i64 0, .int .i64 0, .int .i64 0] 47)
  have z2 : (w1.alloc (.cells #[.int .i64 7, .int .i64 0, .int .i64 0, .int .i64 0] 47)).heap.size = w.heap.size + 1 + 1 := by simp [z1]
  generalize w1.alloc (.cells #[.int .i64 7, .int .i64 0, .int .i64 0, .int .i64 0] 47) = w2 at *
  have b3 := box_below w2 (.cells #[.slice (some ⟨w.heap.size, 0, none⟩) 3 3, .slice (some ⟨w.heap.size + 1, 0, none⟩) 1 1] 45)
  have n3 := heap_alloc_new w2 (.cells #[.slice (some ⟨w.heap.size, 0, none⟩) 3 3, .slice (some ⟨w.heap.size + 1, 0, none⟩) 1 1] 45)
  generalize w2.alloc (.cells #[.slice (some ⟨w.heap.size, 0, none⟩) 3 3, .slice (some ⟨w.heap.size + 1, 0, none⟩) 1 1] 45) = w3 at *
  rw [z1] at n2
  rw [z2] at n3
  have B3 := keepF (keepF b1 b2) b3
  have m1 := ((keepF b2 b3).block _ (heap_lt n1)).trans n1
  have m2 := (b3.block _ (heap_lt n2)).trans n2
  have a1 : ActsAt w3 (.slice (some ⟨w.heap.size, 0, none⟩) 3 3) [⟨13, 0, 0, 2⟩, ⟨12, 0, 0, 9⟩, ⟨8, 0, 0, 1⟩] := acts_lit (l := [⟨13, 0, 0, 2⟩, ⟨12, 0, 0, 9⟩, ⟨8, 0, 0, 1⟩]) m1 rfl
  have a2 : ActsAt w3 (.slice (some ⟨w.heap.size + 1, 0, none⟩) 1 1) [⟨7, 0, 0, 0⟩] := acts_lit (l := [⟨7, 0, 0, 0⟩]) m2 rfl
  have tk : TksAt w3 (.slice (some ⟨w.heap.size + 1 + 1, 0, none⟩) 2 2) [.slice (some ⟨w.heap.size, 0, none⟩) 3 3, .slice (some ⟨w.heap.size + 1, 0, none⟩) 1 1] bg1 := tks_lit (us := [.slice (some ⟨w.heap.size, 0, none⟩) 3 3, .slice (some ⟨w.heap.size + 1, 0, none⟩) 1 1]) n3 rfl (by simp) rfl (by
    intro i u l h1 h2
    match i with
    | 0 => cases h1; cases h2; exact a1
    | 1 => cases h1; cases h2; exact a2
    | i + 2 => simp at h1)
  refine (run_read w3 (hT.below B3) _ (.slice none 0 0) _ bg1 tk [] (row_nil _) (fun k hk => by cases hk) 1 99 bg1_ref bgS rfl).mono ?_
  rintro e w' ⟨ta, tc, gr, rc, ea, ec, qv, rfl, ⟨qa, qc, rfl⟩, R, hb⟩
  obtain ⟨f1, f2, f3, f4, f5, f6⟩ := bg_facts
  rw [f1, f2]
  obtain ⟨t0, ht0, e0⟩ : ∃ t, bgS.tk[0]? = some t ∧ howS bgS t = 1 := by
    cases h : bgS.tk[0]? with
    | none => rw [h] at f5; cases f5
    | some t => rw [h] at f5; exact ⟨t, rfl, Option.some.inj f5⟩
  obtain ⟨t1, ht1, e1⟩ : ∃ t, bgS.tk[1]? = some t ∧ howS bgS t = 7 := by
    cases h : bgS.tk[1]? with
    | none => rw [h] at f6; cases f6
    | some t => rw [h] at f6; exact ⟨t, rfl, Option.some.inj f6⟩
  obtain ⟨ga, rfl, c0, -⟩ := R.en.2 0 t0 ht0
  obtain ⟨ga', e2, c1, -⟩ := R.en.2 1 t1 ht1
  cases e2
  have r0 := R.rg.2 0 (by decide)
  have r7 := R.rg.2 7 (by decide)
  rw [f3] at r7
  rw [f4] at r0
  rw [e0] at c0
  rw [e1] at c1
  have h2 := R.en.1
  rw [f2] at h2
  exact ⟨ta, tc, gr, rc, ga, ec, qa, qc, rfl, ⟨R.rg.1, h2, r0, r7, c0, c1⟩, B3.trans (hb.mono B3.size)⟩
theorem bg2_run (w : World) (hT : Tb w) : Calls Tryd.prog 17 #[.slice (some ⟨w.heap.size + 1, 0, none⟩) 1 1, .int .i64 1, .slice none 0 0] ((w.alloc (.cells #[.int .i64 11, .int .i64 0, .int .i64 0, .int .i64 0] 47)).alloc (.cells #[.slice (some ⟨w.heap.size, 0, none⟩) 1 1] 45)) fun e w' => ∃ na nc, e = .returned (.tuple #[.slice na 1 nc, .int .i64 0]) ∧ Below w.heap.size w w' := by
  have b1 := box_below w (.cells #[.int .i64 11, .int .i64 0, .int .i64 0, .int .i64 0] 47)
  have n1 := heap_alloc_new w (.cells #[.int .i64 11, .int .i64 0, .int .i64 0, .int .i64 0] 47)
  have z1 : (w.alloc (.cells #[.int .i64 11, .int .i64 0, .int .i64 0, .int .i64 0] 47)).heap.size = w.heap.size + 1 := by simp
  generalize w.alloc (.cells #[.int .i64 11, .int .i64 0, .int .i64 0, .int .i64 0] 47) = w1 at *
  have b2 := box_below w1 (.cells #[.slice (some ⟨w.heap.size, 0, none⟩) 1 1] 45)
  have n2 := heap_alloc_new w1 (.cells #[.slice (some ⟨w.heap.size, 0, none⟩) 1 1] 45)
  generalize w1.alloc (.cells #[.slice (some ⟨w.heap.size, 0, none⟩) 1 1] 45) = w2 at *
  rw [z1] at n2
  have B2 := keepF b1 b2
  have m1 := (b2.block _ (heap_lt n1)).trans n1
  have a1 : ActsAt w2 (.slice (some ⟨w.heap.size, 0, none⟩) 1 1) [⟨11, 0, 0, 0⟩] := acts_lit (l := [⟨11, 0, 0, 0⟩]) m1 rfl
  have tk : TksAt w2 (.slice (some ⟨w.heap.size + 1, 0, none⟩) 1 1) [.slice (some ⟨w.heap.size, 0, none⟩) 1 1] bg2 := tks_lit (us := [.slice (some ⟨w.heap.size, 0, none⟩) 1 1]) n2 rfl (by simp) rfl (by
    intro i u l h1 h2
    match i with
    | 0 => cases h1; cases h2; exact a1
    | i + 1 => simp at h1)
  refine (ready_yes w2 (hT.below B2) _ (.slice none 0 0) _ bg2 tk [] (row_nil _) (fun k hk => by cases hk) 1 bg2_ref).mono ?_
  rintro e w' ⟨v', rfl, hv, hb⟩
  obtain ⟨na, nc, rfl, -, -⟩ := hv.form
  have e1 : (ns (rdy (runS bg2 1 [] ([] : List Int).length))).length = 1 := by rw [ns_len]; show (rdy (runS bg2 1 [] 0)).length = 1; rw [bg2_rdy]; rfl
  rw [e1]
  exact ⟨na, nc, rfl, B2.trans (hb.mono B2.size)⟩
set_option maxHeartbeats 1000000 in
theorem begun_any (w : World) (hT : Tb w) : Calls Tryd.prog 9 #[] w fun e w' => e = .returned (.bool true) ∧ Below w.heap.size w w' := by
  have R1 := hide (bg1_run w hT)
  have T0 := hide hT
  clear hT
  go_enter Tryd.func9, Tryd.ntmps9
  go_upto_region 2 with (go_at_call 15; refine R1.out.mono ?_; rintro e w1 ⟨ta, tc, gr, rc, ga, ec, qa, qc, rfl, F, b1⟩; have b1 := hide b1)
  have bb := box_below w1 (.cells #[.int .i64 3, .slice ta 3 tc, .slice (some ⟨gr, 0, none⟩) 8 rc, .slice (some ⟨ga, 0, none⟩) 2 ec, .slice qa 4 qc] 33)
  have nb := heap_alloc_new w1 (.cells #[.int .i64 3, .slice ta 3 tc, .slice (some ⟨gr, 0, none⟩) 8 rc, .slice (some ⟨ga, 0, none⟩) 2 ec, .slice qa 4 qc] 33)
  obtain ⟨k1, k2, r0, r7, c0, c2⟩ := F.out
  have r0 := (bb.cell (lt_of_cell r0)).trans r0
  have r7 := (bb.cell (lt_of_cell r7)).trans r7
  have c0 := (bb.cell (lt_of_cell c0)).trans c0
  have c2 := (bb.cell (lt_of_cell c2)).trans c2
  have B2 := hide (keepF b1.out bb)
  generalize w1.alloc (.cells #[.int .i64 3, .slice ta 3 tc, .slice (some ⟨gr, 0, none⟩) 8 rc, .slice (some ⟨ga, 0, none⟩) 2 ec, .slice qa 4 qc] 33) = w2 at *
  generalize w1.heap.size = pb at *
  have KC : Hid (∀ q, Below w2.heap.size w2 q → q.cell? ⟨pb, 0, none⟩ = some (.int .i64 3) ∧ q.cell? ⟨pb, 2, none⟩ = some (.slice (some ⟨gr, 0, none⟩) 8 rc) ∧ q.cell? ⟨pb, 3, none⟩ = some (.slice (some ⟨ga, 0, none⟩) 2 ec) ∧ q.cell? ⟨gr, 0, none⟩ = some (.int .i64 1) ∧ q.cell? ⟨gr, 7, none⟩ = some (.int .i64 9) ∧ q.cell? ⟨ga, 0, none⟩ = some (.int .i64 1) ∧ q.cell? ⟨ga, 2, none⟩ = some (.int .i64 7)) := fun q hb => by
    have nq := (hb.block _ (heap_lt nb)).trans nb
    exact ⟨by rw [cell_of nq]; rfl, by rw [cell_of nq]; rfl, by rw [cell_of nq]; rfl, (hb.cell (lt_of_cell r0)).trans r0, (hb.cell (lt_of_cell r7)).trans r7, (hb.cell (lt_of_cell c0)).trans c0, (hb.cell (lt_of_cell c2)).trans c2⟩
  have R2 := hide (bg2_run w2 (T0.out.below B2.out))
  clear nb r0 r7 c0 c2 bb R1 F b1
  go_upto_region 3 with (go_at_call 17; refine R2.out.mono ?_; rintro e w3 ⟨na, nc, rfl, b3⟩)
  obtain ⟨x0, x1, x2, x3, x4, x5, x6⟩ := KC.out w3 b3
  have B3 := hide (B2.out.trans (b3.mono B2.out.size))
  have R3 := hide (may_nil w3 (T0.out.below B3.out))
  have i1 : (8 : Int) ≤ (rc : Int) := by omega
  have i2 : (2 : Int) ≤ (ec : Int) := by omega
  clear KC R2 b3 k1 k2
  go_wp2_with (go_at_call 11; refine R3.out.mono ?_; rintro e w4 ⟨rfl, b4⟩; have b4 := hide b4)
  go_ret
  exact ⟨rfl, B3.out.trans (b4.out.mono B3.out.size)⟩
end Go.Proofs.YtdbhfeiibcpcaaaDoor.Sd

/-
  A run that goes to its end, by data; puts and takes.
-/
namespace Go.Proofs.YtdbhfeiibcpcaaaDoor.Sd
open Go.RowKit
set_option linter.unusedVariables false
set_option linter.unusedSimpArgs false
set_option maxRecDepth 100000
theorem turnS_eq {S : St} {i : Nat} {t : Tk} {a : Ac} (h : S.tk[i]? = some t) (ha : t.ac[t.pc]? = some a) : turnS S i = stepS { S with tr := S.tr ++ [(i, t.pc)] } i t a := by
  unfold turnS
  rw [h]
  simp only
  rw [ha]
theorem mayE_zero {ts : List (List Ac)} (h1 : ts.length ≤ 16) (h2 : ∀ l ∈ ts, l.length ≤ 256 ∧ ∀ a ∈ l, OkA l.length a) : mayE ts = 0 := by
  have e1 : manyB ts = false := by
    unfold manyB
    simp only [Bool.or_eq_false_iff, decide_eq_false_iff_not, List.any_eq_false, decide_eq_true_eq]
    exact ⟨by omega, fun l hl => by have := (h2 l hl).1; omega⟩
  have e2 : (ts.all fun l => l.all (kindB l.length)) = true := by
    simp only [List.all_eq_true]
    intro l hl a ha
    have := (h2 l hl).2 a ha
    unfold kindB
    exact decide_eq_true ⟨this.k1, this.k2⟩
  have e3 : (ts.all fun l => l.all (useB l.length)) = true := by
    simp only [List.all_eq_true]
    intro l hl a ha
    have := (h2 l hl).2 a ha
    unfold useB
    exact decide_eq_true ⟨this.a0, this.a1, this.b0, this.b1, this.n⟩
  unfold mayE
  rw [e1, e2, e3]
  simp
theorem refE_zero {ts : List (List Ac)} (h1 : ts.length ≤ 16) (h2 : ∀ l ∈ ts, l.length ≤ 256 ∧ ∀ a ∈ l, OkA l.length a) {room : Nat} (r1 : 1 ≤ room) (r2 : room ≤ 16) {picks : List Int} (p1 : picks.length ≤ 65536) (p2 : ∀ k ∈ picks, 0 ≤ k) {most : Nat} (hm : most ≤ 65536) : refE ts room picks most = 0 := by
  have e : argB room picks most = true := by
    unfold argB pickB
    simp only [Bool.and_eq_true, decide_eq_true_eq, List.all_eq_true]
    exact ⟨⟨by omega, by omega, by omega, by omega⟩, p1, p2⟩
  unfold refE
  rw [mayE_zero h1 h2, e]
  simp
end Go.Proofs.YtdbhfeiibcpcaaaDoor.Sd

/-
  Lists of acts of one's own, and lists of them.
-/
namespace Go.Proofs.YtdbhfeiibcpcaaaDoor.Sd
open Go.RowKit
set_option linter.unusedVariables false
set_option linter.unusedSimpArgs false
set_option maxRecDepth 100000
def Ar (B : Nat) (w : World) (v : Value) (l : List Ac) : Prop := w.ownsRow B 47 4 v l.length (acells l)
theorem Ar.nil (B : Nat) (w : World) : Ar B w (.slice none 0 0) [] := World.ownsRow_nil _ _ _ _
theorem row_but {B : Nat} {w w' : World} {T : TypeId} {sz n : Nat} {v : Value} {l : List Value} {row : Option Nat} (h : w.ownsRow B T sz v n l) (hg : w.grownBy w' row) (hne : ∀ k, v.ownBlock = some k → row ≠ some k) : w'.ownsRow B T sz v n l :=
  ownsRow_but h (But.of_grownBy (X := fun k => row = some k) hg fun k e => e) fun k hk => hne k hk
theorem grown_below {w w' : World} {B : Nat} {row : Option Nat} (hg : w.grownBy w' row) (hB : B ≤ w.heap.size) (hr : ∀ k, row = some k → B ≤ k) : Below B w w' :=
  (But.of_grownBy (X := fun k => row = some k) hg fun k e => e).below hB hr
/-- Tasks of one's own: the row of their lists, each a row of its own. -/
structure Ts (B : Nat) (w : World) (tv : Value) (us : List Value) (ts : List (List Ac)) : Prop where
  row : w.ownsRow B 45 1 tv us.length us
  len : us.length = ts.length
  ls : ∀ (i : Nat) (u : Value) (l : List Ac), us[i]? = some u → ts[i]? = some l → Ar B w u l
  hd : ∀ (i : Nat) (u : Value) (k : Nat), us[i]? = some u → u.ownBlock = some k → tv.ownBlock ≠ some k
section
variable {B : Nat} {w w' : World} {tv : Value} {us : List Value} {ts : List (List Ac)}
theorem Ts.nil (B : Nat) (w : World) : Ts B w (.slice none 0 0) [] [] := ⟨World.ownsRow_nil _ _ _ _, rfl, fun i u l h => by simp at h, fun i u k h => by simp at h⟩
theorem Ts.below (h : Ts B w tv us ts) (hb : Below w.heap.size w w') : Ts B w' tv us ts := ⟨row_below h.row hb, h.len, fun i u l h1 h2 => row_below (h.ls i u l h1 h2) hb, h.hd⟩
theorem Ts.form (h : Ts B w tv us ts) : ∃ ao ca, tv = .slice ao ts.length ca ∧ ts.length ≤ ca := by
  obtain ⟨a, c, e, hl⟩ := own_form h.row
  rw [h.len] at e hl
  exact ⟨a, c, e, hl⟩
/-- One task more: its list u lies from the elder world's end on. -/
theorem Ts.add {w1 : World} {u tv' : Value} {l : List Ac} {B1 : Nat} (h : Ts B w tv us ts) (hb : Below w.heap.size w w1) (hu : Ar B1 w1 u l) (hB : w.heap.size ≤ B1) (hB0 : B ≤ w.heap.size) (hg : w1.grownBy w' tv.ownBlock) (ho : w'.ownsRow B 45 1 tv' (us.length + 1) (us ++ [u])) (hn : ∀ k, tv'.ownBlock = some k → tv.ownBlock = some k ∨ w1.heap.size ≤ k) : Ts B w' tv' (us ++ [u]) (ts ++ [l]) := by
  have htv : ∀ k, tv.ownBlock = some k → k < w.heap.size := fun k hk => (World.ownsRow.lt h.row k hk).2
  have hub : ∀ k, u.ownBlock = some k → w.heap.size ≤ k ∧ k < w1.heap.size := fun k hk => by have := World.ownsRow.lt hu k hk; omega
  have h1 := h.below hb
  have hulk : ∀ (i : Nat) (x : Value), us[i]? = some x → ∀ k, x.ownBlock = some k → k < w1.heap.size := fun i x hx k hk => by
    have hl : i < ts.length := by rw [← h.len]; exact (List.getElem?_eq_some_iff.1 hx).1
    exact (World.ownsRow.lt (h1.ls i x _ hx (List.getElem?_eq_getElem hl)) k hk).2
  refine ⟨by rw [List.length_append]; exact ho, by simp [h.len], fun i x y hx hy => ?_, fun i x k hx hk => ?_⟩
  · by_cases hi : i < us.length
    · rw [List.getElem?_append_left hi] at hx
      rw [List.getElem?_append_left (by rw [← h.len]; exact hi)] at hy
      exact row_but (h1.ls i x y hx hy) hg fun k hk e => h.hd i x k hx hk e
    · have hi2 : i = us.length := by have := (List.getElem?_eq_some_iff.1 hx).1; simp at this; omega
      subst hi2
      rw [List.getElem?_concat_length] at hx
      rw [h.len, List.getElem?_concat_length] at hy
      cases hx; cases hy
      exact row_but (row_low hu (Nat.le_trans hB0 hB)) hg fun k hk e => by have := htv k e; have := hub k hk; omega
  · by_cases hi : i < us.length
    · rw [List.getElem?_append_left hi] at hx
      intro e
      rcases hn k e with c | c
      · exact h.hd i x k hx hk c
      · have := hulk i x hx k hk; omega
    · have hi2 : i = us.length := by have := (List.getElem?_eq_some_iff.1 hx).1; simp at this; omega
      subst hi2
      rw [List.getElem?_concat_length] at hx
      cases hx
      intro e
      have := hub k hk
      rcases hn k e with c | c
      · have := htv k c; omega
      · omega
end
end Go.Proofs.YtdbhfeiibcpcaaaDoor.Sd

/-
  SchedQueues.
-/
namespace Go.Proofs.YtdbhfeiibcpcaaaDoor.Sd
open Go.RowKit
set_option linter.unusedVariables false
set_option linter.unusedSimpArgs false
set_option maxRecDepth 100000
/-- The picks, each read. -/
theorem picks_at {w : World} {ao : Option Addr} {N cp : Nat} {picks : List Int} (h : Row w (.slice ao N cp) (picks.map (Value.int .i64))) : picks.length = N ∧ N ≤ cp ∧ cp ≤ 9223372036854775807 ∧ ∀ u, Below w.heap.size w u → ∀ i k, picks[i]? = some k → ∃ b off, ao = some ⟨b, off, none⟩ ∧ u.cell? ⟨b, off + i, none⟩ = some (.int .i64 k) := by
  have hl : picks.length = N := by obtain ⟨a, c, e, -⟩ := h; simp at e; simpa using e.2.1.symm
  have h0 := h
  obtain ⟨a, c, e, h1, h2, h3, h4⟩ := h0
  simp only [Value.slice.injEq] at e
  obtain ⟨rfl, e2, rfl⟩ := e
  rw [List.length_map, hl] at h2
  refine ⟨hl, h2, by unfold maxLen at h3; exact h3, fun u hu i k hi => ?_⟩
  obtain ⟨_, hc⟩ := row_at (Below.row hu h) (by rw [List.length_map, hl])
  obtain ⟨b, off, e, hx⟩ := hc i (.int .i64 k) (by rw [List.getElem?_map, hi]; rfl)
  exact ⟨b, off, e, hx⟩
end Go.Proofs.YtdbhfeiibcpcaaaDoor.Sd

/-
  Guards and panics, by data.
-/
namespace Go.Proofs.YtdbhfeiibcpcaaaDoor.Sd
open Go.RowKit
set_option linter.unusedVariables false
set_option linter.unusedSimpArgs false
set_option maxRecDepth 100000
end Go.Proofs.YtdbhfeiibcpcaaaDoor.Sd

/-
  Ends, turns and acts held against one another.
-/
namespace Go.Proofs.YtdbhfeiibcpcaaaDoor.Sd
open Go.RowKit
theorem endFs : ∃ n0 n1 : String, Tryd.prog.underlying 49 = some (.struct (Tryd.prog.fieldsOf 49)) ∧ ((Tryd.prog.fieldsOf 49).toList.map fun f => (f.name, f.type, f.offset)) = [(n0, 3, 0), (n1, 2, 1)] ∧ n0 ≠ "_" ∧ n1 ≠ "_" :=
  ⟨ "How", "N", by kernel_rfl, by kernel_rfl, by decide, by decide⟩
theorem endHeld : Tryd.prog.stoodInHeld 49 = false := by kernel_rfl
theorem endEq (w : World) (a b c d : Int) : (Op.equalIn 10000 49 (.agg #[.int .i64 a, .int .i64 b]) (.agg #[.int .i64 c, .int .i64 d])).run Tryd.prog w = .ok (decide (a = c ∧ b = d)) w := by
  obtain ⟨n0, n1, h1, h2, h3, h4⟩ := endFs
  rw [run_equalIn_struct w 9999 49 _ _ h1 endHeld]
  generalize (Tryd.prog.fieldsOf 49).toList = fs at h2
  have hl : fs.length = 2 := by have := congrArg List.length h2; simpa using this
  match fs, hl with
  | [f0, f1], _ =>
    simp only [List.map_cons, List.map_nil, List.cons.injEq, Prod.mk.injEq, and_true] at h2
    obtain ⟨⟨x0, y0, z0⟩, ⟨x1, y1, z1⟩⟩ := h2
    have p0 : f0.name ≠ "_" := by rw [x0]; exact h3
    have p1 : f1.name ≠ "_" := by rw [x1]; exact h4
    by_cases q0 : a = c <;> by_cases q1 : b = d <;> simp [Op.eqFields, p0, y0, z0, q0, p1, y1, z1, q1, go_sem]
theorem endNeq (w : World) (a b c d : Int) : (binOp .neq 49 (.agg #[.int .i64 a, .int .i64 b]) (.agg #[.int .i64 c, .int .i64 d])).run Tryd.prog w = .ok (.bool (!decide (a = c ∧ b = d))) w := by
  rw [run_neq_struct, endEq]
  rfl
theorem turnFs : ∃ n0 n1 : String, Tryd.prog.underlying 39 = some (.struct (Tryd.prog.fieldsOf 39)) ∧ ((Tryd.prog.fieldsOf 39).toList.map fun f => (f.name, f.type, f.offset)) = [(n0, 3, 0), (n1, 3, 1)] ∧ n0 ≠ "_" ∧ n1 ≠ "_" :=
  ⟨ "Task", "Act", by kernel_rfl, by kernel_rfl, by decide, by decide⟩
theorem turnHeld : Tryd.prog.stoodInHeld 39 = false := by kernel_rfl
theorem turnEq (w : World) (a b c d : Int) : (Op.equalIn 10000 39 (.agg #[.int .i64 a, .int .i64 b]) (.agg #[.int .i64 c, .int .i64 d])).run Tryd.prog w = .ok (decide (a = c ∧ b = d)) w := by
  obtain ⟨n0, n1, h1, h2, h3, h4⟩ := turnFs
  rw [run_equalIn_struct w 9999 39 _ _ h1 turnHeld]
  generalize (Tryd.prog.fieldsOf 39).toList = fs at h2
  have hl : fs.length = 2 := by have := congrArg List.length h2; simpa using this
  match fs, hl with
  | [f0, f1], _ =>
    simp only [List.map_cons, List.map_nil, List.cons.injEq, Prod.mk.injEq, and_true] at h2
    obtain ⟨⟨x0, y0, z0⟩, ⟨x1, y1, z1⟩⟩ := h2
    have p0 : f0.name ≠ "_" := by rw [x0]; exact h3
    have p1 : f1.name ≠ "_" := by rw [x1]; exact h4
    by_cases q0 : a = c <;> by_cases q1 : b = d <;> simp [Op.eqFields, p0, y0, z0, q0, p1, y1, z1, q1, go_sem]
theorem turnNeq (w : World) (a b c d : Int) : (binOp .neq 39 (.agg #[.int .i64 a, .int .i64 b]) (.agg #[.int .i64 c, .int .i64 d])).run Tryd.prog w = .ok (.bool (!decide (a = c ∧ b = d))) w := by
  rw [run_neq_struct, turnEq]
  rfl
end Go.Proofs.YtdbhfeiibcpcaaaDoor.Sd

/-
  SchedGuards.
-/
namespace Go.Proofs.YtdbhfeiibcpcaaaDoor.Sd
open Go.RowKit
set_option linter.unusedVariables false
set_option linter.unusedSimpArgs false
set_option maxRecDepth 100000
end Go.Proofs.YtdbhfeiibcpcaaaDoor.Sd

