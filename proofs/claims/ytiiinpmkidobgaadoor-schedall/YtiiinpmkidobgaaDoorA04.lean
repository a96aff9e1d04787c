/-
  What is told of a run: told. (gen_TdS.py)
-/
import Derived.Test.YtiiinpmkidobgaaDoorA03
import Derived.Deep.CutBlock
namespace Go.Proofs.YtiiinpmkidobgaaDoor.Sd
open Go.RowKit
open Ix (wp_region_T wpAnyT wpAnyT_take wpAnyT_one wpAnyT_done vac)
set_option linter.unusedVariables false
set_option linter.unusedSimpArgs false
set_option maxRecDepth 100000
/-- Two may come up. -/
theorem wpAnyT_two {P : Program} {ops : Array Oper} {Q : Exit → Act → World → Prop} {md : Region.Mode} {S : World → Prop} {d : Nat} {i j : Nat} {oi oj : Oper} {fuel : Nat} {listed : Array Bool} {a : Act} {w : World} (hr : Region.ready md ops listed = [i, j]) (hoi : ops[i]? = some oi) (hoj : ops[j]? = some oj)
    (hI : ∀ K' : Act → World → Prop, Shut (∀ a w, ((listed.setIfInBounds i true).getD d false = false → S w) → wpAnyT P md ops Q S d fuel (listed.setIfInBounds i true) a w → K' a w) → if Region.wanted oi (yielded ops a.tmps) = true then Oper.wp P oi a w K' Q else K' (a.put oi.dst undef) w)
    (hJ : ∀ K' : Act → World → Prop, Shut (∀ a w, ((listed.setIfInBounds j true).getD d false = false → S w) → wpAnyT P md ops Q S d fuel (listed.setIfInBounds j true) a w → K' a w) → if Region.wanted oj (yielded ops a.tmps) = true then Oper.wp P oj a w K' Q else K' (a.put oj.dst undef) w) :
    wpAnyT P md ops Q S d (fuel + 1) listed a w := by
  refine ⟨fun h0 => (by rw [h0] at hr; cases hr), fun k hk => ?_⟩
  rw [hr] at hk
  simp only [List.mem_cons, List.not_mem_nil, or_false] at hk
  rcases hk with rfl | rfl
  · exact wpOp_step hoi (fun K' hK => hI K' (fun a w hS hW => hK a w ⟨hS, hW⟩))
  · exact wpOp_step hoj (fun K' hK => hJ K' (fun a w hS hW => hK a w ⟨hS, hW⟩))
def put5 (w : World) (b : Nat) (v0 v1 v2 v3 v4 : Value) : World := ((((w.setCell ⟨b, 0, none⟩ v0).setCell ⟨b, 1, none⟩ v1).setCell ⟨b, 2, none⟩ v2).setCell ⟨b, 3, none⟩ v3).setCell ⟨b, 4, none⟩ v4
theorem put5_heap {w : World} {b : Nat} {a0 a1 a2 a3 a4 : Value} {T : TypeId} (h : w.heap[b]? = some (.cells #[a0, a1, a2, a3, a4] T (0, 0))) (v0 v1 v2 v3 v4 : Value) : (put5 w b v0 v1 v2 v3 v4).heap[b]? = some (.cells #[v0, v1, v2, v3, v4] T (0, 0)) := by
  unfold put5
  have h0 := heap_setCell_same w b 0 _ _ v0 h
  have h1 := heap_setCell_same _ b 1 _ _ v1 h0
  have h2 := heap_setCell_same _ b 2 _ _ v2 h1
  have h3 := heap_setCell_same _ b 3 _ _ v3 h2
  have h4 := heap_setCell_same _ b 4 _ _ v4 h3
  rw [h4]
  simp
theorem put5_but (w : World) (b : Nat) (v0 v1 v2 v3 v4 : Value) : But (fun k => k = b) w (put5 w b v0 v1 v2 v3 v4) :=
  have h : ∀ (u : World) (o : Nat) (v : Value), But (fun k => k = b) u (u.setCell ⟨b, o, none⟩ v) := fun u o v => But.set _ _ _ _ rfl
  ((((h _ _ _).trans (h _ _ _)).trans (h _ _ _)).trans (h _ _ _)).trans (h _ _ _)
section
variable {w0 w : World} {us : List Value} {rb : Nat} {X : V} {S : St}
theorem dis_new {pA g : Nat} {rv : Value} {L : Nat} {l : List Int} {q : World} (h1 : pA ≠ g) (I : Iw L q rv l) (hp : pA < L) (hg : ∀ k, rv.ownBlock = some k → k ≠ g) : ∀ i j k, tbl (some pA) (some g) rv (.slice none 0 0) (.slice none 0 0) [] i = some k → tbl (some pA) (some g) rv (.slice none 0 0) (.slice none 0 0) [] j = some k → i = j := by
  have hb : ∀ i k, tbl (some pA) (some g) rv (.slice none 0 0) (.slice none 0 0) [] i = some k → (i = 0 ∧ k = pA) ∨ (i = 1 ∧ k = g) ∨ (i = 2 ∧ L ≤ k ∧ k ≠ g) := by
    intro i k hk
    match i with
    | 0 => cases hk; exact .inl ⟨rfl, rfl⟩
    | 1 => cases hk; exact .inr (.inl ⟨rfl, rfl⟩)
    | 2 => exact .inr (.inr ⟨rfl, (World.ownsRow.lt I k hk).1, hg k hk⟩)
    | 3 => cases hk
    | 4 => cases hk
    | n + 5 => simp [tbl] at hk
  intro i j k hi hj
  rcases hb i k hi with ⟨a, b⟩ | ⟨a, b⟩ | ⟨a, b, c⟩ <;> rcases hb j k hj with ⟨a', b'⟩ | ⟨a', b'⟩ | ⟨a', b', c'⟩ <;> omega
theorem lo_new {pA g : Nat} {rv : Value} {L B : Nat} {l : List Int} {q : World} (I : Iw L q rv l) (hp : B ≤ pA) (hg : B ≤ g) (hL : B ≤ L) : ∀ i k, tbl (some pA) (some g) rv (.slice none 0 0) (.slice none 0 0) [] i = some k → B ≤ k := by
  intro i k hk
  match i with
  | 0 => cases hk; exact hp
  | 1 => cases hk; exact hg
  | 2 => exact Nat.le_trans hL (World.ownsRow.lt I k hk).1
  | 3 => cases hk
  | 4 => cases hk
  | n + 5 => simp [tbl] at hk
theorem rn_new {q2 : World} {pA : Nat} {rv : Value} (A0 : At w0 us w rb X S) (A : At w0 us q2 rb X S) (B : Below w.heap.size w q2) (N : q2.heap[pA]? = some (.cells #[.int .i64 0, .slice none 0 0, .slice none 0 0, .slice none 0 0, .slice none 0 0] 33 (0, 0))) (I : Iw (pA + 1) q2 rv (regs S)) (hA : w.heap.size = pA) (D : Obj) (hD : D = .cells #[.int .i64 (S.tr.length : Int), X.t, rv, .slice none 0 0, .slice none 0 0] 33) :
    Rn w0 w us rb X S (q2.alloc D) pA q2.heap.size rv (.slice none 0 0) (.slice none 0 0) [] [] [] := by
  have b := box_below q2 D
  have hp := heap_lt N
  exact ⟨A.below b, fun k hk => A0.lt k hk, A0.low.size, keepF B b, (b.block _ hp).trans N, by rw [hD]; exact heap_alloc_new q2 _, row_below (iw_low I (by omega)) b, World.ownsRow_nil _ _ _ _, World.ownsRow_nil _ _ _ _, ⟨rfl, fun j v l h1 => by simp at h1⟩, dis_new (by omega) I (by omega) fun k hk => by have := (World.ownsRow.lt I k hk).2; omega, lo_new I (by omega) B.size (by omega)⟩
theorem rn_old {q2 : World} {pA g : Nat} {rv : Value} (A0 : At w0 us w rb X S) (A : At w0 us q2 rb X S) (B : Below w.heap.size w q2) (N : q2.heap[pA]? = some (.cells #[.int .i64 0, .slice none 0 0, .slice none 0 0, .slice none 0 0, .slice none 0 0] 33 (0, 0))) (I : Iw (g + 1) q2 rv (regs S)) (hA : w.heap.size = pA) (hpg : pA < g) (G : q2.heap[g]? = some (.cells #[.int .i64 0, .slice none 0 0, .slice none 0 0, .slice none 0 0, .slice none 0 0] 33 (0, 0))) (v0 v1 : Value) (h0 : v0 = .int .i64 (S.tr.length : Int)) (h1 : X.t = v1) :
    Rn w0 w us rb X S (put5 q2 g v0 v1 rv (.slice none 0 0) (.slice none 0 0)) pA g rv (.slice none 0 0) (.slice none 0 0) [] [] [] := by
  have hb := put5_but q2 g v0 v1 rv (.slice none 0 0) (.slice none 0 0)
  subst h0
  subst h1
  have hI : ∀ k, rv.ownBlock = some k → k ≠ g := fun k hk => by have := (World.ownsRow.lt I k hk).1; omega
  exact ⟨A.but hb (fun k hk c => by have := A0.lt k hk; omega) (fun k c => by have := A0.low.size; omega), fun k hk => A0.lt k hk, A0.low.size, B.trans (hb.below B.size fun k c => by omega), hb.at N (by omega), put5_heap G _ _ _ _ _, ownsRow_but (iw_low I (by omega)) hb hI, World.ownsRow_nil _ _ _ _, World.ownsRow_nil _ _ _ _, ⟨rfl, fun j v l h1 => by simp at h1⟩, dis_new (by omega) I (by omega) hI, lo_new I (by omega) (by omega) (by omega)⟩
end
theorem sld_row {w : World} {T : TypeId} {v : Value} {xs : List Value} (h : Sld w T v xs) : Row w v xs := by
  rcases h with ⟨rfl, rfl⟩ | ⟨g, off, cap, cur, rfl, h1, h2, h3, h4, h5⟩
  · exact ⟨none, 0, rfl, fun _ => ⟨rfl, rfl⟩, Nat.le_refl _, Nat.zero_le _, fun i hi => absurd hi (by simp)⟩
  · exact ⟨_, cap, rfl, (fun e => by cases e), h2, h3, fun i hi => ⟨g, off, rfl, by rw [cell_of h1, h5 i hi, List.getElem?_eq_getElem hi]⟩⟩
def endOf (S : St) (t : Tk) : Int × Int := (howS S t, t.wt)
def endsI (S : St) (i : Nat) : List (Int × Int) := (S.tk.take i).map (endOf S)
theorem endsI_succ {S : St} {i : Nat} {t : Tk} (h : S.tk[i]? = some t) : endsI S (i + 1) = endsI S i ++ [(howS S t, t.wt)] := by
  unfold endsI
  rw [List.take_add_one, h]
  simp [endOf]
theorem endsI_len {S : St} {i : Nat} (h : i ≤ S.tk.length) : (endsI S i).length = i := by simp [endsI, h]
def quesI (S : St) (i : Nat) : List (List Int) := (List.range i).map S.qu
theorem quesI_succ (S : St) (i : Nat) : quesI S (i + 1) = quesI S i ++ [S.qu i] := by simp [quesI, List.range_succ]
theorem ix4_0 (a b c d : Value) (u : World) : (Instr.index 60 (.agg #[a, b, c, d]) (.int .i64 0)).run Tryd.prog u = .ok a u := by kernel_rfl
theorem ix4_1 (a b c d : Value) (u : World) : (Instr.index 60 (.agg #[a, b, c, d]) (.int .i64 1)).run Tryd.prog u = .ok b u := by kernel_rfl
theorem ix4_2 (a b c d : Value) (u : World) : (Instr.index 60 (.agg #[a, b, c, d]) (.int .i64 2)).run Tryd.prog u = .ok c u := by kernel_rfl
theorem ix4_3 (a b c d : Value) (u : World) : (Instr.index 60 (.agg #[a, b, c, d]) (.int .i64 3)).run Tryd.prog u = .ok d u := by kernel_rfl
theorem ix4 (a b c d : Value) (j : Nat) (hj : j < 4) (u : World) : (Instr.index 60 (.agg #[a, b, c, d]) (.int .i64 (j : Int))).run Tryd.prog u = .ok (match j with | 0 => a | 1 => b | 2 => c | _ => d) u := by
  have h : j = 0 ∨ j = 1 ∨ j = 2 ∨ j = 3 := by omega
  rcases h with rfl | rfl | rfl | rfl
  · exact ix4_0 a b c d u
  · exact ix4_1 a b c d u
  · exact ix4_2 a b c d u
  · exact ix4_3 a b c d u
theorem q4 (q : Nat → Value) {j : Nat} (hj : j < 4) : (match j with | 0 => q 0 | 1 => q 1 | 2 => q 2 | _ => q 3) = q j := by
  have h : j = 0 ∨ j = 1 ∨ j = 2 ∨ j = 3 := by omega
  rcases h with rfl | rfl | rfl | rfl <;> rfl
/-- A Ran in memory of one's own, from block B on. -/
structure Rt (B : Nat) (w : World) (tv rv ev qv : Value) (vs : List Value) (tr : List (Nat × Nat)) (rg : List Int) (E : List (Int × Int)) (L : List (List Int)) : Prop where
  tr : w.ownsRow B 39 2 tv tr.length (tcells tr)
  rg : Iw B w rv rg
  en : w.ownsRow B 48 2 ev E.length (ecells E)
  qs : w.ownsRow B 29 1 qv vs.length vs
  ql : vs.length = L.length ∧ ∀ (j : Nat) (v : Value) (l : List Int), vs[j]? = some v → L[j]? = some l → Iw B w v l
  dis : ∀ i j k, tbl tv.ownBlock none rv ev qv vs i = some k → tbl tv.ownBlock none rv ev qv vs j = some k → i = j
theorem Rn.rt {w0 w u : World} {us : List Value} {rb : Nat} {X : V} {S : St} {pA g : Nat} {rv ev qv : Value} {vs : List Value} {E : List (Int × Int)} {L : List (List Int)} (h : Rn w0 w us rb X S u pA g rv ev qv vs E L) (v0 v1 v2 v3 v4 : Value) :
    Rt w0.heap.size (put5 u pA v0 v1 v2 v3 v4) X.t rv ev qv vs S.tr (regs S) E L ∧ Below w0.heap.size w0 (put5 u pA v0 v1 v2 v3 v4) := by
  have hb := put5_but u pA v0 v1 v2 v3 v4
  have hpA := h.lo 0 pA rfl
  have hT : ∀ k, X.t.ownBlock = some k → k < w.heap.size := fun k hk => h.own k ⟨2, hk⟩
  have hno : ∀ i k, tbl (some pA) (some g) rv ev qv vs i = some k → i ≠ 0 → ¬ k = pA := fun i k hk hi e => hi (h.dis i 0 k hk (by rw [e]; rfl))
  have hl := h.lo0
  refine ⟨⟨ownsRow_but h.at_.tr hb fun k hk e => by have := hT k hk; omega, ownsRow_but (iw_low h.rg hl) hb fun k hk => hno 2 k hk (by decide), ownsRow_but (row_low h.en hl) hb fun k hk => hno 3 k hk (by decide), ownsRow_but (row_low h.qs hl) hb fun k hk => hno 4 k hk (by decide), ⟨h.ql.1, fun j v l h1 h2 => ownsRow_but (iw_low (h.ql.2 j v l h1 h2) hl) hb fun k hk => hno (j + 5) k (h.vsb h1 hk) (by omega)⟩, ?_⟩, h.at_.low.trans (hb.below h.at_.low.size fun k e => by omega)⟩
  intro i j k hi hj
  have hz : ∀ i, tbl X.t.ownBlock none rv ev qv vs i = some k → (i = 0 ∧ k < w.heap.size) ∨ (i ≠ 0 ∧ w.heap.size ≤ k ∧ tbl (some pA) (some g) rv ev qv vs i = some k) := by
    intro i hi
    match i with
    | 0 => exact .inl ⟨rfl, hT k hi⟩
    | 1 => cases hi
    | n + 2 =>
      have hi' : tbl (some pA) (some g) rv ev qv vs (n + 2) = some k := by
        match n, hi with
        | 0, hi => exact hi
        | 1, hi => exact hi
        | 2, hi => exact hi
        | n + 3, hi => exact hi
      exact .inr ⟨by omega, h.lo _ k hi', hi'⟩
  rcases hz i hi with ⟨a, b⟩ | ⟨a, b, c⟩ <;> rcases hz j hj with ⟨a', b'⟩ | ⟨a', b', c'⟩
  · omega
  · omega
  · omega
  · exact h.dis i j k c c'
set_option maxHeartbeats 8000000 in
theorem told_any (w0 w : World) (us : List Value) (rb : Nat) (X : V) (S : St) (h : At w0 us w rb X S) (ok : Ok S) :
    Calls Tryd.prog 29 #[.pointer (some ⟨rb, 0, none⟩)] w fun e w' => ∃ rv ev qv, e = .returned (.agg #[.int .i64 (S.tr.length : Int), X.t, rv, ev, qv]) ∧ (∃ vs, Rt w0.heap.size w' X.t rv ev qv vs S.tr (regs S) (endsI S S.tk.length) (quesI S 4)) ∧ Below w0.heap.size w0 w' := by
  obtain ⟨ta, tc, te, t1, t2, t3⟩ := turns_form h.tr
  obtain ⟨T, hT⟩ : ∃ T, Hid (S.tr.length = T) := ⟨_, rfl⟩
  obtain ⟨n, hnn⟩ : ∃ n, Hid (S.tk.length = n) := ⟨_, rfl⟩
  have hn := ok.n
  rw [hnn.out] at hn
  rw [hT.out] at te t1 ⊢
  rw [te, hnn.out]
  have hZ0 := box_below w (.cells #[.int .i64 0, .slice none 0 0, .slice none 0 0, .slice none 0 0, .slice none 0 0] 33)
  have hN0 := heap_alloc_new w (.cells #[.int .i64 0, .slice none 0 0, .slice none 0 0, .slice none 0 0, .slice none 0 0] 33)
  obtain ⟨w1, hw1⟩ : ∃ w1, Hid (w.alloc (.cells #[.int .i64 0, .slice none 0 0, .slice none 0 0, .slice none 0 0, .slice none 0 0] 33) = w1) := ⟨_, rfl⟩
  rw [hw1.out] at hZ0 hN0
  obtain ⟨pA, hpA⟩ : ∃ pA, Hid (w.heap.size = pA) := ⟨_, rfl⟩
  rw [hpA.out] at hN0
  have A0 := hide h
  have A1 := hide (h.below hZ0)
  have B1 := hide hZ0
  have N1 := hide hN0
  have OK := hide ok
  clear h ok t3 hZ0 hN0
  go_enter Tryd.func29, Tryd.ntmps29
  go_upto_region 1 with fail
  rw [hw1.out, hpA.out]
  go_cut [3] from 8 to 22 (fun v3 wx => ∃ g, v3 = .pointer (some ⟨g, 0, none⟩) ∧ ∃ rv, Hid (Rn w0 w us rb X S wx pA g rv (.slice none 0 0) (.slice none 0 0) [] [] []))
  case first =>
    have bq : Below w1.heap.size w1 w1.drew := (Below.refl _ _).drew
    have AD := hide (A1.out.below bq)
    have BD := hide (keepF B1.out bq)
    have N1d : Hid (w1.drew.heap[pA]? = some (.cells #[.int .i64 0, .slice none 0 0, .slice none 0 0, .slice none 0 0, .slice none 0 0] 33)) := N1.out
    have KP : Hid (w1.drew.cell? ⟨rb, 22, none⟩ = some (.slice ta T tc) ∧ True) := ⟨by rw [← te]; exact AD.out.rcell.2.2, trivial⟩
    clear bq A1 B1 N1
    refine wp_region_T (fun q => q.cell? ⟨rb, 22, none⟩ = some (.slice ta T tc) ∧ True) 16 (by kernel_rfl) ?_
    generalize w1.drew = q at *
    refine wpAnyT_take (i := 0) (oi := { dst := some 8, op := Op.move (Operand.tmp 0), type := 68, pos := "run.go:93", after := #[], guard := none }) (v := .pointer (some ⟨rb, 0, none⟩)) [1, 2, 3, 4, 14, 16] rfl (by kernel_rfl) (by kernel_rfl) (by kernel_rfl) (by kernel_rfl) (fun _ _ _ h => h) (Or.inl ⟨by rfl, ?_⟩) KP.out ?_
    · intro wq hSw
      obtain ⟨y0, y1⟩ := hSw
      go_simp
    (try simp only [Act.put, List.setIfInBounds_toArray, List.set_cons_zero, List.set_cons_succ])
    refine wpAnyT_take (i := 1) (oi := { dst := some 9, op := Op.nilCheck (Operand.tmp 8), type := 0, pos := "run.go:93", after := #[{ on := 0, ground := Ground.data }], guard := none }) (v := .pointer (some ⟨rb, 0, none⟩)) [2, 3, 4, 14, 16] rfl (by kernel_rfl) (by kernel_rfl) (by kernel_rfl) (by kernel_rfl) (fun _ _ _ h => h) (Or.inl ⟨by rfl, ?_⟩) KP.out ?_
    · intro wq hSw
      obtain ⟨y0, y1⟩ := hSw
      go_simp
    (try simp only [Act.put, List.setIfInBounds_toArray, List.set_cons_zero, List.set_cons_succ])
    refine wpAnyT_take (i := 2) (oi := { dst := some 10, op := Op.fieldAddr 90 (Operand.tmp 9) 6, type := 0, pos := "run.go:93", after := #[{ on := 1, ground := Ground.data }], guard := none }) (v := .pointer (some ⟨rb, 22, none⟩)) [3, 4, 14, 16] rfl (by kernel_rfl) (by kernel_rfl) (by kernel_rfl) (by kernel_rfl) (fun _ _ _ h => h) (Or.inl ⟨by rfl, ?_⟩) KP.out ?_
    · intro wq hSw
      obtain ⟨y0, y1⟩ := hSw
      go_simp
    (try simp only [Act.put, List.setIfInBounds_toArray, List.set_cons_zero, List.set_cons_succ])
    refine wpAnyT_take (i := 3) (oi := { dst := some 11, op := Op.load 28 (Operand.tmp 10), type := 28, pos := "run.go:93", after := #[{ on := 2, ground := Ground.data }], guard := none }) (v := .slice ta T tc) [4, 14, 16] rfl (by kernel_rfl) (by kernel_rfl) (by kernel_rfl) (by kernel_rfl) (fun _ _ _ h => h) (Or.inl ⟨by rfl, ?_⟩) KP.out ?_
    · intro wq hSw
      obtain ⟨y0, y1⟩ := hSw
      go_simp
    (try simp only [Act.put, List.setIfInBounds_toArray, List.set_cons_zero, List.set_cons_succ])
    refine wpAnyT_take (i := 4) (oi := { dst := some 12, op := Op.call { callee := Callee.builtin Builtin.len, args := #[Operand.tmp 11], argTypes := #[28] }, type := 3, pos := "run.go:93", after := #[{ on := 3, ground := Ground.data }], guard := none }) (v := .int .i64 (T : Int)) [14, 16] rfl (by kernel_rfl) (by kernel_rfl) (by kernel_rfl) (by kernel_rfl) (fun _ _ _ h => h) (Or.inl ⟨by rfl, ?_⟩) KP.out ?_
    · intro wq hSw
      obtain ⟨y0, y1⟩ := hSw
      go_simp
    (try simp only [Act.put, List.setIfInBounds_toArray, List.set_cons_zero, List.set_cons_succ])
    refine wpAnyT_take (i := 5) (oi := { dst := some 13, op := Op.move (Operand.tmp 0), type := 68, pos := "run.go:93", after := #[], guard := none }) (v := .pointer (some ⟨rb, 0, none⟩)) [6, 7, 8, 14, 16] rfl (by kernel_rfl) (by kernel_rfl) (by kernel_rfl) (by kernel_rfl) (fun _ _ _ h => h) (Or.inl ⟨by rfl, ?_⟩) KP.out ?_
    · intro wq hSw
      obtain ⟨y0, y1⟩ := hSw
      go_simp
    (try simp only [Act.put, List.setIfInBounds_toArray, List.set_cons_zero, List.set_cons_succ])
    refine wpAnyT_take (i := 6) (oi := { dst := some 14, op := Op.nilCheck (Operand.tmp 13), type := 0, pos := "run.go:93", after := #[{ on := 5, ground := Ground.data }], guard := none }) (v := .pointer (some ⟨rb, 0, none⟩)) [7, 8, 14, 16] rfl (by kernel_rfl) (by kernel_rfl) (by kernel_rfl) (by kernel_rfl) (fun _ _ _ h => h) (Or.inl ⟨by rfl, ?_⟩) KP.out ?_
    · intro wq hSw
      obtain ⟨y0, y1⟩ := hSw
      go_simp
    (try simp only [Act.put, List.setIfInBounds_toArray, List.set_cons_zero, List.set_cons_succ])
    refine wpAnyT_take (i := 7) (oi := { dst := some 15, op := Op.fieldAddr 90 (Operand.tmp 14) 6, type := 0, pos := "run.go:93", after := #[{ on := 6, ground := Ground.data }], guard := none }) (v := .pointer (some ⟨rb, 22, none⟩)) [8, 14, 16] rfl (by kernel_rfl) (by kernel_rfl) (by kernel_rfl) (by kernel_rfl) (fun _ _ _ h => h) (Or.inl ⟨by rfl, ?_⟩) KP.out ?_
    · intro wq hSw
      obtain ⟨y0, y1⟩ := hSw
      go_simp
    (try simp only [Act.put, List.setIfInBounds_toArray, List.set_cons_zero, List.set_cons_succ])
    refine wpAnyT_take (i := 8) (oi := { dst := some 16, op := Op.load 28 (Operand.tmp 15), type := 28, pos := "run.go:93", after := #[{ on := 7, ground := Ground.data }], guard := none }) (v := .slice ta T tc) [14, 16] rfl (by kernel_rfl) (by kernel_rfl) (by kernel_rfl) (by kernel_rfl) (fun _ _ _ h => h) (Or.inl ⟨by rfl, ?_⟩) KP.out ?_
    · intro wq hSw
      obtain ⟨y0, y1⟩ := hSw
      go_simp
    (try simp only [Act.put, List.setIfInBounds_toArray, List.set_cons_zero, List.set_cons_succ])
    refine wpAnyT_take (i := 9) (oi := { dst := some 17, op := Op.move (Operand.tmp 0), type := 68, pos := "run.go:93", after := #[], guard := none }) (v := .pointer (some ⟨rb, 0, none⟩)) [10, 11, 12, 13, 14, 16] rfl (by kernel_rfl) (by kernel_rfl) (by kernel_rfl) (by kernel_rfl) (fun _ _ _ h => h) (Or.inl ⟨by rfl, ?_⟩) KP.out ?_
    · intro wq hSw
      obtain ⟨y0, y1⟩ := hSw
      go_simp
    (try simp only [Act.put, List.setIfInBounds_toArray, List.set_cons_zero, List.set_cons_succ])
    refine wpAnyT_take (i := 10) (oi := { dst := some 18, op := Op.nilCheck (Operand.tmp 17), type := 0, pos := "run.go:93", after := #[{ on := 9, ground := Ground.data }], guard := none }) (v := .pointer (some ⟨rb, 0, none⟩)) [11, 12, 13, 14, 16] rfl (by kernel_rfl) (by kernel_rfl) (by kernel_rfl) (by kernel_rfl) (fun _ _ _ h => h) (Or.inl ⟨by rfl, ?_⟩) KP.out ?_
    · intro wq hSw
      obtain ⟨y0, y1⟩ := hSw
      go_simp
    (try simp only [Act.put, List.setIfInBounds_toArray, List.set_cons_zero, List.set_cons_succ])
    refine wpAnyT_take (i := 11) (oi := { dst := some 19, op := Op.fieldAddr 90 (Operand.tmp 18) 5, type := 0, pos := "run.go:93", after := #[{ on := 10, ground := Ground.data }], guard := none }) (v := .pointer (some ⟨rb, 14, none⟩)) [12, 13, 14, 16] rfl (by kernel_rfl) (by kernel_rfl) (by kernel_rfl) (by kernel_rfl) (fun _ _ _ h => h) (Or.inl ⟨by rfl, ?_⟩) KP.out ?_
    · intro wq hSw
      obtain ⟨y0, y1⟩ := hSw
      go_simp
    (try simp only [Act.put, List.setIfInBounds_toArray, List.set_cons_zero, List.set_cons_succ])
    refine wpAnyT_take (i := 12) (oi := { dst := some 20, op := Op.slice 61 (Operand.tmp 19) none none none, type := 29, pos := "run.go:93", after := #[{ on := 11, ground := Ground.data }], guard := none }) (v := .slice (some ⟨rb, 14, none⟩) 8 8) [13, 14, 16] rfl (by kernel_rfl) (by kernel_rfl) (by kernel_rfl) (by kernel_rfl) (fun _ _ _ h => h) (Or.inl ⟨by rfl, ?_⟩) KP.out ?_
    · intro wq hSw
      obtain ⟨y0, y1⟩ := hSw
      go_simp
    (try simp only [Act.put, List.setIfInBounds_toArray, List.set_cons_zero, List.set_cons_succ])
    refine wpAnyT_two (i := 13) (j := 15) (oi := { dst := some 21, op := Op.call { callee := Callee.value (Operand.func 40), args := #[Operand.tmp 20], argTypes := #[29] }, type := 29, pos := "run.go:93", after := #[{ on := 12, ground := Ground.data }], guard := none }) (oj := { dst := some 3, op := Op.alloc 33, type := 0, pos := "run.go:93", after := #[], guard := none }) (by kernel_rfl) rfl rfl (fun K hK => ?_) (fun K hK => ?_)
    · have CL := hide (clone_i q (.slice (some ⟨rb, 14, none⟩) 8 8) (regs S) (AD.out.regs) (by simp [regs]))
      go_simp
      go_at_call 40
      refine CL.out.mono ?_
      rintro e q2 ⟨rv, rfl, iv, bv⟩
      (try go_simp)
      have KP2 : Hid (q2.cell? ⟨rb, 22, none⟩ = some (.slice ta T tc) ∧ True) := ⟨(bv.cell (lt_of_cell KP.out.1)).trans KP.out.1, trivial⟩
      refine hK.out _ _ (fun _ => KP2.out) ?_
      clear hK K
      (try simp only [Act.put, List.setIfInBounds_toArray, List.set_cons_zero, List.set_cons_succ])
      have A2 := hide (AD.out.below bv)
      have B2 := hide (keepF BD.out bv)
      have N2 := hide ((bv.block pA (heap_lt N1d.out)).trans N1d.out)
      have iv' : Hid (Iw (pA + 1) q2 rv (regs S)) := iw_low iv (heap_lt N1d.out)
      obtain ⟨ra', rc', hrv0, -⟩ := own_form iv
      have hrv : rv = .slice ra' 8 rc' := by rw [hrv0]; simp [regs]
      clear hrv0
      subst hrv
      clear KP AD BD N1d CL bv iv
      refine wpAnyT_take (i := 14) (oi := { dst := some 22, op := Op.build 33 #[(0, Operand.tmp 12), (1, Operand.tmp 16), (2, Operand.tmp 21)], type := 33, pos := "run.go:93", after := #[{ on := 4, ground := Ground.data }, { on := 8, ground := Ground.data }, { on := 13, ground := Ground.data }], guard := none }) (v := .agg #[.int .i64 (T : Int), .slice ta T tc, .slice ra' 8 rc', .slice none 0 0, .slice none 0 0]) [16] rfl (by kernel_rfl) (by kernel_rfl) (by kernel_rfl) (by kernel_rfl) (fun _ _ _ h => h) (Or.inl ⟨by rfl, ?_⟩) KP2.out ?_
      · intro wq hSw
        obtain ⟨y0, y1⟩ := hSw
        go_simp
      (try simp only [Act.put, List.setIfInBounds_toArray, List.set_cons_zero, List.set_cons_succ])
      refine wpAnyT_one (i := 15) (o := { dst := some 3, op := Op.alloc 33, type := 0, pos := "run.go:93", after := #[], guard := none }) (by kernel_rfl) rfl (fun K hK => ?_)
      go_simp
      refine hK.out _ _ (fun _ => ⟨alloc_cell _ KP2.out.1, trivial⟩) ?_
      clear hK K
      (try simp only [Act.put, List.setIfInBounds_toArray, List.set_cons_zero, List.set_cons_succ])
      refine wpAnyT_one (i := 16) (o := { dst := none, op := Op.store 33 (Operand.tmp 3) (Operand.tmp 22), type := 0, pos := "run.go:93", after := #[{ on := 15, ground := Ground.data }, { on := 14, ground := Ground.data }, { on := 13, ground := Ground.chain }, { on := 0, ground := Ground.phase }, { on := 1, ground := Ground.phase }, { on := 2, ground := Ground.phase }, { on := 3, ground := Ground.phase }, { on := 4, ground := Ground.phase }, { on := 5, ground := Ground.phase }, { on := 6, ground := Ground.phase }, { on := 7, ground := Ground.phase }, { on := 8, ground := Ground.phase }, { on := 9, ground := Ground.phase }, { on := 10, ground := Ground.phase }, { on := 11, ground := Ground.phase }, { on := 12, ground := Ground.phase }, { on := 13, ground := Ground.phase }, { on := 14, ground := Ground.phase }, { on := 15, ground := Ground.phase }], guard := none }) (by kernel_rfl) rfl (fun K hK => ?_)
      go_simp
      refine hK.out _ _ (vac (by kernel_rfl)) ?_
      clear hK K
      (try simp only [Act.put, List.setIfInBounds_toArray, List.set_cons_zero, List.set_cons_succ])
      refine wpAnyT_done (by kernel_rfl) ?_ _
      have RN := hide (rn_new A0.out A2.out B2.out N2.out iv'.out hpA.out (.cells #[.int .i64 (T : Int), .slice ta T tc, .slice ra' 8 rc', .slice none 0 0, .slice none 0 0] 33) (by rw [te, hT.out]))
      go_wp2_with fail
      go_meet
      case rel => exact ⟨_, rfl, _, RN.out⟩
    · go_simp
      have bz := box_below q (.cells #[.int .i64 0, .slice none 0 0, .slice none 0 0, .slice none 0 0, .slice none 0 0] 33)
      have KP1 : Hid ((q.alloc (.cells #[.int .i64 0, .slice none 0 0, .slice none 0 0, .slice none 0 0, .slice none 0 0] 33)).cell? ⟨rb, 22, none⟩ = some (.slice ta T tc) ∧ True) := ⟨alloc_cell _ KP.out.1, trivial⟩
      refine hK.out _ _ (fun _ => KP1.out) ?_
      clear hK K
      (try simp only [Act.put, List.setIfInBounds_toArray, List.set_cons_zero, List.set_cons_succ])
      have AE := hide (AD.out.below bz)
      have BE := hide (keepF BD.out bz)
      have N1e := hide ((bz.block pA (heap_lt N1d.out)).trans N1d.out)
      have NZ := hide (heap_alloc_new q (.cells #[.int .i64 0, .slice none 0 0, .slice none 0 0, .slice none 0 0, .slice none 0 0] 33))
      have hpq : Hid (pA < q.heap.size) := heap_lt N1d.out
      clear AD BD N1d KP bz
      generalize q.alloc (.cells #[.int .i64 0, .slice none 0 0, .slice none 0 0, .slice none 0 0, .slice none 0 0] 33) = q1 at *
      generalize q.heap.size = g at *
      refine wpAnyT_one (i := 13) (o := { dst := some 21, op := Op.call { callee := Callee.value (Operand.func 40), args := #[Operand.tmp 20], argTypes := #[29] }, type := 29, pos := "run.go:93", after := #[{ on := 12, ground := Ground.data }], guard := none }) (by kernel_rfl) rfl (fun K hK => ?_)
      have CL := hide (clone_i q1 (.slice (some ⟨rb, 14, none⟩) 8 8) (regs S) (AE.out.regs) (by simp [regs]))
      go_simp
      go_at_call 40
      refine CL.out.mono ?_
      rintro e q2 ⟨rv, rfl, iv, bv⟩
      (try go_simp)
      have KP2 : Hid (q2.cell? ⟨rb, 22, none⟩ = some (.slice ta T tc) ∧ True) := ⟨(bv.cell (lt_of_cell KP1.out.1)).trans KP1.out.1, trivial⟩
      refine hK.out _ _ (fun _ => KP2.out) ?_
      clear hK K
      (try simp only [Act.put, List.setIfInBounds_toArray, List.set_cons_zero, List.set_cons_succ])
      have A2 := hide (AE.out.below bv)
      have B2 := hide (keepF BE.out bv)
      have N2 := hide ((bv.block pA (heap_lt N1e.out)).trans N1e.out)
      have NG := (bv.block g (heap_lt NZ.out)).trans NZ.out
      have iv' : Hid (Iw (g + 1) q2 rv (regs S)) := iw_low iv (heap_lt NZ.out)
      obtain ⟨ra', rc', hrv0, -⟩ := own_form iv
      have hrv : rv = .slice ra' 8 rc' := by rw [hrv0]; simp [regs]
      clear hrv0
      subst hrv
      have z0 : q2.cell? ⟨g, 0, none⟩ = some (.int .i64 0) := by rw [cell_of NG]; rfl
      have z1 : q2.cell? ⟨g, 1, none⟩ = some (.slice none 0 0) := by rw [cell_of NG]; rfl
      have z2 : q2.cell? ⟨g, 2, none⟩ = some (.slice none 0 0) := by rw [cell_of NG]; rfl
      have z3 : q2.cell? ⟨g, 3, none⟩ = some (.slice none 0 0) := by rw [cell_of NG]; rfl
      have z4 : q2.cell? ⟨g, 4, none⟩ = some (.slice none 0 0) := by rw [cell_of NG]; rfl
      have x0 : q2.frozen? ⟨g, 0, none⟩ = false := frz_of NG
      have x1 : q2.frozen? ⟨g, 1, none⟩ = false := frz_of NG
      have x2 : q2.frozen? ⟨g, 2, none⟩ = false := frz_of NG
      have x3 : q2.frozen? ⟨g, 3, none⟩ = false := frz_of NG
      have x4 : q2.frozen? ⟨g, 4, none⟩ = false := frz_of NG
      have NGh := hide NG
      clear KP1 AE BE N1e CL bv iv NG NZ
      refine wpAnyT_take (i := 14) (oi := { dst := some 22, op := Op.build 33 #[(0, Operand.tmp 12), (1, Operand.tmp 16), (2, Operand.tmp 21)], type := 33, pos := "run.go:93", after := #[{ on := 4, ground := Ground.data }, { on := 8, ground := Ground.data }, { on := 13, ground := Ground.data }], guard := none }) (v := .agg #[.int .i64 (T : Int), .slice ta T tc, .slice ra' 8 rc', .slice none 0 0, .slice none 0 0]) [16] rfl (by kernel_rfl) (by kernel_rfl) (by kernel_rfl) (by kernel_rfl) (fun _ _ _ h => h) (Or.inl ⟨by rfl, ?_⟩) KP2.out ?_
      · intro wq hSw
        obtain ⟨y0, y1⟩ := hSw
        go_simp
      (try simp only [Act.put, List.setIfInBounds_toArray, List.set_cons_zero, List.set_cons_succ])
      refine wpAnyT_one (i := 16) (o := { dst := none, op := Op.store 33 (Operand.tmp 3) (Operand.tmp 22), type := 0, pos := "run.go:93", after := #[{ on := 15, ground := Ground.data }, { on := 14, ground := Ground.data }, { on := 13, ground := Ground.chain }, { on := 0, ground := Ground.phase }, { on := 1, ground := Ground.phase }, { on := 2, ground := Ground.phase }, { on := 3, ground := Ground.phase }, { on := 4, ground := Ground.phase }, { on := 5, ground := Ground.phase }, { on := 6, ground := Ground.phase }, { on := 7, ground := Ground.phase }, { on := 8, ground := Ground.phase }, { on := 9, ground := Ground.phase }, { on := 10, ground := Ground.phase }, { on := 11, ground := Ground.phase }, { on := 12, ground := Ground.phase }, { on := 13, ground := Ground.phase }, { on := 14, ground := Ground.phase }, { on := 15, ground := Ground.phase }], guard := none }) (by kernel_rfl) rfl (fun K hK => ?_)
      go_simp
      refine hK.out _ _ (vac (by kernel_rfl)) ?_
      clear hK K
      (try simp only [Act.put, List.setIfInBounds_toArray, List.set_cons_zero, List.set_cons_succ])
      refine wpAnyT_done (by kernel_rfl) ?_ _
      have RN := hide (rn_old A0.out A2.out B2.out N2.out iv'.out hpA.out hpq.out NGh.out (.int .i64 (T : Int)) (.slice ta T tc) (by rw [hT.out]) te)
      go_wp2_with fail
      go_meet
      case rel => exact ⟨_, rfl, _, RN.out⟩
  case rest =>
    obtain ⟨g, rfl, rv, RN⟩ := hcut
    have c0 := RN.out.at_.rcell.1
    rw [hnn.out] at c0
    go_upto_region 3 with fail
    clear c0
    go_loopw [28] (fun s wr => ∃ (i : Nat) (ev : Value), s = .int .i64 (i : Int) ∧ i ≤ n ∧ Hid (Rn w0 w us rb X S wr pA g rv ev (.slice none 0 0) [] (endsI S i) [])) (fun s wr => n - (intOf s).toNat)
    case atStart => exact ⟨0, _, rfl, Nat.zero_le _, RN.out⟩
    case round =>
    obtain ⟨i, ev, rfl, hin, hst⟩ := hrel
    by_cases hlt : i < n
    · have i1 : (i : Int) < (n : Int) := by omega
      obtain ⟨t, ht0⟩ : ∃ t, S.tk[i]? = some t := ⟨_, List.getElem?_eq_getElem (by rw [hnn.out]; exact hlt)⟩
      have ht := hide ht0
      have hel : Hid ((endsI S i).length = i) := endsI_len (by rw [hnn.out]; exact hin)
      obtain ⟨ea, ec, hev, -⟩ := own_form hst.out.en
      rw [hel.out] at hev
      subst hev
      have c0 := hst.out.at_.rcell.1
      rw [hnn.out] at c0
      clear ht0 RN
      go_upto_region 6 with fail
      clear c0
      have bq : Below wr.heap.size wr wr.drew := (Below.refl _ _).drew
      have RD := hide (hst.out.below bq)
      have r3 : wr.drew.cell? ⟨g, 3, none⟩ = some (.slice ea i ec) := by rw [cell_of RD.out.rn]; rfl
      have KP : Hid (wr.drew.cell? ⟨g, 3, none⟩ = some (.slice ea i ec) ∧ wr.drew.cell? ⟨X.tb, i * 7 + 6, none⟩ = some (.int .i64 t.wt)) := ⟨r3, (RD.out.at_.tcell ht.out).2.2.2.2.2.2⟩
      clear bq hst r3
      refine wp_region_T (fun q => q.cell? ⟨g, 3, none⟩ = some (.slice ea i ec) ∧ q.cell? ⟨X.tb, i * 7 + 6, none⟩ = some (.int .i64 t.wt)) 13 (by kernel_rfl) ?_
      generalize wr.drew = q at *
      refine wpAnyT_take (i := 0) (oi := { dst := some 37, op := Op.fieldAddr 33 (Operand.tmp 3) 3, type := 0, pos := "run.go:96", after := #[], guard := none }) (v := .pointer (some ⟨g, 3, none⟩)) [1, 11, 13] rfl (by kernel_rfl) (by kernel_rfl) (by kernel_rfl) (by kernel_rfl) (fun _ _ _ h => h) (Or.inl ⟨by rfl, ?_⟩) KP.out ?_
      · intro wq hSw
        obtain ⟨y0, y1⟩ := hSw
        go_simp
      (try simp only [Act.put, List.setIfInBounds_toArray, List.set_cons_zero, List.set_cons_succ])
      refine wpAnyT_take (i := 1) (oi := { dst := some 38, op := Op.load 30 (Operand.tmp 37), type := 30, pos := "run.go:96", after := #[{ on := 0, ground := Ground.data }], guard := none }) (v := .slice ea i ec) [11, 13] rfl (by kernel_rfl) (by kernel_rfl) (by kernel_rfl) (by kernel_rfl) (fun _ _ _ h => h) (Or.inl ⟨by rfl, ?_⟩) KP.out ?_
      · intro wq hSw
        obtain ⟨y0, y1⟩ := hSw
        go_simp
      (try simp only [Act.put, List.setIfInBounds_toArray, List.set_cons_zero, List.set_cons_succ])
      refine wpAnyT_take (i := 2) (oi := { dst := some 39, op := Op.move (Operand.tmp 0), type := 68, pos := "run.go:96", after := #[], guard := none }) (v := .pointer (some ⟨rb, 0, none⟩)) [4, 9, 10, 11, 13] rfl (by kernel_rfl) (by kernel_rfl) (by kernel_rfl) (by kernel_rfl) (fun _ _ _ h => h) (Or.inl ⟨by rfl, ?_⟩) KP.out ?_
      · intro wq hSw
        obtain ⟨y0, y1⟩ := hSw
        go_simp
      (try simp only [Act.put, List.setIfInBounds_toArray, List.set_cons_zero, List.set_cons_succ])
      refine wpAnyT_take (i := 3) (oi := { dst := some 40, op := Op.move (Operand.tmp 5), type := 85, pos := "run.go:96", after := #[], guard := none }) (v := .pointer (some ⟨X.tb, i * 7, none⟩)) [4, 9, 10, 11, 13] rfl (by kernel_rfl) (by kernel_rfl) (by kernel_rfl) (by kernel_rfl) (fun _ _ _ h => h) (Or.inl ⟨by rfl, ?_⟩) KP.out ?_
      · intro wq hSw
        obtain ⟨y0, y1⟩ := hSw
        go_simp
      (try simp only [Act.put, List.setIfInBounds_toArray, List.set_cons_zero, List.set_cons_succ])
      refine wpAnyT_take (i := 5) (oi := { dst := some 42, op := Op.move (Operand.tmp 5), type := 85, pos := "run.go:96", after := #[], guard := none }) (v := .pointer (some ⟨X.tb, i * 7, none⟩)) [6, 7, 8, 9, 10, 11, 13] rfl (by kernel_rfl) (by kernel_rfl) (by kernel_rfl) (by kernel_rfl) (fun _ _ _ h => h) (Or.inl ⟨by rfl, ?_⟩) KP.out ?_
      · intro wq hSw
        obtain ⟨y0, y1⟩ := hSw
        go_simp
      (try simp only [Act.put, List.setIfInBounds_toArray, List.set_cons_zero, List.set_cons_succ])
      refine wpAnyT_take (i := 6) (oi := { dst := some 43, op := Op.nilCheck (Operand.tmp 42), type := 0, pos := "run.go:96", after := #[{ on := 5, ground := Ground.data }], guard := none }) (v := .pointer (some ⟨X.tb, i * 7, none⟩)) [7, 8, 9, 10, 11, 13] rfl (by kernel_rfl) (by kernel_rfl) (by kernel_rfl) (by kernel_rfl) (fun _ _ _ h => h) (Or.inl ⟨by rfl, ?_⟩) KP.out ?_
      · intro wq hSw
        obtain ⟨y0, y1⟩ := hSw
        go_simp
      (try simp only [Act.put, List.setIfInBounds_toArray, List.set_cons_zero, List.set_cons_succ])
      refine wpAnyT_take (i := 7) (oi := { dst := some 44, op := Op.fieldAddr 93 (Operand.tmp 43) 6, type := 0, pos := "run.go:96", after := #[{ on := 6, ground := Ground.data }], guard := none }) (v := .pointer (some ⟨X.tb, i * 7 + 6, none⟩)) [8, 9, 10, 11, 13] rfl (by kernel_rfl) (by kernel_rfl) (by kernel_rfl) (by kernel_rfl) (fun _ _ _ h => h) (Or.inl ⟨by rfl, ?_⟩) KP.out ?_
      · intro wq hSw
        obtain ⟨y0, y1⟩ := hSw
        go_simp
      (try simp only [Act.put, List.setIfInBounds_toArray, List.set_cons_zero, List.set_cons_succ])
      refine wpAnyT_take (i := 8) (oi := { dst := some 45, op := Op.load 2 (Operand.tmp 44), type := 2, pos := "run.go:96", after := #[{ on := 7, ground := Ground.data }], guard := none }) (v := .int .i64 t.wt) [9, 10, 11, 13] rfl (by kernel_rfl) (by kernel_rfl) (by kernel_rfl) (by kernel_rfl) (fun _ _ _ h => h) (Or.inl ⟨by rfl, ?_⟩) KP.out ?_
      · intro wq hSw
        obtain ⟨y0, y1⟩ := hSw
        go_simp
      (try simp only [Act.put, List.setIfInBounds_toArray, List.set_cons_zero, List.set_cons_succ])
      refine wpAnyT_one (i := 4) (o := { dst := some 41, op := Op.call { callee := Callee.value (Operand.func 41), args := #[Operand.tmp 39, Operand.tmp 40], argTypes := #[68, 85] }, type := 3, pos := "run.go:96", after := #[{ on := 2, ground := Ground.data }, { on := 3, ground := Ground.data }], guard := none }) (by kernel_rfl) rfl (fun K hK => ?_)
      have HW := hide (how_any w0 q us rb X S RD.out.at_ OK.out ht.out)
      go_simp
      go_at_call 41
      refine HW.out.mono ?_
      rintro e q2 ⟨rfl, bv⟩
      (try go_simp)
      have KP2 : Hid (q2.cell? ⟨g, 3, none⟩ = some (.slice ea i ec) ∧ q2.cell? ⟨X.tb, i * 7 + 6, none⟩ = some (.int .i64 t.wt)) := ⟨(bv.cell (lt_of_cell KP.out.1)).trans KP.out.1, (bv.cell (lt_of_cell KP.out.2)).trans KP.out.2⟩
      refine hK.out _ _ (fun _ => KP2.out) ?_
      clear hK K
      (try simp only [Act.put, List.setIfInBounds_toArray, List.set_cons_zero, List.set_cons_succ])
      have RD2 := hide (RD.out.below bv)
      obtain ⟨hw, hhw⟩ : ∃ hw, Hid (howS S t = hw) := ⟨_, rfl⟩
      rw [hhw.out]
      clear HW RD KP bv
      refine wpAnyT_take (i := 9) (oi := { dst := some 46, op := Op.build 48 #[(0, Operand.tmp 41), (1, Operand.tmp 45)], type := 48, pos := "run.go:96", after := #[{ on := 4, ground := Ground.data }, { on := 8, ground := Ground.data }], guard := none }) (v := .agg #[.int .i64 hw, .int .i64 t.wt]) [10, 11, 13] rfl (by kernel_rfl) (by kernel_rfl) (by kernel_rfl) (by kernel_rfl) (fun _ _ _ h => h) (Or.inl ⟨by rfl, ?_⟩) KP2.out ?_
      · intro wq hSw
        obtain ⟨y0, y1⟩ := hSw
        go_simp
      (try simp only [Act.put, List.setIfInBounds_toArray, List.set_cons_zero, List.set_cons_succ])
      refine wpAnyT_one (i := 10) (o := { dst := some 47, op := Op.buildSlice 30 1 #[(0, Operand.tmp 46)], type := 30, pos := "run.go:96", after := #[{ on := 9, ground := Ground.data }], guard := none }) (by kernel_rfl) rfl (fun K hK => ?_)
      go_simp
      refine hK.out _ _ (fun _ => ⟨alloc_cell _ KP2.out.1, alloc_cell _ KP2.out.2⟩) ?_
      clear hK K
      (try simp only [Act.put, List.setIfInBounds_toArray, List.set_cons_zero, List.set_cons_succ])
      have B3 := box_below q2 (.cells #[.int .i64 hw, .int .i64 t.wt] 48)
      have c0 : (q2.alloc (.cells #[.int .i64 hw, .int .i64 t.wt] 48)).cell? ⟨q2.heap.size, 0, none⟩ = some (.int .i64 hw) := by rw [cell_of (heap_alloc_new q2 (.cells #[.int .i64 hw, .int .i64 t.wt] 48))]; rfl
      have c1 : (q2.alloc (.cells #[.int .i64 hw, .int .i64 t.wt] 48)).cell? ⟨q2.heap.size, 1, none⟩ = some (.int .i64 t.wt) := by rw [cell_of (heap_alloc_new q2 (.cells #[.int .i64 hw, .int .i64 t.wt] 48))]; rfl
      have R4 := RD2.out.below B3
      have KW : Hid ((q2.alloc (.cells #[.int .i64 hw, .int .i64 t.wt] 48)).cell? ⟨X.tb, i * 7 + 6, none⟩ = some (.int .i64 t.wt)) := alloc_cell _ KP2.out.2
      clear KP2 RD2 B3
      generalize q2.alloc (.cells #[.int .i64 hw, .int .i64 t.wt] 48) = q4 at *
      generalize q2.heap.size = g3 at *
      obtain ⟨v', q5, r4, M4, G4, X4⟩ := run_appE (hw, t.wt) g3 R4.en c0 c1 (by have := hel.out; omega) (R4.lw.size) 30
      obtain ⟨Z1, Z2, Z3⟩ := R4.addE G4 M4 X4
      have ZZ : Hid (Rn w0 w us rb X S (q5.setCell ⟨g, 3, none⟩ v') pA g rv v' (.slice none 0 0) [] (endsI S (i + 1)) []) := by
        rw [endsI_succ ht.out, hhw.out]
        exact Z1
      have K4 : Hid (q5.cell? ⟨g, 3, none⟩ = some (.slice ea i ec) ∧ q5.cell? ⟨X.tb, i * 7 + 6, none⟩ = some (.int .i64 t.wt)) := by
        refine ⟨Z2, ?_⟩
        refine (World.cell?_of_block (G4.block X.tb (R4.at_.lt _ ⟨1, rfl⟩) fun e => ?_)).trans KW.out
        have h1 := R4.own X.tb ⟨1, rfl⟩
        have h2 := R4.lo 3 X.tb e.symm
        omega
      obtain ⟨a7, c7, e7, -⟩ := own_form M4
      rw [hel.out] at e7
      subst e7
      clear R4 M4 G4 X4 Z1 Z2 c0 c1 KW
      replace r4 := hide r4
      refine wpAnyT_one (i := 11) (o := { dst := some 48, op := Op.call { callee := Callee.builtin Builtin.append, args := #[Operand.tmp 38, Operand.tmp 47], argTypes := #[30, 30] }, type := 30, pos := "run.go:96", after := #[{ on := 1, ground := Ground.data }, { on := 10, ground := Ground.data }, { on := 4, ground := Ground.chain }], guard := none }) (by kernel_rfl) rfl (fun K hK => ?_)
      rw [if_pos (by simp [Region.wanted])]
      refine Lib.wp_append_run _ (.tmp 38) (.tmp 47) 30 30 rfl (.slice ea i ec) (.slice (some ⟨g3, 0, none⟩) 1 1) (by simp [Act.eval]) (by simp [Act.eval]) _ q5 r4.out ?_
      refine hK.out _ _ (fun _ => K4.out) ?_
      clear hK K
      (try simp only [Act.put, List.setIfInBounds_toArray, List.set_cons_zero, List.set_cons_succ])
      refine wpAnyT_one (i := 12) (o := { dst := some 49, op := Op.fieldAddr 33 (Operand.tmp 3) 3, type := 0, pos := "run.go:96", after := #[{ on := 0, ground := Ground.phase }, { on := 1, ground := Ground.phase }, { on := 2, ground := Ground.phase }, { on := 3, ground := Ground.phase }, { on := 4, ground := Ground.phase }, { on := 5, ground := Ground.phase }, { on := 6, ground := Ground.phase }, { on := 7, ground := Ground.phase }, { on := 8, ground := Ground.phase }, { on := 9, ground := Ground.phase }, { on := 10, ground := Ground.phase }, { on := 11, ground := Ground.phase }], guard := none }) (by kernel_rfl) rfl (fun K hK => ?_)
      go_simp
      refine hK.out _ _ (fun _ => K4.out) ?_
      clear hK K
      (try simp only [Act.put, List.setIfInBounds_toArray, List.set_cons_zero, List.set_cons_succ])
      have k4 := K4.out.1
      clear K4 r4
      refine wpAnyT_one (i := 13) (o := { dst := none, op := Op.store 30 (Operand.tmp 49) (Operand.tmp 48), type := 0, pos := "run.go:96", after := #[{ on := 12, ground := Ground.data }, { on := 11, ground := Ground.data }, { on := 11, ground := Ground.chain }, { on := 0, ground := Ground.phase }, { on := 1, ground := Ground.phase }, { on := 2, ground := Ground.phase }, { on := 3, ground := Ground.phase }, { on := 4, ground := Ground.phase }, { on := 5, ground := Ground.phase }, { on := 6, ground := Ground.phase }, { on := 7, ground := Ground.phase }, { on := 8, ground := Ground.phase }, { on := 9, ground := Ground.phase }, { on := 10, ground := Ground.phase }, { on := 11, ground := Ground.phase }], guard := none }) (by kernel_rfl) rfl (fun K hK => ?_)
      go_simp
      refine hK.out _ _ (vac (by kernel_rfl)) ?_
      clear hK K
      (try simp only [Act.put, List.setIfInBounds_toArray, List.set_cons_zero, List.set_cons_succ])
      refine wpAnyT_done (by kernel_rfl) ?_ _
      clear Z3 k4
      generalize q5.setCell ⟨g, 3, none⟩ (.slice a7 (i + 1) c7) = q6 at *
      go_wp2_with fail
      go_roundw
      case rel => exact ⟨i + 1, _, by go_num, hlt, ZZ.out⟩
      case measure => simp only [intOf]; omega
    · obtain rfl : i = n := by omega
      have i1 : ¬ (i : Int) < (i : Int) := by omega
      obtain ⟨E, hE⟩ : ∃ E, Hid (endsI S i = E) := ⟨_, rfl⟩
      rw [hE.out] at hst
      have q0 := hst.out.at_.qcell (i := 0) (by decide)
      have q1 := hst.out.at_.qcell (i := 1) (by decide)
      have q2 := hst.out.at_.qcell (i := 2) (by decide)
      have q3 := hst.out.at_.qcell (i := 3) (by decide)
      clear RN
      go_upto_region 9 with fail
      clear q0 q1 q2 q3
      go_loopw [55] (fun s wr => ∃ (j : Nat) (qv : Value) (vs : List Value), s = .int .i64 (j : Int) ∧ j ≤ 4 ∧ Hid (Rn w0 w us rb X S wr pA g rv ev qv vs E (quesI S j))) (fun s wr => 4 - (intOf s).toNat)
      case atStart => exact ⟨0, _, _, rfl, by omega, hst.out⟩
      case round =>
      replace hst := hst
      clear hst i1 hin
      obtain ⟨j, qv, vs, rfl, hjn, hst⟩ := hrel
      have hvl : Hid (vs.length = j) := by show _ = _; rw [hst.out.ql.1]; simp [quesI]
      obtain ⟨qa, qc, hqv, -⟩ := own_form hst.out.qs
      rw [hvl.out] at hqv
      subst hqv
      by_cases hj : j < 4
      · have i1 : (j : Int) < 4 := by omega
        obtain ⟨xa, xc, hx⟩ := (hst.out.at_.qu j hj).form
        obtain ⟨xn, hxn⟩ : ∃ xn, Hid (((S.qu j).map (Value.int .i64)).length = xn) := ⟨_, rfl⟩
        rw [hxn.out] at hx
        have hxv := hide hx
        have hql : Hid ((S.qu j).length ≤ 100) := by show _ ≤ _; have := OK.out.qu j; have := OK.out.r2; omega
        have IX : ∀ u : World, (Instr.index 60 (.agg #[X.q 0, X.q 1, X.q 2, X.q 3]) (.int .i64 (j : Int))).run Tryd.prog u = .ok (.slice xa xn xc) u := by
          intro u
          rw [← hx]
          rw [← q4 X.q hj]
          exact ix4 _ _ _ _ _ hj u
        clear hx
        go_upto_region 11 with fail
        clear IX
        have bq : Below wr.heap.size wr wr.drew := (Below.refl _ _).drew
        have RD := hide (hst.out.below bq)
        have r3 : wr.drew.cell? ⟨g, 4, none⟩ = some (.slice qa j qc) := by rw [cell_of RD.out.rn]; rfl
        have KP : Hid (wr.drew.cell? ⟨g, 4, none⟩ = some (.slice qa j qc) ∧ True) := ⟨r3, trivial⟩
        clear bq hst r3
        refine wp_region_T (fun q => q.cell? ⟨g, 4, none⟩ = some (.slice qa j qc) ∧ True) 7 (by kernel_rfl) ?_
        generalize wr.drew = q at *
        refine wpAnyT_take (i := 0) (oi := { dst := some 58, op := Op.fieldAddr 33 (Operand.tmp 3) 4, type := 0, pos := "run.go:99", after := #[], guard := none }) (v := .pointer (some ⟨g, 4, none⟩)) [1, 5, 7] rfl (by kernel_rfl) (by kernel_rfl) (by kernel_rfl) (by kernel_rfl) (fun _ _ _ h => h) (Or.inl ⟨by rfl, ?_⟩) KP.out ?_
        · intro wq hSw
          obtain ⟨y0, y1⟩ := hSw
          go_simp
        (try simp only [Act.put, List.setIfInBounds_toArray, List.set_cons_zero, List.set_cons_succ])
        refine wpAnyT_take (i := 1) (oi := { dst := some 59, op := Op.load 31 (Operand.tmp 58), type := 31, pos := "run.go:99", after := #[{ on := 0, ground := Ground.data }], guard := none }) (v := .slice qa j qc) [5, 7] rfl (by kernel_rfl) (by kernel_rfl) (by kernel_rfl) (by kernel_rfl) (fun _ _ _ h => h) (Or.inl ⟨by rfl, ?_⟩) KP.out ?_
        · intro wq hSw
          obtain ⟨y0, y1⟩ := hSw
          go_simp
        (try simp only [Act.put, List.setIfInBounds_toArray, List.set_cons_zero, List.set_cons_succ])
        refine wpAnyT_take (i := 2) (oi := { dst := some 60, op := Op.move (Operand.tmp 7), type := 29, pos := "run.go:99", after := #[], guard := none }) (v := .slice xa xn xc) [3, 4, 5, 7] rfl (by kernel_rfl) (by kernel_rfl) (by kernel_rfl) (by kernel_rfl) (fun _ _ _ h => h) (Or.inl ⟨by rfl, ?_⟩) KP.out ?_
        · intro wq hSw
          obtain ⟨y0, y1⟩ := hSw
          go_simp
        (try simp only [Act.put, List.setIfInBounds_toArray, List.set_cons_zero, List.set_cons_succ])
        refine wpAnyT_one (i := 3) (o := { dst := some 61, op := Op.call { callee := Callee.value (Operand.func 40), args := #[Operand.tmp 60], argTypes := #[29] }, type := 29, pos := "run.go:99", after := #[{ on := 2, ground := Ground.data }], guard := none }) (by kernel_rfl) rfl (fun K hK => ?_)
        have CL := hide (clone_i q (.slice xa xn xc) (S.qu j) (sld_row (by rw [← hxv.out]; exact RD.out.at_.qu j hj)) hql.out)
        go_simp
        go_at_call 40
        refine CL.out.mono ?_
        rintro e q2 ⟨cv, rfl, iv, bv⟩
        (try go_simp)
        have KP2 : Hid (q2.cell? ⟨g, 4, none⟩ = some (.slice qa j qc) ∧ True) := ⟨(bv.cell (lt_of_cell KP.out.1)).trans KP.out.1, trivial⟩
        refine hK.out _ _ (fun _ => KP2.out) ?_
        clear hK K
        (try simp only [Act.put, List.setIfInBounds_toArray, List.set_cons_zero, List.set_cons_succ])
        obtain ⟨ya, yc, hcv, -⟩ := own_form iv
        obtain ⟨yn, hyn⟩ : ∃ yn, Hid ((S.qu j).length = yn) := ⟨_, rfl⟩
        rw [hyn.out] at hcv
        subst hcv
        have IV := hide iv
        have BV := hide bv
        clear CL KP iv bv
        refine wpAnyT_one (i := 4) (o := { dst := some 62, op := Op.buildSlice 31 1 #[(0, Operand.tmp 61)], type := 31, pos := "run.go:99", after := #[{ on := 3, ground := Ground.data }], guard := none }) (by kernel_rfl) rfl (fun K hK => ?_)
        go_simp
        refine hK.out _ _ (fun _ => ⟨alloc_cell _ KP2.out.1, trivial⟩) ?_
        clear hK K
        (try simp only [Act.put, List.setIfInBounds_toArray, List.set_cons_zero, List.set_cons_succ])
        have B3 := box_below q2 (.cells #[.slice ya yn yc] 29)
        have c0 : (q2.alloc (.cells #[.slice ya yn yc] 29)).cell? ⟨q2.heap.size, 0, none⟩ = some (.slice ya yn yc) := by rw [cell_of (heap_alloc_new q2 (.cells #[.slice ya yn yc] 29))]; rfl
        have b4 := keepF BV.out B3
        have I4 := row_below IV.out B3
        have R4 := RD.out.below b4
        clear KP2 BV IV B3
        generalize q2.alloc (.cells #[.slice ya yn yc] 29) = q4 at *
        generalize q2.heap.size = g3 at *
        obtain ⟨v', q5, r4, M4, G4, X4⟩ := run_appW (.slice ya yn yc) rfl g3 R4.qs c0 (by have := hvl.out; omega) (R4.lw.size) 31
        obtain ⟨Z1, Z2, Z3⟩ := RD.out.addQ b4 I4 G4 M4 X4
        have ZZ : Hid (Rn w0 w us rb X S (q5.setCell ⟨g, 4, none⟩ v') pA g rv ev v' (vs ++ [.slice ya yn yc]) E (quesI S (j + 1))) := by
          rw [quesI_succ]
          exact Z1
        have K4 : Hid (q5.cell? ⟨g, 4, none⟩ = some (.slice qa j qc) ∧ True) := ⟨Z2, trivial⟩
        obtain ⟨a7, c7, e7, -⟩ := own_form M4
        rw [hvl.out] at e7
        subst e7
        clear RD R4 M4 G4 X4 Z1 Z2 c0 b4 I4
        replace r4 := hide r4
        refine wpAnyT_one (i := 5) (o := { dst := some 63, op := Op.call { callee := Callee.builtin Builtin.append, args := #[Operand.tmp 59, Operand.tmp 62], argTypes := #[31, 31] }, type := 31, pos := "run.go:99", after := #[{ on := 1, ground := Ground.data }, { on := 4, ground := Ground.data }, { on := 3, ground := Ground.chain }], guard := none }) (by kernel_rfl) rfl (fun K hK => ?_)
        rw [if_pos (by simp [Region.wanted])]
        refine Lib.wp_append_run _ (.tmp 59) (.tmp 62) 31 31 rfl (.slice qa j qc) (.slice (some ⟨g3, 0, none⟩) 1 1) (by simp [Act.eval]) (by simp [Act.eval]) _ q5 r4.out ?_
        refine hK.out _ _ (fun _ => K4.out) ?_
        clear hK K
        (try simp only [Act.put, List.setIfInBounds_toArray, List.set_cons_zero, List.set_cons_succ])
        refine wpAnyT_one (i := 6) (o := { dst := some 64, op := Op.fieldAddr 33 (Operand.tmp 3) 4, type := 0, pos := "run.go:99", after := #[{ on := 0, ground := Ground.phase }, { on := 1, ground := Ground.phase }, { on := 2, ground := Ground.phase }, { on := 3, ground := Ground.phase }, { on := 4, ground := Ground.phase }, { on := 5, ground := Ground.phase }], guard := none }) (by kernel_rfl) rfl (fun K hK => ?_)
        go_simp
        refine hK.out _ _ (fun _ => K4.out) ?_
        clear hK K
        (try simp only [Act.put, List.setIfInBounds_toArray, List.set_cons_zero, List.set_cons_succ])
        have k4 := K4.out.1
        clear K4 r4
        refine wpAnyT_one (i := 7) (o := { dst := none, op := Op.store 31 (Operand.tmp 64) (Operand.tmp 63), type := 0, pos := "run.go:99", after := #[{ on := 6, ground := Ground.data }, { on := 5, ground := Ground.data }, { on := 5, ground := Ground.chain }, { on := 0, ground := Ground.phase }, { on := 1, ground := Ground.phase }, { on := 2, ground := Ground.phase }, { on := 3, ground := Ground.phase }, { on := 4, ground := Ground.phase }, { on := 5, ground := Ground.phase }], guard := none }) (by kernel_rfl) rfl (fun K hK => ?_)
        go_simp
        refine hK.out _ _ (vac (by kernel_rfl)) ?_
        clear hK K
        (try simp only [Act.put, List.setIfInBounds_toArray, List.set_cons_zero, List.set_cons_succ])
        refine wpAnyT_done (by kernel_rfl) ?_ _
        clear Z3 k4
        generalize q5.setCell ⟨g, 4, none⟩ (.slice a7 (j + 1) c7) = q6 at *
        go_wp2_with fail
        go_roundw
        case rel => exact ⟨j + 1, _, _, by go_num, hj, ZZ.out⟩
        case measure => simp only [intOf]; omega
      · obtain rfl : j = 4 := by omega
        have i1 : ¬ ((4 : Nat) : Int) < 4 := by omega
        have NN := hst.out.rn
        rw [te, hT.out] at NN
        obtain ⟨r1, r2, hr, -⟩ := own_form hst.out.rg
        obtain ⟨y1, y2, hy, -⟩ := own_form hst.out.en
        have FIN := hide hst.out.rt
        rw [hr, hy] at NN FIN
        have PP := hst.out.bx
        have e0 : wr.cell? ⟨g, 0, none⟩ = some (.int .i64 (T : Int)) := by rw [cell_of NN]; rfl
        have e1 : wr.cell? ⟨g, 1, none⟩ = some (.slice ta T tc) := by rw [cell_of NN]; rfl
        have e2 : wr.cell? ⟨g, 2, none⟩ = some (.slice r1 (regs S).length r2) := by rw [cell_of NN]; rfl
        have e3 : wr.cell? ⟨g, 3, none⟩ = some (.slice y1 E.length y2) := by rw [cell_of NN]; rfl
        have e4 : wr.cell? ⟨g, 4, none⟩ = some (.slice qa 4 qc) := by rw [cell_of NN]; rfl
        have z0 : wr.cell? ⟨pA, 0, none⟩ = some (.int .i64 0) := by rw [cell_of PP]; rfl
        have z1 : wr.cell? ⟨pA, 1, none⟩ = some (.slice none 0 0) := by rw [cell_of PP]; rfl
        have z2 : wr.cell? ⟨pA, 2, none⟩ = some (.slice none 0 0) := by rw [cell_of PP]; rfl
        have z3 : wr.cell? ⟨pA, 3, none⟩ = some (.slice none 0 0) := by rw [cell_of PP]; rfl
        have z4 : wr.cell? ⟨pA, 4, none⟩ = some (.slice none 0 0) := by rw [cell_of PP]; rfl
        have x0 : wr.frozen? ⟨pA, 0, none⟩ = false := frz_of PP
        have x1 : wr.frozen? ⟨pA, 1, none⟩ = false := frz_of PP
        have x2 : wr.frozen? ⟨pA, 2, none⟩ = false := frz_of PP
        have x3 : wr.frozen? ⟨pA, 3, none⟩ = false := frz_of PP
        have x4 : wr.frozen? ⟨pA, 4, none⟩ = false := frz_of PP
        have PH := hide (put5_heap PP (.int .i64 (T : Int)) (.slice ta T tc) (.slice r1 (regs S).length r2) (.slice y1 E.length y2) (.slice qa 4 qc))
        obtain ⟨GL, hGL⟩ : ∃ GL, Hid ((regs S).length = GL) := ⟨_, rfl⟩
        obtain ⟨EL, hEL⟩ : ∃ EL, Hid (E.length = EL) := ⟨_, rfl⟩
        have F2 : Hid (Rt w0.heap.size (put5 wr pA (.int .i64 (T : Int)) (.slice ta T tc) (.slice r1 (regs S).length r2) (.slice y1 E.length y2) (.slice qa 4 qc)) X.t (.slice r1 (regs S).length r2) (.slice y1 E.length y2) (.slice qa 4 qc) vs S.tr (regs S) (endsI S i) (quesI S 4) ∧ Below w0.heap.size w0 (put5 wr pA (.int .i64 (T : Int)) (.slice ta T tc) (.slice r1 (regs S).length r2) (.slice y1 E.length y2) (.slice qa 4 qc))) := by
          show _ ∧ _
          rw [hE.out]
          exact FIN.out _ _ _ _ _
        rw [te] at F2
        clear NN PP FIN hst hr hy hvl
        simp only [hGL.out, hEL.out] at e2 e3 F2 PH
        go_wp2_with fail
        show bodyPost _ _ _ _ _ (put5 wr pA (.int .i64 (T : Int)) (.slice ta T tc) (.slice r1 GL r2) (.slice y1 EL y2) (.slice qa 4 qc))
        generalize put5 wr pA (.int .i64 (T : Int)) (.slice ta T tc) (.slice r1 GL r2) (.slice y1 EL y2) (.slice qa 4 qc) = w5 at *
        have k0 : w5.cell? ⟨pA, 0, none⟩ = some (.int .i64 (T : Int)) := by rw [cell_of PH.out]; rfl
        have k1 : w5.cell? ⟨pA, 1, none⟩ = some (.slice ta T tc) := by rw [cell_of PH.out]; rfl
        have k2 : w5.cell? ⟨pA, 2, none⟩ = some (.slice r1 GL r2) := by rw [cell_of PH.out]; rfl
        have k3 : w5.cell? ⟨pA, 3, none⟩ = some (.slice y1 EL y2) := by rw [cell_of PH.out]; rfl
        have k4 : w5.cell? ⟨pA, 4, none⟩ = some (.slice qa 4 qc) := by rw [cell_of PH.out]; rfl
        refine bodyPost_ret (by simp [results, Tryd.results29, go_sem, k0, k1, k2, k3, k4]; rfl) rfl ?_
        exact ⟨_, _, _, rfl, ⟨vs, F2.out.1⟩, F2.out.2⟩
end Go.Proofs.YtiiinpmkidobgaaDoor.Sd

/-
  Run, Ready.
-/
namespace Go.Proofs.YtiiinpmkidobgaaDoor.Sd
open Go.RowKit
set_option linter.unusedVariables false
set_option linter.unusedSimpArgs false
set_option maxRecDepth 100000
section
variable {B : Nat} {w w' : World} {tv rv ev qv : Value} {vs : List Value} {tr : List (Nat × Nat)} {rg : List Int} {E : List (Int × Int)} {L : List (List Int)}
theorem Rt.lo (h : Rt B w tv rv ev qv vs tr rg E L) : ∀ i k, tbl tv.ownBlock none rv ev qv vs i = some k → B ≤ k ∧ k < w.heap.size := by
  intro i k hk
  match i with
  | 0 => exact World.ownsRow.lt h.tr k hk
  | 1 => cases hk
  | 2 => exact World.ownsRow.lt h.rg k hk
  | 3 => exact World.ownsRow.lt h.en k hk
  | 4 => exact World.ownsRow.lt h.qs k hk
  | n + 5 =>
    have hk' : (vs[n]?).bind Value.ownBlock = some k := hk
    cases hv : vs[n]? with
    | none => rw [hv] at hk'; cases hk'
    | some v =>
      rw [hv] at hk'
      have hl : n < L.length := by rw [← h.ql.1]; exact (List.getElem?_eq_some_iff.1 hv).1
      exact World.ownsRow.lt (h.ql.2 n v _ hv (List.getElem?_eq_getElem hl)) k hk'
theorem Rt.vsb (h : Rt B w tv rv ev qv vs tr rg E L) {n : Nat} {v : Value} (hv : vs[n]? = some v) {k : Nat} (hk : v.ownBlock = some k) : tbl tv.ownBlock none rv ev qv vs (n + 5) = some k := by
  show (vs[n]?).bind Value.ownBlock = some k
  rw [hv]; exact hk
theorem Rt.but {Y : Nat → Prop} (h : Rt B w tv rv ev qv vs tr rg E L) (hb : But Y w w') (hY : ∀ k, Y k → k < B ∨ w.heap.size ≤ k) : Rt B w' tv rv ev qv vs tr rg E L := by
  have hno : ∀ i k, tbl tv.ownBlock none rv ev qv vs i = some k → ¬ Y k := fun i k hk c => by
    have := h.lo i k hk
    rcases hY k c with e | e <;> omega
  exact ⟨ownsRow_but h.tr hb fun k hk => hno 0 k hk, ownsRow_but h.rg hb fun k hk => hno 2 k hk, ownsRow_but h.en hb fun k hk => hno 3 k hk, ownsRow_but h.qs hb fun k hk => hno 4 k hk, ⟨h.ql.1, fun j v l h1 h2 => ownsRow_but (h.ql.2 j v l h1 h2) hb fun k hk => hno (j + 5) k (h.vsb h1 hk)⟩, h.dis⟩
theorem Rt.below (h : Rt B w tv rv ev qv vs tr rg E L) (hb : Below w.heap.size w w') : Rt B w' tv rv ev qv vs tr rg E L := h.but (But.of_below hb fun _ => False) fun _ c => c.elim
theorem Rt.low {B' : Nat} (h : Rt B w tv rv ev qv vs tr rg E L) (hb : B' ≤ B) : Rt B' w tv rv ev qv vs tr rg E L :=
  ⟨row_low h.tr hb, iw_low h.rg hb, row_low h.en hb, row_low h.qs hb, ⟨h.ql.1, fun j v l h1 h2 => iw_low (h.ql.2 j v l h1 h2) hb⟩, h.dis⟩
end
theorem rt_forms {B : Nat} {w : World} {tv rv ev qv : Value} {tr : List (Nat × Nat)} {rg : List Int} {E : List (Int × Int)} {L : List (List Int)} (h : ∃ vs, Rt B w tv rv ev qv vs tr rg E L) : ∃ r0 rn rc e0 en ec q0 qn qc, rv = .slice r0 rn rc ∧ ev = .slice e0 en ec ∧ qv = .slice q0 qn qc := by
  obtain ⟨vs, h⟩ := h
  obtain ⟨r0, rc, h1, -⟩ := own_form h.rg
  obtain ⟨e0, ec, h2, -⟩ := own_form h.en
  obtain ⟨q0, qc, h3, -⟩ := own_form h.qs
  exact ⟨r0, _, rc, e0, _, ec, q0, _, qc, h1, h2, h3⟩
def runS (ts : List (List Ac)) (room : Nat) (picks : List Int) (most : Nat) : St := playS picks most (init ts room)
theorem mayE_ok {ts : List (List Ac)} (h : mayE ts = 0) : ts.length ≤ 16 ∧ ∀ l ∈ ts, l.length ≤ 256 ∧ ∀ a ∈ l, OkA l.length a := by
  unfold mayE at h
  split at h
  · simp at h
  · next h1 =>
    split at h
    · simp at h
    · next h2 =>
      split at h
      · simp at h
      · next h3 =>
        obtain ⟨e1, e2⟩ := many_no (by simpa using h1)
        refine ⟨e1, fun l hl => ⟨e2 l hl, fun a ha => ?_⟩⟩
        have k2 : (ts.all fun l => l.all (kindB l.length)) = true := by simpa using h2
        have k3 : (ts.all fun l => l.all (useB l.length)) = true := by simpa using h3
        have k2' := List.all_eq_true.1 (List.all_eq_true.1 k2 l hl) a ha
        have k3' := List.all_eq_true.1 (List.all_eq_true.1 k3 l hl) a ha
        unfold kindB at k2'
        unfold useB at k3'
        obtain ⟨x1, x2⟩ := of_decide_eq_true k2'
        obtain ⟨y1, y2, y3, y4, y5⟩ := of_decide_eq_true k3'
        exact ⟨x1, x2, y1, y2, y3, y4, y5⟩
theorem ok_init {ts : List (List Ac)} (h : mayE ts = 0) {room : Nat} (h1 : 1 ≤ room) (h2 : room ≤ 16) : Ok (init ts room) := by
  obtain ⟨e1, e2⟩ := mayE_ok h
  have hl : (init ts room).tk.length = ts.length := by simp [init]
  refine ⟨by rw [hl]; exact e1, h1, h2, fun t ht => ?_, (fun i j c => by cases c), (fun i j c => by cases c), fun i => Nat.zero_le _, fun i => Nat.zero_le _, Nat.zero_le _⟩
  obtain ⟨l, hl, rfl⟩ := List.mem_map.1 ht
  obtain ⟨e3, e4⟩ := e2 l hl
  exact ⟨e3, e4, Nat.zero_le _, Nat.zero_le _⟩
theorem refE_ok {ts : List (List Ac)} {room : Int} {picks : List Int} {most : Int} (h : refE ts room picks most = 0) : mayE ts = 0 ∧ (∃ r : Nat, room = (r : Int) ∧ 1 ≤ r ∧ r ≤ 16) ∧ (∃ m : Nat, most = (m : Int) ∧ m ≤ 65536) ∧ picks.length ≤ 65536 ∧ ∀ k ∈ picks, 0 ≤ k := by
  unfold refE at h
  split at h
  · next h1 => exact absurd h h1
  · next h1 =>
    split at h
    · next h2 =>
      unfold argB pickB at h2
      simp only [Bool.and_eq_true, decide_eq_true_eq, List.all_eq_true] at h2
      obtain ⟨⟨a1, a2, a3, a4⟩, a5, a6⟩ := h2
      refine ⟨by simpa using h1, ⟨room.toNat, by omega, by omega, by omega⟩, ⟨most.toNat, by omega, by omega⟩, a5, a6⟩
    · simp at h
theorem run_no (w : World) (hT : Tb w) (v vp : Value) (us : List Value) (ts : List (List Ac)) (h : TksAt w v us ts) (picks : List Int) (hp : Row w vp (picks.map (Value.int .i64))) (room most : Int) (hE : refE ts room picks most ≠ 0) :
    Calls Tryd.prog 10 #[v, .int .i64 room, vp, .int .i64 most] w fun e w' => e = .returned (.tuple #[.agg #[.int .i64 0, .slice none 0 0, .slice none 0 0, .slice none 0 0, .slice none 0 0], .int .i64 (refE ts room picks most)]) ∧ Below w.heap.size w w' := by
  have hb := box_below w (.cells #[.int .i64 0, .slice none 0 0, .slice none 0 0, .slice none 0 0, .slice none 0 0] 33)
  have hN := heap_alloc_new w (.cells #[.int .i64 0, .slice none 0 0, .slice none 0 0, .slice none 0 0, .slice none 0 0] 33)
  have RF := hide (refuses_any _ (hT.below hb) v vp us ts (h.below hb) picks (Below.row hb hp) room most)
  obtain ⟨E, hEE⟩ : ∃ E, Hid (refE ts room picks most = E) := ⟨_, rfl⟩
  rw [hEE.out] at RF hE ⊢
  have hE' : (E != 0) = true := by simpa using hE
  clear h hp hT hE
  go_enter Tryd.func10, Tryd.ntmps10
  go_upto_region 1 with fail
  obtain ⟨w1, hw1⟩ : ∃ w1, Hid (w.alloc (.cells #[.int .i64 0, .slice none 0 0, .slice none 0 0, .slice none 0 0, .slice none 0 0] 33) = w1) := ⟨_, rfl⟩
  rw [hw1.out] at RF hb hN ⊢
  go_upto_region 3 with (go_at_call 26; refine RF.out.mono ?_; rintro e w2 ⟨rfl, b2⟩; have b2 := hide b2)
  have G := (b2.out.block _ (heap_lt hN)).trans hN
  have B2 := hide (keepF hb b2.out)
  obtain ⟨pb, hpb⟩ : ∃ pb, Hid (w.heap.size = pb) := ⟨_, rfl⟩
  rw [hpb.out] at G ⊢
  have z0 : w2.cell? ⟨pb, 0, none⟩ = some (.int .i64 0) := by rw [cell_of G]; rfl
  have z1 : w2.cell? ⟨pb, 1, none⟩ = some (.slice none 0 0) := by rw [cell_of G]; rfl
  have z2 : w2.cell? ⟨pb, 2, none⟩ = some (.slice none 0 0) := by rw [cell_of G]; rfl
  have z3 : w2.cell? ⟨pb, 3, none⟩ = some (.slice none 0 0) := by rw [cell_of G]; rfl
  have z4 : w2.cell? ⟨pb, 4, none⟩ = some (.slice none 0 0) := by rw [cell_of G]; rfl
  have x0 : w2.frozen? ⟨pb, 0, none⟩ = false := frz_of G
  have x1 : w2.frozen? ⟨pb, 1, none⟩ = false := frz_of G
  have x2 : w2.frozen? ⟨pb, 2, none⟩ = false := frz_of G
  have x3 : w2.frozen? ⟨pb, 3, none⟩ = false := frz_of G
  have x4 : w2.frozen? ⟨pb, 4, none⟩ = false := frz_of G
  have PH := hide (put5_heap G (.int .i64 0) (.slice none 0 0) (.slice none 0 0) (.slice none 0 0) (.slice none 0 0))
  have PB := hide (put5_but w2 pb (.int .i64 0) (.slice none 0 0) (.slice none 0 0) (.slice none 0 0) (.slice none 0 0))
  clear RF hb hN b2 G
  go_wp2_with fail
  show bodyPost _ _ _ _ _ (put5 w2 pb (.int .i64 0) (.slice none 0 0) (.slice none 0 0) (.slice none 0 0) (.slice none 0 0))
  have BB : Hid (Below w.heap.size w (put5 w2 pb (.int .i64 0) (.slice none 0 0) (.slice none 0 0) (.slice none 0 0) (.slice none 0 0))) := B2.out.trans (PB.out.below B2.out.size fun k c => by have := hpb.out; omega)
  generalize put5 w2 pb (.int .i64 0) (.slice none 0 0) (.slice none 0 0) (.slice none 0 0) (.slice none 0 0) = w5 at *
  have k0 : w5.cell? ⟨pb, 0, none⟩ = some (.int .i64 0) := by rw [cell_of PH.out]; rfl
  have k1 : w5.cell? ⟨pb, 1, none⟩ = some (.slice none 0 0) := by rw [cell_of PH.out]; rfl
  have k2 : w5.cell? ⟨pb, 2, none⟩ = some (.slice none 0 0) := by rw [cell_of PH.out]; rfl
  have k3 : w5.cell? ⟨pb, 3, none⟩ = some (.slice none 0 0) := by rw [cell_of PH.out]; rfl
  have k4 : w5.cell? ⟨pb, 4, none⟩ = some (.slice none 0 0) := by rw [cell_of PH.out]; rfl
  refine bodyPost_ret (by simp [results, Tryd.results10, go_sem, k0, k1, k2, k3, k4]; rfl) rfl ?_
  exact ⟨rfl, BB.out⟩
set_option maxHeartbeats 1000000 in
theorem run_yes (w : World) (hT : Tb w) (v vp : Value) (us : List Value) (ts : List (List Ac)) (h : TksAt w v us ts) (picks : List Int) (hp : Row w vp (picks.map (Value.int .i64))) (hp1 : ∀ k ∈ picks, k ≤ 9223372036854775807) (room most : Nat) (hE : refE ts room picks most = 0) :
    Calls Tryd.prog 10 #[v, .int .i64 (room : Int), vp, .int .i64 (most : Int)] w fun e w' => ∃ tv rv ev qv, e = .returned (.tuple #[.agg #[.int .i64 ((runS ts room picks most).tr.length : Int), tv, rv, ev, qv], .int .i64 0]) ∧ (∃ vs, Rt w.heap.size w' tv rv ev qv vs (runS ts room picks most).tr (regs (runS ts room picks most)) (endsI (runS ts room picks most) (runS ts room picks most).tk.length) (quesI (runS ts room picks most) 4)) ∧ Below w.heap.size w w' := by
  have hb := box_below w (.cells #[.int .i64 0, .slice none 0 0, .slice none 0 0, .slice none 0 0, .slice none 0 0] 33)
  have hN := heap_alloc_new w (.cells #[.int .i64 0, .slice none 0 0, .slice none 0 0, .slice none 0 0, .slice none 0 0] 33)
  have RF := hide (refuses_any _ (hT.below hb) v vp us ts (h.below hb) picks (Below.row hb hp) room most)
  rw [hE] at RF
  obtain ⟨m1, ⟨r, hr, r1, r2⟩, ⟨m, hm, m2⟩, p1, p2⟩ := refE_ok hE
  obtain rfl : room = r := by omega
  obtain rfl : most = m := by omega
  have OKI := hide (ok_init m1 r1 r2)
  have HTK := hide (h.below hb)
  have HP := hide (Below.row hb hp)
  have M2 := hide m2
  have N16 : Hid (ts.length ≤ 16) := (mayE_ok m1).1
  have HP0 : Hid (∀ k ∈ picks, 0 ≤ k ∧ k ≤ 9223372036854775807) := fun k hk => ⟨p2 k hk, hp1 k hk⟩
  obtain ⟨SS, hSS⟩ : ∃ SS, Hid (runS ts room picks most = SS) := ⟨_, rfl⟩
  rw [hSS.out]
  clear h hp hT hE hp1 m1 r1 r2 hr hm m2 p1 p2
  go_enter Tryd.func10, Tryd.ntmps10
  go_upto_region 1 with fail
  obtain ⟨w1, hw1⟩ : ∃ w1, Hid (w.alloc (.cells #[.int .i64 0, .slice none 0 0, .slice none 0 0, .slice none 0 0, .slice none 0 0] 33) = w1) := ⟨_, rfl⟩
  rw [hw1.out] at RF hb hN HTK HP ⊢
  go_upto_region 4 with (go_at_call 26; refine RF.out.mono ?_; rintro e w2 ⟨rfl, b2⟩; have b2 := hide b2)
  have G := (b2.out.block _ (heap_lt hN)).trans hN
  have B2 := hide (keepF hb b2.out)
  have BG := hide (begin_any w2 v us ts (HTK.out.below b2.out) N16.out room)
  have HP2 := hide (Below.row b2.out HP.out)
  have G2 := hide G
  clear RF HTK HP G hb hN b2
  go_upto_region 5 with (go_at_call 27; refine BG.out.mono ?_; rintro e w3 ⟨rfl, A3⟩; have A3 := hide A3)
  have PL := hide (play_any w2 w3 us (w2.heap.size + 1) (X0 w2.heap.size) (init ts room) A3.out OKI.out vp picks HP2.out HP0.out M2.out (Nat.zero_le _))
  clear BG
  go_upto_region 6 with (go_at_call 28; refine PL.out.mono ?_; rintro e w4 ⟨rfl, X1, hX1, A4, O4, S4⟩; have A4 := hide A4; have O4 := hide O4; clear S4)
  have eS : Hid (playS picks (most - (init ts room).tr.length) (init ts room) = SS) := hSS.out
  rw [eS.out] at A4 O4
  have TD := hide (told_any w2 w4 us (w2.heap.size + 1) X1 SS A4.out O4.out)
  clear PL hX1
  obtain ⟨pb, hpb⟩ : ∃ pb, Hid (w.heap.size = pb) := ⟨_, rfl⟩
  rw [hpb.out] at G2 ⊢
  have KC : Hid (∀ q, Below w2.heap.size w2 q → q.heap[pb]? = some (.cells #[.int .i64 0, .slice none 0 0, .slice none 0 0, .slice none 0 0, .slice none 0 0] 33 (0, 0))) := fun q hb => (hb.block _ (heap_lt G2.out)).trans G2.out
  obtain ⟨ta, tc, te, -, -, -⟩ := turns_form A4.out.tr
  obtain ⟨TL, hTL⟩ : ∃ TL, Hid (SS.tr.length = TL) := ⟨_, rfl⟩
  rw [hTL.out] at te
  rw [te] at TD
  simp only [hTL.out] at TD ⊢
  clear te A4 A3
  go_upto_region 9 with (go_at_call 29; refine TD.out.mono ?_; rintro e w5 ⟨rv, ev, qv, rfl, RT, b5⟩; have RT := hide RT; have b5 := hide b5; obtain ⟨r0, rn, rc, e0, en, ec, q0, qn, qc, hr, he, hq⟩ := rt_forms RT.out; subst hr; subst he; subst hq; have G := hide (KC.out _ b5.out); have z0 : w5.cell? ⟨pb, 0, none⟩ = some (.int .i64 0) := (by rw [cell_of G.out]; rfl); have z1 : w5.cell? ⟨pb, 1, none⟩ = some (.slice none 0 0) := (by rw [cell_of G.out]; rfl); have z2 : w5.cell? ⟨pb, 2, none⟩ = some (.slice none 0 0) := (by rw [cell_of G.out]; rfl); have z3 : w5.cell? ⟨pb, 3, none⟩ = some (.slice none 0 0) := (by rw [cell_of G.out]; rfl); have z4 : w5.cell? ⟨pb, 4, none⟩ = some (.slice none 0 0) := (by rw [cell_of G.out]; rfl); have x0 : w5.frozen? ⟨pb, 0, none⟩ = false := frz_of G.out; have x1 : w5.frozen? ⟨pb, 1, none⟩ = false := frz_of G.out; have x2 : w5.frozen? ⟨pb, 2, none⟩ = false := frz_of G.out; have x3 : w5.frozen? ⟨pb, 3, none⟩ = false := frz_of G.out; have x4 : w5.frozen? ⟨pb, 4, none⟩ = false := frz_of G.out)
  show bodyPost _ _ _ _ _ (put5 w5 pb (.int .i64 (TL : Int)) (.slice ta TL tc) (.slice r0 rn rc) (.slice e0 en ec) (.slice q0 qn qc))
  have PH := hide (put5_heap G.out (.int .i64 (TL : Int)) (.slice ta TL tc) (.slice r0 rn rc) (.slice e0 en ec) (.slice q0 qn qc))
  have FIN : Hid ((∃ vs, Rt w.heap.size (put5 w5 pb (.int .i64 (TL : Int)) (.slice ta TL tc) (.slice r0 rn rc) (.slice e0 en ec) (.slice q0 qn qc)) (.slice ta TL tc) (.slice r0 rn rc) (.slice e0 en ec) (.slice q0 qn qc) vs SS.tr (regs SS) (endsI SS SS.tk.length) (quesI SS 4)) ∧ Below w.heap.size w (put5 w5 pb (.int .i64 (TL : Int)) (.slice ta TL tc) (.slice r0 rn rc) (.slice e0 en ec) (.slice q0 qn qc))) := by
    have PB := put5_but w5 pb (.int .i64 (TL : Int)) (.slice ta TL tc) (.slice r0 rn rc) (.slice e0 en ec) (.slice q0 qn qc)
    have hp := heap_lt G2.out
    have hs := hpb.out
    obtain ⟨vs, R⟩ := RT.out
    have B5 : Below w.heap.size w w5 := B2.out.trans (b5.out.mono B2.out.size)
    exact ⟨⟨vs, (R.but PB fun k c => .inl (by omega)).low B2.out.size⟩, B5.trans (PB.below B5.size fun k c => by omega)⟩
  clear RT b5 G KC
  generalize put5 w5 pb (.int .i64 (TL : Int)) (.slice ta TL tc) (.slice r0 rn rc) (.slice e0 en ec) (.slice q0 qn qc) = w6 at *
  have k0 : w6.cell? ⟨pb, 0, none⟩ = some (.int .i64 (TL : Int)) := by rw [cell_of PH.out]; rfl
  have k1 : w6.cell? ⟨pb, 1, none⟩ = some (.slice ta TL tc) := by rw [cell_of PH.out]; rfl
  have k2 : w6.cell? ⟨pb, 2, none⟩ = some (.slice r0 rn rc) := by rw [cell_of PH.out]; rfl
  have k3 : w6.cell? ⟨pb, 3, none⟩ = some (.slice e0 en ec) := by rw [cell_of PH.out]; rfl
  have k4 : w6.cell? ⟨pb, 4, none⟩ = some (.slice q0 qn qc) := by rw [cell_of PH.out]; rfl
  refine bodyPost_ret (by simp [results, Tryd.results10, go_sem, k0, k1, k2, k3, k4]; rfl) rfl ?_
  exact ⟨_, _, _, _, by rw [hTL.out], FIN.out.1, FIN.out.2⟩
theorem ready_no (w : World) (hT : Tb w) (v vp : Value) (us : List Value) (ts : List (List Ac)) (h : TksAt w v us ts) (picks : List Int) (hp : Row w vp (picks.map (Value.int .i64))) (room : Int) (hE : refE ts room picks picks.length ≠ 0) :
    Calls Tryd.prog 12 #[v, .int .i64 room, vp] w fun e w' => e = .returned (.tuple #[.slice none 0 0, .int .i64 (refE ts room picks picks.length)]) ∧ Below w.heap.size w w' := by
  obtain ⟨pa, pc, rfl, -⟩ := id hp
  have RF := hide (refuses_any w hT v _ us ts h picks hp room picks.length)
  rw [List.length_map] at RF ⊢
  obtain ⟨N, hN⟩ : ∃ N, Hid (picks.length = N) := ⟨_, rfl⟩
  rw [hN.out] at RF hE ⊢
  obtain ⟨E, hEE⟩ : ∃ E, Hid (refE ts room picks N = E) := ⟨_, rfl⟩
  rw [hEE.out] at RF hE ⊢
  have hE' : (E != 0) = true := by simpa using hE
  clear h hp hT hE
  go_enter Tryd.func12, Tryd.ntmps12
  go_wp2_with (go_at_call 26; refine RF.out.mono ?_; rintro e w2 ⟨rfl, b2⟩; have b2 := hide b2)
  go_ret2
  exact ⟨rfl, b2.out⟩
theorem ready_yes (w : World) (hT : Tb w) (v vp : Value) (us : List Value) (ts : List (List Ac)) (h : TksAt w v us ts) (picks : List Int) (hp : Row w vp (picks.map (Value.int .i64))) (hp1 : ∀ k ∈ picks, k ≤ 9223372036854775807) (room : Nat) (hE : refE ts room picks picks.length = 0) :
    Calls Tryd.prog 12 #[v, .int .i64 (room : Int), vp] w fun e w' => ∃ v', e = .returned (.tuple #[v', .int .i64 0]) ∧ Nms w.heap.size w' v' (ns (rdy (runS ts room picks picks.length))) ∧ Below w.heap.size w w' := by
  have HP := hide hp
  obtain ⟨pa, pc, rfl, -⟩ := hp
  have RF := hide (refuses_any w hT v _ us ts h picks HP.out room picks.length)
  rw [hE] at RF
  obtain ⟨m1, ⟨r, hr, r1, r2⟩, ⟨m, hm, m2⟩, p1, p2⟩ := refE_ok hE
  obtain rfl : room = r := by omega
  have hm' : picks.length = m := by omega
  have OKI := hide (ok_init m1 r1 r2)
  have HTK := hide h
  have N16 : Hid (ts.length ≤ 16) := (mayE_ok m1).1
  have HP0 : Hid (∀ k ∈ picks, 0 ≤ k ∧ k ≤ 9223372036854775807) := fun k hk => ⟨p2 k hk, hp1 k hk⟩
  rw [List.length_map] at RF HP ⊢
  obtain ⟨N, hN⟩ : ∃ N, Hid (picks.length = N) := ⟨_, rfl⟩
  have M2 : Hid (N ≤ 65536) := by show _ ≤ _; rw [← hN.out, hm']; exact m2
  obtain ⟨SS, hSS⟩ : ∃ SS, Hid (runS ts room picks picks.length = SS) := ⟨_, rfl⟩
  have hS2 : Hid (playS picks N (init ts room) = SS) := by show _ = _; rw [← hN.out]; exact hSS.out
  rw [hSS.out]
  rw [hN.out] at RF HP ⊢
  clear h hT hE hp1 m1 r1 r2 hr hm m2 p1 p2 hm' hSS
  go_enter Tryd.func12, Tryd.ntmps12
  go_upto_region 4 with (go_at_call 26; refine RF.out.mono ?_; rintro e w2 ⟨rfl, b2⟩; have b2 := hide b2)
  have BG := hide (begin_any w2 v us ts (HTK.out.below b2.out) N16.out room)
  have HP2 := hide (Below.row b2.out HP.out)
  clear RF HTK HP
  go_upto_region 5 with (go_at_call 27; refine BG.out.mono ?_; rintro e w3 ⟨rfl, A3⟩; have A3 := hide A3)
  have PL := hide (play_any w2 w3 us (w2.heap.size + 1) (X0 w2.heap.size) (init ts room) A3.out OKI.out _ picks HP2.out HP0.out M2.out (Nat.zero_le _))
  clear BG
  go_upto_region 6 with (go_at_call 28; refine PL.out.mono ?_; rintro e w4 ⟨rfl, X1, hX1, A4, O4, S4⟩; have A4 := hide A4; have O4 := hide O4; clear S4)
  have eS : Hid (playS picks (N - (init ts room).tr.length) (init ts room) = SS) := hS2.out
  rw [eS.out] at A4 O4
  have RD := hide (ready_any w2 w4 us (w2.heap.size + 1) X1 SS A4.out O4.out)
  have b4 := hide (b2.out.trans (A4.out.low.mono b2.out.size))
  clear PL hX1
  go_wp2_with (go_at_call 31; refine RD.out.mono ?_; rintro e w5 ⟨v', rfl, hv, b5⟩; have hv := hide hv; have b5 := hide b5)
  go_ret2
  exact ⟨_, rfl, row_low hv.out b4.out.size, b4.out.trans (b5.out.mono b4.out.size)⟩
end Go.Proofs.YtiiinpmkidobgaaDoor.Sd

/-
  The document's state: by data, and in memory.
-/
namespace Go.Proofs.YtiiinpmkidobgaaDoor.Sd
open Go.RowKit
set_option linter.unusedVariables false
set_option linter.unusedSimpArgs false
set_option maxRecDepth 100000
/-- A task as the document has it: its acts, where it stands, its waiting, its guard, how it ended, with what. -/
structure Dk where
  ac : List Ac
  pc : Nat
  wa : Nat
  gd : Int
  hw : Int
  wt : Int
/-- The document's state. -/
structure Ds where
  tk : List Dk
  room : Nat
  lk : Nat → Option Nat
  sl : Nat → List Nat
  qu : Nat → List Int
  rg : Nat → Int
  la : Int
def hv : Option Nat → Value
  | none => .int .i64 0
  | some j => .int .i64 ((j : Int) + 1)
def dkc (t : Dk) : List Value := [.int .i64 (t.pc : Int), .int .i64 (t.wa : Int), .int .i64 t.gd, .int .i64 t.hw, .int .i64 t.wt]
structure DK (ts : Array Value) (us : List Value) (tk : List Dk) : Prop where
  size : tk.length * 6 ≤ ts.size
  len : us.length = tk.length
  ac : ∀ (i : Nat) (t : Dk), tk[i]? = some t → ts[i * 6]? = us[i]?
  rest : ∀ (i : Nat) (t : Dk), tk[i]? = some t → ∀ j, j < 5 → ts[i * 6 + (j + 1)]? = (dkc t)[j]?
structure DC (cs : Array Value) (D : Ds) (X : Nat → Value) : Prop where
  size : cs.size = 23
  tasks : cs[0]? = some (X 0)
  lk : ∀ i, i < 4 → cs[1 + i]? = some (hv (D.lk i))
  ls : ∀ i, i < 8 → cs[5 + i]? = some (X (1 + i))
  rg : ∀ i, i < 8 → cs[13 + i]? = some (.int .i64 (D.rg i))
  room : cs[21]? = some (.int .i64 (D.room : Int))
  la : cs[22]? = some (.int .i64 D.la)
/-- Its blocks. -/
def bd (rb : Nat) (X : Nat → Value) : Nat → Option Nat
  | 0 => some rb
  | n + 1 => if n < 9 then (X n).ownBlock else none
theorem bd_l (rb : Nat) (X : Nat → Value) {n : Nat} (h : n < 9) : bd rb X (n + 1) = (X n).ownBlock := by simp [bd, h]
theorem bd_up (rb : Nat) (X : Nat → Value) {m : Nat} (hm : m < 9) (v : Value) : bd rb (up X m v) = up (bd rb X) (m + 1) v.ownBlock := by
  funext n
  match n with
  | 0 => rw [up_other _ _ (by omega)]; rfl
  | n + 1 =>
    by_cases e : n = m
    · subst e; rw [up_same, bd_l _ _ hm, up_same]
    · rw [up_other _ _ (by omega)]
      simp only [bd]
      rw [up_other _ _ e]
def OwnD (rb : Nat) (X : Nat → Value) (k : Nat) : Prop := ∃ i, bd rb X i = some k
/-- The tasks' list in memory. -/
def TkV (w : World) (us : List Value) (v : Value) (tk : List Dk) : Prop := (tk = [] ∧ v = .slice none 0 0) ∨ ∃ g cap ts, v = .slice (some ⟨g, 0, none⟩) tk.length cap ∧ w.heap[g]? = some (.cells ts 65 (0, 0)) ∧ tk.length ≤ cap ∧ cap ≤ 9223372036854775807 ∧ DK ts us tk
theorem TkV.but {X : Nat → Prop} {w w' : World} {us : List Value} {v : Value} {tk : List Dk} (h : TkV w us v tk) (hb : But X w w') (hx : ∀ k, v.ownBlock = some k → ¬ X k) : TkV w' us v tk := by
  rcases h with h | ⟨g, cap, ts, rfl, h1, r⟩
  · exact .inl h
  · exact .inr ⟨g, cap, ts, rfl, hb.at h1 (hx g rfl), r⟩
theorem TkV.lt {w : World} {us : List Value} {v : Value} {tk : List Dk} (h : TkV w us v tk) : ∀ k, v.ownBlock = some k → k < w.heap.size := by
  rcases h with ⟨_, rfl⟩ | ⟨g, cap, ts, rfl, h1, r⟩
  · intro k hk; cases hk
  · intro k hk; cases hk; exact heap_lt h1
/-- At block rb lies the document's state D, made since w0, its lists of acts us. -/
structure DA (w0 : World) (us : List Value) (w : World) (rb : Nat) (X : Nat → Value) (D : Ds) : Prop where
  cs : ∃ cs, w.heap[rb]? = some (.cells cs 63 (0, 0)) ∧ DC cs D X
  ts : TkV w us (X 0) D.tk
  sl : ∀ i, i < 4 → Nms w0.heap.size w (X (1 + i)) (ns (D.sl i))
  qu : ∀ i, i < 4 → Iw w0.heap.size w (X (5 + i)) (D.qu i)
  dis : ∀ i j k, bd rb X i = some k → bd rb X j = some k → i = j
  lo : ∀ i k, bd rb X i = some k → w0.heap.size ≤ k
  low : Below w0.heap.size w0 w
  ac : ∀ (i : Nat) (t : Dk), D.tk[i]? = some t → ∃ u, us[i]? = some u ∧ ActsAt w0 u t.ac
/-- A step: what is had is turned, and what is new. -/
def StD (rb : Nat) (X X' : Nat → Value) (w w' : World) : Prop := But (OwnD rb X) w w' ∧ ∀ k, OwnD rb X' k → OwnD rb X k ∨ w.heap.size ≤ k
theorem StD.trans {rb : Nat} {X Y Z : Nat → Value} {a b c : World} (h : StD rb X Y a b) (k : StD rb Y Z b c) : StD rb X Z a c := by
  refine ⟨⟨k.1.os.trans h.1.os, k.1.tape.trans h.1.tape, k.1.output.trans h.1.output, Nat.le_trans h.1.size k.1.size, fun i hi hn => ?_⟩, fun i hi => ?_⟩
  · rw [k.1.block i (Nat.lt_of_lt_of_le hi h.1.size) (fun c => ?_)]
    · exact h.1.block i hi hn
    · rcases h.2 i c with e | e
      · exact hn e
      · omega
  · rcases k.2 i hi with e | e
    · exact h.2 i e
    · exact .inr (Nat.le_trans h.1.size e)
theorem StD.refl (rb : Nat) (X : Nat → Value) (w : World) : StD rb X X w w := ⟨But.refl _ _, fun k hk => .inl hk⟩
theorem StD.of_below {w w' : World} (rb : Nat) (X : Nat → Value) (h : Below w.heap.size w w') : StD rb X X w w' := ⟨But.of_below h _, fun k hk => .inl hk⟩
section
variable {w0 w w' w1 : World} {us : List Value} {rb : Nat} {X : Nat → Value} {D : Ds}
theorem DA.but {Y : Nat → Prop} (h : DA w0 us w rb X D) (hb : But Y w w') (hx : ∀ k, OwnD rb X k → ¬ Y k) (hlo : ∀ k, Y k → w0.heap.size ≤ k) : DA w0 us w' rb X D := by
  obtain ⟨cs, c1, c2⟩ := h.cs
  exact ⟨⟨cs, hb.at c1 (hx rb ⟨0, rfl⟩), c2⟩, h.ts.but hb fun k hk => hx k ⟨0 + 1, (bd_l rb X (by omega)).trans hk⟩, fun i hi => (h.sl i hi).but hb fun k hk => hx k ⟨1 + i + 1, (bd_l rb X (by omega)).trans hk⟩, fun i hi => ownsRow_but (h.qu i hi) hb fun k hk => hx k ⟨5 + i + 1, (bd_l rb X (by omega)).trans hk⟩, h.dis, h.lo, h.low.trans (hb.below h.low.size hlo), h.ac⟩
theorem DA.below (h : DA w0 us w rb X D) (hb : Below w.heap.size w w') : DA w0 us w' rb X D := h.but (But.of_below hb fun _ => False) (fun _ _ c => c) fun _ c => c.elim
theorem DA.lt (h : DA w0 us w rb X D) : ∀ k, OwnD rb X k → k < w.heap.size := by
  rintro k ⟨i, hi⟩
  obtain ⟨cs, c1, c2⟩ := h.cs
  match i with
  | 0 => cases hi; exact heap_lt c1
  | n + 1 =>
    by_cases hn : n < 9
    · rw [bd_l _ _ hn] at hi
      by_cases h0 : n = 0
      · subst h0; exact h.ts.lt k hi
      · by_cases h5 : n < 5
        · obtain ⟨m, rfl⟩ : ∃ m, n = 1 + m := ⟨n - 1, by omega⟩
          exact ((h.sl m (by omega)).lt k hi).2
        · obtain ⟨m, rfl⟩ : ∃ m, n = 5 + m := ⟨n - 5, by omega⟩
          exact (World.ownsRow.lt (h.qu m (by omega)) k hi).2
    · simp [bd, hn] at hi
theorem DA.cells (h : DA w0 us w rb X D) : w.cell? ⟨rb, 0, none⟩ = some (X 0) ∧ w.cell? ⟨rb, 21, none⟩ = some (.int .i64 (D.room : Int)) ∧ w.cell? ⟨rb, 22, none⟩ = some (.int .i64 D.la) := by
  obtain ⟨cs, c1, c2⟩ := h.cs
  exact ⟨(cell_of c1).trans c2.tasks, (cell_of c1).trans c2.room, (cell_of c1).trans c2.la⟩
theorem DA.lcell (h : DA w0 us w rb X D) {i : Nat} (hi : i < 4) : w.cell? ⟨rb, 1 + i, none⟩ = some (hv (D.lk i)) := by
  obtain ⟨cs, c1, c2⟩ := h.cs
  exact (cell_of c1).trans (c2.lk i hi)
theorem DA.scell (h : DA w0 us w rb X D) {i : Nat} (hi : i < 4) : w.cell? ⟨rb, 5 + i, none⟩ = some (X (1 + i)) := by
  obtain ⟨cs, c1, c2⟩ := h.cs
  exact (cell_of c1).trans (c2.ls i (by omega))
theorem DA.qcell (h : DA w0 us w rb X D) {i : Nat} (hi : i < 4) : w.cell? ⟨rb, 9 + i, none⟩ = some (X (5 + i)) := by
  obtain ⟨cs, c1, c2⟩ := h.cs
  have := c2.ls (4 + i) (by omega)
  rw [show 5 + (4 + i) = 9 + i by omega, show 1 + (4 + i) = 5 + i by omega] at this
  exact (cell_of c1).trans this
theorem DA.gcell (h : DA w0 us w rb X D) {i : Nat} (hi : i < 8) : w.cell? ⟨rb, 13 + i, none⟩ = some (.int .i64 (D.rg i)) := by
  obtain ⟨cs, c1, c2⟩ := h.cs
  exact (cell_of c1).trans (c2.rg i hi)
theorem DA.frz (h : DA w0 us w rb X D) (j : Nat) : w.frozen? ⟨rb, j, none⟩ = false := by
  obtain ⟨cs, c1, c2⟩ := h.cs
  exact frz_of c1
theorem DA.form (h : DA w0 us w rb X D) : ∃ ao cap, X 0 = .slice ao D.tk.length cap ∧ D.tk.length ≤ cap ∧ cap ≤ 9223372036854775807 := by
  rcases h.ts with ⟨e, e'⟩ | ⟨g, cap, ts, e, h1, h2, h3, r⟩
  · rw [e]; exact ⟨none, 0, e', Nat.le_refl _, by omega⟩
  · exact ⟨_, cap, e, h2, h3⟩
/-- Where the tasks lie, and what is read of one. -/
theorem DA.tcell (h : DA w0 us w rb X D) {i : Nat} {t : Dk} (hi : D.tk[i]? = some t) : ∃ g cap, X 0 = .slice (some ⟨g, 0, none⟩) D.tk.length cap ∧ D.tk.length ≤ cap ∧ cap ≤ 9223372036854775807 ∧ (∀ j, w.frozen? ⟨g, j, none⟩ = false) ∧ (∃ u, us[i]? = some u ∧ ActsAt w u t.ac ∧ w.cell? ⟨g, i * 6, none⟩ = some u) ∧ w.cell? ⟨g, i * 6 + 1, none⟩ = some (.int .i64 (t.pc : Int)) ∧ w.cell? ⟨g, i * 6 + 2, none⟩ = some (.int .i64 (t.wa : Int)) ∧ w.cell? ⟨g, i * 6 + 3, none⟩ = some (.int .i64 t.gd) ∧ w.cell? ⟨g, i * 6 + 4, none⟩ = some (.int .i64 t.hw) ∧ w.cell? ⟨g, i * 6 + 5, none⟩ = some (.int .i64 t.wt) := by
  obtain ⟨u, u1, u2⟩ := h.ac i t hi
  rcases h.ts with ⟨e, e'⟩ | ⟨g, cap, ts, e, h1, h2, h3, t2⟩
  · rw [e] at hi; simp at hi
  · have r := t2.rest i t hi
    exact ⟨g, cap, e, h2, h3, fun j => frz_of h1, ⟨u, u1, u2.below h.low, (cell_of h1).trans ((t2.ac i t hi).trans u1)⟩, (cell_of h1).trans (r 0 (by omega)), (cell_of h1).trans (r 1 (by omega)), (cell_of h1).trans (r 2 (by omega)), (cell_of h1).trans (r 3 (by omega)), (cell_of h1).trans (r 4 (by omega))⟩
theorem DK.set {ts : Array Value} {us : List Value} {tk : List Dk} (h : DK ts us tk) {i : Nat} {t t' : Dk} (hi : tk[i]? = some t) {j : Nat} (hj : j < 5) {v : Value} (hv : dkc t' = (dkc t).set j v) : DK (ts.setIfInBounds (i * 6 + (j + 1)) v) us (tk.set i t') := by
  have hil := (List.getElem?_eq_some_iff.1 hi).1
  have hsz := h.size
  refine ⟨by simpa using h.size, by simpa using h.len, fun k u hk => ?_, fun k u hk m hm => ?_⟩
  · rw [Array.getElem?_setIfInBounds_ne (by omega)]
    by_cases hki : k = i
    · subst hki; exact h.ac k t hi
    · rw [List.getElem?_set_ne (fun e => hki e.symm)] at hk; exact h.ac k u hk
  · by_cases hki : k = i
    · subst hki
      rw [List.getElem?_set_self hil] at hk
      cases hk
      rw [hv]
      by_cases hmj : m = j
      · subst hmj
        rw [Array.getElem?_setIfInBounds_self_of_lt (by omega), List.getElem?_set_self (by simp [dkc]; omega)]
      · rw [Array.getElem?_setIfInBounds_ne (by omega), List.getElem?_set_ne (fun e => hmj e.symm)]; exact h.rest k t hi m hm
    · rw [List.getElem?_set_ne (fun e => hki e.symm)] at hk
      rw [Array.getElem?_setIfInBounds_ne (by omega)]
      exact h.rest k u hk m hm
theorem DA.setT (h : DA w0 us w rb X D) {i : Nat} {t t' : Dk} (hi : D.tk[i]? = some t) {g n cap : Nat} (hX : X 0 = .slice (some ⟨g, 0, none⟩) n cap) (j : Nat) (hj : j < 5) (v : Value) (hv : dkc t' = (dkc t).set j v) (hac : t'.ac = t.ac) : DA w0 us (w.setCell ⟨g, i * 6 + (j + 1), none⟩ v) rb X { D with tk := D.tk.set i t' } ∧ StD rb X X w (w.setCell ⟨g, i * 6 + (j + 1), none⟩ v) := by
  have hg : bd rb X (0 + 1) = some g := by rw [bd_l _ _ (by omega), hX]; rfl
  refine ⟨?_, But.set _ _ _ _ ⟨_, hg⟩, fun k hk => .inl hk⟩
  obtain ⟨cs, c1, c2⟩ := h.cs
  have hb : But (fun k => k = g) w (w.setCell ⟨g, i * 6 + (j + 1), none⟩ v) := But.set _ _ _ _ rfl
  have ne : ∀ m, m ≠ 1 → ∀ k, bd rb X m = some k → ¬ k = g := fun m hm k hk e => hm (h.dis m 1 k hk (by rw [e]; exact hg))
  refine ⟨⟨cs, hb.at c1 (ne 0 (by omega) rb rfl), c2.size, c2.tasks, c2.lk, c2.ls, c2.rg, c2.room, c2.la⟩, ?_, fun m hm => (h.sl m hm).but hb fun k hk => ne (1 + m + 1) (by omega) k ((bd_l rb X (by omega)).trans hk), fun m hm => ownsRow_but (h.qu m hm) hb fun k hk => ne (5 + m + 1) (by omega) k ((bd_l rb X (by omega)).trans hk), h.dis, h.lo, h.low.trans (hb.below h.low.size fun k e => by rw [e]; exact h.lo _ _ hg), fun m u hm => ?_⟩
  · rcases h.ts with ⟨e, e'⟩ | ⟨g', cap', ts, e, h1, h2, h3, t2⟩
    · rw [e] at hi; simp at hi
    · rw [hX] at e
      simp only [Value.slice.injEq, Option.some.injEq, Addr.mk.injEq, and_true] at e
      obtain ⟨rfl, rfl, rfl⟩ := e
      exact .inr ⟨g, cap, _, by simpa using hX, heap_setCell_same _ _ _ _ _ _ h1, by simpa using h2, h3, t2.set hi hj hv⟩
  · by_cases hmi : m = i
    · subst hmi
      rw [List.getElem?_set_self (List.getElem?_eq_some_iff.1 hi).1] at hm
      cases hm
      rw [hac]
      exact h.ac m t hi
    · rw [List.getElem?_set_ne (fun e => hmi e.symm)] at hm
      exact h.ac m u hm
/-- A cell of the state is written that is none of its lists. -/
theorem DA.setR (h : DA w0 us w rb X D) (j : Nat) (v : Value) (D' : Ds) (h1 : D'.tk = D.tk) (h2 : D'.sl = D.sl) (h3 : D'.qu = D.qu) (hr : ∀ cs, DC cs D X → DC (cs.setIfInBounds j v) D' X) : DA w0 us (w.setCell ⟨rb, j, none⟩ v) rb X D' ∧ StD rb X X w (w.setCell ⟨rb, j, none⟩ v) := by
  refine ⟨?_, But.set _ _ _ _ ⟨0, rfl⟩, fun k hk => .inl hk⟩
  obtain ⟨cs, c1, c2⟩ := h.cs
  have hb : But (fun k => k = rb) w (w.setCell ⟨rb, j, none⟩ v) := But.set _ _ _ _ rfl
  have ne : ∀ m, m ≠ 0 → ∀ k, bd rb X m = some k → ¬ k = rb := fun m hm k hk e => hm (h.dis m 0 k hk (by rw [e]; rfl))
  exact ⟨⟨_, heap_setCell_same _ _ _ _ _ _ c1, hr cs c2⟩, by rw [h1]; exact h.ts.but hb fun k hk => ne (0 + 1) (by omega) k ((bd_l rb X (by omega)).trans hk), fun m hm => by rw [h2]; exact (h.sl m hm).but hb fun k hk => ne (1 + m + 1) (by omega) k ((bd_l rb X (by omega)).trans hk), fun m hm => by rw [h3]; exact ownsRow_but (h.qu m hm) hb fun k hk => ne (5 + m + 1) (by omega) k ((bd_l rb X (by omega)).trans hk), h.dis, h.lo, h.low.trans (hb.below h.low.size fun k e => by rw [e]; exact h.lo 0 _ rfl), by rw [h1]; exact h.ac⟩
theorem DC.setL {cs : Array Value} (c : DC cs D X) {i : Nat} (hi : i < 4) (o : Option Nat) : DC (cs.setIfInBounds (1 + i) (hv o)) { D with lk := up D.lk i o } X := by
  have hs := c.size
  refine ⟨by simpa using hs, by rw [Array.getElem?_setIfInBounds_ne (by omega)]; exact c.tasks, fun j hj => ?_, fun j hj => by rw [Array.getElem?_setIfInBounds_ne (by omega)]; exact c.ls j hj, fun j hj => by rw [Array.getElem?_setIfInBounds_ne (by omega)]; exact c.rg j hj, by rw [Array.getElem?_setIfInBounds_ne (by omega)]; exact c.room, by rw [Array.getElem?_setIfInBounds_ne (by omega)]; exact c.la⟩
  by_cases e : j = i
  · subst e; rw [Array.getElem?_setIfInBounds_self_of_lt (by omega)]; simp
  · rw [Array.getElem?_setIfInBounds_ne (by omega), c.lk j hj]; simp [up, e]
theorem DC.setG {cs : Array Value} (c : DC cs D X) {i : Nat} (hi : i < 8) (x : Int) : DC (cs.setIfInBounds (13 + i) (.int .i64 x)) { D with rg := up D.rg i x } X := by
  have hs := c.size
  refine ⟨by simpa using hs, by rw [Array.getElem?_setIfInBounds_ne (by omega)]; exact c.tasks, fun j hj => by rw [Array.getElem?_setIfInBounds_ne (by omega)]; exact c.lk j hj, fun j hj => by rw [Array.getElem?_setIfInBounds_ne (by omega)]; exact c.ls j hj, fun j hj => ?_, by rw [Array.getElem?_setIfInBounds_ne (by omega)]; exact c.room, by rw [Array.getElem?_setIfInBounds_ne (by omega)]; exact c.la⟩
  by_cases e : j = i
  · subst e; rw [Array.getElem?_setIfInBounds_self_of_lt (by omega)]; simp
  · rw [Array.getElem?_setIfInBounds_ne (by omega), c.rg j hj]; simp [up, e]
theorem DC.setA {cs : Array Value} (c : DC cs D X) (x : Int) : DC (cs.setIfInBounds 22 (.int .i64 x)) { D with la := x } X := by
  have hs := c.size
  exact ⟨by simpa using hs, by rw [Array.getElem?_setIfInBounds_ne (by omega)]; exact c.tasks, fun j hj => by rw [Array.getElem?_setIfInBounds_ne (by omega)]; exact c.lk j hj, fun j hj => by rw [Array.getElem?_setIfInBounds_ne (by omega)]; exact c.ls j hj, fun j hj => by rw [Array.getElem?_setIfInBounds_ne (by omega)]; exact c.rg j hj, by rw [Array.getElem?_setIfInBounds_ne (by omega)]; exact c.room, by rw [Array.getElem?_setIfInBounds_self_of_lt (by omega)]⟩
theorem DA.setL (h : DA w0 us w rb X D) {i : Nat} (hi : i < 4) (o : Option Nat) : DA w0 us (w.setCell ⟨rb, 1 + i, none⟩ (hv o)) rb X { D with lk := up D.lk i o } ∧ StD rb X X w (w.setCell ⟨rb, 1 + i, none⟩ (hv o)) := h.setR _ _ _ rfl rfl rfl fun cs c => c.setL hi o
theorem DA.setG (h : DA w0 us w rb X D) {i : Nat} (hi : i < 8) (x : Int) : DA w0 us (w.setCell ⟨rb, 13 + i, none⟩ (.int .i64 x)) rb X { D with rg := up D.rg i x } ∧ StD rb X X w (w.setCell ⟨rb, 13 + i, none⟩ (.int .i64 x)) := h.setR _ _ _ rfl rfl rfl fun cs c => c.setG hi x
theorem DA.setA (h : DA w0 us w rb X D) (x : Int) : DA w0 us (w.setCell ⟨rb, 22, none⟩ (.int .i64 x)) rb X { D with la := x } ∧ StD rb X X w (w.setCell ⟨rb, 22, none⟩ (.int .i64 x)) := h.setR _ _ _ rfl rfl rfl fun cs c => c.setA x
theorem DC.setV {cs : Array Value} (c : DC cs D X) {i : Nat} (hi : i < 8) (v : Value) (D' : Ds) (h1 : D'.lk = D.lk) (h2 : D'.rg = D.rg) (h3 : D'.room = D.room) (h4 : D'.la = D.la) : DC (cs.setIfInBounds (5 + i) v) D' (up X (1 + i) v) := by
  have hs := c.size
  refine ⟨by simpa using hs, by rw [Array.getElem?_setIfInBounds_ne (by omega), up_other _ _ (by omega)]; exact c.tasks, fun j hj => by rw [Array.getElem?_setIfInBounds_ne (by omega), h1]; exact c.lk j hj, fun j hj => ?_, fun j hj => by rw [Array.getElem?_setIfInBounds_ne (by omega), h2]; exact c.rg j hj, by rw [Array.getElem?_setIfInBounds_ne (by omega), h3]; exact c.room, by rw [Array.getElem?_setIfInBounds_ne (by omega), h4]; exact c.la⟩
  by_cases e : j = i
  · subst e; rw [Array.getElem?_setIfInBounds_self_of_lt (by omega)]; simp
  · rw [Array.getElem?_setIfInBounds_ne (by omega), up_other _ _ (by omega)]; exact c.ls j hj
/-- One of its lists is another one. -/
theorem DA.turn (h : DA w0 us w rb X D) {i : Nat} (hi : i < 8) {v' : Value} (D' : Ds) (hg : But (fun k => (X (1 + i)).ownBlock = some k) w w1) (ho : ∀ k, v'.ownBlock = some k → (X (1 + i)).ownBlock = some k ∨ w.heap.size ≤ k)
    (htk : D'.tk = D.tk) (e1 : D'.lk = D.lk) (e2 : D'.rg = D.rg) (e3 : D'.room = D.room) (e4 : D'.la = D.la)
    (h1 : ∀ j, j < 4 → (j = i → Nms w0.heap.size w1 v' (ns (D'.sl j))) ∧ (j ≠ i → D'.sl j = D.sl j))
    (h2 : ∀ j, j < 4 → (4 + j = i → Iw w0.heap.size w1 v' (D'.qu j)) ∧ (4 + j ≠ i → D'.qu j = D.qu j)) :
    DA w0 us (w1.setCell ⟨rb, 5 + i, none⟩ v') rb (up X (1 + i) v') D' ∧ StD rb X (up X (1 + i) v') w (w1.setCell ⟨rb, 5 + i, none⟩ v') ∧ w1.cell? ⟨rb, 5 + i, none⟩ = some (X (1 + i)) ∧ w1.frozen? ⟨rb, 5 + i, none⟩ = false := by
  have hbl : bd rb X (1 + i + 1) = (X (1 + i)).ownBlock := bd_l rb X (by omega)
  have hup : bd rb (up X (1 + i) v') = up (bd rb X) (1 + i + 1) v'.ownBlock := bd_up rb X (by omega) v'
  obtain ⟨cs, c1, c2⟩ := h.cs
  have hb2 : But (fun k => k = rb) w1 (w1.setCell ⟨rb, 5 + i, none⟩ v') := But.set _ _ _ _ rfl
  have n0 : ∀ m, m ≠ 1 + i + 1 → ∀ k, bd rb X m = some k → ¬ (X (1 + i)).ownBlock = some k := fun m hm k hk e => hm (h.dis m (1 + i + 1) k hk (hbl.trans e))
  have n1 : ∀ m, m ≠ 0 → ∀ k, bd rb X m = some k → ¬ k = rb := fun m hm k hk e => hm (h.dis m 0 k hk (by rw [e]; rfl))
  have e0 : w1.heap[rb]? = some (.cells cs 63 (0, 0)) := hg.at c1 (n0 0 (by omega) rb rfl)
  have hlo : ∀ k, (X (1 + i)).ownBlock = some k → w0.heap.size ≤ k := fun k hk => h.lo (1 + i + 1) k (hbl.trans hk)
  have low : Below w0.heap.size w0 w1 := h.low.trans (hg.below h.low.size hlo)
  have hs1 := hg.size
  have hrb := heap_lt c1
  have nv : ∀ k, v'.ownBlock = some k → ¬ k = rb := by
    intro k hk e
    rcases ho k hk with c | c
    · exact n1 (1 + i + 1) (by omega) k (hbl.trans c) e
    · omega
  refine ⟨⟨⟨_, heap_setCell_same _ _ _ _ _ _ e0, c2.setV hi v' D' e1 e2 e3 e4⟩, ?_, fun j hj => ?_, fun j hj => ?_, ?_, ?_, low.trans (hb2.below low.size fun k e => by rw [e]; exact h.lo 0 rb rfl), by rw [htk]; exact h.ac⟩, ⟨(hg.mono fun k _ e => ⟨1 + i + 1, hbl.trans e⟩).trans (But.set _ _ _ _ ⟨0, rfl⟩), ?_⟩, (cell_of e0).trans (c2.ls i hi), frz_of e0⟩
  · rw [up_other _ _ (by omega), htk]
    exact (h.ts.but hg fun k hk => n0 (0 + 1) (by omega) k ((bd_l rb X (by omega)).trans hk)).but hb2 fun k hk => n1 (0 + 1) (by omega) k ((bd_l rb X (by omega)).trans hk)
  · by_cases e : j = i
    · rw [e, up_same]
      exact Nms.but (by rw [← e]; exact (h1 j hj).1 e) hb2 nv
    · rw [up_other _ _ (by omega), (h1 j hj).2 e]
      exact ((h.sl j hj).but hg fun k hk => n0 (1 + j + 1) (by omega) k ((bd_l rb X (by omega)).trans hk)).but hb2 fun k hk => n1 (1 + j + 1) (by omega) k ((bd_l rb X (by omega)).trans hk)
  · by_cases e : 4 + j = i
    · rw [show 5 + j = 1 + i by omega, up_same]
      exact ownsRow_but ((h2 j hj).1 e) hb2 nv
    · rw [up_other _ _ (by omega), (h2 j hj).2 e]
      exact ownsRow_but (ownsRow_but (h.qu j hj) hg fun k hk => n0 (5 + j + 1) (by omega) k ((bd_l rb X (by omega)).trans hk)) hb2 fun k hk => n1 (5 + j + 1) (by omega) k ((bd_l rb X (by omega)).trans hk)
  · rw [hup]
    exact dis_up h.dis (fun i k hk => h.lt k ⟨i, hk⟩) fun k hk => by rw [hbl]; exact ho k hk
  · rw [hup]
    intro m k hk
    unfold up at hk
    split at hk
    · rcases ho k hk with e | e
      · exact hlo k e
      · exact Nat.le_trans h.low.size e
    · exact h.lo m k hk
  · rintro k ⟨m, hm⟩
    rw [hup] at hm
    unfold up at hm
    split at hm
    · rcases ho k hm with e | e
      · exact .inl ⟨1 + i + 1, hbl.trans e⟩
      · exact .inr e
    · exact .inl ⟨m, hm⟩
end
end Go.Proofs.YtiiinpmkidobgaaDoor.Sd

/-
  The document's why: why a task would wait.
-/
namespace Go.Proofs.YtiiinpmkidobgaaDoor.Sd
open Go.RowKit
set_option linter.unusedVariables false
set_option linter.unusedSimpArgs false
set_option maxRecDepth 100000
def whyD (D : Ds) (t : Dk) (a : Ac) : Int :=
  if t.wa = 1 then 5 else if t.wa = 2 ∧ D.lk a.b.toNat ≠ none then 4 else if a.k = 1 ∧ D.lk a.a.toNat ≠ none then 4 else if a.k = 6 ∧ D.room ≤ (D.qu a.a.toNat).length then 6 else if a.k = 7 ∧ (D.qu a.a.toNat).length = 0 then 7 else 0
theorem belowN {B : Nat} {w w' : World} {n : Nat} (h : Below B w w') : Below B w (w'.drewN n) := h.trans (Qt.below ⟨n, rfl⟩ B)
set_option maxHeartbeats 4000000 in
theorem why_any (w0 w : World) (us : List Value) (rb : Nat) (X : Nat → Value) (D : Ds) (h : DA w0 us w rb X D) {i : Nat} {t : Dk} (hi : D.tk[i]? = some t) {m : Nat} {a : Ac} (ha : t.ac[t.pc]? = some a) (oka : OkA m a) (h2 : t.wa ≠ 0 → a.k = 3) (hw2 : t.wa ≤ 2) :
    Calls Tryd.prog 25 #[.pointer (some ⟨rb, 0, none⟩), .int .i64 (i : Int)] w fun e w' => e = .returned (.int .i64 (whyD D t a)) ∧ Below w.heap.size w w' := by
  obtain ⟨g, cap, hX, hn, hcm, -, ⟨u, u1, u2, c0⟩, c1, c2, c3, c4, c5⟩ := h.tcell hi
  have hil := (List.getElem?_eq_some_iff.1 hi).1
  obtain ⟨r0, r1, -⟩ := h.cells
  rw [hX] at r0
  obtain ⟨N, hN⟩ : ∃ N, Hid (D.tk.length = N) := ⟨_, rfl⟩
  rw [hN.out] at r0 hn hil
  have i1 : (i : Int) < (N : Int) := by omega
  have i2 : (N : Int) ≤ (cap : Int) := by omega
  obtain ⟨ao, ca, rfl, hcap, hacts⟩ := u2
  have hlt : t.pc < t.ac.length := (List.getElem?_eq_some_iff.1 ha).1
  have g2 : (t.pc : Int) < (t.ac.length : Int) := by omega
  have g3 : (t.ac.length : Int) ≤ (ca : Int) := by omega
  obtain ⟨ab, aoff, rfl, a0, a1, a2, a3⟩ := hacts t.pc a ha
  obtain ⟨ak, aa, ab', an⟩ := a
  simp only at a0 a1 a2 a3
  have HD := hide h
  replace oka := hide oka
  replace h2 := hide h2
  replace hw2 := hide hw2
  clear hacts ha h hn hcm hlt hcap hil hX u1
  have BT := box_below w (.cells #[.slice (some ⟨ab, aoff, none⟩) t.ac.length ca, .int .i64 (t.pc : Int), .int .i64 (t.wa : Int), .int .i64 t.gd, .int .i64 t.hw, .int .i64 t.wt] 65)
  have NT := heap_alloc_new w (.cells #[.slice (some ⟨ab, aoff, none⟩) t.ac.length ca, .int .i64 (t.pc : Int), .int .i64 (t.wa : Int), .int .i64 t.gd, .int .i64 t.hw, .int .i64 t.wt] 65)
  have E0 := alloc_cell (.cells #[.slice (some ⟨ab, aoff, none⟩) t.ac.length ca, .int .i64 (t.pc : Int), .int .i64 (t.wa : Int), .int .i64 t.gd, .int .i64 t.hw, .int .i64 t.wt] 65) a0
  have E1 := alloc_cell (.cells #[.slice (some ⟨ab, aoff, none⟩) t.ac.length ca, .int .i64 (t.pc : Int), .int .i64 (t.wa : Int), .int .i64 t.gd, .int .i64 t.hw, .int .i64 t.wt] 65) a1
  have E2 := alloc_cell (.cells #[.slice (some ⟨ab, aoff, none⟩) t.ac.length ca, .int .i64 (t.pc : Int), .int .i64 (t.wa : Int), .int .i64 t.gd, .int .i64 t.hw, .int .i64 t.wt] 65) a2
  have E3 := alloc_cell (.cells #[.slice (some ⟨ab, aoff, none⟩) t.ac.length ca, .int .i64 (t.pc : Int), .int .i64 (t.wa : Int), .int .i64 t.gd, .int .i64 t.hw, .int .i64 t.wt] 65) a3
  replace BT := hide BT
  replace NT := hide NT
  obtain ⟨WY, hWY⟩ : ∃ WY, Hid (whyD D t ⟨ak, aa, ab', an⟩ = WY) := ⟨_, rfl⟩
  rw [hWY.out]
  go_enter Tryd.func25, Tryd.ntmps25
  go_upto_block 0 with fail
  have N2 := heap_alloc_new (w.alloc (.cells #[.slice (some ⟨ab, aoff, none⟩) t.ac.length ca, .int .i64 (t.pc : Int), .int .i64 (t.wa : Int), .int .i64 t.gd, .int .i64 t.hw, .int .i64 t.wt] 65)) (.cells #[.int .i64 ak, .int .i64 aa, .int .i64 ab', .int .i64 an] 45)
  have B2 := box_below (w.alloc (.cells #[.slice (some ⟨ab, aoff, none⟩) t.ac.length ca, .int .i64 (t.pc : Int), .int .i64 (t.wa : Int), .int .i64 t.gd, .int .i64 t.hw, .int .i64 t.wt] 65)) (.cells #[.int .i64 ak, .int .i64 aa, .int .i64 ab', .int .i64 an] 45)
  have e : (w.alloc (.cells #[.slice (some ⟨ab, aoff, none⟩) t.ac.length ca, .int .i64 (t.pc : Int), .int .i64 (t.wa : Int), .int .i64 t.gd, .int .i64 t.hw, .int .i64 t.wt] 65)).heap.size = w.heap.size + 1 := by unfold World.alloc; exact Array.size_push _
  rw [e] at N2
  have N1 := (B2.block _ (heap_lt NT.out)).trans NT.out
  have BW := hide (keepF BT.out B2)
  clear e B2 BT NT E0 E1 E2 E3 a0 a1 a2 a3 c0 c1 c2 c3 c4 c5 r0 r1
  generalize (w.alloc (.cells #[.slice (some ⟨ab, aoff, none⟩) t.ac.length ca, .int .i64 (t.pc : Int), .int .i64 (t.wa : Int), .int .i64 t.gd, .int .i64 t.hw, .int .i64 t.wt] 65)).alloc (.cells #[.int .i64 ak, .int .i64 aa, .int .i64 ab', .int .i64 an] 45) = w2 at *
  obtain ⟨xt, hxt⟩ : ∃ xt, Hid (w.heap.size = xt) := ⟨_, rfl⟩
  rw [hxt.out] at N1 N2 ⊢
  have t2 : w2.cell? ⟨xt, 2, none⟩ = some (.int .i64 (t.wa : Int)) := by rw [cell_of N1]; rfl
  have b0 : w2.cell? ⟨xt + 1, 0, none⟩ = some (.int .i64 ak) := by rw [cell_of N2]; rfl
  have b1 : w2.cell? ⟨xt + 1, 1, none⟩ = some (.int .i64 aa) := by rw [cell_of N2]; rfl
  have b2 : w2.cell? ⟨xt + 1, 2, none⟩ = some (.int .i64 ab') := by rw [cell_of N2]; rfl
  have BW' : Hid (Below w.heap.size w w2) := BW.out
  have A2 := hide (HD.out.below BW'.out)
  obtain ⟨-, rr, -⟩ := A2.out.cells
  clear N1 N2 HD BW
  have end0 : Hid (Below w.heap.size w w2) := by exact BW'.out
  by_cases hw1 : t.wa = 1
  · have e : WY = 5 := by rw [← hWY.out]; simp [whyD, hw1]
    subst e
    rw [hw1] at t2
    go_wp2_with fail
    go_ret
    exact ⟨rfl, end0.out⟩
  by_cases hw2' : t.wa = 2
  · obtain rfl : ak = 3 := h2.out (by omega)
    obtain ⟨ib, rfl, hib⟩ := oka.out.b4 rfl
    have hl := A2.out.lcell hib
    have hib' : (ib : Int) < 4 := by omega
    rw [hw2'] at t2
    cases hk : D.lk ib with
    | some jj =>
      have e : WY = 4 := by rw [← hWY.out]; simp [whyD, hw2', hk]
      subst e
      rw [hk] at hl
      simp only [hv] at hl
      have hz : (((jj : Int) + 1) != 0) = true := by simp; omega
      go_upto_region 5 with fail
      go_quiet (fail)
      go_wp2_with fail
      go_ret
      exact ⟨rfl, by repeat (first | exact BW'.out | apply belowN)⟩
    | none =>
      have e : WY = 0 := by rw [← hWY.out]; simp [whyD, hw2', hk]
      subst e
      rw [hk] at hl
      simp only [hv] at hl
      go_upto_region 5 with fail
      go_quiet (fail)
      go_upto_region 7 with fail
      go_quiet (fail)
      go_upto_region 9 with fail
      go_quiet (fail)
      go_upto_region 11 with fail
      go_quiet (fail)
      go_wp2_with fail
      go_ret
      exact ⟨rfl, by repeat (first | exact BW'.out | apply belowN)⟩
  have hw0 : t.wa = 0 := by have := hw2.out; omega
  rw [hw0] at t2
  clear h2 hw2 hw1 hw2'
  by_cases k1 : ak = 1
  · subst k1
    obtain ⟨ia, rfl, hia⟩ := oka.out.a4 (by simp)
    have hl := A2.out.lcell hia
    have hia' : (ia : Int) < 4 := by omega
    cases hk : D.lk ia with
    | some jj =>
      have e : WY = 4 := by rw [← hWY.out]; simp [whyD, hw0, hk]
      subst e
      rw [hk] at hl
      simp only [hv] at hl
      have hz : (((jj : Int) + 1) != 0) = true := by simp; omega
      go_upto_region 5 with fail
      go_quiet (fail)
      go_upto_region 7 with fail
      go_quiet (fail)
      go_wp2_with fail
      go_ret
      exact ⟨rfl, by repeat (first | exact BW'.out | apply belowN)⟩
    | none =>
      have e : WY = 0 := by rw [← hWY.out]; simp [whyD, hw0, hk]
      subst e
      rw [hk] at hl
      simp only [hv] at hl
      go_upto_region 5 with fail
      go_quiet (fail)
      go_upto_region 7 with fail
      go_quiet (fail)
      go_upto_region 9 with fail
      go_quiet (fail)
      go_upto_region 11 with fail
      go_quiet (fail)
      go_wp2_with fail
      go_ret
      exact ⟨rfl, by repeat (first | exact BW'.out | apply belowN)⟩
  have d1 : (ak == 1) = false := by simpa using k1
  by_cases k6 : ak = 6
  · subst k6
    clear d1
    obtain ⟨ia, rfl, hia⟩ := oka.out.a4 (by simp)
    have hl := A2.out.qcell hia
    have hia' : (ia : Int) < 4 := by omega
    obtain ⟨qa, qc, hq⟩ := own_form (A2.out.qu ia hia)
    rw [hq.1] at hl
    obtain ⟨ql, hql⟩ : ∃ ql, Hid ((D.qu ia).length = ql) := ⟨_, rfl⟩
    rw [hql.out] at hl
    by_cases hr : D.room ≤ ql
    · have hr' : (D.room : Int) ≤ (ql : Int) := by omega
      have e : WY = 6 := by rw [← hWY.out]; simp [whyD, hw0, hql.out, hr]
      subst e
      go_upto_region 5 with fail
      go_quiet (fail)
      go_upto_region 7 with fail
      go_quiet (fail)
      go_upto_region 9 with fail
      go_quiet (fail)
      go_wp2_with fail
      go_ret
      exact ⟨rfl, by repeat (first | exact BW'.out | apply belowN)⟩
    · have hr' : ¬ (D.room : Int) ≤ (ql : Int) := by omega
      have e : WY = 0 := by rw [← hWY.out]; simp [whyD, hw0, hql.out, hr]
      subst e
      go_upto_region 5 with fail
      go_quiet (fail)
      go_upto_region 7 with fail
      go_quiet (fail)
      go_upto_region 9 with fail
      go_quiet (fail)
      go_upto_region 11 with fail
      go_quiet (fail)
      go_wp2_with fail
      go_ret
      exact ⟨rfl, by repeat (first | exact BW'.out | apply belowN)⟩
  have d6 : (ak == 6) = false := by simpa using k6
  by_cases k7 : ak = 7
  · subst k7
    clear d1 d6
    obtain ⟨ia, rfl, hia⟩ := oka.out.a4 (by simp)
    have hl := A2.out.qcell hia
    have hia' : (ia : Int) < 4 := by omega
    obtain ⟨qa, qc, hq⟩ := own_form (A2.out.qu ia hia)
    rw [hq.1] at hl
    obtain ⟨ql, hql⟩ : ∃ ql, Hid ((D.qu ia).length = ql) := ⟨_, rfl⟩
    rw [hql.out] at hl
    by_cases hr : ql = 0
    · have e : WY = 7 := by rw [← hWY.out]; simp only [whyD, hw0, Int.toNat_natCast, hql.out, hr]; simp
      subst e
      subst hr
      go_upto_region 5 with fail
      go_quiet (fail)
      go_upto_region 7 with fail
      go_quiet (fail)
      go_upto_region 9 with fail
      go_quiet (fail)
      go_upto_region 11 with fail
      go_quiet (fail)
      go_wp2_with fail
      go_ret
      exact ⟨rfl, by repeat (first | exact BW'.out | apply belowN)⟩
    · have hr' : ((ql : Int) == 0) = false := by simp; omega
      have e : WY = 0 := by rw [← hWY.out]; simp only [whyD, hw0, Int.toNat_natCast, hql.out]; simp [hr]
      subst e
      go_upto_region 5 with fail
      go_quiet (fail)
      go_upto_region 7 with fail
      go_quiet (fail)
      go_upto_region 9 with fail
      go_quiet (fail)
      go_upto_region 11 with fail
      go_quiet (fail)
      go_wp2_with fail
      go_ret
      exact ⟨rfl, by repeat (first | exact BW'.out | apply belowN)⟩
  have d7 : (ak == 7) = false := by simpa using k7
  have e : WY = 0 := by rw [← hWY.out]; simp [whyD, hw0, k1, k6, k7]
  subst e
  go_upto_region 5 with fail
  go_quiet (fail)
  go_upto_region 7 with fail
  go_quiet (fail)
  go_upto_region 9 with fail
  go_quiet (fail)
  go_upto_region 11 with fail
  go_quiet (fail)
  go_wp2_with fail
  go_ret
  exact ⟨rfl, by repeat (first | exact BW'.out | apply belowN)⟩
end Go.Proofs.YtiiinpmkidobgaaDoor.Sd

