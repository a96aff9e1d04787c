/-
  Bytes of one's own, or a front of them that has no room.
-/
import Derived.Test.YtjehpijjneghpaaGreatM21
import Derived.Test.YtjehpijjneghpaaGreatM15
namespace Go.Proofs.YtjehpijjneghpaaGreat.Re
open Go.RowKit Go.Maps Go.Sort Go.Shelf Go.Proofs.YtjehpijjneghpaaGreat.Nm Go.Proofs.YtjehpijjneghpaaGreat.Dk
set_option linter.unusedVariables false
def Oc (B : Nat) (w : World) (v : Value) (l : List UInt8) : Prop :=
  Ob B w v l ∨ ∃ g cap, v = .slice (some ⟨g, 0, none⟩) l.length l.length ∧ Ob B w (.slice (some ⟨g, 0, none⟩) l.length cap) l
theorem Oc.of {B : Nat} {w : World} {v : Value} {l : List UInt8} (h : Ob B w v l) : Oc B w v l := .inl h
theorem Oc.but {B : Nat} {X : Nat → Prop} {w w' : World} {v : Value} {l : List UInt8} (h : Oc B w v l) (hb : But X w w') (hx : ∀ k, v.ownBlock = some k → ¬ X k) : Oc B w' v l := by
  rcases h with h | ⟨g, cap, e, h⟩
  · exact .inl (h.but hb hx)
  · exact .inr ⟨g, cap, e, h.but hb fun k hk => hx k (by rw [e]; exact hk)⟩
theorem Oc.below {B : Nat} {w w' : World} {v : Value} {l : List UInt8} (h : Oc B w v l) (hb : Below w.heap.size w w') : Oc B w' v l := h.but (But.of_below hb fun _ => False) fun _ _ c => c
theorem Oc.lt {B : Nat} {w : World} {v : Value} {l : List UInt8} (h : Oc B w v l) : ∀ k, v.ownBlock = some k → B ≤ k ∧ k < w.heap.size := fun k hk => by
  rcases h with h | ⟨g, cap, e, h⟩
  · exact h.lt k hk
  · exact h.lt k (by rw [e] at hk; exact hk)
theorem Oc.form {B : Nat} {w : World} {v : Value} {l : List UInt8} (h : Oc B w v l) : ∃ ao ca, v = .slice ao l.length ca ∧ l.length ≤ ca ∧ ca ≤ 9223372036854775807 := by
  rcases h with h | ⟨g, cap, e, h⟩
  · exact h.form
  · obtain ⟨_, ca, e2, h1, h2⟩ := h.form
    exact ⟨_, _, e, Nat.le_refl _, by omega⟩
theorem Oc.sl {B : Nat} {w : World} {v : Value} {l : List UInt8} (h : Oc B w v l) : Sl w v l := by
  rcases h with h | ⟨g, cap, rfl, h⟩
  · exact h.sl
  · obtain ⟨ao, ca, e, h1, h2, h3, h4⟩ := h.sl
    simp only [Value.slice.injEq] at e
    obtain ⟨rfl, _, rfl⟩ := e
    exact ⟨_, _, rfl, fun c => by simp at c, Nat.le_refl _, by omega, h4⟩
theorem Oc.cut {B : Nat} {w : World} {ao : Option Addr} {n ca k : Nat} {L : List UInt8} (h : Oc B w (.slice ao n ca) L) (hk : k ≤ L.length) : Oc B w (.slice ao k k) (L.take k) := by
  have hl : (L.take k).length = k := by rw [List.length_take]; omega
  have key : ∀ c, Ob B w (.slice ao n c) L → Oc B w (.slice ao k k) (L.take k) := fun c h => by
    have h2 := Ob.take h hk
    have h0 := h2
    rcases h2.2 with ⟨e, e2⟩ | ⟨g, cap, cur, e, _⟩
    · simp only [Value.slice.injEq] at e
      obtain ⟨rfl, rfl, rfl⟩ := e
      exact .inl h0
    · simp only [Value.slice.injEq] at e
      obtain ⟨rfl, e3, rfl⟩ := e
      exact .inr ⟨g, c, by rw [hl], by rw [hl]; exact h0⟩
  rcases h with h | ⟨g, cap, e, h⟩
  · exact key _ h
  · simp only [Value.slice.injEq] at e
    obtain ⟨rfl, rfl, rfl⟩ := e
    exact key cap h
theorem run_append_none {w : World} {vx : Value} {g n c : Nat} (hm : Sl w vx []) (hn : n ≤ c) (ty : TypeId) :
    (Builtin.append_ #[30, 30] ty #[.slice (some ⟨g, 0, none⟩) n c, vx]).run Tryz.prog w = .ok (.slice (some ⟨g, 0, none⟩) n c) w := by
  obtain ⟨i0, hi, hz0, hz1, hz2⟩ := info_parts infoB
  obtain ⟨ao, cap, rfl, h1, h2, h3, h4⟩ := hm
  cases ao with
  | none => simp [Builtin.append_, run_underlying Tryz.underlying30, sizeOf, typeInfo, hi, Builtin.lenOf, Builtin.firstCells, hn, storeCells]
  | some ad =>
    have hf := run_firstCells_some (P := Tryz.prog) (w := w) i0.size 0 ad 0 cap [] (by simp) (fun j v hv => by simp at hv)
    simp only [List.length_nil]
    simp [Builtin.append_, run_underlying Tryz.underlying30, sizeOf, typeInfo, hi, Builtin.lenOf, hf, hn, storeCells]
theorem run_appO {B : Nat} {w : World} {v vx : Value} {l m : List UInt8} (h : Oc B w v l) (hm : Sl w vx m) (hl : l.length + m.length ≤ 140737488355328) (hB : B ≤ w.heap.size) (ty : TypeId) :
    ∃ v' w', (Builtin.append_ #[30, 30] ty #[v, vx]).run Tryz.prog w = .ok v' w' ∧ Oc B w' v' (l ++ m) ∧ w.grownBy w' v.ownBlock ∧ (v'.ownBlock = v.ownBlock ∨ v'.ownBlock = some w.heap.size) := by
  rcases h with h | ⟨g, cap, rfl, h⟩
  · obtain ⟨v', w', r, o, g, a⟩ := run_app h hm hl hB ty
    exact ⟨v', w', r, .inl o, g, a⟩
  · by_cases hz : m = []
    · subst hz
      exact ⟨_, w, run_append_none hm (Nat.le_refl _) ty, .inr ⟨g, cap, by rw [List.append_nil], by rw [List.append_nil]; exact h⟩, ⟨rfl, rfl, rfl, Nat.le_refl _, fun _ _ _ => rfl⟩, .inl rfl⟩
    · obtain ⟨i, hi, hz0, hs1, hy⟩ := info_parts infoB
      have hm0 : 0 < m.length := List.length_pos_iff.2 hz
      have rd : ∀ {ao : Option Addr} {k c : Nat} {u : List UInt8}, Sl w (.slice ao k c) u → 0 < u.length → ∃ b off, ao = some ⟨b, off, none⟩ ∧ ∀ j v, (bvals u)[j]? = some v → w.cell? ((⟨b, off, none⟩ : Addr).add j) = some v := by
        intro ao k c u hu h0
        obtain ⟨ao', c', e1, _, _, _, h5⟩ := hu
        simp only [Value.slice.injEq] at e1
        obtain ⟨rfl, _, _⟩ := e1
        obtain ⟨b, off, rfl, hc⟩ := h5.at h0
        refine ⟨b, off, rfl, fun j v hv => ?_⟩
        have hj : j < u.length := by
          have := (List.getElem?_eq_some_iff.1 hv).1
          simpa [bvals] using this
        rw [addr_add, hc j hj, ← hv, bvals_get hj]
      obtain ⟨ao, k, c, rfl, hk⟩ : ∃ ao k c, vx = .slice ao k c ∧ k = m.length := by
        obtain ⟨ao, c, e1, _⟩ := id hm
        exact ⟨ao, _, c, e1, rfl⟩
      subst hk
      obtain ⟨b2, o2, rfl, c2⟩ := rd hm hm0
      have c1 : ∀ j v, (bvals l)[j]? = some v → w.cell? ((⟨g, 0, none⟩ : Addr).add j) = some v := by
        intro j v hv
        have h0 : 0 < l.length := by
          have := (List.getElem?_eq_some_iff.1 hv).1
          simp [bvals] at this
          omega
        obtain ⟨b, off, e1, hc⟩ := rd h.sl h0
        simp only [Option.some.injEq] at e1
        rw [e1]
        exact hc j v hv
      have hr := run_append_grow (P := Tryz.prog) w 30 ty 5 i (.int .u8 0) Tryz.underlying30 hi hz0 ⟨g, 0, none⟩ l.length l.length (bvals l) (by rw [hs1, bvals_length]; omega) c1 ⟨b2, o2, none⟩ m.length c (bvals m) (by rw [hs1, bvals_length]; omega) c2 (by omega) (by omega) (by rw [hy]; exact cap_fits (by omega) (by omega))
      have hge := grownCap_ge w (l.length + m.length) l.length 5
      have hle := grownCap_le_maxLen w (l.length + m.length) l.length 5 (by unfold maxLen; omega)
      have hB2 : Below w.heap.size w (w.drew.alloc (.cells ((bvals l).toArray ++ (bvals m).toArray ++ Builtin.zeroCells (Value.int .u8 0).cells (grownCap w (l.length + m.length) l.length 5 - (l.length + m.length))) 5)) := (Below.refl _ w).drew.alloc (by simp) _
      refine ⟨_, _, hr, .inl ?_, Below.grownAny hB2 _, .inr rfl⟩
      show World.ownsRow _ _ _ _ _ _ _
      rw [List.length_append]
      refine ⟨by simp [bvals], Or.inr ⟨w.heap.size, _, _, rfl, hB, heap_alloc_new w.drew _, hge, hle, ?_, ?_⟩⟩
      · simp only [Array.size_append, List.size_toArray, size_zeroCells, bvals_length]
        simp [Value.cells]
        omega
      · rw [bvals_append]
        simp only [Array.toList_append, Nat.mul_one]
        exact List.take_left' (by simp [bvals])
structure RB where
  most : Int
  F : List (List UInt8 × List UInt8 × Int)
  dir : Dr
  old : Dr
  pe : List RC
  fs : List Ft
  si : Int
  c0 : Int
  c1 : Int
  c2 : Int
  c3 : Int
  c4 : Int
  c5 : Int
  c6 : Int
  c7 : Int
  c8 : Int
  down : Bool
  boom : Int
structure RV where
  vF : Value
  vD : Value
  vO : Value
  vP : Value
  vA : Value
  T : List (Value × Value)
def RB.cs (R : RB) (V : RV) : Array Value := #[.int .i64 R.most, V.vF, V.vD, V.vO, V.vP, V.vA, .int .i64 R.si, .int .i64 R.c0, .int .i64 R.c1, .int .i64 R.c2, .int .i64 R.c3, .int .i64 R.c4, .int .i64 R.c5, .int .i64 R.c6, .int .i64 R.c7, .int .i64 R.c8, .bool R.down, .int .i64 R.boom]
def blk (b : Nat) (V : RV) : Nat → Option Nat
  | 0 => some b
  | 1 => V.vF.ownBlock
  | 2 => V.vD.ownBlock
  | 3 => V.vO.ownBlock
  | 4 => V.vP.ownBlock
  | 5 => V.vA.ownBlock
  | n + 6 => if n % 2 = 0 then (V.T[n / 2]?).bind (fun t => t.1.ownBlock) else (V.T[n / 2]?).bind (fun t => t.2.ownBlock)
def Dis (f : Nat → Option Nat) : Prop := ∀ x y, x ≠ y → ∀ k, f x = some k → f y ≠ some k
theorem Dis.step {f g : Nat → Option Nat} {H : Nat} (hf : Dis f) (hlt : ∀ x k, f x = some k → k < H) (hx : ∀ x, g x = f x ∨ ∀ k, g x = some k → H ≤ k) (hn : ∀ x y, x ≠ y → ∀ k, H ≤ k → g x = some k → g y ≠ some k) : Dis g := by
  intro x y hxy k h1 h2
  by_cases hk : H ≤ k
  · exact hn x y hxy k hk h1 h2
  · rcases hx x with e | e
    · rcases hx y with e' | e'
      · rw [e] at h1; rw [e'] at h2; exact hf x y hxy k h1 h2
      · exact hk (e' k h2)
    · exact hk (e k h1)
def fcells (F : List (List UInt8 × List UInt8 × Int)) (T : List (Value × Value)) : List Value := ((F.zip T).map fun e => [e.2.1, e.2.2, Value.int .i64 e.1.2.2]).flatten
def acells (fs : List Ft) : List Value := (fs.map fun f => [Value.int .i64 f.1, .int .i64 f.2.1, .int .i64 f.2.2]).flatten
structure RM (w : World) (b : Nat) (R : RB) (V : RV) : Prop where
  box : w.heap[b]? = some (.cells (R.cs V) TRD (0, 0))
  dd : En 0 w V.vD R.dir
  oo : En 0 w V.vO R.old
  pp : Pn 0 w V.vP R.pe
  aa : w.ownsRow 0 118 3 V.vA R.fs.length (acells R.fs)
  ff : w.ownsRow 0 138 3 V.vF R.F.length (fcells R.F V.T)
  ln : V.T.length = R.F.length
  nn : ∀ i (h : i < R.F.length), Oc 0 w (V.T[i]'(by omega)).1 R.F[i].1 ∧ Oc 0 w (V.T[i]'(by omega)).2 R.F[i].2.1
  ds : Dis (blk b V)
  lt : ∀ x k, blk b V x = some k → k < w.heap.size
theorem ownsRow_but {X : Nat → Prop} {w w' : World} {B : Nat} {T : TypeId} {size : Nat} {v : Value} {n : Nat} {xs : List Value} (h : w.ownsRow B T size v n xs) (hb : But X w w') (hx : ∀ k, v.ownBlock = some k → ¬ X k) : w'.ownsRow B T size v n xs :=
  ⟨h.1, h.2.imp id fun ⟨g, cap, cur, e, hg, hh, r⟩ => ⟨g, cap, cur, e, hg, (hb.block g (heap_lt hh) (hx g (by rw [e]; simp [Value.ownBlock]))).trans hh, r⟩⟩
theorem blk_N (b : Nat) (V : RV) {i : Nat} (h : i < V.T.length) : blk b V (2 * i + 6) = V.T[i].1.ownBlock := by
  show (if (2 * i) % 2 = 0 then (V.T[2 * i / 2]?).bind (fun t => t.1.ownBlock) else _) = _
  rw [if_pos (by omega), show 2 * i / 2 = i by omega, List.getElem?_eq_getElem h]
  rfl
theorem blk_L (b : Nat) (V : RV) {i : Nat} (h : i < V.T.length) : blk b V (2 * i + 7) = V.T[i].2.ownBlock := by
  show (if (2 * i + 1) % 2 = 0 then _ else (V.T[(2 * i + 1) / 2]?).bind (fun t => t.2.ownBlock)) = _
  rw [if_neg (by omega), show (2 * i + 1) / 2 = i by omega, List.getElem?_eq_getElem h]
  rfl
theorem RM.but {X : Nat → Prop} {w w' : World} {b : Nat} {R : RB} {V : RV} (h : RM w b R V) (hb : But X w w') (hx : ∀ x k, blk b V x = some k → ¬ X k) : RM w' b R V := by
  refine ⟨(hb.block b (heap_lt h.box) (hx 0 b rfl)).trans h.box, h.dd.but hb (hx 2), h.oo.but hb (hx 3), h.pp.but hb (hx 4), ownsRow_but h.aa hb (hx 5), ownsRow_but h.ff hb (hx 1), h.ln, fun i hi => ?_, h.ds, fun x k hk => Nat.lt_of_lt_of_le (h.lt x k hk) hb.size⟩
  have hl : i < V.T.length := by rw [h.ln]; exact hi
  obtain ⟨a, c⟩ := h.nn i hi
  exact ⟨Oc.but a hb (fun k hk => hx (2 * i + 6) k (by rw [blk_N b V hl]; exact hk)), Oc.but c hb (fun k hk => hx (2 * i + 7) k (by rw [blk_L b V hl]; exact hk))⟩
theorem RM.below {w w' : World} {b : Nat} {R : RB} {V : RV} (h : RM w b R V) (hb : Below w.heap.size w w') : RM w' b R V := h.but (But.of_below hb fun _ => False) fun _ _ _ c => c
def RB.new (most : Int) : RB := ⟨most, [], [], [], [], [], 0, 0, 0, 0, 0, 0, 0, 0, 0, 0, false, 0⟩
def RV.nil : RV := ⟨.slice none 0 0, .slice none 0 0, .slice none 0 0, .slice none 0 0, .slice none 0 0, []⟩
theorem rm_new (w : World) (most : Int) : RM (w.alloc (.cells ((RB.new most).cs RV.nil) TRD)) w.heap.size (RB.new most) RV.nil := by
  refine ⟨heap_alloc_new _ _, En.nil _ _, En.nil _ _, World.ownsRow_nil _ _ _ _, World.ownsRow_nil _ _ _ _, World.ownsRow_nil _ _ _ _, rfl, fun i hi => by simp [RB.new] at hi, ?_, ?_⟩
  · intro x y hxy k h1 h2
    have hz : ∀ z k, blk w.heap.size RV.nil z = some k → z = 0 := fun z k hk => by
      match z with
      | 0 => rfl
      | 1 => simp [blk, RV.nil, Value.ownBlock] at hk
      | 2 => simp [blk, RV.nil, Value.ownBlock] at hk
      | 3 => simp [blk, RV.nil, Value.ownBlock] at hk
      | 4 => simp [blk, RV.nil, Value.ownBlock] at hk
      | 5 => simp [blk, RV.nil, Value.ownBlock] at hk
      | n + 6 => simp [blk, RV.nil] at hk
    exact hxy ((hz x k h1).trans (hz y k h2).symm)
  · intro z k hk
    match z with
    | 0 => simp [blk] at hk; simp; omega
    | 1 => simp [blk, RV.nil, Value.ownBlock] at hk
    | 2 => simp [blk, RV.nil, Value.ownBlock] at hk
    | 3 => simp [blk, RV.nil, Value.ownBlock] at hk
    | 4 => simp [blk, RV.nil, Value.ownBlock] at hk
    | 5 => simp [blk, RV.nil, Value.ownBlock] at hk
    | n + 6 => simp [blk, RV.nil] at hk
theorem new_ref (w : World) (most : Int) (h0 : 0 ≤ most) (h1 : most ≤ 16777216) :
    Calls Tryz.prog 10 #[.int .i64 most] w fun e w' => e = .returned (.pointer (some ⟨w.heap.size, 0, none⟩)) ∧ RM w' w.heap.size (RB.new most) RV.nil ∧ Below w.heap.size w w' := by
  have hR := hide (rm_new w most)
  have hB := hide (box_below w (.cells ((RB.new most).cs RV.nil) TRD))
  have a1 : ¬ most < 0 := by omega
  have a2 : ¬ most > 16777216 := by omega
  unfold RB.cs RB.new RV.nil TRD at hR hB
  dsimp only at hR hB
  unfold RB.new RV.nil
  go_enter Tryz.func10, Tryz.ntmps10
  go_wp2_with fail
  go_ret
  exact ⟨rfl, hR.out, hB.out⟩
theorem acells_len (fs : List Ft) : (acells fs).length = fs.length * 3 := by
  induction fs with
  | nil => rfl
  | cons e r ih =>
    have : acells (e :: r) = [.int .i64 e.1, .int .i64 e.2.1, .int .i64 e.2.2] ++ acells r := by simp [acells]
    rw [this, List.length_append, ih, List.length_cons]
    simp
    omega
theorem acells_at (fs : List Ft) : ∀ i (h : i < fs.length), (acells fs)[i * 3]? = some (.int .i64 fs[i].1) ∧ (acells fs)[i * 3 + 1]? = some (.int .i64 fs[i].2.1) ∧ (acells fs)[i * 3 + 2]? = some (.int .i64 fs[i].2.2) := by
  induction fs with
  | nil => intro i h; simp at h
  | cons e r ih =>
    intro i h
    have : acells (e :: r) = [.int .i64 e.1, .int .i64 e.2.1, .int .i64 e.2.2] ++ acells r := by simp [acells]
    rw [this]
    cases i with
    | zero => exact ⟨rfl, rfl, rfl⟩
    | succ i =>
      obtain ⟨a, b, c⟩ := ih i (by simpa using h)
      rw [show (i + 1) * 3 = i * 3 + 1 + 1 + 1 by omega]
      simp only [List.cons_append, List.nil_append, List.getElem?_cons_succ, List.getElem_cons_succ]
      exact ⟨a, b, c⟩
theorem fts_of {B : Nat} {w : World} {v : Value} {fs : List Ft} (h : w.ownsRow B 118 3 v fs.length (acells fs)) : Fts w v fs := by
  have h0 := h
  rcases h.2 with ⟨rfl, e⟩ | ⟨g, cap, cur, rfl, _, _, a, b, _⟩
  · have : fs = [] := List.length_eq_zero_iff.1 e
    subst this
    exact ⟨none, 0, rfl, Nat.le_refl _, Nat.zero_le _, fun i hi => by simp at hi⟩
  · refine ⟨_, _, rfl, a, b, fun i hi => ⟨g, 0, rfl, ?_, ?_, ?_⟩⟩
    · have := World.ownsRow.cells h0 (g := g) rfl (i * 3) _ (acells_at fs i hi).1
      rw [addr_add] at this
      exact this
    · have := World.ownsRow.cells h0 (g := g) rfl (i * 3 + 1) _ (acells_at fs i hi).2.1
      rw [addr_add] at this
      exact this
    · have := World.ownsRow.cells h0 (g := g) rfl (i * 3 + 2) _ (acells_at fs i hi).2.2
      rw [addr_add] at this
      exact this
theorem own_zero {B : Nat} {w : World} {T : TypeId} {size : Nat} {v : Value} {n : Nat} {xs : List Value} (h : w.ownsRow B T size v n xs) {g off m c : Nat} (e : v = .slice (some ⟨g, off, none⟩) m c) : v.ownBlock = some g := by
  rcases h.2 with ⟨rfl, _⟩ | ⟨g', cap, cur, rfl, _⟩
  · simp at e
  · simp only [Value.slice.injEq, Option.some.injEq, Addr.mk.injEq] at e
    rw [← e.1.1]
    simp [Value.ownBlock]
def RB.flt (R : RB) : Ft := rfl1 R.fs (R.si + 1)
def RB.cj (R : RB) : Nat → Int
  | 0 => R.c0
  | 1 => R.c1
  | 2 => R.c2
  | 3 => R.c3
  | 4 => R.c4
  | 5 => R.c5
  | _ => R.c6
def RB.tick (R : RB) : RB := { R with c7 := R.c7 + 1, si := R.si + 1, boom := 0, down := R.down || decide (R.flt.2.1 = 3) }
def RB.beg (R : RB) : Nat → RB
  | 0 => { R.tick with c0 := R.c0 + 1 }
  | 1 => { R.tick with c1 := R.c1 + 1 }
  | 2 => { R.tick with c2 := R.c2 + 1 }
  | 3 => { R.tick with c3 := R.c3 + 1 }
  | 4 => { R.tick with c4 := R.c4 + 1 }
  | 5 => { R.tick with c5 := R.c5 + 1 }
  | _ => { R.tick with c6 := R.c6 + 1 }
theorem beg_cs (R : RB) (V : RV) (j : Nat) (hj : j < 7) : begF (begC (R.cs V) j (R.cj j) R.c7 R.si) R.flt.2.1 = (R.beg j).cs V := by
  unfold begF
  by_cases h : R.flt.2.1 = 3
  · have hd : (R.down || decide (R.flt.2.1 = 3)) = true := by simp [h]
    rw [if_pos h]
    match j, hj with
    | 0, _ => simp [begC, RB.cs, RB.beg, RB.tick, RB.cj, hd]
    | 1, _ => simp [begC, RB.cs, RB.beg, RB.tick, RB.cj, hd]
    | 2, _ => simp [begC, RB.cs, RB.beg, RB.tick, RB.cj, hd]
    | 3, _ => simp [begC, RB.cs, RB.beg, RB.tick, RB.cj, hd]
    | 4, _ => simp [begC, RB.cs, RB.beg, RB.tick, RB.cj, hd]
    | 5, _ => simp [begC, RB.cs, RB.beg, RB.tick, RB.cj, hd]
    | 6, _ => simp [begC, RB.cs, RB.beg, RB.tick, RB.cj, hd]
  · have hd : (R.down || decide (R.flt.2.1 = 3)) = R.down := by simp [h]
    rw [if_neg h]
    match j, hj with
    | 0, _ => simp [begC, RB.cs, RB.beg, RB.tick, RB.cj, hd]
    | 1, _ => simp [begC, RB.cs, RB.beg, RB.tick, RB.cj, hd]
    | 2, _ => simp [begC, RB.cs, RB.beg, RB.tick, RB.cj, hd]
    | 3, _ => simp [begC, RB.cs, RB.beg, RB.tick, RB.cj, hd]
    | 4, _ => simp [begC, RB.cs, RB.beg, RB.tick, RB.cj, hd]
    | 5, _ => simp [begC, RB.cs, RB.beg, RB.tick, RB.cj, hd]
    | 6, _ => simp [begC, RB.cs, RB.beg, RB.tick, RB.cj, hd]
theorem beg_same (R : RB) (j : Nat) : (R.beg j).F = R.F ∧ (R.beg j).dir = R.dir ∧ (R.beg j).old = R.old ∧ (R.beg j).pe = R.pe ∧ (R.beg j).fs = R.fs ∧ (R.beg j).most = R.most := by
  unfold RB.beg
  split <;> exact ⟨rfl, rfl, rfl, rfl, rfl, rfl⟩
structure RB.ok (R : RB) : Prop where
  lo : 0 ≤ R.c0 ∧ 0 ≤ R.c1 ∧ 0 ≤ R.c2 ∧ 0 ≤ R.c3 ∧ 0 ≤ R.c4 ∧ 0 ≤ R.c5 ∧ 0 ≤ R.c6 ∧ 0 ≤ R.c7 ∧ 0 ≤ R.si
  hi : R.c0 ≤ R.c7 ∧ R.c1 ≤ R.c7 ∧ R.c2 ≤ R.c7 ∧ R.c3 ≤ R.c7 ∧ R.c4 ≤ R.c7 ∧ R.c5 ≤ R.c7 ∧ R.c6 ≤ R.c7 ∧ R.si ≤ R.c7
  no4 : ∀ f ∈ R.fs, f.2.1 ≠ 4
theorem RM.turn {w w' : World} {b : Nat} {R R' : RB} {V : RV} (h : RM w b R V) (hb : But (fun k => k = b) w w') (hbox : w'.heap[b]? = some (.cells (R'.cs V) TRD (0, 0))) (e : R'.F = R.F ∧ R'.dir = R.dir ∧ R'.old = R.old ∧ R'.pe = R.pe ∧ R'.fs = R.fs) : RM w' b R' V := by
  obtain ⟨e1, e2, e3, e4, e5⟩ := e
  have nb : ∀ x, x ≠ 0 → ∀ k, blk b V x = some k → ¬ k = b := fun x hx k hk c => h.ds 0 x (Ne.symm hx) b rfl (by rw [hk, c])
  refine ⟨hbox, by rw [e2]; exact h.dd.but hb (nb 2 (by omega)), by rw [e3]; exact h.oo.but hb (nb 3 (by omega)), by rw [e4]; exact h.pp.but hb (nb 4 (by omega)), by rw [e5]; exact ownsRow_but h.aa hb (nb 5 (by omega)), by rw [e1]; exact ownsRow_but h.ff hb (nb 1 (by omega)), by rw [e1]; exact h.ln, ?_, h.ds, fun x k hk => Nat.lt_of_lt_of_le (h.lt x k hk) hb.size⟩
  intro i hi
  have hi' : i < R.F.length := by rw [← e1]; exact hi
  have hl : i < V.T.length := by rw [h.ln]; exact hi'
  obtain ⟨a, c⟩ := h.nn i hi'
  simp only [e1]
  exact ⟨Oc.but a hb (fun k hk => nb (2 * i + 6) (by omega) k (by rw [blk_N b V hl]; exact hk)), Oc.but c hb (fun k hk => nb (2 * i + 7) (by omega) k (by rw [blk_L b V hl]; exact hk))⟩
theorem begins_rm {w : World} {b : Nat} {R : RB} {V : RV} (h : RM w b R V) (ho : R.ok) (hc : R.c7 ≤ 1000000000) (j : Nat) (hj : j < 7) :
    Calls Tryz.prog 97 #[.pointer (some ⟨b, 0, none⟩), .pointer (some ⟨b, 7 + j, none⟩)] w fun e w' => e = .returned (fv R.flt) ∧ RM w' b (R.beg j) V ∧ But (fun k => k = b) w w' := by
  obtain ⟨l0, l1, l2, l3, l4, l5, l6, l7, l8⟩ := ho.lo
  obtain ⟨m0, m1, m2, m3, m4, m5, m6, m8⟩ := ho.hi
  have hcj : (R.cs V)[7 + j]? = some (.int .i64 (R.cj j)) ∧ 0 ≤ R.cj j ∧ R.cj j ≤ R.c7 := by
    match j, hj with
    | 0, _ => exact ⟨rfl, l0, m0⟩
    | 1, _ => exact ⟨rfl, l1, m1⟩
    | 2, _ => exact ⟨rfl, l2, m2⟩
    | 3, _ => exact ⟨rfl, l3, m3⟩
    | 4, _ => exact ⟨rfl, l4, m4⟩
    | 5, _ => exact ⟨rfl, l5, m5⟩
    | 6, _ => exact ⟨rfl, l6, m6⟩
  have hAb : ∀ g off n c, V.vA = .slice (some ⟨g, off, none⟩) n c → 0 < n → g ≠ b := fun g off n c e _ e2 => h.ds 0 5 (by omega) b rfl (by show V.vA.ownBlock = _; rw [own_zero h.aa e, e2])
  refine (begins_ref w b j (R.cs V) (R.cj j) R.c7 R.si V.vA R.fs _ _ h.box rfl hj hcj.1 rfl rfl rfl rfl rfl (fts_of h.aa) hAb ho.no4 hcj.2.1 (by omega) l7 (by omega) l8 (by omega)).mono ?_
  rintro e w' ⟨he, hb, hbt⟩
  refine ⟨he, ?_, hbt⟩
  obtain ⟨e1, e2, e3, e4, e5, _⟩ := beg_same R j
  have hb2 : w'.heap[b]? = some (.cells ((R.beg j).cs V) TRD (0, 0)) := by rw [← beg_cs R V j hj]; exact hb
  exact h.turn hbt hb2 ⟨e1, e2, e3, e4, e5⟩
def RB.chg (R : RB) (c : RC) : RB := { R with dir := c.run R.dir, pe := R.pe ++ [c] }
theorem chg_cs (R : RB) (V : RV) (c : RC) (vD vP : Value) : ((R.cs V).setIfInBounds 2 vD).setIfInBounds 4 vP = (R.chg c).cs { V with vD := vD, vP := vP } := by simp [RB.cs, RB.chg]
theorem blk_dp (b : Nat) (V : RV) (vD vP : Value) (x : Nat) (h2 : x ≠ 2) (h4 : x ≠ 4) : blk b { V with vD := vD, vP := vP } x = blk b V x := by
  match x with
  | 0 => rfl
  | 1 => rfl
  | 2 => exact absurd rfl h2
  | 3 => rfl
  | 4 => exact absurd rfl h4
  | 5 => rfl
  | n + 6 => rfl
theorem change_rm {w : World} {b : Nat} {R : RB} {V : RV} (h : RM w b R V) (c : RC) (hl : (R.dir.length : Int) ≤ 1000000000) (hpl : (R.pe.length : Int) ≤ 1000000000) (f0 : -9223372036854775808 ≤ c.fi) (f1 : c.fi ≤ 9223372036854775807) :
    Calls Tryz.prog 99 #[.pointer (some ⟨b, 0, none⟩), c.v] w fun e w' => e = .returned (.tuple #[]) ∧ (∃ V', RM w' b (R.chg c) V' ∧ ∀ x k, blk b V' x = some k → blk b V x = some k ∨ w.heap.size ≤ k) ∧ But (fun k => ∃ x, blk b V x = some k) w w' := by
  have hDb : V.vD.ownBlock ≠ some b := h.ds 0 2 (by omega) b rfl
  have hPb : V.vP.ownBlock ≠ some b := h.ds 0 4 (by omega) b rfl
  have hDP : ∀ k, V.vD.ownBlock = some k → V.vP.ownBlock ≠ some k := h.ds 2 4 (by omega)
  refine (change_ref w b (R.cs V) V.vD V.vP R.dir R.pe c h.box rfl rfl rfl h.dd h.pp hPb hDb hDP hl hpl f0 f1).mono ?_
  rintro e w' ⟨rfl, ⟨vD, vP, hbox, hd, hp, nD, nP, hDP'⟩, hbt⟩
  refine ⟨rfl, ⟨{ V with vD := vD, vP := vP }, ?_, ?_⟩, hbt.mono ?_⟩
  · have nx : ∀ x, x ≠ 0 → x ≠ 4 → ∀ k, blk b V x = some k → ¬ (k = b ∨ V.vP.ownBlock = some k) := fun x h0 h4 k hk c => by
      rcases c with c | c
      · exact h.ds 0 x (Ne.symm h0) b rfl (by rw [hk, c])
      · exact h.ds x 4 h4 k hk c
    have hsz := hbt.size
    refine ⟨by rw [← chg_cs]; exact hbox, hd, h.oo.but hbt (nx 3 (by omega) (by omega)), hp, ownsRow_but h.aa hbt (nx 5 (by omega) (by omega)), ownsRow_but h.ff hbt (nx 1 (by omega) (by omega)), h.ln, fun i hi => ?_, ?_, ?_⟩
    · have hi' : i < R.F.length := hi
      have hl' : i < V.T.length := by rw [h.ln]; exact hi'
      obtain ⟨a, q⟩ := h.nn i hi'
      exact ⟨Oc.but a hbt (fun k hk => nx (2 * i + 6) (by omega) (by omega) k (by rw [blk_N b V hl']; exact hk)), Oc.but q hbt (fun k hk => nx (2 * i + 7) (by omega) (by omega) k (by rw [blk_L b V hl']; exact hk))⟩
    · refine h.ds.step (H := w.heap.size) h.lt (fun x => ?_) (fun x y hxy k hk h1 h2 => ?_)
      · by_cases h2 : x = 2
        · subst h2; exact nD
        · by_cases h4 : x = 4
          · subst h4; exact nP
          · exact .inl (blk_dp b V vD vP x h2 h4)
      · have old : ∀ z, z ≠ 2 → z ≠ 4 → blk b { V with vD := vD, vP := vP } z ≠ some k := fun z z2 z4 hz => by
          rw [blk_dp b V vD vP z z2 z4] at hz
          have := h.lt z k hz
          omega
        by_cases x2 : x = 2
        · subst x2
          by_cases y4 : y = 4
          · subst y4; exact hDP' k h1 h2
          · exact old y (Ne.symm hxy) y4 h2
        · by_cases x4 : x = 4
          · subst x4
            by_cases y2 : y = 2
            · subst y2; exact hDP' k h2 h1
            · exact old y y2 (Ne.symm hxy) h2
          · exact old x x2 x4 h1
    · intro x k hk
      by_cases h2 : x = 2
      · subst h2; exact (hd.lt k hk).2
      · by_cases h4 : x = 4
        · subst h4; exact (hp.lt k hk).2
        · rw [blk_dp b V vD vP x h2 h4] at hk
          have := h.lt x k hk
          omega
  · intro x k hk
    by_cases h2 : x = 2
    · subst h2
      rcases nD with e | e
      · exact .inl (e.symm.trans hk)
      · exact .inr (e k hk)
    · by_cases h4 : x = 4
      · subst h4
        rcases nP with e | e
        · exact .inl (e.symm.trans hk)
        · exact .inr (e k hk)
      · rw [blk_dp b V vD vP x h2 h4] at hk
        exact .inl hk
  · intro k _ c
    rcases c with c | c
    · exact ⟨0, by rw [c]; rfl⟩
    · exact ⟨4, c⟩
def Rgo (w w' : World) (b : Nat) (V : RV) (R' : RB) : Prop := (∃ V', RM w' b R' V' ∧ ∀ x k, blk b V' x = some k → blk b V x = some k ∨ w.heap.size ≤ k) ∧ But (fun k => ∃ x, blk b V x = some k) w w'
theorem Rgo.same {w w' : World} {b : Nat} {V : RV} {R' : RB} (h : RM w' b R' V) (hb : But (fun k => k = b) w w') : Rgo w w' b V R' := ⟨⟨V, h, fun x k hk => .inl hk⟩, hb.mono fun k _ e => ⟨0, by rw [e]; rfl⟩⟩
theorem Rgo.refl {w : World} {b : Nat} {V : RV} {R : RB} (h : RM w b R V) : Rgo w w b V R := Rgo.same h (But.of_below (Below.refl _ _) _)
theorem Rgo.behind {w w1 w' : World} {b : Nat} {V : RV} {R' : RB} (h : Rgo w1 w' b V R') (hb : But (fun k => k = b) w w1) : Rgo w w' b V R' := by
  obtain ⟨⟨V', hm, hx⟩, ht⟩ := h
  refine ⟨⟨V', hm, fun x k hk => (hx x k hk).imp id fun q => Nat.le_trans hb.size q⟩, (hb.mono fun k _ e => ⟨0, by rw [e]; rfl⟩).trans ht⟩
theorem RM.cell {w : World} {b : Nat} {R : RB} {V : RV} (h : RM w b R V) (i : Nat) : w.cell? ⟨b, i, none⟩ = (R.cs V)[i]? := by simp [World.cell?, h.box]
theorem refused_rm {w : World} {b : Nat} {R : RB} {V : RV} (h : RM w b R V) (s : ByteArray) (hs : s.size ≤ maxLen) (there : Bool) :
    Calls Tryz.prog 95 #[.pointer (some ⟨b, 0, none⟩), .string s, .bool there] w fun e w' => e = .returned (.int .i64 (refN R.down R.dir s there)) ∧ w' = w :=
  refused_ref w b V.vD R.dir R.down there s ((h.cell 2).trans rfl) ((h.cell 16).trans rfl) h.dd.tr hs
def strN (k : Int) : Int := if k = 0 ∨ k = 2 then 0 else toldN k
def RB.remove (R : RB) (s : ByteArray) : RB × Int :=
  if refN R.down R.dir s true ≠ 0 then (R, refN R.down R.dir s true)
  else if strN R.flt.2.1 ≠ 0 then (R.beg 5, strN R.flt.2.1)
  else ((R.beg 5).chg ⟨⟨#[]⟩, -1, s⟩, 0)
theorem toldN_ne (k : Int) : toldN k ≠ 0 := by unfold toldN; split <;> (try split) <;> (try split) <;> decide
set_option maxRecDepth 100000 in
set_option maxHeartbeats 2000000 in
theorem remove_rm {w : World} {b : Nat} {R : RB} {V : RV} (h : RM w b R V) (ho : R.ok) (hc : R.c7 ≤ 1000000000) (hl : (R.dir.length : Int) ≤ 1000000000) (hpl : (R.pe.length : Int) ≤ 1000000000) (s : ByteArray) (hs : s.size ≤ maxLen) :
    Calls Tryz.prog 54 #[.pointer (some ⟨b, 0, none⟩), .string s] w fun e w' => e = .returned (.int .i64 (R.remove s).2) ∧ Rgo w w' b V (R.remove s).1 := by
  have hR := refused_rm h s hs true
  have hB := begins_rm h ho hc 5 (by omega)
  obtain ⟨X, hX⟩ : ∃ X, Hid (R.remove s = X) := ⟨_, rfl⟩
  rw [hX.out]
  by_cases h0 : refN R.down R.dir s true = 0
  · rw [h0] at hR
    obtain ⟨F, hF⟩ : ∃ F : Ft, Hid (R.flt = F) := ⟨R.flt, rfl⟩
    rw [hF.out] at hB
    obtain ⟨fa, fk, fp⟩ := F
    have hCh : Hid (∀ q, RM q b (R.beg 5) V → Calls Tryz.prog 99 #[.pointer (some ⟨b, 0, none⟩), .agg #[.string ⟨#[]⟩, .int .i64 (-1), .string s]] q fun e w' => e = .returned (.tuple #[]) ∧ Rgo q w' b V ((R.beg 5).chg ⟨⟨#[]⟩, -1, s⟩)) := fun q hq => by
      obtain ⟨_, e2, _, e4, _⟩ := beg_same R 5
      exact change_rm hq ⟨⟨#[]⟩, -1, s⟩ (by rw [e2]; exact hl) (by rw [e4]; exact hpl) (by show (-9223372036854775808 : Int) ≤ -1; decide) (by show (-1 : Int) ≤ 9223372036854775807; decide)
    have hTo := told_ref
    clear h ho hc
    unfold fv at hB
    dsimp only at hB
    by_cases hk : fk = 0 ∨ fk = 2
    · have e1 : Hid (X = ((R.beg 5).chg ⟨⟨#[]⟩, -1, s⟩, 0)) := by show _ = _; rw [← hX.out]; unfold RB.remove; rw [if_neg (by rw [h0]; simp), hF.out, if_neg (by unfold strN; rw [if_pos hk]; simp)]
      rcases hk with rfl | rfl
      · go_enter Tryz.func54, Tryz.ntmps54
        go_upto_region 5 with (first
          | (go_at_call 95; refine hR.mono ?_; rintro e w1 ⟨rfl, e1'⟩; subst w1)
          | (go_at_call 97; refine hB.mono ?_; rintro e w1 ⟨rfl, M1, b1⟩; replace M1 := hide M1; replace b1 := hide b1))
        have z1 := heap_alloc_new w1 (.cells #[.int .i64 fa, .int .i64 0, .int .i64 fp] 118)
        have BX := hide (box_below w1 (.cells #[.int .i64 fa, .int .i64 0, .int .i64 fp] 118))
        obtain ⟨Y, hY⟩ : ∃ Y, Hid (w1.alloc (.cells #[.int .i64 fa, .int .i64 0, .int .i64 fp] 118) = Y) := ⟨_, rfl⟩
        rw [hY.out] at z1 BX ⊢
        have y1 : Y.cell? ⟨w1.heap.size, 1, none⟩ = some (.int .i64 0) := by simp [World.cell?, z1]
        have MY := hide (M1.out.below BX.out)
        have bY : Hid (But (fun k => k = b) w Y) := b1.out.trans (But.of_below BX.out _)
        clear z1
        go_wp2_with (go_at_call 99; refine (hCh.out _ MY.out).mono ?_; rintro e w2 ⟨rfl, G2⟩; replace G2 := hide G2)
        go_ret
        rw [e1.out]
        exact ⟨rfl, G2.out.behind bY.out⟩
      · go_enter Tryz.func54, Tryz.ntmps54
        go_upto_region 5 with (first
          | (go_at_call 95; refine hR.mono ?_; rintro e w1 ⟨rfl, e1'⟩; subst w1)
          | (go_at_call 97; refine hB.mono ?_; rintro e w1 ⟨rfl, M1, b1⟩; replace M1 := hide M1; replace b1 := hide b1))
        have z1 := heap_alloc_new w1 (.cells #[.int .i64 fa, .int .i64 2, .int .i64 fp] 118)
        have BX := hide (box_below w1 (.cells #[.int .i64 fa, .int .i64 2, .int .i64 fp] 118))
        obtain ⟨Y, hY⟩ : ∃ Y, Hid (w1.alloc (.cells #[.int .i64 fa, .int .i64 2, .int .i64 fp] 118) = Y) := ⟨_, rfl⟩
        rw [hY.out] at z1 BX ⊢
        have y1 : Y.cell? ⟨w1.heap.size, 1, none⟩ = some (.int .i64 2) := by simp [World.cell?, z1]
        have MY := hide (M1.out.below BX.out)
        have bY : Hid (But (fun k => k = b) w Y) := b1.out.trans (But.of_below BX.out _)
        clear z1
        go_wp2_with (go_at_call 99; refine (hCh.out _ MY.out).mono ?_; rintro e w2 ⟨rfl, G2⟩; replace G2 := hide G2)
        go_ret
        rw [e1.out]
        exact ⟨rfl, G2.out.behind bY.out⟩
    · have hk0 : ¬ fk = 0 := fun c => hk (.inl c)
      have hk2 : ¬ fk = 2 := fun c => hk (.inr c)
      have e1 : Hid (X = (R.beg 5, toldN fk)) := by
        show _ = _
        have hst : strN fk = toldN fk := by unfold strN; rw [if_neg hk]
        rw [← hX.out]; unfold RB.remove; rw [if_neg (by rw [h0]; simp), hF.out, if_pos (by show strN fk ≠ 0; rw [hst]; exact toldN_ne fk)]
        show (R.beg 5, strN fk) = _
        rw [hst]
      have hTo2 : Hid (∀ q, Calls Tryz.prog 98 #[.int .i64 fk] q fun e w' => e = .returned (.int .i64 (toldN fk)) ∧ w' = q) := fun q => told_ref q fk
      obtain ⟨tn, htn⟩ : ∃ tn, Hid (toldN fk = tn) := ⟨_, rfl⟩
      rw [htn.out] at hTo2
      have q0 : (fk != 0) = true := by simpa using hk0
      have q2 : (fk != 2) = true := by simpa using hk2
      clear hTo hk
      · go_enter Tryz.func54, Tryz.ntmps54
        go_upto_region 5 with (first
          | (go_at_call 95; refine hR.mono ?_; rintro e w1 ⟨rfl, e1'⟩; subst w1)
          | (go_at_call 97; refine hB.mono ?_; rintro e w1 ⟨rfl, M1, b1⟩; replace M1 := hide M1; replace b1 := hide b1))
        have z1 := heap_alloc_new w1 (.cells #[.int .i64 fa, .int .i64 fk, .int .i64 fp] 118)
        have BX := hide (box_below w1 (.cells #[.int .i64 fa, .int .i64 fk, .int .i64 fp] 118))
        obtain ⟨Y, hY⟩ : ∃ Y, Hid (w1.alloc (.cells #[.int .i64 fa, .int .i64 fk, .int .i64 fp] 118) = Y) := ⟨_, rfl⟩
        rw [hY.out] at z1 BX ⊢
        have y1 : Y.cell? ⟨w1.heap.size, 1, none⟩ = some (.int .i64 fk) := by simp [World.cell?, z1]
        have MY := hide (M1.out.below BX.out)
        have bY : Hid (But (fun k => k = b) w Y) := b1.out.trans (But.of_below BX.out _)
        clear z1
        go_wp2_with (go_at_call 98; refine (hTo2.out _).mono ?_; rintro e w2 ⟨rfl, e2⟩; subst w2)
        go_ret
        rw [e1.out]
        exact ⟨by rw [← htn.out]; rfl, Rgo.same MY.out bY.out⟩
  · have e1 : Hid (X = (R, refN R.down R.dir s true)) := by show _ = _; rw [← hX.out]; unfold RB.remove; rw [if_pos h0]
    have M0 := hide (Rgo.refl h)
    clear h ho hc hB
    generalize refN R.down R.dir s true = rn at *
    go_enter Tryz.func54, Tryz.ntmps54
    go_wp2_with (go_at_call 95; refine hR.mono ?_; rintro e w1 ⟨rfl, e1'⟩; subst w1)
    go_ret
    rw [e1.out]
    exact ⟨rfl, M0.out⟩
end Go.Proofs.YtjehpijjneghpaaGreat.Re
