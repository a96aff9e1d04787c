/-
  Package crash: count, Ways.
-/
import Derived.Test.YtjehpijjneghpaaGreatM19
import Derived.Test.YtjehpijjneghpaaGreatM29
import Derived.Test.YtjehpijjneghpaaGreatM11
namespace Go.Proofs.YtjehpijjneghpaaGreat.Dk
open Go.RowKit Go.Maps Go.Sort Go.Shelf Go.Proofs.YtjehpijjneghpaaGreat.Nm
set_option linter.unusedVariables false
def nvals (l : List Nat) : List Value := l.map fun (n : Nat) => Value.int .i64 (n : Int)
def Ns (B : Nat) (w : World) (v : Value) (l : List Nat) : Prop := w.ownsRow B 2 1 v l.length (nvals l)
theorem Ns.nil (B : Nat) (w : World) : Ns B w (.slice none 0 0) [] := World.ownsRow_nil _ _ _ _
theorem Ns.at {B : Nat} {w : World} {v : Value} {l : List Nat} (h : Ns B w v l) {i n : Nat} (hi : l[i]? = some n) : ∃ g cap, v = .slice (some ⟨g, 0, none⟩) l.length cap ∧ w.cell? ⟨g, i, none⟩ = some (.int .i64 (n : Int)) := by
  have h0 := h
  have hl := List.getElem?_eq_some_iff.1 hi
  rcases h.2 with ⟨_, e⟩ | ⟨g, cap, cur, rfl, _, hh, a, b, _⟩
  · have := hl.1; omega
  · refine ⟨g, cap, rfl, ?_⟩
    have := World.ownsRow.cells h0 (g := g) rfl i (.int .i64 (n : Int)) (by unfold nvals; rw [List.getElem?_map, hi]; rfl)
    rw [addr_add] at this
    simpa using this
theorem Ns.below {B : Nat} {w w' : World} {v : Value} {l : List Nat} (h : Ns B w v l) (hb : Below w.heap.size w w') : Ns B w' v l := owns_belowN h hb
theorem two_store {q : World} {g : Nat} {a b : Value} {T : TypeId} (x y : Value) (hz : q.heap[g]? = some (.cells #[a, b] T)) :
    q.cell? ⟨g, 0, none⟩ = some a ∧ q.frozen? ⟨g, 0, none⟩ = false ∧ (q.setCell ⟨g, 0, none⟩ x).cell? ⟨g, 1, none⟩ = some b ∧ (q.setCell ⟨g, 0, none⟩ x).frozen? ⟨g, 1, none⟩ = false ∧
    ((q.setCell ⟨g, 0, none⟩ x).setCell ⟨g, 1, none⟩ y).heap[g]? = some (.cells #[x, y] T) ∧ But (fun k => k = g) q ((q.setCell ⟨g, 0, none⟩ x).setCell ⟨g, 1, none⟩ y) ∧ (q.setCell ⟨g, 0, none⟩ x).cell? ⟨g, 0, none⟩ = some x ∧ ((q.setCell ⟨g, 0, none⟩ x).setCell ⟨g, 1, none⟩ y).cell? ⟨g, 1, none⟩ = some y := by
  have h1 := heap_setCell_same q g 0 _ _ x hz
  have h2 := heap_setCell_same (q.setCell ⟨g, 0, none⟩ x) g 1 _ _ y h1
  have g3 := But.of_grownBy (X := fun k => k = g) (grown_setCell q g 0 x) fun k e => by cases e; rfl
  have g4 := But.of_grownBy (X := fun k => k = g) (grown_setCell (q.setCell ⟨g, 0, none⟩ x) g 1 y) fun k e => by cases e; rfl
  refine ⟨by simp [World.cell?, hz], by simp [World.frozen?, hz], by simp [World.cell?, h1], by simp [World.frozen?, h1], ?_, g3.trans g4, by simp [World.cell?, h1], by simp [World.cell?, h2]⟩
  rw [h2]
  rfl
theorem but_new {w q q' : World} {g : Nat} (hb : Below w.heap.size w q) (h : But (fun k => k = g) q q') (hg : w.heap.size ≤ g) : Below w.heap.size w q' :=
  ⟨h.os.trans hb.os, h.tape.trans hb.tape, h.output.trans hb.output, Nat.le_trans hb.size h.size, fun k hk => (h.block k (Nat.lt_of_lt_of_le hk hb.size) (by omega)).trans (hb.block k hk)⟩
end Go.Proofs.YtjehpijjneghpaaGreat.Dk
namespace Go.Proofs.YtjehpijjneghpaaGreat.Re
open Go.RowKit Go.Maps Go.Sort Go.Shelf Go.Proofs.YtjehpijjneghpaaGreat.Nm Go.Proofs.YtjehpijjneghpaaGreat.Dk
set_option linter.unusedVariables false
def crD (f : FD) (k : Kep) : FD := (crF (flD f) k.1 k.2, crF (flD f) k.1 k.2, 0)
def crR (L : Dr) (ks : List Kep) : Nat → RB → RB
  | 0, R => R
  | k + 1, R => (crR L ks k R).one ((L[k]?.map (·.2)).getD 0) (crD ((crR L ks k R).fOf ((L[k]?.map (·.2)).getD 0)) (ks.getD k (0, [])))
def RB.reset (R : RB) (L : Dr) : RB := { R with dir := L, old := L, pe := [], fs := [], down := false }
def RB.crash (R : RB) (d : Int) (ks : List Kep) : RB := (crR (R.front d) ks (R.front d).length R).reset (R.front d)
theorem crR_len (L : Dr) (ks : List Kep) (R : RB) : ∀ k, (crR L ks k R).F.length = R.F.length
  | 0 => rfl
  | k + 1 => by
    show ((crR L ks k R).F.set _ _).length = _
    rw [List.length_set]
    exact crR_len L ks R k
theorem crR_la (L : Dr) (ks : List Kep) {R : RB} (h : ∀ f ∈ R.F, f.2.1.length ≤ f.1.length ∧ (f.1.length : Int) ≤ 100000000) : ∀ k, ∀ f ∈ (crR L ks k R).F, f.2.1.length ≤ f.1.length ∧ (f.1.length : Int) ≤ 100000000
  | 0 => h
  | k + 1 => fun f hf => by
    have ih := crR_la L ks h k
    rcases List.mem_or_eq_of_mem_set hf with q | q
    · exact ih f q
    · subst q
      refine ⟨Nat.le_refl _, ?_⟩
      show ((crF _ _ _).length : Int) ≤ _
      unfold RB.fOf
      cases hx : (crR L ks k R).F[(L[k]?.map (·.2)).getD 0]? with
      | none => simp [flD, crF, svd, jnk]
      | some g =>
        have hg := ih g (List.mem_of_getElem? hx)
        have := crF_len (flD g) (ks.getD k (0, [])).1 (ks.getD k (0, [])).2 hg.1
        have h2 : (flD g).by_.length = g.1.length := rfl
        simp only [Option.getD_some]
        omega
def RV.reset (V : RV) (vd vo : Value) : RV := { V with vD := vd, vO := vo, vP := .slice none 0 0, vA := .slice none 0 0 }
theorem reset_cs (R : RB) (V : RV) (L : Dr) (vd vo : Value) : (((((R.cs V).setIfInBounds 2 vd).setIfInBounds 3 vo).setIfInBounds 4 (.slice none 0 0)).setIfInBounds 5 (.slice none 0 0)).setIfInBounds 16 (.bool false) = (R.reset L).cs (V.reset vd vo) := by simp [RB.cs, RB.reset, RV.reset]
theorem blk_reset (b : Nat) (V : RV) (vd vo : Value) (x : Nat) (h2 : x ≠ 2) (h3 : x ≠ 3) (h4 : x ≠ 4) (h5 : x ≠ 5) : blk b (V.reset vd vo) x = blk b V x := by
  match x with
  | 0 => rfl
  | 1 => rfl
  | 2 => exact absurd rfl h2
  | 3 => exact absurd rfl h3
  | 4 => exact absurd rfl h4
  | 5 => exact absurd rfl h5
  | n + 6 => rfl
theorem RM.reset {wr w' : World} {b : Nat} {R : RB} {V : RV} {vd vo : Value} {L : Dr} (h : RM wr b R V) (hd : En 0 w' vd L) (hdn : ∀ k, vd.ownBlock = some k → (∀ x, blk b V x ≠ some k) ∧ k < wr.heap.size) (ho : En wr.heap.size w' vo L) (hb : But (fun k => k = b) wr w')
    (hbox : w'.heap[b]? = some (.cells ((((((R.cs V).setIfInBounds 2 vd).setIfInBounds 3 vo).setIfInBounds 4 (.slice none 0 0)).setIfInBounds 5 (.slice none 0 0)).setIfInBounds 16 (.bool false)) TRD (0, 0))) : RM w' b (R.reset L) (V.reset vd vo) := by
  have nx : ∀ x, x ≠ 0 → ∀ k, blk b V x = some k → ¬ k = b := fun x hx k hk c => h.ds 0 x (Ne.symm hx) b rfl (by rw [hk, c])
  have hsz := hb.size
  have no4 : ∀ k, blk b (V.reset vd vo) 4 ≠ some k := fun k c => by simp [blk, RV.reset, Value.ownBlock] at c
  have no5 : ∀ k, blk b (V.reset vd vo) 5 ≠ some k := fun k c => by simp [blk, RV.reset, Value.ownBlock] at c
  have key : ∀ x y, x ≠ y → (x = 2 ∨ x = 3) → ∀ k, blk b (V.reset vd vo) x = some k → blk b (V.reset vd vo) y ≠ some k := fun x y hxy hx k h1 h2 => by
    by_cases y4 : y = 4
    · subst y4; exact no4 k h2
    · by_cases y5 : y = 5
      · subst y5; exact no5 k h2
      · rcases hx with rfl | rfl
        · by_cases y3 : y = 3
          · subst y3
            have q1 := (ho.lt k h2).1
            have q2 := (hdn k h1).2
            omega
          · rw [blk_reset b V vd vo y (Ne.symm hxy) y3 y4 y5] at h2
            exact (hdn k h1).1 y h2
        · by_cases y2 : y = 2
          · subst y2
            have q1 := (ho.lt k h1).1
            have q2 := (hdn k h2).2
            omega
          · rw [blk_reset b V vd vo y y2 (Ne.symm hxy) y4 y5] at h2
            have q1 := (ho.lt k h1).1
            have q2 := h.lt y k h2
            omega
  refine ⟨by rw [← reset_cs]; exact hbox, hd, owns_lower2 ho (Nat.zero_le _), World.ownsRow_nil _ _ _ _, World.ownsRow_nil _ _ _ _, ownsRow_but h.ff hb (nx 1 (by omega)), h.ln, fun i hi => ?_, ?_, ?_⟩
  · have hi' : i < R.F.length := hi
    have hl' : i < V.T.length := by rw [h.ln]; exact hi'
    obtain ⟨a, q⟩ := h.nn i hi'
    exact ⟨Oc.but a hb (fun k hk => nx (2 * i + 6) (by omega) k (by rw [blk_N b V hl']; exact hk)), Oc.but q hb (fun k hk => nx (2 * i + 7) (by omega) k (by rw [blk_L b V hl']; exact hk))⟩
  · intro x y hxy k h1 h2
    by_cases x2 : x = 2 ∨ x = 3
    · exact key x y hxy x2 k h1 h2
    · by_cases y2 : y = 2 ∨ y = 3
      · exact key y x (Ne.symm hxy) y2 k h2 h1
      · by_cases x4 : x = 4
        · subst x4; exact no4 k h1
        · by_cases x5 : x = 5
          · subst x5; exact no5 k h1
          · by_cases y4 : y = 4
            · subst y4; exact no4 k h2
            · by_cases y5 : y = 5
              · subst y5; exact no5 k h2
              · rw [blk_reset b V vd vo x (fun e => x2 (.inl e)) (fun e => x2 (.inr e)) x4 x5] at h1
                rw [blk_reset b V vd vo y (fun e => y2 (.inl e)) (fun e => y2 (.inr e)) y4 y5] at h2
                exact h.ds x y hxy k h1 h2
  · intro x k hk
    by_cases x2 : x = 2
    · subst x2; have := (hdn k hk).2; omega
    · by_cases x3 : x = 3
      · subst x3; exact (ho.lt k hk).2
      · by_cases x4 : x = 4
        · subst x4; exact absurd hk (no4 k)
        · by_cases x5 : x = 5
          · subst x5; exact absurd hk (no5 k)
          · rw [blk_reset b V vd vo x x2 x3 x4 x5] at hk
            have := h.lt x k hk
            omega
end Go.Proofs.YtjehpijjneghpaaGreat.Re
