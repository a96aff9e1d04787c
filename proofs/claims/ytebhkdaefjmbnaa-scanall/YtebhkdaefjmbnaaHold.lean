/-
  Lists of bytes kept one beside the other: that each lies in a block of its own, and what a store into one of them leaves. No function is named here.
-/
import Derived.Test.YtebhkdaefjmbnaaKeepB
import Derived.Deep.MidRow
namespace Go.Proofs.Ytebhkdaefjmbnaa
open Go.RowKit

/-- Block b has n cells that may be written. -/
def Wr (w : World) (b n : Nat) : Prop := ∀ j, j < n → (w.cell? ⟨b, j, none⟩).isSome = true ∧ w.frozen? ⟨b, j, none⟩ = false

def updN (n : Nat → Nat) (i m : Nat) : Nat → Nat := fun j => if j = i then m else n j
theorem updN_same (n : Nat → Nat) (i m : Nat) : updN n i m i = m := by simp [updN]
theorem updN_other (n : Nat → Nat) {i j : Nat} (m : Nat) (h : j ≠ i) : updN n i m j = n j := by simp [updN, h]
theorem updN_updN (n : Nat → Nat) (i m m' : Nat) : updN (updN n i m) i m' = updN n i m' := by
  funext j; unfold updN; split <;> simp_all
theorem updN_self (n : Nat → Nat) (i : Nat) : updN n i (n i) = n := by
  funext j; unfold updN; split
  · subst_vars; rfl
  · rfl

/-- Lists in order: block kb holds their slice; block lb their values; list j lies in block g j, n j long, with room for c j. -/
structure LS (w : World) (kb lb N lcap : Nat) (g c n : Nat → Nat) : Prop where
  top : w.cell? ⟨kb, 0, none⟩ = some (.slice (some ⟨lb, 0, none⟩) N lcap)
  row : ∀ j, j < N → w.cell? ⟨lb, j, none⟩ = some (.slice (some ⟨g j, 0, none⟩) (n j) (c j)) ∧ w.frozen? ⟨lb, j, none⟩ = false
  each : ∀ j, j < N → Wr w (g j) (c j) ∧ n j ≤ c j ∧ g j < w.heap.size
/-- They lie apart from each other. -/
structure DJ (kb lb N base : Nat) (g : Nat → Nat) : Prop where
  lk : lb ≠ kb
  gk : ∀ j, j < N → g j ≠ kb ∧ g j ≠ lb
  gg : ∀ i j, i < N → j < N → i ≠ j → g i ≠ g j
  lbase : base ≤ lb
  gbase : ∀ j, j < N → base ≤ g j

theorem isSome_setCell (w : World) (a x : Addr) (v : Value) (h : (w.cell? x).isSome = true) : ((w.setCell a v).cell? x).isSome = true := by
  obtain ⟨u, hu⟩ := Option.isSome_iff_exists.1 h
  by_cases e : a = x
  · subst e; rw [World.cell?_setCell_same _ _ _ hu]; rfl
  · rw [World.cell?_setCell_other _ _ _ _ e, hu]; rfl
theorem Wr.setCell {w : World} {b n : Nat} (h : Wr w b n) (a : Addr) (v : Value) : Wr (w.setCell a v) b n := fun j hj => ⟨isSome_setCell w a _ v (h j hj).1, by simpa using (h j hj).2⟩
theorem blk_ne {a b i j : Nat} (h : a ≠ b) : (⟨a, i, none⟩ : Addr) ≠ ⟨b, j, none⟩ := fun e => h (congrArg Addr.block e)

theorem LS.drew {w : World} {kb lb N lcap : Nat} {g c n : Nat → Nat} (h : LS w kb lb N lcap g c n) : LS w.drew kb lb N lcap g c n := ⟨h.top, h.row, h.each⟩
theorem LS.drewN {w : World} {kb lb N lcap : Nat} {g c n : Nat → Nat} (h : LS w kb lb N lcap g c n) (k : Nat) : LS (w.drewN k) kb lb N lcap g c n := ⟨h.top, h.row, h.each⟩
theorem LS.below {w w' : World} {kb lb N lcap : Nat} {g c n : Nat → Nat} (h : LS w kb lb N lcap g c n) (hb : Below w.heap.size w w') : LS w' kb lb N lcap g c n := by
  have hk := lt_of_cell h.top
  refine ⟨(hb.cell (p := ⟨kb, 0, none⟩) hk).trans h.top, fun j hj => ?_, fun j hj => ?_⟩
  · have hl := lt_of_cell (h.row j hj).1
    exact ⟨(hb.cell (p := ⟨lb, j, none⟩) hl).trans (h.row j hj).1, (hb.frozen (p := ⟨lb, j, none⟩) hl).trans (h.row j hj).2⟩
  · obtain ⟨e1, e2, e3⟩ := h.each j hj
    refine ⟨fun q hq => ?_, e2, Nat.lt_of_lt_of_le e3 hb.size⟩
    rw [hb.cell (p := ⟨g j, q, none⟩) e3, hb.frozen (p := ⟨g j, q, none⟩) e3]
    exact e1 q hq
/-- A cell of list i is written. -/
theorem LS.mark {w : World} {kb lb N lcap base : Nat} {g c n : Nat → Nat} (h : LS w kb lb N lcap g c n) (d : DJ kb lb N base g) {i : Nat} (hi : i < N) (k : Nat) (v : Value) : LS (w.setCell ⟨g i, k, none⟩ v) kb lb N lcap g c n := by
  refine ⟨?_, fun j hj => ?_, fun j hj => ?_⟩
  · rw [World.cell?_setCell_other _ _ _ _ (blk_ne (d.gk i hi).1)]; exact h.top
  · exact ⟨by rw [World.cell?_setCell_other _ _ _ _ (blk_ne (d.gk i hi).2)]; exact (h.row j hj).1, by simpa using (h.row j hj).2⟩
  · obtain ⟨e1, e2, e3⟩ := h.each j hj
    exact ⟨e1.setCell _ _, e2, by simpa using e3⟩
/-- List i's value is written over by a longer one. -/
theorem LS.len {w : World} {kb lb N lcap base : Nat} {g c n : Nat → Nat} (h : LS w kb lb N lcap g c n) (d : DJ kb lb N base g) {i : Nat} (hi : i < N) (m : Nat) (hm : m ≤ c i) :
    LS (w.setCell ⟨lb, i, none⟩ (.slice (some ⟨g i, 0, none⟩) m (c i))) kb lb N lcap g c (updN n i m) := by
  refine ⟨?_, fun j hj => ⟨?_, by simpa using (h.row j hj).2⟩, fun j hj => ?_⟩
  · rw [World.cell?_setCell_other _ _ _ _ (blk_ne d.lk)]; exact h.top
  · by_cases e : j = i
    · subst e
      rw [World.cell?_setCell_same _ _ _ (h.row j hj).1, updN_same]
    · rw [World.cell?_setCell_other _ _ _ _ (fun x => e (by have := congrArg Addr.off x; simpa using this.symm)), updN_other _ _ e]
      exact (h.row j hj).1
  · obtain ⟨e1, e2, e3⟩ := h.each j hj
    refine ⟨e1.setCell _ _, ?_, by simpa using e3⟩
    by_cases e : j = i
    · subst e; rw [updN_same]; exact hm
    · rw [updN_other _ _ e]; exact e2
/-- The length of the list whose value lies in cell j of block lb. -/
def lenAt (w : World) (lb j : Nat) : Nat := match w.cell? ⟨lb, j, none⟩ with | some (.slice _ n _) => n | _ => 0
theorem LS.lenAt {w : World} {kb lb N lcap : Nat} {g c n : Nat → Nat} (h : LS w kb lb N lcap g c n) {j : Nat} (hj : j < N) : lenAt w lb j = n j := by
  unfold Go.Proofs.Ytebhkdaefjmbnaa.lenAt; rw [(h.row j hj).1]
/-- List j holds the mark m, the first k cells. -/
def Mk (w : World) (b k : Nat) (m : Int) : Prop := ∀ q, q < k → w.cell? ⟨b, q, none⟩ = some (.int .u8 m)
theorem Mk.other {w : World} {b k g i : Nat} {m : Int} (h : Mk w b k m) (hne : g ≠ b) (v : Value) : Mk (w.setCell ⟨g, i, none⟩ v) b k m := fun q hq => by
  rw [World.cell?_setCell_other _ _ _ _ (blk_ne hne)]; exact h q hq
theorem Mk.below {w w' : World} {b k : Nat} {m : Int} (h : Mk w b k m) (hb : Below w.heap.size w w') : Mk w' b k m := fun q hq => by
  rw [hb.cell (p := ⟨b, q, none⟩) (lt_of_cell (h q hq))]; exact h q hq
theorem Mk.more {w : World} {b k : Nat} {m : Int} (h : Mk w b k m) (hs : (w.cell? ⟨b, k, none⟩).isSome = true) : Mk (w.setCell ⟨b, k, none⟩ (.int .u8 m)) b (k + 1) m := fun q hq => by
  obtain ⟨u, hu⟩ := Option.isSome_iff_exists.1 hs
  by_cases e : q = k
  · subst e; exact World.cell?_setCell_same _ _ _ hu
  · rw [World.cell?_setCell_other _ _ _ _ (fun x => e (by have := congrArg Addr.off x; simpa using this.symm))]
    exact h q (by omega)
theorem setCells_one (w : World) (b o : Nat) (v : Value) : w.setCells b o [v] = w.setCell ⟨b, o, none⟩ v := by
  rw [World.setCells.eq_def]; simp only; rw [World.setCells.eq_def]
theorem LS.push {w : World} {kb lb N lcap base : Nat} {g c n : Nat → Nat} (h : LS w kb lb N lcap g c n) (d : DJ kb lb N base g) {i : Nat} (hi : i < N) (o : Nat) (v : Value) : LS (w.setCells (g i) o [v]) kb lb N lcap g c n := by
  rw [setCells_one]; exact h.mark d hi o v
theorem Mk.push {w : World} {b k g o : Nat} {m : Int} (h : Mk w b k m) (hne : g ≠ b) (v : Value) : Mk (w.setCells g o [v]) b k m := by
  rw [setCells_one]; exact h.other hne v
theorem below_push {base b o : Nat} {a w : World} (h : Below base a w) (hb : base ≤ b) (v : Value) : Below base a (w.setCells b o [v]) := by
  rw [setCells_one]; exact h.setCell hb v
/-- Nothing below base has turned, and no record of deferred calls. -/
structure BD (base : Nat) (w w' : World) : Prop where
  b : Below base w w'
  d : ∀ (k : Nat) (o : Option (List Deferred)), w.heap[k]? = some (Obj.deferred o) → w'.heap[k]? = some (Obj.deferred o)
theorem BD.refl (base : Nat) (w : World) : BD base w w := ⟨Below.refl _ _, fun _ _ h => h⟩
theorem BD.drew {base : Nat} {w w' : World} (h : BD base w w') : BD base w w'.drew := ⟨h.b.drew, h.d⟩
theorem BD.drewN {base : Nat} {w w' : World} (h : BD base w w') (k : Nat) : BD base w (w'.drewN k) := ⟨below_drewN h.b k, h.d⟩
theorem BD.alloc {base : Nat} {w w' : World} (h : BD base w w') (hb : base ≤ w'.heap.size) (o : Obj) : BD base w (w'.alloc o) :=
  ⟨h.b.alloc hb o, fun k x hk => by
    have h1 := h.d k x hk
    have h2 : k < w'.heap.size := by
      by_cases e : k < w'.heap.size
      · exact e
      · rw [Array.getElem?_eq_none (by omega)] at h1; cases h1
    rw [Below.heap_alloc _ _ _ h2]; exact h1⟩
theorem BD.setCell {base : Nat} {w w' : World} (h : BD base w w') {p : Addr} (hb : base ≤ p.block) (v : Value) : BD base w (w'.setCell p v) :=
  ⟨h.b.setCell hb v, fun k x hk => by
    have h1 := h.d k x hk
    unfold World.setCell
    simp only [Array.getElem?_modify, h1]
    split <;> rfl⟩
theorem BD.push {base b o : Nat} {a w : World} (h : BD base a w) (hb : base ≤ b) (v : Value) : BD base a (w.setCells b o [v]) := by
  rw [setCells_one]; exact h.setCell hb v
/-- What holds of lists that lie apart, the first i of them marked. -/
def St (w wr : World) (kb lb N lcap base : Nat) (g c n : Nat → Nat) (i sc : Nat) (n0 : Nat → Nat) : Prop :=
  LS wr kb lb N lcap g c n ∧ (∀ j, j < i → Mk wr (g j) (n0 j) ((j / sc % 250 : Nat) : Int)) ∧ BD base w wr
theorem St.drew {w wr : World} {kb lb N lcap base i sc : Nat} {g c n n0 : Nat → Nat} (h : St w wr kb lb N lcap base g c n i sc n0) : St w wr.drew kb lb N lcap base g c n i sc n0 := ⟨h.1.drew, h.2.1, h.2.2.drew⟩
theorem St.drewN {w wr : World} {kb lb N lcap base i sc : Nat} {g c n n0 : Nat → Nat} (h : St w wr kb lb N lcap base g c n i sc n0) (k : Nat) : St w (wr.drewN k) kb lb N lcap base g c n i sc n0 := ⟨h.1.drewN k, h.2.1, h.2.2.drewN k⟩
theorem St.alloc {w wr : World} {kb lb N lcap base i sc : Nat} {g c n n0 : Nat → Nat} (h : St w wr kb lb N lcap base g c n i sc n0) (hb : base ≤ wr.heap.size) (o : Obj) : St w (wr.alloc o) kb lb N lcap base g c n i sc n0 :=
  ⟨h.1.below (box_below wr o), fun j hj => (h.2.1 j hj).below (box_below wr o), h.2.2.alloc hb o⟩
theorem St.push {w wr : World} {kb lb N lcap base i sc : Nat} {g c n n0 : Nat → Nat} (h : St w wr kb lb N lcap base g c n i sc n0) (d : DJ kb lb N base g) (hi : i < N) (o : Nat) (v : Value) : St w (wr.setCells (g i) o [v]) kb lb N lcap base g c n i sc n0 :=
  ⟨h.1.push d hi o v, fun j hj => (h.2.1 j hj).push (d.gg i j hi (by omega) (by omega)) v, h.2.2.push (d.gbase i hi) v⟩
theorem St.mark {w wr : World} {kb lb N lcap base i sc : Nat} {g c n n0 : Nat → Nat} (h : St w wr kb lb N lcap base g c n i sc n0) (d : DJ kb lb N base g) (hi : i < N) (o : Nat) (v : Value) : St w (wr.setCell ⟨g i, o, none⟩ v) kb lb N lcap base g c n i sc n0 :=
  ⟨h.1.mark d hi o v, fun j hj => (h.2.1 j hj).other (d.gg i j hi (by omega) (by omega)) v, h.2.2.setCell (d.gbase i hi) v⟩
theorem St.len {w wr : World} {kb lb N lcap base i sc : Nat} {g c n n0 : Nat → Nat} (h : St w wr kb lb N lcap base g c n i sc n0) (d : DJ kb lb N base g) (hi : i < N) (m : Nat) (hm : m ≤ c i) :
    St w (wr.setCell ⟨lb, i, none⟩ (.slice (some ⟨g i, 0, none⟩) m (c i))) kb lb N lcap base g c (updN n i m) i sc n0 :=
  ⟨h.1.len d hi m hm, fun j hj => (h.2.1 j hj).other (fun e => (d.gk j (by omega)).2 e.symm) _, h.2.2.setCell d.lbase _⟩
theorem St.size {w wr : World} {kb lb N lcap base i sc : Nat} {g c n n0 : Nat → Nat} (h : St w wr kb lb N lcap base g c n i sc n0) (d : DJ kb lb N base g) (hi : i < N) : base ≤ wr.heap.size :=
  Nat.le_trans (d.gbase i hi) (Nat.le_of_lt (h.1.each i hi).2.2)
#print axioms LS.len
end Go.Proofs.Ytebhkdaefjmbnaa
