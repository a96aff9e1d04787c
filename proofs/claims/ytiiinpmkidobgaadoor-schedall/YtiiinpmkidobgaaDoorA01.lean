/-
  Plain facts for the walks over package wire: lists of bytes, where a slice's bytes lie in memory. No program is named here.
-/
import Derived.WalkKit
import Derived.WalkSpells
import Derived.WalkLawsBesides
import Derived.Deep.QuietTactic
import Derived.BigQuiet
import Derived.Laws.AppendOwnNone
import Derived.Test.YtiiinpmkidobgaaDoorProg
import Derived.Lib.SlBytesConst
import Derived.Test.YtiiinpmkidobgaaDoorRows
import Derived.ProofKit
import Derived.OpenShut
import Derived.SizedLaws
import Derived.Deep.Slices
import Derived.RangeFuncNested
import Derived.RangeFuncLeaves
import Derived.Below
import Derived.Deep.RegionHeld
import Derived.ArgAppend
import Derived.BigRegion
import Derived.Deep.RegionHeld3
import Derived.Deep.Cut
import Derived.Deep.DeepAppendWide
import Derived.Maps.AppendAt
import Derived.OwnWalk
import Derived.Lib.AppendZeros
namespace Go.Proofs.YtiiinpmkidobgaaDoor
open Go.RowKit
/-- Bytes l lie from address ao on (nothing is said of ao where l is empty). -/
def Rd (w : World) (ao : Option Addr) (l : List UInt8) : Prop :=
  ∀ i (h : i < l.length), ∃ b off, ao = some ⟨b, off, none⟩ ∧ w.cell? ⟨b, off + i, none⟩ = some (.int .u8 (l[i].toNat : Int))
theorem Rd.at {w : World} {ao : Option Addr} {l : List UInt8} (h : Rd w ao l) (hl : 0 < l.length) :
    ∃ b off, ao = some ⟨b, off, none⟩ ∧ ∀ i (h : i < l.length), w.cell? ⟨b, off + i, none⟩ = some (.int .u8 (l[i].toNat : Int)) := by
  obtain ⟨b, off, e, _⟩ := h 0 hl
  refine ⟨b, off, e, fun i hi => ?_⟩
  obtain ⟨b', off', e', hc⟩ := h i hi
  rw [e] at e'
  simp only [Option.some.injEq, Addr.mk.injEq] at e'
  obtain ⟨rfl, rfl, _⟩ := e'
  exact hc
/-- The world has only drawn. -/
def Qt (w w' : World) : Prop := ∃ k, w' = w.drewN k
theorem Qt.refl (w : World) : Qt w w := ⟨0, rfl⟩
theorem Qt.drewN {w u : World} (h : Qt w u) (n : Nat) : Qt w (u.drewN n) := by
  obtain ⟨k, rfl⟩ := h; exact ⟨k + n, by simp⟩
theorem Qt.trans {w u v : World} (h : Qt w u) (g : Qt u v) : Qt w v := by
  obtain ⟨n, rfl⟩ := g; exact h.drewN n
theorem Qt.cell {w u : World} (h : Qt w u) (a : Addr) : u.cell? a = w.cell? a := by obtain ⟨k, rfl⟩ := h; rfl
theorem Qt.rd {w u : World} (h : Qt w u) {ao : Option Addr} {l : List UInt8} (g : Rd w ao l) : Rd u ao l := by
  intro i hi; obtain ⟨b, off, e, hc⟩ := g i hi; exact ⟨b, off, e, by rw [h.cell]; exact hc⟩
theorem Qt.below {w u : World} (h : Qt w u) (B : Nat) : Below B w u := by
  obtain ⟨k, rfl⟩ := h; exact below_drewN (Below.refl _ _) k
theorem Qt.size {w u : World} (h : Qt w u) : u.heap.size = w.heap.size := by obtain ⟨k, rfl⟩ := h; rfl
end Go.Proofs.YtiiinpmkidobgaaDoor

/-
  The forms of package wire as plain functions on lists of bytes: the varint's form, and what it is worth.
-/
namespace Go.Proofs.YtiiinpmkidobgaaDoor
def encF : Nat → Nat → List UInt8
  | 0, _ => []
  | f + 1, n => if n < 128 then [UInt8.ofNat n] else UInt8.ofNat (n % 128 + 128) :: encF f (n / 128)
/-- The varint of n (below 2^64). -/
def enc (n : Nat) : List UInt8 := encF 10 n
end Go.Proofs.YtiiinpmkidobgaaDoor

/-
  A slice of bytes as a list of bytes: Sl; what keeps it; append of such a slice onto one that the call made. No program is named here.
-/
namespace Go.Proofs.YtiiinpmkidobgaaDoor
open Go.RowKit
/-- The value v is a slice whose bytes are l. -/
def Sl (w : World) (v : Value) (l : List UInt8) : Prop :=
  ∃ ao cap, v = .slice ao l.length cap ∧ (ao = none → l = [] ∧ cap = 0) ∧ l.length ≤ cap ∧ cap ≤ maxLen ∧ Rd w ao l
theorem lt_of_cell {w : World} {a : Addr} {v : Value} (h : w.cell? a = some v) : a.block < w.heap.size := by
  unfold World.cell? at h
  by_cases hb : a.block < w.heap.size
  · exact hb
  · rw [Array.getElem?_eq_none (by omega)] at h; simp at h
theorem Below.rd {w w' : World} (h : Below w.heap.size w w') {ao : Option Addr} {l : List UInt8} (g : Rd w ao l) : Rd w' ao l := by
  intro i hi
  obtain ⟨b, off, e, hc⟩ := g i hi
  exact ⟨b, off, e, by rw [h.cell (p := ⟨b, off + i, none⟩) (lt_of_cell hc)]; exact hc⟩
theorem Below.sl {w w' : World} (h : Below w.heap.size w w') {v : Value} {l : List UInt8} (g : Sl w v l) : Sl w' v l := by
  obtain ⟨ao, cap, h1, h2, h3, h4, h5⟩ := g
  exact ⟨ao, cap, h1, h2, h3, h4, Below.rd h h5⟩
theorem Qt.sl {w w' : World} (h : Qt w w') {v : Value} {l : List UInt8} (g : Sl w v l) : Sl w' v l := Below.sl (h.below _) g
theorem Sl.nil (w : World) : Sl w (.slice none 0 0) [] := ⟨none, 0, rfl, fun _ => ⟨rfl, rfl⟩, Nat.le_refl _, Nat.zero_le _, fun i hi => by simp at hi⟩
end Go.Proofs.YtiiinpmkidobgaaDoor

/-
  Plain facts for the walks of a seat that has none of wire's: literals of bytes, what a call may have turned. No function is named here.
-/
namespace Go.Proofs.YtiiinpmkidobgaaDoor
open Go.RowKit
theorem addr_add (b off k : Nat) : (⟨b, off, none⟩ : Addr).add k = ⟨b, off + k, none⟩ := by
  unfold Addr.add; split <;> simp_all
theorem Qt.grown {w w' : World} (h : Qt w w') (row : Option Nat) : w.grownBy w' row := by
  obtain ⟨k, rfl⟩ := h; exact ⟨rfl, rfl, rfl, Nat.le_refl _, fun _ _ _ => rfl⟩
theorem grown_setCell (w : World) (rb o : Nat) (u : Value) : w.grownBy (w.setCell ⟨rb, o, none⟩ u) (some rb) :=
  ⟨rfl, rfl, rfl, by simp, fun k _ hk => heap_setCell_other w ⟨rb, o, none⟩ k u (fun e => hk (by simp [e]))⟩
theorem heap_lt {w : World} {k : Nat} {o : Obj} (h : w.heap[k]? = some o) : k < w.heap.size := by
  by_cases hb : k < w.heap.size
  · exact hb
  · rw [Array.getElem?_eq_none (by omega)] at h; simp at h
theorem box_below (w : World) (o : Obj) : Below w.heap.size w (w.alloc o) := (Below.refl _ _).alloc (Nat.le_refl _) _
end Go.Proofs.YtiiinpmkidobgaaDoor

/-
  An argument of type []byte, opened: the bytes that it holds, and that they lie within the reach.
-/
namespace Go.Proofs.YtiiinpmkidobgaaDoor
open Go.ChangeShapes Go.WideShapes Go.ChangeAt Go.RowKit
theorem i64_bounds {n : Int} (h : (Lit.int .i64 n).wf = true) : -9223372036854775808 ≤ n ∧ n ≤ 9223372036854775807 := by
  simpa [Lit.wf, IntKind.min, IntKind.max, IntKind.signed, IntKind.bits] using h
end Go.Proofs.YtiiinpmkidobgaaDoor

/-
  Slices of one-cell elements as lists of values; arguments of types []uint64, []int64, []int and [][]byte, opened.
-/
namespace Go.Proofs.YtiiinpmkidobgaaDoor
open Go.ChangeShapes Go.WideShapes Go.ChangeAt Go.RowKit Go.Deep
/-- Values vs lie from address ao on. -/
def At (w : World) (ao : Option Addr) (vs : List Value) : Prop :=
  ∀ i (h : i < vs.length), ∃ b off, ao = some ⟨b, off, none⟩ ∧ w.cell? ⟨b, off + i, none⟩ = some vs[i]
/-- The value v is a slice of the values vs. -/
def Row (w : World) (v : Value) (vs : List Value) : Prop :=
  ∃ ao cap, v = .slice ao vs.length cap ∧ (ao = none → vs = [] ∧ cap = 0) ∧ vs.length ≤ cap ∧ cap ≤ maxLen ∧ At w ao vs
theorem At.at {w : World} {ao : Option Addr} {vs : List Value} (h : At w ao vs) (hl : 0 < vs.length) :
    ∃ b off, ao = some ⟨b, off, none⟩ ∧ ∀ i (h : i < vs.length), w.cell? ⟨b, off + i, none⟩ = some vs[i] := by
  obtain ⟨b, off, e, _⟩ := h 0 hl
  refine ⟨b, off, e, fun i hi => ?_⟩
  obtain ⟨b', off', e', hc⟩ := h i hi
  rw [e] at e'
  simp only [Option.some.injEq, Addr.mk.injEq] at e'
  obtain ⟨rfl, rfl, _⟩ := e'
  exact hc
theorem Row.nil (w : World) : Row w (.slice none 0 0) [] := ⟨none, 0, rfl, fun _ => ⟨rfl, rfl⟩, Nat.le_refl _, Nat.zero_le _, fun i hi => by simp at hi⟩
theorem Below.row {w w' : World} (h : Below w.heap.size w w') {v : Value} {vs : List Value} (g : Row w v vs) : Row w' v vs := by
  obtain ⟨ao, cap, h1, h2, h3, h4, h5⟩ := g
  refine ⟨ao, cap, h1, h2, h3, h4, fun i hi => ?_⟩
  obtain ⟨b, off, e, hc⟩ := h5 i hi
  exact ⟨b, off, e, by rw [h.cell (p := ⟨b, off + i, none⟩) (lt_of_cell hc)]; exact hc⟩
/-- A slice of integers that was read. -/
theorem open_nums {H : Type} {enc : TypeId × Value → H} {w : World} {base : Nat} {spare : Nat → Bool} {held : Bool} {fuel t e : Nat} {k : IntKind} {v : Value} {x : DataW H × List MemPlace}
    (ht : Tryd.prog.underlying t = some (.slice e)) (he : Tryd.prog.underlying e = some (.int k)) (hc : Tryd.prog.cellsOf e = 1) (h : DataW.trod enc Tryd.prog w base spare held fuel t [v] = some x) :
    ∃ l : List Int, Row w v (l.map (Value.int k)) ∧ (∀ n ∈ l, (Lit.int k n).wf = true) ∧ ((x.1 = .nil ∧ l = []) ∨ ∃ elems sp, x.1 = .slice elems sp ∧ elems.length = l.length) := by
  rcases open_ints ht he hc h with ⟨hcs, hx⟩ | ⟨a, len, cap, zs, hcs, _, hl, hm, hz, hx, hcell, hwz⟩
  · simp at hcs
    subst hcs hx
    exact ⟨[], Row.nil _, fun n hn => by simp at hn, .inl ⟨rfl, rfl⟩⟩
  · simp at hcs
    subst hcs hx
    have hzl : len ≤ zs.length := by split at hz <;> omega
    have hlen : ((zs.take len).map (Value.int k)).length = len := by simp; omega
    refine ⟨zs.take len, ⟨some a, cap, by rw [hlen], fun e => by simp at e, by omega, hm, ?_⟩, fun n hn => hwz n (List.mem_of_mem_take hn), .inr ⟨_, _, rfl, by simp [lits]⟩⟩
    intro i hi
    rw [hlen] at hi
    obtain ⟨b, off, rfl, hc⟩ := ints_at hcell (by omega)
    refine ⟨b, off, rfl, ?_⟩
    have hi2 : i < zs.length := by omega
    rw [hc i hi2]
    simp [List.getD, hi2]
end Go.Proofs.YtiiinpmkidobgaaDoor

/-
  Iterators that keep state of their own in cells, and hand over what lies in memory: a contract by two sets of blocks, and the law for a range over one.
-/
namespace Go.Proofs.YtiiinpmkidobgaaDoor
open Go.RowKit
/-- W' is W but for the blocks of X. -/
structure But (X : Nat → Prop) (W W' : World) : Prop where
  os : W'.os = W.os
  tape : W'.tape = W.tape
  output : W'.output = W.output
  size : W.heap.size ≤ W'.heap.size
  block : ∀ k, k < W.heap.size → ¬ X k → W'.heap[k]? = W.heap[k]?
theorem But.refl (X : Nat → Prop) (W : World) : But X W W := ⟨rfl, rfl, rfl, Nat.le_refl _, fun _ _ _ => rfl⟩
theorem But.trans {X : Nat → Prop} {A B C : World} (h : But X A B) (k : But X B C) : But X A C :=
  ⟨k.os.trans h.os, k.tape.trans h.tape, k.output.trans h.output, Nat.le_trans h.size k.size, fun i hi hx => (k.block i (Nat.lt_of_lt_of_le hi h.size) hx).trans (h.block i hi hx)⟩
theorem But.mono {X Y : Nat → Prop} {A B : World} (h : But X A B) (hs : ∀ k, k < A.heap.size → X k → Y k) : But Y A B :=
  ⟨h.os, h.tape, h.output, h.size, fun k hk hy => h.block k hk (fun hx => hy (hs k hk hx))⟩
theorem But.below {X : Nat → Prop} {A B : World} {n : Nat} (h : But X A B) (hn : n ≤ A.heap.size) (hX : ∀ k, X k → n ≤ k) : Below n A B :=
  ⟨h.os, h.tape, h.output, h.size, fun k hk => h.block k (Nat.lt_of_lt_of_le hk hn) (fun hx => Nat.lt_irrefl _ (Nat.lt_of_lt_of_le hk (hX k hx)))⟩
theorem But.of_below {A B : World} (h : Below A.heap.size A B) (X : Nat → Prop) : But X A B := ⟨h.os, h.tape, h.output, h.size, fun k hk _ => h.block k hk⟩
theorem But.of_grownBy {A B : World} {row : Option Nat} (h : A.grownBy B row) {X : Nat → Prop} (hX : ∀ k, row = some k → X k) : But X A B :=
  ⟨h.os, h.tape, h.output, h.size, fun k hk hx => h.block k hk (fun e => hx (hX k e.symm))⟩
theorem But.alloc (W : World) (o : Obj) (X : Nat → Prop) : But X W (W.alloc o) := But.of_below ((Below.refl _ W).alloc (Nat.le_refl _) o) X
/-- Behind a step that turns the blocks of X alone, what lay in a block outside lies there still. -/
theorem But.at {X : Nat → Prop} {A B : World} (h : But X A B) {k : Nat} {o : Obj} (hk : A.heap[k]? = some o) (hx : ¬ X k) : B.heap[k]? = some o :=
  (h.block k (Array.getElem?_eq_some_iff.1 hk).1 hx).trans hk
end Go.Proofs.YtiiinpmkidobgaaDoor

/-
  A region that draws its order, whose last call turns what the loads read: S is asked behind every operation but that one, for which all loads wait no more. (After the law of regions that hold loads beside calls: the same proof, but for the one operation.)
-/
namespace Go.Proofs.YtiiinpmkidobgaaDoor.Ix
open Go
variable {P : Program} {ops : Array Oper} {Q : Exit → Act → World → Prop} {md : Region.Mode} {S : World → Prop} {d : Nat}
/-- m waits for p, the next for m, and so on. -/
def pathB (md : Region.Mode) (ops : Array Oper) : Nat → List Nat → Bool
  | _, [] => true
  | p, m :: r => (match ops[m]? with | some o => o.after.any fun e => Region.binds md e && e.on == p | none => false) && pathB md ops m r
theorem not_ready {listed : Array Bool} : ∀ (ms : List Nat) (p : Nat), pathB md ops p ms = true → listed.getD p false = false → (∀ m ∈ ms, listed.getD m true = false) → ∀ m ∈ ms, m ∉ Region.ready md ops listed := by
  intro ms
  induction ms with
  | nil => intro p _ _ _ m hm; cases hm
  | cons a r ih =>
    intro p hp hl hu m hm
    rw [pathB, Bool.and_eq_true] at hp
    obtain ⟨h1, h2⟩ := hp
    have ha : a ∉ Region.ready md ops listed := fun hr => by
      obtain ⟨_, o, ho, hall⟩ := mem_ready.1 hr
      rw [ho] at h1
      simp only [Array.any_eq_true] at h1
      obtain ⟨i, hi, he⟩ := h1
      rw [Bool.and_eq_true] at he
      have := hall _ (Array.getElem_mem hi) he.1
      rw [show (o.after[i]).on = p by simpa using he.2, hl] at this
      cases this
    rcases List.mem_cons.1 hm with rfl | hm
    · exact ha
    · have hla : listed.getD a false = false := by
        have := hu a (by simp)
        by_cases hs : a < listed.size
        · simp [Array.getD, hs] at this ⊢; exact this
        · simp [Array.getD, hs]
      exact ih a h2 hla (fun m hm => hu m (by simp [hm])) m hm
/-- Whatever order is picked from here on, and S holds behind every operation that is carried out, but behind d. -/
def wpAnyT (P : Program) (md : Region.Mode) (ops : Array Oper) (Q : Exit → Act → World → Prop) (S : World → Prop) (d : Nat) : Nat → Array Bool → Act → World → Prop
  | 0, listed, a, w => Region.ready md ops listed = [] ∧ Q .normal a w
  | fuel + 1, listed, a, w =>
    (Region.ready md ops listed = [] → Q .normal a w) ∧
    ∀ i ∈ Region.ready md ops listed, wpOp P ops Q i (fun a' w' => ((listed.setIfInBounds i true).getD d false = false → S w') ∧ wpAnyT P md ops Q S d fuel (listed.setIfInBounds i true) a' w') a w
theorem wpAny_of_T : ∀ (fuel : Nat) (listed : Array Bool) (a : Act) (w : World), wpAnyT P md ops Q S d fuel listed a w → wpAny P md ops Q fuel listed a w
  | 0, _, _, _, h => h
  | fuel + 1, _, _, _, h => ⟨h.1, fun i hi => wpOp_mono (fun a' w' h' => wpAny_of_T fuel _ a' w' h'.2) (h.2 i hi)⟩
theorem getD_false {listed : Array Bool} {m : Nat} (h : listed.getD m true = false) : listed.getD m false = false := by
  by_cases hs : m < listed.size
  · simp [Array.getD, hs] at h ⊢; exact h
  · simp [Array.getD, hs]
theorem vac {b : Bool} {p : Prop} (hb : b = true) : b = false → p := fun h => by rw [hb] at h; cases h
theorem getD_unlisted {listed : Array Bool} {j m : Nat} (h : listed.getD m true = false) (hne : j ≠ m) : (listed.setIfInBounds j true).getD m true = false := by
  rw [getD_set_ne true hne]; exact h
theorem wpAnyT_first {i : Nat} {oi : Oper} {v : Value} {ms : List Nat} (hi : ops[i]? = some oi) (hsel : ∀ (j : Nat) (o : Oper) cs b, ops[j]? = some o → o.op ≠ .select cs b)
    (hQ : ∀ c a w, Q (.panic c) (a.put oi.dst v) w → Q (.panic c) a w) (hpath : pathB md ops i ms = true) (hdm : d ∈ ms) :
    ∀ (fuel : Nat) (listed : Array Bool) (a : Act) (w : World),
      (∀ j oj, ops[j]? = some oj → j ≠ i → listed.getD j true = false → (∀ e ∈ oj.after, Region.binds md e = true → e.on ≠ i) → oi.apart ops oj = true) →
      i ∈ Region.ready md ops listed → (∀ m ∈ ms, listed.getD m true = false) → YieldsIf P ops S oi v a → S w →
      wpAnyT P md ops Q S d fuel (listed.setIfInBounds i true) (a.put oi.dst v) w → wpAnyT P md ops Q S d (fuel + 1) listed a w := by
  intro fuel
  induction fuel with
  | zero =>
    intro listed a w _ hr _ hy hS H
    refine ⟨fun h => (by rw [h] at hr; cases hr), fun j hj => ?_⟩
    by_cases hji : j = i
    · subst hji; exact hy.wpOp hi hS ⟨fun _ => hS, H⟩
    · have := ready_mono hj hji
      rw [H.1] at this
      cases this
  | succ fuel ih =>
    intro listed a w hfree hr hms hy hS H
    refine ⟨fun h => (by rw [h] at hr; cases hr), fun j hj => ?_⟩
    by_cases hji : j = i
    · subst hji; exact hy.wpOp hi hS ⟨fun _ => hS, H⟩
    · have hil : listed.getD i false = false := by
        have := (mem_ready.1 hr).1
        by_cases hs : i < listed.size
        · simp [Array.getD, hs] at this ⊢; exact this
        · simp [Array.getD, hs]
      have hnm : j ∉ ms := fun h => not_ready ms i hpath hil hms j h hj
      have hjd : j ≠ d := fun e => hnm (by rw [e]; exact hdm)
      have hid : i ≠ d := fun e => not_ready ms i hpath hil hms d hdm (by rw [← e]; exact hr)
      have hdj : ((listed.setIfInBounds i true).setIfInBounds j true).getD d false = false := getD_false (getD_unlisted (getD_unlisted (hms d hdm) hid) hjd)
      have h1 := H.2 j (ready_mono hj hji)
      obtain ⟨hjun, oj, hoj, hall⟩ := mem_ready.1 hj
      have hnot : ∀ e ∈ oj.after, Region.binds md e = true → e.on ≠ i := fun e he hb heq => by
        have h1 := hall e he hb
        rw [heq, hil] at h1
        cases h1
      have h2 := wpOp_putIf hoj (hfree j oj hoj hji hjun hnot) (fun cs b => hsel i oi cs b hi) (fun cs b => hsel j oj cs b hoj) hQ hy h1
      have hfree' : ∀ k ok, ops[k]? = some ok → k ≠ i → (listed.setIfInBounds j true).getD k true = false →
          (∀ e ∈ ok.after, Region.binds md e = true → e.on ≠ i) → oi.apart ops ok = true := fun k ok hk hki hun hno => by
        refine hfree k ok hk hki ?_ hno
        by_cases hjk : j = k
        · subst hjk; exact hjun
        · rw [getD_set_ne true hjk] at hun; exact hun
      refine wpOp_mono (fun a' w' h3 => ⟨fun _ => h3.2.1 hdj, ih (listed.setIfInBounds j true) a' w' hfree' (ready_mono hr (Ne.symm hji)) (fun m hm => getD_unlisted (hms m hm) (fun e => hnm (by rw [e]; exact hm))) h3.1 (h3.2.1 hdj) ?_⟩) h2
      rw [Array.setIfInBounds_comm _ _ hji]
      exact h3.2.2
theorem wpAnyT_take {i : Nat} {oi : Oper} {v : Value} (ms : List Nat) {fuel : Nat} {listed : Array Bool} {a : Act} {w : World} (hi : ops[i]? = some oi)
    (hs : Region.noSelect ops = true) (hf : Region.free md ops listed i = true) (hr : (Region.ready md ops listed).contains i = true)
    (hp : (pathB md ops i ms && ms.contains d && ms.all fun m => listed.getD m true == false) = true)
    (hQ : ∀ c a w, Q (.panic c) (a.put oi.dst v) w → Q (.panic c) a w) (hy : YieldsIf P ops S oi v a) (hS : S w)
    (h : wpAnyT P md ops Q S d fuel (listed.setIfInBounds i true) (a.put oi.dst v) w) : wpAnyT P md ops Q S d (fuel + 1) listed a w := by
  simp only [Bool.and_eq_true, List.all_eq_true] at hp
  exact wpAnyT_first hi (Region.noSelect_spec hs) hQ hp.1.1 (by simpa using hp.1.2) fuel listed a w (Region.free_spec hi hf) (by simpa using hr) (fun m hm => by simpa using hp.2 m hm) hy hS h
/-- Only one may come up. -/
theorem wpAnyT_one {i : Nat} {o : Oper} {fuel : Nat} {listed : Array Bool} {a : Act} {w : World} (hr : Region.ready md ops listed = [i]) (ho : ops[i]? = some o)
    (h : ∀ K' : Act → World → Prop, Shut (∀ a w, ((listed.setIfInBounds i true).getD d false = false → S w) → wpAnyT P md ops Q S d fuel (listed.setIfInBounds i true) a w → K' a w) → if Region.wanted o (yielded ops a.tmps) = true then Oper.wp P o a w K' Q else K' (a.put o.dst undef) w) :
    wpAnyT P md ops Q S d (fuel + 1) listed a w := by
  refine ⟨fun h0 => (by rw [h0] at hr; cases hr), fun j hj => ?_⟩
  rw [hr, List.mem_singleton] at hj
  subst hj
  exact wpOp_step ho (fun K' hK => h K' (fun a w hS hW => hK a w ⟨hS, hW⟩))
theorem wpAnyT_done {listed : Array Bool} {a : Act} {w : World} (hr : Region.ready md ops listed = []) (h : Q .normal a w) : ∀ fuel, wpAnyT P md ops Q S d fuel listed a w
  | 0 => ⟨hr, h⟩
  | _ + 1 => ⟨fun _ => h, by rw [hr]; simp⟩
theorem wp_region_T {id : Nat} {a : Act} {w : World} (S : World → Prop) (d : Nat) (hm : P.follows .mixedOrders = true)
    (h : wpAnyT P .any ops Q S d ops.size (Array.replicate ops.size false) a w.drew) : (Code.region id ops true).wp P Q a w :=
  wp_region_any hm (wpAny_of_T _ _ _ _ h)
end Go.Proofs.YtiiinpmkidobgaaDoor.Ix

/-
  Tasks that take turns, by data; a run in memory.
-/
namespace Go.Proofs.YtiiinpmkidobgaaDoor.Sd
open Go.RowKit
set_option linter.unusedVariables false
set_option linter.unusedSimpArgs false
set_option maxRecDepth 100000
theorem hide {p : Prop} (h : p) : Hid p := h
theorem keepF {w u v : World} (h : Below w.heap.size w u) (q : Below u.heap.size u v) : Below w.heap.size w v := h.trans (q.mono h.size)
theorem cell_of {w : World} {b : Nat} {cs : Array Value} {T : TypeId} {fz : Nat × Nat} {off : Nat} (h : w.heap[b]? = some (.cells cs T fz)) : w.cell? ⟨b, off, none⟩ = cs[off]? := by simp [World.cell?, h]
theorem alloc_cell {w : World} {a : Addr} {v : Value} (o : Obj) (h : w.cell? a = some v) : (w.alloc o).cell? a = some v := (World.cell?_of_block ((box_below w o).block a.block (lt_of_cell h))).trans h
theorem frz_of {w : World} {b : Nat} {cs : Array Value} {T : TypeId} {off : Nat} (h : w.heap[b]? = some (.cells cs T (0, 0))) : w.frozen? ⟨b, off, none⟩ = false := by simp [World.frozen?, h]
theorem But.set {X : Nat → Prop} (w : World) (g o : Nat) (v : Value) (hX : X g) : But X w (w.setCell ⟨g, o, none⟩ v) := But.of_grownBy (grown_setCell w g o v) fun k e => by cases e; exact hX
/-- An act: its kind, what it chooses, its number. -/
structure Ac where
  k : Int
  a : Int
  b : Int
  n : Int
/-- A task: its acts, where it stands, its sleep, its guard, where it lands, whether it died, with what. -/
structure Tk where
  ac : List Ac
  pc : Nat
  sl : Nat
  gd : Bool
  ld : Nat
  dd : Bool
  wt : Int
/-- A run. -/
structure St where
  tk : List Tk
  room : Nat
  lk : Nat → Option Nat
  sl : Nat → List Nat
  qu : Nat → List Int
  rg : Nat → Int
  tr : List (Nat × Nat)
def up {α : Type} (f : Nat → α) (i : Nat) (x : α) : Nat → α := fun j => if j = i then x else f j
@[simp] theorem up_same {α : Type} (f : Nat → α) (i : Nat) (x : α) : up f i x i = x := by simp [up]
theorem up_other {α : Type} (f : Nat → α) {i j : Nat} (x : α) (h : j ≠ i) : up f i x j = f j := by simp [up, h]
def pt (tb i : Nat) : Value := .pointer (some ⟨tb, i * 7, none⟩)
def lv (tb : Nat) : Option Nat → Value
  | none => .pointer none
  | some i => pt tb i
/-- A list of one-cell values that is appended to behind, and cut from the front. -/
def Sld (w : World) (T : TypeId) (v : Value) (xs : List Value) : Prop :=
  (v = .slice none 0 0 ∧ xs = []) ∨ ∃ g off cap cur, v = .slice (some ⟨g, off, none⟩) xs.length cap ∧ w.heap[g]? = some (.cells cur T (0, 0)) ∧ xs.length ≤ cap ∧ cap ≤ maxLen ∧ off + cap ≤ cur.size ∧ ∀ i, i < xs.length → cur[off + i]? = xs[i]?
theorem Sld.nil (w : World) (T : TypeId) : Sld w T (.slice none 0 0) [] := .inl ⟨rfl, rfl⟩
theorem Sld.but {X : Nat → Prop} {w w' : World} {T : TypeId} {v : Value} {xs : List Value} (h : Sld w T v xs) (hb : But X w w') (hx : ∀ k, v.ownBlock = some k → ¬ X k) : Sld w' T v xs := by
  rcases h with h | ⟨g, off, cap, cur, rfl, h1, h2, h3, h4, h5⟩
  · exact .inl h
  · exact .inr ⟨g, off, cap, cur, rfl, hb.at h1 (hx g rfl), h2, h3, h4, h5⟩
theorem Sld.lt {w : World} {T : TypeId} {v : Value} {xs : List Value} (h : Sld w T v xs) : ∀ k, v.ownBlock = some k → k < w.heap.size := by
  intro k hk
  rcases h with ⟨rfl, _⟩ | ⟨g, off, cap, cur, rfl, h1, _⟩
  · cases hk
  · cases hk; exact heap_lt h1
theorem Sld.form {w : World} {T : TypeId} {v : Value} {xs : List Value} (h : Sld w T v xs) : ∃ ao cap, v = .slice ao xs.length cap := by
  rcases h with ⟨rfl, rfl⟩ | ⟨g, off, cap, cur, rfl, _⟩
  · exact ⟨_, _, rfl⟩
  · exact ⟨_, _, rfl⟩
theorem Sld.at {w : World} {T : TypeId} {v : Value} {xs : List Value} (h : Sld w T v xs) (hx : xs ≠ []) : ∃ g off cap, v = .slice (some ⟨g, off, none⟩) xs.length cap ∧ xs.length ≤ cap ∧ ∀ i x, xs[i]? = some x → w.cell? ⟨g, off + i, none⟩ = some x := by
  rcases h with ⟨_, rfl⟩ | ⟨g, off, cap, cur, rfl, h1, h2, h3, h4, h5⟩
  · exact absurd rfl hx
  · refine ⟨g, off, cap, rfl, h2, fun i x hi => ?_⟩
    rw [cell_of h1, h5 i (List.getElem?_eq_some_iff.1 hi).1, hi]
/-- Cut from the front. -/
theorem Sld.cut {w : World} {T : TypeId} {g off n cap : Nat} {xs : List Value} (h : Sld w T (.slice (some ⟨g, off, none⟩) n cap) xs) {k : Nat} (hk : k ≤ n) : Sld w T (.slice (some ⟨g, off + k, none⟩) (n - k) (cap - k)) (xs.drop k) := by
  rcases h with ⟨e, _⟩ | ⟨g', off', cap', cur, e, h1, h2, h3, h4, h5⟩
  · cases e
  · simp only [Value.slice.injEq, Option.some.injEq, Addr.mk.injEq, and_true] at e
    obtain ⟨⟨rfl, rfl⟩, rfl, rfl⟩ := e
    refine .inr ⟨g, off + k, cap - k, cur, by rw [List.length_drop], h1, by rw [List.length_drop]; omega, by omega, by omega, fun i hi => ?_⟩
    rw [List.length_drop] at hi
    rw [Nat.add_assoc, h5 (k + i) (by omega), List.getElem?_drop]
/-- Cut to nothing: the address stays. -/
theorem Sld.none {w : World} {T : TypeId} {g off n cap : Nat} {xs : List Value} (h : Sld w T (.slice (some ⟨g, off, none⟩) n cap) xs) : Sld w T (.slice (some ⟨g, off, none⟩) 0 0) [] := by
  rcases h with ⟨e, _⟩ | ⟨g', off', cap', cur, e, h1, h2, h3, h4, h5⟩
  · cases e
  · simp only [Value.slice.injEq, Option.some.injEq, Addr.mk.injEq, and_true] at e
    obtain ⟨⟨rfl, rfl⟩, rfl, rfl⟩ := e
    exact .inr ⟨g, off, 0, cur, rfl, h1, Nat.le_refl _, Nat.zero_le _, by omega, fun i hi => by simp at hi⟩
/-- One value more, behind. -/
theorem run_appS {w : World} {T t : TypeId} {v : Value} {xs : List Value} (x : Value) (gg : Nat) (ht : Tryd.prog.underlying t = some (.slice T)) {z : Value} {by_ : Nat} (hi : (Tryd.prog.info? T).map (fun i => (i.zero, i.size, i.bytes)) = some (some z, 1, by_)) (hz : z.cells.size = 1) (hby : by_ ≤ 8)
    (h : Sld w T v xs) (h0 : w.cell? ⟨gg, 0, none⟩ = some x) (h1 : x.oneCell' = true) (hl : xs.length ≤ 1000000) (ty : TypeId) :
    ∃ v' w', (Builtin.append_ #[t, t] ty #[v, .slice (some ⟨gg, 0, none⟩) 1 1]).run Tryd.prog w = .ok v' w' ∧ Sld w' T v' (xs ++ [x]) ∧ w.grownBy w' v.ownBlock ∧ ∀ k, v'.ownBlock = some k → v.ownBlock = some k ∨ w.heap.size ≤ k := by
  obtain ⟨i0, hi0, hz0, hz1, hz2⟩ := info_parts hi
  have hnews : ∀ j u, [x][j]? = some u → w.cell? ((⟨gg, 0, none⟩ : Addr).add j) = some u := by
    intro j u hu
    match j with
    | 0 => simp at hu; subst hu; exact h0
    | j + 1 => simp at hu
  have hone : ∀ u ∈ [x], u.oneCell' = true := by intro u hu; simp at hu; subst hu; exact h1
  rcases h with ⟨rfl, rfl⟩ | ⟨g, off, cap, cur, rfl, k1, k2, k3, k4, k5⟩
  · obtain ⟨v', w', hr, ho, hg, _, hat⟩ := run_append_own_at (P := Tryd.prog) w 0 t ty T i0 z 1 by_ ht hi0 hz0 hz1 hz2 hz (by decide) (.slice none 0 0) 0 [] (World.ownsRow_nil _ _ _ _) ⟨gg, 0, none⟩ 1 1 [x] rfl hnews hone (by unfold maxLen; omega) (by omega) (Nat.zero_le _)
    refine ⟨v', w', hr, ?_, hg, fun k hk => .inr (by rcases hat with e | e; rw [e] at hk; cases hk; rw [e] at hk; cases hk; exact Nat.le_refl _)⟩
    rcases ho.2 with ⟨_, e⟩ | ⟨g, cap, cur, rfl, _, e1, e2, e3, e4, e5⟩
    · simp at e
    · refine .inr ⟨g, 0, cap, cur, rfl, e1, e2, e3, by omega, fun i hi => ?_⟩
      rw [← e5, Nat.zero_add, List.getElem?_take_of_lt (by simp at hi; omega), Array.getElem?_toList]
  · by_cases hr : xs.length + 1 ≤ cap
    · have hcell : ∀ j, j < [x].length → (w.cell? ⟨g, off + xs.length * i0.size + j, none⟩).isSome = true := by
        intro j hj
        simp at hj
        rw [hz1, cell_of k1, Array.getElem?_eq_getElem (by omega)]
        rfl
      have hrun := run_append_room_cells (P := Tryd.prog) w t ty T i0 ht hi0 g off xs.length cap ⟨gg, 0, none⟩ 1 1 [x] (by rw [hz1]; rfl) hnews hone hr hcell (fun j _ => frz_of k1)
      refine ⟨_, _, hrun, .inr ⟨g, off, cap, cur.setIfInBounds (off + xs.length) x, by simp, ?_, by simpa using hr, k3, by simpa using k4, fun i hi => ?_⟩, ?_, fun k hk => .inl hk⟩
      · have := heap_setCell_same w g (off + xs.length) _ _ x k1
        simpa [World.setCells, hz1] using this
      · simp at hi
        by_cases hx : i = xs.length
        · subst hx
          rw [Array.getElem?_setIfInBounds_self_of_lt (by omega)]
          simp
        · rw [Array.getElem?_setIfInBounds_ne (by omega), k5 i (by omega), List.getElem?_append_left (by omega)]
      · have := grown_setCell w g (off + xs.length) x
        simpa [World.setCells, hz1, Value.ownBlock] using this
    · obtain ⟨v', w', hrun, r1, r2⟩ := run_append_arg_grows (P := Tryd.prog) w t ty T i0 z 1 by_ ht hi0 hz0 hz1 hz2 hz (by decide) ⟨g, off, none⟩ xs.length cap xs (by omega) (fun j u hj => by rw [Addr.add_lit, cell_of k1, k5 j (List.getElem?_eq_some_iff.1 hj).1, hj]) ⟨gg, 0, none⟩ 1 1 [x] rfl hnews (by omega) (by unfold maxLen; omega) (by have : (xs.length + 1) * by_ ≤ 1000001 * 8 := Nat.mul_le_mul (by omega) hby; omega)
      refine ⟨v', w', hrun, ?_, ⟨r2.os, r2.tape, r2.output, r2.size, fun k hk _ => r2.block k hk (by simp)⟩, ?_⟩
      · rcases r1.2 with ⟨_, e⟩ | ⟨g, cap, cur, rfl, _, e1, e2, e3, e4, e5⟩
        · omega
        · refine .inr ⟨g, 0, cap, cur, by simp, e1, by simpa using e2, e3, by omega, fun i hi => ?_⟩
          rw [← e5, Nat.zero_add, List.getElem?_take_of_lt (by simp at hi; omega), Array.getElem?_toList]
      · intro k hk
        exact .inr (World.ownsRow.lt r1 k hk).1
/-- An act in memory. -/
def AcAt (w : World) (b off : Nat) (a : Ac) : Prop := w.cell? ⟨b, off, none⟩ = some (.int .i64 a.k) ∧ w.cell? ⟨b, off + 1, none⟩ = some (.int .i64 a.a) ∧ w.cell? ⟨b, off + 2, none⟩ = some (.int .i64 a.b) ∧ w.cell? ⟨b, off + 3, none⟩ = some (.int .i64 a.n)
theorem AcAt.below {w u : World} {b off : Nat} {o : Ac} (h : AcAt w b off o) (hb : Below w.heap.size w u) : AcAt u b off o := by
  obtain ⟨h1, h2, h3, h4⟩ := h
  exact ⟨(World.cell?_of_block (hb.block b (lt_of_cell h1))).trans h1, (World.cell?_of_block (hb.block b (lt_of_cell h2))).trans h2, (World.cell?_of_block (hb.block b (lt_of_cell h3))).trans h3, (World.cell?_of_block (hb.block b (lt_of_cell h4))).trans h4⟩
/-- A list of acts, as it is read. -/
def ActsAt (w : World) (v : Value) (l : List Ac) : Prop := ∃ ao cap, v = .slice ao l.length cap ∧ l.length ≤ cap ∧ ∀ (i : Nat) (a : Ac), l[i]? = some a → ∃ b off, ao = some ⟨b, off, none⟩ ∧ AcAt w b (off + i * 4) a
theorem ActsAt.below {w u : World} {v : Value} {l : List Ac} (h : ActsAt w v l) (hb : Below w.heap.size w u) : ActsAt u v l := by
  obtain ⟨ao, cap, e, hl, h1⟩ := h
  refine ⟨ao, cap, e, hl, fun i a hi => ?_⟩
  obtain ⟨b, off, e1, h2⟩ := h1 i a hi
  exact ⟨b, off, e1, h2.below hb⟩
/-- Tasks, as they are read: us are their lists' values. -/
def TksAt (w : World) (v : Value) (us : List Value) (ts : List (List Ac)) : Prop := Row w v us ∧ us.length = ts.length ∧ ∀ (i : Nat) (u : Value) (l : List Ac), us[i]? = some u → ts[i]? = some l → ActsAt w u l
theorem TksAt.below {w w' : World} {v : Value} {us : List Value} {ts : List (List Ac)} (h : TksAt w v us ts) (hb : Below w.heap.size w w') : TksAt w' v us ts := ⟨Below.row hb h.1, h.2.1, fun i u l h1 h2 => (h.2.2 i u l h1 h2).below hb⟩
/-- What else a run has: the block of its tasks, the lists of who sleeps, of the queues, of the turns. -/
structure V where
  tb : Nat
  s : Nat → Value
  q : Nat → Value
  t : Value
structure RC (cs : Array Value) (S : St) (X : V) : Prop where
  size : cs.size = 23
  tasks : cs[0]? = some (.slice (some ⟨X.tb, 0, none⟩) S.tk.length S.tk.length)
  room : cs[1]? = some (.int .i64 (S.room : Int))
  lk : ∀ i, i < 4 → cs[2 + i]? = some (lv X.tb (S.lk i))
  sl : ∀ i, i < 4 → cs[6 + i]? = some (X.s i)
  qu : ∀ i, i < 4 → cs[10 + i]? = some (X.q i)
  rg : ∀ i, i < 8 → cs[14 + i]? = some (.int .i64 (S.rg i))
  tr : cs[22]? = some X.t
def tkc (t : Tk) : List Value := [.int .i64 (t.pc : Int), .int .i64 (t.sl : Int), .bool t.gd, .int .i64 (t.ld : Int), .bool t.dd, .int .i64 t.wt]
structure TC (ts : Array Value) (us : List Value) (tk : List Tk) : Prop where
  size : ts.size = tk.length * 7
  len : us.length = tk.length
  ac : ∀ (i : Nat) (t : Tk), tk[i]? = some t → ts[i * 7]? = us[i]?
  rest : ∀ (i : Nat) (t : Tk), tk[i]? = some t → ∀ j, j < 6 → ts[i * 7 + (j + 1)]? = (tkc t)[j]?
def turn (x : Nat × Nat) : List Value := [.int .i64 (x.1 : Int), .int .i64 (x.2 : Int)]
def tcells (l : List (Nat × Nat)) : List Value := l.flatMap turn
/-- Its blocks. -/
def bl (rb : Nat) (X : V) : Nat → Option Nat
  | 0 => some rb
  | 1 => some X.tb
  | 2 => X.t.ownBlock
  | n + 3 => if n < 4 then (X.s n).ownBlock else if n < 8 then (X.q (n - 4)).ownBlock else none
theorem bl_s (rb : Nat) (X : V) {n : Nat} (h : n < 4) : bl rb X (n + 3) = (X.s n).ownBlock := by simp [bl, h]
theorem bl_q (rb : Nat) (X : V) {n : Nat} (h : n < 4) : bl rb X (n + 4 + 3) = (X.q n).ownBlock := by
  have h1 : ¬ n + 4 < 4 := by omega
  have h2 : n + 4 < 8 := by omega
  show (if n + 4 < 4 then (X.s (n + 4)).ownBlock else if n + 4 < 8 then (X.q (n + 4 - 4)).ownBlock else none) = _
  rw [if_neg h1, if_pos h2, Nat.add_sub_cancel]
def Own (rb : Nat) (X : V) (k : Nat) : Prop := ∃ i, bl rb X i = some k
/-- At block rb lies the run S, made since w0, its lists of acts us. -/
structure At (w0 : World) (us : List Value) (w : World) (rb : Nat) (X : V) (S : St) : Prop where
  cs : ∃ cs, w.heap[rb]? = some (.cells cs 90 (0, 0)) ∧ RC cs S X
  ts : ∃ ts, w.heap[X.tb]? = some (.cells ts 93 (0, 0)) ∧ TC ts us S.tk
  sl : ∀ i, i < 4 → Sld w 85 (X.s i) ((S.sl i).map (pt X.tb))
  qu : ∀ i, i < 4 → Sld w 2 (X.q i) ((S.qu i).map (Value.int .i64))
  tr : w.ownsRow w0.heap.size 39 2 X.t S.tr.length (tcells S.tr)
  dis : ∀ i j k, bl rb X i = some k → bl rb X j = some k → i = j
  lo : ∀ i k, bl rb X i = some k → w0.heap.size ≤ k
  low : Below w0.heap.size w0 w
  ac : ∀ (i : Nat) (t : Tk), S.tk[i]? = some t → ∃ u, us[i]? = some u ∧ ActsAt w0 u t.ac
theorem ownsRow_but {X : Nat → Prop} {w w' : World} {B : Nat} {T : TypeId} {sz n : Nat} {v : Value} {xs : List Value} (h : w.ownsRow B T sz v n xs) (hb : But X w w') (hx : ∀ k, v.ownBlock = some k → ¬ X k) : w'.ownsRow B T sz v n xs := by
  refine ⟨h.1, ?_⟩
  rcases h.2 with h | ⟨g, cap, cur, rfl, hg, h1, r⟩
  · exact .inl h
  · exact .inr ⟨g, cap, cur, rfl, hg, hb.at h1 (hx g rfl), r⟩
section
variable {w0 w w' : World} {us : List Value} {rb : Nat} {X : V} {S : St}
theorem At.but {Y : Nat → Prop} (h : At w0 us w rb X S) (hb : But Y w w') (hx : ∀ k, Own rb X k → ¬ Y k) (hlo : ∀ k, Y k → w0.heap.size ≤ k) : At w0 us w' rb X S := by
  obtain ⟨cs, c1, c2⟩ := h.cs
  obtain ⟨ts, t1, t2⟩ := h.ts
  refine ⟨⟨cs, hb.at c1 (hx rb ⟨0, rfl⟩), c2⟩, ⟨ts, hb.at t1 (hx X.tb ⟨1, rfl⟩), t2⟩, fun i hi => (h.sl i hi).but hb fun k hk => hx k ⟨i + 3, (bl_s rb X hi).trans hk⟩, fun i hi => (h.qu i hi).but hb fun k hk => hx k ⟨i + 4 + 3, (bl_q rb X hi).trans hk⟩, ownsRow_but h.tr hb fun k hk => hx k ⟨2, hk⟩, h.dis, h.lo, h.low.trans (hb.below h.low.size hlo), h.ac⟩
theorem At.below (h : At w0 us w rb X S) (hb : Below w.heap.size w w') : At w0 us w' rb X S := h.but (But.of_below hb fun _ => False) (fun _ _ c => c) fun _ c => c.elim
theorem At.lt (h : At w0 us w rb X S) : ∀ k, Own rb X k → k < w.heap.size := by
  rintro k ⟨i, hi⟩
  obtain ⟨cs, c1, c2⟩ := h.cs
  obtain ⟨ts, t1, t2⟩ := h.ts
  match i with
  | 0 => cases hi; exact heap_lt c1
  | 1 => cases hi; exact heap_lt t1
  | 2 => exact (World.ownsRow.lt h.tr k hi).2
  | n + 3 =>
    simp only [bl] at hi
    split at hi
    · next hn => exact (h.sl n hn).lt k hi
    · split at hi
      · next hn => exact (h.qu (n - 4) (by omega)).lt k hi
      · cases hi
/-- What is read of it. -/
theorem At.rcell (h : At w0 us w rb X S) : w.cell? ⟨rb, 0, none⟩ = some (.slice (some ⟨X.tb, 0, none⟩) S.tk.length S.tk.length) ∧ w.cell? ⟨rb, 1, none⟩ = some (.int .i64 (S.room : Int)) ∧ w.cell? ⟨rb, 22, none⟩ = some X.t := by
  obtain ⟨cs, c1, c2⟩ := h.cs
  exact ⟨(cell_of c1).trans c2.tasks, (cell_of c1).trans c2.room, (cell_of c1).trans c2.tr⟩
theorem At.lcell (h : At w0 us w rb X S) {i : Nat} (hi : i < 4) : w.cell? ⟨rb, 2 + i, none⟩ = some (lv X.tb (S.lk i)) := by
  obtain ⟨cs, c1, c2⟩ := h.cs
  exact (cell_of c1).trans (c2.lk i hi)
theorem At.scell (h : At w0 us w rb X S) {i : Nat} (hi : i < 4) : w.cell? ⟨rb, 6 + i, none⟩ = some (X.s i) := by
  obtain ⟨cs, c1, c2⟩ := h.cs
  exact (cell_of c1).trans (c2.sl i hi)
theorem At.qcell (h : At w0 us w rb X S) {i : Nat} (hi : i < 4) : w.cell? ⟨rb, 10 + i, none⟩ = some (X.q i) := by
  obtain ⟨cs, c1, c2⟩ := h.cs
  exact (cell_of c1).trans (c2.qu i hi)
theorem At.gcell (h : At w0 us w rb X S) {i : Nat} (hi : i < 8) : w.cell? ⟨rb, 14 + i, none⟩ = some (.int .i64 (S.rg i)) := by
  obtain ⟨cs, c1, c2⟩ := h.cs
  exact (cell_of c1).trans (c2.rg i hi)
theorem At.frz (h : At w0 us w rb X S) (j : Nat) : w.frozen? ⟨rb, j, none⟩ = false := by
  obtain ⟨cs, c1, c2⟩ := h.cs
  exact frz_of c1
theorem At.frzT (h : At w0 us w rb X S) (j : Nat) : w.frozen? ⟨X.tb, j, none⟩ = false := by
  obtain ⟨cs, c1, c2⟩ := h.ts
  exact frz_of c1
theorem At.tcell (h : At w0 us w rb X S) {i : Nat} {t : Tk} (hi : S.tk[i]? = some t) : (∃ u, us[i]? = some u ∧ ActsAt w u t.ac ∧ w.cell? ⟨X.tb, i * 7, none⟩ = some u) ∧ w.cell? ⟨X.tb, i * 7 + 1, none⟩ = some (.int .i64 (t.pc : Int)) ∧ w.cell? ⟨X.tb, i * 7 + 2, none⟩ = some (.int .i64 (t.sl : Int)) ∧ w.cell? ⟨X.tb, i * 7 + 3, none⟩ = some (.bool t.gd) ∧ w.cell? ⟨X.tb, i * 7 + 4, none⟩ = some (.int .i64 (t.ld : Int)) ∧ w.cell? ⟨X.tb, i * 7 + 5, none⟩ = some (.bool t.dd) ∧ w.cell? ⟨X.tb, i * 7 + 6, none⟩ = some (.int .i64 t.wt) := by
  obtain ⟨ts, t1, t2⟩ := h.ts
  obtain ⟨u, u1, u2⟩ := h.ac i t hi
  have r := t2.rest i t hi
  exact ⟨⟨u, u1, u2.below h.low, (cell_of t1).trans ((t2.ac i t hi).trans u1)⟩, (cell_of t1).trans (r 0 (by omega)), (cell_of t1).trans (r 1 (by omega)), (cell_of t1).trans (r 2 (by omega)), (cell_of t1).trans (r 3 (by omega)), (cell_of t1).trans (r 4 (by omega)), (cell_of t1).trans (r 5 (by omega))⟩
/-- A cell of a task is written. -/
theorem TC.set {ts : Array Value} {us : List Value} {tk : List Tk} (h : TC ts us tk) {i : Nat} {t t' : Tk} (hi : tk[i]? = some t) {j : Nat} (hj : j < 6) {v : Value} (hv : tkc t' = (tkc t).set j v) : TC (ts.setIfInBounds (i * 7 + (j + 1)) v) us (tk.set i t') := by
  have hil := (List.getElem?_eq_some_iff.1 hi).1
  have hsz := h.size
  refine ⟨by simpa using h.size, by simpa using h.len, fun k u hk => ?_, fun k u hk m hm => ?_⟩
  · rw [Array.getElem?_setIfInBounds_ne (by omega)]
    by_cases hki : k = i
    · subst hki; exact h.ac k t hi
    · rw [List.getElem?_set_ne (fun e => hki e.symm)] at hk; exact h.ac k u hk
  · by_cases hki : k = i
    · subst hki
      rw [List.getElem?_set_self hil] at hk
      cases hk
      rw [hv]
      by_cases hmj : m = j
      · subst hmj
        rw [Array.getElem?_setIfInBounds_self_of_lt (by omega), List.getElem?_set_self (by simp [tkc]; omega)]
      · rw [Array.getElem?_setIfInBounds_ne (by omega), List.getElem?_set_ne (fun e => hmj e.symm)]; exact h.rest k t hi m hm
    · rw [List.getElem?_set_ne (fun e => hki e.symm)] at hk
      rw [Array.getElem?_setIfInBounds_ne (by omega)]
      exact h.rest k u hk m hm
theorem At.setT (h : At w0 us w rb X S) {i : Nat} {t t' : Tk} (hi : S.tk[i]? = some t) (j : Nat) (hj : j < 6) (v : Value) (hv : tkc t' = (tkc t).set j v) (hac : t'.ac = t.ac) : At w0 us (w.setCell ⟨X.tb, i * 7 + (j + 1), none⟩ v) rb X { S with tk := S.tk.set i t' } := by
  obtain ⟨cs, c1, c2⟩ := h.cs
  obtain ⟨ts, t1, t2⟩ := h.ts
  have hb : But (fun k => k = X.tb) w (w.setCell ⟨X.tb, i * 7 + (j + 1), none⟩ v) := But.set _ _ _ _ rfl
  have ne : ∀ m, m ≠ 1 → ∀ k, bl rb X m = some k → ¬ k = X.tb := fun m hm k hk e => hm (h.dis m 1 k hk (by rw [e]; rfl))
  refine ⟨⟨cs, hb.at c1 (ne 0 (by omega) rb rfl), ⟨c2.size, by simpa using c2.tasks, c2.room, c2.lk, c2.sl, c2.qu, c2.rg, c2.tr⟩⟩, ⟨_, heap_setCell_same _ _ _ _ _ _ t1, t2.set hi hj hv⟩, fun m hm => (h.sl m hm).but hb fun k hk => ne (m + 3) (by omega) k ((bl_s rb X hm).trans hk), fun m hm => (h.qu m hm).but hb fun k hk => ne (m + 4 + 3) (by omega) k ((bl_q rb X hm).trans hk), ownsRow_but h.tr hb fun k hk => ne 2 (by omega) k hk, h.dis, h.lo, h.low.trans (hb.below h.low.size fun k e => by rw [e]; exact h.lo 1 _ rfl), fun m u hm => ?_⟩
  by_cases hmi : m = i
  · subst hmi
    rw [List.getElem?_set_self (List.getElem?_eq_some_iff.1 hi).1] at hm
    cases hm
    rw [hac]
    exact h.ac m t hi
  · rw [List.getElem?_set_ne (fun e => hmi e.symm)] at hm
    exact h.ac m u hm
/-- A cell of the run is written that is none of its lists. -/
theorem At.setR (h : At w0 us w rb X S) (j : Nat) (v : Value) (S' : St) (h1 : S'.tk = S.tk) (h2 : S'.sl = S.sl) (h3 : S'.qu = S.qu) (h4 : S'.tr = S.tr) (hr : ∀ cs, RC cs S X → RC (cs.setIfInBounds j v) S' X) : At w0 us (w.setCell ⟨rb, j, none⟩ v) rb X S' := by
  obtain ⟨cs, c1, c2⟩ := h.cs
  obtain ⟨ts, t1, t2⟩ := h.ts
  have hb : But (fun k => k = rb) w (w.setCell ⟨rb, j, none⟩ v) := But.set _ _ _ _ rfl
  have ne : ∀ m, m ≠ 0 → ∀ k, bl rb X m = some k → ¬ k = rb := fun m hm k hk e => hm (h.dis m 0 k hk (by rw [e]; rfl))
  exact ⟨⟨_, heap_setCell_same _ _ _ _ _ _ c1, hr cs c2⟩, ⟨ts, hb.at t1 (ne 1 (by omega) _ rfl), by rw [h1]; exact t2⟩, fun m hm => by rw [h2]; exact (h.sl m hm).but hb fun k hk => ne (m + 3) (by omega) k ((bl_s rb X hm).trans hk), fun m hm => by rw [h3]; exact (h.qu m hm).but hb fun k hk => ne (m + 4 + 3) (by omega) k ((bl_q rb X hm).trans hk), by rw [h4]; exact ownsRow_but h.tr hb fun k hk => ne 2 (by omega) k hk, h.dis, h.lo, h.low.trans (hb.below h.low.size fun k e => by rw [e]; exact h.lo 0 _ rfl), by rw [h1]; exact h.ac⟩
theorem RC.setL {cs : Array Value} (c : RC cs S X) {i : Nat} (hi : i < 4) (o : Option Nat) : RC (cs.setIfInBounds (2 + i) (lv X.tb o)) { S with lk := up S.lk i o } X := by
  have hs := c.size
  refine ⟨by simpa using hs, by rw [Array.getElem?_setIfInBounds_ne (by omega)]; exact c.tasks, by rw [Array.getElem?_setIfInBounds_ne (by omega)]; exact c.room, fun j hj => ?_, fun j hj => by rw [Array.getElem?_setIfInBounds_ne (by omega)]; exact c.sl j hj, fun j hj => by rw [Array.getElem?_setIfInBounds_ne (by omega)]; exact c.qu j hj, fun j hj => by rw [Array.getElem?_setIfInBounds_ne (by omega)]; exact c.rg j hj, by rw [Array.getElem?_setIfInBounds_ne (by omega)]; exact c.tr⟩
  by_cases e : j = i
  · subst e; rw [Array.getElem?_setIfInBounds_self_of_lt (by omega)]; simp
  · rw [Array.getElem?_setIfInBounds_ne (by omega), c.lk j hj]; simp [up, e]
theorem RC.setG {cs : Array Value} (c : RC cs S X) {i : Nat} (hi : i < 8) (x : Int) : RC (cs.setIfInBounds (14 + i) (.int .i64 x)) { S with rg := up S.rg i x } X := by
  have hs := c.size
  refine ⟨by simpa using hs, by rw [Array.getElem?_setIfInBounds_ne (by omega)]; exact c.tasks, by rw [Array.getElem?_setIfInBounds_ne (by omega)]; exact c.room, fun j hj => by rw [Array.getElem?_setIfInBounds_ne (by omega)]; exact c.lk j hj, fun j hj => by rw [Array.getElem?_setIfInBounds_ne (by omega)]; exact c.sl j hj, fun j hj => by rw [Array.getElem?_setIfInBounds_ne (by omega)]; exact c.qu j hj, fun j hj => ?_, by rw [Array.getElem?_setIfInBounds_ne (by omega)]; exact c.tr⟩
  by_cases e : j = i
  · subst e; rw [Array.getElem?_setIfInBounds_self_of_lt (by omega)]; simp
  · rw [Array.getElem?_setIfInBounds_ne (by omega), c.rg j hj]; simp [up, e]
theorem At.setL (h : At w0 us w rb X S) {i : Nat} (hi : i < 4) (o : Option Nat) : At w0 us (w.setCell ⟨rb, 2 + i, none⟩ (lv X.tb o)) rb X { S with lk := up S.lk i o } := h.setR _ _ _ rfl rfl rfl rfl fun cs c => c.setL hi o
theorem At.setG (h : At w0 us w rb X S) {i : Nat} (hi : i < 8) (x : Int) : At w0 us (w.setCell ⟨rb, 14 + i, none⟩ (.int .i64 x)) rb X { S with rg := up S.rg i x } := h.setR _ _ _ rfl rfl rfl rfl fun cs c => c.setG hi x
end
/-- A step of a run. -/
def Stp (rb : Nat) (X X' : V) (w w' : World) : Prop := But (Own rb X) w w' ∧ ∀ k, Own rb X' k → Own rb X k ∨ w.heap.size ≤ k
theorem Stp.trans {rb : Nat} {X Y Z : V} {a b c : World} (h : Stp rb X Y a b) (k : Stp rb Y Z b c) : Stp rb X Z a c := by
  refine ⟨⟨k.1.os.trans h.1.os, k.1.tape.trans h.1.tape, k.1.output.trans h.1.output, Nat.le_trans h.1.size k.1.size, fun i hi hn => ?_⟩, fun i hi => ?_⟩
  · rw [k.1.block i (Nat.lt_of_lt_of_le hi h.1.size) (fun c => ?_)]
    · exact h.1.block i hi hn
    · rcases h.2 i c with e | e
      · exact hn e
      · omega
  · rcases k.2 i hi with e | e
    · exact h.2 i e
    · exact .inr (Nat.le_trans h.1.size e)
end Go.Proofs.YtiiinpmkidobgaaDoor.Sd

/-
  How a task stands.
-/
namespace Go.Proofs.YtiiinpmkidobgaaDoor.Sd
open Go.RowKit
set_option linter.unusedVariables false
set_option linter.unusedSimpArgs false
set_option maxRecDepth 100000
def ra (k : Int) : Int := if k = 8 ∨ k = 9 ∨ k = 10 then 8 else if 11 ≤ k then 1 else 4
def rb' (k : Int) : Int := if k = 3 then 4 else if k = 7 ∨ k = 9 then 8 else 1
def nOk (m : Nat) (a : Ac) : Prop := if a.k = 6 ∨ a.k = 8 ∨ a.k = 12 then True else if a.k = 10 then 0 ≤ a.n ∧ a.n ≤ 255 else if a.k = 13 then 0 ≤ a.n ∧ a.n ≤ (m : Int) else a.n = 0
instance (m : Nat) (a : Ac) : Decidable (nOk m a) := by unfold nOk; infer_instance
/-- An act that may be, in a task of m acts. -/
structure OkA (m : Nat) (a : Ac) : Prop where
  k1 : 1 ≤ a.k
  k2 : a.k ≤ 13
  a0 : 0 ≤ a.a
  a1 : a.a < ra a.k
  b0 : 0 ≤ a.b
  b1 : a.b < rb' a.k
  n : nOk m a
structure OkT (n : Nat) (t : Tk) : Prop where
  len : t.ac.length ≤ 256
  ac : ∀ a ∈ t.ac, OkA t.ac.length a
  pc : t.pc ≤ 512
  ld : t.ld ≤ 256
structure Ok (S : St) : Prop where
  n : S.tk.length ≤ 16
  r1 : 1 ≤ S.room
  r2 : S.room ≤ 16
  tk : ∀ t ∈ S.tk, OkT S.tk.length t
  lk : ∀ i j, S.lk i = some j → j < S.tk.length
  sl : ∀ i, ∀ j ∈ S.sl i, j < S.tk.length
  sn : ∀ i, (S.sl i).length ≤ S.tr.length
  qu : ∀ i, (S.qu i).length ≤ S.room
  tr : S.tr.length ≤ 65536
def howS (S : St) (t : Tk) : Int :=
  if t.dd = true then 2 else match t.ac[t.pc]? with
  | none => 1
  | some a => if t.sl = 1 then 5 else if a.k = 1 ∧ S.lk a.a.toNat ≠ none then 4 else if a.k = 3 ∧ t.sl = 2 ∧ S.lk a.b.toNat ≠ none then 4 else if a.k = 6 ∧ S.room ≤ (S.qu a.a.toNat).length then 6 else if a.k = 7 ∧ (S.qu a.a.toNat).length = 0 then 7 else 3
theorem nat_of {x : Int} (h : 0 ≤ x) : ∃ n : Nat, x = (n : Int) := ⟨x.toNat, by omega⟩
theorem OkA.a4 {m : Nat} {a : Ac} (h : OkA m a) (hk : a.k ≤ 7) : ∃ n : Nat, a.a = (n : Int) ∧ n < 4 := by
  obtain ⟨n, e⟩ := nat_of h.a0
  have h1 := h.a1
  have h2 := h.k1
  unfold ra at h1
  refine ⟨n, e, ?_⟩
  split at h1
  · omega
  · split at h1 <;> omega
theorem OkA.b4 {m : Nat} {a : Ac} (h : OkA m a) (hk : a.k = 3) : ∃ n : Nat, a.b = (n : Int) ∧ n < 4 := by
  obtain ⟨n, e⟩ := nat_of h.b0
  have h1 := h.b1
  unfold rb' at h1
  rw [if_pos hk] at h1
  exact ⟨n, e, by omega⟩
set_option maxHeartbeats 4000000 in
theorem how_any (w0 w : World) (us : List Value) (rb : Nat) (X : V) (S : St) (h : At w0 us w rb X S) (ok : Ok S) {i : Nat} {t : Tk} (hi : S.tk[i]? = some t) :
    Calls Tryd.prog 41 #[.pointer (some ⟨rb, 0, none⟩), .pointer (some ⟨X.tb, i * 7, none⟩)] w fun e w' => e = .returned (.int .i64 (howS S t)) ∧ Below w.heap.size w w' := by
  obtain ⟨⟨u, u1, u2, c0⟩, c1, c2, c3, c4, c5, c6⟩ := h.tcell hi
  have okt := ok.tk t (List.mem_of_getElem? hi)
  by_cases hd : t.dd = true
  · have e : Hid (howS S t = 2) := by show _ = _; unfold howS; rw [if_pos hd]
    rw [hd] at c5
    rw [e.out]
    clear h ok u2 okt e
    go_enter Tryd.func41, Tryd.ntmps41
    go_wp2_with fail
    go_ret
    exact ⟨rfl, Below.refl _ _⟩
  · have hd' : t.dd = false := by simpa using hd
    obtain ⟨ao, cap, rfl, hcap, hacts⟩ := u2
    have hlen := okt.len
    have hpc := okt.pc
    rw [hd'] at c5
    cases ha : t.ac[t.pc]? with
    | none =>
      have hge : t.ac.length ≤ t.pc := List.getElem?_eq_none_iff.1 ha
      have e : Hid (howS S t = 1) := by show _ = _; unfold howS; rw [if_neg hd, ha]
      rw [e.out]
      have g1 : (t.ac.length : Int) ≤ (t.pc : Int) := by omega
      clear h ok okt e hacts ha hge hlen hpc
      go_enter Tryd.func41, Tryd.ntmps41
      go_upto_region 3 with fail
      go_quiet (fail)
      go_wp2_with fail
      go_ret
      exact ⟨rfl, Qt.below ⟨_, rfl⟩ _⟩
    | some a =>
      have hlt : t.pc < t.ac.length := (List.getElem?_eq_some_iff.1 ha).1
      have g1 : ¬ (t.ac.length : Int) ≤ (t.pc : Int) := by omega
      have g2 : (t.pc : Int) < (t.ac.length : Int) := by omega
      obtain ⟨ab, aoff, rfl, a0, a1, a2, a3⟩ := hacts t.pc a ha
      have oka := okt.ac a (List.mem_of_getElem? ha)
      by_cases hs : t.sl = 1
      · have e : Hid (howS S t = 5) := by show _ = _; unfold howS; rw [if_neg hd, ha]; simp only; rw [if_pos hs]
        rw [e.out]
        rw [hs] at c2
        clear h ok okt e hacts ha hlen hpc oka
        go_enter Tryd.func41, Tryd.ntmps41
        go_upto_region 3 with fail
        go_quiet (fail)
        go_wp2_with fail
        go_ret
        exact ⟨rfl, Qt.below ⟨_, rfl⟩ _⟩
      · have hs' : ((t.sl : Int) == 1) = false := by simp; omega
        have HS : Hid (howS S t = if a.k = 1 ∧ S.lk a.a.toNat ≠ none then 4 else if a.k = 3 ∧ t.sl = 2 ∧ S.lk a.b.toNat ≠ none then 4 else if a.k = 6 ∧ S.room ≤ (S.qu a.a.toNat).length then 6 else if a.k = 7 ∧ (S.qu a.a.toNat).length = 0 then 7 else 3) := by show _ = _; unfold howS; rw [if_neg hd, ha]; simp only; rw [if_neg hs]
        replace h := hide h
        replace ok := hide ok
        replace oka := hide oka
        obtain ⟨ak, aa, ab', an⟩ := a
        simp only at a0 a1 a2 a3 HS
        clear okt hacts ha hlen hpc
        go_enter Tryd.func41, Tryd.ntmps41
        go_upto_region 3 with fail
        go_quiet (fail)
        go_upto_region 7 with fail
        have bq : Hid (Below w.heap.size w (w.drewN nq)) := Qt.below ⟨_, rfl⟩ _
        generalize w.drewN nq = q1 at *
        have y0 := (bq.out.cell (lt_of_cell c0)).trans c0
        have y1 := (bq.out.cell (lt_of_cell c1)).trans c1
        have e0 := (bq.out.cell (lt_of_cell a0)).trans a0
        have e1 := (bq.out.cell (lt_of_cell a1)).trans a1
        have e2 := (bq.out.cell (lt_of_cell a2)).trans a2
        have e3 := (bq.out.cell (lt_of_cell a3)).trans a3
        have Y0 := alloc_cell (w := q1) (.cells #[.int .i64 0, .int .i64 0, .int .i64 0, .int .i64 0] 45) y0
        have Y0' : ((q1.alloc (.cells #[.int .i64 0, .int .i64 0, .int .i64 0, .int .i64 0] 45)).drew).cell? ⟨X.tb, i * 7, none⟩ = some (.slice (some ⟨ab, aoff, none⟩) t.ac.length cap) := Y0
        have Y1 := alloc_cell (w := q1) (.cells #[.int .i64 0, .int .i64 0, .int .i64 0, .int .i64 0] 45) y1
        have Y1' : ((q1.alloc (.cells #[.int .i64 0, .int .i64 0, .int .i64 0, .int .i64 0] 45)).drew).cell? ⟨X.tb, i * 7 + 1, none⟩ = some (.int .i64 (t.pc : Int)) := Y1
        have E0 := alloc_cell (w := q1) (.cells #[.int .i64 0, .int .i64 0, .int .i64 0, .int .i64 0] 45) e0
        have E0' : ((q1.alloc (.cells #[.int .i64 0, .int .i64 0, .int .i64 0, .int .i64 0] 45)).drew).cell? ⟨ab, aoff + t.pc * 4, none⟩ = some (.int .i64 ak) := E0
        have E1 := alloc_cell (w := q1) (.cells #[.int .i64 0, .int .i64 0, .int .i64 0, .int .i64 0] 45) e1
        have E1' : ((q1.alloc (.cells #[.int .i64 0, .int .i64 0, .int .i64 0, .int .i64 0] 45)).drew).cell? ⟨ab, aoff + t.pc * 4 + 1, none⟩ = some (.int .i64 aa) := E1
        have E2 := alloc_cell (w := q1) (.cells #[.int .i64 0, .int .i64 0, .int .i64 0, .int .i64 0] 45) e2
        have E2' : ((q1.alloc (.cells #[.int .i64 0, .int .i64 0, .int .i64 0, .int .i64 0] 45)).drew).cell? ⟨ab, aoff + t.pc * 4 + 2, none⟩ = some (.int .i64 ab') := E2
        have E3 := alloc_cell (w := q1) (.cells #[.int .i64 0, .int .i64 0, .int .i64 0, .int .i64 0] 45) e3
        have E3' : ((q1.alloc (.cells #[.int .i64 0, .int .i64 0, .int .i64 0, .int .i64 0] 45)).drew).cell? ⟨ab, aoff + t.pc * 4 + 3, none⟩ = some (.int .i64 an) := E3
        clear c0 c1 c3 c4 c5 c6 a0 a1 a2 a3
        go_region
        have B2 := keepF bq.out (box_below q1 (.cells #[.int .i64 ak, .int .i64 aa, .int .i64 ab', .int .i64 an] 45)).drew
        have N2 : ((q1.alloc (.cells #[.int .i64 ak, .int .i64 aa, .int .i64 ab', .int .i64 an] 45)).drew).heap[q1.heap.size]? = some (.cells #[.int .i64 ak, .int .i64 aa, .int .i64 ab', .int .i64 an] 45) := heap_alloc_new q1 (.cells #[.int .i64 ak, .int .i64 aa, .int .i64 ab', .int .i64 an] 45)
        clear y0 y1 e0 e1 e2 e3 Y0 Y1 E0 E1 E2 E3 Y0' Y1' E0' E1' E2' E3'
        generalize (q1.alloc (.cells #[.int .i64 ak, .int .i64 aa, .int .i64 ab', .int .i64 an] 45)).drew = w2 at *
        generalize q1.heap.size = xb at *
        have b0 : w2.cell? ⟨xb, 0, none⟩ = some (.int .i64 ak) := by rw [cell_of N2]; rfl
        have b1 : w2.cell? ⟨xb, 1, none⟩ = some (.int .i64 aa) := by rw [cell_of N2]; rfl
        have b2 : w2.cell? ⟨xb, 2, none⟩ = some (.int .i64 ab') := by rw [cell_of N2]; rfl
        have BW : Hid (Below w.heap.size w w2) := B2
        have A2 := hide (h.out.below B2)
        obtain ⟨-, rr, -⟩ := A2.out.rcell
        obtain ⟨-, -, c2', -⟩ := A2.out.tcell hi
        replace hi := hide hi
        clear B2 N2 c2 bq q1 h
        by_cases k1 : ak = 1
        · subst k1
          obtain ⟨ia, rfl, hia⟩ := oka.out.a4 (by simp)
          have hl := A2.out.lcell hia
          simp only [Int.toNat_natCast] at HS
          have hia' : (ia : Int) < 4 := by omega
          cases hk : S.lk ia with
          | none =>
            rw [hk] at hl
            simp only [hk, ne_eq, not_true_eq_false, and_false, if_false, Int.reduceEq, false_and, reduceIte] at HS
            simp only [lv] at hl
            go_upto_region 8 with fail
            go_quiet (fail)
            go_upto_region 10 with fail
            go_quiet (fail)
            go_upto_region 12 with fail
            go_quiet (fail)
            go_upto_region 14 with fail
            go_quiet (fail)
            go_wp2_with fail
            go_ret
            exact ⟨by rw [HS.out]; rfl, keepF BW.out (Qt.below ⟨_, rfl⟩ _)⟩
          | some jj =>
            rw [hk] at hl
            simp only [hk, ne_eq, not_false_eq_true, and_self, if_true, reduceCtorEq] at HS
            simp only [lv, pt] at hl
            go_upto_region 8 with fail
            go_quiet (fail)
            go_wp2_with fail
            go_ret
            exact ⟨by rw [HS.out]; rfl, keepF BW.out (Qt.below ⟨_, rfl⟩ _)⟩
        · have d1 : (ak == 1) = false := by simpa using k1
          by_cases k3 : ak = 3
          · subst k3
            clear d1
            obtain ⟨ib, rfl, hib⟩ := oka.out.b4 rfl
            have hl := A2.out.lcell hib
            have hib' : (ib : Int) < 4 := by omega
            simp only [Int.toNat_natCast] at HS
            by_cases hs2 : t.sl = 2
            · rw [hs2] at c2'
              cases hk : S.lk ib with
              | none =>
                rw [hk] at hl
                simp only [hk, ne_eq, not_true_eq_false, and_false, if_false, Int.reduceEq, false_and, reduceIte] at HS
                simp only [lv] at hl
                go_upto_region 8 with fail
                go_quiet (fail)
                go_upto_region 10 with fail
                go_quiet (fail)
                go_upto_region 12 with fail
                go_quiet (fail)
                go_upto_region 14 with fail
                go_quiet (fail)
                go_wp2_with fail
                go_ret
                exact ⟨by rw [HS.out]; rfl, keepF BW.out (Qt.below ⟨_, rfl⟩ _)⟩
              | some jj =>
                rw [hk] at hl
                simp only [hk, hs2, ne_eq, not_false_eq_true, and_self, if_true, reduceCtorEq, Int.reduceEq, false_and, if_false] at HS
                simp only [lv, pt] at hl
                go_upto_region 8 with fail
                go_quiet (fail)
                go_upto_region 10 with fail
                go_quiet (fail)
                go_wp2_with fail
                go_ret
                exact ⟨by rw [HS.out]; rfl, keepF BW.out (Qt.below ⟨_, rfl⟩ _)⟩
            · have hs3 : ((t.sl : Int) == 2) = false := by simp; omega
              simp only [hs2, Int.reduceEq, false_and, and_false, if_false] at HS
              go_upto_region 8 with fail
              go_quiet (fail)
              go_upto_region 10 with fail
              go_quiet (fail)
              go_upto_region 12 with fail
              go_quiet (fail)
              go_upto_region 14 with fail
              go_quiet (fail)
              go_wp2_with fail
              go_ret
              exact ⟨by rw [HS.out]; rfl, keepF BW.out (Qt.below ⟨_, rfl⟩ _)⟩
          · have d3 : (ak == 3) = false := by simpa using k3
            by_cases k6 : ak = 6
            · subst k6
              clear d1 d3
              obtain ⟨ia, rfl, hia⟩ := oka.out.a4 (by simp)
              have hl := A2.out.qcell hia
              have hia' : (ia : Int) < 4 := by omega
              obtain ⟨qa, qc, hq⟩ := (A2.out.qu ia hia).form
              rw [hq, List.length_map] at hl
              simp only [Int.toNat_natCast] at HS
              obtain ⟨ql, hql⟩ : ∃ ql, Hid ((S.qu ia).length = ql) := ⟨_, rfl⟩
              simp only [hql.out] at hl HS
              by_cases hr : S.room ≤ ql
              · have hr' : (S.room : Int) ≤ (ql : Int) := by omega
                simp only [hr, and_self, if_true, Int.reduceEq, false_and, if_false] at HS
                go_upto_region 8 with fail
                go_quiet (fail)
                go_upto_region 10 with fail
                go_quiet (fail)
                go_upto_region 12 with fail
                go_quiet (fail)
                go_wp2_with fail
                go_ret
                exact ⟨by rw [HS.out]; rfl, keepF BW.out (Qt.below ⟨_, rfl⟩ _)⟩
              · have hr' : ¬ (S.room : Int) ≤ (ql : Int) := by omega
                simp only [hr, and_false, Int.reduceEq, false_and, if_false] at HS
                go_upto_region 8 with fail
                go_quiet (fail)
                go_upto_region 10 with fail
                go_quiet (fail)
                go_upto_region 12 with fail
                go_quiet (fail)
                go_upto_region 14 with fail
                go_quiet (fail)
                go_wp2_with fail
                go_ret
                exact ⟨by rw [HS.out]; rfl, keepF BW.out (Qt.below ⟨_, rfl⟩ _)⟩
            · have d6 : (ak == 6) = false := by simpa using k6
              by_cases k7 : ak = 7
              · subst k7
                clear d1 d3 d6
                obtain ⟨ia, rfl, hia⟩ := oka.out.a4 (by simp)
                have hl := A2.out.qcell hia
                have hia' : (ia : Int) < 4 := by omega
                obtain ⟨qa, qc, hq⟩ := (A2.out.qu ia hia).form
                rw [hq, List.length_map] at hl
                simp only [Int.toNat_natCast] at HS
                obtain ⟨ql, hql⟩ : ∃ ql, Hid ((S.qu ia).length = ql) := ⟨_, rfl⟩
                simp only [hql.out] at hl HS
                by_cases hr : ql = 0
                · subst hr
                  simp only [and_self, if_true, Int.reduceEq, false_and, if_false] at HS
                  go_upto_region 8 with fail
                  go_quiet (fail)
                  go_upto_region 10 with fail
                  go_quiet (fail)
                  go_upto_region 12 with fail
                  go_quiet (fail)
                  go_upto_region 14 with fail
                  go_quiet (fail)
                  go_wp2_with fail
                  go_ret
                  exact ⟨by rw [HS.out]; rfl, keepF BW.out (Qt.below ⟨_, rfl⟩ _)⟩
                · have hr' : ((ql : Int) == 0) = false := by simp; omega
                  simp only [hr, and_false, Int.reduceEq, false_and, if_false] at HS
                  go_upto_region 8 with fail
                  go_quiet (fail)
                  go_upto_region 10 with fail
                  go_quiet (fail)
                  go_upto_region 12 with fail
                  go_quiet (fail)
                  go_upto_region 14 with fail
                  go_quiet (fail)
                  go_wp2_with fail
                  go_ret
                  exact ⟨by rw [HS.out]; rfl, keepF BW.out (Qt.below ⟨_, rfl⟩ _)⟩
              · have d7 : (ak == 7) = false := by simpa using k7
                simp only [k1, k3, k6, k7, false_and, if_false] at HS
                go_upto_region 8 with fail
                go_quiet (fail)
                go_upto_region 10 with fail
                go_quiet (fail)
                go_upto_region 12 with fail
                go_quiet (fail)
                go_upto_region 14 with fail
                go_quiet (fail)
                go_wp2_with fail
                go_ret
                exact ⟨by rw [HS.out]; rfl, keepF BW.out (Qt.below ⟨_, rfl⟩ _)⟩
end Go.Proofs.YtiiinpmkidobgaaDoor.Sd

/-
  Who is ready.
-/
namespace Go.Proofs.YtiiinpmkidobgaaDoor.Sd
open Go.RowKit
set_option linter.unusedVariables false
set_option linter.unusedSimpArgs false
set_option maxRecDepth 100000
theorem infoI : (Tryd.prog.info? 3).map (fun i => (i.zero, i.size, i.bytes)) = some (some (.int .i64 0), 1, 8) := by kernel_rfl
/-- Numbers of one's own, from block B on. -/
def Nms (B : Nat) (w : World) (v : Value) (l : List Int) : Prop := w.ownsRow B 3 1 v l.length (l.map (Value.int .i64))
theorem Nms.nil (B : Nat) (w : World) : Nms B w (.slice none 0 0) [] := World.ownsRow_nil _ _ _ _
theorem Nms.but {X : Nat → Prop} {B : Nat} {w w' : World} {v : Value} {l : List Int} (h : Nms B w v l) (hb : But X w w') (hx : ∀ k, v.ownBlock = some k → ¬ X k) : Nms B w' v l := ownsRow_but h hb hx
theorem Nms.below {B : Nat} {w w' : World} {v : Value} {l : List Int} (h : Nms B w v l) (hb : Below w.heap.size w w') : Nms B w' v l := h.but (But.of_below hb fun _ => False) fun _ _ c => c
theorem Nms.lt {B : Nat} {w : World} {v : Value} {l : List Int} (h : Nms B w v l) : ∀ k, v.ownBlock = some k → B ≤ k ∧ k < w.heap.size := World.ownsRow.lt h
theorem Nms.form {B : Nat} {w : World} {v : Value} {l : List Int} (h : Nms B w v l) : ∃ ao ca, v = .slice ao l.length ca ∧ l.length ≤ ca ∧ ∀ i x, l[i]? = some x → ∃ g, ao = some ⟨g, 0, none⟩ ∧ w.cell? ⟨g, i, none⟩ = some (.int .i64 x) := by
  rcases h.2 with ⟨e, hz⟩ | ⟨g, cap, cur, rfl, hg, h1, h2, h3, h4, h5⟩
  · refine ⟨none, 0, by rw [hz]; exact e, by omega, fun i x hi => ?_⟩
    rw [List.length_eq_zero_iff.1 hz] at hi
    simp at hi
  · refine ⟨_, cap, rfl, h2, fun i x hi => ⟨g, rfl, ?_⟩⟩
    have hil := (List.getElem?_eq_some_iff.1 hi).1
    rw [cell_of h1, ← Array.getElem?_toList, ← List.getElem?_take_of_lt (j := l.length * 1) (by omega), h5, List.getElem?_map, hi]
    rfl
theorem run_appN {B : Nat} {w : World} {v : Value} {l : List Int} (t : Int) (gg : Nat) (h : Nms B w v l) (h0 : w.cell? ⟨gg, 0, none⟩ = some (.int .i64 t)) (hl : l.length ≤ 1000000) (hB : B ≤ w.heap.size) (ty : TypeId) :
    ∃ v' w', (Builtin.append_ #[23, 23] ty #[v, .slice (some ⟨gg, 0, none⟩) 1 1]).run Tryd.prog w = .ok v' w' ∧ Nms B w' v' (l ++ [t]) ∧ w.grownBy w' v.ownBlock ∧ (v'.ownBlock = v.ownBlock ∨ v'.ownBlock = some w.heap.size) := by
  obtain ⟨i0, hi, hz0, hz1, hz2⟩ := info_parts infoI
  have hcells : ∀ j u, ([.int .i64 t] : List Value)[j]? = some u → w.cell? ((⟨gg, 0, none⟩ : Addr).add j) = some u := by
    intro j u hu
    rw [addr_add]
    match j with
    | 0 => simp at hu; subst hu; exact h0
    | j + 1 => simp at hu
  obtain ⟨v', w', hr, ho, hg, _, hat⟩ := run_append_own_at (P := Tryd.prog) w B 23 ty 3 i0 (.int .i64 0) 1 8 Tryd.underlying23 hi hz0 hz1 hz2 rfl (by decide) v l.length (l.map (Value.int .i64)) h ⟨gg, 0, none⟩ 1 1 [.int .i64 t] rfl hcells (by
      intro u hu
      simp at hu
      rcases hu with rfl
      rfl) (by unfold maxLen; omega) (by omega) hB
  refine ⟨v', w', hr, ?_, hg, hat⟩
  unfold Nms
  rw [List.length_append, List.map_append]
  exact ho
theorem wpList_append_run {w : World} {ops : Array Oper} {rest : List Oper} {o : Oper} {a : Act} {Q : Exit → Act → World → Prop} (hgd : o.guard = none) (t : TypeId) (s x : Operand) {vs vx v' : Value} {w' : World}
    (ho : o.op = .call { callee := .builtin .append, args := #[s, x], argTypes := #[t, t] }) (hs : a.eval s = vs) (hx : a.eval x = vx)
    (hr : (Builtin.append_ #[t, t] o.type #[vs, vx]).run Tryd.prog w = .ok v' w') (h : wpList Tryd.prog ops Q rest (a.put o.dst v') w') : wpList Tryd.prog ops Q (o :: rest) a w := by
  refine wpList_plain hgd fun K hK => ?_
  exact Lib.wp_append_run _ s x t t ho vs vx hs hx v' w' hr (hK _ _ h)
def isR (S : St) (i : Nat) : Bool := match S.tk[i]? with
  | some t => decide (howS S t = 3)
  | none => false
def rdyI (S : St) (i : Nat) : List Nat := (List.range i).filter (isR S)
def rdy (S : St) : List Nat := rdyI S S.tk.length
theorem rdyI_succ (S : St) (i : Nat) : rdyI S (i + 1) = if isR S i = true then rdyI S i ++ [i] else rdyI S i := by
  unfold rdyI
  rw [List.range_succ, List.filter_append]
  simp only [List.filter_cons, List.filter_nil]
  split <;> simp
theorem rdyI_len (S : St) (i : Nat) : (rdyI S i).length ≤ i := by
  unfold rdyI
  exact Nat.le_trans (List.length_filter_le _ _) (by simp)
def ns (l : List Nat) : List Int := l.map fun (x : Nat) => (x : Int)
set_option maxHeartbeats 4000000 in
theorem ready_any (w0 w : World) (us : List Value) (rb : Nat) (X : V) (S : St) (h : At w0 us w rb X S) (ok : Ok S) :
    Calls Tryd.prog 31 #[.pointer (some ⟨rb, 0, none⟩)] w fun e w' => ∃ v, e = .returned v ∧ Nms w.heap.size w' v (ns (rdy S)) ∧ Below w.heap.size w w' := by
  have hn := ok.n
  obtain ⟨r0, -, -⟩ := h.rcell
  have H : Hid (At w0 us w rb X S ∧ Ok S) := ⟨h, ok⟩
  clear h ok
  obtain ⟨n, hnn⟩ : ∃ n, Hid (S.tk.length = n) := ⟨_, rfl⟩
  rw [hnn.out] at r0 hn
  have rdyE : Hid (rdyI S n = rdy S) := by show _ = _; unfold rdy; rw [hnn.out]
  go_enter Tryd.func31, Tryd.ntmps31
  go_wp2_with fail
  go_loopw [10, 3] (fun s v wr => ∃ i : Nat, s = .int .i64 (i : Int) ∧ i ≤ n ∧ Hid (Nms w.heap.size wr v (ns (rdyI S i)) ∧ Below w.heap.size w wr)) (fun s v wr => n - (intOf s).toNat)
  case atStart => exact ⟨0, rfl, Nat.zero_le _, Nms.nil _ _, Below.refl _ _⟩
  case round =>
    obtain ⟨i, rfl, hin, hst⟩ := hrel
    by_cases hlt : i < n
    · have i1 : (i : Int) < (n : Int) := by omega
      obtain ⟨t, ht⟩ : ∃ t, S.tk[i]? = some t := ⟨_, List.getElem?_eq_getElem (by rw [hnn.out]; exact hlt)⟩
      have A1 := H.out.1.below hst.out.2
      obtain ⟨r1, -, -⟩ := A1.rcell
      rw [hnn.out] at r1
      have HW := hide (how_any w0 wr us rb X S A1 H.out.2 ht)
      have hr : Hid (isR S i = decide (howS S t = 3)) := by show _ = _; unfold isR; rw [ht]
      have sx := rdyI_succ S i
      have ll := rdyI_len S i
      obtain ⟨ao, ca, e, -⟩ := hst.out.1.form
      rw [hr.out] at sx
      obtain ⟨hw, hhw⟩ : ∃ hw, Hid (howS S t = hw) := ⟨_, rfl⟩
      rw [hhw.out] at HW
      simp only [hhw.out] at sx
      replace ht := hide ht
      clear A1 r0
      subst e
      have hlen : Hid ((ns (rdyI S i)).length ≤ 16) := by show _ ≤ _; unfold ns; rw [List.length_map]; omega
      go_upto_region 5 with fail
      by_cases h3 : hw = 3
      · subst h3
        simp only [decide_true, if_true] at sx
        go_upto_region 6 with (go_at_call 41; refine HW.out.mono ?_; rintro e w2 ⟨rfl, b2⟩; replace b2 := hide b2)
        have AP : ∃ g7 n7 c7 w7, Hid ((Builtin.append_ #[23, 23] 23 #[.slice ao (ns (rdyI S i)).length ca, .slice (some ⟨w2.heap.size, 0, none⟩) 1 1]).run Tryd.prog (w2.alloc (.cells #[.int .i64 (i : Int)] 3)) = .ok (.slice g7 n7 c7) w7) ∧ Hid (Nms w.heap.size w7 (.slice g7 n7 c7) (ns (rdyI S (i + 1))) ∧ Below w.heap.size w w7) := by
          have b3 := keepF hst.out.2 b2.out
          have bb := box_below w2 (.cells #[.int .i64 (i : Int)] 3)
          have N6 : (w2.alloc (.cells #[.int .i64 (i : Int)] 3)).cell? ⟨w2.heap.size, 0, none⟩ = some (.int .i64 (i : Int)) := by rw [cell_of (heap_alloc_new w2 _)]; rfl
          obtain ⟨v7, w7, g1, g2, g3, g4⟩ := run_appN (i : Int) w2.heap.size ((hst.out.1.below b2.out).below bb) N6 (Nat.le_trans hlen.out (by decide)) (Nat.le_trans b3.size bb.size) 23
          obtain ⟨a7, c7, e7, -⟩ := g2.form
          subst e7
          rw [sx]
          have b4 := keepF b3 bb
          refine ⟨a7, _, c7, w7, g1, by unfold ns at g2 ⊢; rw [List.map_append]; exact g2, b4.grown g3 b4.size fun k hk => ?_⟩
          exact (hst.out.1.lt k hk).1
        obtain ⟨g7, n7, c7, w7, r7, NX⟩ := AP
        obtain ⟨nl, hnl⟩ : ∃ nl, Hid ((ns (rdyI S i)).length = nl) := ⟨_, rfl⟩
        simp only [hnl.out] at r7 ⊢
        clear sx hst b2
        go_wp2_with (at_builtin; refine wpList_append_run rfl 23 (.tmp 22) (.tmp 24) rfl rfl rfl r7.out ?_)
        go_roundw
        case rel => exact ⟨i + 1, by go_num, hlt, NX.out⟩
        case measure => simp only [intOf]; omega
      · have h3' : (hw == 3) = false := by simpa using h3
        simp only [h3, decide_false, Bool.false_eq_true, if_false] at sx
        go_wp2_with (go_at_call 41; refine HW.out.mono ?_; rintro e w2 ⟨rfl, b2⟩; replace b2 := hide b2)
        go_roundw
        case rel => exact ⟨i + 1, by go_num, hlt, by rw [sx]; exact hst.out.1.below b2.out, keepF hst.out.2 b2.out⟩
        case measure => simp only [intOf]; omega
    · obtain rfl : i = n := by omega
      have i1 : ¬ (i : Int) < (i : Int) := by omega
      rw [rdyE.out] at hst
      go_wp2_with fail
      go_ret
      exact ⟨_, rfl, hst.out.1, hst.out.2⟩
end Go.Proofs.YtiiinpmkidobgaaDoor.Sd

/-
  A list of a run is turned.
-/
namespace Go.Proofs.YtiiinpmkidobgaaDoor.Sd
open Go.RowKit
set_option linter.unusedVariables false
set_option linter.unusedSimpArgs false
set_option maxRecDepth 100000
theorem dis_up {f : Nat → Option Nat} (hd : ∀ i j k, f i = some k → f j = some k → i = j) {m : Nat} {o : Option Nat} {N : Nat} (hlt : ∀ i k, f i = some k → k < N) (ho : ∀ k, o = some k → f m = some k ∨ N ≤ k) : ∀ i j k, up f m o i = some k → up f m o j = some k → i = j := by
  intro i j k hi hj
  unfold up at hi hj
  split at hi <;> split at hj
  · next a b => rw [a, b]
  · next a b =>
    rcases ho k hi with e | e
    · exact a.trans (hd m j k e hj)
    · have := hlt j k hj; omega
  · next a b =>
    rcases ho k hj with e | e
    · exact (hd i m k hi e).trans b.symm
    · have := hlt i k hi; omega
  · exact hd i j k hi hj
theorem bl_up_s (rb : Nat) (X : V) {i : Nat} (hi : i < 4) (v : Value) : bl rb { X with s := up X.s i v } = up (bl rb X) (i + 3) v.ownBlock := by
  funext m
  match m with
  | 0 => rw [up_other _ _ (by omega)]; rfl
  | 1 => rw [up_other _ _ (by omega)]; rfl
  | 2 => rw [up_other _ _ (by omega)]; rfl
  | n + 3 =>
    by_cases e : n = i
    · subst e; rw [up_same]; simp [bl, hi]
    · rw [up_other _ _ (by omega)]
      simp only [bl]
      rw [up_other _ _ e]
theorem bl_up_q (rb : Nat) (X : V) {i : Nat} (hi : i < 4) (v : Value) : bl rb { X with q := up X.q i v } = up (bl rb X) (i + 4 + 3) v.ownBlock := by
  funext m
  match m with
  | 0 => rw [up_other _ _ (by omega)]; rfl
  | 1 => rw [up_other _ _ (by omega)]; rfl
  | 2 => rw [up_other _ _ (by omega)]; rfl
  | n + 3 =>
    by_cases e : n = i + 4
    · subst e; rw [up_same, bl_q _ _ hi]; simp
    · rw [up_other _ _ (by omega)]
      simp only [bl]
      split
      · rfl
      · split
        · rw [up_other _ _ (by omega)]
        · rfl
theorem bl_up_t (rb : Nat) (X : V) (v : Value) : bl rb { X with t := v } = up (bl rb X) 2 v.ownBlock := by
  funext m
  match m with
  | 0 => rw [up_other _ _ (by omega)]; rfl
  | 1 => rw [up_other _ _ (by omega)]; rfl
  | 2 => rw [up_same]; rfl
  | n + 3 => rw [up_other _ _ (by omega)]; rfl
section
variable {w0 w w1 : World} {us : List Value} {rb : Nat} {X : V} {S : St}
theorem RC.setS {cs : Array Value} (c : RC cs S X) {i : Nat} (hi : i < 4) (v : Value) (l : Nat → List Nat) : RC (cs.setIfInBounds (6 + i) v) { S with sl := l } { X with s := up X.s i v } := by
  have hs := c.size
  refine ⟨by simpa using hs, by rw [Array.getElem?_setIfInBounds_ne (by omega)]; exact c.tasks, by rw [Array.getElem?_setIfInBounds_ne (by omega)]; exact c.room, fun j hj => by rw [Array.getElem?_setIfInBounds_ne (by omega)]; exact c.lk j hj, fun j hj => ?_, fun j hj => by rw [Array.getElem?_setIfInBounds_ne (by omega)]; exact c.qu j hj, fun j hj => by rw [Array.getElem?_setIfInBounds_ne (by omega)]; exact c.rg j hj, by rw [Array.getElem?_setIfInBounds_ne (by omega)]; exact c.tr⟩
  by_cases e : j = i
  · subst e; rw [Array.getElem?_setIfInBounds_self_of_lt (by omega)]; simp
  · rw [Array.getElem?_setIfInBounds_ne (by omega), c.sl j hj]; simp [up, e]
theorem RC.setQ {cs : Array Value} (c : RC cs S X) {i : Nat} (hi : i < 4) (v : Value) (l : Nat → List Int) : RC (cs.setIfInBounds (10 + i) v) { S with qu := l } { X with q := up X.q i v } := by
  have hs := c.size
  refine ⟨by simpa using hs, by rw [Array.getElem?_setIfInBounds_ne (by omega)]; exact c.tasks, by rw [Array.getElem?_setIfInBounds_ne (by omega)]; exact c.room, fun j hj => by rw [Array.getElem?_setIfInBounds_ne (by omega)]; exact c.lk j hj, fun j hj => by rw [Array.getElem?_setIfInBounds_ne (by omega)]; exact c.sl j hj, fun j hj => ?_, fun j hj => by rw [Array.getElem?_setIfInBounds_ne (by omega)]; exact c.rg j hj, by rw [Array.getElem?_setIfInBounds_ne (by omega)]; exact c.tr⟩
  by_cases e : j = i
  · subst e; rw [Array.getElem?_setIfInBounds_self_of_lt (by omega)]; simp
  · rw [Array.getElem?_setIfInBounds_ne (by omega), c.qu j hj]; simp [up, e]
theorem RC.setTr {cs : Array Value} (c : RC cs S X) (v : Value) (l : List (Nat × Nat)) : RC (cs.setIfInBounds 22 v) { S with tr := l } { X with t := v } := by
  have hs := c.size
  exact ⟨by simpa using hs, by rw [Array.getElem?_setIfInBounds_ne (by omega)]; exact c.tasks, by rw [Array.getElem?_setIfInBounds_ne (by omega)]; exact c.room, fun j hj => by rw [Array.getElem?_setIfInBounds_ne (by omega)]; exact c.lk j hj, fun j hj => by rw [Array.getElem?_setIfInBounds_ne (by omega)]; exact c.sl j hj, fun j hj => by rw [Array.getElem?_setIfInBounds_ne (by omega)]; exact c.qu j hj, fun j hj => by rw [Array.getElem?_setIfInBounds_ne (by omega)]; exact c.rg j hj, by rw [Array.getElem?_setIfInBounds_self_of_lt (by omega)]⟩
theorem stp_of {m j : Nat} {v' : Value} {X' : V} (h : At w0 us w rb X S) (hb : bl rb X' = up (bl rb X) m v'.ownBlock) (hg : But (fun k => bl rb X m = some k) w w1) (ho : ∀ k, v'.ownBlock = some k → bl rb X m = some k ∨ w.heap.size ≤ k) (v : Value) : Stp rb X X' w (w1.setCell ⟨rb, j, none⟩ v) := by
  refine ⟨(hg.mono fun k _ e => ⟨m, e⟩).trans (But.set _ _ _ _ ⟨0, rfl⟩), ?_⟩
  rintro k ⟨i, hi⟩
  rw [hb] at hi
  unfold up at hi
  split at hi
  · rcases ho k hi with e | e
    · exact .inl ⟨m, e⟩
    · exact .inr e
  · exact .inl ⟨i, hi⟩
/-- One of its lists is another one. -/
theorem At.list {m j : Nat} {v' : Value} {X' : V} {S' : St} (h : At w0 us w rb X S) (hm : m ≠ 0) (hm1 : m ≠ 1) (hb : bl rb X' = up (bl rb X) m v'.ownBlock) (htb : X'.tb = X.tb) (hg : But (fun k => bl rb X m = some k) w w1) (ho : ∀ k, v'.ownBlock = some k → bl rb X m = some k ∨ w.heap.size ≤ k)
    (htk : S'.tk = S.tk) (hr : ∀ cs, RC cs S X → RC (cs.setIfInBounds j v') S' X')
    (h1 : ∀ i, i < 4 → Sld (w1.setCell ⟨rb, j, none⟩ v') 85 (X'.s i) ((S'.sl i).map (pt X.tb)))
    (h2 : ∀ i, i < 4 → Sld (w1.setCell ⟨rb, j, none⟩ v') 2 (X'.q i) ((S'.qu i).map (Value.int .i64)))
    (h3 : (w1.setCell ⟨rb, j, none⟩ v').ownsRow w0.heap.size 39 2 X'.t S'.tr.length (tcells S'.tr)) : At w0 us (w1.setCell ⟨rb, j, none⟩ v') rb X' S' := by
  obtain ⟨cs, c1, c2⟩ := h.cs
  obtain ⟨ts, t1, t2⟩ := h.ts
  have hb2 : But (fun k => k = rb) w1 (w1.setCell ⟨rb, j, none⟩ v') := But.set _ _ _ _ rfl
  have e0 : w1.heap[rb]? = some (.cells cs 90 (0, 0)) := hg.at c1 fun e => hm (h.dis m 0 rb e rfl)
  have e1 : w1.heap[X.tb]? = some (.cells ts 93 (0, 0)) := hg.at t1 fun e => hm1 (h.dis m 1 X.tb e rfl)
  have ne : X.tb ≠ rb := fun e => by have := h.dis 1 0 rb (by rw [← e]; rfl) rfl; omega
  have hlo : ∀ k, bl rb X m = some k → w0.heap.size ≤ k := fun k hk => h.lo m k hk
  have low : Below w0.heap.size w0 w1 := h.low.trans (hg.below h.low.size hlo)
  refine ⟨⟨_, heap_setCell_same _ _ _ _ _ _ e0, hr cs c2⟩, ⟨ts, by rw [htb]; exact hb2.at e1 ne, by rw [htk]; exact t2⟩, fun i hi => by rw [htb]; exact h1 i hi, h2, h3, ?_, ?_, low.trans (hb2.below low.size fun k e => by rw [e]; exact h.lo 0 rb rfl), by rw [htk]; exact h.ac⟩
  · rw [hb]
    exact dis_up h.dis (fun i k hk => h.lt k ⟨i, hk⟩) ho
  · rw [hb]
    intro i k hk
    unfold up at hk
    split at hk
    · rcases ho k hk with e | e
      · exact h.lo m k e
      · exact Nat.le_trans h.low.size e
    · exact h.lo i k hk
theorem sld_keep {m j : Nat} {v' v : Value} {T : TypeId} {xs : List Value} (h : At w0 us w rb X S) (hg : But (fun k => bl rb X m = some k) w w1) {i : Nat} (hi : bl rb X i = v.ownBlock) (hne : i ≠ m) (hn0 : i ≠ 0) (hs : Sld w T v xs) : Sld (w1.setCell ⟨rb, j, none⟩ v') T v xs := by
  refine (hs.but hg fun k hk e => hne (h.dis i m k (hi.trans hk) e)).but (But.set (X := fun k => k = rb) _ _ _ _ rfl) fun k hk e => hn0 (h.dis i 0 k (hi.trans hk) (by rw [e]; rfl))
theorem sld_new {m j : Nat} {v' : Value} {T : TypeId} {xs : List Value} (h : At w0 us w rb X S) (hm : m ≠ 0) (ho : ∀ k, v'.ownBlock = some k → bl rb X m = some k ∨ w.heap.size ≤ k) (hs : Sld w1 T v' xs) : Sld (w1.setCell ⟨rb, j, none⟩ v') T v' xs := by
  refine hs.but (But.set (X := fun k => k = rb) _ _ _ _ rfl) fun k hk e => ?_
  rcases ho k hk with c | c
  · exact hm (h.dis m 0 k c (by rw [e]; rfl))
  · have := h.lt rb ⟨0, rfl⟩; omega
theorem tr_keep {m j : Nat} {v' : Value} {B : Nat} {T : TypeId} {sz n : Nat} {xs : List Value} (h : At w0 us w rb X S) (hg : But (fun k => bl rb X m = some k) w w1) (hm : m ≠ 2) (hs : w.ownsRow B T sz X.t n xs) : (w1.setCell ⟨rb, j, none⟩ v').ownsRow B T sz X.t n xs := by
  refine ownsRow_but (ownsRow_but hs hg fun k hk e => hm (h.dis m 2 k e hk)) (But.set (X := fun k => k = rb) _ _ _ _ rfl) fun k hk e => ?_
  have := h.dis 2 0 k hk (by rw [e]; rfl)
  omega
theorem At.turnS (h : At w0 us w rb X S) {i : Nat} (hi : i < 4) {v' : Value} {l' : List Nat} (hg : w.grownBy w1 (X.s i).ownBlock) (hs : Sld w1 85 v' (l'.map (pt X.tb))) (ho : ∀ k, v'.ownBlock = some k → (X.s i).ownBlock = some k ∨ w.heap.size ≤ k) :
    At w0 us (w1.setCell ⟨rb, 6 + i, none⟩ v') rb { X with s := up X.s i v' } { S with sl := up S.sl i l' } ∧ Stp rb X { X with s := up X.s i v' } w (w1.setCell ⟨rb, 6 + i, none⟩ v') ∧ w1.cell? ⟨rb, 6 + i, none⟩ = some (X.s i) ∧ w1.frozen? ⟨rb, 6 + i, none⟩ = false := by
  have hb := bl_s rb X hi
  have hg' : But (fun k => bl rb X (i + 3) = some k) w w1 := But.of_grownBy hg fun k e => hb.trans e
  have ho' : ∀ k, v'.ownBlock = some k → bl rb X (i + 3) = some k ∨ w.heap.size ≤ k := fun k hk => (ho k hk).imp (fun e => hb.trans e) id
  have hrb : w1.heap[rb]? = w.heap[rb]? := hg'.block rb (h.lt rb ⟨0, rfl⟩) fun e => by have := h.dis (i + 3) 0 rb e rfl; omega
  refine ⟨h.list (by omega) (by omega) (bl_up_s rb X hi v') rfl hg' ho' rfl (fun cs c => c.setS hi v' _) (fun j hj => ?_) (fun j hj => ?_) ?_, stp_of h (bl_up_s rb X hi v') hg' ho' v', (World.cell?_of_block hrb).trans (h.scell hi), (World.frozen?_of_block hrb).trans (h.frz _)⟩
  · by_cases e : j = i
    · subst e
      simp only [up_same]
      exact sld_new h (m := j + 3) (by omega) ho' hs
    · simp only [up_other _ _ e]
      exact sld_keep h hg' (bl_s rb X hj) (by omega) (by omega) (h.sl j hj)
  · exact sld_keep h hg' (bl_q rb X hj) (by omega) (by omega) (h.qu j hj)
  · exact tr_keep (X := X) (S := S) h hg' (by omega) h.tr
theorem At.turnQ (h : At w0 us w rb X S) {i : Nat} (hi : i < 4) {v' : Value} {l' : List Int} (hg : w.grownBy w1 (X.q i).ownBlock) (hs : Sld w1 2 v' (l'.map (Value.int .i64))) (ho : ∀ k, v'.ownBlock = some k → (X.q i).ownBlock = some k ∨ w.heap.size ≤ k) :
    At w0 us (w1.setCell ⟨rb, 10 + i, none⟩ v') rb { X with q := up X.q i v' } { S with qu := up S.qu i l' } ∧ Stp rb X { X with q := up X.q i v' } w (w1.setCell ⟨rb, 10 + i, none⟩ v') ∧ w1.cell? ⟨rb, 10 + i, none⟩ = some (X.q i) ∧ w1.frozen? ⟨rb, 10 + i, none⟩ = false := by
  have hb := bl_q rb X hi
  have hg' : But (fun k => bl rb X (i + 4 + 3) = some k) w w1 := But.of_grownBy hg fun k e => hb.trans e
  have ho' : ∀ k, v'.ownBlock = some k → bl rb X (i + 4 + 3) = some k ∨ w.heap.size ≤ k := fun k hk => (ho k hk).imp (fun e => hb.trans e) id
  have hrb : w1.heap[rb]? = w.heap[rb]? := hg'.block rb (h.lt rb ⟨0, rfl⟩) fun e => by have := h.dis (i + 4 + 3) 0 rb e rfl; omega
  refine ⟨h.list (by omega) (by omega) (bl_up_q rb X hi v') rfl hg' ho' rfl (fun cs c => c.setQ hi v' _) (fun j hj => ?_) (fun j hj => ?_) ?_, stp_of h (bl_up_q rb X hi v') hg' ho' v', (World.cell?_of_block hrb).trans (h.qcell hi), (World.frozen?_of_block hrb).trans (h.frz _)⟩
  · exact sld_keep h hg' (bl_s rb X hj) (by omega) (by omega) (h.sl j hj)
  · by_cases e : j = i
    · subst e
      simp only [up_same]
      exact sld_new h (m := j + 4 + 3) (by omega) ho' hs
    · simp only [up_other _ _ e]
      exact sld_keep h hg' (bl_q rb X hj) (by omega) (by omega) (h.qu j hj)
  · exact tr_keep (X := X) (S := S) h hg' (by omega) h.tr
theorem At.turnT (h : At w0 us w rb X S) {v' : Value} {l' : List (Nat × Nat)} (hg : w.grownBy w1 X.t.ownBlock) (hs : w1.ownsRow w0.heap.size 39 2 v' l'.length (tcells l')) (ho : ∀ k, v'.ownBlock = some k → X.t.ownBlock = some k ∨ w.heap.size ≤ k) :
    At w0 us (w1.setCell ⟨rb, 22, none⟩ v') rb { X with t := v' } { S with tr := l' } ∧ Stp rb X { X with t := v' } w (w1.setCell ⟨rb, 22, none⟩ v') ∧ w1.cell? ⟨rb, 22, none⟩ = some X.t ∧ w1.frozen? ⟨rb, 22, none⟩ = false := by
  have hg' : But (fun k => bl rb X 2 = some k) w w1 := But.of_grownBy hg fun k e => e
  have hrb : w1.heap[rb]? = w.heap[rb]? := hg'.block rb (h.lt rb ⟨0, rfl⟩) fun e => by have := h.dis 2 0 rb e rfl; omega
  refine ⟨h.list (by omega) (by omega) (bl_up_t rb X v') rfl hg' ho rfl (fun cs c => c.setTr v' _) (fun j hj => ?_) (fun j hj => ?_) ?_, stp_of h (bl_up_t rb X v') hg' ho v', (World.cell?_of_block hrb).trans h.rcell.2.2, (World.frozen?_of_block hrb).trans (h.frz _)⟩
  · exact sld_keep h hg' (bl_s rb X hj) (by omega) (by omega) (h.sl j hj)
  · exact sld_keep h hg' (bl_q rb X hj) (by omega) (by omega) (h.qu j hj)
  · refine ownsRow_but hs (But.set (X := fun k => k = rb) _ _ _ _ rfl) fun k hk e => ?_
    rcases ho k hk with c | c
    · have := h.dis 2 0 k c (by rw [e]; rfl); omega
    · have := h.lt rb ⟨0, rfl⟩; omega
theorem stp_set (h : At w0 us w rb X S) (j : Nat) (v : Value) : Stp rb X X w (w.setCell ⟨rb, j, none⟩ v) := ⟨But.set _ _ _ _ ⟨0, rfl⟩, fun k hk => .inl hk⟩
theorem stp_setT (h : At w0 us w rb X S) (j : Nat) (v : Value) : Stp rb X X w (w.setCell ⟨X.tb, j, none⟩ v) := ⟨But.set _ _ _ _ ⟨1, rfl⟩, fun k hk => .inl hk⟩
theorem Stp.refl (rb : Nat) (X : V) (w : World) : Stp rb X X w w := ⟨But.refl _ _, fun k hk => .inl hk⟩
theorem Stp.of_below {w w' : World} (rb : Nat) (X : V) (h : Below w.heap.size w w') : Stp rb X X w w' := ⟨But.of_below h _, fun k hk => .inl hk⟩
end
end Go.Proofs.YtiiinpmkidobgaaDoor.Sd

/-
  A lock is let go; a task falls asleep; those that sleep are woken.
-/
namespace Go.Proofs.YtiiinpmkidobgaaDoor.Sd
open Go.RowKit
open Ix (wp_region_T wpAnyT wpAnyT_take wpAnyT_one wpAnyT_done vac)
set_option linter.unusedVariables false
set_option linter.unusedSimpArgs false
set_option maxRecDepth 100000
def thr (n : Int) : List PanicEntry := [{ v := .iface 102 (.int .i64 n), recovered := false }]
theorem ptrT : ∃ i, Tryd.prog.info? 93 = some i ∧ i.size = 7 := by
  have h : (Tryd.prog.info? 93).map (·.size) = some 7 := by kernel_rfl
  cases e : Tryd.prog.info? 93 with
  | none => rw [e] at h; cases h
  | some i => rw [e] at h; exact ⟨i, rfl, by simpa using h⟩
theorem eqIn (d tb i j : Nat) (w : World) : (Op.equalIn (d + 1) 85 (.pointer (some ⟨tb, j * 7, none⟩)) (.pointer (some ⟨tb, i * 7, none⟩))).run Tryd.prog w = .ok (decide (j = i)) w := by
  obtain ⟨i0, h1, h2⟩ := ptrT
  have hu : Tryd.prog.underlying 85 = some (.pointer 93) := by kernel_rfl
  by_cases h : j = i
  · simp [Op.equalIn, run_underlying hu, sizeOf, typeInfo, h1, h2, sameAddr, h]
  · have h' : ¬ j * 7 = i * 7 := by omega
    simp [Op.equalIn, run_underlying hu, sizeOf, typeInfo, h1, h2, sameAddr, h, h']
theorem neq_ptr (tb i j : Nat) (w : World) : (binOp .neq 85 (.pointer (some ⟨tb, j * 7, none⟩)) (.pointer (some ⟨tb, i * 7, none⟩))).run Tryd.prog w = .ok (.bool (!decide (j = i))) w := by
  have h : (Op.equal 85 (.pointer (some ⟨tb, j * 7, none⟩)) (.pointer (some ⟨tb, i * 7, none⟩))).run Tryd.prog w = .ok (decide (j = i)) w := eqIn 9999 tb i j w
  simp only [binOp]
  simp [h]
theorem neq_nil (b : Addr) (w : World) : (binOp .neq 85 (.pointer none) (.pointer (some b))).run Tryd.prog w = .ok (.bool true) w := by kernel_rfl
theorem letGo_ok (w0 w : World) (us : List Value) (rb : Nat) (X : V) (S : St) (h : At w0 us w rb X S) {i a : Nat} (ha : a < 4) (hl : S.lk a = some i) :
    Calls Tryd.prog 47 #[.pointer (some ⟨rb, 0, none⟩), .pointer (some ⟨X.tb, i * 7, none⟩), .int .i64 (a : Int)] w fun e w' => e = .returned (.tuple #[]) ∧ At w0 us w' rb X { S with lk := up S.lk a none } ∧ Stp rb X X w w' := by
  have c := h.lcell ha
  have z := h.frz (2 + a)
  have ha' : (a : Int) < 4 := by omega
  have FIN : Hid (At w0 us (w.setCell ⟨rb, 2 + a, none⟩ (.pointer none)) rb X { S with lk := up S.lk a none } ∧ Stp rb X X w (w.setCell ⟨rb, 2 + a, none⟩ (.pointer none))) := ⟨h.setL ha none, stp_set h _ _⟩
  rw [hl] at c
  simp only [lv, pt] at c
  have hq : ∀ u : World, (binOp .neq 85 (.pointer (some ⟨X.tb, i * 7, none⟩)) (.pointer (some ⟨X.tb, i * 7, none⟩))).run Tryd.prog u = .ok (.bool false) u := fun u => by rw [neq_ptr]; simp
  clear h
  go_enter Tryd.func47, Tryd.ntmps47
  go_wp2_with fail
  go_end0
  exact ⟨rfl, FIN.out⟩
theorem letGo_no (w0 w : World) (us : List Value) (rb : Nat) (X : V) (S : St) (h : At w0 us w rb X S) {i a : Nat} (ha : a < 4) (hl : S.lk a ≠ some i) :
    Calls Tryd.prog 47 #[.pointer (some ⟨rb, 0, none⟩), .pointer (some ⟨X.tb, i * 7, none⟩), .int .i64 (a : Int)] w fun e w' => e = .panicked (thr (-1)) ∧ w' = w := by
  have c := h.lcell ha
  have ha' : (a : Int) < 4 := by omega
  clear h
  cases hk : S.lk a with
  | none =>
    rw [hk] at c
    simp only [lv] at c
    have hq := neq_nil ⟨X.tb, i * 7, none⟩
    go_enter Tryd.func47, Tryd.ntmps47
    go_wp2_with fail
    exact ⟨rfl, rfl, rfl⟩
  | some j =>
    rw [hk] at c
    simp only [lv, pt] at c
    have hji : ¬ j = i := fun e => hl (by rw [hk, e])
    have hq : ∀ u : World, (binOp .neq 85 (.pointer (some ⟨X.tb, j * 7, none⟩)) (.pointer (some ⟨X.tb, i * 7, none⟩))).run Tryd.prog u = .ok (.bool true) u := fun u => by rw [neq_ptr]; simp [hji]
    go_enter Tryd.func47, Tryd.ntmps47
    go_wp2_with fail
    exact ⟨rfl, rfl, rfl⟩
theorem infoP : (Tryd.prog.info? 85).map (fun i => (i.zero, i.size, i.bytes)) = some (some (.pointer none), 1, 8) := by kernel_rfl
theorem infoN : (Tryd.prog.info? 2).map (fun i => (i.zero, i.size, i.bytes)) = some (some (.int .i64 0), 1, 8) := by kernel_rfl
theorem four_of {x : World} {b : Nat} {a c d e : Value} {T : TypeId} (h : x.heap[b]? = some (.cells #[a, c, d, e] T)) : x.cell? ⟨b, 0, none⟩ = some a ∧ x.cell? ⟨b, 1, none⟩ = some c ∧ x.cell? ⟨b, 2, none⟩ = some d ∧ x.cell? ⟨b, 3, none⟩ = some e := by
  simp [World.cell?, h]
set_option maxHeartbeats 4000000 in
theorem fall_ok (w0 w : World) (us : List Value) (rb : Nat) (X : V) (S0 : St) (h : At w0 us w rb X S0) (ok : Ok S0) {i ia ib : Nat} {t : Tk} (hi : S0.tk[i]? = some t) (ak an : Int) (hia : ia < 4) (hib : ib < 4) (hl : S0.lk ib = some i) :
    Calls Tryd.prog 48 #[.pointer (some ⟨rb, 0, none⟩), .pointer (some ⟨X.tb, i * 7, none⟩), .agg #[.int .i64 ak, .int .i64 (ia : Int), .int .i64 (ib : Int), .int .i64 an]] w fun e w' => e = .returned (.tuple #[]) ∧ ∃ X', X'.tb = X.tb ∧ At w0 us w' rb X' { S0 with lk := up S0.lk ib none, tk := S0.tk.set i { t with sl := 1 }, sl := up S0.sl ia (S0.sl ia ++ [i]) } ∧ Stp rb X X' w w' := by
  have hsn0 : (S0.sl ia).length ≤ 1000000 := Nat.le_trans (ok.sn ia) (Nat.le_trans ok.tr (by decide))
  have hia' : (ia : Int) < 4 := by omega
  have B1 := box_below w (.cells #[.int .i64 ak, .int .i64 (ia : Int), .int .i64 (ib : Int), .int .i64 an] 45)
  have N1 := heap_alloc_new w (.cells #[.int .i64 ak, .int .i64 (ia : Int), .int .i64 (ib : Int), .int .i64 an] 45)
  obtain ⟨w1, hw1⟩ : ∃ w1, Hid (w.alloc (.cells #[.int .i64 ak, .int .i64 (ia : Int), .int .i64 (ib : Int), .int .i64 an] 45) = w1) := ⟨_, rfl⟩
  rw [hw1.out] at B1 N1
  obtain ⟨xb, hxb⟩ : ∃ xb, Hid (w.heap.size = xb) := ⟨_, rfl⟩
  have hxo : Hid (¬ Own rb X xb) := fun c => by have := h.lt xb c; have := hxb.out; omega
  rw [hxb.out] at N1
  have A1 := h.below B1
  have S1 : Hid (Stp rb X X w w1) := Stp.of_below rb X B1
  have LG := hide (letGo_ok w0 w1 us rb X S0 A1 hib hl)
  obtain ⟨-, x1, x2, -⟩ := four_of N1
  have BX1 := hide N1
  obtain ⟨ab, hab⟩ : ∃ ab : Int, Hid ((ib : Int) = ab) := ⟨_, rfl⟩
  rw [hab.out] at x2 BX1
  clear A1 B1 N1 h
  have hiH := hide hi
  go_enter Tryd.func48, Tryd.ntmps48
  go_upto_region 1 with fail
  rw [hw1.out, hxb.out]
  rw [← hab.out] at x2
  go_upto_region 2 with (go_at_call 47; refine LG.out.mono ?_; rintro e w2 ⟨rfl, A2, S2⟩)
  have c2 := (A2.tcell hiH.out).2.2.1
  have z2 := A2.frzT (i * 7 + 2)
  have A5 := hide (A2.setT (t' := { t with sl := 1 }) hiH.out 1 (by decide) (.int .i64 1) rfl rfl)
  have S5 : Hid (Stp rb X X w (w2.setCell ⟨X.tb, i * 7 + 2, none⟩ (.int .i64 1))) := (S1.out.trans S2).trans (stp_setT A2 _ _)
  have BX5 : Hid ((w2.setCell ⟨X.tb, i * 7 + 2, none⟩ (.int .i64 1)).heap[xb]? = some (.cells #[.int .i64 ak, .int .i64 (ia : Int), .int .i64 ab, .int .i64 an] 45)) := (S2.trans (stp_setT A2 _ _)).1.at BX1.out hxo.out
  clear A2 S2 S1 LG BX1 hw1
  go_upto_region 3 with fail
  generalize w2.setCell ⟨X.tb, i * 7 + 2, none⟩ (.int .i64 1) = w5 at *
  clear c2 z2 x1 x2
  generalize hS : ({ S0 with lk := up S0.lk ib none, tk := S0.tk.set i { t with sl := 1 } } : St) = S at *
  have hsn : (S.sl ia).length ≤ 1000000 := by rw [← hS]; exact hsn0
  have FS : Hid (({ S0 with lk := up S0.lk ib none, tk := S0.tk.set i { t with sl := 1 }, sl := up S0.sl ia (S0.sl ia ++ [i]) } : St) = { S with sl := up S.sl ia (S.sl ia ++ [i]) }) := by show _ = _; rw [← hS]
  clear hsn0 hS hl hi hiH hxb
  obtain ⟨cs, c1, c2⟩ := A5.out.cs
  refine wp_region_T (fun q => q.heap[xb]? = some (.cells #[.int .i64 ak, .int .i64 (ia : Int), .int .i64 ab, .int .i64 an] 45) ∧ q.heap[rb]? = some (.cells cs 90 (0, 0))) 16 (by kernel_rfl) ?_
  have bq : Below w5.heap.size w5 w5.drew := (Below.refl _ _).drew
  have KP : Hid (w5.drew.heap[xb]? = some (.cells #[.int .i64 ak, .int .i64 (ia : Int), .int .i64 ab, .int .i64 an] 45) ∧ w5.drew.heap[rb]? = some (.cells cs 90 (0, 0))) := ⟨BX5.out, c1⟩
  have AD := hide (A5.out.below bq)
  have SD : Hid (Stp rb X X w5 w5.drew) := Stp.of_below rb X bq
  clear bq c1
  generalize w5.drew = q at *
  refine wpAnyT_take (i := 0) (oi := { dst := some 14, op := Op.move (Operand.tmp 0), type := 68, pos := "task.go:109", after := #[], guard := none }) (v := .pointer (some ⟨rb, 0, none⟩)) [13, 14, 15, 16] rfl (by kernel_rfl) (by kernel_rfl) (by kernel_rfl) (by kernel_rfl) (fun _ _ _ h => h) (Or.inl ⟨by rfl, ?_⟩) KP.out ?_
  · intro wq hSw
    obtain ⟨y0, y1, y2, y3⟩ := four_of hSw.1
    have y4 := (cell_of hSw.2).trans (c2.sl ia hia)
    go_simp
  (try simp only [Act.put, List.setIfInBounds_toArray, List.set_cons_zero, List.set_cons_succ])
  refine wpAnyT_take (i := 1) (oi := { dst := some 15, op := Op.fieldAddr 45 (Operand.tmp 5) 1, type := 0, pos := "task.go:109", after := #[], guard := none }) (v := .pointer (some ⟨xb, 1, none⟩)) [2, 15, 16] rfl (by kernel_rfl) (by kernel_rfl) (by kernel_rfl) (by kernel_rfl) (fun _ _ _ h => h) (Or.inl ⟨by rfl, ?_⟩) KP.out ?_
  · intro wq hSw
    obtain ⟨y0, y1, y2, y3⟩ := four_of hSw.1
    have y4 := (cell_of hSw.2).trans (c2.sl ia hia)
    go_simp
  (try simp only [Act.put, List.setIfInBounds_toArray, List.set_cons_zero, List.set_cons_succ])
  refine wpAnyT_take (i := 2) (oi := { dst := some 16, op := Op.load 3 (Operand.tmp 15), type := 3, pos := "task.go:109", after := #[{ on := 1, ground := Ground.data }], guard := none }) (v := .int .i64 (ia : Int)) [15, 16] rfl (by kernel_rfl) (by kernel_rfl) (by kernel_rfl) (by kernel_rfl) (fun _ _ _ h => h) (Or.inl ⟨by rfl, ?_⟩) KP.out ?_
  · intro wq hSw
    obtain ⟨y0, y1, y2, y3⟩ := four_of hSw.1
    have y4 := (cell_of hSw.2).trans (c2.sl ia hia)
    go_simp
  (try simp only [Act.put, List.setIfInBounds_toArray, List.set_cons_zero, List.set_cons_succ])
  refine wpAnyT_take (i := 3) (oi := { dst := some 17, op := Op.move (Operand.tmp 0), type := 68, pos := "task.go:109", after := #[], guard := none }) (v := .pointer (some ⟨rb, 0, none⟩)) [6, 7, 8, 9, 12, 16] rfl (by kernel_rfl) (by kernel_rfl) (by kernel_rfl) (by kernel_rfl) (fun _ _ _ h => h) (Or.inl ⟨by rfl, ?_⟩) KP.out ?_
  · intro wq hSw
    obtain ⟨y0, y1, y2, y3⟩ := four_of hSw.1
    have y4 := (cell_of hSw.2).trans (c2.sl ia hia)
    go_simp
  (try simp only [Act.put, List.setIfInBounds_toArray, List.set_cons_zero, List.set_cons_succ])
  refine wpAnyT_take (i := 4) (oi := { dst := some 18, op := Op.fieldAddr 45 (Operand.tmp 5) 1, type := 0, pos := "task.go:109", after := #[], guard := none }) (v := .pointer (some ⟨xb, 1, none⟩)) [5, 8, 9, 12, 16] rfl (by kernel_rfl) (by kernel_rfl) (by kernel_rfl) (by kernel_rfl) (fun _ _ _ h => h) (Or.inl ⟨by rfl, ?_⟩) KP.out ?_
  · intro wq hSw
    obtain ⟨y0, y1, y2, y3⟩ := four_of hSw.1
    have y4 := (cell_of hSw.2).trans (c2.sl ia hia)
    go_simp
  (try simp only [Act.put, List.setIfInBounds_toArray, List.set_cons_zero, List.set_cons_succ])
  refine wpAnyT_take (i := 5) (oi := { dst := some 19, op := Op.load 3 (Operand.tmp 18), type := 3, pos := "task.go:109", after := #[{ on := 4, ground := Ground.data }], guard := none }) (v := .int .i64 (ia : Int)) [8, 9, 12, 16] rfl (by kernel_rfl) (by kernel_rfl) (by kernel_rfl) (by kernel_rfl) (fun _ _ _ h => h) (Or.inl ⟨by rfl, ?_⟩) KP.out ?_
  · intro wq hSw
    obtain ⟨y0, y1, y2, y3⟩ := four_of hSw.1
    have y4 := (cell_of hSw.2).trans (c2.sl ia hia)
    go_simp
  (try simp only [Act.put, List.setIfInBounds_toArray, List.set_cons_zero, List.set_cons_succ])
  refine wpAnyT_take (i := 6) (oi := { dst := some 20, op := Op.nilCheck (Operand.tmp 17), type := 0, pos := "task.go:109", after := #[{ on := 3, ground := Ground.data }], guard := none }) (v := .pointer (some ⟨rb, 0, none⟩)) [7, 8, 9, 12, 16] rfl (by kernel_rfl) (by kernel_rfl) (by kernel_rfl) (by kernel_rfl) (fun _ _ _ h => h) (Or.inl ⟨by rfl, ?_⟩) KP.out ?_
  · intro wq hSw
    obtain ⟨y0, y1, y2, y3⟩ := four_of hSw.1
    have y4 := (cell_of hSw.2).trans (c2.sl ia hia)
    go_simp
  (try simp only [Act.put, List.setIfInBounds_toArray, List.set_cons_zero, List.set_cons_succ])
  refine wpAnyT_take (i := 7) (oi := { dst := some 21, op := Op.fieldAddr 90 (Operand.tmp 20) 3, type := 0, pos := "task.go:109", after := #[{ on := 6, ground := Ground.data }], guard := none }) (v := .pointer (some ⟨rb, 6, none⟩)) [8, 9, 12, 16] rfl (by kernel_rfl) (by kernel_rfl) (by kernel_rfl) (by kernel_rfl) (fun _ _ _ h => h) (Or.inl ⟨by rfl, ?_⟩) KP.out ?_
  · intro wq hSw
    obtain ⟨y0, y1, y2, y3⟩ := four_of hSw.1
    have y4 := (cell_of hSw.2).trans (c2.sl ia hia)
    go_simp
  (try simp only [Act.put, List.setIfInBounds_toArray, List.set_cons_zero, List.set_cons_succ])
  refine wpAnyT_take (i := 8) (oi := { dst := some 22, op := Op.indexAddr 88 (Operand.tmp 21) (Operand.tmp 19), type := 0, pos := "task.go:109", after := #[{ on := 7, ground := Ground.data }, { on := 5, ground := Ground.data }], guard := none }) (v := .pointer (some ⟨rb, 6 + ia, none⟩)) [9, 12, 16] rfl (by kernel_rfl) (by kernel_rfl) (by kernel_rfl) (by kernel_rfl) (fun _ _ _ h => h) (Or.inl ⟨by rfl, ?_⟩) KP.out ?_
  · intro wq hSw
    obtain ⟨y0, y1, y2, y3⟩ := four_of hSw.1
    have y4 := (cell_of hSw.2).trans (c2.sl ia hia)
    go_simp
  (try simp only [Act.put, List.setIfInBounds_toArray, List.set_cons_zero, List.set_cons_succ])
  refine wpAnyT_take (i := 9) (oi := { dst := some 23, op := Op.load 87 (Operand.tmp 22), type := 87, pos := "task.go:109", after := #[{ on := 8, ground := Ground.data }], guard := none }) (v := X.s ia) [12, 16] rfl (by kernel_rfl) (by kernel_rfl) (by kernel_rfl) (by kernel_rfl) (fun _ _ _ h => h) (Or.inl ⟨by rfl, ?_⟩) KP.out ?_
  · intro wq hSw
    obtain ⟨y0, y1, y2, y3⟩ := four_of hSw.1
    have y4 := (cell_of hSw.2).trans (c2.sl ia hia)
    go_simp
  (try simp only [Act.put, List.setIfInBounds_toArray, List.set_cons_zero, List.set_cons_succ])
  refine wpAnyT_take (i := 10) (oi := { dst := some 24, op := Op.move (Operand.tmp 1), type := 85, pos := "task.go:109", after := #[], guard := none }) (v := .pointer (some ⟨X.tb, i * 7, none⟩)) [11, 12, 16] rfl (by kernel_rfl) (by kernel_rfl) (by kernel_rfl) (by kernel_rfl) (fun _ _ _ h => h) (Or.inl ⟨by rfl, ?_⟩) KP.out ?_
  · intro wq hSw
    obtain ⟨y0, y1, y2, y3⟩ := four_of hSw.1
    have y4 := (cell_of hSw.2).trans (c2.sl ia hia)
    go_simp
  (try simp only [Act.put, List.setIfInBounds_toArray, List.set_cons_zero, List.set_cons_succ])
  refine wpAnyT_take (i := 13) (oi := { dst := some 27, op := Op.nilCheck (Operand.tmp 14), type := 0, pos := "task.go:109", after := #[{ on := 0, ground := Ground.data }], guard := none }) (v := .pointer (some ⟨rb, 0, none⟩)) [14, 15, 16] rfl (by kernel_rfl) (by kernel_rfl) (by kernel_rfl) (by kernel_rfl) (fun _ _ _ h => h) (Or.inl ⟨by rfl, ?_⟩) KP.out ?_
  · intro wq hSw
    obtain ⟨y0, y1, y2, y3⟩ := four_of hSw.1
    have y4 := (cell_of hSw.2).trans (c2.sl ia hia)
    go_simp
  (try simp only [Act.put, List.setIfInBounds_toArray, List.set_cons_zero, List.set_cons_succ])
  refine wpAnyT_take (i := 14) (oi := { dst := some 28, op := Op.fieldAddr 90 (Operand.tmp 27) 3, type := 0, pos := "task.go:109", after := #[{ on := 13, ground := Ground.data }], guard := none }) (v := .pointer (some ⟨rb, 6, none⟩)) [15, 16] rfl (by kernel_rfl) (by kernel_rfl) (by kernel_rfl) (by kernel_rfl) (fun _ _ _ h => h) (Or.inl ⟨by rfl, ?_⟩) KP.out ?_
  · intro wq hSw
    obtain ⟨y0, y1, y2, y3⟩ := four_of hSw.1
    have y4 := (cell_of hSw.2).trans (c2.sl ia hia)
    go_simp
  (try simp only [Act.put, List.setIfInBounds_toArray, List.set_cons_zero, List.set_cons_succ])
  refine wpAnyT_one (i := 11) (o := { dst := some 25, op := Op.buildSlice 87 1 #[(0, Operand.tmp 24)], type := 87, pos := "task.go:109", after := #[{ on := 10, ground := Ground.data }], guard := none }) (by kernel_rfl) rfl (fun K hK => ?_)
  go_simp
  refine hK.out _ _ (fun _ => ⟨((box_below _ _).block xb (heap_lt KP.out.1)).trans KP.out.1, ((box_below _ _).block rb (heap_lt KP.out.2)).trans KP.out.2⟩) ?_
  clear hK K
  (try simp only [Act.put, List.setIfInBounds_toArray, List.set_cons_zero, List.set_cons_succ])
  have B3 := box_below q (.cells #[.pointer (some ⟨X.tb, i * 7, none⟩)] 85)
  have o0 : (q.alloc (.cells #[.pointer (some ⟨X.tb, i * 7, none⟩)] 85)).cell? ⟨q.heap.size, 0, none⟩ = some (.pointer (some ⟨X.tb, i * 7, none⟩)) := by rw [cell_of (heap_alloc_new q (.cells #[.pointer (some ⟨X.tb, i * 7, none⟩)] 85))]; rfl
  have A3 := AD.out.below B3
  have S3 := SD.out.trans (Stp.of_below rb X B3)
  have K3 : (q.alloc (.cells #[.pointer (some ⟨X.tb, i * 7, none⟩)] 85)).heap[xb]? = some (.cells #[.int .i64 ak, .int .i64 (ia : Int), .int .i64 ab, .int .i64 an] 45) ∧ (q.alloc (.cells #[.pointer (some ⟨X.tb, i * 7, none⟩)] 85)).heap[rb]? = some (.cells cs 90 (0, 0)) := ⟨(B3.block xb (heap_lt KP.out.1)).trans KP.out.1, (B3.block rb (heap_lt KP.out.2)).trans KP.out.2⟩
  clear KP AD SD B3
  generalize q.alloc (.cells #[.pointer (some ⟨X.tb, i * 7, none⟩)] 85) = w3 at *
  generalize q.heap.size = g3 at *
  obtain ⟨v', w4, r4, M4, G4, X4⟩ := run_appS (.pointer (some ⟨X.tb, i * 7, none⟩)) g3 Tryd.underlying87 infoP rfl (by decide) (A3.sl ia hia) o0 rfl (by rw [List.length_map]; exact hsn) 87
  rw [show ((S.sl ia).map (pt X.tb) ++ [.pointer (some ⟨X.tb, i * 7, none⟩)]) = ((S.sl ia ++ [i]).map (pt X.tb)) from by simp [pt]] at M4
  obtain ⟨Z1, Z2, Z3, Z4⟩ := A3.turnS hia G4 M4 X4
  have FIN2 := hide (And.intro Z1 (S3.trans Z2))
  have K4 : Hid (w4.heap[xb]? = some (.cells #[.int .i64 ak, .int .i64 (ia : Int), .int .i64 ab, .int .i64 an] 45) ∧ w4.heap[rb]? = some (.cells cs 90 (0, 0))) := by
    refine ⟨(G4.block xb (heap_lt K3.1) fun e => ?_).trans K3.1, (G4.block rb (heap_lt K3.2) fun e => ?_).trans K3.2⟩
    · exact hxo.out ⟨ia + 3, (bl_s rb X hia).trans e.symm⟩
    · have := A3.dis (ia + 3) 0 rb ((bl_s rb X hia).trans e.symm) rfl; omega
  obtain ⟨ao', n', e'⟩ : ∃ ao' n', X.s ia = .slice ao' ((S.sl ia).map (pt X.tb)).length n' := (A3.sl ia hia).form
  obtain ⟨aw, cw, ew⟩ := M4.form
  obtain ⟨nl, hnl⟩ : ∃ nl, Hid ((((S.sl ia ++ [i]).map (pt X.tb)) : List Value).length = nl) := ⟨_, rfl⟩
  rw [hnl.out] at ew
  rw [ew] at r4 FIN2
  clear A3 S3 K3 M4 G4 X4 Z1 Z2 o0 ew
  replace r4 := hide r4
  refine wpAnyT_one (i := 12) (o := { dst := some 26, op := Op.call { callee := Callee.builtin Builtin.append, args := #[Operand.tmp 23, Operand.tmp 25], argTypes := #[87, 87] }, type := 87, pos := "task.go:109", after := #[{ on := 9, ground := Ground.data }, { on := 11, ground := Ground.data }], guard := none }) (by kernel_rfl) rfl (fun K hK => ?_)
  rw [if_pos (by simp [Region.wanted])]
  refine Lib.wp_append_run _ (.tmp 23) (.tmp 25) 87 87 rfl (X.s ia) (.slice (some ⟨g3, 0, none⟩) 1 1) (by simp [Act.eval]) (by simp [Act.eval]) _ w4 r4.out ?_
  refine hK.out _ _ (fun _ => K4.out) ?_
  clear hK K
  (try simp only [Act.put, List.setIfInBounds_toArray, List.set_cons_zero, List.set_cons_succ])
  refine wpAnyT_one (i := 15) (o := { dst := some 29, op := Op.indexAddr 88 (Operand.tmp 28) (Operand.tmp 16), type := 0, pos := "task.go:109", after := #[{ on := 14, ground := Ground.data }, { on := 2, ground := Ground.data }, { on := 0, ground := Ground.phase }, { on := 1, ground := Ground.phase }, { on := 2, ground := Ground.phase }, { on := 3, ground := Ground.phase }, { on := 4, ground := Ground.phase }, { on := 5, ground := Ground.phase }, { on := 6, ground := Ground.phase }, { on := 7, ground := Ground.phase }, { on := 8, ground := Ground.phase }, { on := 9, ground := Ground.phase }, { on := 10, ground := Ground.phase }, { on := 11, ground := Ground.phase }, { on := 12, ground := Ground.phase }], guard := none }) (by kernel_rfl) rfl (fun K hK => ?_)
  go_simp
  refine hK.out _ _ (fun _ => K4.out) ?_
  clear hK K
  (try simp only [Act.put, List.setIfInBounds_toArray, List.set_cons_zero, List.set_cons_succ])
  clear K4 r4
  refine wpAnyT_one (i := 16) (o := { dst := none, op := Op.store 87 (Operand.tmp 29) (Operand.tmp 26), type := 0, pos := "task.go:109", after := #[{ on := 15, ground := Ground.data }, { on := 12, ground := Ground.data }, { on := 12, ground := Ground.chain }, { on := 0, ground := Ground.phase }, { on := 1, ground := Ground.phase }, { on := 2, ground := Ground.phase }, { on := 3, ground := Ground.phase }, { on := 4, ground := Ground.phase }, { on := 5, ground := Ground.phase }, { on := 6, ground := Ground.phase }, { on := 7, ground := Ground.phase }, { on := 8, ground := Ground.phase }, { on := 9, ground := Ground.phase }, { on := 10, ground := Ground.phase }, { on := 11, ground := Ground.phase }, { on := 12, ground := Ground.phase }], guard := none }) (by kernel_rfl) rfl (fun K hK => ?_)
  go_simp
  refine hK.out _ _ (vac (by kernel_rfl)) ?_
  clear hK K
  (try simp only [Act.put, List.setIfInBounds_toArray, List.set_cons_zero, List.set_cons_succ])
  refine wpAnyT_done (by kernel_rfl) ?_ _
  go_wp2_with fail
  go_end0
  exact ⟨rfl, { X with s := up X.s ia (.slice aw nl cw) }, rfl, by rw [FS.out]; exact FIN2.out.1, S5.out.trans FIN2.out.2⟩
theorem fall_no (w0 w : World) (us : List Value) (rb : Nat) (X : V) (S : St) (h : At w0 us w rb X S) {i ib : Nat} (ak aa an : Int) (hib : ib < 4) (hl : S.lk ib ≠ some i) :
    Calls Tryd.prog 48 #[.pointer (some ⟨rb, 0, none⟩), .pointer (some ⟨X.tb, i * 7, none⟩), .agg #[.int .i64 ak, .int .i64 aa, .int .i64 (ib : Int), .int .i64 an]] w fun e w' => e = .panicked (thr (-1)) ∧ Below w.heap.size w w' := by
  have B1 := box_below w (.cells #[.int .i64 ak, .int .i64 aa, .int .i64 (ib : Int), .int .i64 an] 45)
  have LG := hide (letGo_no w0 _ us rb X S (h.below B1) hib hl)
  clear h
  unfold thr at LG
  go_enter Tryd.func48, Tryd.ntmps48
  go_wp2_with (go_at_call 47; refine LG.out.mono ?_; rintro e w2 ⟨rfl, hw⟩; rw [hw]; clear hw w2)
  exact ⟨rfl, rfl, B1⟩
end Go.Proofs.YtiiinpmkidobgaaDoor.Sd

/-
  Those that have waited longest are woken.
-/
namespace Go.Proofs.YtiiinpmkidobgaaDoor.Sd
open Go.RowKit
set_option linter.unusedVariables false
set_option linter.unusedSimpArgs false
set_option maxRecDepth 100000
def wk1 (tk : List Tk) (j : Nat) : List Tk := match tk[j]? with
  | some t => tk.set j { t with sl := 2 }
  | none => tk
def wk (tk : List Tk) (l : List Nat) : List Tk := l.foldl wk1 tk
theorem wk1_len (tk : List Tk) (j : Nat) : (wk1 tk j).length = tk.length := by unfold wk1; split <;> simp
theorem wk_len (l : List Nat) : ∀ tk, (wk tk l).length = tk.length := by
  induction l with
  | nil => intro tk; rfl
  | cons a r ih => intro tk; show (wk (wk1 tk a) r).length = _; rw [ih, wk1_len]
theorem wk_snoc (tk : List Tk) (l : List Nat) (j : Nat) : wk tk (l ++ [j]) = wk1 (wk tk l) j := by simp [wk, List.foldl_append]
def wakeS (S : St) (c n : Nat) : St := { S with tk := wk S.tk ((S.sl c).take n), sl := up S.sl c ((S.sl c).drop n) }
set_option maxHeartbeats 4000000 in
theorem wake_any (w0 w : World) (us : List Value) (rb : Nat) (X : V) (S : St) (h : At w0 us w rb X S) (ok : Ok S) {c n : Nat} (hc : c < 4) (hn : n ≤ (S.sl c).length) :
    Calls Tryd.prog 49 #[.pointer (some ⟨rb, 0, none⟩), .int .i64 (c : Int), .int .i64 (n : Int)] w fun e w' => e = .returned (.tuple #[]) ∧ ∃ X', X'.tb = X.tb ∧ At w0 us w' rb X' (wakeS S c n) ∧ Stp rb X X' w w' := by
  have hc' : (c : Int) < 4 := by omega
  have hsn := ok.sn c
  have htr := ok.tr
  have hsl := ok.sl c
  have s0 := h.scell hc
  have SL := h.sl c hc
  have FC := h.sl c hc
  rcases SL with ⟨e, e2⟩ | ⟨g, off, cap, cur, e, k1, k2, k3, k4, k5⟩
  · have hz : S.sl c = [] := List.map_eq_nil_iff.1 e2
    have hn0 : n = 0 := by rw [hz] at hn; simpa using hn
    subst hn0
    obtain ⟨Z1, Z2, Z3, Z4⟩ := h.turnS (w1 := w) (v' := .slice none 0 0) (l' := []) hc ⟨rfl, rfl, rfl, Nat.le_refl _, fun _ _ _ => rfl⟩ (Sld.nil _ _) (fun k hk => by cases hk)
    have FIN := hide (And.intro Z1 Z2)
    have E : Hid (wakeS S c 0 = { S with sl := up S.sl c [] }) := by show _ = _; unfold wakeS; rw [hz]; rfl
    rw [e] at s0
    rw [E.out]
    rw [e] at Z3
    clear h FC Z1 Z2 ok hsl E e2 Z3
    go_enter Tryd.func49, Tryd.ntmps49
    go_wp2_with fail
    go_loopw [17] (fun s wr => s = .int .i64 0 ∧ Hid (wr = w)) (fun s wr => 0)
    case atStart => exact ⟨rfl, rfl⟩
    case round =>
      obtain ⟨rfl, hw⟩ := hrel
      have hw' := hw.out
      subst hw'
      go_upto_region 5 with fail
      go_region
      go_wp2_with fail
      go_end0
      exact ⟨rfl, { X with s := up X.s c (.slice none 0 0) }, rfl, FIN.out.1.below (Below.refl _ _).drew, FIN.out.2.trans (Stp.of_below rb _ (Below.refl _ _).drew)⟩
  · rw [List.length_map] at e k2
    have hcap : n ≤ cap := by omega
    have hncap : (n : Int) ≤ (cap : Int) := by omega
    obtain ⟨L, hL⟩ : ∃ L, Hid ((S.sl c).length = L) := ⟨_, rfl⟩
    rw [hL.out] at e k2 hn hsn
    have hcm : cap ≤ 9223372036854775807 := by unfold maxLen at k3; exact k3
    rw [e] at s0
    have H : Hid (At w0 us w rb X S ∧ X.s c = .slice (some ⟨g, off, none⟩) L cap) := ⟨h, e⟩
    have hslH := hide hsl
    clear h FC k1 k4 k5 ok hsl
    go_enter Tryd.func49, Tryd.ntmps49
    go_wp2_with fail
    go_loopw [17] (fun s wr => ∃ k : Nat, s = .int .i64 (k : Int) ∧ k ≤ n ∧ Hid (At w0 us wr rb X { S with tk := wk S.tk ((S.sl c).take k) } ∧ Stp rb X X w wr)) (fun s wr => n - (intOf s).toNat)
    case atStart => exact ⟨0, rfl, Nat.zero_le _, H.out.1, Stp.refl _ _ _⟩
    case round =>
      obtain ⟨k, rfl, hkn, hst⟩ := hrel
      by_cases hlt : k < n
      · have i1 : (k : Int) < (n : Int) := by omega
        have hkl : k < (S.sl c).length := by rw [hL.out]; omega
        have SLr := hst.out.1.sl c hc
        obtain ⟨g', off', cap', e', _, rd⟩ := SLr.at (fun q => by
          have : ((S.sl c).map (pt X.tb)).length = 0 := by rw [show (S.sl c).map (pt X.tb) = [] from q]; rfl
          rw [List.length_map] at this
          omega)
        rw [H.out.2] at e'
        simp only [Value.slice.injEq, Option.some.injEq, Addr.mk.injEq, and_true] at e'
        obtain ⟨⟨rfl, rfl⟩, _, rfl⟩ := e'
        obtain ⟨j, hj⟩ : ∃ j, (S.sl c)[k]? = some j := ⟨_, List.getElem?_eq_getElem hkl⟩
        have r1 := rd k (pt X.tb j) (by show ((S.sl c).map (pt X.tb))[k]? = _; rw [List.getElem?_map, hj]; rfl)
        unfold pt at r1
        have hjn : j < (wk S.tk ((S.sl c).take k)).length := by rw [wk_len]; exact hslH.out j (List.mem_of_getElem? hj)
        obtain ⟨t, ht⟩ : ∃ t, (wk S.tk ((S.sl c).take k))[j]? = some t := ⟨_, List.getElem?_eq_getElem hjn⟩
        have ht' : ({ S with tk := wk S.tk ((S.sl c).take k) } : St).tk[j]? = some t := ht
        have c2 := (hst.out.1.tcell ht').2.2.1
        have z2 := hst.out.1.frzT (j * 7 + 2)
        have NX := hst.out.1.setT (t' := { t with sl := 2 }) ht' 1 (by decide) (.int .i64 2) rfl rfl
        have NS : Hid (Stp rb X X w (wr.setCell ⟨X.tb, j * 7 + 2, none⟩ (.int .i64 2))) := hst.out.2.trans (stp_setT hst.out.1 _ _)
        have ew : wk S.tk ((S.sl c).take (k + 1)) = (wk S.tk ((S.sl c).take k)).set j { t with sl := 2 } := by
          rw [List.take_add_one, hj]
          show wk S.tk ((S.sl c).take k ++ [j]) = _
          rw [wk_snoc]
          unfold wk1
          rw [ht]
        have N2 : Hid (At w0 us (wr.setCell ⟨X.tb, j * 7 + 2, none⟩ (.int .i64 2)) rb X { S with tk := wk S.tk ((S.sl c).take (k + 1)) }) := by rw [ew]; exact NX
        clear SLr rd hj hjn ht ht' NX ew hst
        go_wp2_with fail
        go_roundw
        case rel => exact ⟨k + 1, by go_num, hlt, N2.out, NS.out⟩
        case measure => simp only [intOf]; omega
      · obtain rfl : k = n := by omega
        have i1 : ¬ (k : Int) < (k : Int) := by omega
        have sc := hst.out.1.scell hc
        rw [H.out.2] at sc
        have SLr := hst.out.1.sl c hc
        rw [H.out.2] at SLr
        have CT := SLr.cut (k := k) hn
        rw [← List.map_drop] at CT
        by_cases hz : cap - k = 0
        · have hLk : L - k = 0 := by omega
          have hck : ¬ (k : Int) < (cap : Int) := by omega
          replace CT : Sld wr 85 (.slice (some ⟨g, off, none⟩) 0 0) (((S.sl c).drop k).map (pt X.tb)) := by
            rw [List.drop_eq_nil_of_le (by rw [hL.out]; omega)]
            exact SLr.none
          obtain ⟨Z1, Z2, Z3, Z4⟩ := hst.out.1.turnS (w1 := wr) (v' := .slice (some ⟨g, off, none⟩) 0 0) (l' := (S.sl c).drop k) hc ⟨rfl, rfl, rfl, Nat.le_refl _, fun _ _ _ => rfl⟩ CT (fun k' hk => .inl (by rw [H.out.2]; exact hk))
          have FIN := hide (And.intro Z1 (hst.out.2.trans Z2))
          have hkL : (k : Int) ≤ (L : Int) := by omega
          have hLc : (L : Int) ≤ (cap : Int) := by omega
          clear Z1 Z2 Z3 CT SLr hst
          go_upto_region 5 with fail
          go_region
          go_wp2_with fail
          go_end0
          exact ⟨rfl, { X with s := up X.s c (.slice (some ⟨g, off, none⟩) 0 0) }, rfl, FIN.out.1.below (Below.refl _ _).drew, FIN.out.2.trans (Stp.of_below rb _ (Below.refl _ _).drew)⟩
        · have hck : (k : Int) < (cap : Int) := by omega
          obtain ⟨Z1, Z2, Z3, Z4⟩ := hst.out.1.turnS (w1 := wr) (v' := .slice (some ⟨g, off + k, none⟩) (L - k) (cap - k)) (l' := (S.sl c).drop k) hc ⟨rfl, rfl, rfl, Nat.le_refl _, fun _ _ _ => rfl⟩ CT (fun k' hk => .inl (by rw [H.out.2]; exact hk))
          have FIN := hide (And.intro Z1 (hst.out.2.trans Z2))
          have hkL : (k : Int) ≤ (L : Int) := by omega
          have hLc : (L : Int) ≤ (cap : Int) := by omega
          clear Z1 Z2 Z3 CT SLr hst
          go_upto_region 5 with fail
          go_region
          go_wp2_with fail
          go_end0
          exact ⟨rfl, { X with s := up X.s c (.slice (some ⟨g, off + k, none⟩) (L - k) (cap - k)) }, rfl, FIN.out.1.below (Below.refl _ _).drew, FIN.out.2.trans (Stp.of_below rb _ (Below.refl _ _).drew)⟩
end Go.Proofs.YtiiinpmkidobgaaDoor.Sd

