/-
  Plain facts for the walks over package wire: lists of bytes, where a slice's bytes lie in memory. No program is named here.
-/
import Derived.WalkKit
import Derived.WalkSpells
import Derived.WalkLawsBesides
import Derived.Deep.QuietTactic
import Derived.BigQuiet
import Derived.Laws.AppendOwnNone
import Derived.Test.YtmehlgebbbkdiaaProg
import Derived.Lib.SlBytesConst
import Derived.Test.YtmehlgebbbkdiaaRows
import Derived.ProofKit
import Derived.OpenShut
import Derived.SizedLaws
import Derived.Deep.Slices
import Derived.RangeFuncNested
import Derived.RangeFuncLeaves
import Derived.Below
import Derived.Lib.AppendZeros
import Derived.Deep.RegionHeld
import Derived.Maps.AppendAt
import Derived.Lib.SliceRun
import Derived.Recover
import Derived.Defers
import Derived.Laws.BytesArg
import Derived.Lib.SlBytesRow
import Derived.Deep.DeepAppendWide
namespace Go.Proofs.Ytmehlgebbbkdiaa
open Go.RowKit
/-- Bytes l lie from address ao on (nothing is said of ao where l is empty). -/
def Rd (w : World) (ao : Option Addr) (l : List UInt8) : Prop :=
  ∀ i (h : i < l.length), ∃ b off, ao = some ⟨b, off, none⟩ ∧ w.cell? ⟨b, off + i, none⟩ = some (.int .u8 (l[i].toNat : Int))
theorem Rd.at {w : World} {ao : Option Addr} {l : List UInt8} (h : Rd w ao l) (hl : 0 < l.length) :
    ∃ b off, ao = some ⟨b, off, none⟩ ∧ ∀ i (h : i < l.length), w.cell? ⟨b, off + i, none⟩ = some (.int .u8 (l[i].toNat : Int)) := by
  obtain ⟨b, off, e, _⟩ := h 0 hl
  refine ⟨b, off, e, fun i hi => ?_⟩
  obtain ⟨b', off', e', hc⟩ := h i hi
  rw [e] at e'
  simp only [Option.some.injEq, Addr.mk.injEq] at e'
  obtain ⟨rfl, rfl, _⟩ := e'
  exact hc
/-- The world has only drawn. -/
def Qt (w w' : World) : Prop := ∃ k, w' = w.drewN k
theorem Qt.refl (w : World) : Qt w w := ⟨0, rfl⟩
theorem Qt.drewN {w u : World} (h : Qt w u) (n : Nat) : Qt w (u.drewN n) := by
  obtain ⟨k, rfl⟩ := h; exact ⟨k + n, by simp⟩
theorem Qt.trans {w u v : World} (h : Qt w u) (g : Qt u v) : Qt w v := by
  obtain ⟨n, rfl⟩ := g; exact h.drewN n
theorem Qt.cell {w u : World} (h : Qt w u) (a : Addr) : u.cell? a = w.cell? a := by obtain ⟨k, rfl⟩ := h; rfl
theorem Qt.rd {w u : World} (h : Qt w u) {ao : Option Addr} {l : List UInt8} (g : Rd w ao l) : Rd u ao l := by
  intro i hi; obtain ⟨b, off, e, hc⟩ := g i hi; exact ⟨b, off, e, by rw [h.cell]; exact hc⟩
theorem Qt.below {w u : World} (h : Qt w u) (B : Nat) : Below B w u := by
  obtain ⟨k, rfl⟩ := h; exact below_drewN (Below.refl _ _) k
theorem Qt.size {w u : World} (h : Qt w u) : u.heap.size = w.heap.size := by obtain ⟨k, rfl⟩ := h; rfl
end Go.Proofs.Ytmehlgebbbkdiaa

/-
  The forms of package wire as plain functions on lists of bytes: the varint's form, and what it is worth.
-/
namespace Go.Proofs.Ytmehlgebbbkdiaa
def encF : Nat → Nat → List UInt8
  | 0, _ => []
  | f + 1, n => if n < 128 then [UInt8.ofNat n] else UInt8.ofNat (n % 128 + 128) :: encF f (n / 128)
/-- The varint of n (below 2^64). -/
def enc (n : Nat) : List UInt8 := encF 10 n
/-- A byte as the model holds it. -/
def bval (c : UInt8) : Value := .int .u8 (c.toNat : Int)
def bvals (l : List UInt8) : List Value := l.map bval
theorem bvals_append (l m : List UInt8) : bvals (l ++ m) = bvals l ++ bvals m := by simp [bvals]
end Go.Proofs.Ytmehlgebbbkdiaa

/-
  A slice of bytes as a list of bytes: Sl; what keeps it; append of such a slice onto one that the call made. No program is named here.
-/
namespace Go.Proofs.Ytmehlgebbbkdiaa
open Go.RowKit
/-- The value v is a slice whose bytes are l. -/
def Sl (w : World) (v : Value) (l : List UInt8) : Prop :=
  ∃ ao cap, v = .slice ao l.length cap ∧ (ao = none → l = [] ∧ cap = 0) ∧ l.length ≤ cap ∧ cap ≤ maxLen ∧ Rd w ao l
theorem lt_of_cell {w : World} {a : Addr} {v : Value} (h : w.cell? a = some v) : a.block < w.heap.size := by
  unfold World.cell? at h
  by_cases hb : a.block < w.heap.size
  · exact hb
  · rw [Array.getElem?_eq_none (by omega)] at h; simp at h
theorem Below.rd {w w' : World} (h : Below w.heap.size w w') {ao : Option Addr} {l : List UInt8} (g : Rd w ao l) : Rd w' ao l := by
  intro i hi
  obtain ⟨b, off, e, hc⟩ := g i hi
  exact ⟨b, off, e, by rw [h.cell (p := ⟨b, off + i, none⟩) (lt_of_cell hc)]; exact hc⟩
theorem Below.sl {w w' : World} (h : Below w.heap.size w w') {v : Value} {l : List UInt8} (g : Sl w v l) : Sl w' v l := by
  obtain ⟨ao, cap, h1, h2, h3, h4, h5⟩ := g
  exact ⟨ao, cap, h1, h2, h3, h4, Below.rd h h5⟩
theorem Qt.sl {w w' : World} (h : Qt w w') {v : Value} {l : List UInt8} (g : Sl w v l) : Sl w' v l := Below.sl (h.below _) g
theorem ownsRow_below {w w' : World} {base e n : Nat} {v : Value} {xs : List Value} (h : w.ownsRow base e 1 v n xs) (hb : Below w.heap.size w w') : w'.ownsRow base e 1 v n xs := by
  obtain ⟨h1, h2⟩ := h
  refine ⟨h1, ?_⟩
  rcases h2 with h2 | ⟨g, cap, cur, hv, hg, hh, r⟩
  · exact Or.inl h2
  · have hlt : g < w.heap.size := by
      by_cases hb : g < w.heap.size
      · exact hb
      · rw [Array.getElem?_eq_none (by omega)] at hh; simp at hh
    exact Or.inr ⟨g, cap, cur, hv, hg, by rw [hb.block g hlt]; exact hh, r⟩
theorem bvals_get {l : List UInt8} {i : Nat} (h : i < l.length) : (bvals l)[i]? = some (.int .u8 (l[i].toNat : Int)) := by
  simp [bvals, bval, h]
theorem Sl.of_owns {w : World} {base e : Nat} {v : Value} {l : List UInt8} (h : w.ownsRow base e 1 v l.length (bvals l)) : Sl w v l := by
  have h0 := h
  obtain ⟨h1, h2⟩ := h
  rcases h2 with ⟨rfl, hn⟩ | ⟨g, cap, cur, rfl, hg, hh, hn, hm, hs, ht⟩
  · obtain rfl := List.length_eq_zero_iff.1 hn
    exact ⟨none, 0, rfl, fun _ => ⟨rfl, rfl⟩, Nat.le_refl _, Nat.zero_le _, fun i hi => by simp at hi⟩
  · refine ⟨some ⟨g, 0, none⟩, cap, rfl, fun e => by simp at e, hn, hm, fun i hi => ⟨g, 0, rfl, ?_⟩⟩
    rw [Nat.zero_add, h0.cellAt i (by omega), bvals_get hi]
theorem Sl.nil (w : World) : Sl w (.slice none 0 0) [] := ⟨none, 0, rfl, fun _ => ⟨rfl, rfl⟩, Nat.le_refl _, Nat.zero_le _, fun i hi => by simp at hi⟩
end Go.Proofs.Ytmehlgebbbkdiaa

/-
  Plain facts for the walks of a seat that has none of wire's: literals of bytes, what a call may have turned. No function is named here.
-/
namespace Go.Proofs.Ytmehlgebbbkdiaa
open Go.RowKit
theorem addr_add (b off k : Nat) : (⟨b, off, none⟩ : Addr).add k = ⟨b, off + k, none⟩ := by
  unfold Addr.add; split <;> simp_all
theorem Qt.grown {w w' : World} (h : Qt w w') (row : Option Nat) : w.grownBy w' row := by
  obtain ⟨k, rfl⟩ := h; exact ⟨rfl, rfl, rfl, Nat.le_refl _, fun _ _ _ => rfl⟩
theorem grown_setCell (w : World) (rb o : Nat) (u : Value) : w.grownBy (w.setCell ⟨rb, o, none⟩ u) (some rb) :=
  ⟨rfl, rfl, rfl, by simp, fun k _ hk => heap_setCell_other w ⟨rb, o, none⟩ k u (fun e => hk (by simp [e]))⟩
theorem heap_lt {w : World} {k : Nat} {o : Obj} (h : w.heap[k]? = some o) : k < w.heap.size := by
  by_cases hb : k < w.heap.size
  · exact hb
  · rw [Array.getElem?_eq_none (by omega)] at h; simp at h
theorem box_below (w : World) (o : Obj) : Below w.heap.size w (w.alloc o) := (Below.refl _ _).alloc (Nat.le_refl _) _
end Go.Proofs.Ytmehlgebbbkdiaa

/-
  An argument of type []byte, opened: the bytes that it holds, and that they lie within the reach.
-/
namespace Go.Proofs.Ytmehlgebbbkdiaa
open Go.ChangeShapes Go.WideShapes Go.ChangeAt Go.RowKit
theorem cellsU8 : Try.prog.cellsOf 5 = 1 := by kernel_rfl
theorem toByte {n : Int} (h : (Lit.int .u8 n).wf = true) : ((UInt8.ofNat n.toNat).toNat : Int) = n := by
  have hx : 0 ≤ n ∧ n ≤ 255 := by simpa [Lit.wf, IntKind.min, IntKind.max, IntKind.signed, IntKind.bits] using h
  rw [UInt8.toNat_ofNat_of_lt' (show n.toNat < 256 by omega)]; omega
/-- A slice of bytes that was read. -/
theorem open_bytes {H : Type} {enc : TypeId × Value → H} {w : World} {base : Nat} {spare : Nat → Bool} {held : Bool} {fuel : Nat} {v : Value} {x : DataW H × List MemPlace}
    (h : DataW.trod enc Try.prog w base spare held fuel 31 [v] = some x) :
    ∃ l, Sl w v l ∧ ((x.1 = .nil ∧ l = []) ∨ ∃ elems sp, x.1 = .slice elems sp ∧ elems.length = l.length) := by
  rcases open_ints Try.underlying31 Try.underlying5 cellsU8 h with ⟨hcs, hx⟩ | ⟨a, len, cap, zs, hcs, _, hl, hm, hz, hx, hcell, hwz⟩
  · simp at hcs
    subst hcs hx
    exact ⟨[], Sl.nil _, .inl ⟨rfl, rfl⟩⟩
  · simp at hcs
    subst hcs hx
    have hzl : len ≤ zs.length := by split at hz <;> omega
    have hlen : ((zs.take len).map fun n => UInt8.ofNat n.toNat).length = len := by simp; omega
    refine ⟨(zs.take len).map fun n => UInt8.ofNat n.toNat, ⟨some a, cap, by rw [hlen], fun e => by simp at e, by omega, hm, ?_⟩, .inr ⟨_, _, rfl, by simp [lits]⟩⟩
    intro i hi
    rw [hlen] at hi
    obtain ⟨b, off, rfl, hc⟩ := ints_at hcell (by omega)
    refine ⟨b, off, rfl, ?_⟩
    have hi2 : i < zs.length := by omega
    rw [hc i hi2]
    simp only [List.getElem_map, List.getElem_take]
    rw [toByte (hwz _ (List.getElem_mem _))]
    simp [List.getD, hi2]
theorem i64_bounds {n : Int} (h : (Lit.int .i64 n).wf = true) : -9223372036854775808 ≤ n ∧ n ≤ 9223372036854775807 := by
  simpa [Lit.wf, IntKind.min, IntKind.max, IntKind.signed, IntKind.bits] using h
end Go.Proofs.Ytmehlgebbbkdiaa

/-
  Slices of one-cell elements as lists of values; arguments of types []uint64, []int64, []int and [][]byte, opened.
-/
namespace Go.Proofs.Ytmehlgebbbkdiaa
open Go.ChangeShapes Go.WideShapes Go.ChangeAt Go.RowKit Go.Deep
/-- Values vs lie from address ao on. -/
def At (w : World) (ao : Option Addr) (vs : List Value) : Prop :=
  ∀ i (h : i < vs.length), ∃ b off, ao = some ⟨b, off, none⟩ ∧ w.cell? ⟨b, off + i, none⟩ = some vs[i]
/-- The value v is a slice of the values vs. -/
def Row (w : World) (v : Value) (vs : List Value) : Prop :=
  ∃ ao cap, v = .slice ao vs.length cap ∧ (ao = none → vs = [] ∧ cap = 0) ∧ vs.length ≤ cap ∧ cap ≤ maxLen ∧ At w ao vs
theorem At.at {w : World} {ao : Option Addr} {vs : List Value} (h : At w ao vs) (hl : 0 < vs.length) :
    ∃ b off, ao = some ⟨b, off, none⟩ ∧ ∀ i (h : i < vs.length), w.cell? ⟨b, off + i, none⟩ = some vs[i] := by
  obtain ⟨b, off, e, _⟩ := h 0 hl
  refine ⟨b, off, e, fun i hi => ?_⟩
  obtain ⟨b', off', e', hc⟩ := h i hi
  rw [e] at e'
  simp only [Option.some.injEq, Addr.mk.injEq] at e'
  obtain ⟨rfl, rfl, _⟩ := e'
  exact hc
theorem Row.nil (w : World) : Row w (.slice none 0 0) [] := ⟨none, 0, rfl, fun _ => ⟨rfl, rfl⟩, Nat.le_refl _, Nat.zero_le _, fun i hi => by simp at hi⟩
theorem Below.row {w w' : World} (h : Below w.heap.size w w') {v : Value} {vs : List Value} (g : Row w v vs) : Row w' v vs := by
  obtain ⟨ao, cap, h1, h2, h3, h4, h5⟩ := g
  refine ⟨ao, cap, h1, h2, h3, h4, fun i hi => ?_⟩
  obtain ⟨b, off, e, hc⟩ := h5 i hi
  exact ⟨b, off, e, by rw [h.cell (p := ⟨b, off + i, none⟩) (lt_of_cell hc)]; exact hc⟩
/-- Each value is a slice of the bytes beside it. -/
def Sls (w : World) (vs : List Value) (ls : List (List UInt8)) : Prop := vs.length = ls.length ∧ ∀ i (h : i < vs.length) (h' : i < ls.length), Sl w vs[i] ls[i]
theorem Below.sls {w w' : World} (h : Below w.heap.size w w') {vs : List Value} {ls : List (List UInt8)} (g : Sls w vs ls) : Sls w' vs ls :=
  ⟨g.1, fun i h1 h2 => Below.sl h (g.2 i h1 h2)⟩
end Go.Proofs.Ytmehlgebbbkdiaa

/-
  Iterators that keep state of their own in cells, and hand over what lies in memory: a contract by two sets of blocks, and the law for a range over one.
-/
namespace Go.Proofs.Ytmehlgebbbkdiaa
open Go.RowKit
/-- W' is W but for the blocks of X. -/
structure But (X : Nat → Prop) (W W' : World) : Prop where
  os : W'.os = W.os
  tape : W'.tape = W.tape
  output : W'.output = W.output
  size : W.heap.size ≤ W'.heap.size
  block : ∀ k, k < W.heap.size → ¬ X k → W'.heap[k]? = W.heap[k]?
theorem But.refl (X : Nat → Prop) (W : World) : But X W W := ⟨rfl, rfl, rfl, Nat.le_refl _, fun _ _ _ => rfl⟩
theorem But.trans {X : Nat → Prop} {A B C : World} (h : But X A B) (k : But X B C) : But X A C :=
  ⟨k.os.trans h.os, k.tape.trans h.tape, k.output.trans h.output, Nat.le_trans h.size k.size, fun i hi hx => (k.block i (Nat.lt_of_lt_of_le hi h.size) hx).trans (h.block i hi hx)⟩
theorem But.mono {X Y : Nat → Prop} {A B : World} (h : But X A B) (hs : ∀ k, k < A.heap.size → X k → Y k) : But Y A B :=
  ⟨h.os, h.tape, h.output, h.size, fun k hk hy => h.block k hk (fun hx => hy (hs k hk hx))⟩
theorem But.below {X : Nat → Prop} {A B : World} {n : Nat} (h : But X A B) (hn : n ≤ A.heap.size) (hX : ∀ k, X k → n ≤ k) : Below n A B :=
  ⟨h.os, h.tape, h.output, h.size, fun k hk => h.block k (Nat.lt_of_lt_of_le hk hn) (fun hx => Nat.lt_irrefl _ (Nat.lt_of_lt_of_le hk (hX k hx)))⟩
theorem But.of_below {A B : World} (h : Below A.heap.size A B) (X : Nat → Prop) : But X A B := ⟨h.os, h.tape, h.output, h.size, fun k hk _ => h.block k hk⟩
theorem But.alloc (W : World) (o : Obj) (X : Nat → Prop) : But X W (W.alloc o) := But.of_below ((Below.refl _ W).alloc (Nat.le_refl _) o) X
/-- Behind a step that turns the blocks of X alone, what lay in a block outside lies there still. -/
theorem But.at {X : Nat → Prop} {A B : World} (h : But X A B) {k : Nat} {o : Obj} (hk : A.heap[k]? = some o) (hx : ¬ X k) : B.heap[k]? = some o :=
  (h.block k (Array.getElem?_eq_some_iff.1 hk).1 hx).trans hk
end Go.Proofs.Ytmehlgebbbkdiaa

/-
  What slices.Grow of no bytes and slices.Concat of slices of bytes answer.
-/
namespace Go.Proofs.Ytmehlgebbbkdiaa
open Go.RowKit
set_option maxRecDepth 100000
theorem hide {p : Prop} (h : p) : Hid p := h
theorem owns_zero {w : World} {base e cap g : Nat} {cur : Array Value} (hg : base ≤ g) (h : w.heap[g]? = some (.cells cur e (0, 0))) (hs : cur.size = cap) (hm : cap ≤ maxLen) : w.ownsRow base e 1 (.slice (some ⟨g, 0, none⟩) 0 cap) 0 (bvals []) :=
  ⟨rfl, Or.inr ⟨g, cap, cur, rfl, hg, h, Nat.zero_le _, hm, by omega, by simp [bvals]⟩⟩
end Go.Proofs.Ytmehlgebbbkdiaa

/-
  A region that draws its order, whose last call turns what the loads read: S is asked behind every operation but that one, for which all loads wait no more. (After the law of regions that hold loads beside calls: the same proof, but for the one operation.)
-/
namespace Go.Proofs.Ytmehlgebbbkdiaa.Ix
open Go
variable {P : Program} {ops : Array Oper} {Q : Exit → Act → World → Prop} {md : Region.Mode} {S : World → Prop} {d : Nat}
/-- m waits for p, the next for m, and so on. -/
def pathB (md : Region.Mode) (ops : Array Oper) : Nat → List Nat → Bool
  | _, [] => true
  | p, m :: r => (match ops[m]? with | some o => o.after.any fun e => Region.binds md e && e.on == p | none => false) && pathB md ops m r
theorem not_ready {listed : Array Bool} : ∀ (ms : List Nat) (p : Nat), pathB md ops p ms = true → listed.getD p false = false → (∀ m ∈ ms, listed.getD m true = false) → ∀ m ∈ ms, m ∉ Region.ready md ops listed := by
  intro ms
  induction ms with
  | nil => intro p _ _ _ m hm; cases hm
  | cons a r ih =>
    intro p hp hl hu m hm
    rw [pathB, Bool.and_eq_true] at hp
    obtain ⟨h1, h2⟩ := hp
    have ha : a ∉ Region.ready md ops listed := fun hr => by
      obtain ⟨_, o, ho, hall⟩ := mem_ready.1 hr
      rw [ho] at h1
      simp only [Array.any_eq_true] at h1
      obtain ⟨i, hi, he⟩ := h1
      rw [Bool.and_eq_true] at he
      have := hall _ (Array.getElem_mem hi) he.1
      rw [show (o.after[i]).on = p by simpa using he.2, hl] at this
      cases this
    rcases List.mem_cons.1 hm with rfl | hm
    · exact ha
    · have hla : listed.getD a false = false := by
        have := hu a (by simp)
        by_cases hs : a < listed.size
        · simp [Array.getD, hs] at this ⊢; exact this
        · simp [Array.getD, hs]
      exact ih a h2 hla (fun m hm => hu m (by simp [hm])) m hm
/-- Whatever order is picked from here on, and S holds behind every operation that is carried out, but behind d. -/
def wpAnyT (P : Program) (md : Region.Mode) (ops : Array Oper) (Q : Exit → Act → World → Prop) (S : World → Prop) (d : Nat) : Nat → Array Bool → Act → World → Prop
  | 0, listed, a, w => Region.ready md ops listed = [] ∧ Q .normal a w
  | fuel + 1, listed, a, w =>
    (Region.ready md ops listed = [] → Q .normal a w) ∧
    ∀ i ∈ Region.ready md ops listed, wpOp P ops Q i (fun a' w' => ((listed.setIfInBounds i true).getD d false = false → S w') ∧ wpAnyT P md ops Q S d fuel (listed.setIfInBounds i true) a' w') a w
theorem wpAny_of_T : ∀ (fuel : Nat) (listed : Array Bool) (a : Act) (w : World), wpAnyT P md ops Q S d fuel listed a w → wpAny P md ops Q fuel listed a w
  | 0, _, _, _, h => h
  | fuel + 1, _, _, _, h => ⟨h.1, fun i hi => wpOp_mono (fun a' w' h' => wpAny_of_T fuel _ a' w' h'.2) (h.2 i hi)⟩
theorem getD_false {listed : Array Bool} {m : Nat} (h : listed.getD m true = false) : listed.getD m false = false := by
  by_cases hs : m < listed.size
  · simp [Array.getD, hs] at h ⊢; exact h
  · simp [Array.getD, hs]
theorem vac {b : Bool} {p : Prop} (hb : b = true) : b = false → p := fun h => by rw [hb] at h; cases h
theorem getD_unlisted {listed : Array Bool} {j m : Nat} (h : listed.getD m true = false) (hne : j ≠ m) : (listed.setIfInBounds j true).getD m true = false := by
  rw [getD_set_ne true hne]; exact h
theorem wpAnyT_first {i : Nat} {oi : Oper} {v : Value} {ms : List Nat} (hi : ops[i]? = some oi) (hsel : ∀ (j : Nat) (o : Oper) cs b, ops[j]? = some o → o.op ≠ .select cs b)
    (hQ : ∀ c a w, Q (.panic c) (a.put oi.dst v) w → Q (.panic c) a w) (hpath : pathB md ops i ms = true) (hdm : d ∈ ms) :
    ∀ (fuel : Nat) (listed : Array Bool) (a : Act) (w : World),
      (∀ j oj, ops[j]? = some oj → j ≠ i → listed.getD j true = false → (∀ e ∈ oj.after, Region.binds md e = true → e.on ≠ i) → oi.apart ops oj = true) →
      i ∈ Region.ready md ops listed → (∀ m ∈ ms, listed.getD m true = false) → YieldsIf P ops S oi v a → S w →
      wpAnyT P md ops Q S d fuel (listed.setIfInBounds i true) (a.put oi.dst v) w → wpAnyT P md ops Q S d (fuel + 1) listed a w := by
  intro fuel
  induction fuel with
  | zero =>
    intro listed a w _ hr _ hy hS H
    refine ⟨fun h => (by rw [h] at hr; cases hr), fun j hj => ?_⟩
    by_cases hji : j = i
    · subst hji; exact hy.wpOp hi hS ⟨fun _ => hS, H⟩
    · have := ready_mono hj hji
      rw [H.1] at this
      cases this
  | succ fuel ih =>
    intro listed a w hfree hr hms hy hS H
    refine ⟨fun h => (by rw [h] at hr; cases hr), fun j hj => ?_⟩
    by_cases hji : j = i
    · subst hji; exact hy.wpOp hi hS ⟨fun _ => hS, H⟩
    · have hil : listed.getD i false = false := by
        have := (mem_ready.1 hr).1
        by_cases hs : i < listed.size
        · simp [Array.getD, hs] at this ⊢; exact this
        · simp [Array.getD, hs]
      have hnm : j ∉ ms := fun h => not_ready ms i hpath hil hms j h hj
      have hjd : j ≠ d := fun e => hnm (by rw [e]; exact hdm)
      have hid : i ≠ d := fun e => not_ready ms i hpath hil hms d hdm (by rw [← e]; exact hr)
      have hdj : ((listed.setIfInBounds i true).setIfInBounds j true).getD d false = false := getD_false (getD_unlisted (getD_unlisted (hms d hdm) hid) hjd)
      have h1 := H.2 j (ready_mono hj hji)
      obtain ⟨hjun, oj, hoj, hall⟩ := mem_ready.1 hj
      have hnot : ∀ e ∈ oj.after, Region.binds md e = true → e.on ≠ i := fun e he hb heq => by
        have h1 := hall e he hb
        rw [heq, hil] at h1
        cases h1
      have h2 := wpOp_putIf hoj (hfree j oj hoj hji hjun hnot) (fun cs b => hsel i oi cs b hi) (fun cs b => hsel j oj cs b hoj) hQ hy h1
      have hfree' : ∀ k ok, ops[k]? = some ok → k ≠ i → (listed.setIfInBounds j true).getD k true = false →
          (∀ e ∈ ok.after, Region.binds md e = true → e.on ≠ i) → oi.apart ops ok = true := fun k ok hk hki hun hno => by
        refine hfree k ok hk hki ?_ hno
        by_cases hjk : j = k
        · subst hjk; exact hjun
        · rw [getD_set_ne true hjk] at hun; exact hun
      refine wpOp_mono (fun a' w' h3 => ⟨fun _ => h3.2.1 hdj, ih (listed.setIfInBounds j true) a' w' hfree' (ready_mono hr (Ne.symm hji)) (fun m hm => getD_unlisted (hms m hm) (fun e => hnm (by rw [e]; exact hm))) h3.1 (h3.2.1 hdj) ?_⟩) h2
      rw [Array.setIfInBounds_comm _ _ hji]
      exact h3.2.2
theorem wpAnyT_take {i : Nat} {oi : Oper} {v : Value} (ms : List Nat) {fuel : Nat} {listed : Array Bool} {a : Act} {w : World} (hi : ops[i]? = some oi)
    (hs : Region.noSelect ops = true) (hf : Region.free md ops listed i = true) (hr : (Region.ready md ops listed).contains i = true)
    (hp : (pathB md ops i ms && ms.contains d && ms.all fun m => listed.getD m true == false) = true)
    (hQ : ∀ c a w, Q (.panic c) (a.put oi.dst v) w → Q (.panic c) a w) (hy : YieldsIf P ops S oi v a) (hS : S w)
    (h : wpAnyT P md ops Q S d fuel (listed.setIfInBounds i true) (a.put oi.dst v) w) : wpAnyT P md ops Q S d (fuel + 1) listed a w := by
  simp only [Bool.and_eq_true, List.all_eq_true] at hp
  exact wpAnyT_first hi (Region.noSelect_spec hs) hQ hp.1.1 (by simpa using hp.1.2) fuel listed a w (Region.free_spec hi hf) (by simpa using hr) (fun m hm => by simpa using hp.2 m hm) hy hS h
/-- Only one may come up. -/
theorem wpAnyT_one {i : Nat} {o : Oper} {fuel : Nat} {listed : Array Bool} {a : Act} {w : World} (hr : Region.ready md ops listed = [i]) (ho : ops[i]? = some o)
    (h : ∀ K' : Act → World → Prop, Shut (∀ a w, ((listed.setIfInBounds i true).getD d false = false → S w) → wpAnyT P md ops Q S d fuel (listed.setIfInBounds i true) a w → K' a w) → if Region.wanted o (yielded ops a.tmps) = true then Oper.wp P o a w K' Q else K' (a.put o.dst undef) w) :
    wpAnyT P md ops Q S d (fuel + 1) listed a w := by
  refine ⟨fun h0 => (by rw [h0] at hr; cases hr), fun j hj => ?_⟩
  rw [hr, List.mem_singleton] at hj
  subst hj
  exact wpOp_step ho (fun K' hK => h K' (fun a w hS hW => hK a w ⟨hS, hW⟩))
theorem wpAnyT_done {listed : Array Bool} {a : Act} {w : World} (hr : Region.ready md ops listed = []) (h : Q .normal a w) : ∀ fuel, wpAnyT P md ops Q S d fuel listed a w
  | 0 => ⟨hr, h⟩
  | _ + 1 => ⟨fun _ => h, by rw [hr]; simp⟩
theorem wp_region_T {id : Nat} {a : Act} {w : World} (S : World → Prop) (d : Nat) (hm : P.follows .mixedOrders = true)
    (h : wpAnyT P .any ops Q S d ops.size (Array.replicate ops.size false) a w.drew) : (Code.region id ops true).wp P Q a w :=
  wp_region_any hm (wpAny_of_T _ _ _ _ h)
end Go.Proofs.Ytmehlgebbbkdiaa.Ix

/-
  A log's state by data: what may be, and what state comes. No function is named here.
-/
namespace Go.Proofs.Ytmehlgebbbkdiaa.Um
open Go.RowKit Go.Maps
set_option linter.unusedVariables false
/-- A state. -/
structure Md where
  ba : Int
  fi : Int
  du : Int
  nx : Int
  li : Int
  rs : List (List UInt8)
  fa : Bool
  cl : Bool
/-- A call: its kind, its number, its data. -/
structure Cl where
  k : Int
  n : Int
  d : List UInt8
/-- A result. -/
structure Rs where
  e : Int
  n : Int
  d : List UInt8
def ms (b : Bool) (m : Md) : Option Md := if b = true then some m else none
def fitsB (c : Cl) : Bool :=
  if c.k = 1 ∨ c.k = 2 then decide (c.n = 0)
  else if c.k = 4 ∨ c.k = 5 ∨ c.k = 6 then decide (c.d.length = 0)
  else if c.k = 3 ∨ c.k = 7 then decide (c.n = 0 ∧ c.d.length = 0)
  else false
def bareB (r : Rs) : Bool := decide (r.n = 0 ∧ r.d.length = 0)
def raiseS (m : Md) (n : Int) : Option Md := if m.du < n then (if n ≤ m.li then some { m with du := n } else none) else some m
def cutS (m : Md) (n : Int) : Option Md := if n ≤ m.fi ∨ n ≤ m.nx then (raiseS m n).map (fun m => { m with fi := max m.fi n }) else none
def resB (m : Md) (d : List UInt8) (n : Int) : Bool := decide (m.fa = false ∧ d.length ≤ 4096 ∧ n = m.nx ∧ n ≤ 9223372036854775806)
def reserveS (m : Md) (d : List UInt8) (n : Int) : Option Md := if resB m d n = true then some { m with rs := m.rs ++ [d], nx := m.nx + 1 } else none
def loseS (m : Md) (n : Int) : Option Md := if m.du ≤ n then some { m with li := min m.li n } else none
def refuseS (m : Md) (e : Int) : Option Md :=
  if e = 40 then some { m with fa := true }
  else if e = 3 ∨ e = 9 then (if m.fa = false then some m else none)
  else if e = 44 then (if m.fa = false ∧ m.nx = 9223372036854775807 then some m else none)
  else none
def appendS (m : Md) (c : Cl) (r : Rs) : Option Md :=
  if r.d.length = 0 then
    if r.e = 0 then (if c.k = 2 ∨ r.n < m.li then reserveS m c.d r.n else none)
    else if r.e = 40 ∧ r.n ≠ 0 then (reserveS m c.d r.n).bind (fun m => loseS m r.n)
    else if r.n = 0 then refuseS m r.e else none
  else none
def syncS (m : Md) (r : Rs) : Option Md :=
  if bareB r = true then
    if r.e = 0 then (if m.fa = false ∧ m.nx ≤ m.li then some m else none)
    else if r.e = 40 then some { m with fa := true } else none
  else none
def closeS (m : Md) (r : Rs) : Option Md := (syncS m r).map (fun m => { m with cl := true })
def reservedB (m : Md) (n : Int) : Bool := decide (m.fi ≤ n ∧ n < m.nx)
def hasB (m : Md) (n : Int) (d : List UInt8) : Bool := decide (m.ba ≤ n ∧ m.rs[(n - m.ba).toNat]? = some d)
def readS (m : Md) (c : Cl) (r : Rs) : Option Md :=
  if r.e = 0 then (if r.n = c.n ∧ reservedB m c.n = true ∧ hasB m c.n r.d = true then raiseS m (c.n + 1) else none)
  else if bareB r = true then
    if r.e = 43 then (if c.n < m.fi then some m else none)
    else if r.e = 22 then (if reservedB m c.n = true then some m else none)
    else if r.e = 42 ∧ c.k = 4 then (if m.du ≤ c.n ∧ m.fi ≤ c.n then some m else none)
    else if r.e = 40 ∧ c.k = 5 then (if m.du ≤ c.n then some { m with fa := true } else none)
    else none
  else none
def truncS (m : Md) (n : Int) (r : Rs) : Option Md :=
  if r.d.length = 0 then
    if r.e = 40 ∧ r.n ≠ 0 then (if r.n = n ∧ m.fi < n then (cutS m n).map (fun m => { m with fa := true }) else none)
    else if r.n = 0 then
      if r.e = 40 then some { m with fa := true }
      else if m.fa = false then
        if r.e = 0 then cutS m n
        else if r.e = 8 then (if m.du < n ∧ m.fi < n then some m else none)
        else if r.e = 9 then some m else none
      else none
    else none
  else none
def answerS (m : Md) (c : Cl) (r : Rs) : Option Md :=
  if fitsB c = true then
    if r.e = 41 then (if m.cl = true ∧ bareB r = true then some m else none)
    else if m.cl = false then
      if c.k = 1 ∨ c.k = 2 then appendS m c r
      else if c.k = 3 then syncS m r
      else if c.k = 4 ∨ c.k = 5 then readS m c r
      else if c.k = 6 then truncS m c.n r
      else if c.k = 7 then closeS m r
      else some m
    else none
  else none
def takeS (m : Md) (c : Cl) : Option Md :=
  if fitsB c = true then
    if c.k = 1 ∨ c.k = 2 then answerS m ⟨2, 0, c.d⟩ ⟨0, m.nx, []⟩
    else if c.k = 6 then answerS m c ⟨0, 0, []⟩
    else if c.k = 7 then (if m.cl = false then some { m with cl := true } else none)
    else none
  else none
def newS (b : Int) : Md := ⟨b, b, b, b, 9223372036854775807, [], false, false⟩
def zeroS : Md := ⟨0, 0, 0, 0, 0, [], false, false⟩
/-- Numbers of 64 bits. -/
def I64 (n : Int) : Prop := -9223372036854775808 ≤ n ∧ n ≤ 9223372036854775807
/-- Records that can be read, whatever is done to the block sb. -/
def Rk (sb : Nat) (w : World) (v : Value) (ls : List (List UInt8)) : Prop := ∃ vs, ∀ w', But (fun k => k = sb) w w' → Row w' v vs ∧ Sls w' vs ls
theorem Rk.but {sb : Nat} {w w' : World} {v : Value} {ls : List (List UInt8)} (h : Rk sb w v ls) (hb : But (fun k => k = sb) w w') : Rk sb w' v ls := by
  obtain ⟨vs, h⟩ := h
  exact ⟨vs, fun u hu => h u (hb.trans hu)⟩
theorem Rk.of {sb : Nat} {w0 w : World} {v : Value} {vs : List Value} {ls : List (List UInt8)} (hr : Row w0 v vs) (hs : Sls w0 vs ls) (hb : Below w0.heap.size w0 w) (hsb : w0.heap.size ≤ sb) : Rk sb w v ls := by
  refine ⟨vs, fun u hu => ?_⟩
  have hB : Below w0.heap.size w0 u := hb.trans (hu.below hb.size (fun k hk => by omega))
  exact ⟨Below.row hB hr, Below.sls hB hs⟩
def cellsOf (m : Md) (v : Value) : Array Value := #[.int .i64 m.ba, .int .i64 m.fi, .int .i64 m.du, .int .i64 m.nx, .int .i64 m.li, v, .bool m.fa, .bool m.cl]
end Go.Proofs.Ytmehlgebbbkdiaa.Um

/-
  A state in memory; must, fits, bare, bytes.Equal.
-/
namespace Go.Proofs.Ytmehlgebbbkdiaa.Um
open Go.RowKit Go.Maps
set_option linter.unusedVariables false
set_option linter.unusedSimpArgs false
theorem cell_of {w : World} {b off : Nat} {cs : Array Value} {T : TypeId} {fz : Nat × Nat} (h : w.heap[b]? = some (.cells cs T fz)) : w.cell? ⟨b, off, none⟩ = cs[off]? := by simp [World.cell?, h]
theorem frz_of {w : World} {b off : Nat} {cs : Array Value} {T : TypeId} (h : w.heap[b]? = some (.cells cs T (0, 0))) : w.frozen? ⟨b, off, none⟩ = false := by
  simp [World.frozen?, h]
/-- At the block sb lies the state m. -/
def St (sb : Nat) (w : World) (m : Md) : Prop := ∃ v, w.heap[sb]? = some (.cells (cellsOf m v) 58 (0, 0)) ∧ Rk sb w v m.rs
theorem St.lt {sb : Nat} {w : World} {m : Md} (h : St sb w m) : sb < w.heap.size := by
  obtain ⟨v, h, _⟩ := h
  exact heap_lt h
theorem St.below {sb : Nat} {w w' : World} {m : Md} (h : St sb w m) (hb : Below w.heap.size w w') : St sb w' m := by
  have hl := h.lt
  obtain ⟨v, h, hk⟩ := h
  exact ⟨v, by rw [hb.block sb hl]; exact h, hk.but (But.of_below hb _)⟩
theorem St.drew {sb : Nat} {w : World} {m : Md} (h : St sb w m) (n : Nat) : St sb (w.drewN n) m := h.below (show Below w.heap.size w (w.drewN n) from ⟨rfl, by first | rfl | simp, by first | rfl | simp, Nat.le_refl _, fun _ _ => rfl⟩)
theorem but_set (w : World) (sb j : Nat) (x : Value) : But (fun k => k = sb) w (w.setCell ⟨sb, j, none⟩ x) := by
  have g := grown_setCell w sb j x
  exact ⟨g.os, g.tape, g.output, g.size, fun k hk hx => g.block k hk (fun e => hx (by cases e; rfl))⟩
/-- The cells as they are read. -/
theorem St.open {sb : Nat} {w : World} {m : Md} (h : St sb w m) : ∃ v, Rk sb w v m.rs ∧ w.cell? ⟨sb, 0, none⟩ = some (.int .i64 m.ba) ∧ w.cell? ⟨sb, 1, none⟩ = some (.int .i64 m.fi) ∧ w.cell? ⟨sb, 2, none⟩ = some (.int .i64 m.du) ∧ w.cell? ⟨sb, 3, none⟩ = some (.int .i64 m.nx) ∧ w.cell? ⟨sb, 4, none⟩ = some (.int .i64 m.li) ∧ w.cell? ⟨sb, 5, none⟩ = some v ∧ w.cell? ⟨sb, 6, none⟩ = some (.bool m.fa) ∧ w.cell? ⟨sb, 7, none⟩ = some (.bool m.cl) ∧ (∀ j, w.frozen? ⟨sb, j, none⟩ = false) := by
  obtain ⟨v, h, hk⟩ := h
  refine ⟨v, hk, ?_, ?_, ?_, ?_, ?_, ?_, ?_, ?_, fun j => frz_of h⟩ <;> (rw [cell_of h]; rfl)
theorem St.set {sb : Nat} {w : World} {m m' : Md} (h : St sb w m) (j : Nat) (x : Value) (hr : m'.rs = m.rs) (hc : ∀ v, (cellsOf m v).set! j x = cellsOf m' v) : St sb (w.setCell ⟨sb, j, none⟩ x) m' := by
  obtain ⟨v, h, hk⟩ := h
  exact ⟨v, by rw [heap_setCell_same w sb j _ _ _ h]; exact congrArg (fun a => some (Obj.cells a 58 (0, 0))) (hc v), by rw [hr]; exact hk.but (but_set _ _ _ _)⟩
theorem St.setFi {sb : Nat} {w : World} {m : Md} (h : St sb w m) (n : Int) : St sb (w.setCell ⟨sb, 1, none⟩ (.int .i64 n)) { m with fi := n } := h.set 1 _ rfl fun v => rfl
theorem St.setDu {sb : Nat} {w : World} {m : Md} (h : St sb w m) (n : Int) : St sb (w.setCell ⟨sb, 2, none⟩ (.int .i64 n)) { m with du := n } := h.set 2 _ rfl fun v => rfl
theorem St.setNx {sb : Nat} {w : World} {m : Md} (h : St sb w m) (n : Int) : St sb (w.setCell ⟨sb, 3, none⟩ (.int .i64 n)) { m with nx := n } := h.set 3 _ rfl fun v => rfl
theorem St.setLi {sb : Nat} {w : World} {m : Md} (h : St sb w m) (n : Int) : St sb (w.setCell ⟨sb, 4, none⟩ (.int .i64 n)) { m with li := n } := h.set 4 _ rfl fun v => rfl
theorem St.setFa {sb : Nat} {w : World} {m : Md} (h : St sb w m) (n : Bool) : St sb (w.setCell ⟨sb, 6, none⟩ (.bool n)) { m with fa := n } := h.set 6 _ rfl fun v => rfl
theorem St.setCl {sb : Nat} {w : World} {m : Md} (h : St sb w m) (n : Bool) : St sb (w.setCell ⟨sb, 7, none⟩ (.bool n)) { m with cl := n } := h.set 7 _ rfl fun v => rfl
def thr : List PanicEntry := [{ v := .iface 56 (.agg #[]), recovered := false }]
/-- What a change of a state owes: it goes as r says, or what may not be goes up. -/
def Goes (sb : Nat) (w : World) (r : Option Md) (e : Ending) (w' : World) : Prop :=
  But (fun k => k = sb) w w' ∧ match r with
    | some m' => e = .returned (.tuple #[]) ∧ St sb w' m'
    | none => e = .panicked thr
theorem Goes.some {sb : Nat} {w w' : World} {m : Md} (hb : But (fun k => k = sb) w w') (h : St sb w' m) : Goes sb w (.some m) (.returned (.tuple #[])) w' := ⟨hb, rfl, h⟩
theorem Goes.none {sb : Nat} {w w' : World} (hb : But (fun k => k = sb) w w') : Goes sb w .none (.panicked thr) w' := ⟨hb, rfl⟩
theorem Goes.behind {sb : Nat} {w w1 w' : World} {r : Option Md} {e : Ending} (hb : But (fun k => k = sb) w w1) (h : Goes sb w1 r e w') : Goes sb w r e w' := ⟨hb.trans h.1, h.2⟩
theorem must_yes (w : World) : Calls Try.prog 34 #[.bool true] w fun e w' => e = .returned (.tuple #[]) ∧ w' = w := by
  go_enter Try.func34, Try.ntmps34
  go_wp2_with fail
  first | go_end0 | refine bodyPost_ret (results_none rfl _ _ _) rfl ?_
  exact ⟨rfl, rfl⟩
theorem must_no (w : World) : Calls Try.prog 34 #[.bool false] w fun e w' => e = .panicked thr ∧ w' = w := by
  go_enter Try.func34, Try.ntmps34
  go_wp2_with fail
  exact ⟨rfl, rfl, rfl⟩
theorem fits_any (w : World) (c : Cl) (ao : Option Addr) (ca : Nat) : Calls Try.prog 35 #[.agg #[.int .i64 c.k, .int .i64 c.n, .slice ao c.d.length ca]] w fun e w' => e = .returned (.bool (fitsB c)) ∧ Below w.heap.size w w' := by
  obtain ⟨k, n, d⟩ := c
  obtain ⟨L, hL⟩ : ∃ L : Nat, Hid (d.length = L) := ⟨_, rfl⟩
  have B1 := hide (box_below w (.cells #[.int .i64 k, .int .i64 n, .slice ao L ca] 33))
  unfold fitsB
  simp only [hL.out]
  by_cases h1 : k = 1
  · subst h1
    go_enter Try.func35, Try.ntmps35
    go_wp2_with fail
    go_ret
    refine ⟨congrArg Ending.returned (congrArg Value.bool ?_), B1.out⟩
    clear B1 hL
    first | rfl | (simp; done) | (cases L <;> simp <;> omega) | (by_cases hx : n = 0 <;> simp [hx])
  by_cases h2 : k = 2
  · subst h2
    go_enter Try.func35, Try.ntmps35
    go_wp2_with fail
    go_ret
    refine ⟨congrArg Ending.returned (congrArg Value.bool ?_), B1.out⟩
    clear B1 hL
    first | rfl | (simp; done) | (cases L <;> simp <;> omega) | (by_cases hx : n = 0 <;> simp [hx])
  by_cases h4 : k = 4
  · subst h4
    go_enter Try.func35, Try.ntmps35
    go_wp2_with fail
    go_ret
    refine ⟨congrArg Ending.returned (congrArg Value.bool ?_), B1.out⟩
    clear B1 hL
    first | rfl | (simp; done) | (cases L <;> simp <;> omega) | (by_cases hx : n = 0 <;> simp [hx])
  by_cases h5 : k = 5
  · subst h5
    go_enter Try.func35, Try.ntmps35
    go_wp2_with fail
    go_ret
    refine ⟨congrArg Ending.returned (congrArg Value.bool ?_), B1.out⟩
    clear B1 hL
    first | rfl | (simp; done) | (cases L <;> simp <;> omega) | (by_cases hx : n = 0 <;> simp [hx])
  by_cases h6 : k = 6
  · subst h6
    go_enter Try.func35, Try.ntmps35
    go_wp2_with fail
    go_ret
    refine ⟨congrArg Ending.returned (congrArg Value.bool ?_), B1.out⟩
    clear B1 hL
    first | rfl | (simp; done) | (cases L <;> simp <;> omega) | (by_cases hx : n = 0 <;> simp [hx])
  by_cases h3 : k = 3
  · subst h3
    by_cases hn : n = 0
    · subst hn
      go_enter Try.func35, Try.ntmps35
      go_wp2_with fail
      go_ret
      refine ⟨congrArg Ending.returned (congrArg Value.bool ?_), B1.out⟩
      clear B1 hL
      first | rfl | (simp; done) | (cases L <;> simp <;> omega) | (by_cases hx : n = 0 <;> simp [hx])
    · have gn : (n == 0) = false := by simpa using hn
      go_enter Try.func35, Try.ntmps35
      go_wp2_with fail
      go_ret
      refine ⟨congrArg Ending.returned (congrArg Value.bool ?_), B1.out⟩
      clear B1 hL
      first | rfl | simp [hn] | (cases L <;> simp [hn] <;> omega) | (by_cases hx : n = 0 <;> simp [hx])
  by_cases h7 : k = 7
  · subst h7
    by_cases hn : n = 0
    · subst hn
      go_enter Try.func35, Try.ntmps35
      go_wp2_with fail
      go_ret
      refine ⟨congrArg Ending.returned (congrArg Value.bool ?_), B1.out⟩
      clear B1 hL
      first | rfl | (simp; done) | (cases L <;> simp <;> omega) | (by_cases hx : n = 0 <;> simp [hx])
    · have gn : (n == 0) = false := by simpa using hn
      go_enter Try.func35, Try.ntmps35
      go_wp2_with fail
      go_ret
      refine ⟨congrArg Ending.returned (congrArg Value.bool ?_), B1.out⟩
      clear B1 hL
      first | rfl | simp [hn] | (cases L <;> simp [hn] <;> omega) | (by_cases hx : n = 0 <;> simp [hx])
  have g1 : (k == 1) = false := by simpa using h1
  have g2 : (k == 2) = false := by simpa using h2
  have g3 : (k == 3) = false := by simpa using h3
  have g4 : (k == 4) = false := by simpa using h4
  have g5 : (k == 5) = false := by simpa using h5
  have g6 : (k == 6) = false := by simpa using h6
  have g7 : (k == 7) = false := by simpa using h7
  go_enter Try.func35, Try.ntmps35
  go_wp2_with fail
  go_ret
  refine ⟨congrArg Ending.returned (congrArg Value.bool ?_), B1.out⟩
  clear B1 hL
  first | rfl | simp [h1, h2, h3, h4, h5, h6, h7] | (cases L <;> simp [h1, h2, h3, h4, h5, h6, h7] <;> omega) | (by_cases hx : n = 0 <;> simp [hx])
theorem bare_any (w : World) (r : Rs) (ao : Option Addr) (ca : Nat) : Calls Try.prog 37 #[.agg #[.int .i64 r.e, .int .i64 r.n, .slice ao r.d.length ca]] w fun e w' => e = .returned (.bool (bareB r)) ∧ Below w.heap.size w w' := by
  obtain ⟨k, n, d⟩ := r
  obtain ⟨L, hL⟩ : ∃ L : Nat, Hid (d.length = L) := ⟨_, rfl⟩
  have B1 := hide (box_below w (.cells #[.int .i64 k, .int .i64 n, .slice ao L ca] 35))
  unfold bareB
  simp only [hL.out]
  by_cases hn : n = 0
  · subst hn
    go_enter Try.func37, Try.ntmps37
    go_wp2_with fail
    go_ret
    refine ⟨congrArg Ending.returned (congrArg Value.bool ?_), B1.out⟩
    clear B1 hL
    first | rfl | (simp; done) | (cases L <;> simp <;> omega) | (by_cases hx : n = 0 <;> simp [hx])
  · have gn : (n == 0) = false := by simpa using hn
    go_enter Try.func37, Try.ntmps37
    go_wp2_with fail
    go_ret
    refine ⟨congrArg Ending.returned (congrArg Value.bool ?_), B1.out⟩
    clear B1 hL
    first | rfl | simp [hn] | (cases L <;> simp [hn] <;> omega) | (by_cases hx : n = 0 <;> simp [hx])
end Go.Proofs.Ytmehlgebbbkdiaa.Um

/-
  reserved, raise, lose, refuse, cut.
-/
namespace Go.Proofs.Ytmehlgebbbkdiaa.Um
open Go.RowKit Go.Maps
set_option linter.unusedVariables false
set_option linter.unusedSimpArgs false
theorem reserved_any (w : World) {sb : Nat} {m : Md} (h : St sb w m) (n : Int) : Calls Try.prog 47 #[.pointer (some ⟨sb, 0, none⟩), .int .i64 n] w fun e w' => e = .returned (.bool (reservedB m n)) ∧ w' = w := by
  obtain ⟨v, -, -, c1, -, c3, -, -, -, -, -⟩ := h.open
  unfold reservedB
  by_cases h1 : m.fi ≤ n
  · by_cases h2 : n < m.nx
    · go_enter Try.func47, Try.ntmps47
      go_wp2_with fail
      go_ret
      exact ⟨by simp [h1, h2], rfl⟩
    · have k2 : decide (n < m.nx) = false := by simp; omega
      go_enter Try.func47, Try.ntmps47
      go_wp2_with fail
      go_ret
      exact ⟨by simp [h1, h2], rfl⟩
  · have k1 : decide (m.fi ≤ n) = false := by simp; omega
    go_enter Try.func47, Try.ntmps47
    go_wp2_with fail
    go_ret
    exact ⟨by simp [h1], rfl⟩
theorem raise_any (w : World) {sb : Nat} {m : Md} (h : St sb w m) (n : Int) : Calls Try.prog 49 #[.pointer (some ⟨sb, 0, none⟩), .int .i64 n] w fun e w' => Goes sb w (raiseS m n) e w' := by
  obtain ⟨v, -, -, -, c2, -, c4, -, -, -, z⟩ := h.open
  have z2 := z 2
  have H := hide h
  unfold raiseS
  clear h z
  by_cases h1 : m.du < n
  · by_cases h2 : n ≤ m.li
    · have FIN : Hid (Goes sb w (some { m with du := n }) (.returned (.tuple #[])) (w.setCell ⟨sb, 2, none⟩ (.int .i64 n))) := hide (Goes.some (but_set _ _ _ _) (H.out.setDu n))
      rw [if_pos h1, if_pos h2]
      go_enter Try.func49, Try.ntmps49
      go_wp2_with (go_at_call 34; refine (must_yes _).mono ?_; rintro e w' ⟨rfl, hw⟩; rw [hw]; clear hw w')
      first | go_end0 | refine bodyPost_ret (results_none rfl _ _ _) rfl ?_
      exact FIN.out
    · have k2 : decide (n ≤ m.li) = false := by simp; omega
      rw [if_pos h1, if_neg h2]
      go_enter Try.func49, Try.ntmps49
      go_wp2_with (go_at_call 34; refine (must_no _).mono ?_; rintro e w' ⟨rfl, hw⟩; rw [hw]; clear hw w')
      exact ⟨rfl, Goes.none (But.refl _ _)⟩
  · have k1 : decide (m.du < n) = false := by simp; omega
    rw [if_neg h1]
    go_enter Try.func49, Try.ntmps49
    go_wp2_with fail
    first | go_end0 | refine bodyPost_ret (results_none rfl _ _ _) rfl ?_
    exact Goes.some (But.refl _ _) H.out
theorem lose_any (w : World) {sb : Nat} {m : Md} (h : St sb w m) (n : Int) : Calls Try.prog 45 #[.pointer (some ⟨sb, 0, none⟩), .int .i64 n] w fun e w' => Goes sb w (loseS m n) e w' := by
  obtain ⟨v, -, -, -, c2, -, c4, -, -, -, z⟩ := h.open
  have z4 := z 4
  have H := hide h
  unfold loseS
  clear h z
  by_cases h1 : m.du ≤ n
  · have FIN : Hid (Goes sb w (some { m with li := min m.li n }) (.returned (.tuple #[])) (w.setCell ⟨sb, 4, none⟩ (.int .i64 (min m.li n)))) := hide (Goes.some (but_set _ _ _ _) (H.out.setLi _))
    rw [if_pos h1]
    by_cases h2 : n < m.li
    · have hm : min m.li n = n := Int.min_eq_right (by omega)
      rw [hm] at FIN ⊢
      go_enter Try.func45, Try.ntmps45
      go_wp2_with (go_at_call 34; refine (must_yes _).mono ?_; rintro e w' ⟨rfl, hw⟩; rw [hw]; clear hw w')
      first | go_end0 | refine bodyPost_ret (results_none rfl _ _ _) rfl ?_
      first | exact FIN.out | (rw [hm]; exact FIN.out)
    · have hm : min m.li n = m.li := Int.min_eq_left (by omega)
      rw [hm] at FIN ⊢
      have k2 : decide (n < m.li) = false := by simp; omega
      go_enter Try.func45, Try.ntmps45
      go_wp2_with (go_at_call 34; refine (must_yes _).mono ?_; rintro e w' ⟨rfl, hw⟩; rw [hw]; clear hw w')
      first | go_end0 | refine bodyPost_ret (results_none rfl _ _ _) rfl ?_
      first | exact FIN.out | (rw [hm]; exact FIN.out)
  · have k1 : decide (m.du ≤ n) = false := by simp; omega
    rw [if_neg h1]
    go_enter Try.func45, Try.ntmps45
    go_wp2_with (go_at_call 34; refine (must_no _).mono ?_; rintro e w' ⟨rfl, hw⟩; rw [hw]; clear hw w')
    exact ⟨rfl, Goes.none (But.refl _ _)⟩
theorem refuse_any (w : World) {sb : Nat} {m : Md} (h : St sb w m) (n : Int) : Calls Try.prog 46 #[.pointer (some ⟨sb, 0, none⟩), .int .i64 n] w fun e w' => Goes sb w (refuseS m n) e w' := by
  obtain ⟨v, -, -, -, -, c3, -, -, c6, -, z⟩ := h.open
  have z6 := z 6
  have H := hide h
  unfold refuseS
  clear h z
  by_cases h1 : n = 40
  · subst h1
    have FIN : Hid (Goes sb w (some { m with fa := true }) (.returned (.tuple #[])) (w.setCell ⟨sb, 6, none⟩ (.bool true))) := hide (Goes.some (but_set _ _ _ _) (H.out.setFa _))
    rw [if_pos rfl]
    go_enter Try.func46, Try.ntmps46
    go_wp2_with fail
    first | go_end0 | refine bodyPost_ret (results_none rfl _ _ _) rfl ?_
    exact FIN.out
  rw [if_neg h1]
  have g1 : (n == 40) = false := by simpa using h1
  by_cases h2 : n = 3 ∨ n = 9
  · rw [if_pos h2]
    by_cases hf : m.fa = false
    · rw [if_pos hf]
      have FIN : Hid (Goes sb w (some m) (.returned (.tuple #[])) w) := hide (Goes.some (But.refl _ _) H.out)
      rw [hf] at c6
      rcases h2 with rfl | rfl
      · go_enter Try.func46, Try.ntmps46
        go_wp2_with (go_at_call 34; refine (must_yes _).mono ?_; rintro e w' ⟨rfl, hw⟩; rw [hw]; clear hw w')
        first | go_end0 | refine bodyPost_ret (results_none rfl _ _ _) rfl ?_
        exact FIN.out
      · go_enter Try.func46, Try.ntmps46
        go_wp2_with (go_at_call 34; refine (must_yes _).mono ?_; rintro e w' ⟨rfl, hw⟩; rw [hw]; clear hw w')
        first | go_end0 | refine bodyPost_ret (results_none rfl _ _ _) rfl ?_
        exact FIN.out
    · rw [if_neg hf]
      have hf' : m.fa = true := by simpa using hf
      rw [hf'] at c6
      rcases h2 with rfl | rfl
      · go_enter Try.func46, Try.ntmps46
        go_wp2_with (go_at_call 34; refine (must_no _).mono ?_; rintro e w' ⟨rfl, hw⟩; rw [hw]; clear hw w')
        exact ⟨rfl, Goes.none (But.refl _ _)⟩
      · go_enter Try.func46, Try.ntmps46
        go_wp2_with (go_at_call 34; refine (must_no _).mono ?_; rintro e w' ⟨rfl, hw⟩; rw [hw]; clear hw w')
        exact ⟨rfl, Goes.none (But.refl _ _)⟩
  rw [if_neg h2]
  have g3 : (n == 3) = false := by simp; omega
  have g9 : (n == 9) = false := by simp; omega
  by_cases h4 : n = 44
  · subst h4
    rw [if_pos rfl]
    by_cases hf : m.fa = false
    · rw [hf] at c6
      by_cases hx : m.nx = 9223372036854775807
      · rw [if_pos ⟨hf, hx⟩]
        have FIN : Hid (Goes sb w (some m) (.returned (.tuple #[])) w) := hide (Goes.some (But.refl _ _) H.out)
        rw [hx] at c3
        go_enter Try.func46, Try.ntmps46
        go_wp2_with (go_at_call 34; refine (must_yes _).mono ?_; rintro e w' ⟨rfl, hw⟩; rw [hw]; clear hw w')
        first | go_end0 | refine bodyPost_ret (results_none rfl _ _ _) rfl ?_
        exact FIN.out
      · rw [if_neg (fun c => hx c.2)]
        have gx : (m.nx == 9223372036854775807) = false := by simpa using hx
        go_enter Try.func46, Try.ntmps46
        go_wp2_with (go_at_call 34; refine (must_no _).mono ?_; rintro e w' ⟨rfl, hw⟩; rw [hw]; clear hw w')
        exact ⟨rfl, Goes.none (But.refl _ _)⟩
    · have hf' : m.fa = true := by simpa using hf
      rw [if_neg (fun c => hf c.1)]
      rw [hf'] at c6
      go_enter Try.func46, Try.ntmps46
      go_wp2_with (go_at_call 34; refine (must_no _).mono ?_; rintro e w' ⟨rfl, hw⟩; rw [hw]; clear hw w')
      exact ⟨rfl, Goes.none (But.refl _ _)⟩
  · rw [if_neg h4]
    have g4 : (n == 44) = false := by simpa using h4
    go_enter Try.func46, Try.ntmps46
    go_wp2_with (go_at_call 34; refine (must_no _).mono ?_; rintro e w' ⟨rfl, hw⟩; rw [hw]; clear hw w')
    exact ⟨rfl, Goes.none (But.refl _ _)⟩
end Go.Proofs.Ytmehlgebbbkdiaa.Um

/-
  bytes.Equal; has, cut.
-/
namespace Go.Proofs.Ytmehlgebbbkdiaa.Um
open Go.RowKit Go.Maps
set_option linter.unusedVariables false
set_option linter.unusedSimpArgs false
set_option maxRecDepth 100000
def fstr (t : List UInt8) : ByteArray := ⟨t.toArray⟩
theorem fstr_list (t : List UInt8) : (fstr t).toList = t := ByteArray.toList_mk t
theorem conv_any (w : World) (v : Value) (t : List UInt8) (h : Sl w v t) : (convert 31 9 v).run Try.prog w = .ok (.string (fstr t)) w := by
  obtain ⟨ao, c, rfl, h1, h2, h3, h4⟩ := h
  by_cases h0 : 0 < t.length
  · obtain ⟨b, off, rfl, _⟩ := h4 0 (by omega)
    have hb : Lib.Bytes w b off (fstr t) := fun i hi => by
      obtain ⟨b', off', e', hc⟩ := h4 i hi
      simp only [Option.some.injEq, Addr.mk.injEq] at e'
      obtain ⟨rfl, rfl, _⟩ := e'
      rw [hc]
      rfl
    have := Lib.run_convert_window w 31 5 9 Try.underlying31 Try.underlying5 Try.underlying9 b off (fstr t) hb 0 t.length c (by show 0 + t.length ≤ t.length; omega)
    rw [Nat.add_zero] at this
    rw [this]
    congr 2
    apply ByteArray.ext
    simp [fstr]
  · obtain rfl := List.length_eq_zero_iff.1 (by omega : t.length = 0)
    cases ao with
    | none => exact run_convert_bytes_nil w 31 5 Try.underlying31 Try.underlying5 _ _ 9 Try.underlying9
    | some a =>
      rw [run_convert_bytes_string w 31 9 5 _ _ _ Try.underlying31 Try.underlying5 Try.underlying9]
      rfl
theorem equal_any (w : World) (v v' : Value) (l m : List UInt8) (h : Sl w v l) (h' : Sl w v' m) : Calls Try.prog 30 #[v, v'] w fun e w' => e = .returned (.bool (decide (l = m))) ∧ w' = w := by
  have k1 := conv_any w v l h
  have k2 := conv_any w v' m h'
  have FIN : Hid (((fstr l).toList == (fstr m).toList) = decide (l = m)) := hide (by
    rw [fstr_list, fstr_list]
    by_cases hx : l = m
    · subst hx; simp
    · simp [hx])
  obtain ⟨ao, ca, rfl, _⟩ := h
  obtain ⟨ao', ca', rfl, _⟩ := h'
  obtain ⟨x, hx⟩ : ∃ x, Hid (fstr l = x) := ⟨_, rfl⟩
  obtain ⟨y, hy⟩ : ∃ y, Hid (fstr m = y) := ⟨_, rfl⟩
  rw [hx.out] at k1 FIN
  rw [hy.out] at k2 FIN
  go_enter Try.func30, Try.ntmps30
  go_wp2_with fail
  go_ret
  exact ⟨congrArg Ending.returned (congrArg Value.bool FIN.out), rfl⟩
theorem cut_any (w : World) {sb : Nat} {m : Md} (h : St sb w m) (n : Int) : Calls Try.prog 50 #[.pointer (some ⟨sb, 0, none⟩), .int .i64 n] w fun e w' => Goes sb w (cutS m n) e w' := by
  obtain ⟨v, -, -, c1, -, c3, -, -, -, -, z⟩ := h.open
  have H := hide h
  have RA := hide (raise_any w h n)
  unfold cutS
  clear h z
  by_cases hc : n ≤ m.fi ∨ n ≤ m.nx
  · rw [if_pos hc]
    have TAIL : ∀ (w1 : World) (m1 : Md), St sb w1 m1 → m1.fi = m.fi → But (fun k => k = sb) w w1 → Hid (∃ x : Int, max m1.fi n = x ∧ (if m1.fi < n then x = n else x = m1.fi) ∧ w1.cell? ⟨sb, 1, none⟩ = some (.int .i64 m1.fi) ∧ w1.frozen? ⟨sb, 1, none⟩ = false ∧ Goes sb w (some { m1 with fi := x }) (.returned (.tuple #[])) (w1.setCell ⟨sb, 1, none⟩ (.int .i64 x))) := by
      intro w1 m1 h1 _ hb
      obtain ⟨v1, -, -, d1, -, -, -, -, -, -, z⟩ := h1.open
      exact hide ⟨_, rfl, by split <;> omega, d1, z 1, Goes.some (hb.trans (but_set _ _ _ _)) (h1.setFi _)⟩
    have TAIL := hide TAIL
    have hR : Hid (∀ m1, raiseS m n = some m1 → m1.fi = m.fi) := hide (by
      intro m1 h1
      unfold raiseS at h1
      split at h1
      · split at h1
        · cases h1; rfl
        · cases h1
      · cases h1; rfl)
    obtain ⟨r, hr⟩ : ∃ r, Hid (raiseS m n = r) := ⟨_, rfl⟩
    rw [hr.out] at RA hR ⊢
    cases r with
    | none =>
      rcases Int.lt_or_le m.fi n with h1 | h1
      · have k1 : decide (n ≤ m.fi) = false := by simp; omega
        have k2 : n ≤ m.nx := by omega
        go_enter Try.func50, Try.ntmps50
        go_wp2_with (first
          | (go_at_call 34; refine (must_yes _).mono ?_; rintro e w' ⟨rfl, hw⟩; rw [hw]; clear hw w')
          | (go_at_call 49; refine RA.out.mono ?_; rintro e w1 ⟨g1, rfl⟩))
        exact ⟨rfl, g1, rfl⟩
      · go_enter Try.func50, Try.ntmps50
        go_wp2_with (first
          | (go_at_call 34; refine (must_yes _).mono ?_; rintro e w' ⟨rfl, hw⟩; rw [hw]; clear hw w')
          | (go_at_call 49; refine RA.out.mono ?_; rintro e w1 ⟨g1, rfl⟩))
        exact ⟨rfl, g1, rfl⟩
    | some m1 =>
      have hf := hide (hR.out m1 rfl)
      rcases Int.lt_or_le m.fi n with h1 | h1
      · have k1 : decide (n ≤ m.fi) = false := by simp; omega
        have k2 : n ≤ m.nx := by omega
        have h3 := h1
        rw [← hf.out] at h3
        go_enter Try.func50, Try.ntmps50
        go_wp2_with (first
          | (go_at_call 34; refine (must_yes _).mono ?_; rintro e w' ⟨rfl, hw⟩; rw [hw]; clear hw w')
          | (go_at_call 49; refine RA.out.mono ?_; rintro e w1 ⟨g1, rfl, s1⟩; obtain ⟨x, ex, hx, d1, z1, FIN⟩ := (TAIL.out _ _ s1 hf.out g1).out; rw [if_pos h3] at hx; subst hx; replace FIN := hide FIN; replace ex := hide ex; clear g1 s1))
        first | go_end0 | refine bodyPost_ret (results_none rfl _ _ _) rfl ?_
        have := FIN.out
        simpa [ex.out] using this
      · have h3 := h1
        rw [← hf.out] at h3
        have k3 : decide (m1.fi < n) = false := by simp; omega
        go_enter Try.func50, Try.ntmps50
        go_wp2_with (first
          | (go_at_call 34; refine (must_yes _).mono ?_; rintro e w' ⟨rfl, hw⟩; rw [hw]; clear hw w')
          | (go_at_call 49; refine RA.out.mono ?_; rintro e w1 ⟨g1, rfl, s1⟩; obtain ⟨x, ex, hx, d1, z1, FIN⟩ := (TAIL.out _ _ s1 hf.out g1).out; rw [if_neg (by omega)] at hx; subst hx; replace FIN := hide FIN; replace ex := hide ex; clear g1 s1))
        first | go_end0 | refine bodyPost_ret (results_none rfl _ _ _) rfl ?_
        have := FIN.out
        simpa [ex.out] using this
  · rw [if_neg hc]
    have k1 : decide (n ≤ m.fi) = false := by simp; omega
    have k2 : decide (n ≤ m.nx) = false := by simp; omega
    go_enter Try.func50, Try.ntmps50
    go_wp2_with (go_at_call 34; refine (must_no _).mono ?_; rintro e w' ⟨rfl, hw⟩; rw [hw]; clear hw w')
    exact ⟨rfl, Goes.none (But.refl _ _)⟩
end Go.Proofs.Ytmehlgebbbkdiaa.Um

/-
  has; reserve: a record more.
-/
namespace Go.Proofs.Ytmehlgebbbkdiaa.Um
open Go.RowKit Go.Maps
set_option linter.unusedVariables false
set_option linter.unusedSimpArgs false
set_option maxRecDepth 100000
/-- Bytes that can be read, whatever is done to the block sb. -/
def Sd (sb : Nat) (w : World) (v : Value) (d : List UInt8) : Prop := ∀ w', But (fun k => k = sb) w w' → Sl w' v d
theorem Sd.but {sb : Nat} {w w' : World} {v : Value} {d : List UInt8} (h : Sd sb w v d) (hb : But (fun k => k = sb) w w') : Sd sb w' v d := fun u hu => h u (hb.trans hu)
theorem Sd.below {sb : Nat} {w w' : World} {v : Value} {d : List UInt8} (h : Sd sb w v d) (hb : Below w.heap.size w w') : Sd sb w' v d := h.but (But.of_below hb _)
theorem Sd.of {sb : Nat} {w0 w : World} {v : Value} {d : List UInt8} (hs : Sl w0 v d) (hb : Below w0.heap.size w0 w) (hsb : w0.heap.size ≤ sb) : Sd sb w v d :=
  fun u hu => Below.sl (hb.trans (hu.below hb.size (fun k hk => by omega))) hs
theorem Sd.now {sb : Nat} {w : World} {v : Value} {d : List UInt8} (h : Sd sb w v d) : Sl w v d := h w (But.refl _ _)
theorem Sd.nil (sb : Nat) (w : World) : Sd sb w (.slice none 0 0) [] := fun u _ => Sl.nil u
theorem infoL : (Try.prog.info? 31).map (fun i => (i.zero, i.size, i.bytes)) = some (some (.slice none 0 0), 1, 24) := by kernel_rfl
theorem cap_fits24 {need old : Nat} (h : old < need) (hb : need ≤ 1000000) : Builtin.nextslicecap need old * 24 ≤ 281474976710656 := by
  have := nextslicecap_le_wide h
  omega
/-- append onto a row without room. -/
theorem run_more {w : World} {ao : Option Addr} {vs : List Value} {L : Nat} {cap0 : Nat} (hr : Row w (.slice ao vs.length cap0) vs) (hL : vs.length = L) (hl : L < 1000000) (g : Nat) (x : Value) (hx1 : x.oneCell' = true) (hx : w.cell? ⟨g, 0, none⟩ = some x) (ty : TypeId) :
    ∃ v' w' cur, (Builtin.append_ #[24, 24] ty #[.slice ao L L, .slice (some ⟨g, 0, none⟩) 1 1]).run Try.prog w = .ok v' w' ∧ Below w.heap.size w w' ∧ (∃ ca, v' = .slice (some ⟨w.heap.size, 0, none⟩) (L + 1) ca ∧ L + 1 ≤ ca ∧ ca ≤ maxLen) ∧ w'.heap[w.heap.size]? = some (.cells cur 31 (0, 0)) ∧ cur.toList.take (L + 1) = vs ++ [x] := by
  obtain ⟨i, hi, hz0, hs1, hy⟩ := info_parts infoL
  obtain ⟨ao', ca, e, hn, hlc, hm, hat⟩ := hr
  simp at e
  obtain ⟨rfl, rfl⟩ := e
  subst hL
  have main : ∀ (ad : Addr), (∀ j v, vs[j]? = some v → w.cell? (ad.add j) = some v) → ∃ v' w' cur, (Builtin.append_ #[24, 24] ty #[.slice (some ad) vs.length vs.length, .slice (some ⟨g, 0, none⟩) 1 1]).run Try.prog w = .ok v' w' ∧ Below w.heap.size w w' ∧ (∃ ca, v' = .slice (some ⟨w.heap.size, 0, none⟩) (vs.length + 1) ca ∧ vs.length + 1 ≤ ca ∧ ca ≤ maxLen) ∧ w'.heap[w.heap.size]? = some (.cells cur 31 (0, 0)) ∧ cur.toList.take (vs.length + 1) = vs ++ [x] := by
    intro ad hc
    have hr := run_append_grow (P := Try.prog) w 24 ty 31 i (.slice none 0 0) Try.underlying24 hi hz0 ad vs.length vs.length vs (by rw [hs1]; omega) hc ⟨g, 0, none⟩ 1 1 [x] (by rw [hs1]; rfl) (fun j v hv => by
      rw [addr_add]
      match j with
      | 0 => simp at hv; subst hv; exact hx
      | j + 1 => simp at hv) (by omega) (by omega) (by rw [hy]; exact cap_fits24 (by omega) (by omega))
    have hge := grownCap_ge w (vs.length + 1) vs.length 31
    have hle := grownCap_le_maxLen w (vs.length + 1) vs.length 31 (by unfold maxLen; omega)
    refine ⟨_, _, _, hr, (Below.refl _ w).drew.alloc (Nat.le_refl _) _, ⟨_, rfl, hge, hle⟩, heap_alloc_new w.drew _, ?_⟩
    simp only [Array.toList_append]
    exact List.take_left' (by simp)
  cases ao with
  | some ad =>
    refine main ad fun j v hv => ?_
    obtain ⟨hj, rfl⟩ := List.getElem?_eq_some_iff.1 hv
    obtain ⟨b, off, e, hc⟩ := hat j hj
    simp at e
    subst e
    rw [addr_add]; exact hc
  | none =>
    obtain ⟨rfl, _⟩ := hn rfl
    obtain ⟨v', w', hr, ho, hg, _, hat⟩ := run_append_own_at (P := Try.prog) w w.heap.size 24 ty 31 i (.slice none 0 0) 1 24 Try.underlying24 hi hz0 hs1 hy rfl (by decide) (.slice none 0 0) 0 [] (World.ownsRow_nil _ _ _ _) ⟨g, 0, none⟩ 1 1 [x] rfl (fun j v hv => by
      rw [addr_add]
      match j with
      | 0 => simp at hv; subst hv; exact hx
      | j + 1 => simp at hv) (fun u hu => by simp at hu; subst hu; exact hx1) (by unfold maxLen; omega) (by omega) (Nat.le_refl _)
    rcases ho.2 with ⟨rfl, h0⟩ | ⟨g', cap, cur, rfl, hgb, hh, h1, h2, h3, h4⟩
    · simp at h0
    · have eg : g' = w.heap.size := by
        rcases hat with e | e
        · simp [Value.ownBlock] at e
        · simpa [Value.ownBlock] using e
      subst eg
      exact ⟨_, w', cur, hr, (Below.refl _ _).grown hg (Nat.le_refl _) (fun k hk => by simp [Value.ownBlock] at hk), ⟨cap, rfl, h1, h2⟩, hh, by simpa using h4⟩
theorem has_any (w : World) {sb : Nat} {m : Md} (h : St sb w m) (hb : I64 m.ba) (hl : m.rs.length ≤ 1000) (n : Int) (hn : I64 n) (vd : Value) (d : List UInt8) (hd : Sl w vd d) : Calls Try.prog 48 #[.pointer (some ⟨sb, 0, none⟩), .int .i64 n, vd] w fun e w' => e = .returned (.bool (hasB m n d)) ∧ w' = w := by
  obtain ⟨v, hk, c0, -, -, -, -, c5, -, -, -⟩ := h.open
  clear h
  obtain ⟨vs, hk⟩ := hk
  obtain ⟨hr, hs⟩ := hk w (But.refl _ _)
  clear hk
  have hb1 := hb.1
  have hb2 := hb.2
  have hn1 := hn.1
  have hn2 := hn.2
  unfold hasB
  by_cases h1 : n < m.ba
  · have e1 : Hid (decide (m.ba ≤ n ∧ m.rs[(n - m.ba).toNat]? = some d) = false) := hide (by simp; intro h; omega)
    rw [e1.out]
    go_enter Try.func48, Try.ntmps48
    go_wp2_with fail
    go_ret
    exact ⟨rfl, rfl⟩
  · have k1 : decide (n < m.ba) = false := by simp; omega
    obtain ⟨A, hA⟩ : ∃ A : Nat, Hid ((n - m.ba).toNat = A) := ⟨_, rfl⟩
    have hA' := hA.out
    have k2 : IntKind.u64.wrap (IntKind.u64.wrap n - IntKind.u64.wrap m.ba) = (A : Int) := by
      simp only [IntKind.wrap_u64]
      omega
    have hsl := hide hs
    have hlen := hs.1
    obtain ⟨ao, cap, rfl, hno, hlc, hm, hat⟩ := hr
    rw [hA.out]
    by_cases h2 : A < m.rs.length
    · obtain ⟨b, off, rfl, hc⟩ := hat A (by omega)
      obtain ⟨r, hr⟩ : ∃ r, Hid (m.rs[A] = r) := ⟨_, hide rfl⟩
      have hsl2 := hs.2 A (by omega) h2
      rw [hr.out] at hsl2
      obtain ⟨x, hx⟩ : ∃ x, Hid (vs[A]'(by omega) = x) := ⟨_, hide rfl⟩
      rw [hx.out] at hsl2 hc
      have EQ := hide (equal_any w x vd r d hsl2 hd)
      have e1 : Hid (decide (m.ba ≤ n ∧ m.rs[A]? = some d) = decide (r = d)) := hide (by
        rw [List.getElem?_eq_getElem h2, hr.out]
        simp
        intro _; omega)
      rw [e1.out]
      rw [hlen] at c5 hlc
      obtain ⟨L, hL⟩ : ∃ L, Hid (m.rs.length = L) := ⟨_, rfl⟩
      rw [hL.out] at c5 hlc h2 hl
      have k3 : IntKind.u64.wrap (L : Int) = (L : Int) := by rw [IntKind.wrap_u64]; omega
      have k4 : (A : Int) < (L : Int) := by omega
      obtain ⟨xo, xc, rfl, _⟩ := hsl2
      obtain ⟨yo, yc, rfl, _⟩ := hd
      clear hat hs hsl e1 hx hr hno hlen hA' hA
      go_enter Try.func48, Try.ntmps48
      go_wp2_with (go_at_call 30; refine EQ.out.mono ?_; rintro e w' ⟨rfl, hw⟩; rw [hw]; clear hw w')
      go_ret
      exact ⟨rfl, rfl⟩
    · have e1 : Hid (decide (m.ba ≤ n ∧ m.rs[A]? = some d) = false) := hide (by
        rw [List.getElem?_eq_none (by omega)]; simp)
      rw [e1.out]
      rw [hlen] at c5 hlc
      obtain ⟨L, hL⟩ : ∃ L, Hid (m.rs.length = L) := ⟨_, rfl⟩
      rw [hL.out] at c5 hlc h2 hl
      have k3 : IntKind.u64.wrap (L : Int) = (L : Int) := by rw [IntKind.wrap_u64]; omega
      have k4 : decide ((A : Int) < (L : Int)) = false := by simp; omega
      clear hat hs hsl e1 hno hlen hA' hA
      go_enter Try.func48, Try.ntmps48
      go_wp2_with fail
      go_ret
      exact ⟨rfl, rfl⟩
end Go.Proofs.Ytmehlgebbbkdiaa.Um

/-
  reserve: a record more.
-/
namespace Go.Proofs.Ytmehlgebbbkdiaa.Um
open Go.RowKit Go.Maps
set_option linter.unusedVariables false
set_option linter.unusedSimpArgs false
set_option maxRecDepth 100000
/-- A row as it lies. -/
theorem row_of {w : World} {g ca L : Nat} {cur : Array Value} {us : List Value} (hh : w.heap[g]? = some (.cells cur 31 (0, 0))) (ht : cur.toList.take L = us) (hL : us.length = L) (hc : L ≤ ca) (hm : ca ≤ maxLen) : Row w (.slice (some ⟨g, 0, none⟩) L ca) us := by
  refine ⟨some ⟨g, 0, none⟩, ca, by rw [hL], fun e => (by simp at e), by omega, hm, fun i hi => ⟨g, 0, rfl, ?_⟩⟩
  rw [cell_of hh, Nat.zero_add]
  have e : us[i]? = cur.toList[i]? := by rw [← ht, List.getElem?_take_of_lt (by omega)]
  rw [List.getElem?_eq_getElem hi] at e
  rw [e]
  simp
theorem sls_snoc {w : World} {vs : List Value} {ls : List (List UInt8)} {v : Value} {l : List UInt8} (hs : Sls w vs ls) (h : Sl w v l) : Sls w (vs ++ [v]) (ls ++ [l]) := by
  refine ⟨by simp [hs.1], fun i h1 h2 => ?_⟩
  have e := hs.1
  by_cases hi : i < vs.length
  · have hi2 : i < ls.length := by omega
    simp only [List.getElem_append_left hi, List.getElem_append_left hi2]
    exact hs.2 i hi hi2
  · have hi3 : i = vs.length := by simp at h1; omega
    subst hi3
    have e2 : (ls ++ [l])[vs.length]'h2 = l := by simp [e]
    simp [e2, h]
theorem reserve_no (w : World) {sb : Nat} {m : Md} (h : St sb w m) (hx : I64 m.nx) (hl : m.rs.length < 1000) (vd : Value) (d : List UInt8) (hd : Sd sb w vd d) (n : Int) (hB : ¬ resB m d n = true) :
    Calls Try.prog 44 #[.pointer (some ⟨sb, 0, none⟩), vd, .int .i64 n] w fun e w' => Goes sb w (reserveS m d n) e w' := by
  obtain ⟨v, hk, -, -, -, c3, -, c5, c6, -, z⟩ := h.open
  have hx2 := hx.2
  have hx1 := hx.1
  obtain ⟨ao, ca, rfl, -⟩ := hd.now
  unfold reserveS
  rw [if_neg hB]
  unfold resB at hB
  simp only [decide_eq_true_eq] at hB
  have hf' : m.fa = true ∨ m.fa = false := by cases m.fa <;> simp
  rcases hf' with hf | hf
  · rw [hf] at c6
    go_enter Try.func44, Try.ntmps44
    go_wp2_with (go_at_call 34; refine (must_no _).mono ?_; rintro e w' ⟨rfl, hw⟩; rw [hw]; clear hw w')
    exact ⟨rfl, Goes.none (But.refl _ _)⟩
  rw [hf] at c6
  by_cases h1 : d.length ≤ 4096
  · have k1 : (d.length : Int) ≤ 4096 := by omega
    by_cases h2 : n = m.nx
    · have h3 : ¬ n ≤ 9223372036854775806 := fun c => hB ⟨hf, h1, h2, c⟩
      have k3 : decide (m.nx ≤ 9223372036854775806) = false := by simp; omega
      subst h2
      go_enter Try.func44, Try.ntmps44
      go_wp2_with (go_at_call 34; refine (must_no _).mono ?_; rintro e w' ⟨rfl, hw⟩; rw [hw]; clear hw w')
      exact ⟨rfl, Goes.none (But.refl _ _)⟩
    · have k2 : (n == m.nx) = false := by simpa using h2
      go_enter Try.func44, Try.ntmps44
      go_wp2_with (go_at_call 34; refine (must_no _).mono ?_; rintro e w' ⟨rfl, hw⟩; rw [hw]; clear hw w')
      exact ⟨rfl, Goes.none (But.refl _ _)⟩
  · have k1 : decide ((d.length : Int) ≤ 4096) = false := by simp; omega
    go_enter Try.func44, Try.ntmps44
    go_wp2_with (go_at_call 34; refine (must_no _).mono ?_; rintro e w' ⟨rfl, hw⟩; rw [hw]; clear hw w')
    exact ⟨rfl, Goes.none (But.refl _ _)⟩
set_option maxHeartbeats 1000000 in
theorem reserve_yes (w : World) {sb : Nat} {m : Md} (h : St sb w m) (hx : I64 m.nx) (hl : m.rs.length < 1000) (vd : Value) (d : List UInt8) (hd : Sd sb w vd d) (n : Int) (hB : resB m d n = true) :
    Calls Try.prog 44 #[.pointer (some ⟨sb, 0, none⟩), vd, .int .i64 n] w fun e w' => Goes sb w (reserveS m d n) e w' := by
  obtain ⟨v, hk, -, -, -, c3, -, c5, c6, -, z⟩ := h.open
  have hx2 := hx.2
  have hx1 := hx.1
  obtain ⟨ao, ca, rfl, -⟩ := hd.now
  unfold reserveS
  rw [if_pos hB]
  unfold resB at hB
  simp only [decide_eq_true_eq] at hB
  obtain ⟨hf, hdl, hn, hn2⟩ := hB
  subst hn
  rw [hf] at c6
  obtain ⟨vs, hk⟩ := hk
  obtain ⟨hr, hs⟩ := hk w (But.refl _ _)
  have hlen := hs.1
  obtain ⟨so, sc, ev, hno, hlc, hmx, hat⟩ := hr
  subst ev
  have hsb := h.lt
  have B1 := box_below w (.cells #[.slice ao d.length ca] 31)
  have N1 : (w.alloc (.cells #[.slice ao d.length ca] 31)).cell? ⟨w.heap.size, 0, none⟩ = some (.slice ao d.length ca) := by rw [cell_of (heap_alloc_new w _)]; rfl
  have N0 := heap_alloc_new w (.cells #[.slice ao d.length ca] 31)
  have R1 := Below.row B1 (hk w (But.refl _ _)).1
  obtain ⟨v', w', cur, hrun, B2, ⟨ca', ev', hca1, hca2⟩, hh, ht⟩ := run_more R1 hlen (by omega) w.heap.size _ rfl N1 24
  have hz1 : (w.alloc (.cells #[.slice ao d.length ca] 31)).heap.size = w.heap.size + 1 := by simp
  rw [hz1] at ev' hh
  have B3 : Below w.heap.size w w' := B1.trans ⟨B2.os, B2.tape, B2.output, B2.size, fun k hk => B2.block k (by omega)⟩
  have RK : Rk sb w' v' (m.rs ++ [d]) := by
    refine ⟨vs ++ [.slice ao d.length ca], fun u hu => ?_⟩
    have hu2 : But (fun k => k = sb) w u := (But.of_below B3 _).trans hu
    have hhu : u.heap[w.heap.size + 1]? = some (.cells cur 31 (0, 0)) := by
      rw [hu.block _ (heap_lt hh) (by omega)]; exact hh
    rw [ev']
    exact ⟨row_of hhu ht (by simp [hlen]) hca1 hca2, sls_snoc (hk u hu2).2 (hd u hu2)⟩
  have H2 : St sb (w'.setCell ⟨sb, 5, none⟩ v') { m with rs := m.rs ++ [d] } := by
    obtain ⟨v0, h0, _⟩ := h
    have h0' : w'.heap[sb]? = _ := (B3.block sb hsb).trans h0
    refine ⟨v', by rw [heap_setCell_same w' sb 5 _ _ _ h0']; rfl, RK.but (but_set _ _ _ _)⟩
  have H3 := H2.setNx (m.nx + 1)
  obtain ⟨v9, -, -, -, -, d3, -, d5, -, -, zz⟩ := (h.below B3).open
  have d3' : w'.cell? ⟨sb, 3, none⟩ = some (.int .i64 m.nx) := d3
  have z3 := zz 3
  have z5 := zz 5
  have FIN : Hid (Goes sb w (some { m with rs := m.rs ++ [d], nx := m.nx + 1 }) (.returned (.tuple #[])) ((w'.setCell ⟨sb, 5, none⟩ v').setCell ⟨sb, 3, none⟩ (.int .i64 (m.nx + 1)))) := hide (Goes.some (((But.of_below B3 _).trans (but_set _ _ _ _)).trans (but_set _ _ _ _)) H3)
  have kw : IntKind.i64.wrap (m.nx + 1) = m.nx + 1 := by rw [IntKind.wrap_i64]; omega
  have k1 : (d.length : Int) ≤ 4096 := by omega
  have k2 : (vs.length : Int) ≤ (sc : Int) := by omega
  have k3 : (sc : Int) ≤ 9223372036854775807 := by unfold maxLen at hmx; omega
  subst ev'
  rw [hlen] at c5 k2 hlc
  clear B1 B2 B3 N0 N1 R1 RK H2 H3 hat hno hs hk ht hh zz d3 h hd
  generalize hLL : m.rs.length = L at hrun c5 k2 FIN d3' z3 z5
  clear hLL hlen hlc hca1 z
  have CL : ∀ u : World, Calls Try.prog 51 #[.slice so L sc] u fun e w' => e = .returned (.slice so L L) ∧ w' = u := by
    intro u
    cases so with
    | none =>
      go_enter Try.func51, Try.ntmps51
      go_wp2_with fail
      go_ret
      exact ⟨rfl, rfl⟩
    | some a =>
      go_enter Try.func51, Try.ntmps51
      go_wp2_with fail
      go_ret
      exact ⟨rfl, rfl⟩
  go_enter Try.func44, Try.ntmps44
  go_wp2_with (first
    | (go_at_call 34; refine (must_yes _).mono ?_; rintro e w' ⟨rfl, hw⟩; rw [hw]; clear hw w')
    | (go_at_call 51; refine (CL _).mono ?_; rintro e w' ⟨rfl, hw⟩; rw [hw]; clear hw w')
    | (at_builtin; refine Lib.wpList_append_run _ rfl (.tmp 34) (.tmp 36) 24 24 rfl _ _ rfl rfl _ _ hrun ?_))
  first | go_end0 | refine bodyPost_ret (results_none rfl _ _ _) rfl ?_
  exact FIN.out
theorem reserve_any (w : World) {sb : Nat} {m : Md} (h : St sb w m) (hx : I64 m.nx) (hl : m.rs.length < 1000) (vd : Value) (d : List UInt8) (hd : Sd sb w vd d) (n : Int) :
    Calls Try.prog 44 #[.pointer (some ⟨sb, 0, none⟩), vd, .int .i64 n] w fun e w' => Goes sb w (reserveS m d n) e w' := by
  by_cases hB : resB m d n = true
  · exact reserve_yes w h hx hl vd d hd n hB
  · exact reserve_no w h hx hl vd d hd n hB
end Go.Proofs.Ytmehlgebbbkdiaa.Um

