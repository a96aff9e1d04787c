/-
  Plain facts for the walks over package wire: lists of bytes, where a slice's bytes lie in memory. No program is named here.
-/
import Derived.WalkKit
import Derived.WalkSpells
import Derived.WalkLawsBesides
import Derived.Deep.QuietTactic
import Derived.BigQuiet
import Derived.Laws.AppendOwnNone
import Derived.Test.YtfoleeamhhodaaaProg
import Derived.Lib.SlBytesConst
import Derived.Test.YtfoleeamhhodaaaRows
import Derived.ProofKit
import Derived.OpenShut
import Derived.SizedLaws
import Derived.RangeFuncNested
import Derived.RangeFuncLeaves
import Derived.Below
import Derived.Deep.Slices
import Derived.Deep.RegionHeld
import Derived.BigRegion
import Derived.Deep.AppendLies
import Derived.Deep.RegionHeld3
import Derived.Deep.DeepAppendWide
import Derived.Maps.AppendAt
import Derived.Laws.CopyRow
import Derived.OwnWalk
import Derived.Deep.Cut
import Derived.Lib.AppendZeros
import Derived.Laws.MakeOwn
namespace Go.Proofs.Ytfoleeamhhodaaa
open Go.RowKit
/-- Bytes l lie from address ao on (nothing is said of ao where l is empty). -/
def Rd (w : World) (ao : Option Addr) (l : List UInt8) : Prop :=
  ∀ i (h : i < l.length), ∃ b off, ao = some ⟨b, off, none⟩ ∧ w.cell? ⟨b, off + i, none⟩ = some (.int .u8 (l[i].toNat : Int))
theorem Rd.at {w : World} {ao : Option Addr} {l : List UInt8} (h : Rd w ao l) (hl : 0 < l.length) :
    ∃ b off, ao = some ⟨b, off, none⟩ ∧ ∀ i (h : i < l.length), w.cell? ⟨b, off + i, none⟩ = some (.int .u8 (l[i].toNat : Int)) := by
  obtain ⟨b, off, e, _⟩ := h 0 hl
  refine ⟨b, off, e, fun i hi => ?_⟩
  obtain ⟨b', off', e', hc⟩ := h i hi
  rw [e] at e'
  simp only [Option.some.injEq, Addr.mk.injEq] at e'
  obtain ⟨rfl, rfl, _⟩ := e'
  exact hc
/-- The world has only drawn. -/
def Qt (w w' : World) : Prop := ∃ k, w' = w.drewN k
theorem Qt.refl (w : World) : Qt w w := ⟨0, rfl⟩
theorem Qt.drewN {w u : World} (h : Qt w u) (n : Nat) : Qt w (u.drewN n) := by
  obtain ⟨k, rfl⟩ := h; exact ⟨k + n, by simp⟩
theorem Qt.trans {w u v : World} (h : Qt w u) (g : Qt u v) : Qt w v := by
  obtain ⟨n, rfl⟩ := g; exact h.drewN n
theorem Qt.cell {w u : World} (h : Qt w u) (a : Addr) : u.cell? a = w.cell? a := by obtain ⟨k, rfl⟩ := h; rfl
theorem Qt.rd {w u : World} (h : Qt w u) {ao : Option Addr} {l : List UInt8} (g : Rd w ao l) : Rd u ao l := by
  intro i hi; obtain ⟨b, off, e, hc⟩ := g i hi; exact ⟨b, off, e, by rw [h.cell]; exact hc⟩
theorem Qt.below {w u : World} (h : Qt w u) (B : Nat) : Below B w u := by
  obtain ⟨k, rfl⟩ := h; exact below_drewN (Below.refl _ _) k
theorem Qt.size {w u : World} (h : Qt w u) : u.heap.size = w.heap.size := by obtain ⟨k, rfl⟩ := h; rfl
end Go.Proofs.Ytfoleeamhhodaaa

/-
  The forms of package wire as plain functions on lists of bytes: the varint's form, and what it is worth.
-/
namespace Go.Proofs.Ytfoleeamhhodaaa
def encF : Nat → Nat → List UInt8
  | 0, _ => []
  | f + 1, n => if n < 128 then [UInt8.ofNat n] else UInt8.ofNat (n % 128 + 128) :: encF f (n / 128)
/-- The varint of n (below 2^64). -/
def enc (n : Nat) : List UInt8 := encF 10 n
end Go.Proofs.Ytfoleeamhhodaaa

/-
  A slice of bytes as a list of bytes: Sl; what keeps it; append of such a slice onto one that the call made. No program is named here.
-/
namespace Go.Proofs.Ytfoleeamhhodaaa
open Go.RowKit
/-- The value v is a slice whose bytes are l. -/
def Sl (w : World) (v : Value) (l : List UInt8) : Prop :=
  ∃ ao cap, v = .slice ao l.length cap ∧ (ao = none → l = [] ∧ cap = 0) ∧ l.length ≤ cap ∧ cap ≤ maxLen ∧ Rd w ao l
theorem lt_of_cell {w : World} {a : Addr} {v : Value} (h : w.cell? a = some v) : a.block < w.heap.size := by
  unfold World.cell? at h
  by_cases hb : a.block < w.heap.size
  · exact hb
  · rw [Array.getElem?_eq_none (by omega)] at h; simp at h
theorem Below.rd {w w' : World} (h : Below w.heap.size w w') {ao : Option Addr} {l : List UInt8} (g : Rd w ao l) : Rd w' ao l := by
  intro i hi
  obtain ⟨b, off, e, hc⟩ := g i hi
  exact ⟨b, off, e, by rw [h.cell (p := ⟨b, off + i, none⟩) (lt_of_cell hc)]; exact hc⟩
theorem Sl.nil (w : World) : Sl w (.slice none 0 0) [] := ⟨none, 0, rfl, fun _ => ⟨rfl, rfl⟩, Nat.le_refl _, Nat.zero_le _, fun i hi => by simp at hi⟩
end Go.Proofs.Ytfoleeamhhodaaa

/-
  Plain facts for the walks of a seat that has none of wire's: literals of bytes, what a call may have turned. No function is named here.
-/
namespace Go.Proofs.Ytfoleeamhhodaaa
open Go.RowKit
theorem addr_add (b off k : Nat) : (⟨b, off, none⟩ : Addr).add k = ⟨b, off + k, none⟩ := by
  unfold Addr.add; split <;> simp_all
theorem Qt.grown {w w' : World} (h : Qt w w') (row : Option Nat) : w.grownBy w' row := by
  obtain ⟨k, rfl⟩ := h; exact ⟨rfl, rfl, rfl, Nat.le_refl _, fun _ _ _ => rfl⟩
theorem grown_setCell (w : World) (rb o : Nat) (u : Value) : w.grownBy (w.setCell ⟨rb, o, none⟩ u) (some rb) :=
  ⟨rfl, rfl, rfl, by simp, fun k _ hk => heap_setCell_other w ⟨rb, o, none⟩ k u (fun e => hk (by simp [e]))⟩
theorem heap_lt {w : World} {k : Nat} {o : Obj} (h : w.heap[k]? = some o) : k < w.heap.size := by
  by_cases hb : k < w.heap.size
  · exact hb
  · rw [Array.getElem?_eq_none (by omega)] at h; simp at h
theorem box_below (w : World) (o : Obj) : Below w.heap.size w (w.alloc o) := (Below.refl _ _).alloc (Nat.le_refl _) _
theorem below_block {w w1 w2 : World} {rb : Nat} (hb : Below w.heap.size w w1) (hg : w1.grownBy w2 (some rb)) (hr : w.heap.size ≤ rb) : Below w.heap.size w w2 :=
  hb.grown hg hb.size (fun k hk => by simp at hk; omega)
end Go.Proofs.Ytfoleeamhhodaaa

/-
  An argument of type []byte, opened: the bytes that it holds, and that they lie within the reach.
-/
namespace Go.Proofs.Ytfoleeamhhodaaa
open Go.ChangeShapes Go.WideShapes Go.ChangeAt Go.RowKit
theorem i64_bounds {n : Int} (h : (Lit.int .i64 n).wf = true) : -9223372036854775808 ≤ n ∧ n ≤ 9223372036854775807 := by
  simpa [Lit.wf, IntKind.min, IntKind.max, IntKind.signed, IntKind.bits] using h
end Go.Proofs.Ytfoleeamhhodaaa

/-
  Iterators that keep state of their own in cells, and hand over what lies in memory: a contract by two sets of blocks, and the law for a range over one.
-/
namespace Go.Proofs.Ytfoleeamhhodaaa
open Go.RowKit
/-- W' is W but for the blocks of X. -/
structure But (X : Nat → Prop) (W W' : World) : Prop where
  os : W'.os = W.os
  tape : W'.tape = W.tape
  output : W'.output = W.output
  size : W.heap.size ≤ W'.heap.size
  block : ∀ k, k < W.heap.size → ¬ X k → W'.heap[k]? = W.heap[k]?
theorem But.refl (X : Nat → Prop) (W : World) : But X W W := ⟨rfl, rfl, rfl, Nat.le_refl _, fun _ _ _ => rfl⟩
theorem But.trans {X : Nat → Prop} {A B C : World} (h : But X A B) (k : But X B C) : But X A C :=
  ⟨k.os.trans h.os, k.tape.trans h.tape, k.output.trans h.output, Nat.le_trans h.size k.size, fun i hi hx => (k.block i (Nat.lt_of_lt_of_le hi h.size) hx).trans (h.block i hi hx)⟩
theorem But.mono {X Y : Nat → Prop} {A B : World} (h : But X A B) (hs : ∀ k, k < A.heap.size → X k → Y k) : But Y A B :=
  ⟨h.os, h.tape, h.output, h.size, fun k hk hy => h.block k hk (fun hx => hy (hs k hk hx))⟩
theorem But.below {X : Nat → Prop} {A B : World} {n : Nat} (h : But X A B) (hn : n ≤ A.heap.size) (hX : ∀ k, X k → n ≤ k) : Below n A B :=
  ⟨h.os, h.tape, h.output, h.size, fun k hk => h.block k (Nat.lt_of_lt_of_le hk hn) (fun hx => Nat.lt_irrefl _ (Nat.lt_of_lt_of_le hk (hX k hx)))⟩
theorem But.of_below {A B : World} (h : Below A.heap.size A B) (X : Nat → Prop) : But X A B := ⟨h.os, h.tape, h.output, h.size, fun k hk _ => h.block k hk⟩
theorem But.of_grownBy {A B : World} {row : Option Nat} (h : A.grownBy B row) {X : Nat → Prop} (hX : ∀ k, row = some k → X k) : But X A B :=
  ⟨h.os, h.tape, h.output, h.size, fun k hk hx => h.block k hk (fun e => hx (hX k e.symm))⟩
theorem But.putObj (W : World) (l : Nat) (o : Obj) {X : Nat → Prop} (hX : X l) : But X W (W.putObj l o) :=
  But.of_grownBy (grownBy_putObj' W l o) (fun k e => by cases e; exact hX)
theorem But.alloc (W : World) (o : Obj) (X : Nat → Prop) : But X W (W.alloc o) := But.of_below ((Below.refl _ W).alloc (Nat.le_refl _) o) X
/-- Behind a step that turns the blocks of X alone, what lay in a block outside lies there still. -/
theorem But.at {X : Nat → Prop} {A B : World} (h : But X A B) {k : Nat} {o : Obj} (hk : A.heap[k]? = some o) (hx : ¬ X k) : B.heap[k]? = some o :=
  (h.block k (Array.getElem?_eq_some_iff.1 hk).1 hx).trans hk
/-- The caller's word abides an iterator's step: it turns blocks from s0 on that are not the caller's. -/
def Stable {α : Type} (s0 : Nat) (J : List α → (Nat → Prop) → World → Prop) : Prop :=
  ∀ pre C W W', J pre C W → But (fun k => s0 ≤ k ∧ ¬ C k) W W' → J pre C W'
/-- The contract of an iterator that goes over xs: it reads the blocks of Rd; C are the blocks that the caller's rounds may turn; Rep: how what is handed over lies in memory, D: the blocks that are handed over with it. -/
def Seq {α : Type} (P : Program) (g : Nat) (lb : Array Value) (xs : List α) (Rep : α → Array Value → World → (Nat → Prop) → Prop) (Rd : Nat → Prop) (w : World) : Prop :=
  ∀ (l : Nat) (J Jx : List α → (Nat → Prop) → World → Prop) (C : Nat → Prop) (W : World),
    w.heap.size ≤ W.heap.size → (∀ k, Rd k → W.heap[k]? = w.heap[k]?) → (∀ k, C k → ¬ Rd k ∧ k < W.heap.size) →
    Stable W.heap.size J → Stable W.heap.size Jx →
    (∀ pre x rest C1 D args W1, xs = pre ++ x :: rest → J pre C1 W1 → Rep x args W1 D → W.heap.size ≤ W1.heap.size → (∀ k, D k → ¬ C1 k ∧ W.heap.size ≤ k ∧ k < W1.heap.size) →
      YieldAt Fence.wide 0 P l args W1 fun e W' =>
        (e = .returned (.bool true) ∧ ∃ C2, J (pre ++ [x]) C2 W' ∧ But C1 W1 W' ∧ (∀ k, C2 k → (C1 k ∨ D k ∨ W1.heap.size ≤ k) ∧ k < W'.heap.size)) ∨
        (e = .returned (.bool false) ∧ ∃ C2, Jx (pre ++ [x]) C2 W' ∧ But C1 W1 W' ∧ (∀ k, C2 k → (C1 k ∨ D k ∨ W1.heap.size ≤ k) ∧ k < W'.heap.size))) →
    J [] C W →
    CallsIn Fence.wide 0 P g (#[.func (.yield l) #[] #[]] ++ lb) W fun e W' => (∃ v, e = .returned v) ∧ ((∃ C2, J xs C2 W') ∨ (∃ pre C2, pre <+: xs ∧ Jx pre C2 W'))
/-- How the body of a round may be left. -/
def itPost {α : Type} (I : List α → (Nat → Prop) → World → Prop) (Ix : Code → List α → (Nat → Prop) → World → Prop) (xs : List α) (C1 D : Nat → Prop) (sz : Nat) (Wb : World) : Exit → Act → World → Prop
  | .normal, _, W' => ∃ C2, I xs C2 W' ∧ But C1 Wb W' ∧ (∀ k, C2 k → (C1 k ∨ D k ∨ sz ≤ k) ∧ k < W'.heap.size)
  | .ret, _, W' => ∃ C2, Ix .ret xs C2 W' ∧ But C1 Wb W' ∧ (∀ k, C2 k → (C1 k ∨ D k ∨ sz ≤ k) ∧ k < W'.heap.size)
  | .exit id, _, W' => ∃ C2, Ix (.exit id) xs C2 W' ∧ But C1 Wb W' ∧ (∀ k, C2 k → (C1 k ∨ D k ∨ sz ≤ k) ∧ k < W'.heap.size)
  | .goto t, _, W' => ∃ C2, Ix (.goto t) xs C2 W' ∧ But C1 Wb W' ∧ (∀ k, C2 k → (C1 k ∨ D k ∨ sz ≤ k) ∧ k < W'.heap.size)
  | .panic _, _, _ => False
  | .outgrown, _, _ => False
theorem wp_range {α : Type} {P : Program} {g : Operand} {ps : Array Tmp} {assign body : Code} {Q : Exit → Act → World → Prop} {a : Act} {w : World}
    {gf : Nat} {lb : Array Value} (hg : a.eval g = .func (.func gf) #[] lb) (eg : ∀ args w, (callFunc gf args).run P w = .ok (.enter gf args) w)
    {xs : List α} {Rep : α → Array Value → World → (Nat → Prop) → Prop} {Rd : Nat → Prop} {w0 : World} (hseq : Seq P gf lb xs Rep Rd w0)
    (hsz : w0.heap.size ≤ w.heap.size) (hRd : ∀ k, Rd k → w.heap[k]? = w0.heap[k]? ∧ k < w.heap.size)
    (hps : ∀ x args W D, Rep x args W D → args.size = ps.size)
    (I : List α → (Nat → Prop) → World → Prop) (Ix : Code → List α → (Nat → Prop) → World → Prop)
    (hI : Stable w.heap.size I) (hIx : ∀ c, Stable w.heap.size (Ix c)) (C0 : Nat → Prop) (hC0 : ∀ k, C0 k → ¬ Rd k ∧ k < w.heap.size) (h0 : I [] C0 w)
    (hround : ∀ (l : Nat) (pre : List α) (x : α) (rest : List α) (C1 D : Nat → Prop) (args : Array Value) (W1 : World), xs = pre ++ x :: rest → I pre C1 W1 → Rep x args W1 D → w.heap.size < W1.heap.size →
      (∀ k, D k → ¬ C1 k ∧ w.heap.size ≤ k ∧ k < W1.heap.size) → l = w.heap.size + 1 → l < W1.heap.size → ¬ C1 l → ¬ D l →
      assign.wpIn (Fence.wide.inRound l) 0 P (Exit.then (fun a1 Wa => But (fun _ => False) W1 Wa ∧ ∀ Wb, But (fun k => k = l) Wa Wb → Wb.heap.size = Wa.heap.size → body.wpIn (Fence.wide.inRound l) 0 P (itPost I Ix (pre ++ [x]) C1 D W1.heap.size Wb) a1 Wb) (fun _ _ _ => False))
        { tmps := (ps.zip args).foldl (fun t (p, v) => t.setIfInBounds p v) a.tmps, defers := [] } W1)
    (hdone : ∀ (C2 : Nat → Prop) (W : World), I xs C2 W → W.heap[w.heap.size]? = some (.deferred (some [])) → ¬ C2 w.heap.size → Q .normal { a with defers := { target := .collected w.heap.size, args := #[] } :: a.defers } W)
    (hstop : ∀ (c : Code) (pre : List α) (C2 : Nat → Prop) (W : World), pre <+: xs → Ix c pre C2 W → W.heap[w.heap.size]? = some (.deferred (some [])) → ¬ C2 w.heap.size → c.wp P Q { a with defers := { target := .collected w.heap.size, args := #[] } :: a.defers } W) :
    (Code.rangeFunc g ps assign body).wp P Q a w := by
  refine (wpIn_wide (n := 0)).1 (wpIn_rangeFunc ?_)
  intro fn hfn
  show ∃ l mark w₁ d w₁' f args w₂, (Instr.enterLoop fn a.tmps ps assign body none).run P w = _ ∧ _
  obtain ⟨rec, hrec⟩ : ∃ rec : LoopState → Option Code → Loop, rec = fun st pe => { state := st, pending := pe, fn, tmps := a.tmps, params := ps, assign, body, defers := w.heap.size } := ⟨_, rfl⟩
  obtain ⟨W1, hW1⟩ : ∃ W1, (w.alloc (.deferred (some []))).alloc (.loop (rec .ready none)) = W1 := ⟨_, rfl⟩
  have hs1 : W1.heap.size = w.heap.size + 2 := by rw [← hW1]; simp
  have hL1 : W1.heap[w.heap.size + 1]? = some (.loop (rec .ready none)) := by
    rw [← hW1]; have := World.alloc_heap_new (w.alloc (.deferred (some []))) (.loop (rec .ready none)); rwa [World.size_alloc] at this
  have hK1 : W1.heap[w.heap.size]? = some (.deferred (some [])) := by
    rw [← hW1]; exact (Below.heap_alloc _ _ _ (by simp)).trans (World.alloc_heap_new w _)
  have hB1 : Below w.heap.size w W1 := by
    rw [← hW1]; exact ((Below.refl _ w).alloc (Nat.le_refl _) _).alloc (by simp) _
  have hI1 : I [] C0 W1 := hI _ _ _ _ h0 (But.of_below hB1 _)
  have nl : ¬ C0 (w.heap.size + 1) := fun h => by have := (hC0 _ h).2; omega
  have nd : ¬ C0 w.heap.size := fun h => by have := (hC0 _ h).2; omega
  refine ⟨w.heap.size + 1, [{ target := .collected w.heap.size, args := #[] }], W1, { target := .fn (.func gf) lb, args := #[.func (.yield (w.heap.size + 1)) #[] #[]] }, W1, gf,
    #[.func (.yield (w.heap.size + 1)) #[] #[]] ++ lb, W1, ?_, ?_, ?_, ?_, fun h => (by cases h), ?_⟩
  · rw [← hW1, hrec]; exact run_enterLoop_outer _ _ _ _ _
  · simp only [resolve, hg]
    simp [go_sem]
  · intro f' _; exact trivial
  · simp [invoke, go_sem, eg]
  · refine (hseq (w.heap.size + 1)
      (fun pre C W => ∃ C1, I pre C1 W ∧ (∀ k, C k ↔ C1 k ∨ k = w.heap.size ∨ k = w.heap.size + 1) ∧ ¬ C1 w.heap.size ∧ ¬ C1 (w.heap.size + 1) ∧ W.heap[w.heap.size + 1]? = some (.loop (rec .ready none)) ∧ W.heap[w.heap.size]? = some (.deferred (some [])))
      (fun pre C W => ∃ c C1, Ix c pre C1 W ∧ (∀ k, C k ↔ C1 k ∨ k = w.heap.size ∨ k = w.heap.size + 1) ∧ ¬ C1 w.heap.size ∧ ¬ C1 (w.heap.size + 1) ∧ W.heap[w.heap.size + 1]? = some (.loop (rec .done (some c))) ∧ W.heap[w.heap.size]? = some (.deferred (some [])))
      (fun k => C0 k ∨ k = w.heap.size ∨ k = w.heap.size + 1) W1 (by omega)
      (fun k hk => (hB1.block k (hRd k hk).2).trans (hRd k hk).1)
      (fun k hk => by
        rcases hk with hk | hk | hk
        · exact ⟨(hC0 k hk).1, by have := (hC0 k hk).2; omega⟩
        · exact ⟨fun h => by have := (hRd k h).2; omega, by omega⟩
        · exact ⟨fun h => by have := (hRd k h).2; omega, by omega⟩)
      ?_ ?_ ?_ ⟨C0, hI1, fun k => Iff.rfl, nd, nl, hL1, hK1⟩).mono ?_
    · rintro pre C A B ⟨C1, hi, hC, n1, n2, hl, hk⟩ hb
      refine ⟨C1, hI _ _ _ _ hi (hb.mono fun k _ hx => ⟨by omega, fun h => hx.2 ((hC k).2 (.inl h))⟩), hC, n1, n2, hb.at hl (by omega), hb.at hk (by omega)⟩
    · rintro pre C A B ⟨c, C1, hi, hC, n1, n2, hl, hk⟩ hb
      refine ⟨c, C1, hIx c _ _ _ _ hi (hb.mono fun k _ hx => ⟨by omega, fun h => hx.2 ((hC k).2 (.inl h))⟩), hC, n1, n2, hb.at hl (by omega), hb.at hk (by omega)⟩
    · rintro pre x rest C D args W hx ⟨C1, hi, hC, n1, n2, hl, hk⟩ hrep hsW hD
      have hlt : w.heap.size + 1 < W.heap.size := (Array.getElem?_eq_some_iff.1 hl).1
      have hy := run_yield (P := P) (args := args) hl (by rw [hrec]; exact hps x args W D hrep)
      rw [hrec] at hy
      refine ⟨fn, _, assign, body, hy, roundIn_of_wpIn hfn (wpIn_mono (hround (w.heap.size + 1) pre x rest C1 D args W hx hi hrep (by omega) (fun k h => ⟨fun h' => (hD k h).1 ((hC k).2 (.inl h')), by have := (hD k h).2.1; omega, (hD k h).2.2⟩) rfl hlt n2 (fun h => (hD _ h).1 ((hC _).2 (.inr (.inr rfl))))) ?_)⟩
      rintro e a1 Wa he
      cases e with
      | normal =>
        obtain ⟨hWa, hbody⟩ := he
        have hla := hWa.at hl (fun h => h)
        have hka := hWa.at hk (fun h => h)
        have hlta : w.heap.size + 1 < Wa.heap.size := Nat.lt_of_lt_of_le hlt hWa.size
        refine ⟨_, run_beginRound hla (by rw [hrec]), ?_⟩
        have hl2 : (Wa.putObj (w.heap.size + 1) (.loop { rec .ready none with state := .busy })).heap[w.heap.size + 1]? = some (.loop { rec .ready none with state := .busy }) := World.putObj_heap_same hlta
        have hk2 : (Wa.putObj (w.heap.size + 1) (.loop { rec .ready none with state := .busy })).heap[w.heap.size]? = some (.deferred (some [])) := (World.putObj_heap_other (by omega)).trans hka
        refine wpIn_mono (hbody _ (But.putObj Wa _ _ rfl) (by simp)) ?_
        have fin : ∀ (jump : Option Code) (W3 : World) (C2 : Nat → Prop), But C1 (Wa.putObj (w.heap.size + 1) (.loop { rec .ready none with state := .busy })) W3 → (∀ k, C2 k → (C1 k ∨ D k ∨ W.heap.size ≤ k) ∧ k < W3.heap.size) →
            (Instr.endRound (w.heap.size + 1) jump).run P W3 = .ok (.bool jump.isNone) (W3.putObj (w.heap.size + 1) (.loop (rec (if jump.isNone then .ready else .done) jump))) ∧
            But (fun k => w.heap.size ≤ k ∧ ¬ C2 k) W3 (W3.putObj (w.heap.size + 1) (.loop (rec (if jump.isNone then .ready else .done) jump))) ∧
            (W3.putObj (w.heap.size + 1) (.loop (rec (if jump.isNone then .ready else .done) jump))).heap[w.heap.size + 1]? = some (.loop (rec (if jump.isNone then .ready else .done) jump)) ∧
            (W3.putObj (w.heap.size + 1) (.loop (rec (if jump.isNone then .ready else .done) jump))).heap[w.heap.size]? = some (.deferred (some [])) ∧
            But C W (W3.putObj (w.heap.size + 1) (.loop (rec (if jump.isNone then .ready else .done) jump))) ∧ ¬ C2 w.heap.size ∧ ¬ C2 (w.heap.size + 1) := fun jump W3 C2 hb3 hC2 => by
          have hl3 := hb3.at hl2 n2
          have hk3 := hb3.at hk2 n1
          have hrun := run_endRound (P := P) jump hl3
          have m1 : ¬ C2 w.heap.size := fun h => by
            rcases (hC2 _ h).1 with h | h | h
            · exact n1 h
            · exact (hD _ h).1 ((hC _).2 (.inr (.inl rfl)))
            · omega
          have m2 : ¬ C2 (w.heap.size + 1) := fun h => by
            rcases (hC2 _ h).1 with h | h | h
            · exact n2 h
            · exact (hD _ h).1 ((hC _).2 (.inr (.inr rfl)))
            · omega
          rw [hrec] at hrun ⊢
          refine ⟨hrun, But.putObj _ _ _ ⟨by omega, m2⟩, World.putObj_heap_same (Array.getElem?_eq_some_iff.1 hl3).1, (World.putObj_heap_other (by omega)).trans hk3, ?_, m1, m2⟩
          have e1 : But C W Wa := hWa.mono fun k _ h => h.elim
          have e2 : But C Wa (Wa.putObj (w.heap.size + 1) (.loop { rec .ready none with state := .busy })) := But.putObj _ _ _ ((hC _).2 (.inr (.inr rfl)))
          have e3 : But C (Wa.putObj (w.heap.size + 1) (.loop { rec .ready none with state := .busy })) W3 := hb3.mono fun k _ h => (hC k).2 (.inl h)
          exact ((e1.trans e2).trans e3).trans (But.putObj _ _ _ ((hC _).2 (.inr (.inr rfl))))
        have bnd : ∀ (o : Obj) (W3 : World) (C2 : Nat → Prop), But C1 (Wa.putObj (w.heap.size + 1) (.loop { rec .ready none with state := .busy })) W3 → (∀ k, C2 k → (C1 k ∨ D k ∨ W.heap.size ≤ k) ∧ k < W3.heap.size) →
            ∀ k, (C2 k ∨ k = w.heap.size ∨ k = w.heap.size + 1) → (C k ∨ D k ∨ W.heap.size ≤ k) ∧ k < (W3.putObj (w.heap.size + 1) o).heap.size := fun o W3 C2 hb3 hC2 => by
          have hs3 : w.heap.size + 1 < W3.heap.size := by have := hb3.size; simp at this; omega
          rintro k (h | h | h)
          · obtain ⟨h1, h2⟩ := hC2 k h
            refine ⟨?_, by simpa using h2⟩
            rcases h1 with h1 | h1
            · exact .inl ((hC k).2 (.inl h1))
            · exact .inr h1
          · exact ⟨.inl ((hC k).2 (.inr (.inl h))), by simp; omega⟩
          · exact ⟨.inl ((hC k).2 (.inr (.inr h))), by simp; omega⟩
        rintro e a3 W3 hp
        cases e with
        | normal =>
          obtain ⟨C2, hi3, hb3, hC2⟩ := hp
          obtain ⟨hr, hst, hl4, hk4, hb4, m1, m2⟩ := fin none W3 C2 hb3 hC2
          exact ⟨_, _, hr, .inl ⟨rfl, fun k => C2 k ∨ k = w.heap.size ∨ k = w.heap.size + 1, ⟨C2, hI _ _ _ _ hi3 hst, fun k => Iff.rfl, m1, m2, hl4, hk4⟩, hb4, bnd _ W3 C2 hb3 hC2⟩⟩
        | ret =>
          obtain ⟨C2, hi3, hb3, hC2⟩ := hp
          obtain ⟨hr, hst, hl4, hk4, hb4, m1, m2⟩ := fin (some .ret) W3 C2 hb3 hC2
          exact ⟨_, _, hr, .inr ⟨rfl, fun k => C2 k ∨ k = w.heap.size ∨ k = w.heap.size + 1, ⟨.ret, C2, hIx _ _ _ _ _ hi3 hst, fun k => Iff.rfl, m1, m2, hl4, hk4⟩, hb4, bnd _ W3 C2 hb3 hC2⟩⟩
        | exit id =>
          obtain ⟨C2, hi3, hb3, hC2⟩ := hp
          obtain ⟨hr, hst, hl4, hk4, hb4, m1, m2⟩ := fin (some (.exit id)) W3 C2 hb3 hC2
          exact ⟨_, _, hr, .inr ⟨rfl, fun k => C2 k ∨ k = w.heap.size ∨ k = w.heap.size + 1, ⟨.exit id, C2, hIx _ _ _ _ _ hi3 hst, fun k => Iff.rfl, m1, m2, hl4, hk4⟩, hb4, bnd _ W3 C2 hb3 hC2⟩⟩
        | goto t =>
          obtain ⟨C2, hi3, hb3, hC2⟩ := hp
          obtain ⟨hr, hst, hl4, hk4, hb4, m1, m2⟩ := fin (some (.goto t)) W3 C2 hb3 hC2
          exact ⟨_, _, hr, .inr ⟨rfl, fun k => C2 k ∨ k = w.heap.size ∨ k = w.heap.size + 1, ⟨.goto t, C2, hIx _ _ _ _ _ hi3 hst, fun k => Iff.rfl, m1, m2, hl4, hk4⟩, hb4, bnd _ W3 C2 hb3 hC2⟩⟩
        | panic ch => exact hp.elim
        | outgrown => exact hp.elim
      | exit id => exact he.elim
      | goto t => exact he.elim
      | ret => exact he.elim
      | panic ch => exact he.elim
      | outgrown => exact he.elim
    · rintro e W2 ⟨⟨v, rfl⟩, (⟨C, C1, hi, hC, n1, n2, hl, hk⟩ | ⟨pre, C, hpre, c, C1, hi, hC, n1, n2, hl, hk⟩)⟩
      · have hend := run_endLoop (P := P) hl (by rw [hrec]; simp)
        rw [hrec] at hend
        exact ⟨none, _, hend, hdone C1 _ (hI _ _ _ _ hi (But.putObj _ _ _ ⟨by omega, n2⟩)) ((World.putObj_heap_other (by omega)).trans hk) n1⟩
      · have hend := run_endLoop (P := P) hl (by rw [hrec]; simp)
        rw [hrec] at hend
        exact ⟨some c, _, hend, (wpIn_wide (n := 0)).2 (hstop c pre C1 _ hpre (hIx c _ _ _ _ hi (But.putObj _ _ _ ⟨by omega, n2⟩)) ((World.putObj_heap_other (by omega)).trans hk) n1)⟩
end Go.Proofs.Ytfoleeamhhodaaa

/-
  Slices of one-cell elements as lists of values; arguments of types []uint64, []int64, []int and [][]byte, opened.
-/
namespace Go.Proofs.Ytfoleeamhhodaaa
open Go.ChangeShapes Go.WideShapes Go.ChangeAt Go.RowKit Go.Deep
/-- Values vs lie from address ao on. -/
def At (w : World) (ao : Option Addr) (vs : List Value) : Prop :=
  ∀ i (h : i < vs.length), ∃ b off, ao = some ⟨b, off, none⟩ ∧ w.cell? ⟨b, off + i, none⟩ = some vs[i]
/-- The value v is a slice of the values vs. -/
def Row (w : World) (v : Value) (vs : List Value) : Prop :=
  ∃ ao cap, v = .slice ao vs.length cap ∧ (ao = none → vs = [] ∧ cap = 0) ∧ vs.length ≤ cap ∧ cap ≤ maxLen ∧ At w ao vs
theorem At.at {w : World} {ao : Option Addr} {vs : List Value} (h : At w ao vs) (hl : 0 < vs.length) :
    ∃ b off, ao = some ⟨b, off, none⟩ ∧ ∀ i (h : i < vs.length), w.cell? ⟨b, off + i, none⟩ = some vs[i] := by
  obtain ⟨b, off, e, _⟩ := h 0 hl
  refine ⟨b, off, e, fun i hi => ?_⟩
  obtain ⟨b', off', e', hc⟩ := h i hi
  rw [e] at e'
  simp only [Option.some.injEq, Addr.mk.injEq] at e'
  obtain ⟨rfl, rfl, _⟩ := e'
  exact hc
theorem Row.nil (w : World) : Row w (.slice none 0 0) [] := ⟨none, 0, rfl, fun _ => ⟨rfl, rfl⟩, Nat.le_refl _, Nat.zero_le _, fun i hi => by simp at hi⟩
theorem Below.row {w w' : World} (h : Below w.heap.size w w') {v : Value} {vs : List Value} (g : Row w v vs) : Row w' v vs := by
  obtain ⟨ao, cap, h1, h2, h3, h4, h5⟩ := g
  refine ⟨ao, cap, h1, h2, h3, h4, fun i hi => ?_⟩
  obtain ⟨b, off, e, hc⟩ := h5 i hi
  exact ⟨b, off, e, by rw [h.cell (p := ⟨b, off + i, none⟩) (lt_of_cell hc)]; exact hc⟩
end Go.Proofs.Ytfoleeamhhodaaa

/-
  A region that draws its order, whose last call turns what the loads read: S is asked behind every operation but that one, for which all loads wait no more. (After the law of regions that hold loads beside calls: the same proof, but for the one operation.)
-/
namespace Go.Proofs.Ytfoleeamhhodaaa.Ix
open Go
variable {P : Program} {ops : Array Oper} {Q : Exit → Act → World → Prop} {md : Region.Mode} {S : World → Prop} {d : Nat}
/-- m waits for p, the next for m, and so on. -/
def pathB (md : Region.Mode) (ops : Array Oper) : Nat → List Nat → Bool
  | _, [] => true
  | p, m :: r => (match ops[m]? with | some o => o.after.any fun e => Region.binds md e && e.on == p | none => false) && pathB md ops m r
theorem not_ready {listed : Array Bool} : ∀ (ms : List Nat) (p : Nat), pathB md ops p ms = true → listed.getD p false = false → (∀ m ∈ ms, listed.getD m true = false) → ∀ m ∈ ms, m ∉ Region.ready md ops listed := by
  intro ms
  induction ms with
  | nil => intro p _ _ _ m hm; cases hm
  | cons a r ih =>
    intro p hp hl hu m hm
    rw [pathB, Bool.and_eq_true] at hp
    obtain ⟨h1, h2⟩ := hp
    have ha : a ∉ Region.ready md ops listed := fun hr => by
      obtain ⟨_, o, ho, hall⟩ := mem_ready.1 hr
      rw [ho] at h1
      simp only [Array.any_eq_true] at h1
      obtain ⟨i, hi, he⟩ := h1
      rw [Bool.and_eq_true] at he
      have := hall _ (Array.getElem_mem hi) he.1
      rw [show (o.after[i]).on = p by simpa using he.2, hl] at this
      cases this
    rcases List.mem_cons.1 hm with rfl | hm
    · exact ha
    · have hla : listed.getD a false = false := by
        have := hu a (by simp)
        by_cases hs : a < listed.size
        · simp [Array.getD, hs] at this ⊢; exact this
        · simp [Array.getD, hs]
      exact ih a h2 hla (fun m hm => hu m (by simp [hm])) m hm
/-- Whatever order is picked from here on, and S holds behind every operation that is carried out, but behind d. -/
def wpAnyT (P : Program) (md : Region.Mode) (ops : Array Oper) (Q : Exit → Act → World → Prop) (S : World → Prop) (d : Nat) : Nat → Array Bool → Act → World → Prop
  | 0, listed, a, w => Region.ready md ops listed = [] ∧ Q .normal a w
  | fuel + 1, listed, a, w =>
    (Region.ready md ops listed = [] → Q .normal a w) ∧
    ∀ i ∈ Region.ready md ops listed, wpOp P ops Q i (fun a' w' => ((listed.setIfInBounds i true).getD d false = false → S w') ∧ wpAnyT P md ops Q S d fuel (listed.setIfInBounds i true) a' w') a w
theorem wpAny_of_T : ∀ (fuel : Nat) (listed : Array Bool) (a : Act) (w : World), wpAnyT P md ops Q S d fuel listed a w → wpAny P md ops Q fuel listed a w
  | 0, _, _, _, h => h
  | fuel + 1, _, _, _, h => ⟨h.1, fun i hi => wpOp_mono (fun a' w' h' => wpAny_of_T fuel _ a' w' h'.2) (h.2 i hi)⟩
theorem getD_false {listed : Array Bool} {m : Nat} (h : listed.getD m true = false) : listed.getD m false = false := by
  by_cases hs : m < listed.size
  · simp [Array.getD, hs] at h ⊢; exact h
  · simp [Array.getD, hs]
theorem vac {b : Bool} {p : Prop} (hb : b = true) : b = false → p := fun h => by rw [hb] at h; cases h
theorem getD_unlisted {listed : Array Bool} {j m : Nat} (h : listed.getD m true = false) (hne : j ≠ m) : (listed.setIfInBounds j true).getD m true = false := by
  rw [getD_set_ne true hne]; exact h
theorem wpAnyT_first {i : Nat} {oi : Oper} {v : Value} {ms : List Nat} (hi : ops[i]? = some oi) (hsel : ∀ (j : Nat) (o : Oper) cs b, ops[j]? = some o → o.op ≠ .select cs b)
    (hQ : ∀ c a w, Q (.panic c) (a.put oi.dst v) w → Q (.panic c) a w) (hpath : pathB md ops i ms = true) (hdm : d ∈ ms) :
    ∀ (fuel : Nat) (listed : Array Bool) (a : Act) (w : World),
      (∀ j oj, ops[j]? = some oj → j ≠ i → listed.getD j true = false → (∀ e ∈ oj.after, Region.binds md e = true → e.on ≠ i) → oi.apart ops oj = true) →
      i ∈ Region.ready md ops listed → (∀ m ∈ ms, listed.getD m true = false) → YieldsIf P ops S oi v a → S w →
      wpAnyT P md ops Q S d fuel (listed.setIfInBounds i true) (a.put oi.dst v) w → wpAnyT P md ops Q S d (fuel + 1) listed a w := by
  intro fuel
  induction fuel with
  | zero =>
    intro listed a w _ hr _ hy hS H
    refine ⟨fun h => (by rw [h] at hr; cases hr), fun j hj => ?_⟩
    by_cases hji : j = i
    · subst hji; exact hy.wpOp hi hS ⟨fun _ => hS, H⟩
    · have := ready_mono hj hji
      rw [H.1] at this
      cases this
  | succ fuel ih =>
    intro listed a w hfree hr hms hy hS H
    refine ⟨fun h => (by rw [h] at hr; cases hr), fun j hj => ?_⟩
    by_cases hji : j = i
    · subst hji; exact hy.wpOp hi hS ⟨fun _ => hS, H⟩
    · have hil : listed.getD i false = false := by
        have := (mem_ready.1 hr).1
        by_cases hs : i < listed.size
        · simp [Array.getD, hs] at this ⊢; exact this
        · simp [Array.getD, hs]
      have hnm : j ∉ ms := fun h => not_ready ms i hpath hil hms j h hj
      have hjd : j ≠ d := fun e => hnm (by rw [e]; exact hdm)
      have hid : i ≠ d := fun e => not_ready ms i hpath hil hms d hdm (by rw [← e]; exact hr)
      have hdj : ((listed.setIfInBounds i true).setIfInBounds j true).getD d false = false := getD_false (getD_unlisted (getD_unlisted (hms d hdm) hid) hjd)
      have h1 := H.2 j (ready_mono hj hji)
      obtain ⟨hjun, oj, hoj, hall⟩ := mem_ready.1 hj
      have hnot : ∀ e ∈ oj.after, Region.binds md e = true → e.on ≠ i := fun e he hb heq => by
        have h1 := hall e he hb
        rw [heq, hil] at h1
        cases h1
      have h2 := wpOp_putIf hoj (hfree j oj hoj hji hjun hnot) (fun cs b => hsel i oi cs b hi) (fun cs b => hsel j oj cs b hoj) hQ hy h1
      have hfree' : ∀ k ok, ops[k]? = some ok → k ≠ i → (listed.setIfInBounds j true).getD k true = false →
          (∀ e ∈ ok.after, Region.binds md e = true → e.on ≠ i) → oi.apart ops ok = true := fun k ok hk hki hun hno => by
        refine hfree k ok hk hki ?_ hno
        by_cases hjk : j = k
        · subst hjk; exact hjun
        · rw [getD_set_ne true hjk] at hun; exact hun
      refine wpOp_mono (fun a' w' h3 => ⟨fun _ => h3.2.1 hdj, ih (listed.setIfInBounds j true) a' w' hfree' (ready_mono hr (Ne.symm hji)) (fun m hm => getD_unlisted (hms m hm) (fun e => hnm (by rw [e]; exact hm))) h3.1 (h3.2.1 hdj) ?_⟩) h2
      rw [Array.setIfInBounds_comm _ _ hji]
      exact h3.2.2
theorem wpAnyT_take {i : Nat} {oi : Oper} {v : Value} (ms : List Nat) {fuel : Nat} {listed : Array Bool} {a : Act} {w : World} (hi : ops[i]? = some oi)
    (hs : Region.noSelect ops = true) (hf : Region.free md ops listed i = true) (hr : (Region.ready md ops listed).contains i = true)
    (hp : (pathB md ops i ms && ms.contains d && ms.all fun m => listed.getD m true == false) = true)
    (hQ : ∀ c a w, Q (.panic c) (a.put oi.dst v) w → Q (.panic c) a w) (hy : YieldsIf P ops S oi v a) (hS : S w)
    (h : wpAnyT P md ops Q S d fuel (listed.setIfInBounds i true) (a.put oi.dst v) w) : wpAnyT P md ops Q S d (fuel + 1) listed a w := by
  simp only [Bool.and_eq_true, List.all_eq_true] at hp
  exact wpAnyT_first hi (Region.noSelect_spec hs) hQ hp.1.1 (by simpa using hp.1.2) fuel listed a w (Region.free_spec hi hf) (by simpa using hr) (fun m hm => by simpa using hp.2 m hm) hy hS h
/-- Only one may come up. -/
theorem wpAnyT_one {i : Nat} {o : Oper} {fuel : Nat} {listed : Array Bool} {a : Act} {w : World} (hr : Region.ready md ops listed = [i]) (ho : ops[i]? = some o)
    (h : ∀ K' : Act → World → Prop, Shut (∀ a w, ((listed.setIfInBounds i true).getD d false = false → S w) → wpAnyT P md ops Q S d fuel (listed.setIfInBounds i true) a w → K' a w) → if Region.wanted o (yielded ops a.tmps) = true then Oper.wp P o a w K' Q else K' (a.put o.dst undef) w) :
    wpAnyT P md ops Q S d (fuel + 1) listed a w := by
  refine ⟨fun h0 => (by rw [h0] at hr; cases hr), fun j hj => ?_⟩
  rw [hr, List.mem_singleton] at hj
  subst hj
  exact wpOp_step ho (fun K' hK => h K' (fun a w hS hW => hK a w ⟨hS, hW⟩))
theorem wpAnyT_done {listed : Array Bool} {a : Act} {w : World} (hr : Region.ready md ops listed = []) (h : Q .normal a w) : ∀ fuel, wpAnyT P md ops Q S d fuel listed a w
  | 0 => ⟨hr, h⟩
  | _ + 1 => ⟨fun _ => h, by rw [hr]; simp⟩
theorem wp_region_T {id : Nat} {a : Act} {w : World} (S : World → Prop) (d : Nat) (hm : P.follows .mixedOrders = true)
    (h : wpAnyT P .any ops Q S d ops.size (Array.replicate ops.size false) a w.drew) : (Code.region id ops true).wp P Q a w :=
  wp_region_any hm (wpAny_of_T _ _ _ _ h)
end Go.Proofs.Ytfoleeamhhodaaa.Ix

/-
  Items as cells; a ring by data: a list whose front goes round.
-/
namespace Go.Proofs.Ytfoleeamhhodaaa.Qu
open Go.RowKit
set_option linter.unusedVariables false
theorem hide {p : Prop} (h : p) : Hid p := h
theorem keepF {w u v : World} (h : Below w.heap.size w u) (q : Below u.heap.size u v) : Below w.heap.size w v := h.trans (q.mono h.size)
/-- An item: its number, its size. -/
abbrev Itm := Int × Int
def g (l : List Itm) (i : Nat) : Itm := l.getD i (0, 0)
theorem g_cons (p : Itm) (r : List Itm) (i : Nat) : g (p :: r) (i + 1) = g r i := by simp [g]
theorem g_zero (p : Itm) (r : List Itm) : g (p :: r) 0 = p := by simp [g]
theorem g_get {l : List Itm} {i : Nat} (h : i < l.length) : l[i] = g l i := by simp [g, h]
theorem g_set {l : List Itm} {i j : Nat} {x : Itm} (hi : i < l.length) : g (l.set i x) j = if i = j then x else g l j := by
  unfold g
  rw [List.getD_eq_getElem?_getD, List.getElem?_set]
  by_cases h : i = j
  · subst h; simp [hi]
  · simp [h]
theorem g_app_left {l m : List Itm} {i : Nat} (h : i < l.length) : g (l ++ m) i = g l i := by simp [g, List.getD_eq_getElem?_getD, List.getElem?_append_left h]
theorem g_app_right {l m : List Itm} {i : Nat} (h : l.length ≤ i) : g (l ++ m) i = g m (i - l.length) := by simp [g, List.getD_eq_getElem?_getD, List.getElem?_append_right h]
theorem g_ext {l m : List Itm} (hl : l.length = m.length) (h : ∀ i, i < l.length → g l i = g m i) : l = m := by
  apply List.ext_getElem hl
  intro i h1 h2
  rw [g_get h1, g_get h2]
  exact h i h1
def icell (t : Itm) : List Value := [.int .i64 t.1, .int .i64 t.2]
def icells (l : List Itm) : List Value := l.flatMap icell
theorem icells_snoc (l : List Itm) (t : Itm) : icells (l ++ [t]) = icells l ++ [.int .i64 t.1, .int .i64 t.2] := by simp [icells, icell]
theorem icells_append (l m : List Itm) : icells (l ++ m) = icells l ++ icells m := by simp [icells]
theorem icells_len (l : List Itm) : (icells l).length = l.length * 2 := by
  induction l with
  | nil => rfl
  | cons p r ih => rw [icells, List.flatMap_cons, List.length_append, ← icells, ih]; simp [icell]; omega
theorem icells_get (l : List Itm) : ∀ i (_ : i < l.length), (icells l)[i * 2]? = some (.int .i64 (g l i).1) ∧ (icells l)[i * 2 + 1]? = some (.int .i64 (g l i).2) := by
  induction l with
  | nil => intro i h; simp at h
  | cons p r ih =>
    intro i h
    rw [icells, List.flatMap_cons, ← icells]
    match i with
    | 0 => simp [icell, g]
    | i + 1 =>
      have := ih i (by simpa using h)
      rw [show (i + 1) * 2 = i * 2 + 1 + 1 by omega, g_cons]
      simpa [icell] using this
theorem icells_take (l : List Itm) (k : Nat) : (icells l).take (k * 2) = icells (l.take k) := by
  induction l generalizing k with
  | nil => simp [icells]
  | cons p r ih =>
    match k with
    | 0 => simp [icells]
    | k + 1 =>
      rw [List.take_succ_cons]
      show List.take ((k + 1) * 2) ([_, _] ++ icells r) = [_, _] ++ icells (r.take k)
      rw [← ih k, show (k + 1) * 2 = k * 2 + 1 + 1 by omega]
      simp
theorem icells_drop (l : List Itm) (k : Nat) : icells (l.drop k) = (icells l).drop (k * 2) := by
  induction l generalizing k with
  | nil => simp [icells]
  | cons p r ih =>
    match k with
    | 0 => simp
    | k + 1 =>
      rw [List.drop_succ_cons, ih k]
      show _ = List.drop ((k + 1) * 2) ([_, _] ++ icells r)
      rw [show (k + 1) * 2 = k * 2 + 1 + 1 by omega]
      simp
theorem icells_set (l : List Itm) (k : Nat) (t : Itm) : ((icells l).set (k * 2) (.int .i64 t.1)).set (k * 2 + 1) (.int .i64 t.2) = icells (l.set k t) := by
  induction l generalizing k with
  | nil => simp [icells]
  | cons p r ih =>
    match k with
    | 0 => simp [icells, icell]
    | k + 1 =>
      rw [List.set_cons_succ]
      show (([_, _] ++ icells r).set ((k + 1) * 2) _).set ((k + 1) * 2 + 1) _ = [_, _] ++ icells (r.set k t)
      rw [← ih k, show (k + 1) * 2 = k * 2 + 1 + 1 by omega]
      simp
theorem ione (S : List Itm) : ∀ u ∈ icells S, u.oneCell' = true := by
  intro u hu
  unfold icells at hu
  obtain ⟨t, _, h⟩ := List.mem_flatMap.1 hu
  simp [icell] at h
  rcases h with rfl | rfl <;> rfl
/-- The items l as a list v of the call's own memory. -/
def Its (w : World) (v : Value) (l : List Itm) : Prop := w.ownsRow 0 48 2 v l.length (icells l)
theorem Its.nil (w : World) : Its w (.slice none 0 0) [] := World.ownsRow_nil _ _ _ _
theorem Its.form {w : World} {v : Value} {l : List Itm} (h : Its w v l) : ∃ ao ca, v = .slice ao l.length ca ∧ ca ≤ 9223372036854775807 ∧ l.length ≤ ca := by
  rcases h.2 with ⟨rfl, e⟩ | ⟨g, cap, cur, rfl, _, _, a, b, _⟩
  · exact ⟨_, _, by rw [e], by omega, by omega⟩
  · exact ⟨_, _, rfl, by unfold maxLen at b; omega, a⟩
theorem Its.at {w : World} {v : Value} {l : List Itm} (h : Its w v l) (hl : l ≠ []) : ∃ b ca cs, v = .slice (some ⟨b, 0, none⟩) l.length ca ∧ w.heap[b]? = some (.cells cs 48 (0, 0)) ∧ cs.size = ca * 2 ∧ cs.toList.take (l.length * 2) = icells l ∧ l.length ≤ ca ∧ ca ≤ 9223372036854775807 ∧ b < w.heap.size := by
  rcases h.2 with ⟨rfl, e⟩ | ⟨g, cap, cur, rfl, _, hh, a, b, c, d⟩
  · exact absurd (List.length_eq_zero_iff.1 e) hl
  · exact ⟨g, cap, cur, rfl, hh, c, d, a, by unfold maxLen at b; omega, heap_lt hh⟩
theorem Its.but {X : Nat → Prop} {A B : World} {v : Value} {l : List Itm} (h : Its A v l) (hb : But X A B) (hx : ∀ k, v.ownBlock = some k → ¬ X k) : Its B v l := by
  refine ⟨h.1, ?_⟩
  rcases h.2 with h | ⟨g, cap, cur, rfl, hg, hh, r⟩
  · exact .inl h
  · exact .inr ⟨g, cap, cur, rfl, hg, hb.at hh (hx g rfl), r⟩
theorem Its.below {A B : World} {v : Value} {l : List Itm} (h : Its A v l) (hb : Below A.heap.size A B) : Its B v l := h.but (But.of_below hb fun _ => False) fun _ _ c => c
theorem Its.no {w : World} {v : Value} {l : List Itm} {b : Nat} {cs : Array Value} {T : TypeId} {fz : Nat × Nat} (h : Its w v l) (hb : w.heap[b]? = some (.cells cs T fz)) (hT : T ≠ 48) : v.ownBlock ≠ some b := fun e1 => by
  rcases h.2 with ⟨rfl, _⟩ | ⟨g, cap, cur, rfl, hg, hh, r⟩
  · simp [Value.ownBlock] at e1
  · simp [Value.ownBlock] at e1
    subst e1
    rw [hb] at hh
    simp at hh
    exact hT hh.2.1
theorem Its.lt {w : World} {v : Value} {l : List Itm} (h : Its w v l) : ∀ k, v.ownBlock = some k → k < w.heap.size := fun k hk => (World.ownsRow.lt h k hk).2
theorem cell_of {w : World} {b j : Nat} {cs : Array Value} {T : TypeId} {z : Nat × Nat} (h : w.heap[b]? = some (.cells cs T z)) : w.cell? ⟨b, j, none⟩ = cs[j]? := by simp [World.cell?, h]
theorem Its.frz {w : World} {b n ca : Nat} {l : List Itm} (h : Its w (.slice (some ⟨b, 0, none⟩) n ca) l) (j : Nat) : w.frozen? ⟨b, j, none⟩ = false := by
  rcases h.2 with ⟨e, _⟩ | ⟨g', cap, cur, e, hg, hh, a, b', c, d⟩
  · simp at e
  · simp at e
    obtain ⟨rfl, rfl, rfl⟩ := e
    simp [World.frozen?, hh]
/-- An item of the list, as it is read. -/
theorem Its.read {w : World} {b n ca : Nat} {l : List Itm} (h : Its w (.slice (some ⟨b, 0, none⟩) n ca) l) (i : Nat) (hi : i < l.length) : w.cell? ⟨b, i * 2, none⟩ = some (.int .i64 (g l i).1) ∧ w.cell? ⟨b, i * 2 + 1, none⟩ = some (.int .i64 (g l i).2) := by
  obtain ⟨b', ca', cs, e, hh, _, hc, _⟩ := h.at (fun c => by rw [c] at hi; simp at hi)
  simp at e
  obtain ⟨rfl, _, rfl⟩ := e
  have hj : ∀ j, j < l.length * 2 → w.cell? ⟨b, j, none⟩ = (icells l)[j]? := by
    intro j hj
    rw [cell_of hh, ← hc, List.getElem?_take_of_lt hj]
    simp
  obtain ⟨e1, e2⟩ := icells_get l i hi
  exact ⟨by rw [hj _ (by omega), e1], by rw [hj _ (by omega), e2]⟩
theorem Its.take {w : World} {b n ca : Nat} {l : List Itm} (h : Its w (.slice (some ⟨b, 0, none⟩) n ca) l) (k : Nat) (hk : k ≤ l.length) : Its w (.slice (some ⟨b, 0, none⟩) k ca) (l.take k) := by
  have hl : (l.take k).length = k := by simp; omega
  refine ⟨by rw [hl, icells_len, hl], .inr ?_⟩
  rcases h.2 with ⟨e, _⟩ | ⟨g', cap, cur, e, hg, hh, a, b, c, d⟩
  · simp at e
  · simp at e
    obtain ⟨rfl, _, rfl⟩ := e
    refine ⟨_, ca, cur, by rw [hl], hg, hh, by omega, b, c, ?_⟩
    rw [hl, ← icells_take, ← d, List.take_take]
    congr 1
    omega
/-- An item of the list written over. -/
theorem Its.set {w : World} {b n ca : Nat} {l : List Itm} (h : Its w (.slice (some ⟨b, 0, none⟩) n ca) l) (k : Nat) (t : Itm) : Its ((w.setCell ⟨b, k * 2, none⟩ (.int .i64 t.1)).setCell ⟨b, k * 2 + 1, none⟩ (.int .i64 t.2)) (.slice (some ⟨b, 0, none⟩) n ca) (l.set k t) := by
  rcases h.2 with ⟨e, _⟩ | ⟨g', cap, cur, e, hg, hh, a, b', c, d⟩
  · simp at e
  · simp at e
    obtain ⟨rfl, rfl, rfl⟩ := e
    have h1 : (w.setCell ⟨b, k * 2, none⟩ (.int .i64 t.1)).heap[b]? = some (.cells (cur.setIfInBounds (k * 2) (.int .i64 t.1)) 48 (0, 0)) := by rw [heap_setCell_same w b (k * 2) _ _ _ hh]
    have h2 : ((w.setCell ⟨b, k * 2, none⟩ (.int .i64 t.1)).setCell ⟨b, k * 2 + 1, none⟩ (.int .i64 t.2)).heap[b]? = some (.cells ((cur.setIfInBounds (k * 2) (.int .i64 t.1)).setIfInBounds (k * 2 + 1) (.int .i64 t.2)) 48 (0, 0)) := by rw [heap_setCell_same _ b (k * 2 + 1) _ _ _ h1]
    refine ⟨by rw [icells_len], .inr ⟨b, ca, _, by rw [List.length_set], hg, h2, by rw [List.length_set]; exact a, b', by simpa using c, ?_⟩⟩
    rw [List.length_set, ← icells_set, ← d]
    simp [List.take_set]
theorem grown_two (w : World) (b i j : Nat) (x y : Value) : w.grownBy ((w.setCell ⟨b, i, none⟩ x).setCell ⟨b, j, none⟩ y) (some b) := World.grownBy.trans (grown_setCell _ _ _ _) (grown_setCell _ _ _ _)
/-- Items as they lie in a row from a cell on. -/
def Lie (w : World) (tb o : Nat) (S : List Itm) : Prop := ∀ j u, (icells S)[j]? = some u → w.cell? ⟨tb, o + j, none⟩ = some u
theorem Lie.drop {w : World} {tb : Nat} {S : List Itm} (h : Lie w tb 0 S) (k : Nat) : Lie w tb (k * 2) (S.drop k) := by
  intro j u hu
  rw [icells_drop, List.getElem?_drop] at hu
  have := h _ u hu
  rwa [Nat.zero_add] at this
theorem Lie.take {w : World} {tb o : Nat} {S : List Itm} (h : Lie w tb o S) (k : Nat) : Lie w tb o (S.take k) := by
  intro j u hu
  rw [← icells_take] at hu
  have hj : j < k * 2 := by
    have := (List.getElem?_eq_some_iff.1 hu).1
    rw [List.length_take] at this
    omega
  rw [List.getElem?_take_of_lt hj] at hu
  exact h j u hu
theorem Its.lie {w : World} {tb n ca : Nat} {l : List Itm} (h : Its w (.slice (some ⟨tb, 0, none⟩) n ca) l) : Lie w tb 0 l := by
  intro j u hu
  have hj : j < l.length * 2 := by have := (List.getElem?_eq_some_iff.1 hu).1; rwa [icells_len] at this
  have hr := h.read (j / 2) (by omega)
  obtain ⟨e1, e2⟩ := icells_get l (j / 2) (by omega)
  rw [Nat.zero_add]
  rcases Nat.mod_two_eq_zero_or_one j with q | q
  · rw [show j / 2 * 2 = j by omega] at e1 hr
    rw [e1] at hu
    rw [hr.1]; exact hu
  · rw [show j / 2 * 2 + 1 = j by omega] at e2 hr
    rw [e2] at hu
    rw [hr.2]; exact hu
/-- The ring: R its cells, f where the first one stands, H what it holds. -/
structure Rg (R : List Itm) (f : Nat) (H : List Itm) : Prop where
  len : H.length ≤ R.length
  front : f < R.length ∨ (R = [] ∧ f = 0)
  held : ∀ i, i < H.length → g H i = g R ((f + i) % R.length)
theorem Rg.none : Rg [] 0 [] := ⟨Nat.le_refl _, .inr ⟨rfl, rfl⟩, fun i h => by simp at h⟩
theorem mod_ne {f i j n : Nat} (hi : i < j) (hj : j < n) (hn : f < n) : (f + i) % n ≠ (f + j) % n := by
  intro h
  have h1 : (f + i) % n = if f + i < n then f + i else f + i - n := by
    split
    · exact Nat.mod_eq_of_lt (by assumption)
    · rw [Nat.mod_eq_sub_mod (by omega)]; exact Nat.mod_eq_of_lt (by omega)
  have h2 : (f + j) % n = if f + j < n then f + j else f + j - n := by
    split
    · exact Nat.mod_eq_of_lt (by assumption)
    · rw [Nat.mod_eq_sub_mod (by omega)]; exact Nat.mod_eq_of_lt (by omega)
  rw [h1, h2] at h
  split at h <;> split at h <;> omega
theorem Rg.push {R H : List Itm} {f : Nat} (h : Rg R f H) (hl : H.length < R.length) (x : Itm) : Rg (R.set ((f + H.length) % R.length) x) f (H ++ [x]) := by
  have hf : f < R.length := by rcases h.front with q | ⟨q, _⟩; exact q; rw [q] at hl; simp at hl
  have hm : (f + H.length) % R.length < R.length := Nat.mod_lt _ (by omega)
  refine ⟨by simp; omega, .inl (by simpa using hf), fun i hi => ?_⟩
  rw [List.length_set, g_set hm]
  simp at hi
  by_cases e : i = H.length
  · subst e
    rw [if_pos rfl, g_app_right (Nat.le_refl _)]
    simp [g]
  · rw [if_neg (fun c => mod_ne (show i < H.length by omega) hl hf c.symm), g_app_left (by omega)]
    exact h.held i (by omega)
theorem Rg.first {R : List Itm} {x : Itm} {r : List Itm} {f : Nat} (h : Rg R f (x :: r)) : f < R.length ∧ g R f = x := by
  have hl := h.len
  have hf : f < R.length := by rcases h.front with q | ⟨q, _⟩; exact q; rw [q] at hl; simp at hl
  have := h.held 0 (by simp)
  rw [Nat.add_zero, Nat.mod_eq_of_lt hf, g_zero] at this
  exact ⟨hf, this.symm⟩
theorem Rg.pop {R : List Itm} {x : Itm} {r : List Itm} {f : Nat} (h : Rg R f (x :: r)) : Rg R ((f + 1) % R.length) r := by
  have hl := h.len
  have hf := h.first.1
  refine ⟨by simp at hl; omega, .inl (Nat.mod_lt _ (by omega)), fun i hi => ?_⟩
  have := h.held (i + 1) (by simp; omega)
  rw [g_cons] at this
  rw [this, Nat.mod_add_mod]
  congr 2
  omega
theorem Rg.whole {R H : List Itm} {f : Nat} (h : Rg R f H) (hl : H.length = R.length) : R.drop f ++ R.take f = H := by
  have hf : f ≤ R.length := by rcases h.front with q | ⟨q, q2⟩ <;> omega
  refine g_ext (by simp; omega) (fun i hi => ?_)
  have hi' : i < R.length := by simp at hi; omega
  have hf' : f < R.length := by rcases h.front with q | ⟨q, q2⟩; exact q; rw [q] at hi'; simp at hi'
  rw [h.held i (by omega)]
  by_cases c : f + i < R.length
  · rw [Nat.mod_eq_of_lt c, g_app_left (by simp; omega)]
    simp [g, List.getD_eq_getElem?_getD]
  · rw [Nat.mod_eq_sub_mod (by omega), Nat.mod_eq_of_lt (by omega), g_app_right (by simp; omega)]
    simp only [g, List.getD_eq_getElem?_getD, List.length_drop]
    rw [List.getElem?_take_of_lt (by omega)]
    congr 2
    omega
theorem Rg.grown {R H : List Itm} {f : Nat} (h : Rg R f H) (hl : H.length = R.length) (Z : List Itm) (hZ : 0 < Z.length) : Rg (R.drop f ++ R.take f ++ Z) 0 H := by
  rw [h.whole hl]
  refine ⟨by simp, .inl (by simp; omega), fun i hi => ?_⟩
  rw [Nat.zero_add, Nat.mod_eq_of_lt (by simp; omega), g_app_left hi]
end Go.Proofs.Ytfoleeamhhodaaa.Qu

/-
  A queue in memory. New, made, place, hasRoom.
-/
namespace Go.Proofs.Ytfoleeamhhodaaa.Qu
open Go.RowKit
set_option linter.unusedVariables false
set_option maxRecDepth 100000
/-- A queue by data: its bounds, the bytes it counts, the ring's cells and front, what is held, who stands in line. -/
structure D where
  cap : Int
  bytes : Int
  u : Int
  R : List Itm
  f : Nat
  H : List Itm
  L : List Itm
def qc (d : D) (v vl : Value) : Array Value := #[.int .i64 d.cap, .int .i64 d.bytes, v, .int .i64 (d.f : Int), .int .i64 (d.H.length : Int), .int .i64 d.u, vl]
/-- At block b lies the queue d; v: the ring's slice, vl: the line's. -/
structure At (w : World) (b : Nat) (d : D) (v vl : Value) : Prop where
  box : w.heap[b]? = some (.cells (qc d v vl) 58 (0, 0))
  row : Its w v d.R
  rg : Rg d.R d.f d.H
  line : Its w vl d.L
  ap : ∀ k, v.ownBlock = some k → vl.ownBlock ≠ some k
  rl : d.R.length ≤ 4096
  nv : d.R = [] → v = .slice none 0 0
  r4 : d.R ≠ [] → 4 ≤ d.R.length
def Own (b : Nat) (v vl : Value) : Nat → Prop := fun k => k = b ∨ v.ownBlock = some k ∨ vl.ownBlock = some k
theorem At.but {Y : Nat → Prop} {A B : World} {b : Nat} {d : D} {v vl : Value} (h : At A b d v vl) (hb : But Y A B) (hx : ∀ k, Own b v vl k → ¬ Y k) : At B b d v vl :=
  ⟨hb.at h.box (hx b (.inl rfl)), h.row.but hb fun k hk => hx k (.inr (.inl hk)), h.rg, h.line.but hb fun k hk => hx k (.inr (.inr hk)), h.ap, h.rl, h.nv, h.r4⟩
theorem At.below {A B : World} {b : Nat} {d : D} {v vl : Value} (h : At A b d v vl) (hb : Below A.heap.size A B) : At B b d v vl := h.but (But.of_below hb fun _ => False) fun _ _ c => c
theorem At.lt {w : World} {b : Nat} {d : D} {v vl : Value} (h : At w b d v vl) : ∀ k, Own b v vl k → k < w.heap.size := by
  rintro k (rfl | hk | hk)
  · exact heap_lt h.box
  · exact h.row.lt k hk
  · exact h.line.lt k hk
theorem At.no1 {w : World} {b : Nat} {d : D} {v vl : Value} (h : At w b d v vl) : v.ownBlock ≠ some b := h.row.no h.box (by decide)
theorem At.no2 {w : World} {b : Nat} {d : D} {v vl : Value} (h : At w b d v vl) : vl.ownBlock ≠ some b := h.line.no h.box (by decide)
theorem At.cells {w : World} {b : Nat} {d : D} {v vl : Value} (h : At w b d v vl) : w.cell? ⟨b, 0, none⟩ = some (.int .i64 d.cap) ∧ w.cell? ⟨b, 1, none⟩ = some (.int .i64 d.bytes) ∧ w.cell? ⟨b, 2, none⟩ = some v ∧ w.cell? ⟨b, 3, none⟩ = some (.int .i64 (d.f : Int)) ∧ w.cell? ⟨b, 4, none⟩ = some (.int .i64 (d.H.length : Int)) ∧ w.cell? ⟨b, 5, none⟩ = some (.int .i64 d.u) ∧ w.cell? ⟨b, 6, none⟩ = some vl := by
  have := h.box
  simp [World.cell?, this, qc]
theorem At.frozen {w : World} {b : Nat} {d : D} {v vl : Value} (h : At w b d v vl) (j : Nat) : w.frozen? ⟨b, j, none⟩ = false := by
  have := h.box
  simp [World.frozen?, this]
/-- Bounds that New takes. -/
def mayB (cap bytes : Int) : Prop := 1 ≤ cap ∧ cap ≤ 1024 ∧ 1 ≤ bytes ∧ bytes ≤ 16777216
instance (cap bytes : Int) : Decidable (mayB cap bytes) := inferInstanceAs (Decidable (_ ∧ _))
def d0 (cap bytes : Int) : D := ⟨cap, bytes, 0, [], 0, [], []⟩
theorem new_any (w : World) (cap bytes : Int) (h : mayB cap bytes) : Calls Try.prog 7 #[.int .i64 cap, .int .i64 bytes] w fun e w' => e = .returned (.tuple #[.pointer (some ⟨w.heap.size, 0, none⟩), .int .i64 0]) ∧ At w' w.heap.size (d0 cap bytes) (.slice none 0 0) (.slice none 0 0) ∧ Below w.heap.size w w' := by
  obtain ⟨h1, h2, h3, h4⟩ := h
  have g1 : ¬ cap < 1 := by omega
  have g2 : ¬ cap > 1024 := by omega
  have g3 : ¬ bytes < 1 := by omega
  have g4 : ¬ bytes > 16777216 := by omega
  have FIN : Hid (At (w.alloc (.cells #[.int .i64 cap, .int .i64 bytes, .slice none 0 0, .int .i64 0, .int .i64 0, .int .i64 0, .slice none 0 0] 58)) w.heap.size (d0 cap bytes) (.slice none 0 0) (.slice none 0 0)) := ⟨heap_alloc_new _ _, Its.nil _, Rg.none, Its.nil _, by simp [Value.ownBlock], by simp [d0], fun _ => rfl, fun h => absurd rfl h⟩
  go_enter Try.func7, Try.ntmps7
  go_wp2_with fail
  go_ret2
  exact ⟨rfl, FIN.out, box_below _ _⟩
theorem new_no (w : World) (cap bytes : Int) (h : ¬ mayB cap bytes) : Calls Try.prog 7 #[.int .i64 cap, .int .i64 bytes] w fun e w' => e = .returned (.tuple #[.pointer none, .int .i64 1]) ∧ w' = w := by
  have h' : cap < 1 ∨ (¬ cap < 1 ∧ cap > 1024) ∨ (¬ cap < 1 ∧ ¬ cap > 1024 ∧ bytes < 1) ∨ (¬ cap < 1 ∧ ¬ cap > 1024 ∧ ¬ bytes < 1 ∧ bytes > 16777216) := by unfold mayB at h; omega
  clear h
  rcases h' with h | ⟨h, g⟩ | ⟨h, g, k⟩ | ⟨h, g, k, l⟩
  all_goals
    go_enter Try.func7, Try.ntmps7
    go_wp2_with fail
    go_ret2
    exact ⟨rfl, rfl⟩
theorem made_any (w : World) (b : Nat) (d : D) (v vl : Value) (h : At w b d v vl) (hc : 1 ≤ d.cap) : Calls Try.prog 29 #[.pointer (some ⟨b, 0, none⟩)] w fun e w' => e = .returned (.bool true) ∧ w' = w := by
  obtain ⟨c0, -⟩ := h.cells
  have g : d.cap > 0 := by omega
  clear h
  go_enter Try.func29, Try.ntmps29
  go_wp2_with fail
  go_ret
  exact ⟨rfl, rfl⟩
end Go.Proofs.Ytfoleeamhhodaaa.Qu

/-
  place, hasRoom, first: what only reads.
-/
namespace Go.Proofs.Ytfoleeamhhodaaa.Qu
open Go.RowKit
set_option linter.unusedVariables false
set_option maxRecDepth 100000
theorem At.qt {w q : World} {b : Nat} {d : D} {v vl : Value} (h : At w b d v vl) (hq : Qt w q) : At q b d v vl := h.below (hq.below _)
theorem wrap_i64 {x : Int} (h0 : -9223372036854775808 ≤ x) (h1 : x ≤ 9223372036854775807) : IntKind.i64.wrap x = x := by
  rw [IntKind.wrap_i64]; omega
theorem place_any (w : World) (b : Nat) (d : D) (v vl : Value) (i : Nat) (h : At w b d v vl) (hR : d.R ≠ []) (hi : i ≤ 4096) : Calls Try.prog 47 #[.pointer (some ⟨b, 2, none⟩), .int .i64 (i : Int)] w fun e w' => e = .returned (.int .i64 (((d.f + i) % d.R.length : Nat) : Int)) ∧ Qt w w' := by
  have hrl := h.rl
  have hpos : 0 < d.R.length := List.length_pos_iff.2 hR
  have hf : d.f < d.R.length := by rcases h.rg.front with q | ⟨q, _⟩; exact q; exact absurd q hR
  obtain ⟨-, -, c2, c3, -⟩ := h.cells
  obtain ⟨ao, ca, rfl, k1, k2⟩ := h.row.form
  clear h hR
  revert hrl hpos hf c2 c3 k1 k2
  generalize d.R.length = n
  generalize d.f = f
  intro hrl hpos hf c2 c3 k1 k2
  obtain ⟨z, hz⟩ : ∃ z, Hid ((f + i) % n = z) := ⟨_, rfl⟩
  rw [hz.out]
  have e1 : ((f : Int) + (i : Int)) = ((f + i : Nat) : Int) := by omega
  have ew : wrap64 ((f : Int) + (i : Int)) = ((f + i : Nat) : Int) := by unfold wrap64; omega
  obtain ⟨m, hm⟩ : ∃ m, Hid (f + i = m) := ⟨_, rfl⟩
  rw [hm.out] at hz e1 ew
  have hzm : z ≤ m := by rw [← hz.out]; exact Nat.mod_le _ _
  have et : (m : Int).tmod (n : Int) = (z : Int) := by rw [Int.tmod_eq_emod_of_nonneg (by omega), ← hz.out]; rfl
  have hne : ¬ (n : Int) = 0 := by omega
  have hne' : ¬ n = 0 := by omega
  have ew3 : IntKind.i64.wrap (z : Int) = (z : Int) := wrap_i64 (by omega) (by have := hm.out; omega)
  have ew2 : IntKind.i64.wrap (m : Int) = (m : Int) := wrap_i64 (by have := hm.out; omega) (by have := hm.out; omega)
  clear hrl hpos hf k1 k2 hzm
  go_enter Try.func47, Try.ntmps47
  go_upto_region 1 with fail
  go_quiet (fail)
  go_wp2_with fail
  go_ret
  exact ⟨rfl, _, rfl⟩
/-- Is there room for so many bytes more? -/
def roomB (d : D) (s : Int) : Bool := decide ((d.H.length : Int) < d.cap ∧ s ≤ d.bytes - d.u)
theorem hasRoom_any (w : World) (b : Nat) (d : D) (v vl : Value) (x : Itm) (h : At w b d v vl) (h0 : 0 ≤ d.u) (h1 : d.u ≤ 16777216) (h2 : 0 ≤ d.bytes) (h3 : d.bytes ≤ 16777216) : Calls Try.prog 25 #[.pointer (some ⟨b, 0, none⟩), .agg #[.int .i64 x.1, .int .i64 x.2]] w fun e w' => e = .returned (.bool (roomB d x.2)) ∧ Below w.heap.size w w' := by
  have B1 := box_below w (.cells #[.int .i64 x.1, .int .i64 x.2] 48)
  have N1 := heap_alloc_new w (.cells #[.int .i64 x.1, .int .i64 x.2] 48)
  obtain ⟨c0, c1, c2, c3, c4, c5, c6⟩ := (h.below B1).cells
  have n1 : (w.alloc (.cells #[.int .i64 x.1, .int .i64 x.2] 48)).cell? ⟨w.heap.size, 1, none⟩ = some (.int .i64 x.2) := by rw [cell_of N1]; rfl
  have ew : wrap64 (d.bytes - d.u) = d.bytes - d.u := by unfold wrap64; omega
  have ew2 : IntKind.i64.wrap (d.bytes - d.u) = d.bytes - d.u := wrap_i64 (by omega) (by omega)
  obtain ⟨w1, hw1⟩ : ∃ w1, Hid (w.alloc (.cells #[.int .i64 x.1, .int .i64 x.2] 48) = w1) := ⟨_, rfl⟩
  rw [hw1.out] at c0 c1 c2 c3 c4 c5 c6 n1
  have HB : Hid (Below w.heap.size w w1) := by rw [← hw1.out]; exact B1
  unfold roomB
  clear h N1 B1 c2 c3 c6
  by_cases q1 : (d.H.length : Int) < d.cap
  · obtain ⟨z, hz⟩ : ∃ z, Hid (decide (x.2 ≤ d.bytes - d.u) = z) := ⟨_, rfl⟩
    have q2 : Hid (decide ((d.H.length : Int) < d.cap ∧ x.2 ≤ d.bytes - d.u) = z) := by rw [← hz.out]; show _ = _; simp [q1]
    rw [q2.out]
    go_enter Try.func25, Try.ntmps25
    go_upto_region 1 with fail
    rw [hw1.out]
    go_quiet (fail)
    go_wp2_with fail
    go_ret
    exact ⟨by first | rfl | (rw [← hz.out]; rfl), keepF HB.out (Qt.below ⟨_, rfl⟩ _)⟩
  · have q2 : decide ((d.H.length : Int) < d.cap ∧ x.2 ≤ d.bytes - d.u) = false := by simp [q1]
    rw [q2]
    go_enter Try.func25, Try.ntmps25
    go_upto_region 1 with fail
    rw [hw1.out]
    go_quiet (fail)
    go_wp2_with fail
    go_ret
    exact ⟨rfl, keepF HB.out (Qt.below ⟨_, rfl⟩ _)⟩
end Go.Proofs.Ytfoleeamhhodaaa.Qu

/-
  first, pop.
-/
namespace Go.Proofs.Ytfoleeamhhodaaa.Qu
open Go.RowKit
set_option linter.unusedVariables false
set_option maxRecDepth 100000
def iv (x : Itm) : Value := .agg #[.int .i64 x.1, .int .i64 x.2]
/-- A box of an item. -/
def Ib (w : World) (k : Nat) (x : Itm) : Prop := w.heap[k]? = some (.cells #[.int .i64 x.1, .int .i64 x.2] 48 (0, 0))
theorem Ib.cells {w : World} {k : Nat} {x : Itm} (h : Ib w k x) : w.cell? ⟨k, 0, none⟩ = some (.int .i64 x.1) ∧ w.cell? ⟨k, 1, none⟩ = some (.int .i64 x.2) := ⟨by rw [cell_of h]; rfl, by rw [cell_of h]; rfl⟩
theorem Ib.frozen {w : World} {k : Nat} {x : Itm} (h : Ib w k x) (j : Nat) : w.frozen? ⟨k, j, none⟩ = false := by
  unfold Ib at h
  simp [World.frozen?, h]
theorem Ib.set {w : World} {k : Nat} {x : Itm} (h : Ib w k x) (y : Itm) : Ib ((w.setCell ⟨k, 0, none⟩ (.int .i64 y.1)).setCell ⟨k, 1, none⟩ (.int .i64 y.2)) k y := by
  unfold Ib at *
  have h1 : (w.setCell ⟨k, 0, none⟩ (.int .i64 y.1)).heap[k]? = some (.cells #[.int .i64 y.1, .int .i64 x.2] 48 (0, 0)) := by rw [heap_setCell_same w k 0 _ _ _ h]; rfl
  rw [heap_setCell_same _ k 1 _ _ _ h1]; rfl
theorem Ib.but {X : Nat → Prop} {A B : World} {k : Nat} {x : Itm} (h : Ib A k x) (hb : But X A B) (hx : ¬ X k) : Ib B k x := hb.at h hx
theorem Ib.below {A B : World} {k : Nat} {x : Itm} (h : Ib A k x) (hb : Below A.heap.size A B) : Ib B k x := h.but (But.of_below hb fun _ => False) fun c => c
theorem itemSize : (Try.prog.info? 48).map (·.size) = some 2 := by kernel_rfl
theorem below_two {w w1 : World} (h : Below w.heap.size w w1) (k i j : Nat) (hk : w.heap.size ≤ k) (x y : Value) : Below w.heap.size w ((w1.setCell ⟨k, i, none⟩ x).setCell ⟨k, j, none⟩ y) := below_block h (grown_two _ _ _ _ _ _) hk
theorem first_any (w : World) (b : Nat) (d : D) (v vl : Value) (h : At w b d v vl) (hf : d.f < d.R.length) : Calls Try.prog 42 #[.pointer (some ⟨b, 2, none⟩)] w fun e w' => e = .returned (iv (g d.R d.f)) ∧ Below w.heap.size w w' := by
  have B1 := box_below w (.cells #[.int .i64 0, .int .i64 0] 48)
  have h1 := h.below B1
  have X1 : Ib (w.alloc (.cells #[.int .i64 0, .int .i64 0] 48)) w.heap.size (0, 0) := heap_alloc_new _ _
  obtain ⟨tb, ca, cs, rfl, _, _, _, k1, k2, _⟩ := h1.row.at (fun c => by rw [c] at hf; simp at hf)
  obtain ⟨r1, r2⟩ := h1.row.read d.f hf
  obtain ⟨-, -, c2, c3, -⟩ := h1.cells
  obtain ⟨s0, s1⟩ := X1.cells
  have y0 := X1.frozen 0
  have y1 := X1.frozen 1
  have FIN := hide (X1.set (g d.R d.f))
  have FB := hide (fun x y => below_two B1 w.heap.size 0 1 (Nat.le_refl _) x y)
  have hrl := h.rl
  obtain ⟨w1, hw1⟩ : ∃ w1, Hid (w.alloc (.cells #[.int .i64 0, .int .i64 0] 48) = w1) := ⟨_, rfl⟩
  rw [hw1.out] at r1 r2 c2 c3 s0 s1 y0 y1 FIN FB
  clear h h1 B1 X1
  unfold iv
  obtain ⟨cap, bytes, u, R, f, H, L⟩ := d
  simp only at *
  obtain ⟨xi, xs, hx⟩ : ∃ xi xs, Hid (g R f = (xi, xs)) := ⟨_, _, rfl⟩
  rw [hx.out] at r1 r2 FIN ⊢
  obtain ⟨n, hn⟩ : ∃ n, Hid (R.length = n) := ⟨_, rfl⟩
  rw [hn.out] at hf c2 k1 hrl
  simp only at *
  have e0 : (f : Int) < (n : Int) := by omega
  have e1 : 0 ≤ (f : Int) := by omega
  go_enter Try.func42, Try.ntmps42
  go_upto_region 1 with fail
  rw [hw1.out]
  go_region
  all_goals go_wp2_with fail
  all_goals (try simp only [Exit.inBlock, Exit.then])
  refine bodyPost_ret (v := .agg _) (results_cell_row rfl _ _ w.heap.size 48 _ (0, 0) _ rfl FIN.out Try.underlying48 rfl itemSize) rfl ?_
  exact ⟨rfl, (FB.out _ _).drew⟩
/-- The queue's own block turned, its lists as they were. -/
theorem At.re {w w' : World} {b : Nat} {d d' : D} {v vl : Value} (h : At w b d v vl) (hb : But (fun k => k = b) w w') (hx : w'.heap[b]? = some (.cells (qc d' v vl) 58 (0, 0))) (eR : d'.R = d.R) (eL : d'.L = d.L) (hr : Rg d'.R d'.f d'.H) : At w' b d' v vl :=
  ⟨hx, by rw [eR]; exact h.row.but hb fun k hk e => h.no1 (by rw [← e]; exact hk), hr, by rw [eL]; exact h.line.but hb fun k hk e => h.no2 (by rw [← e]; exact hk), h.ap, by rw [eR]; exact h.rl, by rw [eR]; exact h.nv, by rw [eR]; exact h.r4⟩
theorem But.set {w : World} (b j : Nat) (u : Value) : But (fun k => k = b) w (w.setCell ⟨b, j, none⟩ u) := But.of_grownBy (grown_setCell _ _ _ _) fun k e => by cases e; rfl
set_option maxHeartbeats 1000000 in
theorem pop_any (w : World) (b : Nat) (d : D) (v vl : Value) (x : Itm) (r : List Itm) (h : At w b d v vl) (hH : d.H = x :: r) : Calls Try.prog 43 #[.pointer (some ⟨b, 2, none⟩)] w fun e w' => e = .returned (iv x) ∧ At w' b ⟨d.cap, d.bytes, d.u, d.R, (d.f + 1) % d.R.length, r, d.L⟩ v vl ∧ But (fun k => k = b) w w' := by
  have hrg := h.rg
  rw [hH] at hrg
  obtain ⟨hf, hx⟩ := hrg.first
  obtain ⟨z, hz⟩ : ∃ z, Hid ((d.f + 1) % d.R.length = z) := ⟨_, rfl⟩
  rw [hz.out]
  have B1 := box_below w (.cells #[.int .i64 0, .int .i64 0] 48)
  have X1 : Ib (w.alloc (.cells #[.int .i64 0, .int .i64 0] 48)) w.heap.size (0, 0) := heap_alloc_new _ _
  have hb0 := heap_lt h.box
  have hown := hide h.lt
  have hrlen : Hid (r.length + 1 ≤ 4096) := by
    have h1 := hrg.len
    have h2 := h.rl
    simp at h1
    show _ ≤ _
    omega
  obtain ⟨w1, hw1⟩ : ∃ w1, Hid (w.alloc (.cells #[.int .i64 0, .int .i64 0] 48) = w1) := ⟨_, rfl⟩
  obtain ⟨r0, hr0⟩ : ∃ r0, Hid (w.heap.size = r0) := ⟨_, rfl⟩
  have h1 := h.below B1
  rw [hw1.out, hr0.out] at X1
  rw [hw1.out] at h1
  have H1 := hide h1
  have B1' : Hid (Below w.heap.size w w1) := by rw [← hw1.out]; exact B1
  have CF := hide (first_any w1 b d v vl h1 hf)
  rw [hx] at CF
  have X1' := hide X1
  unfold iv at *
  obtain ⟨xi, xs⟩ := x
  have hH' := hide hH
  simp only at *
  clear h B1 X1 h1 hx
  go_enter Try.func43, Try.ntmps43
  go_upto_region 1 with fail
  rw [hw1.out, hr0.out]
  go_upto_region 2 with (go_at_call 42; refine CF.out.mono ?_; rintro e w2 ⟨rfl, b2⟩)
  have B3 := box_below w2 (.cells #[.int .i64 xi, .int .i64 xs] 48)
  have X3 : Hid (Ib (w2.alloc (.cells #[.int .i64 xi, .int .i64 xs] 48)) w2.heap.size (xi, xs)) := heap_alloc_new _ _
  have b3 := keepF b2 B3
  have s2 := hide b2.size
  clear B3 b2 CF
  generalize w2.alloc (.cells #[.int .i64 xi, .int .i64 xs] 48) = w3 at *
  generalize w2.heap.size = r3 at *
  have H3 := hide (H1.out.below b3)
  have X3' := hide (X1'.out.below b3)
  have B3' := hide (keepF B1'.out b3)
  have CP := hide (place_any w3 b d v vl 1 H3.out (fun c => by rw [c] at hf; simp at hf) (by omega))
  rw [hz.out] at CP
  have POP := hide hrg.pop
  rw [hz.out] at POP
  clear b3 H1 X1' hrg
  obtain ⟨cap, bytes, u, R, f, H, L⟩ := d
  simp only at *
  subst hH
  have W4 : Hid (∀ w4, Qt w3 w4 → w4.heap[b]? = some (.cells (qc ⟨cap, bytes, u, R, f, (xi, xs) :: r, L⟩ v vl) 58 (0, 0)) ∧ w4.frozen? ⟨b, 3, none⟩ = false) := fun w4 q => ⟨(H3.out.qt q).box, (H3.out.qt q).frozen 3⟩
  go_upto_region 3 with (go_at_call 47; refine CP.out.mono ?_; rintro e w4 ⟨rfl, q4⟩; obtain ⟨m1, m2⟩ := W4.out w4 q4; replace m1 := hide m1; have m3 : w4.cell? ⟨b, 3, none⟩ = some (.int .i64 (f : Int)) := by (rw [cell_of m1.out]; rfl))
  have H4 := hide (H3.out.qt q4)
  have X4 := hide (X3.out.below (q4.below _))
  have X4' := hide (X3'.out.below (q4.below _))
  have B4 := hide (keepF B3'.out (q4.below _))
  have N1 : Hid ((w4.setCell ⟨b, 3, none⟩ (.int .i64 (z : Int))).heap[b]? = some (.cells #[.int .i64 cap, .int .i64 bytes, v, .int .i64 (z : Int), .int .i64 ((r.length + 1 : Nat) : Int), .int .i64 u, vl] 58 (0, 0))) := by
    show _ = _
    rw [heap_setCell_same w4 b 3 _ _ _ m1.out]; rfl
  have U5 := hide (But.set (w := w4) b 3 (.int .i64 (z : Int)))
  clear m1 m2 m3 W4 CP q4 H3 X3 X3' B3'
  generalize w4.setCell ⟨b, 3, none⟩ (.int .i64 (z : Int)) = w5 at *
  have m4 : w5.cell? ⟨b, 4, none⟩ = some (.int .i64 ((r.length + 1 : Nat) : Int)) := by rw [cell_of N1.out]; rfl
  have m5 : w5.frozen? ⟨b, 4, none⟩ = false := by have := N1.out; simp [World.frozen?, this]
  have ew : wrap64 (((r.length + 1 : Nat) : Int) - 1) = (r.length : Int) := by
    have := hrlen.out
    unfold wrap64; omega
  obtain ⟨n1, hn1⟩ : ∃ n1, Hid (((r.length + 1 : Nat) : Int) = n1) := ⟨_, rfl⟩
  rw [hn1.out] at m4 ew
  go_upto_region 4 with fail
  have N2 : Hid ((w5.setCell ⟨b, 4, none⟩ (.int .i64 (r.length : Int))).heap[b]? = some (.cells (qc ⟨cap, bytes, u, R, z, r, L⟩ v vl) 58 (0, 0))) := by
    show _ = _
    rw [heap_setCell_same w5 b 4 _ _ _ N1.out]; rfl
  have U6 := hide (U5.out.trans (But.set (w := w5) b 4 (.int .i64 (r.length : Int))))
  clear m4 m5 N1 U5
  generalize w5.setCell ⟨b, 4, none⟩ (.int .i64 (r.length : Int)) = w6 at *
  have ne3 : r3 ≠ b := by
    have h1 := s2.out
    have h2 := B1'.out.size
    omega
  have ne0 : r0 ≠ b := by
    have h1 := hr0.out
    omega
  have X6 := X4.out.but U6.out ne3
  have X6' := X4'.out.but U6.out ne0
  obtain ⟨t0, t1⟩ := X6.cells
  obtain ⟨s0, s1⟩ := X6'.cells
  have y0 := X6'.frozen 0
  have y1 := X6'.frozen 1
  have FIN := hide (X6'.set (xi, xs))
  have A6 := hide (H4.out.re U6.out N2.out rfl rfl POP.out)
  have FA : Hid (At ((w6.setCell ⟨r0, 0, none⟩ (.int .i64 xi)).setCell ⟨r0, 1, none⟩ (.int .i64 xs)) b ⟨cap, bytes, u, R, z, r, L⟩ v vl ∧ But (fun k => k = b) w ((w6.setCell ⟨r0, 0, none⟩ (.int .i64 xi)).setCell ⟨r0, 1, none⟩ (.int .i64 xs))) := by
    have g2 := grown_two w6 r0 0 1 (.int .i64 xi) (.int .i64 xs)
    have bb : But (fun k => k = r0) w6 _ := But.of_grownBy g2 fun k e => by cases e; rfl
    have own0 := hown.out
    refine ⟨A6.out.but bb fun k hk e => ?_, ?_⟩
    · have := own0 k hk
      have h1 := hr0.out
      omega
    · have q1 : But (fun k => k = b) w w6 := (But.of_below B4.out _).trans U6.out
      refine ⟨bb.os.trans q1.os, bb.tape.trans q1.tape, bb.output.trans q1.output, Nat.le_trans q1.size bb.size, fun k hk hx => ?_⟩
      rw [bb.block k (Nat.lt_of_lt_of_le hk q1.size) (by have := hr0.out; omega)]
      exact q1.block k hk hx
  clear X6 X6' A6 X4 X4' U6 N2 H4 B4
  go_wp2_with fail
  try simp only [Exit.inBlock, Exit.then]
  refine bodyPost_ret (v := .agg _) (results_cell_row rfl _ _ r0 48 _ (0, 0) _ rfl FIN.out Try.underlying48 rfl itemSize) rfl ?_
  exact ⟨rfl, FA.out⟩
end Go.Proofs.Ytfoleeamhhodaaa.Qu

/-
  Items made, copied; the ring grows; push.
-/
namespace Go.Proofs.Ytfoleeamhhodaaa.Qu
open Go.RowKit
set_option linter.unusedVariables false
set_option maxRecDepth 100000
theorem infoIt : (Try.prog.info? 48).map (fun i => (i.zero, i.size, i.bytes)) = some (some (.agg #[.int .i64 0, .int .i64 0]), 2, 16) := by kernel_rfl
theorem icells_zero (n : Nat) : icells (List.replicate n (0, 0)) = List.replicate (n * 2) (.int .i64 0) := by
  induction n with
  | zero => rfl
  | succ n ih =>
    rw [List.replicate_succ, show (n + 1) * 2 = n * 2 + 1 + 1 by omega, List.replicate_succ, List.replicate_succ, ← ih]
    rfl
theorem made_zero (n : Nat) : (madeCells #[.int .i64 0, .int .i64 0] n).toList = List.replicate n (.int .i64 0) := by
  apply List.ext_getElem?
  intro j
  by_cases hj : j < n
  · rcases Nat.mod_two_eq_zero_or_one j with q | q <;> simp [madeCells, hj, q]
  · simp [madeCells, hj]
/-- Room for n items. -/
theorem make_items (n : Nat) (hn : n ≤ 4096) : ∃ C : Array Value, (∀ u : World, (Instr.makeSlice 35 (.int .i64 (n : Int)) (.int .i64 (n : Int))).run Try.prog u = .ok (.slice (some ⟨u.heap.size, 0, none⟩) n n) (u.alloc (.cells C 48))) ∧ ∀ u : World, Its (u.alloc (.cells C 48)) (.slice (some ⟨u.heap.size, 0, none⟩) n n) (List.replicate n (0, 0)) := by
  obtain ⟨i0, hi, hz0, hz1, hz2⟩ := info_parts infoIt
  refine ⟨madeCells #[.int .i64 0, .int .i64 0] (n * 2), fun u => ?_, fun u => ?_⟩
  · rw [run_make u 35 48 i0 (.agg #[.int .i64 0, .int .i64 0]) Try.underlying35 hi hz0 .i64 .i64 (n : Int) (n : Int) (by omega) (by omega) (by rw [hz2]; omega) (by omega), hz1]
    simp only [Int.toNat_natCast]
    rfl
  · refine ⟨by rw [icells_len], .inr ⟨u.heap.size, n, _, by rw [List.length_replicate], Nat.zero_le _, heap_alloc_new _ _, by simp, by unfold maxLen; omega, by simp [size_madeCells], ?_⟩⟩
    rw [made_zero, icells_zero]
    simp
/-- copy into one's own items. -/
theorem run_copyI {w : World} {gb n ca tb p c o dl dc : Nat} {Z m : List Itm} (h : Its w (.slice (some ⟨gb, 0, none⟩) n ca) Z) (h2 : Lie w tb p m) (hd : m.length ≤ dl) (ho : o + m.length ≤ Z.length) (ty : TypeId) :
    ∃ w', (Builtin.copy_ #[35, 35] ty #[.slice (some ⟨gb, o * 2, none⟩) dl dc, .slice (some ⟨tb, p, none⟩) m.length c]).run Try.prog w = .ok (.int .i64 (m.length : Int)) w' ∧ Its w' (.slice (some ⟨gb, 0, none⟩) n ca) (Z.take o ++ m ++ Z.drop (o + m.length)) ∧ w.grownBy w' (some gb) := by
  rcases h.2 with ⟨e, _⟩ | ⟨g', cap, cur, e, hg, hh, a, b', hcs, hd'⟩
  · simp at e
  · simp at e
    obtain ⟨rfl, rfl, rfl⟩ := e
    have hl := run_loadCells_list (P := Try.prog) w ⟨tb, p, none⟩ (icells m) (fun j v hv => by rw [addr_add]; exact h2 j v hv)
    have hst := run_storeCells_at Try.prog gb (o * 2) 48 (icells m) 0 cur w hh (by rw [icells_len]; omega) (ione m)
    obtain ⟨i0, hi, hz0, hz1, hz2⟩ := info_parts infoIt
    rw [icells_len] at hl
    have hmin : Nat.min m.length dl = m.length := Nat.min_eq_left hd
    have hlen : (Z.take o ++ m ++ Z.drop (o + m.length)).length = Z.length := by simp; omega
    have hcl : cur.toList.length = ca * 2 := by simpa using hcs
    refine ⟨w.setRow gb (cur.toList.take (o * 2 + 0) ++ icells m ++ cur.toList.drop (o * 2 + 0 + (icells m).length)).toArray, ?_, ?_, ?_⟩
    · simp [Builtin.copy_, run_underlying Try.underlying35, Builtin.lenOf, Builtin.firstCells, sizeOf, typeInfo, hi, hz1, hmin, hl, hst, goInt]
    · refine ⟨by rw [hlen, icells_len, hlen], .inr ⟨gb, ca, _, by rw [hlen], hg, setRow_heap w gb _ _ _ _ hh, by rw [hlen]; exact a, b', ?_, ?_⟩⟩
      · simp [icells_len, hcl]
        omega
      · rw [hlen, icells_append, icells_append, ← icells_take, icells_drop, ← hd', List.take_take, Nat.min_eq_left (by omega), Nat.add_zero, icells_len, List.drop_take, show (o + m.length) * 2 = o * 2 + m.length * 2 by omega]
        have e1 : (List.take (o * 2) cur.toList).length = o * 2 := by rw [List.length_take, hcl]; omega
        revert e1
        generalize List.take (o * 2) cur.toList = A1
        intro e1
        have e2 : (icells m).length = m.length * 2 := icells_len m
        revert e2
        generalize icells m = B1
        intro e2
        rw [List.append_assoc, List.append_assoc, List.take_append, e1, List.take_append, e2, List.take_of_length_le (l := A1) (by omega), List.take_of_length_le (l := B1) (by omega), Nat.sub_sub]
    · exact ⟨rfl, rfl, rfl, by simp [World.setRow], fun k hk hne => setRow_other w gb k _ (fun e => hne (by rw [e]))⟩
end Go.Proofs.Ytfoleeamhhodaaa.Qu

/-
  The ring grows.
-/
namespace Go.Proofs.Ytfoleeamhhodaaa.Qu
open Go.RowKit
set_option linter.unusedVariables false
set_option maxRecDepth 100000
/-- A step of a queue: it turns its own blocks, and those that it has behind it are its own or new. -/
def Stp (b : Nat) (v vl v' vl' : Value) (w w' : World) : Prop := But (Own b v vl) w w' ∧ ∀ k, Own b v' vl' k → Own b v vl k ∨ w.heap.size ≤ k
set_option maxHeartbeats 1000000 in
theorem grow_some (w : World) (b : Nat) (d : D) (v vl : Value) (h : At w b d v vl) (hl : d.H.length = d.R.length) (hR : d.R ≠ []) (hs : d.R.length ≤ 2000) : Calls Try.prog 49 #[.pointer (some ⟨b, 2, none⟩)] w fun e w' => e = .returned (.tuple #[]) ∧ ∃ Z v', 0 < Z.length ∧ At w' b ⟨d.cap, d.bytes, d.u, d.R.drop d.f ++ d.R.take d.f ++ Z, 0, d.H, d.L⟩ v' vl ∧ Stp b v vl v' vl w w' := by
  have hr4 := h.r4 hR
  have hf : d.f < d.R.length := by rcases h.rg.front with q | ⟨q, _⟩; exact q; exact absurd q hR
  obtain ⟨tb, ca, cs, rfl, _, _, _, k1, k2, hlt⟩ := h.row.at hR
  obtain ⟨-, -, c2, c3, -⟩ := h.cells
  have H0 := hide h
  obtain ⟨cap, bytes, u, R, f, H, L⟩ := d
  simp only at *
  obtain ⟨n, hn⟩ : ∃ n, Hid (R.length = n) := ⟨_, rfl⟩
  rw [hn.out] at hr4 hf c2 k1 hs hl
  obtain ⟨M, hM⟩ : ∃ M, Hid (2 * n = M) := ⟨_, rfl⟩
  have hM1 : Hid (n < M ∧ M ≤ 4096 ∧ 4 ≤ M) := by rw [← hM.out]; show _ ∧ _; omega
  have em1 : (4 : Int) < (M : Int) := by rw [← hM.out]; omega
  have em2 : ¬ (M : Int) < 4 := by omega
  have em3 : ¬ (M : Int) ≤ 4 := by omega
  have em4 : (4 : Int) ≤ (M : Int) := by omega
  have ew0 : 2 * (n : Int) = (M : Int) := by rw [← hM.out]; omega
  have ew : wrap64 (M : Int) = (M : Int) := by have := hM1.out; unfold wrap64; omega
  obtain ⟨C, mk, mkI⟩ := make_items M hM1.out.2.1
  replace mkI := hide mkI
  have h2 := hide (h.below (box_below w (.cells C 48)))
  have hb0 := heap_lt h.box
  have B1 := hide (box_below w (.cells C 48))
  have I1 := hide (mkI.out w)
  clear h
  go_enter Try.func49, Try.ntmps49
  go_upto_region 1 with fail
  generalize w.alloc (.cells C 48) = w1 at *
  obtain ⟨gb, hgb⟩ : ∃ gb, Hid (w.heap.size = gb) := ⟨_, rfl⟩
  rw [hgb.out] at I1 ⊢
  have bd : Below w1.heap.size w1 w1.drew := (Below.refl _ _).drew
  have h2d := hide (h2.out.below bd)
  obtain ⟨w2, cp, I2, G2⟩ := run_copyI (o := 0) (dl := M) (dc := M) (c := ca - f) (I1.out.below bd) (h2d.out.row.lie.drop f) (by rw [List.length_drop, hn.out]; have := hM1.out; omega) (by rw [List.length_drop, hn.out, List.length_replicate]; have := hM1.out; omega) 3
  rw [List.length_drop, hn.out, Nat.zero_mul] at cp
  obtain ⟨-, -, c2', c3', -⟩ := h2.out.cells
  rw [hn.out] at c2'
  simp only at c3'
  have x1 : (f : Int) ≤ (n : Int) := by omega
  have x2 : ¬ ca = f := by omega
  clear mk mkI em1 em2 em3 em4 ew0 ew c2 c3 bd
  replace I2 := hide I2
  replace G2 := hide G2
  go_region
  clear cp c2' c3' x1 x2
  obtain ⟨k, hk⟩ : ∃ k, Hid (n - f = k) := ⟨_, rfl⟩
  rw [hk.out]
  have own0 := hide H0.out.lt
  have nog : Hid (∀ j, Own b (.slice (some ⟨tb, 0, none⟩) R.length ca) vl j → j ≠ gb) := fun j hj e => by have h1 := own0.out j hj; have h2 := hgb.out; omega
  have U2 : Hid (But (fun j => j = gb) w1.drew w2) := But.of_grownBy G2.out fun k e => by cases e; rfl
  have h3 := hide (h2d.out.but U2.out nog.out)
  have bd : Below w2.heap.size w2 w2.drew := (Below.refl _ _).drew
  have h3d := hide (h3.out.below bd)
  have lk : (R.drop f).length = k := by rw [List.length_drop, hn.out]; exact hk.out
  have lt' : (R.take f).length = f := by rw [List.length_take, hn.out]; omega
  have I2l : ((List.replicate M ((0, 0) : Itm)).take 0 ++ R.drop f ++ (List.replicate M ((0, 0) : Itm)).drop (0 + (R.drop f).length)).length = M := by simp [hn.out]; have := hM1.out; omega
  obtain ⟨w3, cp, I3, G3⟩ := run_copyI (o := k) (dl := M - k) (dc := M - k) (c := ca) (I2.out.below bd) (h3d.out.row.lie.take f) (by rw [lt']; have := hM1.out; have := hk.out; omega) (by rw [lt', I2l]; have := hM1.out; have := hk.out; omega) 3
  rw [lt'] at cp
  obtain ⟨-, -, c2', c3', -⟩ := h3.out.cells
  rw [hn.out] at c2'
  simp only at c3'
  have x1 : (k : Int) ≤ (M : Int) := by have := hM1.out; have := hk.out; omega
  have x2 : ¬ M = k := by have := hM1.out; have := hk.out; omega
  have x3 : (f : Int) ≤ (ca : Int) := by omega
  have x4 : f ≤ ca := by omega
  clear bd
  replace I3 := hide I3
  replace G3 := hide G3
  go_upto_region 2 with fail
  go_region
  clear cp c2' c3' x1 x2 x3 x4
  have U3 : Hid (But (fun j => j = gb) w2.drew w3) := But.of_grownBy G3.out fun k e => by cases e; rfl
  have h4 := hide (h3d.out.but U3.out nog.out)
  have Z4 : Hid (Its w3 (.slice (some ⟨gb, 0, none⟩) M M) (R.drop f ++ R.take f ++ List.replicate (M - n) (0, 0))) := by
    have e1 := I3.out
    have hl1 : k + f = n := by have := hk.out; omega
    have e2 : ((List.replicate M ((0, 0) : Itm)).take 0 ++ R.drop f ++ (List.replicate M ((0, 0) : Itm)).drop (0 + (R.drop f).length)).take k ++ R.take f ++ ((List.replicate M ((0, 0) : Itm)).take 0 ++ R.drop f ++ (List.replicate M ((0, 0) : Itm)).drop (0 + (R.drop f).length)).drop (k + (R.take f).length) = R.drop f ++ R.take f ++ List.replicate (M - n) (0, 0) := by
      rw [lt', lk, hl1, List.take_zero, List.nil_append, Nat.zero_add, List.take_append_of_le_length (by omega), List.take_of_length_le (l := R.drop f) (by omega), List.drop_append, List.drop_of_length_le (l := R.drop f) (by omega), List.nil_append, lk, List.drop_drop, List.drop_replicate]
      congr 2
      omega
    rw [e2] at e1
    exact e1
  have B4 : Hid (But (fun j => j = gb) w w3) := by
    have q0 : But (fun j => j = gb) w w1 := But.of_below B1.out _
    exact (((q0.trans (But.of_below ((Below.refl _ _).drew) _)).trans U2.out).trans (But.of_below ((Below.refl _ _).drew) _)).trans U3.out
  have box4 := hide h4.out.box
  have f2 := h4.out.frozen 2
  have f3 := h4.out.frozen 3
  obtain ⟨-, -, c2', c3', -⟩ := h4.out.cells
  rw [hn.out] at c2'
  simp only at c3'
  obtain ⟨Z, hZ⟩ : ∃ Z, Hid (List.replicate (M - n) ((0, 0) : Itm) = Z) := ⟨_, rfl⟩
  rw [hZ.out] at Z4
  have FIN : Hid (∃ Z v', 0 < Z.length ∧ At ((w3.setCell ⟨b, 2, none⟩ (.slice (some ⟨gb, 0, none⟩) M M)).setCell ⟨b, 3, none⟩ (.int .i64 0)) b ⟨cap, bytes, u, R.drop f ++ R.take f ++ Z, 0, H, L⟩ v' vl ∧ Stp b (.slice (some ⟨tb, 0, none⟩) R.length ca) vl v' vl w ((w3.setCell ⟨b, 2, none⟩ (.slice (some ⟨gb, 0, none⟩) M M)).setCell ⟨b, 3, none⟩ (.int .i64 0))) := by
    have hZl : 0 < Z.length := by rw [← hZ.out]; simp; have := hM1.out; omega
    have hZm : Z.length ≤ M - n := by rw [← hZ.out]; simp
    have gbn : gb ≠ b := fun e => by have := hgb.out; omega
    have bb : But (fun j => j = b) w3 ((w3.setCell ⟨b, 2, none⟩ (.slice (some ⟨gb, 0, none⟩) M M)).setCell ⟨b, 3, none⟩ (.int .i64 0)) := (But.set b 2 _).trans (But.set b 3 _)
    refine ⟨Z, .slice (some ⟨gb, 0, none⟩) M M, hZl, ⟨?_, ?_, ?_, ?_, ?_, ?_, ?_, ?_⟩, ?_, ?_⟩
    · have e1 : (w3.setCell ⟨b, 2, none⟩ (.slice (some ⟨gb, 0, none⟩) M M)).heap[b]? = _ := heap_setCell_same w3 b 2 _ _ _ box4.out
      rw [heap_setCell_same _ b 3 _ _ _ e1]; rfl
    · exact Z4.out.but bb fun j hj e => by simp [Value.ownBlock] at hj; omega
    · exact H0.out.rg.grown (by rw [hn.out]; exact hl) Z hZl
    · exact h4.out.line.but bb fun j hj e => h4.out.no2 (by rw [← e]; exact hj)
    · intro j hj hj2
      simp [Value.ownBlock] at hj
      exact nog.out j (.inr (.inr hj2)) hj.symm
    · have := hM1.out
      show (R.drop f ++ R.take f ++ Z).length ≤ 4096
      rw [List.length_append, List.length_append, lt', lk]
      have := hk.out
      omega
    · intro e
      have : (R.drop f ++ R.take f ++ Z).length = 0 := by rw [show (R.drop f ++ R.take f ++ Z) = [] from e]; rfl
      rw [List.length_append] at this
      omega
    · intro _
      show 4 ≤ (R.drop f ++ R.take f ++ Z).length
      rw [List.length_append, List.length_append, lt', lk]
      have := hk.out
      omega
    · have q := (B4.out.mono (Y := fun j => Own b (.slice (some ⟨tb, 0, none⟩) R.length ca) vl j) fun j hj e => by have := hgb.out; omega).trans (bb.mono fun j _ e => .inl e)
      exact q
    · rintro j (e | e | e)
      · exact .inl (.inl e)
      · simp [Value.ownBlock] at e
        exact .inr (by have := hgb.out; omega)
      · exact .inl (.inr (.inr e))
  clear H0 h2 h2d I1 I2 G2 U2 h3 h3d I3 G3 U3 h4 Z4 B4 box4 nog own0 hl
  go_wp2_with fail
  go_end0
  exact ⟨rfl, FIN.out⟩
theorem grow_none (w : World) (b : Nat) (d : D) (v vl : Value) (h : At w b d v vl) (hR : d.R = []) : Calls Try.prog 49 #[.pointer (some ⟨b, 2, none⟩)] w fun e w' => e = .returned (.tuple #[]) ∧ ∃ Z v', 0 < Z.length ∧ At w' b ⟨d.cap, d.bytes, d.u, d.R.drop d.f ++ d.R.take d.f ++ Z, 0, d.H, d.L⟩ v' vl ∧ Stp b v vl v' vl w w' := by
  obtain rfl := h.nv hR
  have hf : d.f = 0 := by rcases h.rg.front with q | ⟨_, q⟩; (rw [hR] at q; simp at q); exact q
  have hH : d.H = [] := by have := h.rg.len; rw [hR] at this; simpa using this
  obtain ⟨-, -, c2, c3, -⟩ := h.cells
  have H0 := hide h
  obtain ⟨cap, bytes, u, R, f, H, L⟩ := d
  simp only at *
  subst hf hR hH
  obtain ⟨C, mk0, mkI⟩ := make_items 4 (by omega)
  have mk : ∀ u : World, (Instr.makeSlice 35 (.int .i64 4) (.int .i64 4)).run Try.prog u = .ok (.slice (some ⟨u.heap.size, 0, none⟩) 4 4) (u.alloc (.cells C 48)) := mk0
  clear mk0
  have h2 := h.below (box_below w (.cells C 48))
  have hb0 := heap_lt h.box
  have B1 := hide (box_below w (.cells C 48))
  have I1 := hide (mkI w)
  have H2 := hide h2
  clear mkI h
  have f2 := h2.frozen 2
  have f3 := h2.frozen 3
  obtain ⟨-, -, c2', c3', -⟩ := h2.cells
  have own0 := hide H0.out.lt
  clear h2
  have cp : ∀ (W : World) (a : Addr) (m c : Nat), (Builtin.copy_ #[35, 35] 3 #[.slice (some a) m c, .slice none 0 0]).run Try.prog W = .ok (.int .i64 0) W := fun W a m c => run_copy_nil Try.prog W _ _ _ 48 a m c Try.underlying35 (by rw [show (Try.prog.info? 48).map (·.size) = some 2 from itemSize]; rfl)
  go_enter Try.func49, Try.ntmps49
  go_upto_region 1 with fail
  generalize w.alloc (.cells C 48) = w1 at *
  obtain ⟨gb, hgb⟩ : ∃ gb, Hid (w.heap.size = gb) := ⟨_, rfl⟩
  rw [hgb.out] at I1 ⊢
  clear mk c2 c3
  go_region
  have bd1 := hide (Below.refl w1.heap.size w1).drew
  go_upto_region 2 with fail
  have FIN : Hid (∀ q, Below w1.heap.size w1 q → ∃ Z v', 0 < Z.length ∧ At ((q.setCell ⟨b, 2, none⟩ (.slice (some ⟨gb, 0, none⟩) 4 4)).setCell ⟨b, 3, none⟩ (.int .i64 0)) b ⟨cap, bytes, u, ([] : List Itm).drop 0 ++ ([] : List Itm).take 0 ++ Z, 0, [], L⟩ v' vl ∧ Stp b (.slice none 0 0) vl v' vl w ((q.setCell ⟨b, 2, none⟩ (.slice (some ⟨gb, 0, none⟩) 4 4)).setCell ⟨b, 3, none⟩ (.int .i64 0))) := by
    intro q hq
    have gbn : gb ≠ b := fun e => by have := hgb.out; omega
    have h4 := H2.out.below hq
    have bb : But (fun j => j = b) q ((q.setCell ⟨b, 2, none⟩ (.slice (some ⟨gb, 0, none⟩) 4 4)).setCell ⟨b, 3, none⟩ (.int .i64 0)) := (But.set b 2 _).trans (But.set b 3 _)
    refine ⟨List.replicate 4 (0, 0), .slice (some ⟨gb, 0, none⟩) 4 4, by decide, ⟨?_, ?_, ?_, ?_, ?_, by simp, by simp, by simp⟩, ?_, ?_⟩
    · have e1 : (q.setCell ⟨b, 2, none⟩ (.slice (some ⟨gb, 0, none⟩) 4 4)).heap[b]? = _ := heap_setCell_same q b 2 _ _ _ h4.box
      rw [heap_setCell_same _ b 3 _ _ _ e1]; rfl
    · exact (I1.out.below hq).but bb fun j hj e => by simp [Value.ownBlock] at hj; omega
    · exact H0.out.rg.grown rfl _ (by decide)
    · exact h4.line.but bb fun j hj e => h4.no2 (by rw [← e]; exact hj)
    · intro j hj hj2
      simp [Value.ownBlock] at hj
      have h1 := own0.out j (.inr (.inr hj2))
      have h2 := hgb.out
      omega
    · exact ((But.of_below B1.out _).trans (But.of_below hq _)).trans (bb.mono fun j _ e => .inl e)
    · rintro j (e | e | e)
      · exact .inl (.inl e)
      · simp [Value.ownBlock] at e
        exact .inr (by have := hgb.out; omega)
      · exact .inl (.inr (.inr e))
  clear H0 H2 I1 B1 own0
  go_region
  go_wp2_with fail
  go_end0
  obtain ⟨Z, v', z1, z2, z3⟩ := FIN.out w1.drew.drew (bd1.out.trans (Below.refl _ _).drew)
  exact ⟨rfl, Z, z1, v', z2, z3⟩
theorem grow_any (w : World) (b : Nat) (d : D) (v vl : Value) (h : At w b d v vl) (hl : d.H.length = d.R.length) (hs : d.R.length ≤ 2000) : Calls Try.prog 49 #[.pointer (some ⟨b, 2, none⟩)] w fun e w' => e = .returned (.tuple #[]) ∧ ∃ Z v', 0 < Z.length ∧ At w' b ⟨d.cap, d.bytes, d.u, d.R.drop d.f ++ d.R.take d.f ++ Z, 0, d.H, d.L⟩ v' vl ∧ Stp b v vl v' vl w w' := by
  by_cases hR : d.R = []
  · exact grow_none w b d v vl h hR
  · exact grow_some w b d v vl h hl hR hs
end Go.Proofs.Ytfoleeamhhodaaa.Qu

/-
  push: one more in the ring. (gen_QuG.py)
-/
namespace Go.Proofs.Ytfoleeamhhodaaa.Qu
open Go.RowKit
open Ix (wp_region_T wpAnyT wpAnyT_take wpAnyT_one wpAnyT_done vac)
set_option linter.unusedVariables false
set_option maxRecDepth 100000
theorem _root_.Go.Proofs.Ytfoleeamhhodaaa.But.trans_set {A B C : World} {tb b : Nat} (h : But (fun k => k = tb) A B) (k : But (fun k => k = b) B C) : But (fun k => k = tb ∨ k = b) A C := (h.mono fun _ _ e => .inl e).trans (k.mono fun _ _ e => .inr e)
theorem push_but {w q w' : World} {b tb n ca : Nat} {d : D} {v0 vl : Value} (h : At q b d (.slice (some ⟨tb, 0, none⟩) n ca) vl) (h1 : But (Own b v0 vl) w q) (h2 : But (fun k => k = tb ∨ k = b) q w') (hn : ∀ k, Own b (.slice (some ⟨tb, 0, none⟩) n ca) vl k → Own b v0 vl k ∨ w.heap.size ≤ k) : But (Own b v0 vl) w w' := by
  refine ⟨h2.os.trans h1.os, h2.tape.trans h1.tape, h2.output.trans h1.output, Nat.le_trans h1.size h2.size, fun k hk hx => ?_⟩
  rw [h2.block k (Nat.lt_of_lt_of_le hk h1.size) (by
    rintro (rfl | rfl)
    · rcases hn _ (.inr (.inl rfl)) with e | e
      · exact hx e
      · simp at e; omega
    · exact hx (.inl rfl))]
  exact h1.block k hk hx
set_option maxHeartbeats 2000000 in
theorem push_any (w : World) (b : Nat) (d : D) (v0 vl : Value) (x : Itm) (h : At w b d v0 vl) (hs : d.H.length ≤ 2000) : Calls Try.prog 41 #[.pointer (some ⟨b, 2, none⟩), .agg #[.int .i64 x.1, .int .i64 x.2]] w fun e w' => e = .returned (.tuple #[]) ∧ ∃ R' f' v', At w' b ⟨d.cap, d.bytes, d.u, R', f', d.H ++ [x], d.L⟩ v' vl ∧ Stp b v0 vl v' vl w w' := by
  have B1 := box_below w (.cells #[.int .i64 x.1, .int .i64 x.2] 48)
  have X1 : Ib (w.alloc (.cells #[.int .i64 x.1, .int .i64 x.2] 48)) w.heap.size x := heap_alloc_new _ _
  have h1 := h.below B1
  obtain ⟨w1, hw1⟩ : ∃ w1, Hid (w.alloc (.cells #[.int .i64 x.1, .int .i64 x.2] 48) = w1) := ⟨_, rfl⟩
  obtain ⟨xb, hxb⟩ : ∃ xb, Hid (w.heap.size = xb) := ⟨_, rfl⟩
  have hlt0 := hide h.lt
  have hlen := h.rg.len
  have hbw := hide (heap_lt h.box)
  rw [hw1.out, hxb.out] at X1
  rw [hw1.out] at h1 B1
  obtain ⟨-, -, c2, -, c4, -⟩ := h1.cells
  obtain ⟨ao, ca0, hv0, _, _⟩ := h1.row.form
  replace h1 := hide h1
  replace B1 := hide B1
  replace X1 := hide X1
  clear h
  rw [hv0] at c2
  by_cases hc : d.H.length < d.R.length
  · have hc' : ((d.H.length : Int) == (d.R.length : Int)) = false := by simp; omega
    go_enter Try.func41, Try.ntmps41
    go_upto_region 1 with fail
    rw [hw1.out, hxb.out]
    go_quiet (fail)
    clear c2 c4
    have qt : Below w1.heap.size w1 (w1.drewN nq) := Qt.below ⟨_, rfl⟩ _
    generalize w1.drewN nq = w2 at *
    have A2a := hide (h1.out.below qt)
    have X2 := hide (X1.out.below qt)
    have U2 : Hid (But (Own b v0 vl) w w2) := (But.of_below B1.out _).trans (But.of_below qt _)
    obtain ⟨d2, v, A2, hown, hlt, hne, d_1, d_2, d_3, d_4, d_5⟩ : ∃ d2 v, Hid (At w2 b d2 v vl) ∧ Hid (∀ k, Own b v vl k → Own b v0 vl k ∨ w.heap.size ≤ k) ∧ Hid (d2.H.length < d2.R.length) ∧ Hid (d2.R ≠ []) ∧ Hid (d2.cap = d.cap) ∧ Hid (d2.bytes = d.bytes) ∧ Hid (d2.u = d.u) ∧ Hid (d2.H = d.H) ∧ Hid (d2.L = d.L) := ⟨d, v0, A2a, fun k hk => .inl hk, hc, fun e => by rw [e] at hc; simp at hc, rfl, rfl, rfl, rfl, rfl⟩
    clear A2a hv0 h1 X1 B1 hc hc' hlen
    go_upto_region 3 with fail
    refine wp_region_T (fun q => At q b d2 v vl ∧ Ib q xb x) 12 (by kernel_rfl) ?_
    have bq : Below w2.heap.size w2 w2.drew := (Below.refl _ _).drew
    have KP : Hid (At w2.drew b d2 v vl ∧ Ib w2.drew xb x) := ⟨A2.out.below bq, X2.out.below bq⟩
    have KQ : Hid (But (Own b v0 vl) w w2.drew) := U2.out.trans (But.of_below bq _)
    clear A2 X2 U2 bq
    generalize w2.drew = q at *
    refine wpAnyT_take (i := 0) (oi := { dst := some 16, op := Op.move (Operand.tmp 0), type := 79, pos := "ring.go:30", after := #[], guard := none }) (v := .pointer (some ⟨b, 2, none⟩)) [1, 2, 3, 11, 12] rfl (by kernel_rfl) (by kernel_rfl) (by kernel_rfl) (by kernel_rfl) (fun _ _ _ h => h) (Or.inl ⟨by rfl, ?_⟩) ⟨KP.out.1, KP.out.2⟩ ?_
    · intro wq hSw
      obtain ⟨-, -, y2, y3, y4, -⟩ := hSw.1.cells
      obtain ⟨z0, z1⟩ := hSw.2.cells
      go_simp
    (try simp only [Act.put, List.setIfInBounds_toArray, List.set_cons_zero, List.set_cons_succ])
    refine wpAnyT_take (i := 1) (oi := { dst := some 17, op := Op.nilCheck (Operand.tmp 16), type := 0, pos := "ring.go:30", after := #[{ on := 0, ground := Ground.data }], guard := none }) (v := .pointer (some ⟨b, 2, none⟩)) [2, 3, 11, 12] rfl (by kernel_rfl) (by kernel_rfl) (by kernel_rfl) (by kernel_rfl) (fun _ _ _ h => h) (Or.inl ⟨by rfl, ?_⟩) ⟨KP.out.1, KP.out.2⟩ ?_
    · intro wq hSw
      obtain ⟨-, -, y2, y3, y4, -⟩ := hSw.1.cells
      obtain ⟨z0, z1⟩ := hSw.2.cells
      go_simp
    (try simp only [Act.put, List.setIfInBounds_toArray, List.set_cons_zero, List.set_cons_succ])
    refine wpAnyT_take (i := 2) (oi := { dst := some 18, op := Op.fieldAddr 56 (Operand.tmp 17) 0, type := 0, pos := "ring.go:30", after := #[{ on := 1, ground := Ground.data }], guard := none }) (v := .pointer (some ⟨b, 2, none⟩)) [3, 11, 12] rfl (by kernel_rfl) (by kernel_rfl) (by kernel_rfl) (by kernel_rfl) (fun _ _ _ h => h) (Or.inl ⟨by rfl, ?_⟩) ⟨KP.out.1, KP.out.2⟩ ?_
    · intro wq hSw
      obtain ⟨-, -, y2, y3, y4, -⟩ := hSw.1.cells
      obtain ⟨z0, z1⟩ := hSw.2.cells
      go_simp
    (try simp only [Act.put, List.setIfInBounds_toArray, List.set_cons_zero, List.set_cons_succ])
    refine wpAnyT_take (i := 3) (oi := { dst := some 19, op := Op.load 35 (Operand.tmp 18), type := 35, pos := "ring.go:30", after := #[{ on := 2, ground := Ground.data }], guard := none }) (v := v) [11, 12] rfl (by kernel_rfl) (by kernel_rfl) (by kernel_rfl) (by kernel_rfl) (fun _ _ _ h => h) (Or.inl ⟨by rfl, ?_⟩) ⟨KP.out.1, KP.out.2⟩ ?_
    · intro wq hSw
      obtain ⟨-, -, y2, y3, y4, -⟩ := hSw.1.cells
      obtain ⟨z0, z1⟩ := hSw.2.cells
      go_simp
    (try simp only [Act.put, List.setIfInBounds_toArray, List.set_cons_zero, List.set_cons_succ])
    refine wpAnyT_take (i := 4) (oi := { dst := some 20, op := Op.move (Operand.tmp 0), type := 79, pos := "ring.go:30", after := #[], guard := none }) (v := .pointer (some ⟨b, 2, none⟩)) [9, 11, 12] rfl (by kernel_rfl) (by kernel_rfl) (by kernel_rfl) (by kernel_rfl) (fun _ _ _ h => h) (Or.inl ⟨by rfl, ?_⟩) ⟨KP.out.1, KP.out.2⟩ ?_
    · intro wq hSw
      obtain ⟨-, -, y2, y3, y4, -⟩ := hSw.1.cells
      obtain ⟨z0, z1⟩ := hSw.2.cells
      go_simp
    (try simp only [Act.put, List.setIfInBounds_toArray, List.set_cons_zero, List.set_cons_succ])
    refine wpAnyT_take (i := 5) (oi := { dst := some 21, op := Op.move (Operand.tmp 0), type := 79, pos := "ring.go:30", after := #[], guard := none }) (v := .pointer (some ⟨b, 2, none⟩)) [6, 7, 8, 9, 11, 12] rfl (by kernel_rfl) (by kernel_rfl) (by kernel_rfl) (by kernel_rfl) (fun _ _ _ h => h) (Or.inl ⟨by rfl, ?_⟩) ⟨KP.out.1, KP.out.2⟩ ?_
    · intro wq hSw
      obtain ⟨-, -, y2, y3, y4, -⟩ := hSw.1.cells
      obtain ⟨z0, z1⟩ := hSw.2.cells
      go_simp
    (try simp only [Act.put, List.setIfInBounds_toArray, List.set_cons_zero, List.set_cons_succ])
    refine wpAnyT_take (i := 6) (oi := { dst := some 22, op := Op.nilCheck (Operand.tmp 21), type := 0, pos := "ring.go:30", after := #[{ on := 5, ground := Ground.data }], guard := none }) (v := .pointer (some ⟨b, 2, none⟩)) [7, 8, 9, 11, 12] rfl (by kernel_rfl) (by kernel_rfl) (by kernel_rfl) (by kernel_rfl) (fun _ _ _ h => h) (Or.inl ⟨by rfl, ?_⟩) ⟨KP.out.1, KP.out.2⟩ ?_
    · intro wq hSw
      obtain ⟨-, -, y2, y3, y4, -⟩ := hSw.1.cells
      obtain ⟨z0, z1⟩ := hSw.2.cells
      go_simp
    (try simp only [Act.put, List.setIfInBounds_toArray, List.set_cons_zero, List.set_cons_succ])
    refine wpAnyT_take (i := 7) (oi := { dst := some 23, op := Op.fieldAddr 56 (Operand.tmp 22) 2, type := 0, pos := "ring.go:30", after := #[{ on := 6, ground := Ground.data }], guard := none }) (v := .pointer (some ⟨b, 4, none⟩)) [8, 9, 11, 12] rfl (by kernel_rfl) (by kernel_rfl) (by kernel_rfl) (by kernel_rfl) (fun _ _ _ h => h) (Or.inl ⟨by rfl, ?_⟩) ⟨KP.out.1, KP.out.2⟩ ?_
    · intro wq hSw
      obtain ⟨-, -, y2, y3, y4, -⟩ := hSw.1.cells
      obtain ⟨z0, z1⟩ := hSw.2.cells
      go_simp
    (try simp only [Act.put, List.setIfInBounds_toArray, List.set_cons_zero, List.set_cons_succ])
    refine wpAnyT_take (i := 8) (oi := { dst := some 24, op := Op.load 3 (Operand.tmp 23), type := 3, pos := "ring.go:30", after := #[{ on := 7, ground := Ground.data }], guard := none }) (v := .int .i64 (d2.H.length : Int)) [9, 11, 12] rfl (by kernel_rfl) (by kernel_rfl) (by kernel_rfl) (by kernel_rfl) (fun _ _ _ h => h) (Or.inl ⟨by rfl, ?_⟩) ⟨KP.out.1, KP.out.2⟩ ?_
    · intro wq hSw
      obtain ⟨-, -, y2, y3, y4, -⟩ := hSw.1.cells
      obtain ⟨z0, z1⟩ := hSw.2.cells
      go_simp
    (try simp only [Act.put, List.setIfInBounds_toArray, List.set_cons_zero, List.set_cons_succ])
    refine wpAnyT_take (i := 10) (oi := { dst := some 26, op := Op.load 48 (Operand.tmp 3), type := 48, pos := "ring.go:30", after := #[], guard := none }) (v := .agg #[.int .i64 x.1, .int .i64 x.2]) [12] rfl (by kernel_rfl) (by kernel_rfl) (by kernel_rfl) (by kernel_rfl) (fun _ _ _ h => h) (Or.inl ⟨by rfl, ?_⟩) ⟨KP.out.1, KP.out.2⟩ ?_
    · intro wq hSw
      obtain ⟨-, -, y2, y3, y4, -⟩ := hSw.1.cells
      obtain ⟨z0, z1⟩ := hSw.2.cells
      go_simp
    (try simp only [Act.put, List.setIfInBounds_toArray, List.set_cons_zero, List.set_cons_succ])
    have CP := hide (place_any q b d2 v vl d2.H.length KP.out.1 hne.out (by have := hlt.out; have := KP.out.1.rl; omega))
    obtain ⟨p, hp⟩ : ∃ p, Hid ((d2.f + d2.H.length) % d2.R.length = p) := ⟨_, rfl⟩
    rw [hp.out] at CP
    refine wpAnyT_one (i := 9) (o := { dst := some 25, op := Op.call { callee := Callee.value (Operand.func 47), args := #[Operand.tmp 20, Operand.tmp 24], argTypes := #[79, 3] }, type := 3, pos := "ring.go:30", after := #[{ on := 4, ground := Ground.data }, { on := 8, ground := Ground.data }], guard := none }) (by kernel_rfl) rfl (fun K hK => ?_)
    go_simp
    go_at_call 47
    refine CP.out.mono ?_
    rintro e q2 ⟨rfl, qt⟩
    (try go_simp)
    refine hK.out _ _ (fun _ => ⟨KP.out.1.qt qt, KP.out.2.below (qt.below _)⟩) ?_
    clear hK K
    (try simp only [Act.put, List.setIfInBounds_toArray, List.set_cons_zero, List.set_cons_succ])
    have K2 : Hid (At q2 b d2 v vl ∧ Ib q2 xb x) := ⟨KP.out.1.qt qt, KP.out.2.below (qt.below _)⟩
    have KQ2 : Hid (But (Own b v0 vl) w q2) := KQ.out.trans (But.of_below (qt.below _) _)
    clear KP KQ qt CP
    have hpl : p < d2.R.length := by rw [← hp.out]; exact Nat.mod_lt _ (by have := hlt.out; omega)
    obtain ⟨tb, ca, cs, hv, hh, h1, h2, h3, h4, h5⟩ := K2.out.1.row.at hne.out
    subst hv
    clear hh h1 h2
    have hpl' : (p : Int) < (d2.R.length : Int) := by omega
    refine wpAnyT_one (i := 11) (o := { dst := some 27, op := Op.indexAddr 35 (Operand.tmp 19) (Operand.tmp 25), type := 0, pos := "ring.go:30", after := #[{ on := 3, ground := Ground.data }, { on := 9, ground := Ground.data }, { on := 0, ground := Ground.phase }, { on := 1, ground := Ground.phase }, { on := 2, ground := Ground.phase }, { on := 3, ground := Ground.phase }, { on := 4, ground := Ground.phase }, { on := 5, ground := Ground.phase }, { on := 6, ground := Ground.phase }, { on := 7, ground := Ground.phase }, { on := 8, ground := Ground.phase }, { on := 9, ground := Ground.phase }, { on := 10, ground := Ground.phase }], guard := none }) (by kernel_rfl) rfl (fun K hK => ?_)
    go_simp
    refine hK.out _ _ (fun _ => K2.out) ?_
    clear hK K
    (try simp only [Act.put, List.setIfInBounds_toArray, List.set_cons_zero, List.set_cons_succ])
    obtain ⟨r0, r1⟩ := K2.out.1.row.read p hpl
    have g0 := K2.out.1.row.frz (p * 2)
    have g1 := K2.out.1.row.frz (p * 2 + 1)
    have SET : Hid (Its ((q2.setCell ⟨tb, p * 2, none⟩ (.int .i64 x.1)).setCell ⟨tb, p * 2 + 1, none⟩ (.int .i64 x.2)) (.slice (some ⟨tb, 0, none⟩) d2.R.length ca) (d2.R.set p x)) := K2.out.1.row.set p x
    have US : Hid (But (fun k => k = tb) q2 ((q2.setCell ⟨tb, p * 2, none⟩ (.int .i64 x.1)).setCell ⟨tb, p * 2 + 1, none⟩ (.int .i64 x.2))) := But.of_grownBy (grown_two _ _ _ _ _ _) fun k e => by cases e; rfl
    refine wpAnyT_one (i := 12) (o := { dst := none, op := Op.store 48 (Operand.tmp 27) (Operand.tmp 26), type := 0, pos := "ring.go:30", after := #[{ on := 11, ground := Ground.data }, { on := 10, ground := Ground.data }, { on := 9, ground := Ground.chain }, { on := 0, ground := Ground.phase }, { on := 1, ground := Ground.phase }, { on := 2, ground := Ground.phase }, { on := 3, ground := Ground.phase }, { on := 4, ground := Ground.phase }, { on := 5, ground := Ground.phase }, { on := 6, ground := Ground.phase }, { on := 7, ground := Ground.phase }, { on := 8, ground := Ground.phase }, { on := 9, ground := Ground.phase }, { on := 10, ground := Ground.phase }], guard := none }) (by kernel_rfl) rfl (fun K hK => ?_)
    go_simp
    refine hK.out _ _ (vac (by kernel_rfl)) ?_
    clear hK K
    (try simp only [Act.put, List.setIfInBounds_toArray, List.set_cons_zero, List.set_cons_succ])
    refine wpAnyT_done (by kernel_rfl) ?_ _
    clear r0 r1 g0 g1
    generalize (q2.setCell ⟨tb, p * 2, none⟩ (.int .i64 x.1)).setCell ⟨tb, p * 2 + 1, none⟩ (.int .i64 x.2) = w5 at *
    have nb : b ≠ tb := fun e => K2.out.1.no1 (by rw [e]; rfl)
    have box5 := hide (US.out.at K2.out.1.box nb)
    have l5 : Hid (Its w5 vl d2.L) := K2.out.1.line.but US.out fun k hk e => K2.out.1.ap tb rfl (by rw [← e]; exact hk)
    have c4 : w5.cell? ⟨b, 4, none⟩ = some (.int .i64 (d2.H.length : Int)) := by rw [cell_of box5.out]; rfl
    have f4 : w5.frozen? ⟨b, 4, none⟩ = false := by have := box5.out; simp [World.frozen?, this]
    have ew : wrap64 ((d2.H.length : Int) + 1) = (d2.H.length : Int) + 1 := by
      have := hlt.out
      have := K2.out.1.rl
      unfold wrap64; omega
    have FIN : Hid (At (w5.setCell ⟨b, 4, none⟩ (.int .i64 ((d2.H.length : Int) + 1))) b ⟨d2.cap, d2.bytes, d2.u, d2.R.set p x, d2.f, d2.H ++ [x], d2.L⟩ (.slice (some ⟨tb, 0, none⟩) d2.R.length ca) vl ∧ Stp b v0 vl (.slice (some ⟨tb, 0, none⟩) d2.R.length ca) vl w (w5.setCell ⟨b, 4, none⟩ (.int .i64 ((d2.H.length : Int) + 1)))) := by
      have bb := But.set (w := w5) b 4 (.int .i64 ((d2.H.length : Int) + 1))
      have RG := K2.out.1.rg.push hlt.out x
      rw [hp.out] at RG
      refine ⟨⟨?_, ?_, RG, ?_, K2.out.1.ap, ?_, ?_, ?_⟩, ?_, hown.out⟩
      · rw [heap_setCell_same w5 b 4 _ _ _ box5.out]; simp [qc]
      · exact SET.out.but bb fun k hk e => by simp [Value.ownBlock] at hk; omega
      · exact l5.out.but bb fun k hk e => K2.out.1.no2 (by rw [← e]; exact hk)
      · simpa using K2.out.1.rl
      · intro e
        exact absurd (by simpa using e) hne.out
      · intro _
        simpa using K2.out.1.r4 hne.out
      · exact push_but K2.out.1 KQ2.out (US.out.trans_set bb) hown.out
    clear K2 KQ2 SET US box5 l5 hown
    go_wp2_with fail
    go_end0
    have FIN' := FIN.out
    revert FIN'
    generalize w5.setCell ⟨b, 4, none⟩ (.int .i64 ((d2.H.length : Int) + 1)) = w6
    rw [d_1.out, d_2.out, d_3.out, d_5.out, d_4.out]
    intro FIN'
    exact ⟨rfl, _, _, _, FIN'⟩
  · have hc2 : d.H.length = d.R.length := by omega
    have hc' : ((d.H.length : Int) == (d.R.length : Int)) = true := by simp; omega
    go_enter Try.func41, Try.ntmps41
    go_upto_region 1 with fail
    rw [hw1.out, hxb.out]
    go_quiet (fail)
    clear c2 c4
    have qt : Below w1.heap.size w1 (w1.drewN nq) := Qt.below ⟨_, rfl⟩ _
    generalize w1.drewN nq = wa at *
    have Aa := hide (h1.out.below qt)
    have Xa := hide (X1.out.below qt)
    have Ua : Hid (But (Own b v0 vl) w wa) := (But.of_below B1.out _).trans (But.of_below qt _)
    have GR := hide (grow_any wa b d v0 vl Aa.out hc2 (by omega))
    go_upto_region 3 with (go_at_call 49; refine GR.out.mono ?_; rintro e w2 ⟨rfl, Z, v, z1, z2, z3⟩)
    have nox : ¬ Own b v0 vl xb := fun h => by have h1 := hlt0.out _ h; have h2 := hxb.out; omega
    have X2 := hide (Xa.out.but z3.1 nox)
    have U2 := hide (Ua.out.trans z3.1)
    obtain ⟨d2, A2, hown, hlt, hne, d_1, d_2, d_3, d_4, d_5⟩ : ∃ d2, Hid (At w2 b d2 v vl) ∧ Hid (∀ k, Own b v vl k → Own b v0 vl k ∨ w.heap.size ≤ k) ∧ Hid (d2.H.length < d2.R.length) ∧ Hid (d2.R ≠ []) ∧ Hid (d2.cap = d.cap) ∧ Hid (d2.bytes = d.bytes) ∧ Hid (d2.u = d.u) ∧ Hid (d2.H = d.H) ∧ Hid (d2.L = d.L) := by
      have hl : d.H.length < (d.R.drop d.f ++ d.R.take d.f ++ Z).length := by
        rw [Aa.out.rg.whole hc2, List.length_append]; omega
      refine ⟨_, z2, fun k hk => (z3.2 k hk).imp id fun e => Nat.le_trans Ua.out.size e, hl, fun e => ?_, rfl, rfl, rfl, rfl, rfl⟩
      simp only at e
      rw [e] at hl
      simp at hl
    clear z1 z2 z3 hv0 h1 X1 B1 hc hc' hc2 hlen qt Aa Xa Ua GR nox
    go_upto_region 3 with fail
    refine wp_region_T (fun q => At q b d2 v vl ∧ Ib q xb x) 12 (by kernel_rfl) ?_
    have bq : Below w2.heap.size w2 w2.drew := (Below.refl _ _).drew
    have KP : Hid (At w2.drew b d2 v vl ∧ Ib w2.drew xb x) := ⟨A2.out.below bq, X2.out.below bq⟩
    have KQ : Hid (But (Own b v0 vl) w w2.drew) := U2.out.trans (But.of_below bq _)
    clear A2 X2 U2 bq
    generalize w2.drew = q at *
    refine wpAnyT_take (i := 0) (oi := { dst := some 16, op := Op.move (Operand.tmp 0), type := 79, pos := "ring.go:30", after := #[], guard := none }) (v := .pointer (some ⟨b, 2, none⟩)) [1, 2, 3, 11, 12] rfl (by kernel_rfl) (by kernel_rfl) (by kernel_rfl) (by kernel_rfl) (fun _ _ _ h => h) (Or.inl ⟨by rfl, ?_⟩) ⟨KP.out.1, KP.out.2⟩ ?_
    · intro wq hSw
      obtain ⟨-, -, y2, y3, y4, -⟩ := hSw.1.cells
      obtain ⟨z0, z1⟩ := hSw.2.cells
      go_simp
    (try simp only [Act.put, List.setIfInBounds_toArray, List.set_cons_zero, List.set_cons_succ])
    refine wpAnyT_take (i := 1) (oi := { dst := some 17, op := Op.nilCheck (Operand.tmp 16), type := 0, pos := "ring.go:30", after := #[{ on := 0, ground := Ground.data }], guard := none }) (v := .pointer (some ⟨b, 2, none⟩)) [2, 3, 11, 12] rfl (by kernel_rfl) (by kernel_rfl) (by kernel_rfl) (by kernel_rfl) (fun _ _ _ h => h) (Or.inl ⟨by rfl, ?_⟩) ⟨KP.out.1, KP.out.2⟩ ?_
    · intro wq hSw
      obtain ⟨-, -, y2, y3, y4, -⟩ := hSw.1.cells
      obtain ⟨z0, z1⟩ := hSw.2.cells
      go_simp
    (try simp only [Act.put, List.setIfInBounds_toArray, List.set_cons_zero, List.set_cons_succ])
    refine wpAnyT_take (i := 2) (oi := { dst := some 18, op := Op.fieldAddr 56 (Operand.tmp 17) 0, type := 0, pos := "ring.go:30", after := #[{ on := 1, ground := Ground.data }], guard := none }) (v := .pointer (some ⟨b, 2, none⟩)) [3, 11, 12] rfl (by kernel_rfl) (by kernel_rfl) (by kernel_rfl) (by kernel_rfl) (fun _ _ _ h => h) (Or.inl ⟨by rfl, ?_⟩) ⟨KP.out.1, KP.out.2⟩ ?_
    · intro wq hSw
      obtain ⟨-, -, y2, y3, y4, -⟩ := hSw.1.cells
      obtain ⟨z0, z1⟩ := hSw.2.cells
      go_simp
    (try simp only [Act.put, List.setIfInBounds_toArray, List.set_cons_zero, List.set_cons_succ])
    refine wpAnyT_take (i := 3) (oi := { dst := some 19, op := Op.load 35 (Operand.tmp 18), type := 35, pos := "ring.go:30", after := #[{ on := 2, ground := Ground.data }], guard := none }) (v := v) [11, 12] rfl (by kernel_rfl) (by kernel_rfl) (by kernel_rfl) (by kernel_rfl) (fun _ _ _ h => h) (Or.inl ⟨by rfl, ?_⟩) ⟨KP.out.1, KP.out.2⟩ ?_
    · intro wq hSw
      obtain ⟨-, -, y2, y3, y4, -⟩ := hSw.1.cells
      obtain ⟨z0, z1⟩ := hSw.2.cells
      go_simp
    (try simp only [Act.put, List.setIfInBounds_toArray, List.set_cons_zero, List.set_cons_succ])
    refine wpAnyT_take (i := 4) (oi := { dst := some 20, op := Op.move (Operand.tmp 0), type := 79, pos := "ring.go:30", after := #[], guard := none }) (v := .pointer (some ⟨b, 2, none⟩)) [9, 11, 12] rfl (by kernel_rfl) (by kernel_rfl) (by kernel_rfl) (by kernel_rfl) (fun _ _ _ h => h) (Or.inl ⟨by rfl, ?_⟩) ⟨KP.out.1, KP.out.2⟩ ?_
    · intro wq hSw
      obtain ⟨-, -, y2, y3, y4, -⟩ := hSw.1.cells
      obtain ⟨z0, z1⟩ := hSw.2.cells
      go_simp
    (try simp only [Act.put, List.setIfInBounds_toArray, List.set_cons_zero, List.set_cons_succ])
    refine wpAnyT_take (i := 5) (oi := { dst := some 21, op := Op.move (Operand.tmp 0), type := 79, pos := "ring.go:30", after := #[], guard := none }) (v := .pointer (some ⟨b, 2, none⟩)) [6, 7, 8, 9, 11, 12] rfl (by kernel_rfl) (by kernel_rfl) (by kernel_rfl) (by kernel_rfl) (fun _ _ _ h => h) (Or.inl ⟨by rfl, ?_⟩) ⟨KP.out.1, KP.out.2⟩ ?_
    · intro wq hSw
      obtain ⟨-, -, y2, y3, y4, -⟩ := hSw.1.cells
      obtain ⟨z0, z1⟩ := hSw.2.cells
      go_simp
    (try simp only [Act.put, List.setIfInBounds_toArray, List.set_cons_zero, List.set_cons_succ])
    refine wpAnyT_take (i := 6) (oi := { dst := some 22, op := Op.nilCheck (Operand.tmp 21), type := 0, pos := "ring.go:30", after := #[{ on := 5, ground := Ground.data }], guard := none }) (v := .pointer (some ⟨b, 2, none⟩)) [7, 8, 9, 11, 12] rfl (by kernel_rfl) (by kernel_rfl) (by kernel_rfl) (by kernel_rfl) (fun _ _ _ h => h) (Or.inl ⟨by rfl, ?_⟩) ⟨KP.out.1, KP.out.2⟩ ?_
    · intro wq hSw
      obtain ⟨-, -, y2, y3, y4, -⟩ := hSw.1.cells
      obtain ⟨z0, z1⟩ := hSw.2.cells
      go_simp
    (try simp only [Act.put, List.setIfInBounds_toArray, List.set_cons_zero, List.set_cons_succ])
    refine wpAnyT_take (i := 7) (oi := { dst := some 23, op := Op.fieldAddr 56 (Operand.tmp 22) 2, type := 0, pos := "ring.go:30", after := #[{ on := 6, ground := Ground.data }], guard := none }) (v := .pointer (some ⟨b, 4, none⟩)) [8, 9, 11, 12] rfl (by kernel_rfl) (by kernel_rfl) (by kernel_rfl) (by kernel_rfl) (fun _ _ _ h => h) (Or.inl ⟨by rfl, ?_⟩) ⟨KP.out.1, KP.out.2⟩ ?_
    · intro wq hSw
      obtain ⟨-, -, y2, y3, y4, -⟩ := hSw.1.cells
      obtain ⟨z0, z1⟩ := hSw.2.cells
      go_simp
    (try simp only [Act.put, List.setIfInBounds_toArray, List.set_cons_zero, List.set_cons_succ])
    refine wpAnyT_take (i := 8) (oi := { dst := some 24, op := Op.load 3 (Operand.tmp 23), type := 3, pos := "ring.go:30", after := #[{ on := 7, ground := Ground.data }], guard := none }) (v := .int .i64 (d2.H.length : Int)) [9, 11, 12] rfl (by kernel_rfl) (by kernel_rfl) (by kernel_rfl) (by kernel_rfl) (fun _ _ _ h => h) (Or.inl ⟨by rfl, ?_⟩) ⟨KP.out.1, KP.out.2⟩ ?_
    · intro wq hSw
      obtain ⟨-, -, y2, y3, y4, -⟩ := hSw.1.cells
      obtain ⟨z0, z1⟩ := hSw.2.cells
      go_simp
    (try simp only [Act.put, List.setIfInBounds_toArray, List.set_cons_zero, List.set_cons_succ])
    refine wpAnyT_take (i := 10) (oi := { dst := some 26, op := Op.load 48 (Operand.tmp 3), type := 48, pos := "ring.go:30", after := #[], guard := none }) (v := .agg #[.int .i64 x.1, .int .i64 x.2]) [12] rfl (by kernel_rfl) (by kernel_rfl) (by kernel_rfl) (by kernel_rfl) (fun _ _ _ h => h) (Or.inl ⟨by rfl, ?_⟩) ⟨KP.out.1, KP.out.2⟩ ?_
    · intro wq hSw
      obtain ⟨-, -, y2, y3, y4, -⟩ := hSw.1.cells
      obtain ⟨z0, z1⟩ := hSw.2.cells
      go_simp
    (try simp only [Act.put, List.setIfInBounds_toArray, List.set_cons_zero, List.set_cons_succ])
    have CP := hide (place_any q b d2 v vl d2.H.length KP.out.1 hne.out (by have := hlt.out; have := KP.out.1.rl; omega))
    obtain ⟨p, hp⟩ : ∃ p, Hid ((d2.f + d2.H.length) % d2.R.length = p) := ⟨_, rfl⟩
    rw [hp.out] at CP
    refine wpAnyT_one (i := 9) (o := { dst := some 25, op := Op.call { callee := Callee.value (Operand.func 47), args := #[Operand.tmp 20, Operand.tmp 24], argTypes := #[79, 3] }, type := 3, pos := "ring.go:30", after := #[{ on := 4, ground := Ground.data }, { on := 8, ground := Ground.data }], guard := none }) (by kernel_rfl) rfl (fun K hK => ?_)
    go_simp
    go_at_call 47
    refine CP.out.mono ?_
    rintro e q2 ⟨rfl, qt⟩
    (try go_simp)
    refine hK.out _ _ (fun _ => ⟨KP.out.1.qt qt, KP.out.2.below (qt.below _)⟩) ?_
    clear hK K
    (try simp only [Act.put, List.setIfInBounds_toArray, List.set_cons_zero, List.set_cons_succ])
    have K2 : Hid (At q2 b d2 v vl ∧ Ib q2 xb x) := ⟨KP.out.1.qt qt, KP.out.2.below (qt.below _)⟩
    have KQ2 : Hid (But (Own b v0 vl) w q2) := KQ.out.trans (But.of_below (qt.below _) _)
    clear KP KQ qt CP
    have hpl : p < d2.R.length := by rw [← hp.out]; exact Nat.mod_lt _ (by have := hlt.out; omega)
    obtain ⟨tb, ca, cs, hv, hh, h1, h2, h3, h4, h5⟩ := K2.out.1.row.at hne.out
    subst hv
    clear hh h1 h2
    have hpl' : (p : Int) < (d2.R.length : Int) := by omega
    refine wpAnyT_one (i := 11) (o := { dst := some 27, op := Op.indexAddr 35 (Operand.tmp 19) (Operand.tmp 25), type := 0, pos := "ring.go:30", after := #[{ on := 3, ground := Ground.data }, { on := 9, ground := Ground.data }, { on := 0, ground := Ground.phase }, { on := 1, ground := Ground.phase }, { on := 2, ground := Ground.phase }, { on := 3, ground := Ground.phase }, { on := 4, ground := Ground.phase }, { on := 5, ground := Ground.phase }, { on := 6, ground := Ground.phase }, { on := 7, ground := Ground.phase }, { on := 8, ground := Ground.phase }, { on := 9, ground := Ground.phase }, { on := 10, ground := Ground.phase }], guard := none }) (by kernel_rfl) rfl (fun K hK => ?_)
    go_simp
    refine hK.out _ _ (fun _ => K2.out) ?_
    clear hK K
    (try simp only [Act.put, List.setIfInBounds_toArray, List.set_cons_zero, List.set_cons_succ])
    obtain ⟨r0, r1⟩ := K2.out.1.row.read p hpl
    have g0 := K2.out.1.row.frz (p * 2)
    have g1 := K2.out.1.row.frz (p * 2 + 1)
    have SET : Hid (Its ((q2.setCell ⟨tb, p * 2, none⟩ (.int .i64 x.1)).setCell ⟨tb, p * 2 + 1, none⟩ (.int .i64 x.2)) (.slice (some ⟨tb, 0, none⟩) d2.R.length ca) (d2.R.set p x)) := K2.out.1.row.set p x
    have US : Hid (But (fun k => k = tb) q2 ((q2.setCell ⟨tb, p * 2, none⟩ (.int .i64 x.1)).setCell ⟨tb, p * 2 + 1, none⟩ (.int .i64 x.2))) := But.of_grownBy (grown_two _ _ _ _ _ _) fun k e => by cases e; rfl
    refine wpAnyT_one (i := 12) (o := { dst := none, op := Op.store 48 (Operand.tmp 27) (Operand.tmp 26), type := 0, pos := "ring.go:30", after := #[{ on := 11, ground := Ground.data }, { on := 10, ground := Ground.data }, { on := 9, ground := Ground.chain }, { on := 0, ground := Ground.phase }, { on := 1, ground := Ground.phase }, { on := 2, ground := Ground.phase }, { on := 3, ground := Ground.phase }, { on := 4, ground := Ground.phase }, { on := 5, ground := Ground.phase }, { on := 6, ground := Ground.phase }, { on := 7, ground := Ground.phase }, { on := 8, ground := Ground.phase }, { on := 9, ground := Ground.phase }, { on := 10, ground := Ground.phase }], guard := none }) (by kernel_rfl) rfl (fun K hK => ?_)
    go_simp
    refine hK.out _ _ (vac (by kernel_rfl)) ?_
    clear hK K
    (try simp only [Act.put, List.setIfInBounds_toArray, List.set_cons_zero, List.set_cons_succ])
    refine wpAnyT_done (by kernel_rfl) ?_ _
    clear r0 r1 g0 g1
    generalize (q2.setCell ⟨tb, p * 2, none⟩ (.int .i64 x.1)).setCell ⟨tb, p * 2 + 1, none⟩ (.int .i64 x.2) = w5 at *
    have nb : b ≠ tb := fun e => K2.out.1.no1 (by rw [e]; rfl)
    have box5 := hide (US.out.at K2.out.1.box nb)
    have l5 : Hid (Its w5 vl d2.L) := K2.out.1.line.but US.out fun k hk e => K2.out.1.ap tb rfl (by rw [← e]; exact hk)
    have c4 : w5.cell? ⟨b, 4, none⟩ = some (.int .i64 (d2.H.length : Int)) := by rw [cell_of box5.out]; rfl
    have f4 : w5.frozen? ⟨b, 4, none⟩ = false := by have := box5.out; simp [World.frozen?, this]
    have ew : wrap64 ((d2.H.length : Int) + 1) = (d2.H.length : Int) + 1 := by
      have := hlt.out
      have := K2.out.1.rl
      unfold wrap64; omega
    have FIN : Hid (At (w5.setCell ⟨b, 4, none⟩ (.int .i64 ((d2.H.length : Int) + 1))) b ⟨d2.cap, d2.bytes, d2.u, d2.R.set p x, d2.f, d2.H ++ [x], d2.L⟩ (.slice (some ⟨tb, 0, none⟩) d2.R.length ca) vl ∧ Stp b v0 vl (.slice (some ⟨tb, 0, none⟩) d2.R.length ca) vl w (w5.setCell ⟨b, 4, none⟩ (.int .i64 ((d2.H.length : Int) + 1)))) := by
      have bb := But.set (w := w5) b 4 (.int .i64 ((d2.H.length : Int) + 1))
      have RG := K2.out.1.rg.push hlt.out x
      rw [hp.out] at RG
      refine ⟨⟨?_, ?_, RG, ?_, K2.out.1.ap, ?_, ?_, ?_⟩, ?_, hown.out⟩
      · rw [heap_setCell_same w5 b 4 _ _ _ box5.out]; simp [qc]
      · exact SET.out.but bb fun k hk e => by simp [Value.ownBlock] at hk; omega
      · exact l5.out.but bb fun k hk e => K2.out.1.no2 (by rw [← e]; exact hk)
      · simpa using K2.out.1.rl
      · intro e
        exact absurd (by simpa using e) hne.out
      · intro _
        simpa using K2.out.1.r4 hne.out
      · exact push_but K2.out.1 KQ2.out (US.out.trans_set bb) hown.out
    clear K2 KQ2 SET US box5 l5 hown
    go_wp2_with fail
    go_end0
    have FIN' := FIN.out
    revert FIN'
    generalize w5.setCell ⟨b, 4, none⟩ (.int .i64 ((d2.H.length : Int) + 1)) = w6
    rw [d_1.out, d_2.out, d_3.out, d_5.out, d_4.out]
    intro FIN'
    exact ⟨rfl, _, _, _, FIN'⟩
/-- What a queue is while it holds d. -/
theorem hold_any (w : World) (b : Nat) (d : D) (v vl : Value) (x : Itm) (h : At w b d v vl) (hs : d.H.length ≤ 2000) (h0 : 0 ≤ d.u) (h1 : d.u ≤ 16777216) (h2 : 0 ≤ x.2) (h3 : x.2 ≤ 16777216) : Calls Try.prog 26 #[.pointer (some ⟨b, 0, none⟩), .agg #[.int .i64 x.1, .int .i64 x.2]] w fun e w' => e = .returned (.tuple #[]) ∧ ∃ R' f' v', At w' b ⟨d.cap, d.bytes, d.u + x.2, R', f', d.H ++ [x], d.L⟩ v' vl ∧ Stp b v vl v' vl w w' := by
  have B1 := box_below w (.cells #[.int .i64 x.1, .int .i64 x.2] 48)
  have X1 : Ib (w.alloc (.cells #[.int .i64 x.1, .int .i64 x.2] 48)) w.heap.size x := heap_alloc_new _ _
  have A1 := h.below B1
  obtain ⟨w1, hw1⟩ : ∃ w1, Hid (w.alloc (.cells #[.int .i64 x.1, .int .i64 x.2] 48) = w1) := ⟨_, rfl⟩
  obtain ⟨xb, hxb⟩ : ∃ xb, Hid (w.heap.size = xb) := ⟨_, rfl⟩
  have hlt0 := hide h.lt
  rw [hw1.out, hxb.out] at X1
  rw [hw1.out] at A1 B1
  have bq : Below w1.heap.size w1 w1.drew := (Below.refl _ _).drew
  have CP := hide (push_any w1.drew b d v vl x (A1.below bq) hs)
  obtain ⟨z0, z1⟩ := X1.cells
  replace B1 := hide (keepF B1 bq)
  replace X1 := hide (X1.below bq)
  have ew : wrap64 (d.u + x.2) = d.u + x.2 := by unfold wrap64; omega
  have ew2 : IntKind.i64.wrap (d.u + x.2) = d.u + x.2 := wrap_i64 (by omega) (by omega)
  clear h A1 bq
  go_enter Try.func26, Try.ntmps26
  go_upto_region 1 with fail
  rw [hw1.out, hxb.out]
  go_region_with (go_at_call 41; refine CP.out.mono ?_; rintro e w2 ⟨rfl, R', f', v', A2, S2⟩)
  clear CP z0 z1
  have nox : ¬ Own b v vl xb := fun h => by have h1 := hlt0.out _ h; have h2 := hxb.out; omega
  have X2 := X1.out.but S2.1 nox
  obtain ⟨z0, z1⟩ := X2.cells
  obtain ⟨-, -, -, -, -, c5, -⟩ := A2.cells
  have f5 := A2.frozen 5
  have FIN : Hid (At (w2.setCell ⟨b, 5, none⟩ (.int .i64 (d.u + x.2))) b ⟨d.cap, d.bytes, d.u + x.2, R', f', d.H ++ [x], d.L⟩ v' vl ∧ Stp b v vl v' vl w (w2.setCell ⟨b, 5, none⟩ (.int .i64 (d.u + x.2)))) := by
    have bb := But.set (w := w2) b 5 (.int .i64 (d.u + x.2))
    refine ⟨A2.re bb ?_ rfl rfl A2.rg, ((But.of_below B1.out _).trans S2.1).trans (bb.mono fun k _ e => .inl e), fun k hk => (S2.2 k hk).imp id fun e => Nat.le_trans B1.out.size e⟩
    rw [heap_setCell_same w2 b 5 _ _ _ A2.box]; rfl
  clear A2 S2 X1 X2 B1 nox
  go_upto_region 2 with fail
  go_region
  all_goals go_wp2_with fail
  all_goals go_end0
  all_goals exact ⟨rfl, _, _, _, (FIN.out.1.below (Below.refl _ _).drew), FIN.out.2.1.trans (But.of_below (Below.refl _ _).drew _), FIN.out.2.2⟩
end Go.Proofs.Ytfoleeamhhodaaa.Qu

