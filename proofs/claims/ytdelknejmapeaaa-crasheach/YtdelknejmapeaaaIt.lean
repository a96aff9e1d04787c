/-
  Iterators that keep state of their own in cells, and hand over what lies in memory: a contract by two sets of blocks, and the law for a range over one.
-/
import Derived.RangeFuncNested
import Derived.RangeFuncLeaves
import Derived.Below
namespace Go.Proofs.Ytdelknejmapeaaa
open Go.RowKit

/-- W' is W but for the blocks of X. -/
structure But (X : Nat → Prop) (W W' : World) : Prop where
  os : W'.os = W.os
  tape : W'.tape = W.tape
  output : W'.output = W.output
  size : W.heap.size ≤ W'.heap.size
  block : ∀ k, k < W.heap.size → ¬ X k → W'.heap[k]? = W.heap[k]?

theorem But.refl (X : Nat → Prop) (W : World) : But X W W := ⟨rfl, rfl, rfl, Nat.le_refl _, fun _ _ _ => rfl⟩
theorem But.trans {X : Nat → Prop} {A B C : World} (h : But X A B) (k : But X B C) : But X A C :=
  ⟨k.os.trans h.os, k.tape.trans h.tape, k.output.trans h.output, Nat.le_trans h.size k.size, fun i hi hx => (k.block i (Nat.lt_of_lt_of_le hi h.size) hx).trans (h.block i hi hx)⟩
theorem But.mono {X Y : Nat → Prop} {A B : World} (h : But X A B) (hs : ∀ k, k < A.heap.size → X k → Y k) : But Y A B :=
  ⟨h.os, h.tape, h.output, h.size, fun k hk hy => h.block k hk (fun hx => hy (hs k hk hx))⟩
theorem But.below {X : Nat → Prop} {A B : World} {n : Nat} (h : But X A B) (hn : n ≤ A.heap.size) (hX : ∀ k, X k → n ≤ k) : Below n A B :=
  ⟨h.os, h.tape, h.output, h.size, fun k hk => h.block k (Nat.lt_of_lt_of_le hk hn) (fun hx => Nat.lt_irrefl _ (Nat.lt_of_lt_of_le hk (hX k hx)))⟩
theorem But.of_below {A B : World} (h : Below A.heap.size A B) (X : Nat → Prop) : But X A B := ⟨h.os, h.tape, h.output, h.size, fun k hk _ => h.block k hk⟩
theorem But.of_grownBy {A B : World} {row : Option Nat} (h : A.grownBy B row) {X : Nat → Prop} (hX : ∀ k, row = some k → X k) : But X A B :=
  ⟨h.os, h.tape, h.output, h.size, fun k hk hx => h.block k hk (fun e => hx (hX k e.symm))⟩
theorem But.putObj (W : World) (l : Nat) (o : Obj) {X : Nat → Prop} (hX : X l) : But X W (W.putObj l o) :=
  But.of_grownBy (grownBy_putObj' W l o) (fun k e => by cases e; exact hX)
theorem But.alloc (W : World) (o : Obj) (X : Nat → Prop) : But X W (W.alloc o) := But.of_below ((Below.refl _ W).alloc (Nat.le_refl _) o) X
/-- Behind a step that turns the blocks of X alone, what lay in a block outside lies there still. -/
theorem But.at {X : Nat → Prop} {A B : World} (h : But X A B) {k : Nat} {o : Obj} (hk : A.heap[k]? = some o) (hx : ¬ X k) : B.heap[k]? = some o :=
  (h.block k (Array.getElem?_eq_some_iff.1 hk).1 hx).trans hk

/-- The caller's word abides an iterator's step: it turns blocks from s0 on that are not the caller's. -/
def Stable {α : Type} (s0 : Nat) (J : List α → (Nat → Prop) → World → Prop) : Prop :=
  ∀ pre C W W', J pre C W → But (fun k => s0 ≤ k ∧ ¬ C k) W W' → J pre C W'

/-- The contract of an iterator that goes over xs: it reads the blocks of Rd; C are the blocks that the caller's rounds may turn; Rep: how what is handed over lies in memory, D: the blocks that are handed over with it. -/
def Seq {α : Type} (P : Program) (g : Nat) (lb : Array Value) (xs : List α) (Rep : α → Array Value → World → (Nat → Prop) → Prop) (Rd : Nat → Prop) (w : World) : Prop :=
  ∀ (l : Nat) (J Jx : List α → (Nat → Prop) → World → Prop) (C : Nat → Prop) (W : World),
    w.heap.size ≤ W.heap.size → (∀ k, Rd k → W.heap[k]? = w.heap[k]?) → (∀ k, C k → ¬ Rd k ∧ k < W.heap.size) →
    Stable W.heap.size J → Stable W.heap.size Jx →
    (∀ pre x rest C1 D args W1, xs = pre ++ x :: rest → J pre C1 W1 → Rep x args W1 D → W.heap.size ≤ W1.heap.size → (∀ k, D k → ¬ C1 k ∧ W.heap.size ≤ k ∧ k < W1.heap.size) →
      YieldAt Fence.wide 0 P l args W1 fun e W' =>
        (e = .returned (.bool true) ∧ ∃ C2, J (pre ++ [x]) C2 W' ∧ But C1 W1 W' ∧ (∀ k, C2 k → (C1 k ∨ D k ∨ W1.heap.size ≤ k) ∧ k < W'.heap.size)) ∨
        (e = .returned (.bool false) ∧ ∃ C2, Jx (pre ++ [x]) C2 W' ∧ But C1 W1 W' ∧ (∀ k, C2 k → (C1 k ∨ D k ∨ W1.heap.size ≤ k) ∧ k < W'.heap.size))) →
    J [] C W →
    CallsIn Fence.wide 0 P g (#[.func (.yield l) #[] #[]] ++ lb) W fun e W' => (∃ v, e = .returned v) ∧ ((∃ C2, J xs C2 W') ∨ (∃ pre C2, pre <+: xs ∧ Jx pre C2 W'))

/-- How the body of a round may be left. -/
def itPost {α : Type} (I : List α → (Nat → Prop) → World → Prop) (Ix : Code → List α → (Nat → Prop) → World → Prop) (xs : List α) (C1 D : Nat → Prop) (sz : Nat) (Wb : World) : Exit → Act → World → Prop
  | .normal, _, W' => ∃ C2, I xs C2 W' ∧ But C1 Wb W' ∧ (∀ k, C2 k → (C1 k ∨ D k ∨ sz ≤ k) ∧ k < W'.heap.size)
  | .ret, _, W' => ∃ C2, Ix .ret xs C2 W' ∧ But C1 Wb W' ∧ (∀ k, C2 k → (C1 k ∨ D k ∨ sz ≤ k) ∧ k < W'.heap.size)
  | .exit id, _, W' => ∃ C2, Ix (.exit id) xs C2 W' ∧ But C1 Wb W' ∧ (∀ k, C2 k → (C1 k ∨ D k ∨ sz ≤ k) ∧ k < W'.heap.size)
  | .goto t, _, W' => ∃ C2, Ix (.goto t) xs C2 W' ∧ But C1 Wb W' ∧ (∀ k, C2 k → (C1 k ∨ D k ∨ sz ≤ k) ∧ k < W'.heap.size)
  | .panic _, _, _ => False
  | .outgrown, _, _ => False

theorem wp_range {α : Type} {P : Program} {g : Operand} {ps : Array Tmp} {assign body : Code} {Q : Exit → Act → World → Prop} {a : Act} {w : World}
    {gf : Nat} {lb : Array Value} (hg : a.eval g = .func (.func gf) #[] lb) (eg : ∀ args w, (callFunc gf args).run P w = .ok (.enter gf args) w)
    {xs : List α} {Rep : α → Array Value → World → (Nat → Prop) → Prop} {Rd : Nat → Prop} {w0 : World} (hseq : Seq P gf lb xs Rep Rd w0)
    (hsz : w0.heap.size ≤ w.heap.size) (hRd : ∀ k, Rd k → w.heap[k]? = w0.heap[k]? ∧ k < w.heap.size)
    (hps : ∀ x args W D, Rep x args W D → args.size = ps.size)
    (I : List α → (Nat → Prop) → World → Prop) (Ix : Code → List α → (Nat → Prop) → World → Prop)
    (hI : Stable w.heap.size I) (hIx : ∀ c, Stable w.heap.size (Ix c)) (C0 : Nat → Prop) (hC0 : ∀ k, C0 k → ¬ Rd k ∧ k < w.heap.size) (h0 : I [] C0 w)
    (hround : ∀ (l : Nat) (pre : List α) (x : α) (rest : List α) (C1 D : Nat → Prop) (args : Array Value) (W1 : World), xs = pre ++ x :: rest → I pre C1 W1 → Rep x args W1 D → w.heap.size < W1.heap.size →
      (∀ k, D k → ¬ C1 k ∧ w.heap.size ≤ k ∧ k < W1.heap.size) → l = w.heap.size + 1 → l < W1.heap.size → ¬ C1 l → ¬ D l →
      assign.wpIn (Fence.wide.inRound l) 0 P (Exit.then (fun a1 Wa => But (fun _ => False) W1 Wa ∧ ∀ Wb, But (fun k => k = l) Wa Wb → Wb.heap.size = Wa.heap.size → body.wpIn (Fence.wide.inRound l) 0 P (itPost I Ix (pre ++ [x]) C1 D W1.heap.size Wb) a1 Wb) (fun _ _ _ => False))
        { tmps := (ps.zip args).foldl (fun t (p, v) => t.setIfInBounds p v) a.tmps, defers := [] } W1)
    (hdone : ∀ (C2 : Nat → Prop) (W : World), I xs C2 W → W.heap[w.heap.size]? = some (.deferred (some [])) → ¬ C2 w.heap.size → Q .normal { a with defers := { target := .collected w.heap.size, args := #[] } :: a.defers } W)
    (hstop : ∀ (c : Code) (pre : List α) (C2 : Nat → Prop) (W : World), pre <+: xs → Ix c pre C2 W → W.heap[w.heap.size]? = some (.deferred (some [])) → ¬ C2 w.heap.size → c.wp P Q { a with defers := { target := .collected w.heap.size, args := #[] } :: a.defers } W) :
    (Code.rangeFunc g ps assign body).wp P Q a w := by
  refine (wpIn_wide (n := 0)).1 (wpIn_rangeFunc ?_)
  intro fn hfn
  show ∃ l mark w₁ d w₁' f args w₂, (Instr.enterLoop fn a.tmps ps assign body none).run P w = _ ∧ _
  obtain ⟨rec, hrec⟩ : ∃ rec : LoopState → Option Code → Loop, rec = fun st pe => { state := st, pending := pe, fn, tmps := a.tmps, params := ps, assign, body, defers := w.heap.size } := ⟨_, rfl⟩
  obtain ⟨W1, hW1⟩ : ∃ W1, (w.alloc (.deferred (some []))).alloc (.loop (rec .ready none)) = W1 := ⟨_, rfl⟩
  have hs1 : W1.heap.size = w.heap.size + 2 := by rw [← hW1]; simp
  have hL1 : W1.heap[w.heap.size + 1]? = some (.loop (rec .ready none)) := by
    rw [← hW1]; have := World.alloc_heap_new (w.alloc (.deferred (some []))) (.loop (rec .ready none)); rwa [World.size_alloc] at this
  have hK1 : W1.heap[w.heap.size]? = some (.deferred (some [])) := by
    rw [← hW1]; exact (Below.heap_alloc _ _ _ (by simp)).trans (World.alloc_heap_new w _)
  have hB1 : Below w.heap.size w W1 := by
    rw [← hW1]; exact ((Below.refl _ w).alloc (Nat.le_refl _) _).alloc (by simp) _
  have hI1 : I [] C0 W1 := hI _ _ _ _ h0 (But.of_below hB1 _)
  have nl : ¬ C0 (w.heap.size + 1) := fun h => by have := (hC0 _ h).2; omega
  have nd : ¬ C0 w.heap.size := fun h => by have := (hC0 _ h).2; omega
  refine ⟨w.heap.size + 1, [{ target := .collected w.heap.size, args := #[] }], W1, { target := .fn (.func gf) lb, args := #[.func (.yield (w.heap.size + 1)) #[] #[]] }, W1, gf,
    #[.func (.yield (w.heap.size + 1)) #[] #[]] ++ lb, W1, ?_, ?_, ?_, ?_, fun h => (by cases h), ?_⟩
  · rw [← hW1, hrec]; exact run_enterLoop_outer _ _ _ _ _
  · simp only [resolve, hg]
    simp [go_sem]
  · intro f' _; exact trivial
  · simp [invoke, go_sem, eg]
  · refine (hseq (w.heap.size + 1)
      (fun pre C W => ∃ C1, I pre C1 W ∧ (∀ k, C k ↔ C1 k ∨ k = w.heap.size ∨ k = w.heap.size + 1) ∧ ¬ C1 w.heap.size ∧ ¬ C1 (w.heap.size + 1) ∧ W.heap[w.heap.size + 1]? = some (.loop (rec .ready none)) ∧ W.heap[w.heap.size]? = some (.deferred (some [])))
      (fun pre C W => ∃ c C1, Ix c pre C1 W ∧ (∀ k, C k ↔ C1 k ∨ k = w.heap.size ∨ k = w.heap.size + 1) ∧ ¬ C1 w.heap.size ∧ ¬ C1 (w.heap.size + 1) ∧ W.heap[w.heap.size + 1]? = some (.loop (rec .done (some c))) ∧ W.heap[w.heap.size]? = some (.deferred (some [])))
      (fun k => C0 k ∨ k = w.heap.size ∨ k = w.heap.size + 1) W1 (by omega)
      (fun k hk => (hB1.block k (hRd k hk).2).trans (hRd k hk).1)
      (fun k hk => by
        rcases hk with hk | hk | hk
        · exact ⟨(hC0 k hk).1, by have := (hC0 k hk).2; omega⟩
        · exact ⟨fun h => by have := (hRd k h).2; omega, by omega⟩
        · exact ⟨fun h => by have := (hRd k h).2; omega, by omega⟩)
      ?_ ?_ ?_ ⟨C0, hI1, fun k => Iff.rfl, nd, nl, hL1, hK1⟩).mono ?_
    · rintro pre C A B ⟨C1, hi, hC, n1, n2, hl, hk⟩ hb
      refine ⟨C1, hI _ _ _ _ hi (hb.mono fun k _ hx => ⟨by omega, fun h => hx.2 ((hC k).2 (.inl h))⟩), hC, n1, n2, hb.at hl (by omega), hb.at hk (by omega)⟩
    · rintro pre C A B ⟨c, C1, hi, hC, n1, n2, hl, hk⟩ hb
      refine ⟨c, C1, hIx c _ _ _ _ hi (hb.mono fun k _ hx => ⟨by omega, fun h => hx.2 ((hC k).2 (.inl h))⟩), hC, n1, n2, hb.at hl (by omega), hb.at hk (by omega)⟩
    · rintro pre x rest C D args W hx ⟨C1, hi, hC, n1, n2, hl, hk⟩ hrep hsW hD
      have hlt : w.heap.size + 1 < W.heap.size := (Array.getElem?_eq_some_iff.1 hl).1
      have hy := run_yield (P := P) (args := args) hl (by rw [hrec]; exact hps x args W D hrep)
      rw [hrec] at hy
      refine ⟨fn, _, assign, body, hy, roundIn_of_wpIn hfn (wpIn_mono (hround (w.heap.size + 1) pre x rest C1 D args W hx hi hrep (by omega) (fun k h => ⟨fun h' => (hD k h).1 ((hC k).2 (.inl h')), by have := (hD k h).2.1; omega, (hD k h).2.2⟩) rfl hlt n2 (fun h => (hD _ h).1 ((hC _).2 (.inr (.inr rfl))))) ?_)⟩
      rintro e a1 Wa he
      cases e with
      | normal =>
        obtain ⟨hWa, hbody⟩ := he
        have hla := hWa.at hl (fun h => h)
        have hka := hWa.at hk (fun h => h)
        have hlta : w.heap.size + 1 < Wa.heap.size := Nat.lt_of_lt_of_le hlt hWa.size
        refine ⟨_, run_beginRound hla (by rw [hrec]), ?_⟩
        have hl2 : (Wa.putObj (w.heap.size + 1) (.loop { rec .ready none with state := .busy })).heap[w.heap.size + 1]? = some (.loop { rec .ready none with state := .busy }) := World.putObj_heap_same hlta
        have hk2 : (Wa.putObj (w.heap.size + 1) (.loop { rec .ready none with state := .busy })).heap[w.heap.size]? = some (.deferred (some [])) := (World.putObj_heap_other (by omega)).trans hka
        refine wpIn_mono (hbody _ (But.putObj Wa _ _ rfl) (by simp)) ?_
        have fin : ∀ (jump : Option Code) (W3 : World) (C2 : Nat → Prop), But C1 (Wa.putObj (w.heap.size + 1) (.loop { rec .ready none with state := .busy })) W3 → (∀ k, C2 k → (C1 k ∨ D k ∨ W.heap.size ≤ k) ∧ k < W3.heap.size) →
            (Instr.endRound (w.heap.size + 1) jump).run P W3 = .ok (.bool jump.isNone) (W3.putObj (w.heap.size + 1) (.loop (rec (if jump.isNone then .ready else .done) jump))) ∧
            But (fun k => w.heap.size ≤ k ∧ ¬ C2 k) W3 (W3.putObj (w.heap.size + 1) (.loop (rec (if jump.isNone then .ready else .done) jump))) ∧
            (W3.putObj (w.heap.size + 1) (.loop (rec (if jump.isNone then .ready else .done) jump))).heap[w.heap.size + 1]? = some (.loop (rec (if jump.isNone then .ready else .done) jump)) ∧
            (W3.putObj (w.heap.size + 1) (.loop (rec (if jump.isNone then .ready else .done) jump))).heap[w.heap.size]? = some (.deferred (some [])) ∧
            But C W (W3.putObj (w.heap.size + 1) (.loop (rec (if jump.isNone then .ready else .done) jump))) ∧ ¬ C2 w.heap.size ∧ ¬ C2 (w.heap.size + 1) := fun jump W3 C2 hb3 hC2 => by
          have hl3 := hb3.at hl2 n2
          have hk3 := hb3.at hk2 n1
          have hrun := run_endRound (P := P) jump hl3
          have m1 : ¬ C2 w.heap.size := fun h => by
            rcases (hC2 _ h).1 with h | h | h
            · exact n1 h
            · exact (hD _ h).1 ((hC _).2 (.inr (.inl rfl)))
            · omega
          have m2 : ¬ C2 (w.heap.size + 1) := fun h => by
            rcases (hC2 _ h).1 with h | h | h
            · exact n2 h
            · exact (hD _ h).1 ((hC _).2 (.inr (.inr rfl)))
            · omega
          rw [hrec] at hrun ⊢
          refine ⟨hrun, But.putObj _ _ _ ⟨by omega, m2⟩, World.putObj_heap_same (Array.getElem?_eq_some_iff.1 hl3).1, (World.putObj_heap_other (by omega)).trans hk3, ?_, m1, m2⟩
          have e1 : But C W Wa := hWa.mono fun k _ h => h.elim
          have e2 : But C Wa (Wa.putObj (w.heap.size + 1) (.loop { rec .ready none with state := .busy })) := But.putObj _ _ _ ((hC _).2 (.inr (.inr rfl)))
          have e3 : But C (Wa.putObj (w.heap.size + 1) (.loop { rec .ready none with state := .busy })) W3 := hb3.mono fun k _ h => (hC k).2 (.inl h)
          exact ((e1.trans e2).trans e3).trans (But.putObj _ _ _ ((hC _).2 (.inr (.inr rfl))))
        have bnd : ∀ (o : Obj) (W3 : World) (C2 : Nat → Prop), But C1 (Wa.putObj (w.heap.size + 1) (.loop { rec .ready none with state := .busy })) W3 → (∀ k, C2 k → (C1 k ∨ D k ∨ W.heap.size ≤ k) ∧ k < W3.heap.size) →
            ∀ k, (C2 k ∨ k = w.heap.size ∨ k = w.heap.size + 1) → (C k ∨ D k ∨ W.heap.size ≤ k) ∧ k < (W3.putObj (w.heap.size + 1) o).heap.size := fun o W3 C2 hb3 hC2 => by
          have hs3 : w.heap.size + 1 < W3.heap.size := by have := hb3.size; simp at this; omega
          rintro k (h | h | h)
          · obtain ⟨h1, h2⟩ := hC2 k h
            refine ⟨?_, by simpa using h2⟩
            rcases h1 with h1 | h1
            · exact .inl ((hC k).2 (.inl h1))
            · exact .inr h1
          · exact ⟨.inl ((hC k).2 (.inr (.inl h))), by simp; omega⟩
          · exact ⟨.inl ((hC k).2 (.inr (.inr h))), by simp; omega⟩
        rintro e a3 W3 hp
        cases e with
        | normal =>
          obtain ⟨C2, hi3, hb3, hC2⟩ := hp
          obtain ⟨hr, hst, hl4, hk4, hb4, m1, m2⟩ := fin none W3 C2 hb3 hC2
          exact ⟨_, _, hr, .inl ⟨rfl, fun k => C2 k ∨ k = w.heap.size ∨ k = w.heap.size + 1, ⟨C2, hI _ _ _ _ hi3 hst, fun k => Iff.rfl, m1, m2, hl4, hk4⟩, hb4, bnd _ W3 C2 hb3 hC2⟩⟩
        | ret =>
          obtain ⟨C2, hi3, hb3, hC2⟩ := hp
          obtain ⟨hr, hst, hl4, hk4, hb4, m1, m2⟩ := fin (some .ret) W3 C2 hb3 hC2
          exact ⟨_, _, hr, .inr ⟨rfl, fun k => C2 k ∨ k = w.heap.size ∨ k = w.heap.size + 1, ⟨.ret, C2, hIx _ _ _ _ _ hi3 hst, fun k => Iff.rfl, m1, m2, hl4, hk4⟩, hb4, bnd _ W3 C2 hb3 hC2⟩⟩
        | exit id =>
          obtain ⟨C2, hi3, hb3, hC2⟩ := hp
          obtain ⟨hr, hst, hl4, hk4, hb4, m1, m2⟩ := fin (some (.exit id)) W3 C2 hb3 hC2
          exact ⟨_, _, hr, .inr ⟨rfl, fun k => C2 k ∨ k = w.heap.size ∨ k = w.heap.size + 1, ⟨.exit id, C2, hIx _ _ _ _ _ hi3 hst, fun k => Iff.rfl, m1, m2, hl4, hk4⟩, hb4, bnd _ W3 C2 hb3 hC2⟩⟩
        | goto t =>
          obtain ⟨C2, hi3, hb3, hC2⟩ := hp
          obtain ⟨hr, hst, hl4, hk4, hb4, m1, m2⟩ := fin (some (.goto t)) W3 C2 hb3 hC2
          exact ⟨_, _, hr, .inr ⟨rfl, fun k => C2 k ∨ k = w.heap.size ∨ k = w.heap.size + 1, ⟨.goto t, C2, hIx _ _ _ _ _ hi3 hst, fun k => Iff.rfl, m1, m2, hl4, hk4⟩, hb4, bnd _ W3 C2 hb3 hC2⟩⟩
        | panic ch => exact hp.elim
        | outgrown => exact hp.elim
      | exit id => exact he.elim
      | goto t => exact he.elim
      | ret => exact he.elim
      | panic ch => exact he.elim
      | outgrown => exact he.elim
    · rintro e W2 ⟨⟨v, rfl⟩, (⟨C, C1, hi, hC, n1, n2, hl, hk⟩ | ⟨pre, C, hpre, c, C1, hi, hC, n1, n2, hl, hk⟩)⟩
      · have hend := run_endLoop (P := P) hl (by rw [hrec]; simp)
        rw [hrec] at hend
        exact ⟨none, _, hend, hdone C1 _ (hI _ _ _ _ hi (But.putObj _ _ _ ⟨by omega, n2⟩)) ((World.putObj_heap_other (by omega)).trans hk) n1⟩
      · have hend := run_endLoop (P := P) hl (by rw [hrec]; simp)
        rw [hrec] at hend
        exact ⟨some c, _, hend, (wpIn_wide (n := 0)).2 (hstop c pre C1 _ hpre (hIx c _ _ _ _ hi (But.putObj _ _ _ ⟨by omega, n2⟩)) ((World.putObj_heap_other (by omega)).trans hk) n1)⟩

#print axioms wp_range
end Go.Proofs.Ytdelknejmapeaaa
