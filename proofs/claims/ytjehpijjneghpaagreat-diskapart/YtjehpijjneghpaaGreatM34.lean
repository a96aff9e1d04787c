/-
  A pair: a disk of the program beside one of the document.
-/
import Derived.Test.YtjehpijjneghpaaGreatM33
import Derived.Test.YtjehpijjneghpaaGreatM14
import Derived.Test.YtjehpijjneghpaaGreatM13
namespace Go.Proofs.YtjehpijjneghpaaGreat.Re
open Go.RowKit Go.Maps Go.Sort Go.Shelf Go.Proofs.YtjehpijjneghpaaGreat.Nm Go.Proofs.YtjehpijjneghpaaGreat.Dk
set_option linter.unusedVariables false
def own (pb : Nat) (O : Nat → Prop) (rb : Nat) (V : RV) : Nat → Prop := fun k => k = pb ∨ O k ∨ ∃ x, blk rb V x = some k
structure PX (w : World) (pb b rb : Nat) (S : DS) (R : RB) (O : Nat → Prop) (V : RV) : Prop where
  box : w.heap[pb]? = some (.cells #[.pointer (some ⟨b, 0, none⟩), .pointer (some ⟨rb, 0, none⟩)] 29 (0, 0))
  d : DskE w b S O
  r : RM w rb R V
  dj : ∀ k, O k → ∀ x, blk rb V x ≠ some k
  np : ¬ O pb
  nr : ∀ x, blk rb V x ≠ some pb
def PW (w : World) (pb b : Nat) (S : DS) (R : RB) (Q : Nat → Prop) : Prop := ∃ rb O V, PX w pb b rb S R O V ∧ Q = own pb O rb V
variable {w q w' : World} {pb b rb : Nat} {S : DS} {R : RB} {O : Nat → Prop} {V : RV} {Q : Nat → Prop}
theorem PX.but {X : Nat → Prop} (h : PX w pb b rb S R O V) (hb : But X w w') (hx : ∀ k, own pb O rb V k → ¬ X k) : PX w' pb b rb S R O V :=
  ⟨hb.at h.box (hx pb (.inl rfl)), h.d.but hb (fun k hk => hx k (.inr (.inl hk))), h.r.but hb (fun x k hk => hx k (.inr (.inr ⟨x, hk⟩))), h.dj, h.np, h.nr⟩
theorem PX.below (h : PX w pb b rb S R O V) (hb : Below w.heap.size w w') : PX w' pb b rb S R O V := h.but (But.of_below hb fun _ => False) fun _ _ c => c
theorem PX.lt (h : PX w pb b rb S R O V) : ∀ k, own pb O rb V k → k < w.heap.size := by
  rintro k (rfl | c | ⟨x, c⟩)
  · exact heap_lt h.box
  · exact h.d.lt k c
  · exact h.r.lt x k c
theorem PX.toPW (h : PX w pb b rb S R O V) : PW w pb b S R (own pb O rb V) := ⟨rb, O, V, h, rfl⟩
theorem PW.below (h : PW w pb b S R Q) (hb : Below w.heap.size w w') : PW w' pb b S R Q := by obtain ⟨rb, O, V, hx, e⟩ := h; exact ⟨rb, O, V, hx.below hb, e⟩
theorem PW.but {X : Nat → Prop} (h : PW w pb b S R Q) (hb : But X w w') (hx : ∀ k, Q k → ¬ X k) : PW w' pb b S R Q := by obtain ⟨rb, O, V, h, rfl⟩ := h; exact ⟨rb, O, V, h.but hb hx, rfl⟩
theorem PW.lt (h : PW w pb b S R Q) : ∀ k, Q k → k < w.heap.size := by obtain ⟨rb, O, V, h, rfl⟩ := h; exact h.lt
theorem PX.stepA {S' : DS} {O' : Nat → Prop} (h : PX q pb b rb S R O V) (hd : DskE w' b S' O') (g : Sgo q w' O O') : PX w' pb b rb S' R O' V ∧ Sgo q w' (own pb O rb V) (own pb O' rb V) := by
  have nb : ∀ x k, blk rb V x = some k → ¬ O k := fun x k hk c => h.dj k c x hk
  refine ⟨⟨g.but.at h.box h.np, hd, h.r.but g.but nb, fun k hk x c => ?_, fun c => ?_, h.nr⟩, ⟨g.but.mono fun k _ c => .inr (.inl c), fun k hk => ?_⟩⟩
  · rcases g.own k hk with o | o
    · exact h.dj k o x c
    · have := h.r.lt x k c; omega
  · rcases g.own pb c with o | o
    · exact h.np o
    · have := heap_lt h.box; omega
  · rcases hk with e | c | c
    · exact .inl (.inl e)
    · exact (g.own k c).imp (fun o => .inr (.inl o)) id
    · exact .inl (.inr (.inr c))
theorem PX.stepB {R' : RB} (h : PX q pb b rb S R O V) (g : Rgo q w' rb V R') : ∃ V', PX w' pb b rb S R' O V' ∧ Sgo q w' (own pb O rb V) (own pb O rb V') := by
  obtain ⟨⟨V', hm, hv⟩, hb⟩ := g
  have nb : ∀ k, O k → ¬ ∃ x, blk rb V x = some k := fun k hk ⟨x, c⟩ => h.dj k hk x c
  refine ⟨V', ⟨hb.at h.box (fun ⟨x, c⟩ => h.nr x c), h.d.but hb nb, hm, fun k hk x c => ?_, h.np, fun x c => ?_⟩, ⟨hb.mono fun k _ c => .inr (.inr c), fun k hk => ?_⟩⟩
  · rcases hv x k c with o | o
    · exact h.dj k hk x o
    · have := h.d.lt k hk; omega
  · rcases hv x pb c with o | o
    · exact h.nr x o
    · have := heap_lt h.box; omega
  · rcases hk with e | c | ⟨x, c⟩
    · exact .inl (.inl e)
    · exact .inl (.inr (.inl c))
    · exact (hv x k c).imp (fun o => .inr (.inr ⟨x, o⟩)) id
def calm (fs : List Ft) : List Ft := fs.filter fun t => t.2.1 != 4
def DS.play (S : DS) (o : Dop) (S' : DS) : Prop :=
  if o.kind = 1 then ∃ p, p ∉ S.ps ∧ S' = (S.create o.nm p).1
  else if o.kind = 2 then S' = if 32768 < o.dat.length then S else (S.append o.nm o.dat).1
  else if o.kind = 3 then S' = (S.sync o.nm).1
  else if o.kind = 4 then S' = (S.cut o.nm o.n).1
  else if o.kind = 5 then S' = (S.rename o.nm o.tn).1
  else if o.kind = 6 then S' = (S.remove o.nm).1
  else if o.kind = 7 then S' = S.syncDir.1
  else if o.kind = 9 then S' = (S.arm (calm o.fs)).1
  else if o.kind = 10 then S' = S.crash o.dir o.ks
  else if o.kind = 11 then ∃ σ, Dk.Alike σ S S'
  else S' = S
open Classical in
noncomputable def RB.play (R : RB) (o : Dop) : RB :=
  if o.kind = 1 then (R.create o.nm).1
  else if o.kind = 2 then (if 32768 < o.dat.length then R else (R.append o.nm o.dat).1)
  else if o.kind = 3 then (R.sync o.nm).1
  else if o.kind = 4 then (R.cut o.nm o.n).1
  else if o.kind = 5 then (R.rename o.nm o.tn).1
  else if o.kind = 6 then (R.remove o.nm).1
  else if o.kind = 7 then R.syncDir.1
  else if o.kind = 9 then (R.arm (calm o.fs)).1
  else if o.kind = 10 then R.crash o.dir o.ks
  else R
structure PlP (w : World) (pb b : Nat) (S : DS) (R : RB) (o : Dop) (Q : Nat → Prop) (e : Ending) (w' : World) : Prop where
  out : ∃ r S' Q' b', e = .returned (.bool r) ∧ PW w' pb b' S' (R.play o) Q' ∧ Sgo w w' Q Q' ∧ DS.play S o S' ∧ (Rel S R → r = true) ∧ (o.kind ≠ 11 → b' = b)
structure PlI (W0 w : World) (pb b : Nat) (S : DS) (R : RB) (o : Dop) (Q : Nat → Prop) : Prop where
  pw : PW w pb b S R Q
  ok : DopOk W0 o
  bel : Below W0.heap.size W0 w
  lo : ∀ k, Q k → W0.heap.size ≤ k
  ri : RI R
  uq : S.uq
  cs : S.c7 ≤ 100000
  cr : R.c7 ≤ 100000
theorem calm_no4 (fs : List Ft) : ∀ t ∈ calm fs, t.2.1 ≠ 4 := fun t ht => by have := (List.mem_filter.1 ht).2; simpa using this
theorem rel_play {S' : DS} {o : Dop} (h : Rel S R) (hp : DS.play S o S') : Rel S' (R.play o) := by
  unfold DS.play at hp
  unfold RB.play
  by_cases k1 : o.kind = 1
  · rw [if_pos k1] at hp ⊢
    obtain ⟨p, hn, rfl⟩ := hp
    exact (h.create _ hn).1
  rw [if_neg k1] at hp ⊢
  by_cases k2 : o.kind = 2
  · rw [if_pos k2] at hp ⊢
    subst hp
    split
    · exact h
    · exact (h.append _ _).1
  rw [if_neg k2] at hp ⊢
  by_cases k3 : o.kind = 3
  · rw [if_pos k3] at hp ⊢; subst hp; exact (h.sync _).1
  rw [if_neg k3] at hp ⊢
  by_cases k4 : o.kind = 4
  · rw [if_pos k4] at hp ⊢; subst hp; exact (h.cut _ _).1
  rw [if_neg k4] at hp ⊢
  by_cases k5 : o.kind = 5
  · rw [if_pos k5] at hp ⊢; subst hp; exact (h.rename _ _).1
  rw [if_neg k5] at hp ⊢
  by_cases k6 : o.kind = 6
  · rw [if_pos k6] at hp ⊢; subst hp; exact (h.remove _).1
  rw [if_neg k6] at hp ⊢
  by_cases k7 : o.kind = 7
  · rw [if_pos k7] at hp ⊢; subst hp; exact h.syncDir.1
  rw [if_neg k7] at hp ⊢
  by_cases k9 : o.kind = 9
  · rw [if_pos k9] at hp ⊢; subst hp; exact (h.armed _ (calm_no4 _)).1
  rw [if_neg k9] at hp ⊢
  by_cases k10 : o.kind = 10
  · rw [if_pos k10] at hp ⊢; subst hp; exact h.crash _ _
  rw [if_neg k10] at hp ⊢
  by_cases k11 : o.kind = 11
  · rw [if_pos k11] at hp; obtain ⟨σ, L⟩ := hp; exact h.alike L
  rw [if_neg k11] at hp
  subst hp
  exact h
end Go.Proofs.YtjehpijjneghpaaGreat.Re
namespace Go.Proofs.YtjehpijjneghpaaGreat.Re
open Go.RowKit Go.Maps Go.Sort Go.Shelf Go.Proofs.YtjehpijjneghpaaGreat.Nm Go.Proofs.YtjehpijjneghpaaGreat.Dk
set_option linter.unusedVariables false
def ck (k : List UInt8) : Ch → Prop
  | .cr n _ => n.data.toList ≠ k
  | .rn f t => f.data.toList ≠ k ∧ t.data.toList ≠ k
  | .rm n => n.data.toList ≠ k
theorem run_ck {k : List UInt8} {c : Ch} (h : ck k c) (l : Dr) : Dk.get (c.run l) k = Dk.get l k := by
  cases c with
  | cr n p => show Dk.get (dput l n.data.toList p) k = _; rw [get_dput, if_neg h]
  | rn f t =>
    show Dk.get (match Dk.get l f.data.toList with | some p => ddel (dput l t.data.toList p) f.data.toList | none => l) k = _
    cases Dk.get l f.data.toList with
    | none => rfl
    | some p => simp only; rw [get_ddel, if_neg h.1, get_dput, if_neg h.2]
  | rm n => show Dk.get (ddel l n.data.toList) k = _; rw [get_ddel, if_neg h]
theorem runs_ck {k : List UInt8} : ∀ {P : List Ch} {l : Dr}, (∀ c ∈ P, ck k c) → Dk.get (runs l P) k = Dk.get l k := by
  intro P
  induction P with
  | nil => intro l _; rfl
  | cons c r ih =>
    intro l h
    show Dk.get (runs (c.run l) r) k = _
    rw [ih (fun c' hc => h c' (by simp [hc])), run_ck (h c (by simp))]
structure Kpt (S : DS) (k : List UInt8) (p : Nat) (f : Fl) : Prop where
  l2 : Dk.get S.l2 k = some p
  P : ∀ c ∈ S.P, ck k c
  F : S.F p = f
  uq : S.uq
variable {S : DS} {k : List UInt8} {p : Nat} {f : Fl}
theorem Kpt.dir (h : Kpt S k p f) : Dk.get S.dir k = some p := (runs_ck h.P).trans h.l2
theorem Kpt.front (h : Kpt S k p f) (n : Int) : Dk.get (S.front n) k = some p := (runs_ck (fun c hc => h.P c (List.mem_of_mem_take hc))).trans h.l2
theorem Kpt.of {S' : DS} (h : Kpt S k p f) (e1 : S'.l2 = S.l2) (e2 : S'.P = S.P) (e3 : S'.F p = S.F p) : Kpt S' k p f := ⟨by rw [e1]; exact h.l2, by rw [e2]; exact h.P, by rw [e3]; exact h.F, Uqs.of h.uq e1 e2⟩
theorem beg_c7 (S : DS) (j : Nat) : (S.beg j).c7 = S.c7 + 1 := (beg_rest S j).2.2.2.2.2.1
theorem str_c7 (S : DS) (j : Int) : (S.str j).c7 = S.c7 := (str_rest S j).2.2.2.2.1
theorem hit_c7 (S : DS) (j : Nat) : (S.hit j).c7 = S.c7 + 1 := (hit_rest S j).2.2.2.2.1
theorem play_c7 {S' : DS} {o : Dop} (hp : DS.play S o S') : S'.c7 ≤ S.c7 + 1 := by
  unfold DS.play at hp
  by_cases k1 : o.kind = 1
  · rw [if_pos k1] at hp
    obtain ⟨q, hq, rfl⟩ := hp
    unfold DS.create
    split
    · simp only; omega
    · split
      · simp only; omega
      · split
        · simp only; omega
        · split
          · simp only [str_c7, beg_c7]; omega
          · simp only [str_c7, beg_c7]; omega
  rw [if_neg k1] at hp
  by_cases k2 : o.kind = 2
  · rw [if_pos k2] at hp
    subst hp
    split
    · omega
    · unfold DS.append
      split
      · simp only; omega
      · simp only [str_c7, beg_c7]; omega
  rw [if_neg k2] at hp
  by_cases k3 : o.kind = 3
  · rw [if_pos k3] at hp
    subst hp
    unfold DS.sync
    split
    · simp only; omega
    · split
      · simp only [beg_c7]; omega
      · split
        · simp only [str_c7, beg_c7]; omega
        · simp only [beg_c7]; omega
  rw [if_neg k3] at hp
  by_cases k4 : o.kind = 4
  · rw [if_pos k4] at hp
    subst hp
    unfold DS.cut
    split
    · simp only; omega
    · split
      · simp only; omega
      · split
        · simp only [str_c7, beg_c7]; omega
        · simp only [beg_c7]; omega
  rw [if_neg k4] at hp
  by_cases k5 : o.kind = 5
  · rw [if_pos k5] at hp
    subst hp
    unfold DS.rename
    split
    · simp only; omega
    · split
      · simp only; omega
      · split
        · simp only [hit_c7]; omega
        · split
          · simp only [hit_c7]; omega
          · simp only [hit_c7]; omega
  rw [if_neg k5] at hp
  by_cases k6 : o.kind = 6
  · rw [if_pos k6] at hp
    subst hp
    unfold DS.remove
    split
    · simp only; omega
    · split
      · simp only [hit_c7]; omega
      · simp only [hit_c7]; omega
  rw [if_neg k6] at hp
  by_cases k7 : o.kind = 7
  · rw [if_pos k7] at hp
    subst hp
    unfold DS.syncDir
    split
    · simp only; omega
    · split
      · simp only [hit_c7]; omega
      · simp only [hit_c7]; omega
  rw [if_neg k7] at hp
  by_cases k9 : o.kind = 9
  · rw [if_pos k9] at hp
    subst hp
    unfold DS.arm
    split
    · simp only; omega
    · split
      · simp only; omega
      · simp only; omega
  rw [if_neg k9] at hp
  by_cases k10 : o.kind = 10
  · rw [if_pos k10] at hp
    subst hp
    show S.c7 ≤ _
    omega
  rw [if_neg k10] at hp
  by_cases k11 : o.kind = 11
  · rw [if_pos k11] at hp
    obtain ⟨σ, L⟩ := hp
    rw [L.c7]
    omega
  rw [if_neg k11] at hp
  subst hp
  omega
end Go.Proofs.YtjehpijjneghpaaGreat.Re
namespace Go.Proofs.YtjehpijjneghpaaGreat.Re
open Go.RowKit Go.Maps Go.Sort Go.Shelf Go.Proofs.YtjehpijjneghpaaGreat.Nm Go.Proofs.YtjehpijjneghpaaGreat.Dk
set_option linter.unusedVariables false
def kl : List UInt8 := [107, 101, 112, 116]
end Go.Proofs.YtjehpijjneghpaaGreat.Re
