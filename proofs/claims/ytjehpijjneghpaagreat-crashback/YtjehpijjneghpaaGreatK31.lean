/-
  What flumelaw1.Lent and flumelaw1.Back do: a copy with a mark behind it; the mark and the bytes looked at, and written over.
-/
import Derived.Test.YtjehpijjneghpaaGreatK01
import Derived.Test.YtjehpijjneghpaaGreatK30
import Derived.Test.YtjehpijjneghpaaGreatK12
import Derived.Test.YtjehpijjneghpaaGreatK11
namespace Go.Proofs.YtjehpijjneghpaaGreat
open Go.RowKit
def LentAt (w : World) (g : Nat) (v : Value) (l : List UInt8) : Prop :=
  ∃ cap, v = .slice (some ⟨g, 0, none⟩) l.length cap ∧ w.ownsRow 0 5 1 (.slice (some ⟨g, 0, none⟩) (l.length + 2) cap) (l.length + 2) (bvals (l ++ [171, 172]))
theorem LentAt.sl {w : World} {g : Nat} {v : Value} {l : List UInt8} (h : LentAt w g v l) : Sl w v l := by
  obtain ⟨cap, rfl, ho⟩ := h
  obtain ⟨ao, ca, hv, g2, g3, g4, g5⟩ := Sl.of_owns2 (l := l ++ [171, 172]) ho (by simp)
  simp only [Value.slice.injEq] at hv
  obtain ⟨rfl, _, rfl⟩ := hv
  simp only [List.length_append, List.length_cons, List.length_nil] at g3
  refine ⟨_, _, rfl, fun e => by simp at e, by omega, g4, fun i hi => ?_⟩
  obtain ⟨b, off, e1, hc⟩ := g5 i (by simp; omega)
  exact ⟨b, off, e1, by rw [hc]; simp [List.getElem_append_left hi]⟩
theorem LentAt.below {w w' : World} {g : Nat} {v : Value} {l : List UInt8} (h : LentAt w g v l) (hb : Below w.heap.size w w') : LentAt w' g v l := by
  obtain ⟨cap, e, ho⟩ := h
  exact ⟨cap, e, ownsRow_below ho hb⟩
theorem LentAt.lt {w : World} {g : Nat} {v : Value} {l : List UInt8} (h : LentAt w g v l) : g < w.heap.size := by
  obtain ⟨cap, e, ho⟩ := h
  exact (ho.lt g rfl).2
set_option maxHeartbeats 400000 in
theorem lent_any (w : World) (x : Value) (l : List UInt8) (hx : Sl w x l) (hlen : l.length + 2 ≤ 140737488355328) :
    Calls Tryz.prog 45 #[x] w fun e w' => ∃ g v', e = .returned v' ∧ LentAt w' g v' l ∧ Below w.heap.size w w' ∧ w.heap.size ≤ g := by
  have hx0 := hx
  obtain ⟨ao, ca, rfl, h2, h3, h4, h5⟩ := hx
  clear h2 h5 h4 h3
  go_enter Tryz.func45, Tryz.ntmps45
  go_wp2_with (at_builtin; refine wpList_append_bytes rfl (.const (.slice none 0 0)) (.tmp 4) 30 rfl w.heap.size 5 Tryz.infoU8 Tryz.underlying30 _ _ [] l rfl (World.ownsRow_nil _ _ _ _) rfl hx0 (by simp; omega) (Nat.le_refl _) ?_)
  intro v1 w1 o1 b1
  have hz1 := b1.size
  clear hx0
  go_wp2_with (at_builtin; refine wpList_append_bytes rfl (.tmp 6) (.tmp 7) 30 rfl w.heap.size 5 Tryz.infoU8 Tryz.underlying30 _ _ l [171, 172] rfl (o1.alloc _) rfl (sl_lit w1 [171, 172] 5 (by decide) _ rfl) (by simpa using hlen) (by simp; omega) ?_)
  intro v2 w2 o2 b2
  have b12 : Below w.heap.size w w2 := (b1.alloc hz1 _).trans b2
  have o3 : w2.ownsRow w.heap.size 5 1 v2 (l.length + 2) (bvals (l ++ [171, 172])) := by simpa using o2
  obtain ⟨p1, p2⟩ := id o3
  rcases p2 with ⟨_, hn⟩ | ⟨g, cap, cur, rfl, hg, hh, hn, hm, hs, ht⟩
  · omega
  · have hm' : cap ≤ 9223372036854775807 := by unfold maxLen at hm; omega
    have HO : Hid (w2.ownsRow 0 5 1 (.slice (some ⟨g, 0, none⟩) (l.length + 2) cap) (l.length + 2) (bvals (l ++ [171, 172]))) := ⟨p1, .inr ⟨g, cap, cur, rfl, Nat.zero_le _, hh, hn, hm, hs, ht⟩⟩
    clear o1 o2 o3 p1 hh hs ht b1 b2
    go_wp2
    go_ret
    exact ⟨g, _, rfl, ⟨cap, rfl, HO.out⟩, b12, hg⟩
theorem xor85 (c : UInt8) : ∃ d : UInt8, bits BinOp.xor IntKind.u8 ((c.toNat : Nat) : Int) 85 = ((d.toNat : Nat) : Int) := by
  have h := u8_xor_nat c.toNat 85 c.toNat_lt (by decide)
  have hl : c.toNat ^^^ 85 < 256 := by
    have := Nat.xor_lt_two_pow (n := 8) c.toNat_lt (show 85 < 2 ^ 8 by decide)
    simpa using this
  exact ⟨UInt8.ofNat (c.toNat ^^^ 85), by rw [UInt8.toNat_ofNat_of_lt' hl]; exact h⟩
set_option maxRecDepth 100000 in
set_option maxHeartbeats 1000000 in
theorem back_any (w0 w : World) (g : Nat) (v y : Value) (l : List UInt8) (hb0 : Below w0.heap.size w0 w) (hy : Sl w0 y l) (hv : LentAt w g v l) (hg : w0.heap.size ≤ g) (hlen : l.length ≤ 140737488355328) :
    Calls Tryz.prog 47 #[v, y] w fun e w' => e = .returned (.bool true) ∧ w.grownBy w' (some g) := by
  obtain ⟨cap, rfl, ho⟩ := hv
  obtain ⟨bo, cb, rfl, k2, k3, k4, k5⟩ := hy
  clear k2 k3 k4
  have hcap : l.length + 2 ≤ cap ∧ cap ≤ 9223372036854775807 := by
    obtain ⟨_, p2⟩ := id ho
    rcases p2 with ⟨h, _⟩ | ⟨_, c, _, h, _, _, hn, hm, _⟩
    · simp at h
    · simp only [Value.slice.injEq] at h
      obtain ⟨_, _, rfl⟩ := h
      unfold maxLen at hm
      omega
  obtain ⟨hc1, hc2⟩ := hcap
  have m1 : w.cell? ⟨g, l.length, none⟩ = some (.int .u8 171) := by rw [ho.cellAt l.length (by omega)]; simp [bvals, bval]
  have m2 : w.cell? ⟨g, l.length + 1, none⟩ = some (.int .u8 172) := by rw [ho.cellAt (l.length + 1) (by omega)]; simp [bvals, bval]
  have hn' : (((l.length : Nat) : Int) != ((l.length : Nat) : Int)) = false := by simp
  go_enter Tryz.func47, Tryz.ntmps47
  go_wp2
  clear hn' m1 m2
  go_loopw [5, 6] (fun o i wr => ∃ (k : Nat) (D : List UInt8), k ≤ l.length ∧ o = .bool true ∧ i = .int .i64 k ∧ Hid (D.length = k) ∧ wr.ownsRow 0 5 1 (.slice (some ⟨g, 0, none⟩) (l.length + 2) cap) (l.length + 2) (bvals (D ++ (l ++ [171, 172]).drop k)) ∧ w.grownBy wr (some g)) (fun _ i _ => l.length - (intOf i).toNat)
  case atStart => exact ⟨0, [], Nat.zero_le _, rfl, rfl, rfl, by simpa using ho, Qt.grown (Qt.refl _) _⟩
  case round =>
    clear ho
    obtain ⟨k, D, hk, rfl, rfl, hD, ho, hgr⟩ := hrel
    by_cases hlt : k < l.length
    · obtain ⟨b1, o1, rfl, hb⟩ := k5.at (by omega)
      have d2 := hb k hlt
      have hlt2 := lt_of_cell d2
      have c2 : wr.cell? ⟨b1, o1 + k, none⟩ = some (.int .u8 (l[k].toNat : Int)) := by
        refine hgr.cell (a := ⟨b1, o1 + k, none⟩) ?_ ?_
        · rw [hb0.cell (p := ⟨b1, o1 + k, none⟩) hlt2]; exact d2
        · simp only [ne_eq, Option.some.injEq]; intro e; have : b1 < w0.heap.size := hlt2; omega
      have hdr : (l ++ [171, 172]).drop k = l[k] :: (l ++ [171, 172]).drop (k + 1) := by
        rw [List.drop_eq_getElem_cons (by simp; omega), List.getElem_append_left hlt]
      have c1 : wr.cell? ⟨g, k, none⟩ = some (.int .u8 (l[k].toNat : Int)) := by
        rw [ho.cellAt k (by omega), hdr, bvals_get (by simp [hD.out])]
        simp [hD.out]
      have f1 := ho.frozenAt k
      obtain ⟨x, hx⟩ := xor85 l[k]
      have HX : Hid (bits BinOp.xor IntKind.u8 ((l[k].toNat : Nat) : Int) 85 = ((x.toNat : Nat) : Int)) := hx
      have HO : Hid ((wr.setCell ⟨g, k, none⟩ (bval x)).ownsRow 0 5 1 (.slice (some ⟨g, 0, none⟩) (l.length + 2) cap) (l.length + 2) (bvals ((D ++ [x]) ++ (l ++ [171, 172]).drop (k + 1)))) := by
        have h := (ho.stored k (bval x)).1
        rw [hdr] at h
        have e : (bvals (D ++ l[k] :: (l ++ [171, 172]).drop (k + 1))).set k (bval x) = bvals ((D ++ [x]) ++ (l ++ [171, 172]).drop (k + 1)) := by
          rw [bvals_append, List.set_append_right _ _ (by rw [bvals_length, hD.out]; omega), bvals_length, hD.out, Nat.sub_self]
          simp [bvals]
        rw [e] at h
        exact h
      have HG : Hid (w.grownBy (wr.setCell ⟨g, k, none⟩ (bval x)) (some g)) := grown_trans hgr (grown_setCell wr g k (bval x))
      generalize l[k] = c at *
      clear hx hb d2 hdr ho hgr
      go_wp2
      go_quiet (fail)
      go_wp2
      go_roundw
      case rel =>
        rw [HX.out]
        exact ⟨k + 1, D ++ [x], by omega, rfl, by go_num, by show _ = _; simp [hD.out], HO.out, grown_trans HG.out (Qt.grown ⟨_, rfl⟩ _)⟩
      case measure => simp [intOf]; omega
    · go_wp2
      go_ret
      exact ⟨rfl, hgr⟩
end Go.Proofs.YtjehpijjneghpaaGreat
namespace Go.Proofs.YtjehpijjneghpaaGreat.Re
open Go.RowKit Go.Maps Go.Sort Go.Shelf Go.Proofs.YtjehpijjneghpaaGreat.Nm Go.Proofs.YtjehpijjneghpaaGreat.Dk
set_option linter.unusedVariables false
def own (pb : Nat) (O : Nat → Prop) (rb : Nat) (V : RV) : Nat → Prop := fun k => k = pb ∨ O k ∨ ∃ x, blk rb V x = some k
structure PX (w : World) (pb b rb : Nat) (S : DS) (R : RB) (O : Nat → Prop) (V : RV) : Prop where
  box : w.heap[pb]? = some (.cells #[.pointer (some ⟨b, 0, none⟩), .pointer (some ⟨rb, 0, none⟩)] 29 (0, 0))
  d : DskE w b S O
  r : RM w rb R V
  dj : ∀ k, O k → ∀ x, blk rb V x ≠ some k
  np : ¬ O pb
  nr : ∀ x, blk rb V x ≠ some pb
def PW (w : World) (pb b : Nat) (S : DS) (R : RB) (Q : Nat → Prop) : Prop := ∃ rb O V, PX w pb b rb S R O V ∧ Q = own pb O rb V
variable {w q w' : World} {pb b rb : Nat} {S : DS} {R : RB} {O : Nat → Prop} {V : RV} {Q : Nat → Prop}
theorem PX.but {X : Nat → Prop} (h : PX w pb b rb S R O V) (hb : But X w w') (hx : ∀ k, own pb O rb V k → ¬ X k) : PX w' pb b rb S R O V :=
  ⟨hb.at h.box (hx pb (.inl rfl)), h.d.but hb (fun k hk => hx k (.inr (.inl hk))), h.r.but hb (fun x k hk => hx k (.inr (.inr ⟨x, hk⟩))), h.dj, h.np, h.nr⟩
theorem PX.below (h : PX w pb b rb S R O V) (hb : Below w.heap.size w w') : PX w' pb b rb S R O V := h.but (But.of_below hb fun _ => False) fun _ _ c => c
theorem PX.lt (h : PX w pb b rb S R O V) : ∀ k, own pb O rb V k → k < w.heap.size := by
  rintro k (rfl | c | ⟨x, c⟩)
  · exact heap_lt h.box
  · exact h.d.lt k c
  · exact h.r.lt x k c
theorem PX.toPW (h : PX w pb b rb S R O V) : PW w pb b S R (own pb O rb V) := ⟨rb, O, V, h, rfl⟩
theorem PW.below (h : PW w pb b S R Q) (hb : Below w.heap.size w w') : PW w' pb b S R Q := by obtain ⟨rb, O, V, hx, e⟩ := h; exact ⟨rb, O, V, hx.below hb, e⟩
theorem PW.but {X : Nat → Prop} (h : PW w pb b S R Q) (hb : But X w w') (hx : ∀ k, Q k → ¬ X k) : PW w' pb b S R Q := by obtain ⟨rb, O, V, h, rfl⟩ := h; exact ⟨rb, O, V, h.but hb hx, rfl⟩
theorem PX.stepA {S' : DS} {O' : Nat → Prop} (h : PX q pb b rb S R O V) (hd : DskE w' b S' O') (g : Sgo q w' O O') : PX w' pb b rb S' R O' V ∧ Sgo q w' (own pb O rb V) (own pb O' rb V) := by
  have nb : ∀ x k, blk rb V x = some k → ¬ O k := fun x k hk c => h.dj k c x hk
  refine ⟨⟨g.but.at h.box h.np, hd, h.r.but g.but nb, fun k hk x c => ?_, fun c => ?_, h.nr⟩, ⟨g.but.mono fun k _ c => .inr (.inl c), fun k hk => ?_⟩⟩
  · rcases g.own k hk with o | o
    · exact h.dj k o x c
    · have := h.r.lt x k c; omega
  · rcases g.own pb c with o | o
    · exact h.np o
    · have := heap_lt h.box; omega
  · rcases hk with e | c | c
    · exact .inl (.inl e)
    · exact (g.own k c).imp (fun o => .inr (.inl o)) id
    · exact .inl (.inr (.inr c))
theorem PX.stepB {R' : RB} (h : PX q pb b rb S R O V) (g : Rgo q w' rb V R') : ∃ V', PX w' pb b rb S R' O V' ∧ Sgo q w' (own pb O rb V) (own pb O rb V') := by
  obtain ⟨⟨V', hm, hv⟩, hb⟩ := g
  have nb : ∀ k, O k → ¬ ∃ x, blk rb V x = some k := fun k hk ⟨x, c⟩ => h.dj k hk x c
  refine ⟨V', ⟨hb.at h.box (fun ⟨x, c⟩ => h.nr x c), h.d.but hb nb, hm, fun k hk x c => ?_, h.np, fun x c => ?_⟩, ⟨hb.mono fun k _ c => .inr (.inr c), fun k hk => ?_⟩⟩
  · rcases hv x k c with o | o
    · exact h.dj k hk x o
    · have := h.d.lt k hk; omega
  · rcases hv x pb c with o | o
    · exact h.nr x o
    · have := heap_lt h.box; omega
  · rcases hk with e | c | ⟨x, c⟩
    · exact .inl (.inl e)
    · exact .inl (.inr (.inl c))
    · exact (hv x k c).imp (fun o => .inr (.inr ⟨x, o⟩)) id
def calm (fs : List Ft) : List Ft := fs.filter fun t => t.2.1 != 4
def DS.play (S : DS) (o : Dop) (S' : DS) : Prop :=
  if o.kind = 1 then ∃ p, p ∉ S.ps ∧ S' = (S.create o.nm p).1
  else if o.kind = 2 then S' = if 32768 < o.dat.length then S else (S.append o.nm o.dat).1
  else if o.kind = 3 then S' = (S.sync o.nm).1
  else if o.kind = 4 then S' = (S.cut o.nm o.n).1
  else if o.kind = 5 then S' = (S.rename o.nm o.tn).1
  else if o.kind = 6 then S' = (S.remove o.nm).1
  else if o.kind = 7 then S' = S.syncDir.1
  else if o.kind = 9 then S' = (S.arm (calm o.fs)).1
  else if o.kind = 10 then S' = S.crash o.dir o.ks
  else if o.kind = 11 then ∃ σ, Dk.Alike σ S S'
  else S' = S
open Classical in
noncomputable def RB.play (R : RB) (o : Dop) : RB :=
  if o.kind = 1 then (R.create o.nm).1
  else if o.kind = 2 then (if 32768 < o.dat.length then R else (R.append o.nm o.dat).1)
  else if o.kind = 3 then (R.sync o.nm).1
  else if o.kind = 4 then (R.cut o.nm o.n).1
  else if o.kind = 5 then (R.rename o.nm o.tn).1
  else if o.kind = 6 then (R.remove o.nm).1
  else if o.kind = 7 then R.syncDir.1
  else if o.kind = 9 then (R.arm (calm o.fs)).1
  else if o.kind = 10 then R.crash o.dir o.ks
  else R
structure PlP (w : World) (pb b : Nat) (S : DS) (R : RB) (o : Dop) (Q : Nat → Prop) (e : Ending) (w' : World) : Prop where
  out : ∃ r S' Q' b', e = .returned (.bool r) ∧ PW w' pb b' S' (R.play o) Q' ∧ Sgo w w' Q Q' ∧ DS.play S o S' ∧ (Rel S R → r = true) ∧ (o.kind ≠ 11 → b' = b)
structure PlI (W0 w : World) (pb b : Nat) (S : DS) (R : RB) (o : Dop) (Q : Nat → Prop) : Prop where
  pw : PW w pb b S R Q
  ok : DopOk W0 o
  bel : Below W0.heap.size W0 w
  lo : ∀ k, Q k → W0.heap.size ≤ k
  ri : RI R
  uq : S.uq
  cs : S.c7 ≤ 100000
  cr : R.c7 ≤ 100000
theorem calm_no4 (fs : List Ft) : ∀ t ∈ calm fs, t.2.1 ≠ 4 := fun t ht => by have := (List.mem_filter.1 ht).2; simpa using this
theorem rel_play {S' : DS} {o : Dop} (h : Rel S R) (hp : DS.play S o S') : Rel S' (R.play o) := by
  unfold DS.play at hp
  unfold RB.play
  by_cases k1 : o.kind = 1
  · rw [if_pos k1] at hp ⊢
    obtain ⟨p, hn, rfl⟩ := hp
    exact (h.create _ hn).1
  rw [if_neg k1] at hp ⊢
  by_cases k2 : o.kind = 2
  · rw [if_pos k2] at hp ⊢
    subst hp
    split
    · exact h
    · exact (h.append _ _).1
  rw [if_neg k2] at hp ⊢
  by_cases k3 : o.kind = 3
  · rw [if_pos k3] at hp ⊢; subst hp; exact (h.sync _).1
  rw [if_neg k3] at hp ⊢
  by_cases k4 : o.kind = 4
  · rw [if_pos k4] at hp ⊢; subst hp; exact (h.cut _ _).1
  rw [if_neg k4] at hp ⊢
  by_cases k5 : o.kind = 5
  · rw [if_pos k5] at hp ⊢; subst hp; exact (h.rename _ _).1
  rw [if_neg k5] at hp ⊢
  by_cases k6 : o.kind = 6
  · rw [if_pos k6] at hp ⊢; subst hp; exact (h.remove _).1
  rw [if_neg k6] at hp ⊢
  by_cases k7 : o.kind = 7
  · rw [if_pos k7] at hp ⊢; subst hp; exact h.syncDir.1
  rw [if_neg k7] at hp ⊢
  by_cases k9 : o.kind = 9
  · rw [if_pos k9] at hp ⊢; subst hp; exact (h.armed _ (calm_no4 _)).1
  rw [if_neg k9] at hp ⊢
  by_cases k10 : o.kind = 10
  · rw [if_pos k10] at hp ⊢; subst hp; exact h.crash _ _
  rw [if_neg k10] at hp ⊢
  by_cases k11 : o.kind = 11
  · rw [if_pos k11] at hp; obtain ⟨σ, L⟩ := hp; exact h.alike L
  rw [if_neg k11] at hp
  subst hp
  exact h
end Go.Proofs.YtjehpijjneghpaaGreat.Re
namespace Go.Proofs.YtjehpijjneghpaaGreat.Re
open Go.RowKit Go.Maps Go.Sort Go.Shelf Go.Proofs.YtjehpijjneghpaaGreat.Nm Go.Proofs.YtjehpijjneghpaaGreat.Dk
set_option linter.unusedVariables false
def ck (k : List UInt8) : Ch → Prop
  | .cr n _ => n.data.toList ≠ k
  | .rn f t => f.data.toList ≠ k ∧ t.data.toList ≠ k
  | .rm n => n.data.toList ≠ k
theorem run_ck {k : List UInt8} {c : Ch} (h : ck k c) (l : Dr) : Dk.get (c.run l) k = Dk.get l k := by
  cases c with
  | cr n p => show Dk.get (dput l n.data.toList p) k = _; rw [get_dput, if_neg h]
  | rn f t =>
    show Dk.get (match Dk.get l f.data.toList with | some p => ddel (dput l t.data.toList p) f.data.toList | none => l) k = _
    cases Dk.get l f.data.toList with
    | none => rfl
    | some p => simp only; rw [get_ddel, if_neg h.1, get_dput, if_neg h.2]
  | rm n => show Dk.get (ddel l n.data.toList) k = _; rw [get_ddel, if_neg h]
theorem runs_ck {k : List UInt8} : ∀ {P : List Ch} {l : Dr}, (∀ c ∈ P, ck k c) → Dk.get (runs l P) k = Dk.get l k := by
  intro P
  induction P with
  | nil => intro l _; rfl
  | cons c r ih =>
    intro l h
    show Dk.get (runs (c.run l) r) k = _
    rw [ih (fun c' hc => h c' (by simp [hc])), run_ck (h c (by simp))]
structure Kpt (S : DS) (k : List UInt8) (p : Nat) (f : Fl) : Prop where
  l2 : Dk.get S.l2 k = some p
  P : ∀ c ∈ S.P, ck k c
  F : S.F p = f
  uq : S.uq
variable {S : DS} {k : List UInt8} {p : Nat} {f : Fl}
theorem Kpt.dir (h : Kpt S k p f) : Dk.get S.dir k = some p := (runs_ck h.P).trans h.l2
theorem Kpt.of {S' : DS} (h : Kpt S k p f) (e1 : S'.l2 = S.l2) (e2 : S'.P = S.P) (e3 : S'.F p = S.F p) : Kpt S' k p f := ⟨by rw [e1]; exact h.l2, by rw [e2]; exact h.P, by rw [e3]; exact h.F, Uqs.of h.uq e1 e2⟩
theorem beg_c7 (S : DS) (j : Nat) : (S.beg j).c7 = S.c7 + 1 := (beg_rest S j).2.2.2.2.2.1
theorem str_c7 (S : DS) (j : Int) : (S.str j).c7 = S.c7 := (str_rest S j).2.2.2.2.1
theorem hit_c7 (S : DS) (j : Nat) : (S.hit j).c7 = S.c7 + 1 := (hit_rest S j).2.2.2.2.1
theorem play_c7 {S' : DS} {o : Dop} (hp : DS.play S o S') : S'.c7 ≤ S.c7 + 1 := by
  unfold DS.play at hp
  by_cases k1 : o.kind = 1
  · rw [if_pos k1] at hp
    obtain ⟨q, hq, rfl⟩ := hp
    unfold DS.create
    split
    · simp only; omega
    · split
      · simp only; omega
      · split
        · simp only; omega
        · split
          · simp only [str_c7, beg_c7]; omega
          · simp only [str_c7, beg_c7]; omega
  rw [if_neg k1] at hp
  by_cases k2 : o.kind = 2
  · rw [if_pos k2] at hp
    subst hp
    split
    · omega
    · unfold DS.append
      split
      · simp only; omega
      · simp only [str_c7, beg_c7]; omega
  rw [if_neg k2] at hp
  by_cases k3 : o.kind = 3
  · rw [if_pos k3] at hp
    subst hp
    unfold DS.sync
    split
    · simp only; omega
    · split
      · simp only [beg_c7]; omega
      · split
        · simp only [str_c7, beg_c7]; omega
        · simp only [beg_c7]; omega
  rw [if_neg k3] at hp
  by_cases k4 : o.kind = 4
  · rw [if_pos k4] at hp
    subst hp
    unfold DS.cut
    split
    · simp only; omega
    · split
      · simp only; omega
      · split
        · simp only [str_c7, beg_c7]; omega
        · simp only [beg_c7]; omega
  rw [if_neg k4] at hp
  by_cases k5 : o.kind = 5
  · rw [if_pos k5] at hp
    subst hp
    unfold DS.rename
    split
    · simp only; omega
    · split
      · simp only; omega
      · split
        · simp only [hit_c7]; omega
        · split
          · simp only [hit_c7]; omega
          · simp only [hit_c7]; omega
  rw [if_neg k5] at hp
  by_cases k6 : o.kind = 6
  · rw [if_pos k6] at hp
    subst hp
    unfold DS.remove
    split
    · simp only; omega
    · split
      · simp only [hit_c7]; omega
      · simp only [hit_c7]; omega
  rw [if_neg k6] at hp
  by_cases k7 : o.kind = 7
  · rw [if_pos k7] at hp
    subst hp
    unfold DS.syncDir
    split
    · simp only; omega
    · split
      · simp only [hit_c7]; omega
      · simp only [hit_c7]; omega
  rw [if_neg k7] at hp
  by_cases k9 : o.kind = 9
  · rw [if_pos k9] at hp
    subst hp
    unfold DS.arm
    split
    · simp only; omega
    · split
      · simp only; omega
      · simp only; omega
  rw [if_neg k9] at hp
  by_cases k10 : o.kind = 10
  · rw [if_pos k10] at hp
    subst hp
    show S.c7 ≤ _
    omega
  rw [if_neg k10] at hp
  by_cases k11 : o.kind = 11
  · rw [if_pos k11] at hp
    obtain ⟨σ, L⟩ := hp
    rw [L.c7]
    omega
  rw [if_neg k11] at hp
  subst hp
  omega
end Go.Proofs.YtjehpijjneghpaaGreat.Re
namespace Go.Proofs.YtjehpijjneghpaaGreat.Re
open Go.RowKit Go.Maps Go.Sort Go.Shelf Go.Proofs.YtjehpijjneghpaaGreat.Nm Go.Proofs.YtjehpijjneghpaaGreat.Dk
set_option linter.unusedVariables false
def kl : List UInt8 := [107, 101, 112, 116]
end Go.Proofs.YtjehpijjneghpaaGreat.Re
