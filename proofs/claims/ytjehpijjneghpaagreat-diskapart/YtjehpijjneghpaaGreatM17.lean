/-
  Two disks alike but for where their files lie.
-/
import Derived.Test.YtjehpijjneghpaaGreatM16
import Derived.Maps.Ext
import Derived.Maps.RangeWalk
namespace Go.Proofs.YtjehpijjneghpaaGreat.Dk
open Go.RowKit Go.Maps Go.Sort Go.Shelf Go.Proofs.YtjehpijjneghpaaGreat.Nm
def mvD (σ : Nat → Nat) (l : Dr) : Dr := l.map fun e => (e.1, σ e.2)
def Ch.mv (σ : Nat → Nat) : Ch → Ch
  | .cr n p => .cr n (σ p)
  | .rn f t => .rn f t
  | .rm n => .rm n
theorem get_mv (σ : Nat → Nat) (l : Dr) (n : List UInt8) : get (mvD σ l) n = (get l n).map σ := by
  unfold get mvD
  rw [List.find?_map]
  simp [Function.comp_def]
theorem ddel_mv (σ : Nat → Nat) (l : Dr) (n : List UInt8) : ddel (mvD σ l) n = mvD σ (ddel l n) := by
  unfold ddel mvD
  rw [List.filter_map]
  rfl
theorem dins_mv (σ : Nat → Nat) (n : List UInt8) (p : Nat) : ∀ l : Dr, dins (n, σ p) (mvD σ l) = mvD σ (dins (n, p) l) := by
  intro l
  induction l with
  | nil => rfl
  | cons y r ih =>
    show dins (n, σ p) ((y.1, σ y.2) :: mvD σ r) = mvD σ (dins (n, p) (y :: r))
    simp only [dins]
    split
    · rfl
    · rw [ih]; rfl
theorem dput_mv (σ : Nat → Nat) (l : Dr) (n : List UInt8) (p : Nat) : dput (mvD σ l) n (σ p) = mvD σ (dput l n p) := by
  unfold dput
  rw [ddel_mv, dins_mv]
theorem run_mv (σ : Nat → Nat) (l : Dr) (c : Ch) : (c.mv σ).run (mvD σ l) = mvD σ (c.run l) := by
  cases c with
  | cr n p => exact dput_mv σ l _ p
  | rm n => exact ddel_mv σ l _
  | rn f t =>
    simp only [Ch.mv, Ch.run, get_mv]
    cases get l f.data.toList with
    | none => rfl
    | some p => simp only [Option.map_some]; rw [dput_mv, ddel_mv]
theorem runs_mv (σ : Nat → Nat) : ∀ (P : List Ch) (l : Dr), runs (mvD σ l) (P.map (Ch.mv σ)) = mvD σ (runs l P) := by
  intro P
  induction P with
  | nil => intro l; rfl
  | cons c r ih =>
    intro l
    show runs ((c.mv σ).run (mvD σ l)) (r.map (Ch.mv σ)) = _
    rw [run_mv, ih]
    rfl
theorem nms_mv (σ : Nat → Nat) (l : Dr) : nms (mvD σ l) = nms l := by
  unfold nms mvD
  rw [List.map_map]
  rfl
theorem ptr_mv (σ : Nat → Nat) (c : Ch) : (c.mv σ).ptr = c.ptr.map σ := by cases c <;> rfl
theorem ptrs_mv (σ : Nat → Nat) (P : List Ch) : (P.map (Ch.mv σ)).filterMap Ch.ptr = (P.filterMap Ch.ptr).map σ := by
  induction P with
  | nil => rfl
  | cons c r ih =>
    rw [List.map_cons, List.filterMap_cons, List.filterMap_cons, ptr_mv, ih]
    cases c.ptr <;> rfl
structure Alike (σ : Nat → Nat) (S S' : DS) : Prop where
  most : S'.most = S.most
  up : S'.up = S.up
  al : S'.al = S.al
  c0 : S'.c0 = S.c0
  c1 : S'.c1 = S.c1
  c2 : S'.c2 = S.c2
  c3 : S'.c3 = S.c3
  c4 : S'.c4 = S.c4
  c5 : S'.c5 = S.c5
  c6 : S'.c6 = S.c6
  c7 : S'.c7 = S.c7
  c8 : S'.c8 = S.c8
  l2 : S'.l2 = mvD σ S.l2
  P : S'.P = S.P.map (Ch.mv σ)
  F : ∀ p ∈ S.ps, S'.F (σ p) = S.F p
  inj : ∀ p ∈ S.ps, ∀ q ∈ S.ps, σ p = σ q → p = q
variable {σ : Nat → Nat} {S S' : DS}
theorem Alike.ps (h : Alike σ S S') : S'.ps = S.ps.map σ := by
  unfold DS.ps
  rw [h.l2, h.P, ptrs_mv, List.map_append]
  unfold mvD
  rw [List.map_map, List.map_map]
  rfl
theorem Alike.dir (h : Alike σ S S') : S'.dir = mvD σ S.dir := by
  unfold DS.dir
  rw [h.l2, h.P, runs_mv]
theorem Alike.front (h : Alike σ S S') (n : Int) : S'.front n = mvD σ (S.front n) := by
  unfold DS.front
  rw [h.l2, h.P, List.length_map, ← List.map_take, runs_mv]
theorem mem_ps_front {S : DS} {n : Int} {e : List UInt8 × Nat} (he : e ∈ S.front n) : e.2 ∈ S.ps := DS.mem_front (List.mem_map.2 ⟨e, he, rfl⟩)
theorem mem_ps_dir {S : DS} {e : List UInt8 × Nat} (he : e ∈ S.dir) : e.2 ∈ S.ps := runs_mem (List.mem_map.2 ⟨e, he, rfl⟩)
theorem Alike.tails (h : Alike σ S S') (n : Int) : S'.tails n = S.tails n := by
  unfold DS.tails
  rw [h.front, nms_mv]
  refine List.map_congr_left fun s hs => ?_
  congr 1
  unfold tlOf
  rw [get_mv]
  cases hg : get (S.front n) s with
  | none => rfl
  | some p => simp only [Option.map_some]; rw [h.F p (mem_ps_front (get_mem hg))]
theorem filesOf_mv {G G' : Nat → List UInt8} {l : Dr} (hG : ∀ e ∈ l, G' (σ e.2) = G e.2) : filesOf G' (mvD σ l) = filesOf G l := by
  unfold filesOf
  rw [nms_mv]
  refine List.map_congr_left fun s hs => ?_
  congr 1
  unfold flOf
  rw [get_mv]
  cases hg : get l s with
  | none => rfl
  | some p => simp only [Option.map_some]; exact hG _ (get_mem hg)
theorem Alike.files (h : Alike σ S S') : S'.files = S.files := by
  unfold DS.files
  rw [h.dir]
  exact filesOf_mv fun e he => by show (S'.F _).by_ = _; rw [h.F _ (mem_ps_dir he)]
theorem Alike.lasts (h : Alike σ S S') : S'.lasts = S.lasts := by
  unfold DS.lasts
  rw [h.l2]
  exact filesOf_mv fun e he => by show (S'.F _).la = _; rw [h.F _ (List.mem_append_left _ (List.mem_map.2 ⟨e, he, rfl⟩))]
theorem Alike.ref (h : Alike σ S S') (ns : List ByteArray) : S'.ref ns = S.ref ns := by
  unfold DS.ref
  rw [h.up]
theorem Alike.find (h : Alike σ S S') (s : ByteArray) : S'.find s = ((S.find s).1.map σ, (S.find s).2) := by
  unfold DS.find
  rw [h.ref, h.dir, get_mv]
  split
  · cases get S.dir s.data.toList <;> rfl
  · rfl
theorem Alike.flt (h : Alike σ S S') : S'.flt = S.flt := by
  unfold DS.flt
  rw [h.al, h.c7]
theorem Alike.sum (h : Alike σ S S') : sumL S'.F S'.dir = sumL S.F S.dir := by
  unfold sumL
  rw [h.dir]
  unfold mvD
  rw [List.map_map]
  congr 1
  refine List.map_congr_left fun e he => ?_
  show (S'.F (σ e.2)).by_.length = _
  rw [h.F _ (mem_ps_dir he)]
theorem Alike.room (h : Alike σ S S') : S'.room = S.room := by
  unfold DS.room
  rw [h.sum, h.most]
theorem crash1_mv {F F' : Nat → Fl} {l : Dr} {ps : List Nat} (hl : ∀ e ∈ l, e.2 ∈ ps) (hF : ∀ p ∈ ps, F' (σ p) = F p) (hi : ∀ p ∈ ps, ∀ q ∈ ps, σ p = σ q → p = q) (s : List UInt8) (k : Kep) : ∀ p ∈ ps, crash1 F' (mvD σ l) s k (σ p) = crash1 F l s k p := by
  intro p hp
  unfold crash1
  rw [get_mv]
  cases hg : get l s with
  | none => exact hF p hp
  | some q =>
    simp only [Option.map_some]
    have hq := hl _ (get_mem hg)
    by_cases e : p = q
    · subst e
      rw [upd_same, upd_same, hF p hp]
    · rw [upd_ne _ _ e, upd_ne _ _ (fun c => e (hi p hp q hq c)), hF p hp]
theorem crashL_mv {l : Dr} {ps : List Nat} (hl : ∀ e ∈ l, e.2 ∈ ps) (hi : ∀ p ∈ ps, ∀ q ∈ ps, σ p = σ q → p = q) : ∀ (A : List (List UInt8)) (ks : List Kep) (F F' : Nat → Fl), (∀ p ∈ ps, F' (σ p) = F p) → ∀ p ∈ ps, crashL (mvD σ l) A ks F' (σ p) = crashL l A ks F p := by
  intro A
  induction A with
  | nil => intro ks F F' hF p hp; exact hF p hp
  | cons s r ih =>
    intro ks F F' hF p hp
    exact ih ks.tail _ _ (crash1_mv hl hF hi s _) p hp
theorem Alike.crash (h : Alike σ S S') (d : Int) (ks : List Kep) : Alike σ (S.crash d ks) (S'.crash d ks) := by
  have hps : ∀ p ∈ (S.crash d ks).ps, p ∈ S.ps := fun p hp => by
    have : p ∈ (S.front d).map (·.2) := by simpa [DS.ps, DS.crash] using hp
    exact DS.mem_front this
  refine ⟨h.most, rfl, rfl, h.c0, h.c1, h.c2, h.c3, h.c4, h.c5, h.c6, h.c7, h.c8, h.front d, rfl, ?_, fun p hp q hq => h.inj p (hps p hp) q (hps q hq)⟩
  intro p hp
  show crashL (S'.front d) (nms (S'.front d)) ks S'.F (σ p) = crashL (S.front d) (nms (S.front d)) ks S.F p
  rw [h.front, nms_mv]
  exact crashL_mv (fun e he => mem_ps_front he) h.inj _ _ _ _ h.F p (hps p hp)
end Go.Proofs.YtjehpijjneghpaaGreat.Dk
namespace Go.Proofs.YtjehpijjneghpaaGreat.Dk
open Go.RowKit Go.Maps Go.Sort Go.Shelf Go.Proofs.YtjehpijjneghpaaGreat.Nm
def Rise (l : Dr) : Prop := l.Pairwise fun p q => bytesBefore p.1 q.1 = true
theorem Mp.rise {w : World} {b : Nat} {l : Dr} (h : Mp w b l) : Rise l := by
  obtain ⟨es, e, hp, _⟩ := World.ownsMap.canon h keyS
  have e2 : l.map dent = es := by simpa [dirD] using e
  rw [← e2, List.pairwise_map] at hp
  exact hp
theorem Rise.mv {l : Dr} (h : Rise l) (σ : Nat → Nat) : Rise (mvD σ l) := by
  unfold Rise mvD
  rw [List.pairwise_map]
  exact h
theorem rise_keys {l : Dr} (h : Rise l) : l.Pairwise fun p q => p.1 ≠ q.1 := by
  have hd : (l.map dent).Pairwise (fun p q => p.1.before q.1 = true) := by rw [List.pairwise_map]; exact h
  have := apart_of_rising hd
  rw [List.pairwise_map] at this
  exact this.imp fun {a b} hab e => hab (congrArg Lit.string e)
theorem get_of_mem {l : Dr} (h : l.Pairwise fun p q => p.1 ≠ q.1) {n : List UInt8} {p : Nat} (hm : (n, p) ∈ l) : get l n = some p := by
  induction l with
  | nil => cases hm
  | cons x r ih =>
    obtain ⟨h1, h2⟩ := List.pairwise_cons.1 h
    unfold get
    rw [List.find?_cons]
    rcases List.mem_cons.1 hm with rfl | hm
    · simp
    · have : (x.1 == n) = false := by simpa using h1 _ hm
      rw [this]
      exact ih h2 hm
theorem rise_ext {l l' : Dr} (h : Rise l) (h' : Rise l') (hg : ∀ k, get l k = get l' k) : l = l' := by
  have hd : ∀ {a : Dr}, Rise a → (a.map dent).Pairwise (fun p q => p.1.before q.1 = true) := fun ha => by rw [List.pairwise_map]; exact ha
  have e := eq_of_mem_rising (hd h) (hd h') (fun p => by
    simp only [List.mem_map]
    constructor
    · rintro ⟨x, hx, rfl⟩
      exact ⟨x, get_mem (by rw [← hg]; exact get_of_mem (rise_keys h) hx), rfl⟩
    · rintro ⟨x, hx, rfl⟩
      exact ⟨x, get_mem (by rw [hg]; exact get_of_mem (rise_keys h') hx), rfl⟩)
  refine (List.map_inj_right (f := dent) (fun a b hab => ?_)).1 e
  obtain ⟨a1, a2⟩ := a
  obtain ⟨b1, b2⟩ := b
  simp only [dent, Prod.mk.injEq, Lit.string.injEq, DataW.lit.injEq, Lit.int.injEq, true_and] at hab
  obtain ⟨q1, q2⟩ := hab
  rw [q1, show a2 = b2 by omega]
structure Cq (B : Nat) (w : World) (F : Nat → Fl) (D : Nat → Prop) (σ : Nat → Nat) (VB VL : Nat → Value) : Prop where
  at_ : ∀ p, D p → FlAt w (σ p) (F p) (VB p) (VL p)
  lo : ∀ p, D p → ∀ k, FOwn (σ p) (VB p) (VL p) k → B ≤ k
  ap : ∀ p, D p → ∀ q, D q → p ≠ q → ∀ k, FOwn (σ p) (VB p) (VL p) k → ¬ FOwn (σ q) (VB q) (VL q) k
theorem Cq.none (B : Nat) (w : World) (F : Nat → Fl) (D : Nat → Prop) (hD : ∀ p, ¬ D p) (σ : Nat → Nat) (VB VL : Nat → Value) : Cq B w F D σ VB VL := ⟨fun p h => (hD p h).elim, fun p h => (hD p h).elim, fun p h => (hD p h).elim⟩
theorem Cq.but {B : Nat} {X : Nat → Prop} {w w' : World} {F : Nat → Fl} {D : Nat → Prop} {σ : Nat → Nat} {VB VL : Nat → Value} (h : Cq B w F D σ VB VL) (hb : But X w w') (hx : ∀ p, D p → ∀ k, FOwn (σ p) (VB p) (VL p) k → ¬ X k) : Cq B w' F D σ VB VL :=
  ⟨fun p hp => (h.at_ p hp).but hb (hx p hp), h.lo, h.ap⟩
theorem Cq.below {B : Nat} {w w' : World} {F : Nat → Fl} {D : Nat → Prop} {σ : Nat → Nat} {VB VL : Nat → Value} (h : Cq B w F D σ VB VL) (hb : Below w.heap.size w w') : Cq B w' F D σ VB VL := h.but (But.of_below hb fun _ => False) fun _ _ _ _ c => c
theorem Cq.lt {B : Nat} {w : World} {F : Nat → Fl} {D : Nat → Prop} {σ : Nat → Nat} {VB VL : Nat → Value} (h : Cq B w F D σ VB VL) {p : Nat} (hp : D p) : ∀ k, FOwn (σ p) (VB p) (VL p) k → k < w.heap.size := (h.at_ p hp).lt
theorem Cq.more {B : Nat} {w w' : World} {F : Nat → Fl} {D D' : Nat → Prop} {σ : Nat → Nat} {VB VL : Nat → Value} {p p' : Nat} {vb vl : Value} (h : Cq B w F D σ VB VL) (hB : B ≤ w.heap.size) (hp : ¬ D p) (hD : ∀ q, D' q → q = p ∨ D q) (hn : FNew w.heap.size w' p' (F p) vb vl) (hb : Below w.heap.size w w') :
    Cq B w' F D' (upd σ p p') (upd VB p vb) (upd VL p vl) := by
  have hne : ∀ q, D q → q ≠ p := fun q hq e => hp (by rw [← e]; exact hq)
  have h' := h.below hb
  have key : ∀ q, D' q → (q = p ∧ upd σ p p' q = p' ∧ upd VB p vb q = vb ∧ upd VL p vl q = vl) ∨ (q ≠ p ∧ D q ∧ upd σ p p' q = σ q ∧ upd VB p vb q = VB q ∧ upd VL p vl q = VL q) := fun q hq => by
    by_cases e : q = p
    · subst e; exact .inl ⟨rfl, upd_same _ _ _, upd_same _ _ _, upd_same _ _ _⟩
    · rcases hD q hq with c | c
      · exact (e c).elim
      · exact .inr ⟨e, c, upd_ne _ _ e, upd_ne _ _ e, upd_ne _ _ e⟩
  refine ⟨fun q hq => ?_, fun q hq => ?_, fun q hq r hr hqr => ?_⟩
  · rcases key q hq with ⟨e, e1, e2, e3⟩ | ⟨e, c, e1, e2, e3⟩
    · rw [e1, e2, e3, e]; exact hn.at_
    · rw [e1, e2, e3]; exact h'.at_ q c
  · rcases key q hq with ⟨e, e1, e2, e3⟩ | ⟨e, c, e1, e2, e3⟩
    · rw [e1, e2, e3]; exact fun k hk => Nat.le_trans hB (hn.lo k hk)
    · rw [e1, e2, e3]; exact h.lo q c
  · rcases key q hq with ⟨e, e1, e2, e3⟩ | ⟨e, c, e1, e2, e3⟩
    · rcases key r hr with ⟨e', _⟩ | ⟨_, c', f1, f2, f3⟩
      · exact (hqr (e.trans e'.symm)).elim
      · rw [e1, e2, e3, f1, f2, f3]
        intro k hk hk'
        have := hn.lo k hk
        have := h.lt c' k hk'
        omega
    · rcases key r hr with ⟨_, f1, f2, f3⟩ | ⟨_, c', f1, f2, f3⟩
      · rw [e1, e2, e3, f1, f2, f3]
        intro k hk hk'
        have := hn.lo k hk'
        have := h.lt c k hk
        omega
      · rw [e1, e2, e3, f1, f2, f3]
        exact h.ap q c r c' hqr
theorem get_ddel (l : Dr) (n k : List UInt8) : get (ddel l n) k = if n = k then none else get l k := by
  unfold get ddel
  induction l with
  | nil => simp
  | cons y r ih =>
    by_cases e : y.1 = n
    · subst e
      rw [List.filter_cons_of_neg (by simp), ih, List.find?_cons]
      by_cases e2 : y.1 = k
      · simp [e2]
      · simp only [show (y.1 == k) = false by simpa using e2, if_neg e2]
    · rw [List.filter_cons_of_pos (by simpa using e), List.find?_cons, List.find?_cons]
      by_cases e2 : y.1 = k
      · subst e2
        simp [Ne.symm e]
      · simp only [show (y.1 == k) = false by simpa using e2]
        exact ih
theorem get_dins {x : List UInt8 × Nat} {l : Dr} (hx : ∀ e ∈ l, e.1 ≠ x.1) (k : List UInt8) : get (dins x l) k = if x.1 = k then some x.2 else get l k := by
  induction l with
  | nil => unfold get dins; by_cases e : x.1 = k <;> simp [e]
  | cons y r ih =>
    have ih := ih (fun e he => hx e (by simp [he]))
    have hy := hx y (by simp)
    unfold dins
    split
    · unfold get
      rw [List.find?_cons]
      by_cases e : x.1 = k
      · simp [e]
      · simp only [show (x.1 == k) = false by simpa using e, if_neg e]
    · unfold get at ih ⊢
      rw [List.find?_cons, List.find?_cons]
      by_cases e : y.1 = k
      · subst e
        simp [Ne.symm hy]
      · simp only [show (y.1 == k) = false by simpa using e]
        exact ih
theorem get_dput (l : Dr) (n : List UInt8) (p : Nat) (k : List UInt8) : get (dput l n p) k = if n = k then some p else get l k := by
  unfold dput
  rw [get_dins (fun e he => (mem_ddel he).2), get_ddel]
  split <;> rfl
theorem dput_le (l : Dr) (n : List UInt8) (p : Nat) : (dput l n p).length ≤ l.length + 1 := by
  unfold dput
  rw [dins_len]
  have : (ddel l n).length ≤ l.length := List.length_filter_le _ _
  omega
def AmN (B : Nat) (w : World) (am : Option Nat) (al : Ar) : Prop := (am = none ∧ al = []) ∨ ∃ m, am = some m ∧ B ≤ m ∧ Am w m al
theorem AmN.but {B : Nat} {X : Nat → Prop} {w w' : World} {am : Option Nat} {al : Ar} (h : AmN B w am al) (hb : But X w w') (hx : ∀ m, am = some m → ¬ X m) : AmN B w' am al := by
  rcases h with h | ⟨m, e, hm, ha⟩
  · exact .inl h
  · exact .inr ⟨m, e, hm, ha.but hb (hx m e)⟩
theorem AmN.below {B : Nat} {w w' : World} {am : Option Nat} {al : Ar} (h : AmN B w am al) (hb : Below w.heap.size w w') : AmN B w' am al := h.but (But.of_below hb fun _ => False) fun _ _ c => c
theorem AmN.low {B C : Nat} {w : World} {am : Option Nat} {al : Ar} (h : AmN B w am al) (hc : C ≤ B) : AmN C w am al := by
  rcases h with h | ⟨m, e, hm, ha⟩
  · exact .inl h
  · exact .inr ⟨m, e, by omega, ha⟩
theorem AmN.lt {B : Nat} {w : World} {am : Option Nat} {al : Ar} (h : AmN B w am al) {m : Nat} (hm : am = some m) : B ≤ m ∧ m < w.heap.size := by
  rcases h with ⟨h, _⟩ | ⟨m', e, hb, ha⟩
  · rw [h] at hm; cases hm
  · rw [e] at hm; cases hm; exact ⟨hb, ha.lt⟩
theorem cloneA_any (q : World) (am : Option Nat) (al : Ar) (h1 : ∀ m, am = some m → Am q m al) (h2 : am = none → al = []) :
    Calls Tryz.prog 93 #[.map am] q fun e w' => ∃ am', e = .returned (.map am') ∧ AmN q.heap.size w' am' al ∧ Below q.heap.size q w' := by
  cases am with
  | none =>
    refine (clone_nilA q).mono ?_
    rintro e w' ⟨rfl, e1⟩
    subst w'
    exact ⟨none, rfl, .inl ⟨rfl, h2 rfl⟩, Below.refl _ _⟩
  | some m =>
    refine (clone_am q m al (h1 m rfl)).mono ?_
    rintro e w' ⟨rfl, ha, hb⟩
    exact ⟨_, rfl, .inr ⟨_, rfl, Nat.le_refl _, ha⟩, hb⟩
def ccells (S : DS) (mc : Nat) (pv : Value) (am : Option Nat) : Array Value := #[.int .i64 S.most, .bool S.up, .map none, .map (some mc), pv, .map am, .int .i64 S.c0, .int .i64 S.c1, .int .i64 S.c2, .int .i64 S.c3, .int .i64 S.c4, .int .i64 S.c5, .int .i64 S.c6, .int .i64 S.c7, .int .i64 S.c8]
def F1 : Nat → Fl := fun _ => ⟨[0], [], 0⟩
theorem sumL_F1 (l : Dr) : sumL F1 l = l.length := by
  induction l with
  | nil => rfl
  | cons y r ih => unfold sumL at ih ⊢; rw [List.map_cons, List.sum_cons, ih]; simp [F1]; omega
structure CpI (w : World) (r bc mc : Nat) (cs : Array Value) (am : Option Nat) (al : Ar) (l : Dr) (F : Nat → Fl) (wr : World) (left : Lit → Bool) (lp : Dr) (σ : Nat → Nat) (VB VL : Nat → Value) : Prop where
  lk : ∀ k, left (.string k) = true → (get l k).isSome = true
  low : Below w.heap.size w wr
  box : wr.heap[bc]? = some (.cells cs TD (0, 0))
  mp : Mp wr mc lp
  am : AmN w.heap.size wr am al
  cq : Cq (r + 1) wr F (fun p => ∃ k, get l k = some p ∧ left (.string k) = false) σ VB VL
  gt : ∀ k, get lp k = if left (.string k) = true then none else (get l k).map σ
  len : lp.length + leftS F1 l left ≤ l.length
  sz : r < wr.heap.size
theorem CpI.start {w wr : World} {r bc mc : Nat} {cs : Array Value} {am : Option Nat} {al : Ar} {l : Dr} {F : Nat → Fl} {σ : Nat → Nat} {VB VL : Nat → Value} (low : Below w.heap.size w wr) (box : wr.heap[bc]? = some (.cells cs TD (0, 0))) (mp : Mp wr mc []) (hm : AmN w.heap.size wr am al) (sz : r < wr.heap.size) :
    CpI w r bc mc cs am al l F wr (Maps.has (dirD l)) [] σ VB VL := by
  refine ⟨fun k hk => by rw [← dirD_has]; exact hk, low, box, mp, hm, Cq.none _ _ _ _ (fun p => ?_) _ _ _, fun k => ?_, ?_, sz⟩
  · rintro ⟨k, h1, h2⟩
    rw [dirD_has, h1] at h2
    cases h2
  · show none = _
    split
    · rfl
    · rename_i h
      rw [dirD_has] at h
      cases hg : get l k with
      | none => rfl
      | some p => rw [hg] at h; exact (h rfl).elim
  · rw [leftS_start, sumL_F1]
    simp
theorem CpI.next {w wr w1 w4 w5 : World} {r bc mc : Nat} {cs : Array Value} {am : Option Nat} {al : Ar} {l : Dr} {F : Nat → Fl} {left : Lit → Bool} {lp : Dr} {σ : Nat → Nat} {VB VL : Nat → Value} {x : List UInt8} {p p' : Nat} {vb vl : Value}
    (h : CpI w r bc mc cs am al l F wr left lp σ VB VL) (hk : l.Pairwise fun p q => p.1 ≠ q.1) (hi : ∀ e ∈ l, ∀ e' ∈ l, e.2 = e'.2 → e.1 = e'.1) (hr : w.heap.size ≤ r) (hmc : w.heap.size ≤ mc ∧ mc < r) (hbc : bc < r ∧ bc ≠ mc) (ham : ∀ m, am = some m → m < r ∧ m ≠ mc)
    (hx : left (.string x) = true) (hp : get l x = some p) (h1 : But (fun k => k = r) wr w1) (hn : FNew w1.heap.size w4 p' (F p) vb vl) (h4 : Below w1.heap.size w1 w4) (h5 : But (fun k => k = mc) w4 w5) (m5 : Mp w5 mc (dput lp x p')) :
    CpI w r bc mc cs am al l F w5 (fun z => left z && !z.sameKey (.string x)) (dput lp x p') (upd σ p p') (upd VB p vb) (upd VL p vl) := by
  have b14 : But (fun k => k = r) wr w4 := h1.trans (But.of_below h4 _)
  have b15 : But (fun k => k = r ∨ k = mc) wr w5 := (b14.mono fun k _ e => .inl e).trans (h5.mono fun k _ e => .inr e)
  have same : ∀ k : List UInt8, (Lit.string k).sameKey (.string x) = decide (k = x) := fun k => by
    by_cases e : k = x
    · subst e; simp [Lit.sameKey]
    · simp [Lit.sameKey, e]
  have lft : ∀ k, k ≠ x → (left (.string k) && !(Lit.string k).sameKey (.string x)) = left (.string k) := fun k e => by
    rw [same, decide_eq_false e]; simp
  have lfx : (left (.string x) && !(Lit.string x).sameKey (.string x)) = false := by
    rw [same]; simp
  have inj : ∀ k q, get l k = some q → q = p → k = x := fun k q hg e => hi _ (get_mem hg) _ (get_mem hp) e
  refine ⟨?_, ?_, ?_, m5, ?_, ?_, ?_, ?_, ?_⟩
  · intro k hk'
    by_cases e : k = x
    · subst e; rw [hp]; rfl
    · rw [lft k e] at hk'; exact h.lk k hk'
  · exact ⟨b15.os.trans h.low.os, b15.tape.trans h.low.tape, b15.output.trans h.low.output, Nat.le_trans h.low.size b15.size, fun k hk => (b15.block k (Nat.lt_of_lt_of_le hk h.low.size) (by omega)).trans (h.low.block k hk)⟩
  · exact b15.at h.box (by omega)
  · exact h.am.but b15 (fun m e => by have := ham m e; omega)
  · have c1 := h.cq.but h1 (fun q hq k hk => by have := h.cq.lo q hq k hk; omega)
    refine (c1.more (by have := h1.size; have := h.sz; omega) (fun c => ?_) (fun q hq => ?_) hn h4).but h5 (fun q hq k hk c => ?_)
    · obtain ⟨k, g1, g2⟩ := c
      rw [inj k p g1 rfl, hx] at g2
      cases g2
    · obtain ⟨k, g1, g2⟩ := hq
      by_cases e : k = x
      · subst e; rw [hp] at g1; cases g1; exact .inl rfl
      · rw [lft k e] at g2; exact .inr ⟨k, g1, g2⟩
    · have := (c1.more (D' := fun q => q = p ∨ ∃ k, get l k = some q ∧ left (.string k) = false) (by have := h1.size; have := h.sz; omega) (fun c => by
        obtain ⟨k, g1, g2⟩ := c
        rw [inj k p g1 rfl, hx] at g2
        cases g2) (fun q hq => hq) hn h4).lo q (by
          obtain ⟨k, g1, g2⟩ := hq
          by_cases e : k = x
          · subst e; rw [hp] at g1; cases g1; exact .inl rfl
          · rw [lft k e] at g2; exact .inr ⟨k, g1, g2⟩) k hk
      omega
  · intro k
    rw [get_dput]
    by_cases e : k = x
    · subst e
      rw [if_pos rfl, if_neg (by rw [lfx]; simp), hp, Option.map_some, upd_same]
    · rw [if_neg (Ne.symm e), lft k e, h.gt k]
      split
      · rfl
      · cases hg : get l k with
        | none => rfl
        | some q => rw [Option.map_some, Option.map_some, upd_ne _ _ (fun c => e (inj k q hg c))]
  · have := leftS_step F1 hk hp hx
    have e1 : (F1 p).by_.length = 1 := rfl
    have := dput_le lp x p'
    have := h.len
    omega
  · have := b15.size; have := h.sz; omega
theorem CpI.done {w wr : World} {r bc mc : Nat} {cs : Array Value} {am : Option Nat} {al : Ar} {l : Dr} {F : Nat → Fl} {left : Lit → Bool} {lp : Dr} {σ : Nat → Nat} {VB VL : Nat → Value} (h : CpI w r bc mc cs am al l F wr left lp σ VB VL) (hl : ∀ kl, left kl = false) (hr : Rise l) :
    lp = mvD σ l := rise_ext h.mp.rise (hr.mv σ) (fun k => by rw [h.gt k, hl, if_neg (by simp), get_mv])
theorem ranges_but {X : Nat → Prop} {w w' : World} {b r n cnt : Nat} {D : DataW Unit} {left : Lit → Bool} (h : w.ranges Tryz.prog TS ptrR b r n D left cnt) (hb : But X w w') (h1 : ¬ X b) (h2 : ¬ X r) : w'.ranges Tryz.prog TS ptrR b r n D left cnt := by
  have lt := h.lt
  obtain ⟨es, clock, since, seen, c0, q1, q2, q3, q4, q5, q6⟩ := h
  exact ⟨es, clock, since, seen, c0, hb.at q1 h1, q2, q3, q4, (hb.block r lt h2).trans q5, q6⟩
set_option maxRecDepth 100000 in
theorem dispC_any (c : Ch) : (∀ q, (method 325 c.ty c.val "flume/disk.copy").run Tryz.prog q = .ok (c.cf, c.val) q) ∧ (∀ a q, (callFunc c.cf a).run Tryz.prog q = .ok (.enter c.cf a) q) := by
  cases c with
  | cr n p => exact ⟨fun q => by kernel_rfl, fun a q => by kernel_rfl⟩
  | rn f t => exact ⟨fun q => by kernel_rfl, fun a q => by kernel_rfl⟩
  | rm n => exact ⟨fun q => by kernel_rfl, fun a q => by kernel_rfl⟩
theorem mvD_congr {σ τ : Nat → Nat} {l : Dr} (h : ∀ p ∈ l.map (·.2), τ p = σ p) : mvD τ l = mvD σ l := by
  unfold mvD
  refine List.map_congr_left fun e he => ?_
  rw [h _ (List.mem_map.2 ⟨e, he, rfl⟩)]
theorem mvP_congr {σ τ : Nat → Nat} {P : List Ch} (h : ∀ p ∈ ptrs P, τ p = σ p) : P.map (Ch.mv τ) = P.map (Ch.mv σ) := by
  refine List.map_congr_left fun c hc => ?_
  cases c with
  | cr n p => simp only [Ch.mv]; rw [h p (List.mem_filterMap.2 ⟨_, hc, rfl⟩)]
  | rn f t => rfl
  | rm n => rfl
structure CpJ (w : World) (r bc mc : Nat) (S : DS) (am : Option Nat) (wr : World) (k : Nat) (pv : Value) (σ : Nat → Nat) (VB VL : Nat → Value) : Prop where
  low : Below w.heap.size w wr
  box : wr.heap[bc]? = some (.cells (ccells S mc pv am) TD (0, 0))
  mp : Mp wr mc (mvD σ S.l2)
  am : AmN w.heap.size wr am S.al
  cq : Cq (r + 1) wr S.F (fun p => p ∈ S.l2.map (·.2) ++ ptrs (S.P.take k)) σ VB VL
  pd : wr.ownsRow (r + 1) 148 1 pv k (((S.P.take k).map (Ch.mv σ)).map Ch.iface)
  sz : r < wr.heap.size
theorem CpI.two {w wr : World} {r bc mc : Nat} {S : DS} {am : Option Nat} {left : Lit → Bool} {lp : Dr} {σ : Nat → Nat} {VB VL : Nat → Value} (h : CpI w r bc mc (ccells S mc (.slice none 0 0) am) am S.al S.l2 S.F wr left lp σ VB VL) (hl : ∀ kl, left kl = false) (hr : Rise S.l2) :
    CpJ w r bc mc S am wr 0 (.slice none 0 0) σ VB VL := by
  have e := h.done hl hr
  refine ⟨h.low, h.box, by rw [← e]; exact h.mp, h.am, ?_, World.ownsRow_nil _ _ _ _, h.sz⟩
  have hD : ∀ p, p ∈ S.l2.map (·.2) ++ ptrs (S.P.take 0) → ∃ k, get S.l2 k = some p ∧ left (.string k) = false := fun p hp => by
    simp [ptrs] at hp
    obtain ⟨k, hk⟩ := hp
    exact ⟨k, get_of_mem (rise_keys hr) hk, hl _⟩
  exact ⟨fun p hp => h.cq.at_ p (hD p hp), fun p hp => h.cq.lo p (hD p hp), fun p hp q hq => h.cq.ap p (hD p hp) q (hD q hq)⟩
theorem FlAt.noCh {w : World} {p : Nat} {f : Fl} {vb vl v : Value} {B n : Nat} {xs : List Value} (h : FlAt w p f vb vl) (hr : w.ownsRow B 148 1 v n xs) : ∀ k, FOwn p vb vl k → v.ownBlock ≠ some k := by
  intro k hk c
  rcases hr.2 with ⟨rfl, _⟩ | ⟨g, cap, cur, rfl, hg, hh, _⟩
  · cases c
  · simp [Value.ownBlock] at c
    subst c
    rcases hk with e | e | e
    · rw [e, h.box] at hh
      simp at hh
      exact absurd hh.2 (by decide)
    · exact h.b.no hh (by decide) e
    · exact h.l.no hh (by decide) e
theorem uq_at {S : DS} (h : S.uq) {k p : Nat} {n : ByteArray} (hk : S.P[k]? = some (.cr n p)) : p ∉ S.l2.map (·.2) ++ ptrs (S.P.take k) := by
  have hlt : k < S.P.length := (List.getElem?_eq_some_iff.1 hk).1
  have e1 : S.P[k] = .cr n p := (List.getElem?_eq_some_iff.1 hk).2
  have e2 : S.P = S.P.take k ++ (S.P[k] :: S.P.drop (k + 1)) := by rw [← List.drop_eq_getElem_cons hlt, List.take_append_drop]
  have e3 : ptrs S.P = ptrs (S.P.take k) ++ p :: ptrs (S.P.drop (k + 1)) := by
    conv => lhs; rw [e2]
    unfold ptrs
    rw [List.filterMap_append, List.filterMap_cons, e1]
    rfl
  intro c
  rcases List.mem_append.1 c with q | q
  · obtain ⟨e, he, rfl⟩ := List.mem_map.1 q
    exact h.ap e he (by rw [e3]; simp)
  · have := h.nd
    rw [e3] at this
    exact (List.nodup_append.1 this).2.2 p q p (by simp) rfl
theorem CpJ.next {w wr q w4 w5 w6 : World} {r bc mc k : Nat} {S : DS} {am : Option Nat} {pv pv' : Value} {σ : Nat → Nat} {VB VL : Nat → Value} {c c' : Ch} {o : Obj}
    (h : CpJ w r bc mc S am wr k pv σ VB VL) (hu : S.uq) (hc : S.P[k]? = some c) (hmc : w.heap.size ≤ mc ∧ mc < r) (hbc : bc < r ∧ w.heap.size ≤ bc ∧ bc ≠ mc) (ham : ∀ m, am = some m → m < r ∧ m ≠ bc)
    (hq : Below wr.heap.size wr q) (hl : Ch.like q.heap.size w4 S.F c c') (h4 : Below q.heap.size q w4) (h5 : (w4.alloc o).grownBy w5 pv.ownBlock) (hpd : w5.ownsRow (r + 1) 148 1 pv' (k + 1) (((S.P.take k).map (Ch.mv σ)).map Ch.iface ++ [c'.iface]))
    (h6 : w6 = w5.setCell ⟨bc, 4, none⟩ pv') :
    ∃ σ' VB' VL', CpJ w r bc mc S am w6 (k + 1) pv' σ' VB' VL' := by
  have hq4 : Below wr.heap.size wr w4 := hq.trans (h4.mono hq.size)
  have b45 : But (fun j => pv.ownBlock = some j) w4 w5 := (But.of_below (box_below w4 o) _).trans (But.of_grownBy h5 fun j e => e)
  have b56 : But (fun j => j = bc) w5 w6 := by rw [h6]; exact But.of_grownBy (grown_setCell _ _ _ _) fun j e => by cases e; rfl
  have plo : ∀ j, pv.ownBlock = some j → r + 1 ≤ j := fun j hj => (World.ownsRow.lt h.pd j hj).1
  have b46 : But (fun j => pv.ownBlock = some j ∨ j = bc) w4 w6 := (b45.mono fun j _ e => .inl e).trans (b56.mono fun j _ e => .inr e)
  have pd4 : w4.ownsRow (r + 1) 148 1 pv k (((S.P.take k).map (Ch.mv σ)).map Ch.iface) := row_but h.pd (But.of_below hq4 fun _ => False) (fun _ _ c => c)
  have hlt : k < S.P.length := (List.getElem?_eq_some_iff.1 hc).1
  have htk : S.P.take (k + 1) = S.P.take k ++ [c] := by rw [List.take_succ_eq_append_getElem hlt, (List.getElem?_eq_some_iff.1 hc).2]
  have hpt : ptrs (S.P.take (k + 1)) = ptrs (S.P.take k) ++ c.ptr.toList := by
    rw [htk]; unfold ptrs; rw [List.filterMap_append]; cases hp : c.ptr <;> simp [hp]
  have boxw : w6.heap[bc]? = some (.cells (ccells S mc pv' am) TD (0, 0)) := by
    have q1 : w4.heap[bc]? = some (.cells (ccells S mc pv am) TD (0, 0)) := (hq4.block bc (heap_lt h.box)).trans h.box
    have q2 := b45.at q1 (fun e => by have := plo bc e; omega)
    rw [h6, heap_setCell_same _ _ _ _ _ _ q2]
    rfl
  have loww : Below w.heap.size w w6 := by
    have q1 : Below w.heap.size w w4 := h.low.trans (hq4.mono h.low.size)
    exact ⟨b46.os.trans q1.os, b46.tape.trans q1.tape, b46.output.trans q1.output, Nat.le_trans q1.size b46.size, fun j hj => (b46.block j (Nat.lt_of_lt_of_le hj q1.size) (by
      rintro (e | e)
      · have := plo j e; omega
      · omega)).trans (q1.block j hj)⟩
  have mpw : Mp w6 mc (mvD σ S.l2) := (h.mp.heap (hq4.block mc h.mp.lt)).but b46 (by
    rintro (e | e)
    · have := plo mc e; omega
    · omega)
  have amw : AmN w.heap.size w6 am S.al := (h.am.below hq4).but b46 (fun m e => by
    have := ham m e
    rintro (c | c)
    · have := plo m c; omega
    · omega)
  have pdw : ∀ τ : Nat → Nat, (S.P.take k).map (Ch.mv τ) = (S.P.take k).map (Ch.mv σ) → c' = c.mv τ → w6.ownsRow (r + 1) 148 1 pv' (k + 1) (((S.P.take (k + 1)).map (Ch.mv τ)).map Ch.iface) := fun τ e1 e2 => by
    rw [htk, List.map_append, List.map_append, e1]
    simp only [List.map_cons, List.map_nil]
    rw [← e2]
    refine row_but hpd b56 (fun j hj e => ?_)
    have := (World.ownsRow.lt hpd j hj).1
    omega
  have szw : r < w6.heap.size := by have := b46.size; have := hq4.size; have := h.sz; omega
  have cqw : ∀ {D : Nat → Prop} {τ : Nat → Nat} {VB' VL' : Nat → Value}, Cq (r + 1) w4 S.F D τ VB' VL' → Cq (r + 1) w6 S.F D τ VB' VL' := fun hcq => hcq.but b46 (fun p hp j hj => by
    rintro (e | e)
    · exact (hcq.at_ p hp).noCh pd4 j hj e
    · have := hcq.lo p hp j hj; omega)
  have keep : c.ptr = none → c' = c → ∃ σ' VB' VL', CpJ w r bc mc S am w6 (k + 1) pv' σ' VB' VL' := fun hn e => by
    have hm : c.mv σ = c := by cases c with
      | cr n p => cases hn
      | rn f t => rfl
      | rm n => rfl
    refine ⟨σ, VB, VL, loww, boxw, mpw, amw, ?_, pdw σ rfl (by rw [hm, e]), szw⟩
    rw [hpt, hn]
    simp only [Option.toList_none, List.append_nil]
    exact cqw (h.cq.below hq4)
  cases c with
  | rn f t => exact keep rfl hl
  | rm n => exact keep rfl hl
  | cr n p =>
    obtain ⟨p', vb', vl', rfl, hf⟩ := hl
    have hp := uq_at hu hc
    have hne : ∀ x ∈ S.l2.map (·.2) ++ ptrs (S.P.take k), upd σ p p' x = σ x := fun x hx => upd_ne _ _ (fun e => hp (by rw [← e]; exact hx))
    have e1 : mvD (upd σ p p') S.l2 = mvD σ S.l2 := mvD_congr fun x hx => hne x (List.mem_append_left _ hx)
    have e2 : (S.P.take k).map (Ch.mv (upd σ p p')) = (S.P.take k).map (Ch.mv σ) := mvP_congr fun x hx => hne x (List.mem_append_right _ hx)
    refine ⟨upd σ p p', upd VB p vb', upd VL p vl', loww, boxw, by rw [e1]; exact mpw, amw, ?_, pdw _ e2 (by simp only [Ch.mv]; rw [upd_same]), szw⟩
    refine cqw ((h.cq.below hq).more (by have := hq.size; have := h.sz; omega) hp (fun x hx => ?_) hf h4)
    rw [hpt] at hx
    simp [Ch.ptr] at hx
    rcases hx with q | q | q
    · exact .inr (by simp; exact .inl q)
    · exact .inr (by simp; exact .inr q)
    · exact .inl q
end Go.Proofs.YtjehpijjneghpaaGreat.Dk
namespace Go.Proofs.YtjehpijjneghpaaGreat.Dk
open Go.RowKit Go.Maps Go.Sort Go.Shelf Go.Proofs.YtjehpijjneghpaaGreat.Nm
set_option linter.unusedVariables false
theorem can_mv (σ : Nat → Nat) {l : Dr} {c : Ch} (h : c.can l) : (c.mv σ).can (mvD σ l) := by
  cases c with
  | cr n p => trivial
  | rm n => trivial
  | rn f t => show (get (mvD σ l) f.data.toList).isSome = true; rw [get_mv, Option.isSome_map]; exact h
theorem cans_mv (σ : Nat → Nat) : ∀ {P : List Ch} {l : Dr}, Cans l P → Cans (mvD σ l) (P.map (Ch.mv σ)) := by
  intro P
  induction P with
  | nil => intro l h; exact h
  | cons c r ih =>
    intro l h
    refine ⟨can_mv σ h.1, ?_⟩
    rw [run_mv]
    exact ih h.2
theorem ok_mv (σ : Nat → Nat) {c : Ch} (h : c.ok) : (c.mv σ).ok := by cases c <;> exact h
def bk (ps : List Nat) (σ : Nat → Nat) (x : Nat) : Nat := (ps.find? fun p => σ p == x).getD x
theorem bk_mv {ps : List Nat} {σ : Nat → Nat} (hi : ∀ p ∈ ps, ∀ q ∈ ps, σ p = σ q → p = q) {p : Nat} (hp : p ∈ ps) : bk ps σ (σ p) = p := by
  unfold bk
  cases hf : ps.find? fun q => σ q == σ p with
  | none => have := List.find?_eq_none.1 hf p hp; simp at this
  | some q =>
    have h1 := List.mem_of_find?_eq_some hf
    have h2 := List.find?_some hf
    exact hi q h1 p hp (by simpa using h2)
def DS.moved (S : DS) (σ : Nat → Nat) : DS := { S with l2 := mvD σ S.l2, P := S.P.map (Ch.mv σ), F := fun x => S.F (bk S.ps σ x) }
theorem moved_alike {S : DS} {σ : Nat → Nat} (hi : ∀ p ∈ S.ps, ∀ q ∈ S.ps, σ p = σ q → p = q) : Alike σ S (S.moved σ) :=
  ⟨rfl, rfl, rfl, rfl, rfl, rfl, rfl, rfl, rfl, rfl, rfl, rfl, rfl, rfl, fun p hp => by show S.F (bk S.ps σ (σ p)) = _; rw [bk_mv hi hp], hi⟩
theorem moved_ok {S : DS} {σ : Nat → Nat} (hi : ∀ p ∈ S.ps, ∀ q ∈ S.ps, σ p = σ q → p = q) (h : S.ok) : (S.moved σ).ok := by
  have ha := moved_alike hi
  refine ⟨h.most, fun x hx => ?_, ?_, h.calm, h.by8⟩
  · rw [ha.ps] at hx
    obtain ⟨p, hp, rfl⟩ := List.mem_map.1 hx
    rw [ha.F p hp]
    exact h.sz p hp
  · show ((((mvD σ S.l2).length + (S.P.map (Ch.mv σ)).length : Nat)) : Int) ≤ S.c7
    unfold mvD
    rw [List.length_map, List.length_map]
    exact h.cnt
theorem CpJ.disk {w wr w7 w8 : World} {r b bc mc : Nat} {S : DS} {O : Nat → Prop} {f g : Nat} {pd : Value} {am : Option Nat} {VB0 VL0 : Nat → Value} {am' : Option Nat} {pv : Value} {σ : Nat → Nat} {VB VL : Nat → Value}
    (H : Dsk w b S O f g pd am VB0 VL0) (h : CpJ w r bc mc S am' wr S.P.length pv σ VB VL) (hr : w.heap.size ≤ r) (hmc : w.heap.size ≤ mc ∧ mc < r) (hbc : bc < r ∧ w.heap.size ≤ bc ∧ bc ≠ mc) (ham : ∀ m, am' = some m → m < r ∧ m ≠ mc ∧ m ≠ bc)
    (h7 : Below wr.heap.size wr w7) (m7 : Mp w7 wr.heap.size (mvD σ S.dir)) (h8 : w8 = w7.setCell ⟨bc, 2, none⟩ (.map (some wr.heap.size))) :
    ∃ S' O', Alike σ S S' ∧ DskE w8 bc S' O' ∧ (∀ k, O' k → w.heap.size ≤ k) ∧ Below w.heap.size w w8 := by
  have hcq := h.cq
  rw [List.take_length] at hcq
  have hpd := h.pd
  rw [List.take_length] at hpd
  have hps : ∀ p, p ∈ S.ps ↔ p ∈ S.l2.map (·.2) ++ ptrs S.P := fun p => Iff.rfl
  have hi : ∀ p ∈ S.ps, ∀ q ∈ S.ps, σ p = σ q → p = q := fun p hp q hq e => Classical.byContradiction fun c => hcq.ap p hp q hq c (σ p) (.inl rfl) (.inl e)
  have ha := moved_alike hi
  have b78 : But (fun k => k = bc) w7 w8 := by rw [h8]; exact But.of_grownBy (grown_setCell _ _ _ _) fun j e => by cases e; rfl
  have b8 : But (fun k => k = bc) wr w8 := (But.of_below h7 _).trans b78
  have low8 : Below w.heap.size w w8 := Mp.turned h.low b8 hbc.2.1
  have box8 : w8.heap[bc]? = some (.cells (dcells ((S.moved σ).dc wr.heap.size mc pv am')) TD (0, 0)) := by
    have q1 : w7.heap[bc]? = some (.cells (ccells S mc pv am') TD (0, 0)) := (h7.block bc (heap_lt h.box)).trans h.box
    rw [h8, heap_setCell_same _ _ _ _ _ _ q1]
    rfl
  have hsz := h.sz
  have hmlt := h.mp.lt
  have plo : ∀ j, pv.ownBlock = some j → r + 1 ≤ j ∧ j < wr.heap.size := fun j hj => World.ownsRow.lt hpd j hj
  have pd8 : w8.ownsRow (r + 1) 148 1 pv S.P.length ((S.P.map (Ch.mv σ)).map Ch.iface) := row_but hpd b8 (fun j hj e => by have := plo j hj; omega)
  have cq8 : Cq (r + 1) w8 S.F (fun p => p ∈ S.l2.map (·.2) ++ ptrs S.P) σ VB VL := hcq.but b8 (fun p hp k hk e => by have := hcq.lo p hp k hk; omega)
  have am8 := h.am.but b8 (fun m e c => (ham m e).2.2 c)
  have hdc : Dk w8 bc ((S.moved σ).dc wr.heap.size mc pv am') wr.heap.size mc (S.moved σ).dir (S.moved σ).l2 (S.moved σ).P (S.moved σ).al := by
    refine ⟨box8, rfl, rfl, ?_, ?_, by omega, ?_, ?_, ?_, rfl, cans_mv σ H.dk.can, ?_, H.dk.c0, H.dk.c1⟩
    · rw [ha.dir]; exact m7.but b78 (by have := h.box; have := heap_lt h.box; omega)
    · exact h.mp.but b8 (fun e => hbc.2.2 e.symm)
    · show w8.ownsRow 0 148 1 pv (S.P.map (Ch.mv σ)).length _
      rw [List.length_map]
      exact ownsRow_base_a pd8 (Nat.zero_le _)
    · intro m e
      have q := ham m e
      rcases am8 with ⟨q1, _⟩ | ⟨m', q1, _, q3⟩
      · have : am' = some m := e
        rw [q1] at this; cases this
      · have e' : am' = some m := e
        rw [q1] at e'
        cases e'
        exact ⟨q3, by omega, q.2.1⟩
    · intro e
      rcases am8 with ⟨_, q2⟩ | ⟨m', q1, _⟩
      · exact q2
      · have e' : am' = none := e
        rw [q1] at e'; cases e'
    · intro c hc
      obtain ⟨c0, h0, rfl⟩ := List.mem_map.1 hc
      exact ok_mv σ (H.dk.ok c0 h0)
  have hO : ∀ k, Own bc ((S.moved σ).dc wr.heap.size mc pv am') k → k = bc ∨ k = wr.heap.size ∨ k = mc ∨ pv.ownBlock = some k ∨ am' = some k := fun k hk => by
    rcases hk with e | e | e | e | e
    · exact .inl e
    · exact .inr (.inl (by cases e; rfl))
    · exact .inr (.inr (.inl (by cases e; rfl)))
    · exact .inr (.inr (.inr (.inl e)))
    · exact .inr (.inr (.inr (.inr e)))
  have hF : ∀ x ∈ (S.moved σ).ps, ∃ p, p ∈ S.l2.map (·.2) ++ ptrs S.P ∧ x = σ p ∧ bk S.ps σ x = p := fun x hx => by
    rw [ha.ps] at hx
    obtain ⟨p, hp, rfl⟩ := List.mem_map.1 hx
    exact ⟨p, hp, rfl, bk_mv hi hp⟩
  refine ⟨S.moved σ, fun k => Own bc ((S.moved σ).dc wr.heap.size mc pv am') k ∨ ∃ x ∈ (S.moved σ).ps, FOwn x (VB (bk S.ps σ x)) (VL (bk S.ps σ x)) k, ha,
    ⟨wr.heap.size, mc, pv, am', fun x => VB (bk S.ps σ x), fun x => VL (bk S.ps σ x), hdc, ⟨?_, ?_, ?_⟩, fun k hk => .inl hk, fun x hx k hk => .inr ⟨x, hx, hk⟩, ?_, moved_ok hi H.ok⟩, ?_, low8⟩
  · intro x hx
    obtain ⟨p, hp, rfl, e⟩ := hF x hx
    show FlAt w8 (σ p) (S.F (bk S.ps σ (σ p))) (VB (bk S.ps σ (σ p))) (VL (bk S.ps σ (σ p)))
    rw [e]
    exact cq8.at_ p hp
  · intro x hx y hy hxy k hk
    obtain ⟨p, hp, rfl, e⟩ := hF x hx
    obtain ⟨q, hq, rfl, e'⟩ := hF y hy
    simp only [e] at hk
    simp only [e']
    exact cq8.ap p hp q hq (fun c => hxy (by rw [c])) k hk
  · intro x hx k hk c
    obtain ⟨p, hp, rfl, e⟩ := hF x hx
    simp only [e] at hk
    have q1 := cq8.lo p hp k hk
    have q2 := (hcq.at_ p hp).lt k hk
    rcases hO k c with e | e | e | e | e
    · omega
    · omega
    · omega
    · exact (cq8.at_ p hp).noCh pd8 k hk e
    · have := ham k e; omega
  · intro k hk
    have z := b8.size
    have z7 := Nat.lt_of_lt_of_le m7.lt b78.size
    have zb := heap_lt h.box
    rcases hk with c | ⟨x, hx, hk⟩
    · rcases hO k c with e | e | e | e | e
      · omega
      · omega
      · omega
      · have := plo k e; omega
      · have := ham k e; omega
    · obtain ⟨p, hp, rfl, e⟩ := hF x hx
      simp only [e] at hk
      exact cq8.lt hp k hk
  · intro k hk
    have hlo := h.low.size
    rcases hk with c | ⟨x, hx, hk⟩
    · rcases hO k c with e | e | e | e | e
      · omega
      · omega
      · omega
      · have := plo k e; omega
      · exact (h.am.lt e).1
    · obtain ⟨p, hp, rfl, e⟩ := hF x hx
      simp only [e] at hk
      have := cq8.lo p hp k hk
      omega
end Go.Proofs.YtjehpijjneghpaaGreat.Dk
