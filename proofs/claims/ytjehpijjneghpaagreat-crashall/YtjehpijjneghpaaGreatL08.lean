/-
  The document's disk as one of the program's kind: loss of power, faults, what is read.
-/
import Derived.Test.YtjehpijjneghpaaGreatL07
import Derived.Test.YtjehpijjneghpaaGreatL04
import Derived.Test.YtjehpijjneghpaaGreatL01
import Derived.Test.YtjehpijjneghpaaGreatL03
set_option maxRecDepth 100000
set_option maxHeartbeats 40000000
set_option linter.unusedVariables false
namespace Go.Proofs.YtjehpijjneghpaaGreat.Re
open Go.RowKit Go.Maps Go.Sort Go.Shelf Go.Proofs.YtjehpijjneghpaaGreat.Nm Go.Proofs.YtjehpijjneghpaaGreat.Dk
variable {R : RB} {al : Ar}
theorem nms_rise {l : Dr} (h : Rise l) : nms l = l.map (·.1) := by
 unfold nms
 refine List.mergeSort_of_pairwise ?_
 rw [List.pairwise_map]
 refine h.imp fun {a b} hab => ?_
 rw [before_lt] at hab
 simp only [decide_eq_true_eq] at hab ⊢
 exact List.le_of_lt hab
theorem get_at {l : Dr} (h : Rise l) {k : Nat} (hk : k < l.length) : Dk.get l l[k].1 = some l[k].2 := get_of_mem (rise_keys h) (List.getElem_mem hk)
theorem crR_same (L : Dr) (ks : List Kep) (R : RB) : ∀ k, (crR L ks k R).old = R.old ∧ (crR L ks k R).pe = R.pe ∧ (crR L ks k R).most = R.most ∧ (crR L ks k R).c7 = R.c7 ∧ (crR L ks k R).c8 = R.c8 ∧ (crR L ks k R).si = R.si ∧ (crR L ks k R).c0 = R.c0 ∧ (crR L ks k R).c1 = R.c1 ∧ (crR L ks k R).c2 = R.c2 ∧ (crR L ks k R).c3 = R.c3 ∧ (crR L ks k R).c4 = R.c4 ∧ (crR L ks k R).c5 = R.c5 ∧ (crR L ks k R).c6 = R.c6
 | 0 => ⟨rfl, rfl, rfl, rfl, rfl, rfl, rfl, rfl, rfl, rfl, rfl, rfl, rfl⟩
 | k + 1 => crR_same L ks R k
theorem crD_fl (f : FD) (k : Kep) : flD (crD f k) = crFl (flD f) k := by
 unfold crD crFl
 show Fl.mk _ _ _ = Fl.mk _ _ _
 simp only [Fl.mk.injEq, true_and]
 omega
theorem crR_F {L : Dr} (hr : Rise L) (hg : ∀ e ∈ L, e.2 < R.F.length) (ks : List Kep) : ∀ k, k ≤ L.length → crashL L ((L.map (·.1)).take k) ks (fun p => flD (R.fOf p)) = fun p => flD ((crR L ks k R).fOf p)
 | 0, _ => rfl
 | k + 1, h => by
  have hk : k < L.length := by omega
  have hk' : k < (L.map (·.1)).length := by rw [List.length_map]; exact hk
  rw [List.take_succ_eq_append_getElem hk', crashL_snoc, crR_F hr hg ks k (by omega)]
  have e1 : (L.map (·.1))[k] = L[k].1 := List.getElem_map _
  have e2 : ((L.map (·.1)).take k).length = k := by rw [List.length_take]; omega
  rw [e1, e2]
  unfold crash1
  rw [get_at hr hk]
  have hLk : ((L[k]?).map (·.2)).getD 0 = L[k].2 := by rw [List.getElem?_eq_getElem hk]; rfl
  have hp : L[k].2 < (crR L ks k R).F.length := by rw [crR_len]; exact hg _ (List.getElem_mem hk)
  have e3 : crR L ks (k + 1) R = (crR L ks k R).one L[k].2 (crD ((crR L ks k R).fOf L[k].2) (ks.getD k (0, []))) := by
   show (crR L ks k R).one (((L[k]?).map (·.2)).getD 0) (crD ((crR L ks k R).fOf (((L[k]?).map (·.2)).getD 0)) (ks.getD k (0, []))) = _
   rw [hLk]
  funext q
  rw [e3, fOf_one _ hp]
  show upd (fun p => flD ((crR L ks k R).fOf p)) L[k].2 (crFl (flD ((crR L ks k R).fOf L[k].2)) (ks.getD k (0, []))) q = _
  unfold upd
  by_cases e : q = L[k].2
  ·rw [if_pos e, if_pos e, crD_fl]
  ·rw [if_neg e, if_neg e]
theorem RI.frontR (I : RI R) (n : Int) : Rise (R.front n) := rise_runR I.rise
theorem ds_crash (I : RI R) (al : Ar) (d : Int) (ks : List Kep) : (R.ds al).crash d ks = (R.crash d ks).ds [] := by
 obtain ⟨h1, h2, h3, h4, h5, h6, h7, h8, h9, h10, h11, h12, h13⟩ := crR_same (R.front d) ks R (R.front d).length
 have hF := crR_F (I.frontR d) (I.front d) ks (R.front d).length (Nat.le_refl _)
 rw [List.take_of_length_le (by rw [List.length_map]; exact Nat.le_refl _)] at hF
 unfold DS.crash
 rw [ds_front I, nms_rise (I.frontR d)]
 show DS.mk _ _ _ _ _ _ _ _ _ _ _ _ _ _ (crashL (R.front d) ((R.front d).map (·.1)) ks (fun p => flD (R.fOf p))) = _
 rw [hF]
 unfold RB.crash RB.ds RB.reset
 simp only [h3, h4, h5, h7, h8, h9, h10, h11, h12, h13]
 rfl
theorem crR_fi {L : Dr} (ks : List Kep) (I : RI R) : ∀ k, ∀ f ∈ (crR L ks k R).F, f.2.1.length ≤ f.1.length ∧ f.1.length ≤ 16777216
 | 0 => I.fi
 | k + 1 => fun f hf => by
  have ih := crR_fi (L := L) ks I k
  rcases List.mem_or_eq_of_mem_set hf with q | q
  ·exact ih f q
  ·subst q
   refine ⟨Nat.le_refl _, ?_⟩
   show (crF _ _ _).length ≤ _
   unfold RB.fOf
   cases hx : (crR L ks k R).F[(L[k]?.map (·.2)).getD 0]? with
   | none => simp [flD, crF, svd, jnk]
   | some g =>
    have hg := ih g (List.mem_of_getElem? hx)
    have := crF_len (flD g) (ks.getD k (0, [])).1 (ks.getD k (0, [])).2 hg.1
    have h2 : (flD g).by_.length = g.1.length := rfl
    simp only [Option.getD_some]
    omega
theorem ri_crash (I : RI R) (d : Int) (ks : List Kep) : RI (R.crash d ks) := by
 obtain ⟨h1, h2, h3, h4, h5, h6, h7, h8, h9, h10, h11, h12, h13⟩ := crR_same (R.front d) ks R (R.front d).length
 have hl := crR_len (R.front d) ks R (R.front d).length
 have hfl := front_len R d
 have hok : (R.crash d ks).ok := by
  obtain ⟨l0, l1, l2, l3, l4, l5, l6, l7, l8⟩ := I.ok.lo
  obtain ⟨m0, m1, m2, m3, m4, m5, m6, m8⟩ := I.ok.hi
  refine ⟨?_, ?_, fun f hf => (by cases hf)⟩
  ·unfold RB.crash RB.reset
   simp only [h4, h6, h7, h8, h9, h10, h11, h12, h13]
   exact ⟨l0, l1, l2, l3, l4, l5, l6, l7, l8⟩
  ·unfold RB.crash RB.reset
   simp only [h4, h6, h7, h8, h9, h10, h11, h12, h13]
   exact ⟨m0, m1, m2, m3, m4, m5, m6, m8⟩
 have hcn := I.cnt
 refine ⟨hok, ?_, rfl, I.frontR d, trivial, ?_, fun c hc => (by cases hc), crR_fi ks I _, ?_, ?_, ?_, fun f hf => (by cases hf), fun k => ?_⟩
 ·show 0 ≤ (crR (R.front d) ks (R.front d).length R).most ∧ (crR (R.front d) ks (R.front d).length R).most ≤ 16777216
  rw [h3]; exact I.most
 ·show ∀ e ∈ R.front d, e.2 < (crR (R.front d) ks (R.front d).length R).F.length
  rw [hl]; exact I.front d
 ·show (((R.front d).length + ([] : List RC).length : Nat) : Int) ≤ (crR (R.front d) ks (R.front d).length R).c7
  rw [h4]
  simp only [List.length_nil]
  omega
 ·show ((crR (R.front d) ks (R.front d).length R).F.length : Int) ≤ (crR (R.front d) ks (R.front d).length R).c7
  rw [h4, hl]; exact I.fl
 ·show 0 ≤ (crR (R.front d) ks (R.front d).length R).c8 ∧ (crR (R.front d) ks (R.front d).length R).c8 ≤ 16777216 * (crR (R.front d) ks (R.front d).length R).c7
  rw [h4, h5]; exact I.c8
 ·show (runR (R.front d) (([] : List RC).take k)).length ≤ 256
  rw [runR_nil]
  exact I.few d.toNat
theorem arm_none (R : RB) (d : Int) (ks : List Kep) : ArmR (R.crash d ks) [] := fun n hn => rfl
theorem snocI {α : Type} {P : List α → Prop} (A : List α) (nil : P []) (snoc : ∀ A f, P A → P (A ++ [f])) : P A := by
 rw [← List.reverse_reverse A]
 induction A.reverse with
 | nil => exact nil
 | cons x r ih => rw [List.reverse_cons]; exact snoc _ _ ih
theorem mayL_snoc (A : List Ft) (f : Ft) : MayL (A ++ [f]) (A ++ [f]).length ↔ MayL A A.length ∧ mayF f = true ∧ ∀ g ∈ A, g.1 ≠ f.1 := by
 constructor
 ·intro h
  refine ⟨fun i hi _ => ?_, ?_, ?_⟩
  ·have := h i (by rw [List.length_append]; omega) (by rw [List.length_append]; omega)
   rw [List.getElem_append_left hi] at this
   refine ⟨this.1, fun k hk => ?_⟩
   have q := this.2 k hk
   rw [List.getElem_append_left (by omega)] at q
   exact q
  ·have := (h A.length (by rw [List.length_append]; simp) (by rw [List.length_append]; simp)).1
   simpa using this
  ·intro g hg
   obtain ⟨k, hk, rfl⟩ := List.getElem_of_mem hg
   have := (h A.length (by rw [List.length_append]; simp) (by rw [List.length_append]; simp)).2 k hk
   rw [List.getElem_append_left hk] at this
   simpa using this
 ·rintro ⟨h1, h2, h3⟩ i hi _
  by_cases q : i < A.length
  ·have := h1 i q q
   rw [List.getElem_append_left q]
   refine ⟨this.1, fun k hk => ?_⟩
   rw [List.getElem_append_left (by omega)]
   exact this.2 k hk
  ·have hie : i = A.length := by rw [List.length_append] at hi; simp at hi; omega
   subst hie
   refine ⟨by simpa using h2, fun k hk => ?_⟩
   rw [List.getElem_append_left hk]
   have := h3 _ (List.getElem_mem hk)
   simpa using this
theorem find_none {A : List Ft} {n : Int} : (A.find? fun f => f.1 == n) = none ↔ ∀ g ∈ A, g.1 ≠ n := by simp
theorem armL_spec (c : Int) (A : List Ft) : (MayL A A.length → ∃ l, armL c A [] = some l ∧ ∀ n : Int, aget l n = A.find? fun f => f.1 == n - c) ∧ (¬ MayL A A.length → armL c A [] = none) := by
 induction A using snocI with
 | nil => exact ⟨fun _ => ⟨[], rfl, fun n => rfl⟩, fun h => absurd (fun i hi => by simp at hi) h⟩
 | snoc A f ih =>
  rw [mayL_snoc, armL_snoc]
  constructor
  ·rintro ⟨h1, h2, h3⟩
   obtain ⟨l, e, hl⟩ := ih.1 h1
   rw [e]
   have hn : aget l (c + f.1) = none := by rw [hl, show c + f.1 - c = f.1 by omega]; exact find_none.2 h3
   refine ⟨aput l (c + f.1) f, by simp only; rw [if_pos ⟨h2, hn⟩], fun n => ?_⟩
   rw [aget_aput, hl, List.find?_append]
   by_cases q : c + f.1 = n
   ·have h4 : (A.find? fun g => g.1 == n - c) = none := find_none.2 (fun g hg => by have := h3 g hg; omega)
    rw [if_pos q, h4]
    have : (f.1 == n - c) = true := by simp; omega
    simp [this]
   ·rw [if_neg q]
    have : (f.1 == n - c) = false := by simp; omega
    simp [this]
  ·intro h
   by_cases h1 : MayL A A.length
   ·obtain ⟨l, e, hl⟩ := ih.1 h1
    rw [e]
    simp only
    rw [if_neg]
    rintro ⟨h2, h3⟩
    refine h ⟨h1, h2, ?_⟩
    rw [hl, show c + f.1 - c = f.1 by omega] at h3
    exact find_none.1 h3
   ·rw [ih.2 h1]
open Classical in
noncomputable def RB.arm (R : RB) (fs : List Ft) : RB × Int := if fs.length ≤ 64 ∧ MayL fs fs.length then (R.armed fs, 0) else (R, 1)
theorem ri_arm (I : RI R) (fs : List Ft) (h4 : ∀ t ∈ fs, t.2.1 ≠ 4) : RI (R.arm fs).1 := by
 unfold RB.arm
 split
 ·rename_i h
  obtain ⟨l0, l1, l2, l3, l4, l5, l6, l7, l8⟩ := I.ok.lo
  obtain ⟨m0, m1, m2, m3, m4, m5, m6, m8⟩ := I.ok.hi
  refine ⟨⟨⟨l0, l1, l2, l3, l4, l5, l6, l7, Int.le_refl _⟩, ⟨m0, m1, m2, m3, m4, m5, m6, l7⟩, h4⟩, I.most, I.dir, I.rise, I.chs, I.old, I.pe, I.fi, I.cnt, I.fl, I.c8, fun f hf => ?_, I.few⟩
  have hf : f ∈ fs := hf
  obtain ⟨i, hi, rfl⟩ := List.getElem_of_mem hf
  have h1 := (mayF_iff _).1 (h.2 i hi hi).1
  have h2 := h4 _ hf
  omega
 ·exact I
theorem ds_arm (I : RI R) (A : ArmR R al) (fs : List Ft) : ∃ al', (R.ds al).arm fs = ((R.arm fs).1.ds al', (R.arm fs).2) ∧ ArmR (R.arm fs).1 al' := by
 have hs := armL_spec R.c7 fs
 have ec : (R.ds al).c7 = R.c7 := rfl
 unfold DS.arm
 rw [ec]
 by_cases h1 : fs.length ≤ 64
 ·rw [if_neg (by omega)]
  by_cases h2 : MayL fs fs.length
  ·obtain ⟨l, e, hl⟩ := hs.1 h2
   have e1 : R.arm fs = (R.armed fs, 0) := by unfold RB.arm; rw [if_pos ⟨h1, h2⟩]
   rw [e, e1]
   refine ⟨l, rfl, fun n hn => ?_⟩
   show aget l n = fs.find? fun f => f.1 == n - R.c7 + 0
   rw [hl, Int.add_zero]
  ·have e1 : R.arm fs = (R, 1) := by unfold RB.arm; rw [if_neg (fun c => h2 c.2)]
   rw [hs.2 h2, e1]
   exact ⟨al, rfl, A⟩
 ·have e1 : R.arm fs = (R, 1) := by unfold RB.arm; rw [if_neg (fun c => h1 c.1)]
  rw [if_pos (by omega), e1]
  exact ⟨al, rfl, A⟩
theorem ds_size (I : RI R) (al : Ar) (s : ByteArray) : (R.ds al).size s = R.size s := by
 unfold DS.size RB.size
 rw [ds_find I]
 by_cases h0 : refN R.down R.dir s true = 0
 ·rw [if_pos h0, if_neg (by simp [h0]), lenOf_fOf]; rfl
 ·rw [if_neg h0, if_pos h0]
def RB.read (R : RB) (s : ByteArray) (o n : Int) : List UInt8 × Int :=
 if refN R.down R.dir s true ≠ 0 then ([], refN R.down R.dir s true)
 else if 0 ≤ o ∧ 0 ≤ n ∧ o + n ≤ (R.lenOf (R.pOf s) : Int) then (((R.byOf (R.pOf s)).drop o.toNat).take n.toNat, 0) else ([], 8)
theorem byOf_fOf (R : RB) (p : Nat) : R.byOf p = (R.fOf p).1 := by unfold RB.byOf RB.fOf; cases R.F[p]? <;> rfl
theorem ds_read (I : RI R) (al : Ar) (s : ByteArray) (o n : Int) : (R.ds al).read s o n = R.read s o n := by
 unfold DS.read RB.read
 rw [ds_find I]
 by_cases h0 : refN R.down R.dir s true = 0
 ·rw [if_pos h0, if_neg (by simp [h0]), lenOf_fOf, byOf_fOf]
  show (if 0 ≤ o ∧ o ≤ ((R.fOf (R.pOf s)).1.length : Int) ∧ 0 ≤ n ∧ n ≤ ((R.fOf (R.pOf s)).1.length : Int) - o then _ else _) = _
  by_cases h1 : 0 ≤ o ∧ 0 ≤ n ∧ o + n ≤ ((R.fOf (R.pOf s)).1.length : Int)
  ·rw [if_pos h1, if_pos (by omega)]; rfl
  ·rw [if_neg h1, if_neg (by omega)]
 ·rw [if_neg h0, if_pos h0]
theorem files_at {l : Dr} (h : Rise l) (G : Nat → List UInt8) : filesOf G l = l.map fun e => (e.1, G e.2) := by
 unfold filesOf
 rw [nms_rise h, List.map_map]
 refine List.map_congr_left fun e he => ?_
 show (e.1, flOf G l e.1) = _
 unfold flOf
 rw [get_of_mem (rise_keys h) he]
theorem ds_files (I : RI R) (al : Ar) : (R.ds al).files = R.all := by
 unfold DS.files
 rw [ds_dir I, files_at I.dirR]
 rfl
theorem ds_lasts (I : RI R) (al : Ar) : (R.ds al).lasts = R.lasts := by
 unfold DS.lasts
 show filesOf _ R.old = _
 rw [files_at I.rise]
 rfl
theorem tlOf_fOf (R : RB) (p : Nat) : R.tlOf p = (R.fOf p).1.length - (R.fOf p).2.1.length := by unfold RB.tlOf RB.fOf; cases R.F[p]? <;> rfl
theorem ds_tails (I : RI R) (al : Ar) (n : Int) : (R.ds al).tails n = R.tails n := by
 unfold DS.tails RB.tails
 rw [ds_front I, nms_rise (I.frontR n), List.map_map]
 refine List.map_congr_left fun e he => ?_
 show (e.1, tlOf (R.ds al).F (R.front n) e.1) = _
 unfold tlOf
 rw [get_of_mem (rise_keys (I.frontR n)) he, tlOf_fOf]
 rfl
theorem ri_new (most : Int) (h : 0 ≤ most ∧ most ≤ 16777216) : RI (RB.new most) := by
 refine ⟨⟨by simp [RB.new], by simp [RB.new], fun f hf => (by cases hf)⟩, h, rfl, List.Pairwise.nil, trivial, fun e he => (by cases he), fun c hc => (by cases hc), fun f hf => (by cases hf), by simp [RB.new], by simp [RB.new], by simp [RB.new], fun f hf => (by cases hf), fun k => ?_⟩
 show (runR [] (([] : List RC).take k)).length ≤ 256
 rw [runR_nil]
 exact Nat.zero_le _
structure Rel (S : DS) (R : RB) : Prop where
 ri : RI R
 arm : ArmR R S.al
 uq : S.uq
 like : ∃ σ, Dk.Alike σ S (R.ds S.al)
theorem rel_new (most : Int) (h : 0 ≤ most ∧ most ≤ 16777216) : Rel (DS.new most) (RB.new most) := by
 refine ⟨ri_new most h, fun n hn => rfl, ⟨fun e he => (by cases he), fun e he => (by cases he), by simp [ptrs, DS.new]⟩, id, ?_⟩
 refine ⟨rfl, rfl, rfl, rfl, rfl, rfl, rfl, rfl, rfl, rfl, rfl, rfl, rfl, rfl, fun p hp => (by simp [DS.ps, DS.new] at hp), fun p hp => (by simp [DS.ps, DS.new] at hp)⟩
theorem Rel.of {S : DS} {τ : Nat → Nat} (I : RI R) (A : ArmR R al) (u : S.uq) (L : Dk.Alike τ S (R.ds al)) : Rel S R := by
 have e : al = S.al := L.al
 subst e
 exact ⟨I, A, u, τ, L⟩
variable {S : DS}
theorem Rel.create (h : Rel S R) (s : ByteArray) {p : Nat} (hp : p ∉ S.ps) : Rel (S.create s p).1 (R.create s).1 ∧ (S.create s p).2 = (R.create s).2 := by
 obtain ⟨σ, L⟩ := h.like
 obtain ⟨al', e, A⟩ := ds_create h.ri h.arm s
 obtain ⟨⟨τ, L2⟩, e2⟩ := L.create s hp (p' := R.F.length) (fun c => Nat.lt_irrefl _ (ds_ps h.ri S.al _ c))
 rw [e] at L2 e2
 exact ⟨Rel.of (ri_create h.ri s) A (uq_create h.uq s p hp) L2, e2.symm⟩
theorem Rel.remove (h : Rel S R) (s : ByteArray) : Rel (S.remove s).1 (R.remove s).1 ∧ (S.remove s).2 = (R.remove s).2 := by
 obtain ⟨σ, L⟩ := h.like
 obtain ⟨al', e, A⟩ := ds_remove h.ri h.arm s
 obtain ⟨L2, e2⟩ := L.remove s
 rw [e] at L2 e2
 exact ⟨Rel.of (ri_remove h.ri s) A (uq_remove h.uq s) L2, e2.symm⟩
theorem Rel.rename (h : Rel S R) (f t : ByteArray) : Rel (S.rename f t).1 (R.rename f t).1 ∧ (S.rename f t).2 = (R.rename f t).2 := by
 obtain ⟨σ, L⟩ := h.like
 obtain ⟨al', e, A⟩ := ds_rename h.ri h.arm f t
 obtain ⟨L2, e2⟩ := L.rename f t
 rw [e] at L2 e2
 exact ⟨Rel.of (ri_rename h.ri f t) A (uq_rename h.uq f t) L2, e2.symm⟩
theorem Rel.syncDir (h : Rel S R) : Rel S.syncDir.1 R.syncDir.1 ∧ S.syncDir.2 = R.syncDir.2 := by
 obtain ⟨σ, L⟩ := h.like
 obtain ⟨al', e, A⟩ := ds_syncDir h.ri h.arm
 obtain ⟨L2, e2⟩ := L.syncDir
 rw [e] at L2 e2
 exact ⟨Rel.of (ri_syncDir h.ri) A (uq_syncDir h.uq) L2, e2.symm⟩
theorem Rel.append (h : Rel S R) (s : ByteArray) (D : List UInt8) : Rel (S.append s D).1 (R.append s D).1 ∧ (S.append s D).2 = (R.append s D).2 := by
 obtain ⟨σ, L⟩ := h.like
 obtain ⟨al', e, A⟩ := ds_append h.ri h.arm s D
 obtain ⟨L2, e2⟩ := L.append s D
 rw [e] at L2 e2
 exact ⟨Rel.of (ri_append h.ri s D) A (uq_append h.uq s D) L2, e2.symm⟩
theorem Rel.sync (h : Rel S R) (s : ByteArray) : Rel (S.sync s).1 (R.sync s).1 ∧ (S.sync s).2 = (R.sync s).2 := by
 obtain ⟨σ, L⟩ := h.like
 obtain ⟨al', e, A⟩ := ds_sync h.ri h.arm s
 obtain ⟨L2, e2⟩ := L.sync s
 rw [e] at L2 e2
 exact ⟨Rel.of (ri_sync h.ri s) A (uq_sync h.uq s) L2, e2.symm⟩
theorem Rel.cut (h : Rel S R) (s : ByteArray) (n : Int) : Rel (S.cut s n).1 (R.cut s n).1 ∧ (S.cut s n).2 = (R.cut s n).2 := by
 obtain ⟨σ, L⟩ := h.like
 obtain ⟨al', e, A⟩ := ds_cut h.ri h.arm s n
 obtain ⟨L2, e2⟩ := L.cut s n
 rw [e] at L2 e2
 exact ⟨Rel.of (ri_cut h.ri s n) A (uq_cut h.uq s n) L2, e2.symm⟩
theorem Rel.crash (h : Rel S R) (d : Int) (ks : List Kep) : Rel (S.crash d ks) (R.crash d ks) := by
 obtain ⟨σ, L⟩ := h.like
 have L2 := L.crash d ks
 rw [ds_crash h.ri] at L2
 exact Rel.of (ri_crash h.ri d ks) (arm_none R d ks) (uq_crash h.uq d ks) L2
theorem Alike.armed {σ : Nat → Nat} {S' : DS} (h : Dk.Alike σ S S') (fs : List Ft) : Dk.Alike σ (S.arm fs).1 (S'.arm fs).1 ∧ (S'.arm fs).2 = (S.arm fs).2 := by
 unfold DS.arm
 rw [h.c7]
 by_cases h1 : 64 < fs.length
 ·rw [if_pos h1, if_pos h1]; exact ⟨h, rfl⟩
 ·rw [if_neg h1, if_neg h1]
  cases armL S.c7 fs [] with
  | none => exact ⟨h, rfl⟩
  | some l => exact ⟨⟨h.most, h.up, rfl, h.c0, h.c1, h.c2, h.c3, h.c4, h.c5, h.c6, rfl, h.c8, h.l2, h.P, h.F, h.inj⟩, rfl⟩
theorem uq_arm (h : S.uq) (fs : List Ft) : (S.arm fs).1.uq := by
 unfold DS.arm
 split
 ·exact h
 ·split
  ·exact h
  ·exact h
theorem Rel.armed (h : Rel S R) (fs : List Ft) (h4 : ∀ t ∈ fs, t.2.1 ≠ 4) : Rel (S.arm fs).1 (R.arm fs).1 ∧ (S.arm fs).2 = (R.arm fs).2 := by
 obtain ⟨σ, L⟩ := h.like
 obtain ⟨al', e, A⟩ := ds_arm h.ri h.arm fs
 obtain ⟨L2, e2⟩ := Alike.armed L fs
 rw [e] at L2 e2
 exact ⟨Rel.of (ri_arm h.ri fs h4) A (uq_arm h.uq fs) L2, e2.symm⟩
theorem Alike.back {σ τ : Nat → Nat} {S' S'' : DS} (h1 : Dk.Alike σ S S') (h2 : Dk.Alike τ S S'') : ∃ ρ, Dk.Alike ρ S' S'' := by
 refine ⟨fun x => τ (bk S.ps σ x), ?_⟩
 have hb : ∀ p ∈ S.ps, bk S.ps σ (σ p) = p := fun p hp => bk_mv h1.inj hp
 have hP : ∀ p ∈ S'.ps, ∃ q ∈ S.ps, p = σ q := fun p hp => by rw [h1.ps] at hp; obtain ⟨q, hq, e⟩ := List.mem_map.1 hp; exact ⟨q, hq, e.symm⟩
 refine ⟨by rw [h1.most, h2.most], by rw [h1.up, h2.up], by rw [h1.al, h2.al], by rw [h1.c0, h2.c0], by rw [h1.c1, h2.c1], by rw [h1.c2, h2.c2], by rw [h1.c3, h2.c3], by rw [h1.c4, h2.c4], by rw [h1.c5, h2.c5], by rw [h1.c6, h2.c6], by rw [h1.c7, h2.c7], by rw [h1.c8, h2.c8], ?_, ?_, ?_, ?_⟩
 ·rw [h1.l2, h2.l2]
  unfold mvD
  rw [List.map_map]
  refine List.map_congr_left fun e he => ?_
  show (e.1, τ e.2) = (e.1, τ (bk S.ps σ (σ e.2)))
  rw [hb _ (List.mem_append_left _ (List.mem_map.2 ⟨e, he, rfl⟩))]
 ·rw [h1.P, h2.P, List.map_map]
  refine List.map_congr_left fun c hc => ?_
  cases c with
  | cr n p =>
   show Ch.cr n (τ p) = Ch.cr n (τ (bk S.ps σ (σ p)))
   rw [hb _ (List.mem_append_right _ (List.mem_filterMap.2 ⟨_, hc, rfl⟩))]
  | rn f t => rfl
  | rm n => rfl
 ·intro p hp
  obtain ⟨q, hq, rfl⟩ := hP p hp
  show S''.F (τ (bk S.ps σ (σ q))) = _
  rw [hb q hq, h2.F q hq, h1.F q hq]
 ·intro p hp q hq e
  obtain ⟨p', hp', rfl⟩ := hP p hp
  obtain ⟨q', hq', rfl⟩ := hP q hq
  have e : τ (bk S.ps σ (σ p')) = τ (bk S.ps σ (σ q')) := e
  rw [hb p' hp', hb q' hq'] at e
  rw [h2.inj p' hp' q' hq' e]
theorem Alike.uq {σ : Nat → Nat} {S' : DS} (h : Dk.Alike σ S S') (hu : S.uq) : S'.uq := by
 have mem : ∀ e ∈ S'.l2, ∃ e0 ∈ S.l2, e = (e0.1, σ e0.2) := fun e he => by rw [h.l2] at he; unfold mvD at he; obtain ⟨x, hx, q⟩ := List.mem_map.1 he; exact ⟨x, hx, q.symm⟩
 have in2 : ∀ e ∈ S.l2, e.2 ∈ S.ps := fun e he => List.mem_append_left _ (List.mem_map.2 ⟨e, he, rfl⟩)
 have hpt : ptrs S'.P = (ptrs S.P).map σ := by unfold ptrs; rw [h.P, ptrs_mv]
 have inp : ∀ p ∈ ptrs S.P, p ∈ S.ps := fun p hp => List.mem_append_right _ hp
 refine ⟨fun e he e' he' q => ?_, fun e he c => ?_, ?_⟩
 ·obtain ⟨x, hx, rfl⟩ := mem e he
  obtain ⟨y, hy, rfl⟩ := mem e' he'
  exact hu.inj x hx y hy (h.inj _ (in2 x hx) _ (in2 y hy) q)
 ·obtain ⟨x, hx, rfl⟩ := mem e he
  rw [hpt] at c
  obtain ⟨y, hy, q⟩ := List.mem_map.1 c
  have := h.inj _ (inp y hy) _ (in2 x hx) q
  exact hu.ap x hx (by rw [← this]; exact hy)
 ·rw [hpt]
  show List.Pairwise _ _
  rw [List.pairwise_map]
  exact List.Pairwise.imp_of_mem (fun {x y} hx hy q c => q (h.inj x (inp x hx) y (inp y hy) c)) hu.nd
theorem Rel.alike {σ : Nat → Nat} {S' : DS} (h : Rel S R) (L : Dk.Alike σ S S') : Rel S' R := by
 obtain ⟨τ, L2⟩ := h.like
 obtain ⟨ρ, L3⟩ := Alike.back L L2
 exact Rel.of h.ri h.arm (Alike.uq L h.uq) L3
theorem Rel.size (h : Rel S R) (s : ByteArray) : S.size s = R.size s := by obtain ⟨σ, L⟩ := h.like; rw [← ds_size h.ri S.al, L.size]
theorem Rel.read (h : Rel S R) (s : ByteArray) (o n : Int) : S.read s o n = R.read s o n := by obtain ⟨σ, L⟩ := h.like; rw [← ds_read h.ri S.al, L.read]
theorem Rel.tails (h : Rel S R) (n : Int) : S.tails n = R.tails n := by obtain ⟨σ, L⟩ := h.like; rw [← ds_tails h.ri S.al, L.tails]
theorem Rel.files (h : Rel S R) : S.files = R.all := by obtain ⟨σ, L⟩ := h.like; rw [← ds_files h.ri S.al, L.files]
theorem Rel.lasts (h : Rel S R) : S.lasts = R.lasts := by obtain ⟨σ, L⟩ := h.like; rw [← ds_lasts h.ri S.al, L.lasts]
theorem Rel.up (h : Rel S R) : S.up = !R.down := by obtain ⟨σ, L⟩ := h.like; exact L.up.symm
theorem Rel.pend (h : Rel S R) : S.P.length = R.pe.length := by
 obtain ⟨σ, L⟩ := h.like
 have e : (R.ds S.al).P.length = S.P.length := by rw [L.P, List.length_map]
 rw [← e]
 show (R.pe.map RC.ch).length = _
 rw [List.length_map]
theorem Rel.cnts (h : Rel S R) : S.c0 = R.c0 ∧ S.c1 = R.c1 ∧ S.c2 = R.c2 ∧ S.c3 = R.c3 ∧ S.c4 = R.c4 ∧ S.c5 = R.c5 ∧ S.c6 = R.c6 ∧ S.c7 = R.c7 ∧ S.c8 = R.c8 := by
 obtain ⟨σ, L⟩ := h.like
 exact ⟨L.c0.symm, L.c1.symm, L.c2.symm, L.c3.symm, L.c4.symm, L.c5.symm, L.c6.symm, L.c7.symm, L.c8.symm⟩
end Go.Proofs.YtjehpijjneghpaaGreat.Re
namespace Go.Proofs.YtjehpijjneghpaaGreat.Dk
open Go.RowKit Go.Maps Go.Sort Go.Shelf Go.Proofs.YtjehpijjneghpaaGreat.Nm
theorem copy_dsk {w : World} {b : Nat} {S : DS} {O : Nat → Prop} (h : DskE w b S O) (hu : S.uq) (hc : S.c7 < 900000000) :
    Calls Tryz.prog 41 #[.pointer (some ⟨b, 0, none⟩)] w fun e w' => ∃ b' σ S' O', e = .returned (.pointer (some ⟨b', 0, none⟩)) ∧ Alike σ S S' ∧ DskE w' b' S' O' ∧ (∀ k, O' k → w.heap.size ≤ k) ∧ Below w.heap.size w w' := by
 obtain ⟨f, g, pd, am, VB, VL, h⟩ := h
 exact copyD_any h hu hc
theorem digs_keps_len (L : Tls) (j : Nat) : (keps (digs L j)).length = L.length := by simp [keps, digs_len]
theorem after_dsk {w : World} {b : Nat} {S : DS} {O : Nat → Prop} (h : DskE w b S O) (hu : S.uq) (hc : S.c7 < 900000000) (i : Int) (n0 : -9223372036854775808 ≤ i) (n1 : i ≤ 9223372036854775807) :
    Calls Tryz.prog 35 #[.pointer (some ⟨b, 0, none⟩), .int .i64 i] w fun e w' => Below w.heap.size w w' ∧ ((S.atE i ≠ 0 ∧ e = .returned (.tuple #[.pointer none, .int .i64 (S.atE i)])) ∨
     (S.atE i = 0 ∧ ∃ d j b' σ S' O', FateOf S i.toNat d j ∧ e = .returned (.tuple #[.pointer (some ⟨b', 0, none⟩), .int .i64 0]) ∧ Alike σ (S.after d j) S' ∧ DskE w' b' S' O' ∧ ∀ k, O' k → w.heap.size ≤ k)) := by
 have hA := at_dsk h hc i n0 n1
 have hok := h.ok
 obtain ⟨E, hE⟩ : ∃ E, Hid (S.atE i = E) := ⟨_, rfl⟩
 rw [hE.out] at hA ⊢
 by_cases h0 : E = 0
 ·subst h0
  have hA2 : Calls Tryz.prog 33 #[.pointer (some ⟨b, 0, none⟩), .int .i64 i] w fun e w' => ∃ (d j : Nat) (ao : Option Addr) (n ca : Nat), e = .returned (.tuple #[.agg #[.int .i64 (d : Int), .slice ao n ca], .int .i64 0]) ∧ Hid (FateOf S i.toNat d j) ∧ Hid (Ks w.heap.size w' (.slice ao n ca) (digs (S.tails (d : Int)) j)) ∧ Hid (Below w.heap.size w w') := by
   refine hA.mono ?_
   rintro e w' ⟨hb, ⟨c, _⟩ | ⟨_, d, j, v, hf, rfl, hk⟩⟩
   ·exact absurd rfl c
   ·obtain ⟨ao, n, ca, rfl⟩ := hk.form
    exact ⟨d, j, ao, n, ca, rfl, hf, hk, hb⟩
  have KC : Hid (∀ q, Below w.heap.size w q → Calls Tryz.prog 41 #[.pointer (some ⟨b, 0, none⟩)] q fun e w' => ∃ b' σ S' O', e = .returned (.pointer (some ⟨b', 0, none⟩)) ∧ Alike σ S S' ∧ DskE w' b' S' O' ∧ (∀ k, O' k → q.heap.size ≤ k) ∧ Below q.heap.size q w') := fun q hq => copy_dsk (h.below hq) hu hc
  have KK : Hid (∀ q b' σ S' O' (d j : Nat) v B, Alike σ S S' → DskE q b' S' O' → (∀ k, O' k → B ≤ k) → Kp (fun k => w.heap.size ≤ k ∧ k < B) q v (keps (digs (S.tails (d : Int)) j)) → B ≤ q.heap.size → d ≤ S.P.length → Calls Tryz.prog 18 #[.pointer (some ⟨b', 0, none⟩), .agg #[.int .i64 (d : Int), v]] q fun e w' => e = .returned (.tuple #[]) ∧ ∃ O2, Alike σ (S.after d j) (S'.crash (d : Int) (keps (digs (S.tails (d : Int)) j))) ∧ DskE w' b' (S'.crash (d : Int) (keps (digs (S.tails (d : Int)) j))) O2 ∧ Sgo q w' O' O2) := fun q b' σ S' O' d j v B hal hd hl hk hB hdl => by
   have hcnt := hok.cnt
   refine (crash_dsk hd (by rw [hal.c7]; omega) (d : Int) (by omega) (by omega) v _ _ hk (fun k hk => ⟨fun c => by have := hl k c; omega, by omega⟩)).mono ?_
   rintro e w' ⟨rfl, O2, hd2, hg⟩
   exact ⟨rfl, O2, hal.crash _ _, hd2, hg⟩
  have hds : Hid (∀ d j : Nat, FateOf S i.toNat d j → ∀ x ∈ digs (S.tails (d : Int)) j, x ≤ 16777216) := fun d j hf => digs_small hok d j hf.lt
  clear hA h hok hc n0 n1
  go_enter Tryz.func35, Tryz.ntmps35
  go_upto_region 2 with (go_at_call 33; refine hA2.mono ?_; rintro e w1 ⟨d, j, ao, n, ca, rfl, hf, hk, b1⟩)
  have z2 := heap_alloc_new w1 (.cells #[.int .i64 (d : Int), .slice ao n ca] 34)
  have B2 := hide (box_below w1 (.cells #[.int .i64 (d : Int), .slice ao n ca] 34))
  obtain ⟨X, hX⟩ : ∃ X, Hid (w1.alloc (.cells #[.int .i64 (d : Int), .slice ao n ca] 34) = X) := ⟨_, rfl⟩
  rw [hX.out] at z2 B2 ⊢
  have B3 : Hid (Below w.heap.size w X) := b1.out.trans (B2.out.mono b1.out.size)
  have hC := KC.out X B3.out
  have hXs : Hid (w1.heap.size < X.heap.size) := heap_lt z2
  replace z2 := hide z2
  clear hA2
  go_upto_region 5 with (go_at_call 41; refine hC.mono ?_; rintro e w3 ⟨b', σ, S', O', rfl, hal, hd, hl, b3⟩; replace hal := hide hal; replace hd := hide hd; replace hl := hide hl; replace b3 := hide b3)
  have z3 := (b3.out.block _ (heap_lt z2.out)).trans z2.out
  have x1 : w3.cell? ⟨w1.heap.size, 0, none⟩ = some (.int .i64 (d : Int)) := by simp [World.cell?, z3]
  have x2 : w3.cell? ⟨w1.heap.size, 1, none⟩ = some (.slice ao n ca) := by simp [World.cell?, z3]
  clear z3
  have hKp : Hid (Kp (fun k => w.heap.size ≤ k ∧ k < X.heap.size) w3 (.slice ao n ca) (keps (digs (S.tails (d : Int)) j))) := by
   have k1 := hk.out.kp (hds.out d j hf.out)
   have k2 := (k1.below B2.out).below b3.out
   exact kp_mono k2 (fun k hk => ⟨hk.1, Nat.lt_trans hk.2 hXs.out⟩)
  have hK := KK.out w3 b' σ S' O' d j _ X.heap.size hal.out hd.out hl.out hKp.out b3.out.size hf.out.dl
  clear hC
  go_wp2_with (go_at_call 18; refine hK.mono ?_; rintro e w4 ⟨rfl, O2, hal2, hd2, hg⟩; replace hal2 := hide hal2; replace hd2 := hide hd2; replace hg := hide hg)
  go_ret2
  have B4 : Below w.heap.size w w3 := B3.out.trans (b3.out.mono B3.out.size)
  have lo : ∀ k, O' k → w.heap.size ≤ k := fun k hk => Nat.le_trans B3.out.size (hl.out k hk)
  exact ⟨hg.out.under lo (Nat.le_refl _) B4, .inr ⟨trivial, d, j, b', σ, _, O2, hf.out, rfl, hal2.out, hd2.out, hg.out.low B4.size lo⟩⟩
 ·have hA2 : Calls Tryz.prog 33 #[.pointer (some ⟨b, 0, none⟩), .int .i64 i] w fun e w' => e = .returned (.tuple #[.agg #[.int .i64 0, .slice none 0 0], .int .i64 E]) ∧ Hid (Below w.heap.size w w') := by
    refine hA.mono ?_
    rintro e w' ⟨hb, ⟨_, rfl⟩ | ⟨c, _⟩⟩
    ·exact ⟨rfl, hb⟩
    ·exact absurd c h0
  clear hA h hok hc n0 n1
  go_enter Tryz.func35, Tryz.ntmps35
  go_wp2_with (go_at_call 33; refine hA2.mono ?_; rintro e w1 ⟨rfl, b1⟩; have B2 := hide (box_below w1 (.cells #[.int .i64 0, .slice none 0 0] 34)))
  go_ret2
  exact ⟨b1.out.trans (B2.out.mono b1.out.size), .inl ⟨h0, rfl⟩⟩
end Go.Proofs.YtjehpijjneghpaaGreat.Dk
namespace Go.Proofs.YtjehpijjneghpaaGreat
open Go.RowKit
def LentAt (w : World) (g : Nat) (v : Value) (l : List UInt8) : Prop :=
 ∃ cap, v = .slice (some ⟨g, 0, none⟩) l.length cap ∧ w.ownsRow 0 5 1 (.slice (some ⟨g, 0, none⟩) (l.length + 2) cap) (l.length + 2) (bvals (l ++ [171, 172]))
theorem LentAt.sl {w : World} {g : Nat} {v : Value} {l : List UInt8} (h : LentAt w g v l) : Sl w v l := by
 obtain ⟨cap, rfl, ho⟩ := h
 obtain ⟨ao, ca, hv, g2, g3, g4, g5⟩ := Sl.of_owns2 (l := l ++ [171, 172]) ho (by simp)
 simp only [Value.slice.injEq] at hv
 obtain ⟨rfl, _, rfl⟩ := hv
 simp only [List.length_append, List.length_cons, List.length_nil] at g3
 refine ⟨_, _, rfl, fun e => by simp at e, by omega, g4, fun i hi => ?_⟩
 obtain ⟨b, off, e1, hc⟩ := g5 i (by simp; omega)
 exact ⟨b, off, e1, by rw [hc]; simp [List.getElem_append_left hi]⟩
theorem LentAt.below {w w' : World} {g : Nat} {v : Value} {l : List UInt8} (h : LentAt w g v l) (hb : Below w.heap.size w w') : LentAt w' g v l := by
 obtain ⟨cap, e, ho⟩ := h
 exact ⟨cap, e, ownsRow_below ho hb⟩
theorem LentAt.lt {w : World} {g : Nat} {v : Value} {l : List UInt8} (h : LentAt w g v l) : g < w.heap.size := by
 obtain ⟨cap, e, ho⟩ := h
 exact (ho.lt g rfl).2
theorem lent_any (w : World) (x : Value) (l : List UInt8) (hx : Sl w x l) (hlen : l.length + 2 ≤ 140737488355328) :
    Calls Tryz.prog 45 #[x] w fun e w' => ∃ g v', e = .returned v' ∧ LentAt w' g v' l ∧ Below w.heap.size w w' ∧ w.heap.size ≤ g := by
 have hx0 := hx
 obtain ⟨ao, ca, rfl, h2, h3, h4, h5⟩ := hx
 clear h2 h5 h4 h3
 go_enter Tryz.func45, Tryz.ntmps45
 go_wp2_with (at_builtin; refine wpList_append_bytes rfl (.const (.slice none 0 0)) (.tmp 4) 30 rfl w.heap.size 5 Tryz.infoU8 Tryz.underlying30 _ _ [] l rfl (World.ownsRow_nil _ _ _ _) rfl hx0 (by simp; omega) (Nat.le_refl _) ?_)
 intro v1 w1 o1 b1
 have hz1 := b1.size
 clear hx0
 go_wp2_with (at_builtin; refine wpList_append_bytes rfl (.tmp 6) (.tmp 7) 30 rfl w.heap.size 5 Tryz.infoU8 Tryz.underlying30 _ _ l [171, 172] rfl (o1.alloc _) rfl (sl_lit w1 [171, 172] 5 (by decide) _ rfl) (by simpa using hlen) (by simp; omega) ?_)
 intro v2 w2 o2 b2
 have b12 : Below w.heap.size w w2 := (b1.alloc hz1 _).trans b2
 have o3 : w2.ownsRow w.heap.size 5 1 v2 (l.length + 2) (bvals (l ++ [171, 172])) := by simpa using o2
 obtain ⟨p1, p2⟩ := id o3
 rcases p2 with ⟨_, hn⟩ | ⟨g, cap, cur, rfl, hg, hh, hn, hm, hs, ht⟩
 ·omega
 ·have hm' : cap ≤ 9223372036854775807 := by unfold maxLen at hm; omega
  have HO : Hid (w2.ownsRow 0 5 1 (.slice (some ⟨g, 0, none⟩) (l.length + 2) cap) (l.length + 2) (bvals (l ++ [171, 172]))) := ⟨p1, .inr ⟨g, cap, cur, rfl, Nat.zero_le _, hh, hn, hm, hs, ht⟩⟩
  clear o1 o2 o3 p1 hh hs ht b1 b2
  go_wp2
  go_ret
  exact ⟨g, _, rfl, ⟨cap, rfl, HO.out⟩, b12, hg⟩
theorem xor85 (c : UInt8) : ∃ d : UInt8, bits BinOp.xor IntKind.u8 ((c.toNat : Nat) : Int) 85 = ((d.toNat : Nat) : Int) := by
 have h := u8_xor_nat c.toNat 85 c.toNat_lt (by decide)
 have hl : c.toNat ^^^ 85 < 256 := by
  have := Nat.xor_lt_two_pow (n := 8) c.toNat_lt (show 85 < 2 ^ 8 by decide)
  simpa using this
 exact ⟨UInt8.ofNat (c.toNat ^^^ 85), by rw [UInt8.toNat_ofNat_of_lt' hl]; exact h⟩
theorem back_any (w0 w : World) (g : Nat) (v y : Value) (l : List UInt8) (hb0 : Below w0.heap.size w0 w) (hy : Sl w0 y l) (hv : LentAt w g v l) (hg : w0.heap.size ≤ g) (hlen : l.length ≤ 140737488355328) :
    Calls Tryz.prog 47 #[v, y] w fun e w' => e = .returned (.bool true) ∧ w.grownBy w' (some g) := by
 obtain ⟨cap, rfl, ho⟩ := hv
 obtain ⟨bo, cb, rfl, k2, k3, k4, k5⟩ := hy
 clear k2 k3 k4
 have hcap : l.length + 2 ≤ cap ∧ cap ≤ 9223372036854775807 := by
  obtain ⟨_, p2⟩ := id ho
  rcases p2 with ⟨h, _⟩ | ⟨_, c, _, h, _, _, hn, hm, _⟩
  ·simp at h
  ·simp only [Value.slice.injEq] at h
   obtain ⟨_, _, rfl⟩ := h
   unfold maxLen at hm
   omega
 obtain ⟨hc1, hc2⟩ := hcap
 have m1 : w.cell? ⟨g, l.length, none⟩ = some (.int .u8 171) := by rw [ho.cellAt l.length (by omega)]; simp [bvals, bval]
 have m2 : w.cell? ⟨g, l.length + 1, none⟩ = some (.int .u8 172) := by rw [ho.cellAt (l.length + 1) (by omega)]; simp [bvals, bval]
 have hn' : (((l.length : Nat) : Int) != ((l.length : Nat) : Int)) = false := by simp
 go_enter Tryz.func47, Tryz.ntmps47
 go_wp2
 clear hn' m1 m2
 go_loopw [5, 6] (fun o i wr => ∃ (k : Nat) (D : List UInt8), k ≤ l.length ∧ o = .bool true ∧ i = .int .i64 k ∧ Hid (D.length = k) ∧ wr.ownsRow 0 5 1 (.slice (some ⟨g, 0, none⟩) (l.length + 2) cap) (l.length + 2) (bvals (D ++ (l ++ [171, 172]).drop k)) ∧ w.grownBy wr (some g)) (fun _ i _ => l.length - (intOf i).toNat)
 case atStart => exact ⟨0, [], Nat.zero_le _, rfl, rfl, rfl, by simpa using ho, Qt.grown (Qt.refl _) _⟩
 case round =>
  clear ho
  obtain ⟨k, D, hk, rfl, rfl, hD, ho, hgr⟩ := hrel
  by_cases hlt : k < l.length
  ·obtain ⟨b1, o1, rfl, hb⟩ := k5.at (by omega)
   have d2 := hb k hlt
   have hlt2 := lt_of_cell d2
   have c2 : wr.cell? ⟨b1, o1 + k, none⟩ = some (.int .u8 (l[k].toNat : Int)) := by
    refine hgr.cell (a := ⟨b1, o1 + k, none⟩) ?_ ?_
    ·rw [hb0.cell (p := ⟨b1, o1 + k, none⟩) hlt2]; exact d2
    ·simp only [ne_eq, Option.some.injEq]; intro e; have : b1 < w0.heap.size := hlt2; omega
   have hdr : (l ++ [171, 172]).drop k = l[k] :: (l ++ [171, 172]).drop (k + 1) := by
    rw [List.drop_eq_getElem_cons (by simp; omega), List.getElem_append_left hlt]
   have c1 : wr.cell? ⟨g, k, none⟩ = some (.int .u8 (l[k].toNat : Int)) := by
    rw [ho.cellAt k (by omega), hdr, bvals_get (by simp [hD.out])]
    simp [hD.out]
   have f1 := ho.frozenAt k
   obtain ⟨x, hx⟩ := xor85 l[k]
   have HX : Hid (bits BinOp.xor IntKind.u8 ((l[k].toNat : Nat) : Int) 85 = ((x.toNat : Nat) : Int)) := hx
   have HO : Hid ((wr.setCell ⟨g, k, none⟩ (bval x)).ownsRow 0 5 1 (.slice (some ⟨g, 0, none⟩) (l.length + 2) cap) (l.length + 2) (bvals ((D ++ [x]) ++ (l ++ [171, 172]).drop (k + 1)))) := by
    have h := (ho.stored k (bval x)).1
    rw [hdr] at h
    have e : (bvals (D ++ l[k] :: (l ++ [171, 172]).drop (k + 1))).set k (bval x) = bvals ((D ++ [x]) ++ (l ++ [171, 172]).drop (k + 1)) := by
     rw [bvals_append, List.set_append_right _ _ (by rw [bvals_length, hD.out]; omega), bvals_length, hD.out, Nat.sub_self]
     simp [bvals]
    rw [e] at h
    exact h
   have HG : Hid (w.grownBy (wr.setCell ⟨g, k, none⟩ (bval x)) (some g)) := grown_trans hgr (grown_setCell wr g k (bval x))
   generalize l[k] = c at *
   clear hx hb d2 hdr ho hgr
   go_wp2
   go_quiet (fail)
   go_wp2
   go_roundw
   case rel =>
    rw [HX.out]
    exact ⟨k + 1, D ++ [x], by omega, rfl, by go_num, by show _ = _; simp [hD.out], HO.out, grown_trans HG.out (Qt.grown ⟨_, rfl⟩ _)⟩
   case measure => simp [intOf]; omega
  ·go_wp2
   go_ret
   exact ⟨rfl, hgr⟩
end Go.Proofs.YtjehpijjneghpaaGreat
namespace Go.Proofs.YtjehpijjneghpaaGreat.Re
open Go.RowKit Go.Maps Go.Sort Go.Shelf Go.Proofs.YtjehpijjneghpaaGreat.Nm Go.Proofs.YtjehpijjneghpaaGreat.Dk
def own (pb : Nat) (O : Nat → Prop) (rb : Nat) (V : RV) : Nat → Prop := fun k => k = pb ∨ O k ∨ ∃ x, blk rb V x = some k
structure PX (w : World) (pb b rb : Nat) (S : DS) (R : RB) (O : Nat → Prop) (V : RV) : Prop where
 box : w.heap[pb]? = some (.cells #[.pointer (some ⟨b, 0, none⟩), .pointer (some ⟨rb, 0, none⟩)] 29 (0, 0))
 d : DskE w b S O
 r : RM w rb R V
 dj : ∀ k, O k → ∀ x, blk rb V x ≠ some k
 np : ¬ O pb
 nr : ∀ x, blk rb V x ≠ some pb
def PW (w : World) (pb b : Nat) (S : DS) (R : RB) (Q : Nat → Prop) : Prop := ∃ rb O V, PX w pb b rb S R O V ∧ Q = own pb O rb V
variable {w q w' : World} {pb b rb : Nat} {S : DS} {R : RB} {O : Nat → Prop} {V : RV} {Q : Nat → Prop}
theorem PX.but {X : Nat → Prop} (h : PX w pb b rb S R O V) (hb : But X w w') (hx : ∀ k, own pb O rb V k → ¬ X k) : PX w' pb b rb S R O V :=
 ⟨hb.at h.box (hx pb (.inl rfl)), h.d.but hb (fun k hk => hx k (.inr (.inl hk))), h.r.but hb (fun x k hk => hx k (.inr (.inr ⟨x, hk⟩))), h.dj, h.np, h.nr⟩
theorem PX.below (h : PX w pb b rb S R O V) (hb : Below w.heap.size w w') : PX w' pb b rb S R O V := h.but (But.of_below hb fun _ => False) fun _ _ c => c
theorem PX.lt (h : PX w pb b rb S R O V) : ∀ k, own pb O rb V k → k < w.heap.size := by
 rintro k (rfl | c | ⟨x, c⟩)
 ·exact heap_lt h.box
 ·exact h.d.lt k c
 ·exact h.r.lt x k c
theorem PX.toPW (h : PX w pb b rb S R O V) : PW w pb b S R (own pb O rb V) := ⟨rb, O, V, h, rfl⟩
theorem PW.below (h : PW w pb b S R Q) (hb : Below w.heap.size w w') : PW w' pb b S R Q := by obtain ⟨rb, O, V, hx, e⟩ := h; exact ⟨rb, O, V, hx.below hb, e⟩
theorem PW.but {X : Nat → Prop} (h : PW w pb b S R Q) (hb : But X w w') (hx : ∀ k, Q k → ¬ X k) : PW w' pb b S R Q := by obtain ⟨rb, O, V, h, rfl⟩ := h; exact ⟨rb, O, V, h.but hb hx, rfl⟩
theorem PX.stepA {S' : DS} {O' : Nat → Prop} (h : PX q pb b rb S R O V) (hd : DskE w' b S' O') (g : Sgo q w' O O') : PX w' pb b rb S' R O' V ∧ Sgo q w' (own pb O rb V) (own pb O' rb V) := by
 have nb : ∀ x k, blk rb V x = some k → ¬ O k := fun x k hk c => h.dj k c x hk
 refine ⟨⟨g.but.at h.box h.np, hd, h.r.but g.but nb, fun k hk x c => ?_, fun c => ?_, h.nr⟩, ⟨g.but.mono fun k _ c => .inr (.inl c), fun k hk => ?_⟩⟩
 ·rcases g.own k hk with o | o
  ·exact h.dj k o x c
  ·have := h.r.lt x k c; omega
 ·rcases g.own pb c with o | o
  ·exact h.np o
  ·have := heap_lt h.box; omega
 ·rcases hk with e | c | c
  ·exact .inl (.inl e)
  ·exact (g.own k c).imp (fun o => .inr (.inl o)) id
  ·exact .inl (.inr (.inr c))
theorem PX.stepB {R' : RB} (h : PX q pb b rb S R O V) (g : Rgo q w' rb V R') : ∃ V', PX w' pb b rb S R' O V' ∧ Sgo q w' (own pb O rb V) (own pb O rb V') := by
 obtain ⟨⟨V', hm, hv⟩, hb⟩ := g
 have nb : ∀ k, O k → ¬ ∃ x, blk rb V x = some k := fun k hk ⟨x, c⟩ => h.dj k hk x c
 refine ⟨V', ⟨hb.at h.box (fun ⟨x, c⟩ => h.nr x c), h.d.but hb nb, hm, fun k hk x c => ?_, h.np, fun x c => ?_⟩, ⟨hb.mono fun k _ c => .inr (.inr c), fun k hk => ?_⟩⟩
 ·rcases hv x k c with o | o
  ·exact h.dj k hk x o
  ·have := h.d.lt k hk; omega
 ·rcases hv x pb c with o | o
  ·exact h.nr x o
  ·have := heap_lt h.box; omega
 ·rcases hk with e | c | ⟨x, c⟩
  ·exact .inl (.inl e)
  ·exact .inl (.inr (.inl c))
  ·exact (hv x k c).imp (fun o => .inr (.inr ⟨x, o⟩)) id
def calm (fs : List Ft) : List Ft := fs.filter fun t => t.2.1 != 4
def DS.play (S : DS) (o : Dop) (S' : DS) : Prop :=
 if o.kind = 1 then ∃ p, p ∉ S.ps ∧ S' = (S.create o.nm p).1
 else if o.kind = 2 then S' = if 32768 < o.dat.length then S else (S.append o.nm o.dat).1
 else if o.kind = 3 then S' = (S.sync o.nm).1
 else if o.kind = 4 then S' = (S.cut o.nm o.n).1
 else if o.kind = 5 then S' = (S.rename o.nm o.tn).1
 else if o.kind = 6 then S' = (S.remove o.nm).1
 else if o.kind = 7 then S' = S.syncDir.1
 else if o.kind = 9 then S' = (S.arm (calm o.fs)).1
 else if o.kind = 10 then S' = S.crash o.dir o.ks
 else if o.kind = 11 then ∃ σ, Dk.Alike σ S S'
 else S' = S
open Classical in
noncomputable def RB.play (R : RB) (o : Dop) : RB :=
 if o.kind = 1 then (R.create o.nm).1
 else if o.kind = 2 then (if 32768 < o.dat.length then R else (R.append o.nm o.dat).1)
 else if o.kind = 3 then (R.sync o.nm).1
 else if o.kind = 4 then (R.cut o.nm o.n).1
 else if o.kind = 5 then (R.rename o.nm o.tn).1
 else if o.kind = 6 then (R.remove o.nm).1
 else if o.kind = 7 then R.syncDir.1
 else if o.kind = 9 then (R.arm (calm o.fs)).1
 else if o.kind = 10 then R.crash o.dir o.ks
 else R
structure PlP (w : World) (pb b : Nat) (S : DS) (R : RB) (o : Dop) (Q : Nat → Prop) (e : Ending) (w' : World) : Prop where
 out : ∃ r S' Q' b', e = .returned (.bool r) ∧ PW w' pb b' S' (R.play o) Q' ∧ Sgo w w' Q Q' ∧ DS.play S o S' ∧ (Rel S R → r = true) ∧ (o.kind ≠ 11 → b' = b)
structure PlI (W0 w : World) (pb b : Nat) (S : DS) (R : RB) (o : Dop) (Q : Nat → Prop) : Prop where
 pw : PW w pb b S R Q
 ok : DopOk W0 o
 bel : Below W0.heap.size W0 w
 lo : ∀ k, Q k → W0.heap.size ≤ k
 ri : RI R
 uq : S.uq
 cs : S.c7 ≤ 100000
 cr : R.c7 ≤ 100000
theorem calm_no4 (fs : List Ft) : ∀ t ∈ calm fs, t.2.1 ≠ 4 := fun t ht => by have := (List.mem_filter.1 ht).2; simpa using this
theorem rel_play {S' : DS} {o : Dop} (h : Rel S R) (hp : DS.play S o S') : Rel S' (R.play o) := by
 unfold DS.play at hp
 unfold RB.play
 by_cases k1 : o.kind = 1
 ·rw [if_pos k1] at hp ⊢
  obtain ⟨p, hn, rfl⟩ := hp
  exact (h.create _ hn).1
 rw [if_neg k1] at hp ⊢
 by_cases k2 : o.kind = 2
 ·rw [if_pos k2] at hp ⊢
  subst hp
  split
  ·exact h
  ·exact (h.append _ _).1
 rw [if_neg k2] at hp ⊢
 by_cases k3 : o.kind = 3
 ·rw [if_pos k3] at hp ⊢; subst hp; exact (h.sync _).1
 rw [if_neg k3] at hp ⊢
 by_cases k4 : o.kind = 4
 ·rw [if_pos k4] at hp ⊢; subst hp; exact (h.cut _ _).1
 rw [if_neg k4] at hp ⊢
 by_cases k5 : o.kind = 5
 ·rw [if_pos k5] at hp ⊢; subst hp; exact (h.rename _ _).1
 rw [if_neg k5] at hp ⊢
 by_cases k6 : o.kind = 6
 ·rw [if_pos k6] at hp ⊢; subst hp; exact (h.remove _).1
 rw [if_neg k6] at hp ⊢
 by_cases k7 : o.kind = 7
 ·rw [if_pos k7] at hp ⊢; subst hp; exact h.syncDir.1
 rw [if_neg k7] at hp ⊢
 by_cases k9 : o.kind = 9
 ·rw [if_pos k9] at hp ⊢; subst hp; exact (h.armed _ (calm_no4 _)).1
 rw [if_neg k9] at hp ⊢
 by_cases k10 : o.kind = 10
 ·rw [if_pos k10] at hp ⊢; subst hp; exact h.crash _ _
 rw [if_neg k10] at hp ⊢
 by_cases k11 : o.kind = 11
 ·rw [if_pos k11] at hp; obtain ⟨σ, L⟩ := hp; exact h.alike L
 rw [if_neg k11] at hp
 subst hp
 exact h
end Go.Proofs.YtjehpijjneghpaaGreat.Re
namespace Go.Proofs.YtjehpijjneghpaaGreat.Re
open Go.RowKit Go.Maps Go.Sort Go.Shelf Go.Proofs.YtjehpijjneghpaaGreat.Nm Go.Proofs.YtjehpijjneghpaaGreat.Dk
variable {S : DS} {k : List UInt8} {p : Nat} {f : Fl}
theorem beg_c7 (S : DS) (j : Nat) : (S.beg j).c7 = S.c7 + 1 := (beg_rest S j).2.2.2.2.2.1
theorem str_c7 (S : DS) (j : Int) : (S.str j).c7 = S.c7 := (str_rest S j).2.2.2.2.1
theorem hit_c7 (S : DS) (j : Nat) : (S.hit j).c7 = S.c7 + 1 := (hit_rest S j).2.2.2.2.1
theorem play_c7 {S' : DS} {o : Dop} (hp : DS.play S o S') : S'.c7 ≤ S.c7 + 1 := by
 unfold DS.play at hp
 by_cases k1 : o.kind = 1
 ·rw [if_pos k1] at hp
  obtain ⟨q, hq, rfl⟩ := hp
  unfold DS.create
  split
  ·simp only; omega
  ·split
   ·simp only; omega
   ·split
    ·simp only; omega
    ·split
     ·simp only [str_c7, beg_c7]; omega
     ·simp only [str_c7, beg_c7]; omega
 rw [if_neg k1] at hp
 by_cases k2 : o.kind = 2
 ·rw [if_pos k2] at hp
  subst hp
  split
  ·omega
  ·unfold DS.append
   split
   ·simp only; omega
   ·simp only [str_c7, beg_c7]; omega
 rw [if_neg k2] at hp
 by_cases k3 : o.kind = 3
 ·rw [if_pos k3] at hp
  subst hp
  unfold DS.sync
  split
  ·simp only; omega
  ·split
   ·simp only [beg_c7]; omega
   ·split
    ·simp only [str_c7, beg_c7]; omega
    ·simp only [beg_c7]; omega
 rw [if_neg k3] at hp
 by_cases k4 : o.kind = 4
 ·rw [if_pos k4] at hp
  subst hp
  unfold DS.cut
  split
  ·simp only; omega
  ·split
   ·simp only; omega
   ·split
    ·simp only [str_c7, beg_c7]; omega
    ·simp only [beg_c7]; omega
 rw [if_neg k4] at hp
 by_cases k5 : o.kind = 5
 ·rw [if_pos k5] at hp
  subst hp
  unfold DS.rename
  split
  ·simp only; omega
  ·split
   ·simp only; omega
   ·split
    ·simp only [hit_c7]; omega
    ·split
     ·simp only [hit_c7]; omega
     ·simp only [hit_c7]; omega
 rw [if_neg k5] at hp
 by_cases k6 : o.kind = 6
 ·rw [if_pos k6] at hp
  subst hp
  unfold DS.remove
  split
  ·simp only; omega
  ·split
   ·simp only [hit_c7]; omega
   ·simp only [hit_c7]; omega
 rw [if_neg k6] at hp
 by_cases k7 : o.kind = 7
 ·rw [if_pos k7] at hp
  subst hp
  unfold DS.syncDir
  split
  ·simp only; omega
  ·split
   ·simp only [hit_c7]; omega
   ·simp only [hit_c7]; omega
 rw [if_neg k7] at hp
 by_cases k9 : o.kind = 9
 ·rw [if_pos k9] at hp
  subst hp
  unfold DS.arm
  split
  ·simp only; omega
  ·split
   ·simp only; omega
   ·simp only; omega
 rw [if_neg k9] at hp
 by_cases k10 : o.kind = 10
 ·rw [if_pos k10] at hp
  subst hp
  show S.c7 ≤ _
  omega
 rw [if_neg k10] at hp
 by_cases k11 : o.kind = 11
 ·rw [if_pos k11] at hp
  obtain ⟨σ, L⟩ := hp
  rw [L.c7]
  omega
 rw [if_neg k11] at hp
 subst hp
 omega
end Go.Proofs.YtjehpijjneghpaaGreat.Re
namespace Go.Proofs.YtjehpijjneghpaaGreat.Re
open Go.RowKit Go.Maps Go.Sort Go.Shelf Go.Proofs.YtjehpijjneghpaaGreat.Nm Go.Proofs.YtjehpijjneghpaaGreat.Dk
end Go.Proofs.YtjehpijjneghpaaGreat.Re
namespace Go.Proofs.YtjehpijjneghpaaGreat.Re
open Go.RowKit Go.Maps Go.Sort Go.Shelf Go.Proofs.YtjehpijjneghpaaGreat.Nm Go.Proofs.YtjehpijjneghpaaGreat.Dk
open Ix (wp_region_T wpAnyT wpAnyT_take wpAnyT_one wpAnyT_done vac)
variable {W0 w : World} {pb b : Nat} {S : DS} {R : RB} {Q : Nat → Prop}
theorem ten_cells {q : World} {g : Nat} {a0 a1 a2 a3 a4 a5 a6 a7 a8 a9 : Value} {T : TypeId} {z : Nat × Nat} (h : q.heap[g]? = some (.cells #[a0, a1, a2, a3, a4, a5, a6, a7, a8, a9] T z)) :
    q.cell? ⟨g, 0, none⟩ = some a0 ∧ q.cell? ⟨g, 1, none⟩ = some a1 ∧ q.cell? ⟨g, 2, none⟩ = some a2 ∧ q.cell? ⟨g, 3, none⟩ = some a3 ∧ q.cell? ⟨g, 4, none⟩ = some a4 ∧ q.cell? ⟨g, 5, none⟩ = some a5 ∧ q.cell? ⟨g, 6, none⟩ = some a6 ∧ q.cell? ⟨g, 7, none⟩ = some a7 ∧ q.cell? ⟨g, 8, none⟩ = some a8 ∧ q.cell? ⟨g, 9, none⟩ = some a9 := by simp [World.cell?, h]
theorem two_cells {q : World} {g : Nat} {a0 a1 : Value} {T : TypeId} {z : Nat × Nat} (h : q.heap[g]? = some (.cells #[a0, a1] T z)) : q.cell? ⟨g, 0, none⟩ = some a0 ∧ q.cell? ⟨g, 1, none⟩ = some a1 := by simp [World.cell?, h]
def opV (o : Dop) : Value := .agg #[.int .i64 o.kind, .bool o.sec, .string o.nm, .string o.tn, o.vd, .int .i64 o.off, .int .i64 o.n, o.vf, .int .i64 o.dir, o.vk]
theorem findN_le (h : RI R) (hc : R.c7 ≤ 100000) : ∀ n, findN R.dir n ≤ 9223372036854775807 := fun n => by
 unfold findN
 cases hg : Dk.get R.dir n with
 | none => decide
 | some p => have := h.dirF _ (get_mem hg); have := h.fl; simp only at *; omega
theorem sync_dskE {O : Nat → Prop} (h : DskE w b S O) (s : ByteArray) (hs : s.size ≤ maxLen) (hc : S.c7 < 900000000) : Calls Tryz.prog 17 #[.pointer (some ⟨b, 0, none⟩), .string s] w (Does w b O (S.sync s)) := by obtain ⟨f, g, pd, am, VB, VL, hd⟩ := h; exact syncF_any hd s hs hc
theorem cut_dskE {O : Nat → Prop} (h : DskE w b S O) (s : ByteArray) (hs : s.size ≤ maxLen) (n : Int) (n0 : -9223372036854775808 ≤ n) (n1 : n ≤ 9223372036854775807) (hc : S.c7 < 900000000) : Calls Tryz.prog 49 #[.pointer (some ⟨b, 0, none⟩), .string s, .int .i64 n] w (Does w b O (S.cut s n)) := by obtain ⟨f, g, pd, am, VB, VL, hd⟩ := h; exact cutD_any hd s hs n n0 n1 hc
structure Bxs (pb ob b rb : Nat) (o : Dop) (q : World) : Prop where
 p : q.heap[pb]? = some (.cells #[.pointer (some ⟨b, 0, none⟩), .pointer (some ⟨rb, 0, none⟩)] 29 (0, 0))
 o : q.heap[ob]? = some (.cells #[.int .i64 o.kind, .bool o.sec, .string o.nm, .string o.tn, o.vd, .int .i64 o.off, .int .i64 o.n, o.vf, .int .i64 o.dir, o.vk] 36 (0, 0))
theorem Bxs.go {pb ob b rb : Nat} {o : Dop} {q q' : World} {X : Nat → Prop} (h : Bxs pb ob b rb o q) (hb : But X q q') (h1 : ¬ X pb) (h2 : ¬ X ob) : Bxs pb ob b rb o q' := ⟨hb.at h.p h1, hb.at h.o h2⟩
theorem pl_create (o : Dop) (hk : o.kind = 1) (h : PlI W0 w pb b S R o Q) : Calls Tryz.prog 11 #[.pointer (some ⟨pb, 0, none⟩), opV o] w (PlP w pb b S R o Q) := by
 obtain ⟨rb, O, V, hx, hQ⟩ := h.pw
 have hI := hide h
 have hpS : Hid (∀ S', (∃ p, p ∉ S.ps ∧ S' = (S.create o.nm p).1) → DS.play S o S') := fun S' hs => by unfold DS.play; rw [if_pos hk]; exact hs
 have hpR : Hid (R.play o = (R.create o.nm).1) := by show _ = _; unfold RB.play; rw [if_pos hk]
 have HX := hide hx
 have hA : Hid (∀ q, PX q pb b rb S R O V → Calls Tryz.prog 14 #[.pointer (some ⟨b, 0, none⟩), .string o.nm] q fun e w' => ∃ er S' O', e = .returned (.int .i64 er) ∧ (∃ p, p ∉ S.ps ∧ S' = (S.create o.nm p).1 ∧ er = (S.create o.nm p).2) ∧ PX w' pb b rb S' R O' V ∧ Sgo q w' (own pb O rb V) (own pb O' rb V)) := fun q hq => by
  refine (create_dsk hq.d o.nm (by have := hI.out.ok.nm; omega) (by have := hI.out.cs; omega)).mono ?_
  rintro e w' ⟨p, _, hp, rfl, O', hd, hg⟩
  obtain ⟨px, gx⟩ := hq.stepA hd hg
  exact ⟨_, _, _, rfl, ⟨p, hp, rfl, rfl⟩, px, gx⟩
 have hB : Hid (∀ q S' O', PX q pb b rb S' R O' V → Calls Tryz.prog 44 #[.pointer (some ⟨rb, 0, none⟩), .string o.nm] q fun e w' => ∃ V', e = .returned (.int .i64 (R.create o.nm).2) ∧ PX w' pb b rb S' (R.create o.nm).1 O' V' ∧ Sgo q w' (own pb O' rb V) (own pb O' rb V')) := fun q S' O' hq => by
  refine (create_rm hq.r hI.out.ri.ok (by have := hI.out.cr; omega) (by have := hI.out.ri.dlen; omega) (by have := hI.out.ri.cnt; have := hI.out.cr; omega) (by have := hI.out.ri.fl; have := hI.out.cr; omega) o.nm (by have := hI.out.ok.nm; unfold maxLen; omega)).mono ?_
  rintro e w' ⟨rfl, hg⟩
  obtain ⟨V', px, gx⟩ := hq.stepB hg
  exact ⟨V', rfl, px, gx⟩
 have hRel : Hid (∀ er S', (∃ p, p ∉ S.ps ∧ S' = (S.create o.nm p).1 ∧ er = (S.create o.nm p).2) → Rel S R → er = (R.create o.nm).2) := fun er S' hs hr => by
  obtain ⟨p, hp, _, rfl⟩ := hs; exact (hr.create o.nm hp).2
 obtain ⟨RR, hRR⟩ : ∃ RR, Hid ((R.create o.nm) = RR) := ⟨_, rfl⟩
 rw [hRR.out] at hB hRel hpR
 obtain ⟨ok, os, on, ot, ov, oD, oo, onn, of, ofs, od, ovk, oks⟩ := o
 dsimp only at hk hA hB hpS hRel
 subst hk
 have BF := hide (box_below w (.cells #[.int .i64 1, .bool os, .string on, .string ot, ov, .int .i64 oo, .int .i64 onn, of, .int .i64 od, ovk] 36))
 have NF := heap_alloc_new w (.cells #[.int .i64 1, .bool os, .string on, .string ot, ov, .int .i64 oo, .int .i64 onn, of, .int .i64 od, ovk] 36)
 have hlt := hide hx.lt
 clear hx
 unfold opV
 go_enter Tryz.func11, Tryz.ntmps11
 obtain ⟨wf, hwf⟩ : ∃ wf, Hid (w.alloc (.cells #[.int .i64 1, .bool os, .string on, .string ot, ov, .int .i64 oo, .int .i64 onn, of, .int .i64 od, ovk] 36) = wf) := ⟨_, rfl⟩
 have c0 : (w.alloc (.cells #[.int .i64 1, .bool os, .string on, .string ot, ov, .int .i64 oo, .int .i64 onn, of, .int .i64 od, ovk] 36)).cell? ⟨w.heap.size, 0, none⟩ = some (.int .i64 1) := (ten_cells NF).1
 go_upto_region 3 with fail
 rw [hwf.out] at BF NF ⊢
 have MX := hide (HX.out.below BF.out)
 have hob : Hid (¬ own pb O rb V w.heap.size) := fun c => Nat.lt_irrefl _ (hlt.out _ c)
 have B0 : Hid (Bxs pb w.heap.size b rb ⟨1, os, on, ot, ov, oD, oo, onn, of, ofs, od, ovk, oks⟩ wf) := ⟨MX.out.box, NF⟩
 have KP : Hid (Bxs pb w.heap.size b rb ⟨1, os, on, ot, ov, oD, oo, onn, of, ofs, od, ovk, oks⟩ wf.drew) := B0.out.go (But.of_below (Below.refl _ _).drew fun _ => False) (fun c => c) (fun c => c)
 have PQ : Hid (PX wf.drew pb b rb S R O V) := MX.out.below (Below.refl _ _).drew
 have GQ : Hid (Below w.heap.size w wf.drew) := BF.out.drew
 clear c0 NF
 refine wp_region_T (fun q => Bxs pb w.heap.size b rb ⟨1, os, on, ot, ov, oD, oo, onn, of, ofs, od, ovk, oks⟩ q) 15 (by kernel_rfl) ?_
 generalize wf.drew = q at *
 refine Ix.tk 0 ⟨some 26, .move (.tmp 0), _, _, _, _⟩ (.pointer (some ⟨pb, 0, none⟩)) [1,2,3,6,14,15] ?_ KP.out ?_
 ·intro wq hSw; go_simp
 (try simp only [zzp, zzb, zzc])
 refine Ix.tk 1 ⟨some 27, .nilCheck (.tmp 26), _, _, _, _⟩ (.pointer (some ⟨pb, 0, none⟩)) [2,3,6,14,15] ?_ KP.out ?_
 ·intro wq hSw; go_simp
 (try simp only [zzp, zzb, zzc])
 refine Ix.tk 2 ⟨some 28, .fieldAddr 29 (.tmp 27) 0, _, _, _, _⟩ (.pointer (some ⟨pb, 0, none⟩)) [3,6,14,15] ?_ KP.out ?_
 ·intro wq hSw; go_simp
 (try simp only [zzp, zzb, zzc])
 refine Ix.tk 3 ⟨some 29, .load 24 (.tmp 28), _, _, _, _⟩ (.pointer (some ⟨b, 0, none⟩)) [6,14,15] ?_ KP.out ?_
 ·intro wq hSw
  obtain ⟨x1, x2⟩ := two_cells hSw.p
  obtain ⟨y0, y1, y2, y3, y4, y5, y6, y7, y8, y9⟩ := ten_cells hSw.o
  go_simp
 (try simp only [zzp, zzb, zzc])
 refine Ix.tk 4 ⟨some 30, .fieldAddr 36 (.tmp 3) 2, _, _, _, _⟩ (.pointer (some ⟨w.heap.size, 2, none⟩)) [5,6,14,15] ?_ KP.out ?_
 ·intro wq hSw; go_simp
 (try simp only [zzp, zzb, zzc])
 refine Ix.tk 5 ⟨some 31, .load 9 (.tmp 30), _, _, _, _⟩ (.string on) [6,14,15] ?_ KP.out ?_
 ·intro wq hSw
  obtain ⟨x1, x2⟩ := two_cells hSw.p
  obtain ⟨y0, y1, y2, y3, y4, y5, y6, y7, y8, y9⟩ := ten_cells hSw.o
  go_simp
 (try simp only [zzp, zzb, zzc])
 refine Ix.tk 7 ⟨some 33, .move (.tmp 0), _, _, _, _⟩ (.pointer (some ⟨pb, 0, none⟩)) [8,9,10,13,14,15] ?_ KP.out ?_
 ·intro wq hSw; go_simp
 (try simp only [zzp, zzb, zzc])
 refine Ix.tk 8 ⟨some 34, .nilCheck (.tmp 33), _, _, _, _⟩ (.pointer (some ⟨pb, 0, none⟩)) [9,10,13,14,15] ?_ KP.out ?_
 ·intro wq hSw; go_simp
 (try simp only [zzp, zzb, zzc])
 refine Ix.tk 9 ⟨some 35, .fieldAddr 29 (.tmp 34) 1, _, _, _, _⟩ (.pointer (some ⟨pb, 1, none⟩)) [10,13,14,15] ?_ KP.out ?_
 ·intro wq hSw; go_simp
 (try simp only [zzp, zzb, zzc])
 refine Ix.tk 10 ⟨some 36, .load 26 (.tmp 35), _, _, _, _⟩ (.pointer (some ⟨rb, 0, none⟩)) [13,14,15] ?_ KP.out ?_
 ·intro wq hSw
  obtain ⟨x1, x2⟩ := two_cells hSw.p
  obtain ⟨y0, y1, y2, y3, y4, y5, y6, y7, y8, y9⟩ := ten_cells hSw.o
  go_simp
 (try simp only [zzp, zzb, zzc])
 refine Ix.tk 11 ⟨some 37, .fieldAddr 36 (.tmp 3) 2, _, _, _, _⟩ (.pointer (some ⟨w.heap.size, 2, none⟩)) [12,13,14,15] ?_ KP.out ?_
 ·intro wq hSw; go_simp
 (try simp only [zzp, zzb, zzc])
 refine Ix.tk 12 ⟨some 38, .load 9 (.tmp 37), _, _, _, _⟩ (.string on) [13,14,15] ?_ KP.out ?_
 ·intro wq hSw
  obtain ⟨x1, x2⟩ := two_cells hSw.p
  obtain ⟨y0, y1, y2, y3, y4, y5, y6, y7, y8, y9⟩ := ten_cells hSw.o
  go_simp
 (try simp only [zzp, zzb, zzc])
 refine wpAnyT_one (i := 6) (o := ⟨some 32, .call { callee := .value (.func 14), args := #[.tmp 29, .tmp 31], argTypes := #[24, 9] }, _, _, _, _⟩) (by kernel_rfl) rfl (fun K hK => ?_)
 go_simp
 go_at_call 14
 refine (hA.out q PQ.out).mono ?_
 rintro e w1 ⟨er, S1, O1, rfl, hs1, P1, G1⟩
 replace P1 := hide P1
 replace G1 := hide G1
 replace hs1 := hide hs1
 have K1 : Hid (Bxs pb w.heap.size b rb ⟨1, os, on, ot, ov, oD, oo, onn, of, ofs, od, ovk, oks⟩ w1) := ⟨P1.out.box, G1.out.but.at KP.out.o hob.out⟩
 (try go_simp)
 refine hK.out _ _ (fun _ => K1.out) ?_
 clear hK K
 (try simp only [zzp, zzb, zzc])
 refine wpAnyT_one (i := 13) (o := ⟨some 39, .call { callee := .value (.func 44), args := #[.tmp 36, .tmp 38], argTypes := #[26, 9] }, _, _, _, _⟩) (by kernel_rfl) rfl (fun K hK => ?_)
 go_simp
 go_at_call 44
 refine (hB.out w1 S1 O1 P1.out).mono ?_
 rintro e w2 ⟨V2, rfl, P2, G2⟩
 replace P2 := hide P2
 replace G2 := hide G2
 have hob1 : ¬ own pb O1 rb V w.heap.size := fun c => (G1.out.own _ c).elim hob.out (fun c => by have := heap_lt KP.out.o; omega)
 have K2 : Hid (Bxs pb w.heap.size b rb ⟨1, os, on, ot, ov, oD, oo, onn, of, ofs, od, ovk, oks⟩ w2) := ⟨P2.out.box, G2.out.but.at K1.out.o hob1⟩
 (try go_simp)
 refine hK.out _ _ (fun _ => K2.out) ?_
 clear hK K
 (try simp only [zzp, zzb, zzc])
 refine Ix.tk 14 ⟨some 40, .binOp .eql 41 (.tmp 32) (.tmp 39) 41, _, _, _, _⟩ (.bool (er == RR.2)) [15] ?_ K2.out ?_
 ·intro wq hSw
  obtain ⟨x1, x2⟩ := two_cells hSw.p
  obtain ⟨y0, y1, y2, y3, y4, y5, y6, y7, y8, y9⟩ := ten_cells hSw.o
  go_simp
 (try simp only [zzp, zzb, zzc])
 refine wpAnyT_one (i := 15) (o := ⟨some 4, .assign (.tmp 40), _, _, _, _⟩) (by kernel_rfl) rfl (fun K hK => ?_)
 go_simp
 refine hK.out _ _ (vac (by kernel_rfl)) ?_
 clear hK K
 (try simp only [zzp, zzb, zzc])
 refine wpAnyT_done (by kernel_rfl) ?_ _
 obtain ⟨bb, hbb⟩ : ∃ bb, Hid ((er == RR.2) = bb) := ⟨_, rfl⟩
 rw [hbb.out]
 go_wp2_with fail
 go_ret
 refine ⟨⟨bb, S1, _, b, rfl, by rw [hpR.out]; exact P2.out.toPW, ?_, hpS.out S1 ?_, fun hr => ?_, fun _ => rfl⟩⟩
 ·have hG := (Sgo.of_below (O := own pb O rb V) GQ.out).trans (G1.out.trans G2.out)
  first | exact hG | (rw [hQ]; exact hG)
 ·obtain ⟨p, h1, h2, _⟩ := hs1.out; exact ⟨p, h1, h2⟩
 ·rw [← hbb.out]
  simpa using hRel.out er S1 hs1.out hr
theorem pl_sync (o : Dop) (hk : o.kind = 3) (h : PlI W0 w pb b S R o Q) : Calls Tryz.prog 11 #[.pointer (some ⟨pb, 0, none⟩), opV o] w (PlP w pb b S R o Q) := by
 obtain ⟨rb, O, V, hx, hQ⟩ := h.pw
 have hI := hide h
 have hpS : Hid (∀ S', S' = (S.sync o.nm).1 → DS.play S o S') := fun S' hs => by unfold DS.play; simp [hk, hs]
 have hpR : Hid (R.play o = (R.sync o.nm).1) := by show _ = _; unfold RB.play; simp [hk]
 have HX := hide hx
 have hA : Hid (∀ q, PX q pb b rb S R O V → Calls Tryz.prog 17 #[.pointer (some ⟨b, 0, none⟩), .string o.nm] q fun e w' => ∃ er S' O', e = .returned (.int .i64 er) ∧ (S' = (S.sync o.nm).1 ∧ er = (S.sync o.nm).2) ∧ PX w' pb b rb S' R O' V ∧ Sgo q w' (own pb O rb V) (own pb O' rb V)) := fun q hq => by
  refine (sync_dskE hq.d o.nm (by have := hI.out.ok.nm; unfold maxLen; omega) (by have := hI.out.cs; omega)).mono ?_
  rintro e w' ⟨rfl, O', hd, hg⟩
  obtain ⟨px, gx⟩ := hq.stepA hd hg
  exact ⟨_, _, _, rfl, ⟨rfl, rfl⟩, px, gx⟩
 have hB : Hid (∀ q S' O', PX q pb b rb S' R O' V → Calls Tryz.prog 48 #[.pointer (some ⟨rb, 0, none⟩), .string o.nm] q fun e w' => ∃ V', e = .returned (.int .i64 (R.sync o.nm).2) ∧ PX w' pb b rb S' (R.sync o.nm).1 O' V' ∧ Sgo q w' (own pb O' rb V) (own pb O' rb V')) := fun q S' O' hq => by
  refine (sync_rm hq.r hI.out.ri.ok (by have := hI.out.cr; omega) hI.out.ri.dirF hI.out.ri.la o.nm (by have := hI.out.ok.nm; unfold maxLen; omega)).mono ?_
  rintro e w' ⟨rfl, hg⟩
  obtain ⟨V', px, gx⟩ := hq.stepB hg
  exact ⟨V', rfl, px, gx⟩
 have hRel : Hid (∀ er S', (S' = (S.sync o.nm).1 ∧ er = (S.sync o.nm).2) → Rel S R → er = (R.sync o.nm).2) := fun er S' hs hr => by
  obtain ⟨_, rfl⟩ := hs; exact (hr.sync o.nm).2
 obtain ⟨RR, hRR⟩ : ∃ RR, Hid ((R.sync o.nm) = RR) := ⟨_, rfl⟩
 rw [hRR.out] at hB hRel hpR
 obtain ⟨ok, os, on, ot, ov, oD, oo, onn, of, ofs, od, ovk, oks⟩ := o
 dsimp only at hk hA hB hpS hRel
 subst hk
 have BF := hide (box_below w (.cells #[.int .i64 3, .bool os, .string on, .string ot, ov, .int .i64 oo, .int .i64 onn, of, .int .i64 od, ovk] 36))
 have NF := heap_alloc_new w (.cells #[.int .i64 3, .bool os, .string on, .string ot, ov, .int .i64 oo, .int .i64 onn, of, .int .i64 od, ovk] 36)
 have hlt := hide hx.lt
 clear hx
 unfold opV
 go_enter Tryz.func11, Tryz.ntmps11
 obtain ⟨wf, hwf⟩ : ∃ wf, Hid (w.alloc (.cells #[.int .i64 3, .bool os, .string on, .string ot, ov, .int .i64 oo, .int .i64 onn, of, .int .i64 od, ovk] 36) = wf) := ⟨_, rfl⟩
 have c0 : (w.alloc (.cells #[.int .i64 3, .bool os, .string on, .string ot, ov, .int .i64 oo, .int .i64 onn, of, .int .i64 od, ovk] 36)).cell? ⟨w.heap.size, 0, none⟩ = some (.int .i64 3) := (ten_cells NF).1
 go_upto_region 12 with fail
 rw [hwf.out] at BF NF ⊢
 have MX := hide (HX.out.below BF.out)
 have hob : Hid (¬ own pb O rb V w.heap.size) := fun c => Nat.lt_irrefl _ (hlt.out _ c)
 have B0 : Hid (Bxs pb w.heap.size b rb ⟨3, os, on, ot, ov, oD, oo, onn, of, ofs, od, ovk, oks⟩ wf) := ⟨MX.out.box, NF⟩
 have KP : Hid (Bxs pb w.heap.size b rb ⟨3, os, on, ot, ov, oD, oo, onn, of, ofs, od, ovk, oks⟩ wf.drew) := B0.out.go (But.of_below (Below.refl _ _).drew fun _ => False) (fun c => c) (fun c => c)
 have PQ : Hid (PX wf.drew pb b rb S R O V) := MX.out.below (Below.refl _ _).drew
 have GQ : Hid (Below w.heap.size w wf.drew) := BF.out.drew
 clear c0 NF
 refine wp_region_T (fun q => Bxs pb w.heap.size b rb ⟨3, os, on, ot, ov, oD, oo, onn, of, ofs, od, ovk, oks⟩ q) 15 (by kernel_rfl) ?_
 generalize wf.drew = q at *
 refine Ix.tk 0 ⟨some 89, .move (.tmp 0), _, _, _, _⟩ (.pointer (some ⟨pb, 0, none⟩)) [1,2,3,6,14,15] ?_ KP.out ?_
 ·intro wq hSw; go_simp
 (try simp only [zzp, zzb, zzc])
 refine Ix.tk 1 ⟨some 90, .nilCheck (.tmp 89), _, _, _, _⟩ (.pointer (some ⟨pb, 0, none⟩)) [2,3,6,14,15] ?_ KP.out ?_
 ·intro wq hSw; go_simp
 (try simp only [zzp, zzb, zzc])
 refine Ix.tk 2 ⟨some 91, .fieldAddr 29 (.tmp 90) 0, _, _, _, _⟩ (.pointer (some ⟨pb, 0, none⟩)) [3,6,14,15] ?_ KP.out ?_
 ·intro wq hSw; go_simp
 (try simp only [zzp, zzb, zzc])
 refine Ix.tk 3 ⟨some 92, .load 24 (.tmp 91), _, _, _, _⟩ (.pointer (some ⟨b, 0, none⟩)) [6,14,15] ?_ KP.out ?_
 ·intro wq hSw
  obtain ⟨x1, x2⟩ := two_cells hSw.p
  obtain ⟨y0, y1, y2, y3, y4, y5, y6, y7, y8, y9⟩ := ten_cells hSw.o
  go_simp
 (try simp only [zzp, zzb, zzc])
 refine Ix.tk 4 ⟨some 93, .fieldAddr 36 (.tmp 3) 2, _, _, _, _⟩ (.pointer (some ⟨w.heap.size, 2, none⟩)) [5,6,14,15] ?_ KP.out ?_
 ·intro wq hSw; go_simp
 (try simp only [zzp, zzb, zzc])
 refine Ix.tk 5 ⟨some 94, .load 9 (.tmp 93), _, _, _, _⟩ (.string on) [6,14,15] ?_ KP.out ?_
 ·intro wq hSw
  obtain ⟨x1, x2⟩ := two_cells hSw.p
  obtain ⟨y0, y1, y2, y3, y4, y5, y6, y7, y8, y9⟩ := ten_cells hSw.o
  go_simp
 (try simp only [zzp, zzb, zzc])
 refine Ix.tk 7 ⟨some 96, .move (.tmp 0), _, _, _, _⟩ (.pointer (some ⟨pb, 0, none⟩)) [8,9,10,13,14,15] ?_ KP.out ?_
 ·intro wq hSw; go_simp
 (try simp only [zzp, zzb, zzc])
 refine Ix.tk 8 ⟨some 97, .nilCheck (.tmp 96), _, _, _, _⟩ (.pointer (some ⟨pb, 0, none⟩)) [9,10,13,14,15] ?_ KP.out ?_
 ·intro wq hSw; go_simp
 (try simp only [zzp, zzb, zzc])
 refine Ix.tk 9 ⟨some 98, .fieldAddr 29 (.tmp 97) 1, _, _, _, _⟩ (.pointer (some ⟨pb, 1, none⟩)) [10,13,14,15] ?_ KP.out ?_
 ·intro wq hSw; go_simp
 (try simp only [zzp, zzb, zzc])
 refine Ix.tk 10 ⟨some 99, .load 26 (.tmp 98), _, _, _, _⟩ (.pointer (some ⟨rb, 0, none⟩)) [13,14,15] ?_ KP.out ?_
 ·intro wq hSw
  obtain ⟨x1, x2⟩ := two_cells hSw.p
  obtain ⟨y0, y1, y2, y3, y4, y5, y6, y7, y8, y9⟩ := ten_cells hSw.o
  go_simp
 (try simp only [zzp, zzb, zzc])
 refine Ix.tk 11 ⟨some 100, .fieldAddr 36 (.tmp 3) 2, _, _, _, _⟩ (.pointer (some ⟨w.heap.size, 2, none⟩)) [12,13,14,15] ?_ KP.out ?_
 ·intro wq hSw; go_simp
 (try simp only [zzp, zzb, zzc])
 refine Ix.tk 12 ⟨some 101, .load 9 (.tmp 100), _, _, _, _⟩ (.string on) [13,14,15] ?_ KP.out ?_
 ·intro wq hSw
  obtain ⟨x1, x2⟩ := two_cells hSw.p
  obtain ⟨y0, y1, y2, y3, y4, y5, y6, y7, y8, y9⟩ := ten_cells hSw.o
  go_simp
 (try simp only [zzp, zzb, zzc])
 refine wpAnyT_one (i := 6) (o := ⟨some 95, .call { callee := .value (.func 17), args := #[.tmp 92, .tmp 94], argTypes := #[24, 9] }, _, _, _, _⟩) (by kernel_rfl) rfl (fun K hK => ?_)
 go_simp
 go_at_call 17
 refine (hA.out q PQ.out).mono ?_
 rintro e w1 ⟨er, S1, O1, rfl, hs1, P1, G1⟩
 replace P1 := hide P1
 replace G1 := hide G1
 replace hs1 := hide hs1
 have K1 : Hid (Bxs pb w.heap.size b rb ⟨3, os, on, ot, ov, oD, oo, onn, of, ofs, od, ovk, oks⟩ w1) := ⟨P1.out.box, G1.out.but.at KP.out.o hob.out⟩
 (try go_simp)
 refine hK.out _ _ (fun _ => K1.out) ?_
 clear hK K
 (try simp only [zzp, zzb, zzc])
 refine wpAnyT_one (i := 13) (o := ⟨some 102, .call { callee := .value (.func 48), args := #[.tmp 99, .tmp 101], argTypes := #[26, 9] }, _, _, _, _⟩) (by kernel_rfl) rfl (fun K hK => ?_)
 go_simp
 go_at_call 48
 refine (hB.out w1 S1 O1 P1.out).mono ?_
 rintro e w2 ⟨V2, rfl, P2, G2⟩
 replace P2 := hide P2
 replace G2 := hide G2
 have hob1 : ¬ own pb O1 rb V w.heap.size := fun c => (G1.out.own _ c).elim hob.out (fun c => by have := heap_lt KP.out.o; omega)
 have K2 : Hid (Bxs pb w.heap.size b rb ⟨3, os, on, ot, ov, oD, oo, onn, of, ofs, od, ovk, oks⟩ w2) := ⟨P2.out.box, G2.out.but.at K1.out.o hob1⟩
 (try go_simp)
 refine hK.out _ _ (fun _ => K2.out) ?_
 clear hK K
 (try simp only [zzp, zzb, zzc])
 refine Ix.tk 14 ⟨some 103, .binOp .eql 41 (.tmp 95) (.tmp 102) 41, _, _, _, _⟩ (.bool (er == RR.2)) [15] ?_ K2.out ?_
 ·intro wq hSw
  obtain ⟨x1, x2⟩ := two_cells hSw.p
  obtain ⟨y0, y1, y2, y3, y4, y5, y6, y7, y8, y9⟩ := ten_cells hSw.o
  go_simp
 (try simp only [zzp, zzb, zzc])
 refine wpAnyT_one (i := 15) (o := ⟨some 4, .assign (.tmp 103), _, _, _, _⟩) (by kernel_rfl) rfl (fun K hK => ?_)
 go_simp
 refine hK.out _ _ (vac (by kernel_rfl)) ?_
 clear hK K
 (try simp only [zzp, zzb, zzc])
 refine wpAnyT_done (by kernel_rfl) ?_ _
 obtain ⟨bb, hbb⟩ : ∃ bb, Hid ((er == RR.2) = bb) := ⟨_, rfl⟩
 rw [hbb.out]
 go_wp2_with fail
 go_ret
 refine ⟨⟨bb, S1, _, b, rfl, by rw [hpR.out]; exact P2.out.toPW, ?_, hpS.out S1 ?_, fun hr => ?_, fun _ => rfl⟩⟩
 ·have hG := (Sgo.of_below (O := own pb O rb V) GQ.out).trans (G1.out.trans G2.out)
  first | exact hG | (rw [hQ]; exact hG)
 ·exact hs1.out.1
 ·rw [← hbb.out]
  simpa using hRel.out er S1 hs1.out hr
theorem pl_cut (o : Dop) (hk : o.kind = 4) (h : PlI W0 w pb b S R o Q) : Calls Tryz.prog 11 #[.pointer (some ⟨pb, 0, none⟩), opV o] w (PlP w pb b S R o Q) := by
 obtain ⟨rb, O, V, hx, hQ⟩ := h.pw
 have hI := hide h
 have hpS : Hid (∀ S', S' = (S.cut o.nm o.n).1 → DS.play S o S') := fun S' hs => by unfold DS.play; simp [hk, hs]
 have hpR : Hid (R.play o = (R.cut o.nm o.n).1) := by show _ = _; unfold RB.play; simp [hk]
 have HX := hide hx
 have hA : Hid (∀ q, PX q pb b rb S R O V → Calls Tryz.prog 49 #[.pointer (some ⟨b, 0, none⟩), .string o.nm, .int .i64 o.n] q fun e w' => ∃ er S' O', e = .returned (.int .i64 er) ∧ (S' = (S.cut o.nm o.n).1 ∧ er = (S.cut o.nm o.n).2) ∧ PX w' pb b rb S' R O' V ∧ Sgo q w' (own pb O rb V) (own pb O' rb V)) := fun q hq => by
  refine (cut_dskE hq.d o.nm (by have := hI.out.ok.nm; unfold maxLen; omega) o.n hI.out.ok.n.1 hI.out.ok.n.2 (by have := hI.out.cs; omega)).mono ?_
  rintro e w' ⟨rfl, O', hd, hg⟩
  obtain ⟨px, gx⟩ := hq.stepA hd hg
  exact ⟨_, _, _, rfl, ⟨rfl, rfl⟩, px, gx⟩
 have hB : Hid (∀ q S' O', PX q pb b rb S' R O' V → Calls Tryz.prog 50 #[.pointer (some ⟨rb, 0, none⟩), .string o.nm, .int .i64 o.n] q fun e w' => ∃ V', e = .returned (.int .i64 (R.cut o.nm o.n).2) ∧ PX w' pb b rb S' (R.cut o.nm o.n).1 O' V' ∧ Sgo q w' (own pb O' rb V) (own pb O' rb V')) := fun q S' O' hq => by
  refine (cut_rm hq.r hI.out.ri.ok (by have := hI.out.cr; omega) hI.out.ri.dirF hI.out.ri.la o.nm (by have := hI.out.ok.nm; unfold maxLen; omega) o.n).mono ?_
  rintro e w' ⟨rfl, hg⟩
  obtain ⟨V', px, gx⟩ := hq.stepB hg
  exact ⟨V', rfl, px, gx⟩
 have hRel : Hid (∀ er S', (S' = (S.cut o.nm o.n).1 ∧ er = (S.cut o.nm o.n).2) → Rel S R → er = (R.cut o.nm o.n).2) := fun er S' hs hr => by
  obtain ⟨_, rfl⟩ := hs; exact (hr.cut o.nm o.n).2
 obtain ⟨RR, hRR⟩ : ∃ RR, Hid ((R.cut o.nm o.n) = RR) := ⟨_, rfl⟩
 rw [hRR.out] at hB hRel hpR
 obtain ⟨ok, os, on, ot, ov, oD, oo, onn, of, ofs, od, ovk, oks⟩ := o
 dsimp only at hk hA hB hpS hRel
 subst hk
 have BF := hide (box_below w (.cells #[.int .i64 4, .bool os, .string on, .string ot, ov, .int .i64 oo, .int .i64 onn, of, .int .i64 od, ovk] 36))
 have NF := heap_alloc_new w (.cells #[.int .i64 4, .bool os, .string on, .string ot, ov, .int .i64 oo, .int .i64 onn, of, .int .i64 od, ovk] 36)
 have hlt := hide hx.lt
 clear hx
 unfold opV
 go_enter Tryz.func11, Tryz.ntmps11
 obtain ⟨wf, hwf⟩ : ∃ wf, Hid (w.alloc (.cells #[.int .i64 4, .bool os, .string on, .string ot, ov, .int .i64 oo, .int .i64 onn, of, .int .i64 od, ovk] 36) = wf) := ⟨_, rfl⟩
 have c0 : (w.alloc (.cells #[.int .i64 4, .bool os, .string on, .string ot, ov, .int .i64 oo, .int .i64 onn, of, .int .i64 od, ovk] 36)).cell? ⟨w.heap.size, 0, none⟩ = some (.int .i64 4) := (ten_cells NF).1
 go_upto_region 14 with fail
 rw [hwf.out] at BF NF ⊢
 have MX := hide (HX.out.below BF.out)
 have hob : Hid (¬ own pb O rb V w.heap.size) := fun c => Nat.lt_irrefl _ (hlt.out _ c)
 have B0 : Hid (Bxs pb w.heap.size b rb ⟨4, os, on, ot, ov, oD, oo, onn, of, ofs, od, ovk, oks⟩ wf) := ⟨MX.out.box, NF⟩
 have KP : Hid (Bxs pb w.heap.size b rb ⟨4, os, on, ot, ov, oD, oo, onn, of, ofs, od, ovk, oks⟩ wf.drew) := B0.out.go (But.of_below (Below.refl _ _).drew fun _ => False) (fun c => c) (fun c => c)
 have PQ : Hid (PX wf.drew pb b rb S R O V) := MX.out.below (Below.refl _ _).drew
 have GQ : Hid (Below w.heap.size w wf.drew) := BF.out.drew
 clear c0 NF
 refine wp_region_T (fun q => Bxs pb w.heap.size b rb ⟨4, os, on, ot, ov, oD, oo, onn, of, ofs, od, ovk, oks⟩ q) 19 (by kernel_rfl) ?_
 generalize wf.drew = q at *
 refine Ix.tk 0 ⟨some 106, .move (.tmp 0), _, _, _, _⟩ (.pointer (some ⟨pb, 0, none⟩)) [1,2,3,8,18,19] ?_ KP.out ?_
 ·intro wq hSw; go_simp
 (try simp only [zzp, zzb, zzc])
 refine Ix.tk 1 ⟨some 107, .nilCheck (.tmp 106), _, _, _, _⟩ (.pointer (some ⟨pb, 0, none⟩)) [2,3,8,18,19] ?_ KP.out ?_
 ·intro wq hSw; go_simp
 (try simp only [zzp, zzb, zzc])
 refine Ix.tk 2 ⟨some 108, .fieldAddr 29 (.tmp 107) 0, _, _, _, _⟩ (.pointer (some ⟨pb, 0, none⟩)) [3,8,18,19] ?_ KP.out ?_
 ·intro wq hSw; go_simp
 (try simp only [zzp, zzb, zzc])
 refine Ix.tk 3 ⟨some 109, .load 24 (.tmp 108), _, _, _, _⟩ (.pointer (some ⟨b, 0, none⟩)) [8,18,19] ?_ KP.out ?_
 ·intro wq hSw
  obtain ⟨x1, x2⟩ := two_cells hSw.p
  obtain ⟨y0, y1, y2, y3, y4, y5, y6, y7, y8, y9⟩ := ten_cells hSw.o
  go_simp
 (try simp only [zzp, zzb, zzc])
 refine Ix.tk 4 ⟨some 110, .fieldAddr 36 (.tmp 3) 2, _, _, _, _⟩ (.pointer (some ⟨w.heap.size, 2, none⟩)) [5,8,18,19] ?_ KP.out ?_
 ·intro wq hSw; go_simp
 (try simp only [zzp, zzb, zzc])
 refine Ix.tk 5 ⟨some 111, .load 9 (.tmp 110), _, _, _, _⟩ (.string on) [8,18,19] ?_ KP.out ?_
 ·intro wq hSw
  obtain ⟨x1, x2⟩ := two_cells hSw.p
  obtain ⟨y0, y1, y2, y3, y4, y5, y6, y7, y8, y9⟩ := ten_cells hSw.o
  go_simp
 (try simp only [zzp, zzb, zzc])
 refine Ix.tk 6 ⟨some 112, .fieldAddr 36 (.tmp 3) 6, _, _, _, _⟩ (.pointer (some ⟨w.heap.size, 6, none⟩)) [7,8,18,19] ?_ KP.out ?_
 ·intro wq hSw; go_simp
 (try simp only [zzp, zzb, zzc])
 refine Ix.tk 7 ⟨some 113, .load 3 (.tmp 112), _, _, _, _⟩ (.int .i64 onn) [8,18,19] ?_ KP.out ?_
 ·intro wq hSw
  obtain ⟨x1, x2⟩ := two_cells hSw.p
  obtain ⟨y0, y1, y2, y3, y4, y5, y6, y7, y8, y9⟩ := ten_cells hSw.o
  go_simp
 (try simp only [zzp, zzb, zzc])
 refine Ix.tk 9 ⟨some 115, .move (.tmp 0), _, _, _, _⟩ (.pointer (some ⟨pb, 0, none⟩)) [10,11,12,17,18,19] ?_ KP.out ?_
 ·intro wq hSw; go_simp
 (try simp only [zzp, zzb, zzc])
 refine Ix.tk 10 ⟨some 116, .nilCheck (.tmp 115), _, _, _, _⟩ (.pointer (some ⟨pb, 0, none⟩)) [11,12,17,18,19] ?_ KP.out ?_
 ·intro wq hSw; go_simp
 (try simp only [zzp, zzb, zzc])
 refine Ix.tk 11 ⟨some 117, .fieldAddr 29 (.tmp 116) 1, _, _, _, _⟩ (.pointer (some ⟨pb, 1, none⟩)) [12,17,18,19] ?_ KP.out ?_
 ·intro wq hSw; go_simp
 (try simp only [zzp, zzb, zzc])
 refine Ix.tk 12 ⟨some 118, .load 26 (.tmp 117), _, _, _, _⟩ (.pointer (some ⟨rb, 0, none⟩)) [17,18,19] ?_ KP.out ?_
 ·intro wq hSw
  obtain ⟨x1, x2⟩ := two_cells hSw.p
  obtain ⟨y0, y1, y2, y3, y4, y5, y6, y7, y8, y9⟩ := ten_cells hSw.o
  go_simp
 (try simp only [zzp, zzb, zzc])
 refine Ix.tk 13 ⟨some 119, .fieldAddr 36 (.tmp 3) 2, _, _, _, _⟩ (.pointer (some ⟨w.heap.size, 2, none⟩)) [14,17,18,19] ?_ KP.out ?_
 ·intro wq hSw; go_simp
 (try simp only [zzp, zzb, zzc])
 refine Ix.tk 14 ⟨some 120, .load 9 (.tmp 119), _, _, _, _⟩ (.string on) [17,18,19] ?_ KP.out ?_
 ·intro wq hSw
  obtain ⟨x1, x2⟩ := two_cells hSw.p
  obtain ⟨y0, y1, y2, y3, y4, y5, y6, y7, y8, y9⟩ := ten_cells hSw.o
  go_simp
 (try simp only [zzp, zzb, zzc])
 refine Ix.tk 15 ⟨some 121, .fieldAddr 36 (.tmp 3) 6, _, _, _, _⟩ (.pointer (some ⟨w.heap.size, 6, none⟩)) [16,17,18,19] ?_ KP.out ?_
 ·intro wq hSw; go_simp
 (try simp only [zzp, zzb, zzc])
 refine Ix.tk 16 ⟨some 122, .load 3 (.tmp 121), _, _, _, _⟩ (.int .i64 onn) [17,18,19] ?_ KP.out ?_
 ·intro wq hSw
  obtain ⟨x1, x2⟩ := two_cells hSw.p
  obtain ⟨y0, y1, y2, y3, y4, y5, y6, y7, y8, y9⟩ := ten_cells hSw.o
  go_simp
 (try simp only [zzp, zzb, zzc])
 refine wpAnyT_one (i := 8) (o := ⟨some 114, .call { callee := .value (.func 49), args := #[.tmp 109, .tmp 111, .tmp 113], argTypes := #[24, 9, 3] }, _, _, _, _⟩) (by kernel_rfl) rfl (fun K hK => ?_)
 go_simp
 go_at_call 49
 refine (hA.out q PQ.out).mono ?_
 rintro e w1 ⟨er, S1, O1, rfl, hs1, P1, G1⟩
 replace P1 := hide P1
 replace G1 := hide G1
 replace hs1 := hide hs1
 have K1 : Hid (Bxs pb w.heap.size b rb ⟨4, os, on, ot, ov, oD, oo, onn, of, ofs, od, ovk, oks⟩ w1) := ⟨P1.out.box, G1.out.but.at KP.out.o hob.out⟩
 (try go_simp)
 refine hK.out _ _ (fun _ => K1.out) ?_
 clear hK K
 (try simp only [zzp, zzb, zzc])
 refine wpAnyT_one (i := 17) (o := ⟨some 123, .call { callee := .value (.func 50), args := #[.tmp 118, .tmp 120, .tmp 122], argTypes := #[26, 9, 3] }, _, _, _, _⟩) (by kernel_rfl) rfl (fun K hK => ?_)
 go_simp
 go_at_call 50
 refine (hB.out w1 S1 O1 P1.out).mono ?_
 rintro e w2 ⟨V2, rfl, P2, G2⟩
 replace P2 := hide P2
 replace G2 := hide G2
 have hob1 : ¬ own pb O1 rb V w.heap.size := fun c => (G1.out.own _ c).elim hob.out (fun c => by have := heap_lt KP.out.o; omega)
 have K2 : Hid (Bxs pb w.heap.size b rb ⟨4, os, on, ot, ov, oD, oo, onn, of, ofs, od, ovk, oks⟩ w2) := ⟨P2.out.box, G2.out.but.at K1.out.o hob1⟩
 (try go_simp)
 refine hK.out _ _ (fun _ => K2.out) ?_
 clear hK K
 (try simp only [zzp, zzb, zzc])
 refine Ix.tk 18 ⟨some 124, .binOp .eql 41 (.tmp 114) (.tmp 123) 41, _, _, _, _⟩ (.bool (er == RR.2)) [19] ?_ K2.out ?_
 ·intro wq hSw
  obtain ⟨x1, x2⟩ := two_cells hSw.p
  obtain ⟨y0, y1, y2, y3, y4, y5, y6, y7, y8, y9⟩ := ten_cells hSw.o
  go_simp
 (try simp only [zzp, zzb, zzc])
 refine wpAnyT_one (i := 19) (o := ⟨some 4, .assign (.tmp 124), _, _, _, _⟩) (by kernel_rfl) rfl (fun K hK => ?_)
 go_simp
 refine hK.out _ _ (vac (by kernel_rfl)) ?_
 clear hK K
 (try simp only [zzp, zzb, zzc])
 refine wpAnyT_done (by kernel_rfl) ?_ _
 obtain ⟨bb, hbb⟩ : ∃ bb, Hid ((er == RR.2) = bb) := ⟨_, rfl⟩
 rw [hbb.out]
 go_wp2_with fail
 go_ret
 refine ⟨⟨bb, S1, _, b, rfl, by rw [hpR.out]; exact P2.out.toPW, ?_, hpS.out S1 ?_, fun hr => ?_, fun _ => rfl⟩⟩
 ·have hG := (Sgo.of_below (O := own pb O rb V) GQ.out).trans (G1.out.trans G2.out)
  first | exact hG | (rw [hQ]; exact hG)
 ·exact hs1.out.1
 ·rw [← hbb.out]
  simpa using hRel.out er S1 hs1.out hr
theorem pl_rename (o : Dop) (hk : o.kind = 5) (h : PlI W0 w pb b S R o Q) : Calls Tryz.prog 11 #[.pointer (some ⟨pb, 0, none⟩), opV o] w (PlP w pb b S R o Q) := by
 obtain ⟨rb, O, V, hx, hQ⟩ := h.pw
 have hI := hide h
 have hpS : Hid (∀ S', S' = (S.rename o.nm o.tn).1 → DS.play S o S') := fun S' hs => by unfold DS.play; simp [hk, hs]
 have hpR : Hid (R.play o = (R.rename o.nm o.tn).1) := by show _ = _; unfold RB.play; simp [hk]
 have HX := hide hx
 have hA : Hid (∀ q, PX q pb b rb S R O V → Calls Tryz.prog 51 #[.pointer (some ⟨b, 0, none⟩), .string o.nm, .string o.tn] q fun e w' => ∃ er S' O', e = .returned (.int .i64 er) ∧ (S' = (S.rename o.nm o.tn).1 ∧ er = (S.rename o.nm o.tn).2) ∧ PX w' pb b rb S' R O' V ∧ Sgo q w' (own pb O rb V) (own pb O' rb V)) := fun q hq => by
  refine (rename_dsk hq.d o.nm o.tn (by have := hI.out.ok.nm; omega) (by have := hI.out.ok.tn; omega) (by have := hI.out.cs; omega)).mono ?_
  rintro e w' ⟨rfl, O', hd, hg⟩
  obtain ⟨px, gx⟩ := hq.stepA hd hg
  exact ⟨_, _, _, rfl, ⟨rfl, rfl⟩, px, gx⟩
 have hB : Hid (∀ q S' O', PX q pb b rb S' R O' V → Calls Tryz.prog 52 #[.pointer (some ⟨rb, 0, none⟩), .string o.nm, .string o.tn] q fun e w' => ∃ V', e = .returned (.int .i64 (R.rename o.nm o.tn).2) ∧ PX w' pb b rb S' (R.rename o.nm o.tn).1 O' V' ∧ Sgo q w' (own pb O' rb V) (own pb O' rb V')) := fun q S' O' hq => by
  refine (rename_rm hq.r hI.out.ri.ok (by have := hI.out.cr; omega) (by have := hI.out.ri.dlen; omega) (by have := hI.out.ri.cnt; have := hI.out.cr; omega) (findN_le hI.out.ri hI.out.cr) o.nm o.tn (by have := hI.out.ok.nm; unfold maxLen; omega) (by have := hI.out.ok.tn; unfold maxLen; omega)).mono ?_
  rintro e w' ⟨rfl, hg⟩
  obtain ⟨V', px, gx⟩ := hq.stepB hg
  exact ⟨V', rfl, px, gx⟩
 have hRel : Hid (∀ er S', (S' = (S.rename o.nm o.tn).1 ∧ er = (S.rename o.nm o.tn).2) → Rel S R → er = (R.rename o.nm o.tn).2) := fun er S' hs hr => by
  obtain ⟨_, rfl⟩ := hs; exact (hr.rename o.nm o.tn).2
 obtain ⟨RR, hRR⟩ : ∃ RR, Hid ((R.rename o.nm o.tn) = RR) := ⟨_, rfl⟩
 rw [hRR.out] at hB hRel hpR
 obtain ⟨ok, os, on, ot, ov, oD, oo, onn, of, ofs, od, ovk, oks⟩ := o
 dsimp only at hk hA hB hpS hRel
 subst hk
 have BF := hide (box_below w (.cells #[.int .i64 5, .bool os, .string on, .string ot, ov, .int .i64 oo, .int .i64 onn, of, .int .i64 od, ovk] 36))
 have NF := heap_alloc_new w (.cells #[.int .i64 5, .bool os, .string on, .string ot, ov, .int .i64 oo, .int .i64 onn, of, .int .i64 od, ovk] 36)
 have hlt := hide hx.lt
 clear hx
 unfold opV
 go_enter Tryz.func11, Tryz.ntmps11
 obtain ⟨wf, hwf⟩ : ∃ wf, Hid (w.alloc (.cells #[.int .i64 5, .bool os, .string on, .string ot, ov, .int .i64 oo, .int .i64 onn, of, .int .i64 od, ovk] 36) = wf) := ⟨_, rfl⟩
 have c0 : (w.alloc (.cells #[.int .i64 5, .bool os, .string on, .string ot, ov, .int .i64 oo, .int .i64 onn, of, .int .i64 od, ovk] 36)).cell? ⟨w.heap.size, 0, none⟩ = some (.int .i64 5) := (ten_cells NF).1
 go_upto_region 16 with fail
 rw [hwf.out] at BF NF ⊢
 have MX := hide (HX.out.below BF.out)
 have hob : Hid (¬ own pb O rb V w.heap.size) := fun c => Nat.lt_irrefl _ (hlt.out _ c)
 have B0 : Hid (Bxs pb w.heap.size b rb ⟨5, os, on, ot, ov, oD, oo, onn, of, ofs, od, ovk, oks⟩ wf) := ⟨MX.out.box, NF⟩
 have KP : Hid (Bxs pb w.heap.size b rb ⟨5, os, on, ot, ov, oD, oo, onn, of, ofs, od, ovk, oks⟩ wf.drew) := B0.out.go (But.of_below (Below.refl _ _).drew fun _ => False) (fun c => c) (fun c => c)
 have PQ : Hid (PX wf.drew pb b rb S R O V) := MX.out.below (Below.refl _ _).drew
 have GQ : Hid (Below w.heap.size w wf.drew) := BF.out.drew
 clear c0 NF
 refine wp_region_T (fun q => Bxs pb w.heap.size b rb ⟨5, os, on, ot, ov, oD, oo, onn, of, ofs, od, ovk, oks⟩ q) 19 (by kernel_rfl) ?_
 generalize wf.drew = q at *
 refine Ix.tk 0 ⟨some 127, .move (.tmp 0), _, _, _, _⟩ (.pointer (some ⟨pb, 0, none⟩)) [1,2,3,8,18,19] ?_ KP.out ?_
 ·intro wq hSw; go_simp
 (try simp only [zzp, zzb, zzc])
 refine Ix.tk 1 ⟨some 128, .nilCheck (.tmp 127), _, _, _, _⟩ (.pointer (some ⟨pb, 0, none⟩)) [2,3,8,18,19] ?_ KP.out ?_
 ·intro wq hSw; go_simp
 (try simp only [zzp, zzb, zzc])
 refine Ix.tk 2 ⟨some 129, .fieldAddr 29 (.tmp 128) 0, _, _, _, _⟩ (.pointer (some ⟨pb, 0, none⟩)) [3,8,18,19] ?_ KP.out ?_
 ·intro wq hSw; go_simp
 (try simp only [zzp, zzb, zzc])
 refine Ix.tk 3 ⟨some 130, .load 24 (.tmp 129), _, _, _, _⟩ (.pointer (some ⟨b, 0, none⟩)) [8,18,19] ?_ KP.out ?_
 ·intro wq hSw
  obtain ⟨x1, x2⟩ := two_cells hSw.p
  obtain ⟨y0, y1, y2, y3, y4, y5, y6, y7, y8, y9⟩ := ten_cells hSw.o
  go_simp
 (try simp only [zzp, zzb, zzc])
 refine Ix.tk 4 ⟨some 131, .fieldAddr 36 (.tmp 3) 2, _, _, _, _⟩ (.pointer (some ⟨w.heap.size, 2, none⟩)) [5,8,18,19] ?_ KP.out ?_
 ·intro wq hSw; go_simp
 (try simp only [zzp, zzb, zzc])
 refine Ix.tk 5 ⟨some 132, .load 9 (.tmp 131), _, _, _, _⟩ (.string on) [8,18,19] ?_ KP.out ?_
 ·intro wq hSw
  obtain ⟨x1, x2⟩ := two_cells hSw.p
  obtain ⟨y0, y1, y2, y3, y4, y5, y6, y7, y8, y9⟩ := ten_cells hSw.o
  go_simp
 (try simp only [zzp, zzb, zzc])
 refine Ix.tk 6 ⟨some 133, .fieldAddr 36 (.tmp 3) 3, _, _, _, _⟩ (.pointer (some ⟨w.heap.size, 3, none⟩)) [7,8,18,19] ?_ KP.out ?_
 ·intro wq hSw; go_simp
 (try simp only [zzp, zzb, zzc])
 refine Ix.tk 7 ⟨some 134, .load 9 (.tmp 133), _, _, _, _⟩ (.string ot) [8,18,19] ?_ KP.out ?_
 ·intro wq hSw
  obtain ⟨x1, x2⟩ := two_cells hSw.p
  obtain ⟨y0, y1, y2, y3, y4, y5, y6, y7, y8, y9⟩ := ten_cells hSw.o
  go_simp
 (try simp only [zzp, zzb, zzc])
 refine Ix.tk 9 ⟨some 136, .move (.tmp 0), _, _, _, _⟩ (.pointer (some ⟨pb, 0, none⟩)) [10,11,12,17,18,19] ?_ KP.out ?_
 ·intro wq hSw; go_simp
 (try simp only [zzp, zzb, zzc])
 refine Ix.tk 10 ⟨some 137, .nilCheck (.tmp 136), _, _, _, _⟩ (.pointer (some ⟨pb, 0, none⟩)) [11,12,17,18,19] ?_ KP.out ?_
 ·intro wq hSw; go_simp
 (try simp only [zzp, zzb, zzc])
 refine Ix.tk 11 ⟨some 138, .fieldAddr 29 (.tmp 137) 1, _, _, _, _⟩ (.pointer (some ⟨pb, 1, none⟩)) [12,17,18,19] ?_ KP.out ?_
 ·intro wq hSw; go_simp
 (try simp only [zzp, zzb, zzc])
 refine Ix.tk 12 ⟨some 139, .load 26 (.tmp 138), _, _, _, _⟩ (.pointer (some ⟨rb, 0, none⟩)) [17,18,19] ?_ KP.out ?_
 ·intro wq hSw
  obtain ⟨x1, x2⟩ := two_cells hSw.p
  obtain ⟨y0, y1, y2, y3, y4, y5, y6, y7, y8, y9⟩ := ten_cells hSw.o
  go_simp
 (try simp only [zzp, zzb, zzc])
 refine Ix.tk 13 ⟨some 140, .fieldAddr 36 (.tmp 3) 2, _, _, _, _⟩ (.pointer (some ⟨w.heap.size, 2, none⟩)) [14,17,18,19] ?_ KP.out ?_
 ·intro wq hSw; go_simp
 (try simp only [zzp, zzb, zzc])
 refine Ix.tk 14 ⟨some 141, .load 9 (.tmp 140), _, _, _, _⟩ (.string on) [17,18,19] ?_ KP.out ?_
 ·intro wq hSw
  obtain ⟨x1, x2⟩ := two_cells hSw.p
  obtain ⟨y0, y1, y2, y3, y4, y5, y6, y7, y8, y9⟩ := ten_cells hSw.o
  go_simp
 (try simp only [zzp, zzb, zzc])
 refine Ix.tk 15 ⟨some 142, .fieldAddr 36 (.tmp 3) 3, _, _, _, _⟩ (.pointer (some ⟨w.heap.size, 3, none⟩)) [16,17,18,19] ?_ KP.out ?_
 ·intro wq hSw; go_simp
 (try simp only [zzp, zzb, zzc])
 refine Ix.tk 16 ⟨some 143, .load 9 (.tmp 142), _, _, _, _⟩ (.string ot) [17,18,19] ?_ KP.out ?_
 ·intro wq hSw
  obtain ⟨x1, x2⟩ := two_cells hSw.p
  obtain ⟨y0, y1, y2, y3, y4, y5, y6, y7, y8, y9⟩ := ten_cells hSw.o
  go_simp
 (try simp only [zzp, zzb, zzc])
 refine wpAnyT_one (i := 8) (o := ⟨some 135, .call { callee := .value (.func 51), args := #[.tmp 130, .tmp 132, .tmp 134], argTypes := #[24, 9, 9] }, _, _, _, _⟩) (by kernel_rfl) rfl (fun K hK => ?_)
 go_simp
 go_at_call 51
 refine (hA.out q PQ.out).mono ?_
 rintro e w1 ⟨er, S1, O1, rfl, hs1, P1, G1⟩
 replace P1 := hide P1
 replace G1 := hide G1
 replace hs1 := hide hs1
 have K1 : Hid (Bxs pb w.heap.size b rb ⟨5, os, on, ot, ov, oD, oo, onn, of, ofs, od, ovk, oks⟩ w1) := ⟨P1.out.box, G1.out.but.at KP.out.o hob.out⟩
 (try go_simp)
 refine hK.out _ _ (fun _ => K1.out) ?_
 clear hK K
 (try simp only [zzp, zzb, zzc])
 refine wpAnyT_one (i := 17) (o := ⟨some 144, .call { callee := .value (.func 52), args := #[.tmp 139, .tmp 141, .tmp 143], argTypes := #[26, 9, 9] }, _, _, _, _⟩) (by kernel_rfl) rfl (fun K hK => ?_)
 go_simp
 go_at_call 52
 refine (hB.out w1 S1 O1 P1.out).mono ?_
 rintro e w2 ⟨V2, rfl, P2, G2⟩
 replace P2 := hide P2
 replace G2 := hide G2
 have hob1 : ¬ own pb O1 rb V w.heap.size := fun c => (G1.out.own _ c).elim hob.out (fun c => by have := heap_lt KP.out.o; omega)
 have K2 : Hid (Bxs pb w.heap.size b rb ⟨5, os, on, ot, ov, oD, oo, onn, of, ofs, od, ovk, oks⟩ w2) := ⟨P2.out.box, G2.out.but.at K1.out.o hob1⟩
 (try go_simp)
 refine hK.out _ _ (fun _ => K2.out) ?_
 clear hK K
 (try simp only [zzp, zzb, zzc])
 refine Ix.tk 18 ⟨some 145, .binOp .eql 41 (.tmp 135) (.tmp 144) 41, _, _, _, _⟩ (.bool (er == RR.2)) [19] ?_ K2.out ?_
 ·intro wq hSw
  obtain ⟨x1, x2⟩ := two_cells hSw.p
  obtain ⟨y0, y1, y2, y3, y4, y5, y6, y7, y8, y9⟩ := ten_cells hSw.o
  go_simp
 (try simp only [zzp, zzb, zzc])
 refine wpAnyT_one (i := 19) (o := ⟨some 4, .assign (.tmp 145), _, _, _, _⟩) (by kernel_rfl) rfl (fun K hK => ?_)
 go_simp
 refine hK.out _ _ (vac (by kernel_rfl)) ?_
 clear hK K
 (try simp only [zzp, zzb, zzc])
 refine wpAnyT_done (by kernel_rfl) ?_ _
 obtain ⟨bb, hbb⟩ : ∃ bb, Hid ((er == RR.2) = bb) := ⟨_, rfl⟩
 rw [hbb.out]
 go_wp2_with fail
 go_ret
 refine ⟨⟨bb, S1, _, b, rfl, by rw [hpR.out]; exact P2.out.toPW, ?_, hpS.out S1 ?_, fun hr => ?_, fun _ => rfl⟩⟩
 ·have hG := (Sgo.of_below (O := own pb O rb V) GQ.out).trans (G1.out.trans G2.out)
  first | exact hG | (rw [hQ]; exact hG)
 ·exact hs1.out.1
 ·rw [← hbb.out]
  simpa using hRel.out er S1 hs1.out hr
theorem pl_remove (o : Dop) (hk : o.kind = 6) (h : PlI W0 w pb b S R o Q) : Calls Tryz.prog 11 #[.pointer (some ⟨pb, 0, none⟩), opV o] w (PlP w pb b S R o Q) := by
 obtain ⟨rb, O, V, hx, hQ⟩ := h.pw
 have hI := hide h
 have hpS : Hid (∀ S', S' = (S.remove o.nm).1 → DS.play S o S') := fun S' hs => by unfold DS.play; simp [hk, hs]
 have hpR : Hid (R.play o = (R.remove o.nm).1) := by show _ = _; unfold RB.play; simp [hk]
 have HX := hide hx
 have hA : Hid (∀ q, PX q pb b rb S R O V → Calls Tryz.prog 53 #[.pointer (some ⟨b, 0, none⟩), .string o.nm] q fun e w' => ∃ er S' O', e = .returned (.int .i64 er) ∧ (S' = (S.remove o.nm).1 ∧ er = (S.remove o.nm).2) ∧ PX w' pb b rb S' R O' V ∧ Sgo q w' (own pb O rb V) (own pb O' rb V)) := fun q hq => by
  refine (remove_dsk hq.d o.nm (by have := hI.out.ok.nm; omega) (by have := hI.out.cs; omega)).mono ?_
  rintro e w' ⟨rfl, O', hd, hg⟩
  obtain ⟨px, gx⟩ := hq.stepA hd hg
  exact ⟨_, _, _, rfl, ⟨rfl, rfl⟩, px, gx⟩
 have hB : Hid (∀ q S' O', PX q pb b rb S' R O' V → Calls Tryz.prog 54 #[.pointer (some ⟨rb, 0, none⟩), .string o.nm] q fun e w' => ∃ V', e = .returned (.int .i64 (R.remove o.nm).2) ∧ PX w' pb b rb S' (R.remove o.nm).1 O' V' ∧ Sgo q w' (own pb O' rb V) (own pb O' rb V')) := fun q S' O' hq => by
  refine (remove_rm hq.r hI.out.ri.ok (by have := hI.out.cr; omega) (by have := hI.out.ri.dlen; omega) (by have := hI.out.ri.cnt; have := hI.out.cr; omega) o.nm (by have := hI.out.ok.nm; unfold maxLen; omega)).mono ?_
  rintro e w' ⟨rfl, hg⟩
  obtain ⟨V', px, gx⟩ := hq.stepB hg
  exact ⟨V', rfl, px, gx⟩
 have hRel : Hid (∀ er S', (S' = (S.remove o.nm).1 ∧ er = (S.remove o.nm).2) → Rel S R → er = (R.remove o.nm).2) := fun er S' hs hr => by
  obtain ⟨_, rfl⟩ := hs; exact (hr.remove o.nm).2
 obtain ⟨RR, hRR⟩ : ∃ RR, Hid ((R.remove o.nm) = RR) := ⟨_, rfl⟩
 rw [hRR.out] at hB hRel hpR
 obtain ⟨ok, os, on, ot, ov, oD, oo, onn, of, ofs, od, ovk, oks⟩ := o
 dsimp only at hk hA hB hpS hRel
 subst hk
 have BF := hide (box_below w (.cells #[.int .i64 6, .bool os, .string on, .string ot, ov, .int .i64 oo, .int .i64 onn, of, .int .i64 od, ovk] 36))
 have NF := heap_alloc_new w (.cells #[.int .i64 6, .bool os, .string on, .string ot, ov, .int .i64 oo, .int .i64 onn, of, .int .i64 od, ovk] 36)
 have hlt := hide hx.lt
 clear hx
 unfold opV
 go_enter Tryz.func11, Tryz.ntmps11
 obtain ⟨wf, hwf⟩ : ∃ wf, Hid (w.alloc (.cells #[.int .i64 6, .bool os, .string on, .string ot, ov, .int .i64 oo, .int .i64 onn, of, .int .i64 od, ovk] 36) = wf) := ⟨_, rfl⟩
 have c0 : (w.alloc (.cells #[.int .i64 6, .bool os, .string on, .string ot, ov, .int .i64 oo, .int .i64 onn, of, .int .i64 od, ovk] 36)).cell? ⟨w.heap.size, 0, none⟩ = some (.int .i64 6) := (ten_cells NF).1
 go_upto_region 18 with fail
 rw [hwf.out] at BF NF ⊢
 have MX := hide (HX.out.below BF.out)
 have hob : Hid (¬ own pb O rb V w.heap.size) := fun c => Nat.lt_irrefl _ (hlt.out _ c)
 have B0 : Hid (Bxs pb w.heap.size b rb ⟨6, os, on, ot, ov, oD, oo, onn, of, ofs, od, ovk, oks⟩ wf) := ⟨MX.out.box, NF⟩
 have KP : Hid (Bxs pb w.heap.size b rb ⟨6, os, on, ot, ov, oD, oo, onn, of, ofs, od, ovk, oks⟩ wf.drew) := B0.out.go (But.of_below (Below.refl _ _).drew fun _ => False) (fun c => c) (fun c => c)
 have PQ : Hid (PX wf.drew pb b rb S R O V) := MX.out.below (Below.refl _ _).drew
 have GQ : Hid (Below w.heap.size w wf.drew) := BF.out.drew
 clear c0 NF
 refine wp_region_T (fun q => Bxs pb w.heap.size b rb ⟨6, os, on, ot, ov, oD, oo, onn, of, ofs, od, ovk, oks⟩ q) 15 (by kernel_rfl) ?_
 generalize wf.drew = q at *
 refine Ix.tk 0 ⟨some 148, .move (.tmp 0), _, _, _, _⟩ (.pointer (some ⟨pb, 0, none⟩)) [1,2,3,6,14,15] ?_ KP.out ?_
 ·intro wq hSw; go_simp
 (try simp only [zzp, zzb, zzc])
 refine Ix.tk 1 ⟨some 149, .nilCheck (.tmp 148), _, _, _, _⟩ (.pointer (some ⟨pb, 0, none⟩)) [2,3,6,14,15] ?_ KP.out ?_
 ·intro wq hSw; go_simp
 (try simp only [zzp, zzb, zzc])
 refine Ix.tk 2 ⟨some 150, .fieldAddr 29 (.tmp 149) 0, _, _, _, _⟩ (.pointer (some ⟨pb, 0, none⟩)) [3,6,14,15] ?_ KP.out ?_
 ·intro wq hSw; go_simp
 (try simp only [zzp, zzb, zzc])
 refine Ix.tk 3 ⟨some 151, .load 24 (.tmp 150), _, _, _, _⟩ (.pointer (some ⟨b, 0, none⟩)) [6,14,15] ?_ KP.out ?_
 ·intro wq hSw
  obtain ⟨x1, x2⟩ := two_cells hSw.p
  obtain ⟨y0, y1, y2, y3, y4, y5, y6, y7, y8, y9⟩ := ten_cells hSw.o
  go_simp
 (try simp only [zzp, zzb, zzc])
 refine Ix.tk 4 ⟨some 152, .fieldAddr 36 (.tmp 3) 2, _, _, _, _⟩ (.pointer (some ⟨w.heap.size, 2, none⟩)) [5,6,14,15] ?_ KP.out ?_
 ·intro wq hSw; go_simp
 (try simp only [zzp, zzb, zzc])
 refine Ix.tk 5 ⟨some 153, .load 9 (.tmp 152), _, _, _, _⟩ (.string on) [6,14,15] ?_ KP.out ?_
 ·intro wq hSw
  obtain ⟨x1, x2⟩ := two_cells hSw.p
  obtain ⟨y0, y1, y2, y3, y4, y5, y6, y7, y8, y9⟩ := ten_cells hSw.o
  go_simp
 (try simp only [zzp, zzb, zzc])
 refine Ix.tk 7 ⟨some 155, .move (.tmp 0), _, _, _, _⟩ (.pointer (some ⟨pb, 0, none⟩)) [8,9,10,13,14,15] ?_ KP.out ?_
 ·intro wq hSw; go_simp
 (try simp only [zzp, zzb, zzc])
 refine Ix.tk 8 ⟨some 156, .nilCheck (.tmp 155), _, _, _, _⟩ (.pointer (some ⟨pb, 0, none⟩)) [9,10,13,14,15] ?_ KP.out ?_
 ·intro wq hSw; go_simp
 (try simp only [zzp, zzb, zzc])
 refine Ix.tk 9 ⟨some 157, .fieldAddr 29 (.tmp 156) 1, _, _, _, _⟩ (.pointer (some ⟨pb, 1, none⟩)) [10,13,14,15] ?_ KP.out ?_
 ·intro wq hSw; go_simp
 (try simp only [zzp, zzb, zzc])
 refine Ix.tk 10 ⟨some 158, .load 26 (.tmp 157), _, _, _, _⟩ (.pointer (some ⟨rb, 0, none⟩)) [13,14,15] ?_ KP.out ?_
 ·intro wq hSw
  obtain ⟨x1, x2⟩ := two_cells hSw.p
  obtain ⟨y0, y1, y2, y3, y4, y5, y6, y7, y8, y9⟩ := ten_cells hSw.o
  go_simp
 (try simp only [zzp, zzb, zzc])
 refine Ix.tk 11 ⟨some 159, .fieldAddr 36 (.tmp 3) 2, _, _, _, _⟩ (.pointer (some ⟨w.heap.size, 2, none⟩)) [12,13,14,15] ?_ KP.out ?_
 ·intro wq hSw; go_simp
 (try simp only [zzp, zzb, zzc])
 refine Ix.tk 12 ⟨some 160, .load 9 (.tmp 159), _, _, _, _⟩ (.string on) [13,14,15] ?_ KP.out ?_
 ·intro wq hSw
  obtain ⟨x1, x2⟩ := two_cells hSw.p
  obtain ⟨y0, y1, y2, y3, y4, y5, y6, y7, y8, y9⟩ := ten_cells hSw.o
  go_simp
 (try simp only [zzp, zzb, zzc])
 refine wpAnyT_one (i := 6) (o := ⟨some 154, .call { callee := .value (.func 53), args := #[.tmp 151, .tmp 153], argTypes := #[24, 9] }, _, _, _, _⟩) (by kernel_rfl) rfl (fun K hK => ?_)
 go_simp
 go_at_call 53
 refine (hA.out q PQ.out).mono ?_
 rintro e w1 ⟨er, S1, O1, rfl, hs1, P1, G1⟩
 replace P1 := hide P1
 replace G1 := hide G1
 replace hs1 := hide hs1
 have K1 : Hid (Bxs pb w.heap.size b rb ⟨6, os, on, ot, ov, oD, oo, onn, of, ofs, od, ovk, oks⟩ w1) := ⟨P1.out.box, G1.out.but.at KP.out.o hob.out⟩
 (try go_simp)
 refine hK.out _ _ (fun _ => K1.out) ?_
 clear hK K
 (try simp only [zzp, zzb, zzc])
 refine wpAnyT_one (i := 13) (o := ⟨some 161, .call { callee := .value (.func 54), args := #[.tmp 158, .tmp 160], argTypes := #[26, 9] }, _, _, _, _⟩) (by kernel_rfl) rfl (fun K hK => ?_)
 go_simp
 go_at_call 54
 refine (hB.out w1 S1 O1 P1.out).mono ?_
 rintro e w2 ⟨V2, rfl, P2, G2⟩
 replace P2 := hide P2
 replace G2 := hide G2
 have hob1 : ¬ own pb O1 rb V w.heap.size := fun c => (G1.out.own _ c).elim hob.out (fun c => by have := heap_lt KP.out.o; omega)
 have K2 : Hid (Bxs pb w.heap.size b rb ⟨6, os, on, ot, ov, oD, oo, onn, of, ofs, od, ovk, oks⟩ w2) := ⟨P2.out.box, G2.out.but.at K1.out.o hob1⟩
 (try go_simp)
 refine hK.out _ _ (fun _ => K2.out) ?_
 clear hK K
 (try simp only [zzp, zzb, zzc])
 refine Ix.tk 14 ⟨some 162, .binOp .eql 41 (.tmp 154) (.tmp 161) 41, _, _, _, _⟩ (.bool (er == RR.2)) [15] ?_ K2.out ?_
 ·intro wq hSw
  obtain ⟨x1, x2⟩ := two_cells hSw.p
  obtain ⟨y0, y1, y2, y3, y4, y5, y6, y7, y8, y9⟩ := ten_cells hSw.o
  go_simp
 (try simp only [zzp, zzb, zzc])
 refine wpAnyT_one (i := 15) (o := ⟨some 4, .assign (.tmp 162), _, _, _, _⟩) (by kernel_rfl) rfl (fun K hK => ?_)
 go_simp
 refine hK.out _ _ (vac (by kernel_rfl)) ?_
 clear hK K
 (try simp only [zzp, zzb, zzc])
 refine wpAnyT_done (by kernel_rfl) ?_ _
 obtain ⟨bb, hbb⟩ : ∃ bb, Hid ((er == RR.2) = bb) := ⟨_, rfl⟩
 rw [hbb.out]
 go_wp2_with fail
 go_ret
 refine ⟨⟨bb, S1, _, b, rfl, by rw [hpR.out]; exact P2.out.toPW, ?_, hpS.out S1 ?_, fun hr => ?_, fun _ => rfl⟩⟩
 ·have hG := (Sgo.of_below (O := own pb O rb V) GQ.out).trans (G1.out.trans G2.out)
  first | exact hG | (rw [hQ]; exact hG)
 ·exact hs1.out.1
 ·rw [← hbb.out]
  simpa using hRel.out er S1 hs1.out hr
theorem pl_syncDir (o : Dop) (hk : o.kind = 7) (h : PlI W0 w pb b S R o Q) : Calls Tryz.prog 11 #[.pointer (some ⟨pb, 0, none⟩), opV o] w (PlP w pb b S R o Q) := by
 obtain ⟨rb, O, V, hx, hQ⟩ := h.pw
 have hI := hide h
 have hpS : Hid (∀ S', S' = (S.syncDir).1 → DS.play S o S') := fun S' hs => by unfold DS.play; simp [hk, hs]
 have hpR : Hid (R.play o = (R.syncDir).1) := by show _ = _; unfold RB.play; simp [hk]
 have HX := hide hx
 have hA : Hid (∀ q, PX q pb b rb S R O V → Calls Tryz.prog 15 #[.pointer (some ⟨b, 0, none⟩)] q fun e w' => ∃ er S' O', e = .returned (.int .i64 er) ∧ (S' = (S.syncDir).1 ∧ er = (S.syncDir).2) ∧ PX w' pb b rb S' R O' V ∧ Sgo q w' (own pb O rb V) (own pb O' rb V)) := fun q hq => by
  refine (syncDir_dsk hq.d (by have := hI.out.cs; omega)).mono ?_
  rintro e w' ⟨rfl, O', hd, hg⟩
  obtain ⟨px, gx⟩ := hq.stepA hd hg
  exact ⟨_, _, _, rfl, ⟨rfl, rfl⟩, px, gx⟩
 have hB : Hid (∀ q S' O', PX q pb b rb S' R O' V → Calls Tryz.prog 55 #[.pointer (some ⟨rb, 0, none⟩)] q fun e w' => ∃ V', e = .returned (.int .i64 (R.syncDir).2) ∧ PX w' pb b rb S' (R.syncDir).1 O' V' ∧ Sgo q w' (own pb O' rb V) (own pb O' rb V')) := fun q S' O' hq => by
  refine (syncDir_rm hq.r hI.out.ri.ok (by have := hI.out.cr; omega) (by have := hI.out.ri.dlen; omega)).mono ?_
  rintro e w' ⟨rfl, hg⟩
  obtain ⟨V', px, gx⟩ := hq.stepB hg
  exact ⟨V', rfl, px, gx⟩
 have hRel : Hid (∀ er S', (S' = (S.syncDir).1 ∧ er = (S.syncDir).2) → Rel S R → er = (R.syncDir).2) := fun er S' hs hr => by
  obtain ⟨_, rfl⟩ := hs; exact (hr.syncDir).2
 obtain ⟨RR, hRR⟩ : ∃ RR, Hid ((R.syncDir) = RR) := ⟨_, rfl⟩
 rw [hRR.out] at hB hRel hpR
 obtain ⟨ok, os, on, ot, ov, oD, oo, onn, of, ofs, od, ovk, oks⟩ := o
 dsimp only at hk hA hB hpS hRel
 subst hk
 have BF := hide (box_below w (.cells #[.int .i64 7, .bool os, .string on, .string ot, ov, .int .i64 oo, .int .i64 onn, of, .int .i64 od, ovk] 36))
 have NF := heap_alloc_new w (.cells #[.int .i64 7, .bool os, .string on, .string ot, ov, .int .i64 oo, .int .i64 onn, of, .int .i64 od, ovk] 36)
 have hlt := hide hx.lt
 clear hx
 unfold opV
 go_enter Tryz.func11, Tryz.ntmps11
 obtain ⟨wf, hwf⟩ : ∃ wf, Hid (w.alloc (.cells #[.int .i64 7, .bool os, .string on, .string ot, ov, .int .i64 oo, .int .i64 onn, of, .int .i64 od, ovk] 36) = wf) := ⟨_, rfl⟩
 have c0 : (w.alloc (.cells #[.int .i64 7, .bool os, .string on, .string ot, ov, .int .i64 oo, .int .i64 onn, of, .int .i64 od, ovk] 36)).cell? ⟨w.heap.size, 0, none⟩ = some (.int .i64 7) := (ten_cells NF).1
 go_upto_region 20 with fail
 rw [hwf.out] at BF NF ⊢
 have MX := hide (HX.out.below BF.out)
 have hob : Hid (¬ own pb O rb V w.heap.size) := fun c => Nat.lt_irrefl _ (hlt.out _ c)
 have B0 : Hid (Bxs pb w.heap.size b rb ⟨7, os, on, ot, ov, oD, oo, onn, of, ofs, od, ovk, oks⟩ wf) := ⟨MX.out.box, NF⟩
 have KP : Hid (Bxs pb w.heap.size b rb ⟨7, os, on, ot, ov, oD, oo, onn, of, ofs, od, ovk, oks⟩ wf.drew) := B0.out.go (But.of_below (Below.refl _ _).drew fun _ => False) (fun c => c) (fun c => c)
 have PQ : Hid (PX wf.drew pb b rb S R O V) := MX.out.below (Below.refl _ _).drew
 have GQ : Hid (Below w.heap.size w wf.drew) := BF.out.drew
 clear c0 NF
 refine wp_region_T (fun q => Bxs pb w.heap.size b rb ⟨7, os, on, ot, ov, oD, oo, onn, of, ofs, od, ovk, oks⟩ q) 11 (by kernel_rfl) ?_
 generalize wf.drew = q at *
 refine Ix.tk 0 ⟨some 165, .move (.tmp 0), _, _, _, _⟩ (.pointer (some ⟨pb, 0, none⟩)) [1,2,3,4,10,11] ?_ KP.out ?_
 ·intro wq hSw; go_simp
 (try simp only [zzp, zzb, zzc])
 refine Ix.tk 1 ⟨some 166, .nilCheck (.tmp 165), _, _, _, _⟩ (.pointer (some ⟨pb, 0, none⟩)) [2,3,4,10,11] ?_ KP.out ?_
 ·intro wq hSw; go_simp
 (try simp only [zzp, zzb, zzc])
 refine Ix.tk 2 ⟨some 167, .fieldAddr 29 (.tmp 166) 0, _, _, _, _⟩ (.pointer (some ⟨pb, 0, none⟩)) [3,4,10,11] ?_ KP.out ?_
 ·intro wq hSw; go_simp
 (try simp only [zzp, zzb, zzc])
 refine Ix.tk 3 ⟨some 168, .load 24 (.tmp 167), _, _, _, _⟩ (.pointer (some ⟨b, 0, none⟩)) [4,10,11] ?_ KP.out ?_
 ·intro wq hSw
  obtain ⟨x1, x2⟩ := two_cells hSw.p
  obtain ⟨y0, y1, y2, y3, y4, y5, y6, y7, y8, y9⟩ := ten_cells hSw.o
  go_simp
 (try simp only [zzp, zzb, zzc])
 refine Ix.tk 5 ⟨some 170, .move (.tmp 0), _, _, _, _⟩ (.pointer (some ⟨pb, 0, none⟩)) [6,7,8,9,10,11] ?_ KP.out ?_
 ·intro wq hSw; go_simp
 (try simp only [zzp, zzb, zzc])
 refine Ix.tk 6 ⟨some 171, .nilCheck (.tmp 170), _, _, _, _⟩ (.pointer (some ⟨pb, 0, none⟩)) [7,8,9,10,11] ?_ KP.out ?_
 ·intro wq hSw; go_simp
 (try simp only [zzp, zzb, zzc])
 refine Ix.tk 7 ⟨some 172, .fieldAddr 29 (.tmp 171) 1, _, _, _, _⟩ (.pointer (some ⟨pb, 1, none⟩)) [8,9,10,11] ?_ KP.out ?_
 ·intro wq hSw; go_simp
 (try simp only [zzp, zzb, zzc])
 refine Ix.tk 8 ⟨some 173, .load 26 (.tmp 172), _, _, _, _⟩ (.pointer (some ⟨rb, 0, none⟩)) [9,10,11] ?_ KP.out ?_
 ·intro wq hSw
  obtain ⟨x1, x2⟩ := two_cells hSw.p
  obtain ⟨y0, y1, y2, y3, y4, y5, y6, y7, y8, y9⟩ := ten_cells hSw.o
  go_simp
 (try simp only [zzp, zzb, zzc])
 refine wpAnyT_one (i := 4) (o := ⟨some 169, .call { callee := .value (.func 15), args := #[.tmp 168], argTypes := #[24] }, _, _, _, _⟩) (by kernel_rfl) rfl (fun K hK => ?_)
 go_simp
 go_at_call 15
 refine (hA.out q PQ.out).mono ?_
 rintro e w1 ⟨er, S1, O1, rfl, hs1, P1, G1⟩
 replace P1 := hide P1
 replace G1 := hide G1
 replace hs1 := hide hs1
 have K1 : Hid (Bxs pb w.heap.size b rb ⟨7, os, on, ot, ov, oD, oo, onn, of, ofs, od, ovk, oks⟩ w1) := ⟨P1.out.box, G1.out.but.at KP.out.o hob.out⟩
 (try go_simp)
 refine hK.out _ _ (fun _ => K1.out) ?_
 clear hK K
 (try simp only [zzp, zzb, zzc])
 refine wpAnyT_one (i := 9) (o := ⟨some 174, .call { callee := .value (.func 55), args := #[.tmp 173], argTypes := #[26] }, _, _, _, _⟩) (by kernel_rfl) rfl (fun K hK => ?_)
 go_simp
 go_at_call 55
 refine (hB.out w1 S1 O1 P1.out).mono ?_
 rintro e w2 ⟨V2, rfl, P2, G2⟩
 replace P2 := hide P2
 replace G2 := hide G2
 have hob1 : ¬ own pb O1 rb V w.heap.size := fun c => (G1.out.own _ c).elim hob.out (fun c => by have := heap_lt KP.out.o; omega)
 have K2 : Hid (Bxs pb w.heap.size b rb ⟨7, os, on, ot, ov, oD, oo, onn, of, ofs, od, ovk, oks⟩ w2) := ⟨P2.out.box, G2.out.but.at K1.out.o hob1⟩
 (try go_simp)
 refine hK.out _ _ (fun _ => K2.out) ?_
 clear hK K
 (try simp only [zzp, zzb, zzc])
 refine Ix.tk 10 ⟨some 175, .binOp .eql 41 (.tmp 169) (.tmp 174) 41, _, _, _, _⟩ (.bool (er == RR.2)) [11] ?_ K2.out ?_
 ·intro wq hSw
  obtain ⟨x1, x2⟩ := two_cells hSw.p
  obtain ⟨y0, y1, y2, y3, y4, y5, y6, y7, y8, y9⟩ := ten_cells hSw.o
  go_simp
 (try simp only [zzp, zzb, zzc])
 refine wpAnyT_one (i := 11) (o := ⟨some 4, .assign (.tmp 175), _, _, _, _⟩) (by kernel_rfl) rfl (fun K hK => ?_)
 go_simp
 refine hK.out _ _ (vac (by kernel_rfl)) ?_
 clear hK K
 (try simp only [zzp, zzb, zzc])
 refine wpAnyT_done (by kernel_rfl) ?_ _
 obtain ⟨bb, hbb⟩ : ∃ bb, Hid ((er == RR.2) = bb) := ⟨_, rfl⟩
 rw [hbb.out]
 go_wp2_with fail
 go_ret
 refine ⟨⟨bb, S1, _, b, rfl, by rw [hpR.out]; exact P2.out.toPW, ?_, hpS.out S1 ?_, fun hr => ?_, fun _ => rfl⟩⟩
 ·have hG := (Sgo.of_below (O := own pb O rb V) GQ.out).trans (G1.out.trans G2.out)
  first | exact hG | (rw [hQ]; exact hG)
 ·exact hs1.out.1
 ·rw [← hbb.out]
  simpa using hRel.out er S1 hs1.out hr
end Go.Proofs.YtjehpijjneghpaaGreat.Re
namespace Go.Proofs.YtjehpijjneghpaaGreat.Re
open Go.RowKit Go.Maps Go.Sort Go.Shelf Go.Proofs.YtjehpijjneghpaaGreat.Nm Go.Proofs.YtjehpijjneghpaaGreat.Dk
structure BP (P : Prop) (w : World) (e : Ending) (w' : World) : Prop where
 out : ∃ r, e = .returned (.bool r) ∧ (P → r = true) ∧ Below w.heap.size w w'
theorem bs_ne {a b : List UInt8} (h : a ≠ b) : ((bsOf a).toList == (bsOf b).toList) = false := by
 rw [ByteArray.toList_eq, ByteArray.toList_eq, bsOf_list, bsOf_list]
 simpa using h
theorem tails_eq (w : World) (va vb : Value) (L M : Tls) (ha : Tr w va L) (hb : Tr w vb M) :
    Calls Tryz.prog 62 #[va, vb] w (BP (L = M) w) := by
 obtain ⟨aa, ac, rfl, a1, a2, a3⟩ := ha
 obtain ⟨ba, bc, rfl, b1, b2, b3⟩ := hb
 obtain ⟨N, hN⟩ : ∃ N, Hid (L.length = N) := ⟨_, rfl⟩
 obtain ⟨N2, hN2⟩ : ∃ N2, Hid (M.length = N2) := ⟨_, rfl⟩
 rw [hN.out] at a1 ⊢
 rw [hN2.out] at b1 ⊢
 replace a3 := hide a3
 replace b3 := hide b3
 by_cases hl : N = N2
 ·subst hl
  go_enter Tryz.func62, Tryz.ntmps62
  go_wp2_with fail
  go_loopw [5] (fun i wr => ∃ k : Nat, i = .int .i64 k ∧ k ≤ N ∧ Hid (Below w.heap.size w wr)) (fun i _ => N - (intOf i).toNat)
  case atStart => exact ⟨0, rfl, Nat.zero_le _, Below.refl _ _⟩
  case round =>
   obtain ⟨k, rfl, hk, hB⟩ := hrel
   by_cases hlt : k < N
   ·have i1 : (k : Int) < (N : Int) := by omega
    have hkl : k < L.length := by rw [hN.out]; exact hlt
    have hkm : k < M.length := by rw [hN2.out]; exact hlt
    obtain ⟨ga, oa, rfl, x0, x1⟩ := a3.out k hkl
    obtain ⟨gb, ob, rfl, y0, y1⟩ := b3.out k hkm
    rw [← hB.out.cell (p := ⟨ga, oa + k * 2, none⟩) (lt_of_cell x0)] at x0
    rw [← hB.out.cell (p := ⟨ga, oa + k * 2 + 1, none⟩) (lt_of_cell x1)] at x1
    rw [← hB.out.cell (p := ⟨gb, ob + k * 2, none⟩) (lt_of_cell y0)] at y0
    rw [← hB.out.cell (p := ⟨gb, ob + k * 2 + 1, none⟩) (lt_of_cell y1)] at y1
    by_cases he : L[k] = M[k]
    ·rw [← he] at y0 y1
     generalize bsOf L[k].1 = t at *
     generalize (L[k].2 : Int) = n at *
     clear he
     go_wp2_with fail
     go_quiet (fail)
     have B3 : Hid (Below w.heap.size w (wr.drewN nq)) := hB.out.trans ((Qt.below ⟨nq, rfl⟩ _).mono hB.out.size)
     generalize wr.drewN nq = wy at *
     go_wp2_with fail
     go_roundw
     case rel => exact ⟨k + 1, by go_num, by omega, B3⟩
     case measure => simp [intOf]; omega
    ·have hno : Hid (¬ L = M) := fun c => he (by subst c; rfl)
     by_cases h1 : L[k].1 = M[k].1
     ·have h2 : ¬ (L[k].2 : Int) = (M[k].2 : Int) := fun c => he (Prod.ext h1 (by omega))
      rw [← h1] at y0
      generalize bsOf L[k].1 = t at *
      generalize (L[k].2 : Int) = n at *
      generalize (M[k].2 : Int) = m at *
      have h3 : (n == m) = false := by simpa using h2
      clear he h1
      go_wp2_with fail
      go_quiet (fail)
      have B3 : Hid (Below w.heap.size w (wr.drewN nq)) := hB.out.trans ((Qt.below ⟨nq, rfl⟩ _).mono hB.out.size)
      generalize wr.drewN nq = wy at *
      go_wp2_with fail
      go_ret
      exact ⟨⟨_, rfl, fun c => absurd c hno.out, B3.out⟩⟩
     ·have h3 := bs_ne h1
      generalize bsOf L[k].1 = t at *
      generalize bsOf M[k].1 = t2 at *
      generalize (L[k].2 : Int) = n at *
      generalize (M[k].2 : Int) = m at *
      clear he h1
      go_wp2_with fail
      go_quiet (fail)
      have B3 : Hid (Below w.heap.size w (wr.drewN nq)) := hB.out.trans ((Qt.below ⟨nq, rfl⟩ _).mono hB.out.size)
      generalize wr.drewN nq = wy at *
      go_wp2_with fail
      go_ret
      exact ⟨⟨_, rfl, fun c => absurd c hno.out, B3.out⟩⟩
   ·have i1 : ¬ ((k : Int) < (N : Int)) := by omega
    go_wp2_with fail
    go_ret
    exact ⟨⟨_, rfl, fun _ => rfl, hB.out⟩⟩
 ·have i1 : ((N : Int) != (N2 : Int)) = true := by simp; omega
  have hno : Hid (¬ L = M) := fun c => hl (by rw [← hN.out, ← hN2.out, c])
  go_enter Tryz.func62, Tryz.ntmps62
  go_wp2_with fail
  go_ret
  exact ⟨⟨_, rfl, fun c => absurd c hno.out, Below.refl _ _⟩⟩
theorem three_new (w : World) (a b c : Value) (t : TypeId) : ∀ j u, ([a, b, c] : List Value)[j]? = some u → (w.alloc (.cells #[a, b, c] t)).cell? ((⟨w.heap.size, 0, none⟩ : Addr).add j) = some u := by
 intro j u hu
 rw [addr_add]
 match j with
 | 0 => simp at hu; subst hu; simp only [World.cell?, heap_alloc_new]; rfl
 | 1 => simp at hu; subst hu; simp only [World.cell?, heap_alloc_new]; rfl
 | 2 => simp at hu; subst hu; simp only [World.cell?, heap_alloc_new]; rfl
 | j + 3 => simp at hu
theorem calm_take_keep {fs : List Ft} {k : Nat} (hk : k < fs.length) (h : fs[k].2.1 ≠ 4) : calm (fs.take (k + 1)) = calm (fs.take k) ++ [fs[k]] := by
 unfold calm
 rw [List.take_succ_eq_append_getElem hk, List.filter_append]
 simp [h]
theorem calm_take_drop {fs : List Ft} {k : Nat} (hk : k < fs.length) (h : fs[k].2.1 = 4) : calm (fs.take (k + 1)) = calm (fs.take k) := by
 unfold calm
 rw [List.take_succ_eq_append_getElem hk, List.filter_append]
 simp [h]
theorem calm_any (w : World) (v : Value) (fs : List Ft) (hv : Fts w v fs) (hl : fs.length * 24 ≤ 140737488351232) :
    Calls Tryz.prog 58 #[v] w fun e w' => ∃ v', e = .returned v' ∧ w'.ownsRow w.heap.size 118 3 v' (calm fs).length (acells (calm fs)) ∧ Below w.heap.size w w' := by
 obtain ⟨aa, ac, rfl, a1, a2, a3⟩ := hv
 obtain ⟨N, hN⟩ : ∃ N, Hid (fs.length = N) := ⟨_, rfl⟩
 rw [hN.out] at a1 hl ⊢
 have a2' : ac ≤ 9223372036854775807 := by unfold maxLen at a2; omega
 replace a3 := hide a3
 replace hl := hide hl
 obtain ⟨i0, hi, hz0, hz1, hz2⟩ := info_parts infoFa
 replace hi := hide hi
 clear a2
 go_enter Tryz.func58, Tryz.ntmps58
 go_wp2_with fail
 go_loopw [3, 4] (fun v3 i wr => ∃ k : Nat, i = .int .i64 k ∧ k ≤ N ∧ Hid (wr.ownsRow w.heap.size 118 3 v3 (calm (fs.take k)).length (acells (calm (fs.take k)))) ∧ Hid (Below w.heap.size w wr)) (fun _ i _ => N - (intOf i).toNat)
 case atStart => exact ⟨0, rfl, Nat.zero_le _, World.ownsRow_nil _ _ _ _, Below.refl _ _⟩
 case round =>
  obtain ⟨k, rfl, hk, hO, hB⟩ := hrel
  by_cases hlt : k < N
  ·have i1 : (k : Int) < (N : Int) := by omega
   have hkl : k < fs.length := by rw [hN.out]; exact hlt
   obtain ⟨ga, oa, rfl, x0, x1, x2⟩ := a3.out k hkl
   rw [← hB.out.cell (p := ⟨ga, oa + k * 3, none⟩) (lt_of_cell x0)] at x0
   rw [← hB.out.cell (p := ⟨ga, oa + k * 3 + 1, none⟩) (lt_of_cell x1)] at x1
   rw [← hB.out.cell (p := ⟨ga, oa + k * 3 + 2, none⟩) (lt_of_cell x2)] at x2
   by_cases h4 : fs[k].2.1 = 4
   ·have hs := hide (calm_take_drop hkl h4)
    rw [h4] at x1
    go_wp2_with fail
    go_roundw
    case rel => exact ⟨k + 1, by go_num, by omega, by rw [hs.out]; exact hO, hB⟩
    case measure => simp [intOf]; omega
   ·have hs := hide (calm_take_keep hkl h4)
    have hll : Hid ((calm (fs.take k)).length ≤ k) := by show _ ≤ _; have := List.length_filter_le (fun t : Ft => t.2.1 != 4) (fs.take k); rw [List.length_take] at this; unfold calm; omega
    have hte : Hid (acells [fs[k]] = [.int .i64 fs[k].1, .int .i64 fs[k].2.1, .int .i64 fs[k].2.2]) := rfl
    have h4' : (fs[k].2.1 != 4) = true := by simpa using h4
    generalize fs[k].2.1 = fk at *
    generalize fs[k].2.2 = fp at *
    generalize fs[k].1 = fa at *
    generalize fs[k] = ft at *
    generalize calm (fs.take k) = D at *
    have B5 := hide (hB.out.trans ((box_below wr (.cells #[.int .i64 fa, .int .i64 fk, .int .i64 fp] 118)).mono hB.out.size))
    have O5 : Hid (World.ownsRow (wr.alloc (.cells #[.int .i64 fa, .int .i64 fk, .int .i64 fp] 118)) w.heap.size 118 3 u3 D.length (acells D)) := hO.out.alloc _
    have hz := hide B5.out.size
    clear h4
    go_wp2_with (at_builtin; refine wpList_append_lies _ rfl (.tmp 17) (.tmp 22) 31 rfl w.heap.size 118 i0 (.agg #[.int .i64 0, .int .i64 0, .int .i64 0]) 3 24 Tryz.underlying31 hi.out hz0 hz1 hz2 rfl (by decide) u3 D.length (acells D) rfl O5.out ⟨wr.heap.size, 0, none⟩ 1 1 [.int .i64 fa, .int .i64 fk, .int .i64 fp] rfl rfl (three_new wr _ _ _ _) (by simp [Value.oneCell']) (by decide) (by have := hll.out; have := hl.out; unfold maxLen; omega) (by have := hll.out; have := hl.out; omega) hz.out (wr.heap.size + 1) (by simp) ?_; intro g2 cap2 w5 ho5 hg5 hat hlt5; replace ho5 := hide ho5; replace hg5 := hide hg5)
    go_roundw
    case rel =>
     refine ⟨k + 1, by go_num, by omega, ?_, Below.grown B5.out hg5.out hz.out (fun j hj => (World.ownsRow.lt O5.out j hj).1)⟩
     show World.ownsRow _ _ _ _ _ _ _
     rw [hs.out, List.length_append, show acells (D ++ [ft]) = acells D ++ acells [ft] by simp [acells], hte.out]
     exact ho5.out
    case measure => simp [intOf]; omega
  ·have i1 : ¬ ((k : Int) < (N : Int)) := by omega
   obtain rfl : k = N := by omega
   rw [List.take_of_length_le (by rw [hN.out]; omega)] at hO
   go_wp2_with fail
   go_ret
   exact ⟨_, rfl, hO.out, hB.out⟩
end Go.Proofs.YtjehpijjneghpaaGreat.Re
