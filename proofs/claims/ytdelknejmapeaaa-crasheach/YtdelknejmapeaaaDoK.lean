/-
  Two disks alike stay alike, whatever is done to both.
-/
import Derived.Test.YtdelknejmapeaaaDoJ
namespace Go.Proofs.Ytdelknejmapeaaa.Dk
open Go.RowKit Go.Maps Go.Sort Go.Shelf Go.Proofs.Ytdelknejmapeaaa.Nm

variable {σ : Nat → Nat} {S S' : DS}
theorem Alike.beg (h : Alike σ S S') (j : Nat) : Alike σ (S.beg j) (S'.beg j) := by
  have e := beg_ps S j
  have eF := (beg_rest S j).2.2.2.2.2.2.2
  have eF' := (beg_rest S' j).2.2.2.2.2.2.2
  refine ⟨?_, ?_, ?_, ?_, ?_, ?_, ?_, ?_, ?_, ?_, ?_, ?_, ?_, ?_, by rw [e, eF, eF']; exact h.F, by rw [e]; exact h.inj⟩
  all_goals (unfold DS.beg; split <;> simp only [h.most, h.up, h.al, h.c0, h.c1, h.c2, h.c3, h.c4, h.c5, h.c6, h.c7, h.c8, h.l2, h.P])
theorem Alike.str (h : Alike σ S S') (k : Int) : Alike σ (S.str k) (S'.str k) := by
  unfold DS.str
  split
  · exact ⟨h.most, rfl, h.al, h.c0, h.c1, h.c2, h.c3, h.c4, h.c5, h.c6, h.c7, h.c8, h.l2, h.P, h.F, h.inj⟩
  · exact h
theorem Alike.hit (h : Alike σ S S') (j : Nat) : Alike σ (S.hit j) (S'.hit j) := by
  unfold DS.hit
  rw [h.flt]
  exact (h.beg j).str _
theorem Alike.one (h : Alike σ S S') {p : Nat} (hp : p ∈ S.ps) (t : Fl) : Alike σ { S with F := upd S.F p t } { S' with F := upd S'.F (σ p) t } := by
  refine ⟨h.most, h.up, h.al, h.c0, h.c1, h.c2, h.c3, h.c4, h.c5, h.c6, h.c7, h.c8, h.l2, h.P, fun q hq => ?_, h.inj⟩
  show upd S'.F (σ p) t (σ q) = upd S.F p t q
  by_cases e : q = p
  · subst e; rw [upd_same, upd_same]
  · rw [upd_ne _ _ e, upd_ne _ _ (fun c => e (h.inj q hq p hp c)), h.F q hq]
theorem Alike.more (h : Alike σ S S') (c : Ch) (hc : c.ptr = none) : Alike σ { S with P := S.P ++ [c] } { S' with P := S'.P ++ [c] } := by
  have e : ({ S with P := S.P ++ [c] } : DS).ps = S.ps := by
    show S.l2.map (·.2) ++ (S.P ++ [c]).filterMap Ch.ptr = _
    rw [List.filterMap_append]; simp [hc, DS.ps]
  have hm : c.mv σ = c := by cases c with
    | cr n p => cases hc
    | rn f t => rfl
    | rm n => rfl
  refine ⟨h.most, h.up, h.al, h.c0, h.c1, h.c2, h.c3, h.c4, h.c5, h.c6, h.c7, h.c8, h.l2, ?_, by rw [e]; exact h.F, by rw [e]; exact h.inj⟩
  show S'.P ++ [c] = (S.P ++ [c]).map (Ch.mv σ)
  rw [List.map_append, h.P]
  simp [hm]
theorem Alike.new (h : Alike σ S S') (s : ByteArray) {p p' : Nat} (hp : p ∉ S.ps) (hp' : p' ∉ S'.ps) (t : Fl) : Alike (upd σ p p') { S with P := S.P ++ [.cr s p], F := upd S.F p t } { S' with P := S'.P ++ [.cr s p'], F := upd S'.F p' t } := by
  have e : ({ S with P := S.P ++ [.cr s p], F := upd S.F p t } : DS).ps = S.ps ++ [p] := by
    show S.l2.map (·.2) ++ (S.P ++ [Ch.cr s p]).filterMap Ch.ptr = _
    rw [List.filterMap_append]; simp [Ch.ptr, DS.ps]
  have hne : ∀ q ∈ S.ps, q ≠ p := fun q hq c => hp (by rw [← c]; exact hq)
  have hs : ∀ q ∈ S.ps, upd σ p p' q = σ q := fun q hq => upd_ne _ _ (hne q hq)
  have hno : ∀ q ∈ S.ps, σ q ≠ p' := fun q hq c => hp' (by rw [h.ps, ← c]; exact List.mem_map.2 ⟨q, hq, rfl⟩)
  refine ⟨h.most, h.up, h.al, h.c0, h.c1, h.c2, h.c3, h.c4, h.c5, h.c6, h.c7, h.c8, ?_, ?_, ?_, ?_⟩
  · show S'.l2 = mvD (upd σ p p') S.l2
    rw [h.l2]
    exact (mvD_congr fun x hx => hs x (List.mem_append_left _ hx)).symm
  · show S'.P ++ [.cr s p'] = (S.P ++ [Ch.cr s p]).map (Ch.mv (upd σ p p'))
    rw [List.map_append, mvP_congr (σ := σ) (fun x hx => hs x (List.mem_append_right _ hx)), h.P]
    simp [Ch.mv, upd_same]
  · rw [e]
    intro q hq
    show upd S'.F p' t (upd σ p p' q) = upd S.F p t q
    rcases List.mem_append.1 hq with z | z
    · rw [hs q z, upd_ne _ _ (hno q z), upd_ne _ _ (hne q z), h.F q z]
    · simp at z
      subst z
      rw [upd_same, upd_same, upd_same]
  · rw [e]
    intro a ha b hb hab
    rcases List.mem_append.1 ha with z | z <;> rcases List.mem_append.1 hb with y | y
    · rw [hs a z, hs b y] at hab; exact h.inj a z b y hab
    · simp at y; subst y
      rw [hs a z, upd_same] at hab; exact (hno a z hab).elim
    · simp at z; subst z
      rw [hs b y, upd_same] at hab; exact (hno b y hab.symm).elim
    · simp at z y; rw [z, y]
theorem Alike.remove (h : Alike σ S S') (s : ByteArray) : Alike σ (S.remove s).1 (S'.remove s).1 ∧ (S'.remove s).2 = (S.remove s).2 := by
  have e1 : (S'.find s).2 = (S.find s).2 := by rw [h.find]
  unfold DS.remove
  rw [e1, h.flt]
  split
  · exact ⟨h, rfl⟩
  split
  · exact ⟨h.hit 5, rfl⟩
  · have q := (h.hit 5).more (.rm s) rfl
    rw [(hit_rest S 5).2.2.1, (hit_rest S' 5).2.2.1] at q
    exact ⟨q, rfl⟩
theorem Alike.rename (h : Alike σ S S') (s t : ByteArray) : Alike σ (S.rename s t).1 (S'.rename s t).1 ∧ (S'.rename s t).2 = (S.rename s t).2 := by
  have e1 : (S'.find s).2 = (S.find s).2 := by rw [h.find]
  unfold DS.rename
  rw [h.ref, e1, h.flt]
  split
  · exact ⟨h, rfl⟩
  split
  · exact ⟨h, rfl⟩
  split
  · exact ⟨h.hit 4, rfl⟩
  split
  · exact ⟨h.hit 4, rfl⟩
  · have q := (h.hit 4).more (.rn s t) rfl
    rw [(hit_rest S 4).2.2.1, (hit_rest S' 4).2.2.1] at q
    exact ⟨q, rfl⟩
theorem Alike.syncDir (h : Alike σ S S') : Alike σ S.syncDir.1 S'.syncDir.1 ∧ S'.syncDir.2 = S.syncDir.2 := by
  have q := h.hit 6
  have hps : ∀ p ∈ ({ S.hit 6 with l2 := S.dir, P := [] } : DS).ps, p ∈ S.ps := fun p hp => by
    have : p ∈ S.dir.map (·.2) := by simpa [DS.ps] using hp
    obtain ⟨e, he, rfl⟩ := List.mem_map.1 this
    exact mem_ps_dir he
  unfold DS.syncDir
  rw [h.ref, h.flt]
  split
  · exact ⟨h, rfl⟩
  split
  · exact ⟨q, rfl⟩
  · refine ⟨⟨q.most, q.up, q.al, q.c0, q.c1, q.c2, q.c3, q.c4, q.c5, q.c6, q.c7, q.c8, h.dir, rfl, fun p hp => ?_, fun p hp r hr => h.inj p (hps p hp) r (hps r hr)⟩, rfl⟩
    show (S'.hit 6).F (σ p) = (S.hit 6).F p
    rw [(hit_rest S 6).2.2.2.2.2.2, (hit_rest S' 6).2.2.2.2.2.2]
    exact h.F p (hps p hp)
theorem Alike.create (h : Alike σ S S') (s : ByteArray) {p p' : Nat} (hp : p ∉ S.ps) (hp' : p' ∉ S'.ps) : (∃ τ, Alike τ (S.create s p).1 (S'.create s p').1) ∧ (S'.create s p').2 = (S.create s p).2 := by
  have e1 : S'.dir.length = S.dir.length := by rw [h.dir]; unfold mvD; rw [List.length_map]
  have e2 : (get S'.dir s.data.toList).isSome = (get S.dir s.data.toList).isSome := by rw [h.dir, get_mv, Option.isSome_map]
  unfold DS.create
  rw [h.ref, h.flt, e1, e2]
  split
  · exact ⟨⟨σ, h⟩, rfl⟩
  split
  · exact ⟨⟨σ, h⟩, rfl⟩
  split
  · exact ⟨⟨σ, h⟩, rfl⟩
  have q := (h.beg 0).str S.flt.2.1
  split
  · exact ⟨⟨σ, q⟩, rfl⟩
  · have e3 : ((S.beg 0).str S.flt.2.1).ps = S.ps := (str_ps _ _).trans (beg_ps S 0)
    have e4 : ((S'.beg 0).str S.flt.2.1).ps = S'.ps := (str_ps _ _).trans (beg_ps S' 0)
    have z := q.new s (p := p) (p' := p') (by rw [e3]; exact hp) (by rw [e4]; exact hp') ⟨[], [], 0⟩
    have hS := str_rest (S.beg 0) S.flt.2.1
    have hS' := str_rest (S'.beg 0) S.flt.2.1
    rw [hS.2.2.1, hS'.2.2.1, hS.2.2.2.2.2.2, hS'.2.2.2.2.2.2] at z
    exact ⟨⟨_, z⟩, rfl⟩
end Go.Proofs.Ytdelknejmapeaaa.Dk
