/-
  Two disks alike stay alike, whatever is done to both.
-/
import Derived.Test.YtjehpijjneghpaaGreatM18
namespace Go.Proofs.YtjehpijjneghpaaGreat.Dk
open Go.RowKit Go.Maps Go.Sort Go.Shelf Go.Proofs.YtjehpijjneghpaaGreat.Nm
variable {σ : Nat → Nat} {S S' : DS}
theorem Alike.beg (h : Alike σ S S') (j : Nat) : Alike σ (S.beg j) (S'.beg j) := by
  have e := beg_ps S j
  have eF := (beg_rest S j).2.2.2.2.2.2.2
  have eF' := (beg_rest S' j).2.2.2.2.2.2.2
  refine ⟨?_, ?_, ?_, ?_, ?_, ?_, ?_, ?_, ?_, ?_, ?_, ?_, ?_, ?_, by rw [e, eF, eF']; exact h.F, by rw [e]; exact h.inj⟩
  all_goals (unfold DS.beg; split <;> simp only [h.most, h.up, h.al, h.c0, h.c1, h.c2, h.c3, h.c4, h.c5, h.c6, h.c7, h.c8, h.l2, h.P])
theorem Alike.str (h : Alike σ S S') (k : Int) : Alike σ (S.str k) (S'.str k) := by
  unfold DS.str
  split
  · exact ⟨h.most, rfl, h.al, h.c0, h.c1, h.c2, h.c3, h.c4, h.c5, h.c6, h.c7, h.c8, h.l2, h.P, h.F, h.inj⟩
  · exact h
theorem Alike.hit (h : Alike σ S S') (j : Nat) : Alike σ (S.hit j) (S'.hit j) := by
  unfold DS.hit
  rw [h.flt]
  exact (h.beg j).str _
theorem Alike.one (h : Alike σ S S') {p : Nat} (hp : p ∈ S.ps) (t : Fl) : Alike σ { S with F := upd S.F p t } { S' with F := upd S'.F (σ p) t } := by
  refine ⟨h.most, h.up, h.al, h.c0, h.c1, h.c2, h.c3, h.c4, h.c5, h.c6, h.c7, h.c8, h.l2, h.P, fun q hq => ?_, h.inj⟩
  show upd S'.F (σ p) t (σ q) = upd S.F p t q
  by_cases e : q = p
  · subst e; rw [upd_same, upd_same]
  · rw [upd_ne _ _ e, upd_ne _ _ (fun c => e (h.inj q hq p hp c)), h.F q hq]
theorem Alike.more (h : Alike σ S S') (c : Ch) (hc : c.ptr = none) : Alike σ { S with P := S.P ++ [c] } { S' with P := S'.P ++ [c] } := by
  have e : ({ S with P := S.P ++ [c] } : DS).ps = S.ps := by
    show S.l2.map (·.2) ++ (S.P ++ [c]).filterMap Ch.ptr = _
    rw [List.filterMap_append]; simp [hc, DS.ps]
  have hm : c.mv σ = c := by cases c with
    | cr n p => cases hc
    | rn f t => rfl
    | rm n => rfl
  refine ⟨h.most, h.up, h.al, h.c0, h.c1, h.c2, h.c3, h.c4, h.c5, h.c6, h.c7, h.c8, h.l2, ?_, by rw [e]; exact h.F, by rw [e]; exact h.inj⟩
  show S'.P ++ [c] = (S.P ++ [c]).map (Ch.mv σ)
  rw [List.map_append, h.P]
  simp [hm]
theorem Alike.new (h : Alike σ S S') (s : ByteArray) {p p' : Nat} (hp : p ∉ S.ps) (hp' : p' ∉ S'.ps) (t : Fl) : Alike (upd σ p p') { S with P := S.P ++ [.cr s p], F := upd S.F p t } { S' with P := S'.P ++ [.cr s p'], F := upd S'.F p' t } := by
  have e : ({ S with P := S.P ++ [.cr s p], F := upd S.F p t } : DS).ps = S.ps ++ [p] := by
    show S.l2.map (·.2) ++ (S.P ++ [Ch.cr s p]).filterMap Ch.ptr = _
    rw [List.filterMap_append]; simp [Ch.ptr, DS.ps]
  have hne : ∀ q ∈ S.ps, q ≠ p := fun q hq c => hp (by rw [← c]; exact hq)
  have hs : ∀ q ∈ S.ps, upd σ p p' q = σ q := fun q hq => upd_ne _ _ (hne q hq)
  have hno : ∀ q ∈ S.ps, σ q ≠ p' := fun q hq c => hp' (by rw [h.ps, ← c]; exact List.mem_map.2 ⟨q, hq, rfl⟩)
  refine ⟨h.most, h.up, h.al, h.c0, h.c1, h.c2, h.c3, h.c4, h.c5, h.c6, h.c7, h.c8, ?_, ?_, ?_, ?_⟩
  · show S'.l2 = mvD (upd σ p p') S.l2
    rw [h.l2]
    exact (mvD_congr fun x hx => hs x (List.mem_append_left _ hx)).symm
  · show S'.P ++ [.cr s p'] = (S.P ++ [Ch.cr s p]).map (Ch.mv (upd σ p p'))
    rw [List.map_append, mvP_congr (σ := σ) (fun x hx => hs x (List.mem_append_right _ hx)), h.P]
    simp [Ch.mv, upd_same]
  · rw [e]
    intro q hq
    show upd S'.F p' t (upd σ p p' q) = upd S.F p t q
    rcases List.mem_append.1 hq with z | z
    · rw [hs q z, upd_ne _ _ (hno q z), upd_ne _ _ (hne q z), h.F q z]
    · simp at z
      subst z
      rw [upd_same, upd_same, upd_same]
  · rw [e]
    intro a ha b hb hab
    rcases List.mem_append.1 ha with z | z <;> rcases List.mem_append.1 hb with y | y
    · rw [hs a z, hs b y] at hab; exact h.inj a z b y hab
    · simp at y; subst y
      rw [hs a z, upd_same] at hab; exact (hno a z hab).elim
    · simp at z; subst z
      rw [hs b y, upd_same] at hab; exact (hno b y hab.symm).elim
    · simp at z y; rw [z, y]
theorem Alike.remove (h : Alike σ S S') (s : ByteArray) : Alike σ (S.remove s).1 (S'.remove s).1 ∧ (S'.remove s).2 = (S.remove s).2 := by
  have e1 : (S'.find s).2 = (S.find s).2 := by rw [h.find]
  unfold DS.remove
  rw [e1, h.flt]
  split
  · exact ⟨h, rfl⟩
  split
  · exact ⟨h.hit 5, rfl⟩
  · have q := (h.hit 5).more (.rm s) rfl
    rw [(hit_rest S 5).2.2.1, (hit_rest S' 5).2.2.1] at q
    exact ⟨q, rfl⟩
theorem Alike.rename (h : Alike σ S S') (s t : ByteArray) : Alike σ (S.rename s t).1 (S'.rename s t).1 ∧ (S'.rename s t).2 = (S.rename s t).2 := by
  have e1 : (S'.find s).2 = (S.find s).2 := by rw [h.find]
  unfold DS.rename
  rw [h.ref, e1, h.flt]
  split
  · exact ⟨h, rfl⟩
  split
  · exact ⟨h, rfl⟩
  split
  · exact ⟨h.hit 4, rfl⟩
  split
  · exact ⟨h.hit 4, rfl⟩
  · have q := (h.hit 4).more (.rn s t) rfl
    rw [(hit_rest S 4).2.2.1, (hit_rest S' 4).2.2.1] at q
    exact ⟨q, rfl⟩
theorem Alike.syncDir (h : Alike σ S S') : Alike σ S.syncDir.1 S'.syncDir.1 ∧ S'.syncDir.2 = S.syncDir.2 := by
  have q := h.hit 6
  have hps : ∀ p ∈ ({ S.hit 6 with l2 := S.dir, P := [] } : DS).ps, p ∈ S.ps := fun p hp => by
    have : p ∈ S.dir.map (·.2) := by simpa [DS.ps] using hp
    obtain ⟨e, he, rfl⟩ := List.mem_map.1 this
    exact mem_ps_dir he
  unfold DS.syncDir
  rw [h.ref, h.flt]
  split
  · exact ⟨h, rfl⟩
  split
  · exact ⟨q, rfl⟩
  · refine ⟨⟨q.most, q.up, q.al, q.c0, q.c1, q.c2, q.c3, q.c4, q.c5, q.c6, q.c7, q.c8, h.dir, rfl, fun p hp => ?_, fun p hp r hr => h.inj p (hps p hp) r (hps r hr)⟩, rfl⟩
    show (S'.hit 6).F (σ p) = (S.hit 6).F p
    rw [(hit_rest S 6).2.2.2.2.2.2, (hit_rest S' 6).2.2.2.2.2.2]
    exact h.F p (hps p hp)
theorem Alike.create (h : Alike σ S S') (s : ByteArray) {p p' : Nat} (hp : p ∉ S.ps) (hp' : p' ∉ S'.ps) : (∃ τ, Alike τ (S.create s p).1 (S'.create s p').1) ∧ (S'.create s p').2 = (S.create s p).2 := by
  have e1 : S'.dir.length = S.dir.length := by rw [h.dir]; unfold mvD; rw [List.length_map]
  have e2 : (get S'.dir s.data.toList).isSome = (get S.dir s.data.toList).isSome := by rw [h.dir, get_mv, Option.isSome_map]
  unfold DS.create
  rw [h.ref, h.flt, e1, e2]
  split
  · exact ⟨⟨σ, h⟩, rfl⟩
  split
  · exact ⟨⟨σ, h⟩, rfl⟩
  split
  · exact ⟨⟨σ, h⟩, rfl⟩
  have q := (h.beg 0).str S.flt.2.1
  split
  · exact ⟨⟨σ, q⟩, rfl⟩
  · have e3 : ((S.beg 0).str S.flt.2.1).ps = S.ps := (str_ps _ _).trans (beg_ps S 0)
    have e4 : ((S'.beg 0).str S.flt.2.1).ps = S'.ps := (str_ps _ _).trans (beg_ps S' 0)
    have z := q.new s (p := p) (p' := p') (by rw [e3]; exact hp) (by rw [e4]; exact hp') ⟨[], [], 0⟩
    have hS := str_rest (S.beg 0) S.flt.2.1
    have hS' := str_rest (S'.beg 0) S.flt.2.1
    rw [hS.2.2.1, hS'.2.2.1, hS.2.2.2.2.2.2, hS'.2.2.2.2.2.2] at z
    exact ⟨⟨_, z⟩, rfl⟩
end Go.Proofs.YtjehpijjneghpaaGreat.Dk
namespace Go.Proofs.YtjehpijjneghpaaGreat.Dk
open Go.RowKit Go.Maps Go.Sort Go.Shelf Go.Proofs.YtjehpijjneghpaaGreat.Nm
variable {σ : Nat → Nat} {S S' : DS}
theorem Alike.c8s (h : Alike σ S S') (n : Int) : Alike σ { S with c8 := n } { S' with c8 := n } :=
  ⟨h.most, h.up, h.al, h.c0, h.c1, h.c2, h.c3, h.c4, h.c5, h.c6, h.c7, rfl, h.l2, h.P, h.F, h.inj⟩
theorem Alike.apN (h : Alike σ S S') (n : Nat) : S'.apN n = S.apN n := by
  unfold DS.apN
  rw [h.flt, h.room]
theorem find_mem {S : DS} {s : ByteArray} {p : Nat} {e : Int} (h : S.find s = (some p, e)) : p ∈ S.ps := by
  by_cases h0 : (S.find s).2 = 0
  · obtain ⟨q, e1, _, _, hq⟩ := find_ok h0
    rw [h] at e1
    cases e1
    exact hq
  · have := find_no h0
    rw [h] at this
    cases this
theorem Alike.append (h : Alike σ S S') (s : ByteArray) (b : List UInt8) : Alike σ (S.append s b).1 (S'.append s b).1 ∧ (S'.append s b).2 = (S.append s b).2 := by
  have hf := h.find s
  unfold DS.append
  cases hq : S.find s with
  | mk a e =>
    rw [hq] at hf
    cases a with
    | none => rw [hf]; exact ⟨h, rfl⟩
    | some p =>
      have hp := find_mem hq
      rw [hf]
      simp only [Option.map_some]
      rw [h.apN, h.flt, h.F p hp, h.c8]
      refine ⟨?_, rfl⟩
      have e3 : ((S.beg 1).str S.flt.2.1).ps = S.ps := (str_ps _ _).trans (beg_ps S 1)
      have z := (((h.beg 1).str S.flt.2.1).one (p := p) (by rw [e3]; exact hp) (apF (S.F p) (b.take (S.apN b.length)))).c8s (S.c8 + (S.apN b.length : Int))
      have hS := str_rest (S.beg 1) S.flt.2.1
      have hS' := str_rest (S'.beg 1) S.flt.2.1
      rw [hS.2.2.2.2.2.2, hS'.2.2.2.2.2.2] at z
      exact z
theorem Alike.sync (h : Alike σ S S') (s : ByteArray) : Alike σ (S.sync s).1 (S'.sync s).1 ∧ (S'.sync s).2 = (S.sync s).2 := by
  have hf := h.find s
  unfold DS.sync
  cases hq : S.find s with
  | mk a e =>
    rw [hq] at hf
    cases a with
    | none => rw [hf]; exact ⟨h, rfl⟩
    | some p =>
      have hp := find_mem hq
      rw [hf]
      simp only [Option.map_some]
      rw [h.flt, h.F p hp]
      have one := fun t => (h.beg 2).one (p := p) (by rw [beg_ps]; exact hp) t
      split
      · exact ⟨one _, rfl⟩
      split
      · exact ⟨(h.beg 2).str 3, rfl⟩
      · exact ⟨one _, rfl⟩
theorem Alike.cut (h : Alike σ S S') (s : ByteArray) (n : Int) : Alike σ (S.cut s n).1 (S'.cut s n).1 ∧ (S'.cut s n).2 = (S.cut s n).2 := by
  have hf := h.find s
  unfold DS.cut
  cases hq : S.find s with
  | mk a e =>
    rw [hq] at hf
    cases a with
    | none => rw [hf]; exact ⟨h, rfl⟩
    | some p =>
      have hp := find_mem hq
      rw [hf]
      simp only [Option.map_some]
      rw [h.flt, h.F p hp]
      have one := fun t => (h.beg 3).one (p := p) (by rw [beg_ps]; exact hp) t
      split
      · exact ⟨h, rfl⟩
      split
      · exact ⟨(h.beg 3).str _, rfl⟩
      · exact ⟨one _, rfl⟩
end Go.Proofs.YtjehpijjneghpaaGreat.Dk
namespace Go.Proofs.YtjehpijjneghpaaGreat.Dk
open Go.RowKit Go.Maps Go.Sort Go.Shelf Go.Proofs.YtjehpijjneghpaaGreat.Nm
set_option linter.unusedVariables false
variable {σ : Nat → Nat} {S S' : DS} in
theorem Alike.size (h : Alike σ S S') (s : ByteArray) : S'.size s = S.size s := by
  have hf := h.find s
  unfold DS.size
  rw [hf]
  by_cases h0 : (S.find s).2 = 0
  · obtain ⟨p, e, _, _, hp⟩ := find_ok h0
    rw [e]
    dsimp only [Option.map_some]
    rw [h.F p hp]
  · have e : S.find s = (none, (S.find s).2) := Prod.ext (find_no h0) rfl
    rw [e]
    rfl
variable {σ : Nat → Nat} {S S' : DS} in
theorem Alike.read (h : Alike σ S S') (s : ByteArray) (o n : Int) : S'.read s o n = S.read s o n := by
  have hf := h.find s
  unfold DS.read
  rw [hf]
  by_cases h0 : (S.find s).2 = 0
  · obtain ⟨p, e, _, _, hp⟩ := find_ok h0
    rw [e]
    dsimp only [Option.map_some]
    rw [h.F p hp]
  · have e : S.find s = (none, (S.find s).2) := Prod.ext (find_no h0) rfl
    rw [e]
    rfl
structure FateOf (S : DS) (i d j : Nat) : Prop where
  dl : d ≤ S.P.length
  eq : i = (S.cnts d).sum + j
  lt : j < prodT (S.tails (d : Int))
theorem FateOf.below {S : DS} {i d j : Nat} (h : FateOf S i d j) : i < S.ways := by
  have h1 := cnts_mono S (show d + 1 ≤ S.P.length + 1 by have := h.dl; omega)
  have h2 := cnts_sum S d
  have := h.eq; have := h.lt
  unfold DS.ways
  omega
def sM (m : UInt8) : ByteArray := ⟨#[m]⟩
theorem nms_two (p q : Nat) {m : UInt8} (h : m = 98 ∨ m = 110) : nms [([97], p), ([m], q)] = [[97], [m]] := by
  unfold nms
  simp [List.mergeSort, List.MergeSort.Internal.splitInTwo, List.merge]
  rcases h with rfl | rfl <;> decide
structure EachD (S : DS) (m : UInt8) (A B C : List UInt8) (p q : Nat) : Prop where
  hm : m = 98 ∨ m = 110
  up : S.up = true
  l2 : S.l2 = [([97], p)]
  P : S.P = [.cr (sM m) q]
  Fp : S.F p = ⟨A ++ B, A, 0⟩
  Fq : S.F q = ⟨C, [], 0⟩
  ne : p ≠ q
section
variable {S : DS} {m : UInt8} {A B C : List UInt8} {p q : Nat}
theorem EachD.front0 (h : EachD S m A B C p q) : S.front 0 = [([97], p)] := by
  unfold DS.front
  rw [h.l2, h.P]
  rfl
theorem EachD.front1 (h : EachD S m A B C p q) : S.front 1 = [([97], p), ([m], q)] := by
  unfold DS.front
  rw [h.l2, h.P]
  rcases h.hm with rfl | rfl <;> rfl
theorem EachD.tails0 (h : EachD S m A B C p q) : S.tails 0 = [([97], B.length)] := by
  unfold DS.tails
  rw [h.front0, nms_one]
  have : tlOf S.F [([97], p)] [97] = B.length := by
    show (S.F p).by_.length - (S.F p).la.length = _
    rw [h.Fp]; simp
  simp [this]
theorem EachD.tails1 (h : EachD S m A B C p q) : S.tails 1 = [([97], B.length), ([m], C.length)] := by
  unfold DS.tails
  rw [h.front1, nms_two p q h.hm]
  have h1 : tlOf S.F [([97], p), ([m], q)] [97] = B.length := by
    show (S.F p).by_.length - (S.F p).la.length = _
    rw [h.Fp]; simp
  have h2 : tlOf S.F [([97], p), ([m], q)] [m] = C.length := by
    have : tlOf S.F [([97], p), ([m], q)] [m] = (S.F q).by_.length - (S.F q).la.length := by rcases h.hm with rfl | rfl <;> rfl
    rw [this, h.Fq]; simp
  simp [h1, h2]
theorem EachD.cnt1 (h : EachD S m A B C p q) : (S.cnts 1).sum = B.length + 1 := by
  have := cnts_sum S 0
  rw [show ((0 : Nat) : Int) = 0 from rfl, h.tails0] at this
  simpa [DS.cnts, prodT] using this
theorem EachD.cnt2 (h : EachD S m A B C p q) : (S.cnts 2).sum = (B.length + 1) * (C.length + 2) := by
  have := cnts_sum S 1
  rw [show ((1 : Nat) : Int) = 1 from rfl, h.tails1, h.cnt1] at this
  rw [this]
  simp only [prodT, Nat.mul_one]
  rw [Nat.mul_add (B.length + 1) (C.length + 1) 1, Nat.mul_one, Nat.add_comm]
theorem EachD.ways (h : EachD S m A B C p q) : S.ways = (B.length + 1) * (C.length + 2) := by
  unfold DS.ways
  rw [h.P]
  exact h.cnt2
theorem EachD.uq (h : EachD S m A B C p q) : S.uq := by
  unfold DS.uq
  rw [h.l2, h.P]
  refine ⟨fun e he e' he' _ => ?_, fun e he c => ?_, ?_⟩
  · simp at he he'; rw [he, he']
  · simp at he; subst he; simp [ptrs, Ch.ptr] at c; exact h.ne c
  · simp [ptrs, Ch.ptr]
end
end Go.Proofs.YtjehpijjneghpaaGreat.Dk
namespace Go.Proofs.YtjehpijjneghpaaGreat.Dk
open Go.RowKit Go.Maps Go.Sort Go.Shelf Go.Proofs.YtjehpijjneghpaaGreat.Nm
set_option linter.unusedVariables false
def Tr (w : World) (v : Value) (L : Tls) : Prop := ∃ ao ca, v = .slice ao L.length ca ∧ L.length ≤ ca ∧ ca ≤ 9223372036854775807 ∧ ∀ i (h : i < L.length), ∃ b off, ao = some ⟨b, off, none⟩ ∧ w.cell? ⟨b, off + i * 2, none⟩ = some (.string (bsOf L[i].1)) ∧ w.cell? ⟨b, off + i * 2 + 1, none⟩ = some (.int .i64 (L[i].2 : Int))
theorem tcells_at (L : Tls) : ∀ i (h : i < L.length), (tcells L)[i * 2]? = some (.string (bsOf L[i].1)) ∧ (tcells L)[i * 2 + 1]? = some (.int .i64 (L[i].2 : Int)) := by
  induction L with
  | nil => intro i h; simp at h
  | cons e r ih =>
    intro i h
    have : tcells (e :: r) = [encStr e.1, .int .i64 (e.2 : Int)] ++ tcells r := by simp [tcells]
    rw [this]
    cases i with
    | zero => exact ⟨rfl, rfl⟩
    | succ i =>
      have h' : i < r.length := by simpa using h
      obtain ⟨a, b⟩ := ih i h'
      refine ⟨?_, ?_⟩
      · rw [List.getElem?_append_right (by simp; omega)]
        simp only [List.length_cons, List.length_nil, List.getElem_cons_succ]
        rw [show (i + 1) * 2 - (0 + 1 + 1) = i * 2 by omega]
        exact a
      · rw [List.getElem?_append_right (by simp; omega)]
        simp only [List.length_cons, List.length_nil, List.getElem_cons_succ]
        rw [show (i + 1) * 2 + 1 - (0 + 1 + 1) = i * 2 + 1 by omega]
        exact b
theorem Tl.tr {B : Nat} {w : World} {v : Value} {L : Tls} (h : Tl B w v L) : Tr w v L := by
  have h0 := h
  rcases h.2 with ⟨rfl, e⟩ | ⟨g, cap, cur, rfl, _, _, a, b, _⟩
  · have : L = [] := List.length_eq_zero_iff.1 e
    subst this
    exact ⟨none, 0, rfl, Nat.le_refl _, by omega, fun i hi => by simp at hi⟩
  · refine ⟨_, _, rfl, a, by unfold maxLen at b; omega, fun i hi => ⟨g, 0, rfl, ?_, ?_⟩⟩
    · have := World.ownsRow.cells h0 (g := g) rfl (i * 2) _ (tcells_at L i hi).1
      rw [addr_add] at this
      exact this
    · have := World.ownsRow.cells h0 (g := g) rfl (i * 2 + 1) _ (tcells_at L i hi).2
      rw [addr_add] at this
      exact this
theorem Tr.below {w w' : World} {v : Value} {L : Tls} (h : Tr w v L) (hb : Below w.heap.size w w') : Tr w' v L := by
  obtain ⟨ao, ca, e, h1, h2, h3⟩ := h
  refine ⟨ao, ca, e, h1, h2, fun i hi => ?_⟩
  obtain ⟨b, off, e1, c1, c2⟩ := h3 i hi
  exact ⟨b, off, e1, by rw [hb.cell (lt_of_cell c1)]; exact c1, by rw [hb.cell (lt_of_cell c2)]; exact c2⟩
theorem kp_mono {Z Z' : Nat → Prop} {w : World} {v : Value} {ks : List Kep} (h : Kp Z w v ks) (hz : ∀ k, Z k → Z' k) : Kp Z' w v ks := by
  obtain ⟨ao, cap, e, h1, h2, h3⟩ := h
  refine ⟨ao, cap, e, h1, h2, fun i hi => ?_⟩
  obtain ⟨b, off, vj, e1, z, c1, c2, sl, si, m0, m1⟩ := h3 i hi
  exact ⟨b, off, vj, e1, hz b z, c1, c2, sl, fun b' o n c e z => hz b' (si b' o n c e z), m0, m1⟩
theorem owns_belowN {w w' : World} {B : Nat} {T : TypeId} {size : Nat} {v : Value} {n : Nat} {xs : List Value} (h : w.ownsRow B T size v n xs) (hb : Below w.heap.size w w') : w'.ownsRow B T size v n xs :=
  ⟨h.1, h.2.imp id fun ⟨g, cap, cur, e, hg, hh, r⟩ => ⟨g, cap, cur, e, hg, (hb.block g (heap_lt hh)).trans hh, r⟩⟩
end Go.Proofs.YtjehpijjneghpaaGreat.Dk
namespace Go.Proofs.YtjehpijjneghpaaGreat.Re
open Go.RowKit Go.Maps Go.Sort Go.Shelf Go.Proofs.YtjehpijjneghpaaGreat.Nm Go.Proofs.YtjehpijjneghpaaGreat.Dk
set_option linter.unusedVariables false
theorem bs_eq (n : List UInt8) (s : ByteArray) : bsOf n = s ↔ n = s.data.toList := by
  constructor
  · rintro rfl; rfl
  · intro e
    subst e
    rfl
theorem str_ne {n : List UInt8} {s : ByteArray} (h : n ≠ s.data.toList) : ((bsOf n).toList == s.toList) = false := by
  rw [ByteArray.toList_eq, ByteArray.toList_eq, bsOf_list]
  simpa using h
def findN (L : Dr) (n : List UInt8) : Int := match get L n with | some p => (p : Int) | none => -1
theorem get_take {L : Dr} {n : List UInt8} {k : Nat} (hk : k < L.length) (h : ∀ j (hj : j < k), (L[j]'(by omega)).1 ≠ n) (e : L[k].1 = n) : get L n = some L[k].2 := by
  unfold Dk.get
  have : L.find? (fun p => p.1 == n) = some L[k] := by
    rw [List.find?_eq_some_iff_getElem]
    refine ⟨by simp [e], k, hk, rfl, fun j hj => ?_⟩
    simpa using h j hj
  rw [this]
  rfl
theorem get_none_of {L : Dr} {n : List UInt8} (h : ∀ j (hj : j < L.length), (L[j]).1 ≠ n) : get L n = none := by
  unfold Dk.get
  have : L.find? (fun p => p.1 == n) = none := by
    rw [List.find?_eq_none]
    intro x hx
    obtain ⟨j, hj, rfl⟩ := List.getElem_of_mem hx
    simpa using h j hj
  rw [this]
  rfl
set_option maxRecDepth 100000 in
set_option maxHeartbeats 1000000 in
theorem find_ref (w : World) (v : Value) (L : Dr) (s : ByteArray) (hv : Tr w v L) :
    Calls Tryz.prog 96 #[v, .string s] w fun e w' => e = .returned (.int .i64 (findN L s.data.toList)) ∧ w' = w := by
  obtain ⟨R, hR⟩ : ∃ R, Hid (findN L s.data.toList = R) := ⟨_, rfl⟩
  rw [hR.out]
  obtain ⟨ao, ca, rfl, q1, q2, q3⟩ := hv
  obtain ⟨N, hN⟩ : ∃ N, Hid (L.length = N) := ⟨_, rfl⟩
  rw [hN.out] at q1 ⊢
  replace q3 := hide q3
  go_enter Tryz.func96, Tryz.ntmps96
  go_wp2_with fail
  go_loopw [5] (fun i wr => ∃ k : Nat, i = .int .i64 k ∧ k ≤ N ∧ Hid (∀ j (hj : j < L.length), j < k → (L[j]).1 ≠ s.data.toList) ∧ wr = w) (fun i _ => N - (intOf i).toNat)
  case atStart => exact ⟨0, rfl, Nat.zero_le _, fun j hj c => absurd c (by omega), rfl⟩
  case round =>
    obtain ⟨k, rfl, hk, hno, rfl⟩ := hrel
    by_cases hlt : k < N
    · have i1 : (k : Int) < (N : Int) := by omega
      have hkl : k < L.length := by rw [hN.out]; exact hlt
      obtain ⟨gb, off, rfl, c0, c1⟩ := q3.out k hkl
      have hb := bs_eq L[k].1 s
      by_cases he : bsOf L[k].1 = s
      · have hg : Hid (R = (L[k].2 : Int)) := by
          show _ = _
          rw [← hR.out, findN, get_take hkl (fun j hj => hno.out j (by omega) hj) (hb.1 he)]
        rw [he] at c0
        go_wp2_with fail
        go_ret
        rw [hg.out]
        exact ⟨rfl, rfl⟩
      · have he2 : L[k].1 ≠ s.data.toList := fun c => he (hb.2 c)
        have h2 : Hid (∀ j (hj : j < L.length), j < k + 1 → (L[j]).1 ≠ s.data.toList) := fun j hj c => by
          by_cases e : j = k
          · subst e; exact he2
          · exact hno.out j hj (by omega)
        have hq : ((bsOf L[k].1).toList == s.toList) = false := str_ne he2
        clear hb
        generalize bsOf L[k].1 = t at *
        go_wp2_with fail
        exact ⟨⟨k + 1, by go_num, by omega, h2, trivial⟩, by simp [intOf]; omega⟩
    · have hg : Hid (R = -1) := by
        show _ = _
        rw [← hR.out, findN, get_none_of (fun j hj => hno.out j hj (by have := hN.out; omega))]
      go_wp2_with fail
      go_ret
      rw [hg.out]
      exact ⟨rfl, rfl⟩
def En (B : Nat) (w : World) (v : Value) (L : Dr) : Prop := w.ownsRow B 142 2 v L.length (tcells L)
theorem infoEn : (Tryz.prog.info? 142).map (fun i => (i.zero, i.size, i.bytes)) = some (some (.agg #[.string ⟨#[]⟩, .int .i64 0]), 2, 24) := by kernel_rfl
theorem En.nil (B : Nat) (w : World) : En B w (.slice none 0 0) [] := World.ownsRow_nil _ _ _ _
theorem En.tr {B : Nat} {w : World} {v : Value} {L : Dr} (h : En B w v L) : Tr w v L := by
  have h0 := h
  rcases h.2 with ⟨rfl, e⟩ | ⟨g, cap, cur, rfl, _, _, a, b, _⟩
  · have : L = [] := List.length_eq_zero_iff.1 e
    subst this
    exact ⟨none, 0, rfl, Nat.le_refl _, by omega, fun i hi => by simp at hi⟩
  · refine ⟨_, _, rfl, a, by unfold maxLen at b; omega, fun i hi => ⟨g, 0, rfl, ?_, ?_⟩⟩
    · have := World.ownsRow.cells h0 (g := g) rfl (i * 2) _ (tcells_at L i hi).1
      rw [addr_add] at this
      exact this
    · have := World.ownsRow.cells h0 (g := g) rfl (i * 2 + 1) _ (tcells_at L i hi).2
      rw [addr_add] at this
      exact this
theorem En.below {B : Nat} {w w' : World} {v : Value} {L : Dr} (h : En B w v L) (hb : Below w.heap.size w w') : En B w' v L := owns_belowN h hb
theorem ddel_take_keep {L : Dr} {n : List UInt8} {k : Nat} (hk : k < L.length) (e : L[k].1 ≠ n) : ddel (L.take (k + 1)) n = ddel (L.take k) n ++ [L[k]] := by
  unfold ddel
  rw [List.take_succ_eq_append_getElem hk, List.filter_append]
  simp [e]
theorem ddel_take_drop {L : Dr} {n : List UInt8} {k : Nat} (hk : k < L.length) (e : L[k].1 = n) : ddel (L.take (k + 1)) n = ddel (L.take k) n := by
  unfold ddel
  rw [List.take_succ_eq_append_getElem hk, List.filter_append]
  simp [e]
theorem ddel_len (L : Dr) (n : List UInt8) : (ddel L n).length ≤ L.length := List.length_filter_le _ _
theorem one_entry (w : World) (s : ByteArray) (n : Int) (t : TypeId) : ∀ j u, ([Value.string s, .int .i64 n] : List Value)[j]? = some u → (w.alloc (.cells #[.string s, .int .i64 n] t)).cell? ((⟨w.heap.size, 0, none⟩ : Addr).add j) = some u := by
  intro j u hu
  rw [addr_add]
  match j with
  | 0 => simp at hu; subst hu; simp only [World.cell?, heap_alloc_new]; rfl
  | 1 => simp at hu; subst hu; simp only [World.cell?, heap_alloc_new]; rfl
  | j + 2 => simp at hu
set_option maxRecDepth 100000 in
set_option maxHeartbeats 1000000 in
theorem without_ref (w : World) (v : Value) (L : Dr) (s : ByteArray) (hv : Tr w v L) (hl : (L.length : Int) ≤ 1000000000) :
    Calls Tryz.prog 122 #[v, .string s] w fun e w' => ∃ v', e = .returned v' ∧ En w.heap.size w' v' (ddel L s.data.toList) ∧ Below w.heap.size w w' := by
  obtain ⟨ao, ca, rfl, q1, q2, q3⟩ := hv
  obtain ⟨N, hN⟩ : ∃ N, Hid (L.length = N) := ⟨_, rfl⟩
  rw [hN.out] at q1 hl ⊢
  replace q3 := hide q3
  replace hl := hide hl
  obtain ⟨i0, hi, hz0, hz1, hz2⟩ := info_parts infoEn
  replace hi := hide hi
  go_enter Tryz.func122, Tryz.ntmps122
  go_wp2_with fail
  go_loopw [5, 6] (fun v5 i wr => ∃ k : Nat, i = .int .i64 k ∧ k ≤ N ∧ Hid (En w.heap.size wr v5 (ddel (L.take k) s.data.toList)) ∧ Hid (Below w.heap.size w wr)) (fun _ i _ => N - (intOf i).toNat)
  case atStart => exact ⟨0, rfl, Nat.zero_le _, En.nil _ _, Below.refl _ _⟩
  case round =>
    obtain ⟨k, rfl, hk, hO, hB⟩ := hrel
    by_cases hlt : k < N
    · have i1 : (k : Int) < (N : Int) := by omega
      have hkl : k < L.length := by rw [hN.out]; exact hlt
      obtain ⟨gb, off, rfl, c0, c1⟩ := q3.out k hkl
      rw [← hB.out.cell (p := ⟨gb, off + k * 2, none⟩) (lt_of_cell c0)] at c0
      rw [← hB.out.cell (p := ⟨gb, off + k * 2 + 1, none⟩) (lt_of_cell c1)] at c1
      have hb := bs_eq L[k].1 s
      by_cases he : bsOf L[k].1 = s
      · have hg := hide (ddel_take_drop hkl (hb.1 he))
        rw [he] at c0
        go_wp2_with fail
        exact ⟨⟨k + 1, by go_num, by omega, by rw [hg.out]; exact hO, hB⟩, by simp [intOf]; omega⟩
      · have hg := hide (ddel_take_keep hkl (fun c => he (hb.2 c)))
        have hll : Hid ((ddel (L.take k) s.data.toList).length ≤ k) := by have := ddel_len (L.take k) s.data.toList; rw [List.length_take] at this; show _ ≤ _; omega
        have hte : Hid (tcells [L[k]] = [.string (bsOf L[k].1), .int .i64 (L[k].2 : Int)]) := rfl
        have hq : ((bsOf L[k].1).toList == s.toList) = false := str_ne (fun c => he (hb.2 c))
        clear hb
        generalize bsOf L[k].1 = t at *
        generalize (L[k].2 : Int) = fn at *
        generalize L[k] = lk at *
        obtain ⟨D, hD⟩ : ∃ D, Hid (ddel (L.take k) s.data.toList = D) := ⟨_, rfl⟩
        rw [hD.out] at hO hg hll
        have B5 := hide (hB.out.trans ((box_below wr (.cells #[.string t, .int .i64 fn] 142)).mono hB.out.size))
        have O5 := hide (hO.out.below (box_below wr (.cells #[.string t, .int .i64 fn] 142)))
        have hz := hide B5.out.size
        go_wp2_with (at_builtin; refine wpList_append_lies _ rfl (.tmp 20) (.tmp 25) 100 rfl w.heap.size 142 i0 (.agg #[.string ⟨#[]⟩, .int .i64 0]) 2 24 Tryz.underlying100 hi.out hz0 hz1 hz2 rfl (by decide) u5 D.length (tcells D) rfl O5.out ⟨wr.heap.size, 0, none⟩ 1 1 [.string t, .int .i64 fn] rfl rfl (one_entry wr t fn _) (by simp [Value.oneCell']) (by decide) (by have := hll.out; have := hl.out; unfold maxLen; omega) (by have := hll.out; have := hl.out; omega) hz.out (wr.heap.size + 1) (by simp) ?_; intro g2 cap2 w5 ho5 hg5 hat hlt5; replace ho5 := hide ho5; replace hg5 := hide hg5)
        refine ⟨⟨k + 1, by go_num, by omega, ?_, Below.grown B5.out hg5.out hz.out (fun j hj => (World.ownsRow.lt O5.out j hj).1)⟩, by simp [intOf]; omega⟩
        show En _ _ _ _
        unfold En
        rw [hg.out, List.length_append, show tcells (D ++ [lk]) = tcells D ++ tcells [lk] by simp [tcells], hte.out]
        exact ho5.out
    · obtain rfl : k = N := by omega
      rw [List.take_of_length_le (by rw [hN.out]; omega)] at hO
      go_wp2_with fail
      go_ret
      exact ⟨_, rfl, hO.out, hB.out⟩
theorem less_before : ∀ (x y : List UInt8), Op.bytesLess x y = bytesBefore x y
  | [], [] => rfl
  | _ :: _, [] => rfl
  | [], _ :: _ => rfl
  | a :: x, b :: y => by rw [Op.bytesLess, bytesBefore, less_before x y]
theorem before_asym {x y : List UInt8} (h : bytesBefore x y = true) : bytesBefore y x = false := by
  by_cases c : bytesBefore y x = true
  · have := Go.WideShapes.bytes_trans x y x h c
    rw [Go.WideAt.bytes_irrefl] at this
    cases this
  · simpa using c
theorem dins_at (n : List UInt8) (p : Nat) : ∀ (D : Dr) (k : Nat), k ≤ D.length → (∀ j (hj : j < D.length), j < k → bytesBefore (D[j]).1 n = true) → (∀ hk : k < D.length, bytesBefore n (D[k]).1 = true) → dins (n, p) D = D.take k ++ (n, p) :: D.drop k := by
  intro D
  induction D with
  | nil => intro k hk _ _; simp at hk; subst hk; rfl
  | cons y r ih =>
    intro k hk h1 h2
    cases k with
    | zero =>
      have := h2 (by simp)
      simp only [List.getElem_cons_zero] at this
      simp [dins, this]
    | succ k =>
      have h0 := before_asym (h1 0 (by simp) (by omega))
      simp only [List.getElem_cons_zero] at h0
      have := ih k (by simpa using hk) (fun j hj hjk => h1 (j + 1) (by simp; omega) (by omega)) (fun hk' => h2 (by simp; omega))
      simp [dins, h0, this]
structure Er (w : World) (v : Value) (L : Dr) : Prop where
  tr : Tr w v L
  nl : ∀ n c, v = .slice none n c → n = 0 ∧ c = 0
theorem En.er {B : Nat} {w : World} {v : Value} {L : Dr} (h : En B w v L) : Er w v L := by
  refine ⟨h.tr, fun n c e => ?_⟩
  rcases h.2 with ⟨rfl, _⟩ | ⟨g, cap, cur, rfl, _⟩
  · simp only [Value.slice.injEq] at e; omega
  · simp at e
theorem Er.below {w w' : World} {v : Value} {L : Dr} (h : Er w v L) (hb : Below w.heap.size w w') : Er w' v L := ⟨h.tr.below hb, h.nl⟩
theorem run_appE {B : Nat} {w : World} {v vx : Value} {l m : Dr} (h : En B w v l) (hm : Er w vx m) (hl : ((l.length + m.length : Nat) : Int) ≤ 3000000000) (hB : B ≤ w.heap.size) (ty : TypeId) :
    ∃ v' w', (Builtin.append_ #[100, 100] ty #[v, vx]).run Tryz.prog w = .ok v' w' ∧ En B w' v' (l ++ m) ∧ w.grownBy w' v.ownBlock := by
  obtain ⟨i0, hi, hz0, hz1, hz2⟩ := info_parts infoEn
  obtain ⟨⟨ao, cap, rfl, h1, h2, h3⟩, hnl⟩ := hm
  cases ao with
  | none =>
    obtain ⟨e1, rfl⟩ := hnl _ _ rfl
    have : m = [] := List.length_eq_zero_iff.1 e1
    subst this
    refine ⟨v, w, ?_, by simpa using h, ⟨rfl, rfl, rfl, Nat.le_refl _, fun _ _ _ => rfl⟩⟩
    exact run_append_owned_none (P := Tryz.prog) (w := w) B 100 ty 142 i0 2 Tryz.underlying100 hi v l.length (tcells l) h
  | some ad =>
    have hcells : ∀ j u, (tcells m)[j]? = some u → w.cell? (ad.add j) = some u := by
      intro j u hu
      have hj : j < m.length * 2 := by
        have := (List.getElem?_eq_some_iff.1 hu).1
        rw [tcells_len] at this
        exact this
      obtain ⟨b, off, e1, c0, c1⟩ := h3 (j / 2) (by omega)
      obtain ⟨t0, t1⟩ := tcells_at m (j / 2) (by omega)
      simp only [Option.some.injEq] at e1
      subst e1
      rw [addr_add]
      rcases Nat.mod_two_eq_zero_or_one j with q | q
      · rw [show j = j / 2 * 2 by omega] at hu ⊢
        rw [t0] at hu
        simp only [Option.some.injEq] at hu
        subst hu
        exact c0
      · rw [show j = j / 2 * 2 + 1 by omega] at hu ⊢
        rw [t1] at hu
        simp only [Option.some.injEq] at hu
        subst hu
        rw [← Nat.add_assoc]
        exact c1
    obtain ⟨v', w', hr, ho, hg, _, hat⟩ := run_append_own_at (P := Tryz.prog) w B 100 ty 142 i0 (.agg #[.string ⟨#[]⟩, .int .i64 0]) 2 24 Tryz.underlying100 hi hz0 hz1 hz2 rfl (by decide) v l.length (tcells l) h ad m.length cap (tcells m) (tcells_len m) hcells (by
      intro u hu
      simp only [tcells, List.mem_flatten, List.mem_map] at hu
      obtain ⟨c, ⟨e, _, rfl⟩, hc⟩ := hu
      simp at hc
      rcases hc with rfl | rfl <;> rfl) (by unfold maxLen; omega) (by omega) hB
    refine ⟨v', w', hr, ?_, hg⟩
    unfold En
    rw [List.length_append, show tcells (l ++ m) = tcells l ++ tcells m by simp [tcells]]
    exact ho
theorem En.lt {B : Nat} {w : World} {v : Value} {L : Dr} (h : En B w v L) : ∀ k, v.ownBlock = some k → B ≤ k ∧ k < w.heap.size := fun k hk => World.ownsRow.lt h k hk
theorem En.form {B : Nat} {w : World} {v : Value} {L : Dr} (h : En B w v L) : (v = .slice none 0 0 ∧ L = []) ∨ ∃ g cap, v = .slice (some ⟨g, 0, none⟩) L.length cap ∧ L.length ≤ cap ∧ cap ≤ 9223372036854775807 := by
  rcases h.2 with ⟨rfl, e⟩ | ⟨g, cap, cur, rfl, _, _, a, b, _⟩
  · exact .inl ⟨rfl, List.length_eq_zero_iff.1 e⟩
  · exact .inr ⟨g, cap, rfl, a, by unfold maxLen at b; omega⟩
theorem Er.front {w : World} {g cap : Nat} {L : Dr} (h : Tr w (.slice (some ⟨g, 0, none⟩) L.length cap) L) {k : Nat} (hk : k ≤ L.length) : Er w (.slice (some ⟨g, 0, none⟩) k cap) (L.take k) := by
  obtain ⟨ao, ca, e, h1, h2, h3⟩ := h
  simp only [Value.slice.injEq] at e
  obtain ⟨rfl, _, rfl⟩ := e
  refine ⟨⟨_, _, by rw [List.length_take, Nat.min_eq_left hk], by rw [List.length_take]; omega, h2, fun i hi => ?_⟩, fun n c e => by simp at e⟩
  rw [List.length_take] at hi
  obtain ⟨b, off, e1, c0, c1⟩ := h3 i (by omega)
  rw [List.getElem_take]
  exact ⟨b, off, e1, c0, c1⟩
theorem Er.rest {w : World} {g cap : Nat} {L : Dr} (h : Tr w (.slice (some ⟨g, 0, none⟩) L.length cap) L) {k : Nat} (hk : k ≤ L.length) : Er w (.slice (some ⟨g, k * 2, none⟩) (L.length - k) (cap - k)) (L.drop k) := by
  obtain ⟨ao, ca, e, h1, h2, h3⟩ := h
  simp only [Value.slice.injEq] at e
  obtain ⟨rfl, _, rfl⟩ := e
  refine ⟨⟨_, _, by rw [List.length_drop], by rw [List.length_drop]; omega, by omega, fun i hi => ?_⟩, fun n c e => by simp at e⟩
  rw [List.length_drop] at hi
  obtain ⟨b, off, e1, c0, c1⟩ := h3 (k + i) (by omega)
  simp only [Option.some.injEq, Addr.mk.injEq] at e1
  obtain ⟨rfl, rfl, _⟩ := e1
  rw [List.getElem_drop]
  refine ⟨g, k * 2, rfl, ?_, ?_⟩
  · rw [show k * 2 + i * 2 = 0 + (k + i) * 2 by omega]; exact c0
  · rw [show k * 2 + i * 2 + 1 = 0 + (k + i) * 2 + 1 by omega]; exact c1
end Go.Proofs.YtjehpijjneghpaaGreat.Re
