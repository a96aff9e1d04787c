/-
  DiskFills, by data: two files, and what is left.
-/
import Derived.Test.YtdelknejmapeaaaDlM
namespace Go.Proofs.Ytdelknejmapeaaa.Dk
open Go.RowKit Go.Maps Go.Sort Go.Shelf Go.Proofs.Ytdelknejmapeaaa.Nm

theorem soff_of {w : World} {v : Value} {D : List UInt8} {O : Nat → Prop} (h : Sl w v D) (lo : ∀ k, O k → w.heap.size ≤ k) : SOff O v := by
  obtain ⟨ao, cap, rfl, _, _, _, h5⟩ := h
  intro b off n c e hn k
  simp only [Value.slice.injEq] at e
  obtain ⟨rfl, rfl, _⟩ := e
  obtain ⟨b', off', e', hc⟩ := h5 0 hn
  simp only [Option.some.injEq, Addr.mk.injEq] at e'
  have q1 : b' < w.heap.size := lt_of_cell hc
  have q2 := lo b k
  have q3 := e'.1
  omega
def sB : ByteArray := ⟨#[98]⟩
/-- No fault is armed: none befalls. -/
theorem flt_none {S : DS} (h : S.al = []) : S.flt = zf := by unfold DS.flt; rw [h]; rfl
theorem hit_none {S : DS} (h : S.al = []) (j : Nat) : S.hit j = S.beg j := by
  unfold DS.hit DS.str
  rw [flt_none h]
  rfl
theorem ref_up {S : DS} (h : S.up = true) {s : ByteArray} (hm : may s.data.toList = true) : S.ref [s] = 0 := by
  unfold DS.ref
  rw [h]
  simp [hm]
theorem find_get {S : DS} (h : S.up = true) {s : ByteArray} (hm : may s.data.toList = true) {p : Nat} (hg : get S.dir s.data.toList = some p) : S.find s = (some p, 0) := by
  unfold DS.find
  rw [ref_up h hm, if_pos rfl, hg]
theorem may_a : may sA.data.toList = true := by decide
theorem may_b : may sB.data.toList = true := by decide
/-- The two files a and b, with so many bytes; nothing armed. -/
structure Fil (S : DS) (M pa pb a b : Nat) : Prop where
  up : S.up = true
  al : S.al = []
  most : S.most = (M : Int)
  dir : S.dir = [([97], pa), ([98], pb)]
  ne : pa ≠ pb
  fa : (S.F pa).by_.length = a
  fb : (S.F pb).by_.length = b
theorem Fil.room {S : DS} {M pa pb a b : Nat} (h : Fil S M pa pb a b) (hab : a + b ≤ M) : S.room = ((M - a - b : Nat) : Int) := by
  unfold DS.room
  rw [h.dir, h.most]
  simp only [sumL, List.map_cons, List.map_nil, List.sum_cons, List.sum_nil, h.fa, h.fb]
  omega
theorem Fil.apN {S : DS} {M pa pb a b : Nat} (h : Fil S M pa pb a b) (hab : a + b ≤ M) (len : Nat) : S.apN len = min (M - a - b) len := by
  unfold DS.apN
  rw [flt_none h.al, if_neg (by decide), h.room hab]
  omega
theorem Fil.app_a {S : DS} {M pa pb a b : Nat} (h : Fil S M pa pb a b) (hab : a + b ≤ M) (D : List UInt8) :
    (S.append sA D).2.1 = ((min (M - a - b) D.length : Nat) : Int) ∧ (S.append sA D).2.2 = (if min (M - a - b) D.length < D.length then 21 else 0) ∧ Fil (S.append sA D).1 M pa pb (a + min (M - a - b) D.length) b ∧ (S.append sA D).1.c7 = S.c7 + 1 := by
  have e : S.append sA D = ({ (S.beg 1).str S.flt.2.1 with F := upd S.F pa (apF (S.F pa) (D.take (S.apN D.length))), c8 := S.c8 + (S.apN D.length : Int) }, (S.apN D.length : Int), if strF S.flt.2.1 ≠ 0 then strF S.flt.2.1 else if S.apN D.length < D.length then 21 else 0) := by
    unfold DS.append
    rw [find_get h.up may_a (p := pa) (by rw [h.dir]; rfl)]
  rw [e, h.apN hab, flt_none h.al]
  refine ⟨rfl, ?_, ⟨h.up, ?_, h.most, h.dir, h.ne, ?_, ?_⟩, rfl⟩
  · show (if strF 0 ≠ 0 then strF 0 else if min (M - a - b) D.length < D.length then 21 else 0) = _
    rw [if_neg (by decide)]
  · show adel S.al _ = []
    rw [h.al]; rfl
  · show (upd S.F pa _ pa).by_.length = _
    rw [upd_same]
    simp only [apF, List.length_append, List.length_take, h.fa]
    omega
  · show (upd S.F pa _ pb).by_.length = _
    rw [upd_ne _ _ (Ne.symm h.ne)]
    exact h.fb
theorem Fil.app_b {S : DS} {M pa pb a b : Nat} (h : Fil S M pa pb a b) (hab : a + b ≤ M) (D : List UInt8) :
    (S.append sB D).2.1 = ((min (M - a - b) D.length : Nat) : Int) ∧ (S.append sB D).2.2 = (if min (M - a - b) D.length < D.length then 21 else 0) ∧ Fil (S.append sB D).1 M pa pb a (b + min (M - a - b) D.length) ∧ (S.append sB D).1.c7 = S.c7 + 1 := by
  have e : S.append sB D = ({ (S.beg 1).str S.flt.2.1 with F := upd S.F pb (apF (S.F pb) (D.take (S.apN D.length))), c8 := S.c8 + (S.apN D.length : Int) }, (S.apN D.length : Int), if strF S.flt.2.1 ≠ 0 then strF S.flt.2.1 else if S.apN D.length < D.length then 21 else 0) := by
    unfold DS.append
    rw [find_get h.up may_b (p := pb) (by rw [h.dir]; rfl)]
  rw [e, h.apN hab, flt_none h.al]
  refine ⟨rfl, ?_, ⟨h.up, ?_, h.most, h.dir, h.ne, ?_, ?_⟩, rfl⟩
  · show (if strF 0 ≠ 0 then strF 0 else if min (M - a - b) D.length < D.length then 21 else 0) = _
    rw [if_neg (by decide)]
  · show adel S.al _ = []
    rw [h.al]; rfl
  · show (upd S.F pb _ pa).by_.length = _
    rw [upd_ne _ _ h.ne]
    exact h.fa
  · show (upd S.F pb _ pb).by_.length = _
    rw [upd_same]
    simp only [apF, List.length_append, List.length_take, h.fb]
    omega
/-- Without a. -/
structure Fil1 (S : DS) (M pb b : Nat) : Prop where
  up : S.up = true
  al : S.al = []
  most : S.most = (M : Int)
  dir : S.dir = [([98], pb)]
  fb : (S.F pb).by_.length = b
theorem Fil.remove {S : DS} {M pa pb a b : Nat} (h : Fil S M pa pb a b) : (S.remove sA).2 = 0 ∧ Fil1 (S.remove sA).1 M pb b ∧ (S.remove sA).1.c7 = S.c7 + 1 := by
  have e : S.remove sA = ({ S.hit 5 with P := S.P ++ [.rm sA] }, 0) := by
    unfold DS.remove
    rw [find_get h.up may_a (p := pa) (by rw [h.dir]; rfl), if_neg (by simp), flt_none h.al, if_neg (by decide)]
  rw [e, hit_none h.al]
  refine ⟨rfl, ⟨h.up, ?_, h.most, ?_, h.fb⟩, rfl⟩
  · show adel S.al _ = []
    rw [h.al]; rfl
  · show runs S.l2 (S.P ++ [.rm sA]) = _
    rw [runs_snoc]
    show (Ch.rm sA).run S.dir = _
    rw [h.dir]
    rfl
theorem Fil1.create {S : DS} {M pb b p : Nat} (h : Fil1 S M pb b) (hp : p ∉ S.ps) : (S.create sA p).2 = 0 ∧ Fil (S.create sA p).1 M p pb 0 b ∧ (S.create sA p).1.c7 = S.c7 + 1 := by
  have hb : pb ∈ S.ps := DS.mem_dir (n := [98]) (by rw [h.dir]; rfl)
  have hne : p ≠ pb := fun e => hp (by rw [e]; exact hb)
  have e : S.create sA p = ({ (S.beg 0).str S.flt.2.1 with P := S.P ++ [.cr sA p], F := upd S.F p ⟨[], [], 0⟩ }, 0) := by
    unfold DS.create
    rw [ref_up h.up may_a, if_neg (by simp), h.dir, if_neg (by simp [get, sA]), if_neg (by simp), flt_none h.al, if_neg (by decide)]
  rw [e, flt_none h.al]
  refine ⟨rfl, ⟨h.up, ?_, h.most, ?_, hne, ?_, ?_⟩, rfl⟩
  · show adel S.al _ = []
    rw [h.al]; rfl
  · show runs S.l2 (S.P ++ [.cr sA p]) = _
    rw [runs_snoc]
    show (Ch.cr sA p).run S.dir = _
    rw [h.dir]
    rfl
  · show (upd S.F p _ p).by_.length = _
    rw [upd_same]; rfl
  · show (upd S.F p _ pb).by_.length = _
    rw [upd_ne _ _ (Ne.symm hne)]
    exact h.fb
theorem Fil.size {S : DS} {M pa pb a b : Nat} (h : Fil S M pa pb a b) : S.size sA = ((a : Int), 0) := by
  unfold DS.size
  rw [find_get h.up may_a (p := pa) (by rw [h.dir]; rfl)]
  show (((S.F pa).by_.length : Int), _) = _
  rw [h.fa]
theorem new_create (M : Int) (p : Nat) : (DS.new M).create sA p = (⟨M, true, [], [.cr sA p], [], 1, 0, 0, 0, 0, 0, 0, 1, 0, noF⟩, 0) := by
  have e : (DS.new M).create sA p = (⟨M, true, [], [.cr sA p], [], 1, 0, 0, 0, 0, 0, 0, 1, 0, upd noF p ⟨[], [], 0⟩⟩, 0) := by kernel_rfl
  rw [e, upd_noF]
theorem new_create2 (M pa pb : Nat) (hp : pb ∉ (⟨(M : Int), true, [], [.cr sA pa], [], 1, 0, 0, 0, 0, 0, 0, 1, 0, noF⟩ : DS).ps) : ((⟨(M : Int), true, [], [.cr sA pa], [], 1, 0, 0, 0, 0, 0, 0, 1, 0, noF⟩ : DS).create sB pb).2 = 0 ∧ Fil ((⟨(M : Int), true, [], [.cr sA pa], [], 1, 0, 0, 0, 0, 0, 0, 1, 0, noF⟩ : DS).create sB pb).1 M pa pb 0 0 ∧ ((⟨(M : Int), true, [], [.cr sA pa], [], 1, 0, 0, 0, 0, 0, 0, 1, 0, noF⟩ : DS).create sB pb).1.c7 = 2 := by
  have e : (⟨(M : Int), true, [], [.cr sA pa], [], 1, 0, 0, 0, 0, 0, 0, 1, 0, noF⟩ : DS).create sB pb = (⟨(M : Int), true, [], [.cr sA pa, .cr sB pb], [], 2, 0, 0, 0, 0, 0, 0, 2, 0, upd noF pb ⟨[], [], 0⟩⟩, 0) := by kernel_rfl
  rw [e, upd_noF]
  refine ⟨rfl, ⟨rfl, rfl, rfl, rfl, ?_, rfl, rfl⟩, rfl⟩
  rintro rfl
  exact hp (by simp [DS.ps, Ch.ptr])
end Go.Proofs.Ytdelknejmapeaaa.Dk
