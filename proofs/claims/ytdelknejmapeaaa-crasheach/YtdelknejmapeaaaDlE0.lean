/-
  The bytes of a directory's files together; no name stands twice.
-/
import Derived.Test.YtdelknejmapeaaaDla
import Derived.Maps.Range
import Derived.Maps.RangeWalk
import Derived.Maps.Ext
namespace Go.Proofs.Ytdelknejmapeaaa.Dk
open Go.RowKit Go.Maps Go.Proofs.Ytdelknejmapeaaa.Nm

def sumL (F : Nat → Fl) (l : Dr) : Nat := (l.map fun e => (F e.2).by_.length).sum
def leftS (F : Nat → Fl) (l : Dr) (left : Lit → Bool) : Nat := (l.map fun e => if left (.string e.1) then (F e.2).by_.length else 0).sum
theorem Mp.keys {w : World} {b : Nat} {l : Dr} (h : Mp w b l) : l.Pairwise (fun p q => p.1 ≠ q.1) := by
  obtain ⟨es, e, hp, _⟩ := World.ownsMap.entries h keyS
  have e2 : l.map dent = es := by
    have : DataW.map (l.map dent) = DataW.map es := e
    simpa using this
  rw [← e2, List.pairwise_map] at hp
  refine hp.imp fun h1 h2 => h1 ?_
  show Lit.string _ = Lit.string _
  rw [h2]
theorem leftS_start (F : Nat → Fl) (l : Dr) : leftS F l (Maps.has (dirD l)) = sumL F l := by
  unfold leftS sumL
  congr 1
  apply List.map_congr_left
  intro e he
  rw [dirD_has]
  have : (get l e.1).isSome = true := by
    unfold get
    rw [Option.isSome_map, List.find?_isSome]
    exact ⟨e, he, by simp⟩
  rw [this]
  rfl
theorem leftS_end (F : Nat → Fl) (l : Dr) {left : Lit → Bool} (h : ∀ kl, left kl = false) : leftS F l left = 0 := by
  unfold leftS
  induction l with
  | nil => rfl
  | cons y r ih =>
    rw [List.map_cons, List.sum_cons, ih, h]
    rfl
theorem sameStr (a k : List UInt8) : (Lit.string a).sameKey (.string k) = (a == k) := rfl
theorem leftS_step (F : Nat → Fl) {l : Dr} {left : Lit → Bool} {k : List UInt8} {p : Nat} (hk : l.Pairwise (fun p q => p.1 ≠ q.1)) (hg : get l k = some p) (hl : left (.string k) = true) :
    leftS F l left = leftS F l (fun z => left z && !z.sameKey (.string k)) + (F p).by_.length := by
  induction l with
  | nil => simp [get] at hg
  | cons y r ih =>
    rw [List.pairwise_cons] at hk
    obtain ⟨h1, h2⟩ := hk
    have u : ∀ q : Lit → Bool, leftS F (y :: r) q = (if q (.string y.1) then (F y.2).by_.length else 0) + leftS F r q := fun q => by simp [leftS]
    rw [u, u]
    by_cases c : y.1 = k
    · have e : (y.1 == k) = true := by simpa using c
      have hp : y.2 = p := by simpa [get, List.find?_cons, e] using hg
      have hr : leftS F r (fun z => left z && !z.sameKey (.string k)) = leftS F r left := by
        unfold leftS
        congr 1
        apply List.map_congr_left
        intro e he
        have : (e.1 == k) = false := by have := h1 e he; simp; intro q; exact this (by rw [c, q])
        simp only [sameStr, this, Bool.not_false, Bool.and_true]
      rw [hr]
      have z1 : (left (.string y.1) && !(Lit.string y.1).sameKey (.string k)) = false := by rw [sameStr, e]; simp
      have z2 : left (.string y.1) = true := by rw [c]; exact hl
      rw [z1, z2, hp]
      simp
      omega
    · have e : (y.1 == k) = false := by simpa using c
      have hg2 : get r k = some p := by simpa [get, List.find?_cons, e] using hg
      rw [ih h2 hg2]
      simp only [sameStr, e, Bool.not_false, Bool.and_true]
      omega
theorem sumL_le (F : Nat → Fl) (l : Dr) (h : ∀ e ∈ l, (F e.2).by_.length ≤ 16777216) : sumL F l ≤ l.length * 16777216 := by
  induction l with
  | nil => simp [sumL]
  | cons y r ih =>
    have h1 := h y (by simp)
    have h2 := ih (fun e he => h e (by simp [he]))
    simp only [sumL, List.map_cons, List.sum_cons, List.length_cons] at *
    omega
theorem leftS_le (F : Nat → Fl) (l : Dr) (left : Lit → Bool) : leftS F l left ≤ sumL F l := by
  induction l with
  | nil => simp [sumL, leftS]
  | cons y r ih =>
    simp only [sumL, leftS, List.map_cons, List.sum_cons] at *
    split <;> omega
/-- A name's file is one of those that are summed. -/
theorem sumL_one (F : Nat → Fl) {l : Dr} {k : List UInt8} {p : Nat} (h : get l k = some p) : (F p).by_.length ≤ sumL F l := by
  have := get_mem h
  clear h
  induction l with
  | nil => simp at this
  | cons y r ih =>
    simp only [sumL, List.map_cons, List.sum_cons] at *
    rcases List.mem_cons.1 this with q | q
    · rw [← q]; simp
    · have := ih q
      omega
theorem keyOf_str_inv {key : Value} {kl : Lit} (h : keyOf Try.prog TS key = some kl) : ∃ s : ByteArray, key = .string s := by
  have e : Try.prog.underlying TS = some .string := Try.underlying9
  cases key <;> simp [keyOf, e, mapKey] at h
  exact ⟨_, rfl⟩
theorem keyOf_str_lit {s : ByteArray} {kl : Lit} (h : keyOf Try.prog TS (.string s) = some kl) : kl = .string s.data.toList ∧ s.size ≤ maxLen := by
  have e : Try.prog.underlying TS = some .string := Try.underlying9
  simp [keyOf, e, mapKey] at h
  exact ⟨h.2.symm, h.1⟩
theorem ptrR_shape {v : Value} {y : DataW Unit × List MemPlace} (h : ptrR v = some y) : ∃ c : Option Nat, v = .pointer (c.map fun b => ⟨b, 0, none⟩) := by
  unfold ptrR at h
  split at h
  · exact ⟨some _, rfl⟩
  · exact ⟨none, rfl⟩
  · simp at h
/-- What comes up in a round: a name of the directory and its file. -/
theorem round_get {l : Dr} {s : ByteArray} {c : Option Nat} {y : DataW Unit × List MemPlace} (hat : ∀ zd, (dirD l).atKey (.string s.data.toList) zd = y.1) (hy : ptrR (.pointer (c.map fun b => ⟨b, 0, none⟩)) = some y) (hh : (get l s.data.toList).isSome = true) : ∃ p, c = some p ∧ get l s.data.toList = some p := by
  obtain ⟨p, hp⟩ := Option.isSome_iff_exists.1 hh
  have := hat .nil
  rw [dirD_at_some hp] at this
  cases c with
  | none => rw [Option.map_none, ptrR_none] at hy; cases hy; cases this
  | some q =>
    rw [Option.map_some, ptrR_some] at hy
    cases hy
    simp at this
    have e : p = q := by omega
    subst e
    exact ⟨_, rfl, hp⟩
end Go.Proofs.Ytdelknejmapeaaa.Dk
