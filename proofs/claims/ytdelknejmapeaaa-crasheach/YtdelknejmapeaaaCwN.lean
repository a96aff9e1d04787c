/-
  CrashEach: what each fate leaves, in memory.
-/
import Derived.Test.YtdelknejmapeaaaCwM
namespace Go.Proofs.Ytdelknejmapeaaa.Dk
open Go.RowKit Go.Maps Go.Sort Go.Shelf Go.Proofs.Ytdelknejmapeaaa.Nm
set_option linter.unusedVariables false

/-- What the i-th fate leaves, in memory from block B on. -/
structure EA (B : Nat) (q : World) (b : Nat) (A B' C : List UInt8) (i : Nat) : Prop where
  out : ∃ S O, DskE q b S O ∧ (∀ k, O k → B ≤ k) ∧ S.size sA = (((A.length + keyE B'.length C.length i : Nat) : Int), 0) ∧
    (∀ n : Nat, n ≤ A.length + keyE B'.length C.length i → S.read sA 0 (n : Int) = ((A ++ B'.take (keyE B'.length C.length i)).take n, 0)) ∧
    (i ≤ B'.length → S.size (sM 110) = (0, 6)) ∧ (¬ i ≤ B'.length → ∃ z : Nat, z ≤ C.length ∧ S.size (sM 110) = ((z : Int), 0))
theorem EA.but {X : Nat → Prop} {B : Nat} {q q' : World} {b : Nat} {A B' C : List UInt8} {i : Nat} (h : EA B q b A B' C i) (hb : But X q q') (hx : ∀ k, X k → k < B) : EA B q' b A B' C i := by
  obtain ⟨S, O, hd, hl, r⟩ := h.out
  exact ⟨S, O, hd.but hb (fun k hk c => by have := hl k hk; have := hx k c; omega), hl, r⟩
theorem EA.below {B : Nat} {q q' : World} {b : Nat} {A B' C : List UInt8} {i : Nat} (h : EA B q b A B' C i) (hb : Below q.heap.size q q') : EA B q' b A B' C i := h.but (But.of_below hb fun _ => False) fun _ c => c.elim
theorem ea_after {w q : World} {b : Nat} {S : DS} {A B C : List UInt8} (h : EI w q b S 110 A B C) (hw : (B.length + 1) * (C.length + 2) ≤ M40) (i : Nat) (hi : i < (B.length + 1) * (C.length + 2)) :
    Calls Try.prog 28 #[.pointer (some ⟨b, 0, none⟩), .int .i64 (i : Int)] q fun e w' => ∃ b', e = .returned (.tuple #[.pointer (some ⟨b', 0, none⟩), .int .i64 0]) ∧ EA q.heap.size w' b' A B C i ∧ Below q.heap.size q w' := by
  refine (ei_after h hw i hi).mono ?_
  rintro e w' ⟨b', rfl, ⟨d, j, σ, S', O', hf, hal, hd, hl⟩, hb⟩
  obtain ⟨O, p, r, _, he, _⟩ := h
  obtain ⟨e1, e2, e3, e4⟩ := he.after hf
  refine ⟨b', rfl, ⟨S', O', hd, hl, ?_, ?_, ?_, ?_⟩, hb⟩
  · rw [hal.size]; exact e1
  · intro n hn; rw [hal.read]; exact e2 n hn
  · intro c; rw [hal.size]; exact e3 c
  · intro c; rw [hal.size]; exact e4 c
theorem ea_size {B : Nat} {q : World} {b : Nat} {A B' C : List UInt8} {i : Nat} (h : EA B q b A B' C i) :
    Calls Try.prog 8 #[.pointer (some ⟨b, 0, none⟩), .string ⟨#[97]⟩] q fun e w' => e = .returned (.tuple #[.int .i64 ((A.length + keyE B'.length C.length i : Nat) : Int), .int .i64 0]) ∧ Below q.heap.size q w' := by
  obtain ⟨S, O, hd, hl, e1, _⟩ := h.out
  have := size_dsk hd sA (by decide)
  rw [e1] at this
  exact this
theorem ea_read {B : Nat} {q : World} {b : Nat} {A B' C : List UInt8} {i : Nat} (h : EA B q b A B' C i) :
    Calls Try.prog 7 #[.pointer (some ⟨b, 0, none⟩), .string ⟨#[97]⟩, .int .i64 0, .int .i64 ((A.length + keyE B'.length C.length i : Nat) : Int)] q fun e w' => ∃ v, e = .returned (.tuple #[v, .int .i64 0]) ∧ Ob q.heap.size w' v ((A ++ B'.take (keyE B'.length C.length i)).take (A.length + keyE B'.length C.length i)) ∧ Below q.heap.size q w' := by
  obtain ⟨S, O, hd, hl, _, e2, _⟩ := h.out
  have := read_dsk hd sA (by decide) 0 ((A.length + keyE B'.length C.length i : Nat) : Int)
  rw [e2 _ (Nat.le_refl _)] at this
  exact this
theorem ea_size0 {B : Nat} {q : World} {b : Nat} {A B' C : List UInt8} {i : Nat} (h : EA B q b A B' C i) (hi : i ≤ B'.length) :
    Calls Try.prog 8 #[.pointer (some ⟨b, 0, none⟩), .string ⟨#[110]⟩] q fun e w' => e = .returned (.tuple #[.int .i64 0, .int .i64 6]) ∧ Below q.heap.size q w' := by
  obtain ⟨S, O, hd, hl, _, _, e3, _⟩ := h.out
  have := size_dsk hd (sM 110) (by decide)
  rw [e3 hi] at this
  exact this
theorem ea_size1 {B : Nat} {q : World} {b : Nat} {A B' C : List UInt8} {i : Nat} (h : EA B q b A B' C i) (hi : ¬ i ≤ B'.length) :
    Calls Try.prog 8 #[.pointer (some ⟨b, 0, none⟩), .string ⟨#[110]⟩] q fun e w' => ∃ z : Nat, z ≤ C.length ∧ e = .returned (.tuple #[.int .i64 (z : Int), .int .i64 0]) ∧ Below q.heap.size q w' := by
  obtain ⟨S, O, hd, hl, _, _, _, e4⟩ := h.out
  obtain ⟨z, hz, e⟩ := e4 hi
  have := size_dsk hd (sM 110) (by decide)
  rw [e] at this
  refine this.mono ?_
  rintro e w' ⟨rfl, hb⟩
  exact ⟨z, hz, rfl, hb⟩
/-- How many have been seen, as cells. -/
def svs (lb lc i : Nat) : List Value := (List.range (lb + 1)).map fun (j : Nat) => Value.int .i64 (cfE lb lc j i : Int)
theorem svs_len (lb lc i : Nat) : (svs lb lc i).length = lb + 1 := by simp [svs]
theorem svs_get {lb lc i j : Nat} (h : j ≤ lb) : (svs lb lc i)[j]? = some (.int .i64 (cfE lb lc j i : Int)) := by
  unfold svs
  rw [List.getElem?_map, List.getElem?_range (by omega)]
  rfl
theorem svs_zero (lb lc : Nat) : svs lb lc 0 = List.replicate (lb + 1) (.int .i64 0) := by
  refine List.ext_getElem? fun j => ?_
  by_cases h : j ≤ lb
  · rw [svs_get h, cfE_zero, List.getElem?_replicate, if_pos (by omega)]; rfl
  · rw [List.getElem?_eq_none (by rw [svs_len]; omega), List.getElem?_eq_none (by simp; omega)]
theorem svs_step {lb lc i : Nat} (h : i < (lb + 1) * (lc + 2)) : (svs lb lc i).set (keyE lb lc i) (.int .i64 ((cfE lb lc (keyE lb lc i) i : Int) + 1)) = svs lb lc (i + 1) := by
  have hk := keyE_le h
  refine List.ext_getElem? fun j => ?_
  rw [List.getElem?_set]
  by_cases hj : j ≤ lb
  · rw [svs_get hj, svs_get hj, cfE_step hj]
    by_cases e : keyE lb lc i = j
    · subst e
      rw [if_pos rfl, if_pos (by rw [svs_len]; omega), if_pos rfl]
      rfl
    · rw [if_neg e, if_neg e]
      rfl
  · rw [if_neg (by omega), List.getElem?_eq_none (by rw [svs_len]; omega), List.getElem?_eq_none (by rw [svs_len]; omega)]
theorem infoInt : (Try.prog.info? 3).map (fun i => (i.zero, i.size, i.bytes)) = some (some (.int .i64 0), 1, 8) := by kernel_rfl
theorem front_at (A B : List UInt8) (k j : Nat) (hk : k ≤ B.length) (hj : j < A.length + k) : ((A ++ B.take k).take (A.length + k))[j]? = (A ++ B)[j]? := by
  rw [List.getElem?_take, if_pos hj]
  by_cases h : j < A.length
  · rw [List.getElem?_append_left h, List.getElem?_append_left h]
  · rw [List.getElem?_append_right (by omega), List.getElem?_append_right (by omega), List.getElem?_take, if_pos (by omega)]
end Go.Proofs.Ytdelknejmapeaaa.Dk
