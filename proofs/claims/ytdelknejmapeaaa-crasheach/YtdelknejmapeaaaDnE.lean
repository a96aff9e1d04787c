/-
  Count; what operations count, where nothing is armed.
-/
import Derived.Test.YtdelknejmapeaaaDnB
import Derived.Test.YtdelknejmapeaaaDnD
namespace Go.Proofs.Ytdelknejmapeaaa.Dk
open Go.RowKit Go.Maps Go.Sort Go.Shelf Go.Proofs.Ytdelknejmapeaaa.Nm

theorem DskE.cnts {w : World} {b : Nat} {S : DS} {O : Nat → Prop} (h : DskE w b S O) : (0 ≤ S.c0 ∧ 0 ≤ S.c1 ∧ 0 ≤ S.c2 ∧ 0 ≤ S.c3 ∧ 0 ≤ S.c4 ∧ 0 ≤ S.c5 ∧ 0 ≤ S.c6 ∧ 0 ≤ S.c7) ∧ (S.c0 ≤ S.c7 ∧ S.c1 ≤ S.c7 ∧ S.c2 ≤ S.c7 ∧ S.c3 ≤ S.c7 ∧ S.c4 ≤ S.c7 ∧ S.c5 ≤ S.c7 ∧ S.c6 ≤ S.c7) := by
  obtain ⟨f, g, pd, am, VB, VL, h⟩ := h
  exact ⟨h.dk.c0, h.dk.c1⟩
def DS.cs (S : DS) : Array Value := #[.int .i64 S.c0, .int .i64 S.c1, .int .i64 S.c2, .int .i64 S.c3, .int .i64 S.c4, .int .i64 S.c5, .int .i64 S.c6, .int .i64 S.c7, .int .i64 S.c8]
set_option maxRecDepth 100000 in
theorem count_dsk {w : World} {b : Nat} {S : DS} {O : Nat → Prop} (h : DskE w b S O) :
    Calls Try.prog 24 #[.pointer (some ⟨b, 0, none⟩)] w fun e w' => e = .returned (.agg S.cs) ∧ Below w.heap.size w w' := by
  obtain ⟨f, g, pd, am, VB, VL, h⟩ := h
  have hb := h.dk.cells
  have hB := hide (box_below w (.cells S.cs 35))
  have hb1 : (w.alloc (.cells #[.int .i64 0, .int .i64 0, .int .i64 0, .int .i64 0, .int .i64 0, .int .i64 0, .int .i64 0, .int .i64 0, .int .i64 0] 35)).heap[b]? = some (.cells (dcells (S.dc f g pd am)) TD (0, 0)) := ((box_below w _).block b (heap_lt hb)).trans hb
  have x0 : (w.alloc (.cells #[.int .i64 0, .int .i64 0, .int .i64 0, .int .i64 0, .int .i64 0, .int .i64 0, .int .i64 0, .int .i64 0, .int .i64 0] 35)).cell? ⟨b, 6, none⟩ = some (.int .i64 S.c0) := by simp [World.cell?, hb1, dcells, DS.dc]
  have x1 : (w.alloc (.cells #[.int .i64 0, .int .i64 0, .int .i64 0, .int .i64 0, .int .i64 0, .int .i64 0, .int .i64 0, .int .i64 0, .int .i64 0] 35)).cell? ⟨b, 7, none⟩ = some (.int .i64 S.c1) := by simp [World.cell?, hb1, dcells, DS.dc]
  have x2 : (w.alloc (.cells #[.int .i64 0, .int .i64 0, .int .i64 0, .int .i64 0, .int .i64 0, .int .i64 0, .int .i64 0, .int .i64 0, .int .i64 0] 35)).cell? ⟨b, 8, none⟩ = some (.int .i64 S.c2) := by simp [World.cell?, hb1, dcells, DS.dc]
  have x3 : (w.alloc (.cells #[.int .i64 0, .int .i64 0, .int .i64 0, .int .i64 0, .int .i64 0, .int .i64 0, .int .i64 0, .int .i64 0, .int .i64 0] 35)).cell? ⟨b, 9, none⟩ = some (.int .i64 S.c3) := by simp [World.cell?, hb1, dcells, DS.dc]
  have x4 : (w.alloc (.cells #[.int .i64 0, .int .i64 0, .int .i64 0, .int .i64 0, .int .i64 0, .int .i64 0, .int .i64 0, .int .i64 0, .int .i64 0] 35)).cell? ⟨b, 10, none⟩ = some (.int .i64 S.c4) := by simp [World.cell?, hb1, dcells, DS.dc]
  have x5 : (w.alloc (.cells #[.int .i64 0, .int .i64 0, .int .i64 0, .int .i64 0, .int .i64 0, .int .i64 0, .int .i64 0, .int .i64 0, .int .i64 0] 35)).cell? ⟨b, 11, none⟩ = some (.int .i64 S.c5) := by simp [World.cell?, hb1, dcells, DS.dc]
  have x6 : (w.alloc (.cells #[.int .i64 0, .int .i64 0, .int .i64 0, .int .i64 0, .int .i64 0, .int .i64 0, .int .i64 0, .int .i64 0, .int .i64 0] 35)).cell? ⟨b, 12, none⟩ = some (.int .i64 S.c6) := by simp [World.cell?, hb1, dcells, DS.dc]
  have x7 : (w.alloc (.cells #[.int .i64 0, .int .i64 0, .int .i64 0, .int .i64 0, .int .i64 0, .int .i64 0, .int .i64 0, .int .i64 0, .int .i64 0] 35)).cell? ⟨b, 13, none⟩ = some (.int .i64 S.c7) := by simp [World.cell?, hb1, dcells, DS.dc]
  have x8 : (w.alloc (.cells #[.int .i64 0, .int .i64 0, .int .i64 0, .int .i64 0, .int .i64 0, .int .i64 0, .int .i64 0, .int .i64 0, .int .i64 0] 35)).cell? ⟨b, 14, none⟩ = some (.int .i64 S.c8) := by simp [World.cell?, hb1, dcells, DS.dc]
  clear hb1 hb h
  unfold DS.cs at hB ⊢
  go_enter Try.func24, Try.ntmps24
  go_wp2_with fail
  go_returns
  exact ⟨rfl, hB.out⟩
#print axioms count_dsk
theorem pending_dsk {w : World} {b : Nat} {S : DS} {O : Nat → Prop} (h : DskE w b S O) :
    Calls Try.prog 20 #[.pointer (some ⟨b, 0, none⟩)] w fun e w' => e = .returned (.int .i64 (S.P.length : Int)) ∧ w' = w := by
  obtain ⟨f, g, pd, am, VB, VL, h⟩ := h
  have c4 : w.cell? ⟨b, 4, none⟩ = some pd := h.dk.box.cells.2.2.2.2.1
  have hr := h.dk.pd.row
  obtain ⟨ao, ca, e, _, r3, r4, _⟩ := hr
  rw [List.length_map] at e r3
  have e' : pd = .slice ao S.P.length ca := e
  subst e'
  clear h
  go_enter Try.func20, Try.ntmps20
  go_wp2_with fail
  go_ret
  exact ⟨rfl, rfl⟩
/-- What a call counts, where nothing is armed. -/
def Ct (S S' : DS) (er : Int) : Prop := ((er = 0 ∨ er = 21) ∧ S'.c7 = S.c7 + 1 ∧ S.c8 ≤ S'.c8) ∨ (er ≠ 0 ∧ er ≠ 21 ∧ S'.c7 = S.c7 ∧ S'.c8 = S.c8)
def DS.sum (S : DS) : Int := S.c0 + S.c1 + S.c2 + S.c3 + S.c4 + S.c5 + S.c6
/-- Up, nothing armed, the kinds sum up. -/
structure Kt (S : DS) : Prop where
  up : S.up = true
  al : S.al = []
  sum : S.sum = S.c7
theorem Kt.beg {S : DS} (h : Kt S) (j : Nat) : Kt (S.beg j) ∧ (S.beg j).c7 = S.c7 + 1 ∧ (S.beg j).c8 = S.c8 := by
  have hs := h.sum
  unfold DS.sum at hs
  obtain ⟨e1, e2, e3, e4, e5, e6, e7, e8⟩ := beg_rest S j
  refine ⟨⟨by rw [e2]; exact h.up, by rw [e5, h.al]; rfl, ?_⟩, e6, e7⟩
  match j with
  | 0 => simp only [DS.sum, DS.beg]; omega
  | 1 => simp only [DS.sum, DS.beg]; omega
  | 2 => simp only [DS.sum, DS.beg]; omega
  | 3 => simp only [DS.sum, DS.beg]; omega
  | 4 => simp only [DS.sum, DS.beg]; omega
  | 5 => simp only [DS.sum, DS.beg]; omega
  | _ + 6 => simp only [DS.sum, DS.beg]; omega
theorem ref_cases {S : DS} (L : List ByteArray) : S.ref L = 0 ∨ S.ref L = 24 ∨ S.ref L = 22 := by
  unfold DS.ref
  split
  · split
    · exact .inl rfl
    · exact .inr (.inl rfl)
  · exact .inr (.inr rfl)
theorem find_cases {S : DS} (s : ByteArray) (h : (S.find s).2 ≠ 0) : (S.find s).2 = 6 ∨ (S.find s).2 = 24 ∨ (S.find s).2 = 22 := by
  unfold DS.find at h ⊢
  split
  · rename_i h0
    rw [if_pos h0] at h
    cases hg : get S.dir s.data.toList with
    | none => exact .inl rfl
    | some p => rw [hg] at h; exact absurd rfl h
  · rename_i h0
    rcases ref_cases (S := S) [s] with q | q | q
    · exact absurd q h0
    · exact .inr (.inl q)
    · exact .inr (.inr q)
theorem kt_create {S : DS} (h : Kt S) (s : ByteArray) (p : Nat) : Kt (S.create s p).1 ∧ Ct S (S.create s p).1 (S.create s p).2 := by
  unfold DS.create
  split
  · rename_i h0
    refine ⟨h, .inr ⟨h0, ?_, rfl, rfl⟩⟩
    rcases ref_cases (S := S) [s] with q | q | q <;> omega
  · split
    · exact ⟨h, .inr ⟨by show (7 : Int) ≠ 0; decide, by show (7 : Int) ≠ 21; decide, rfl, rfl⟩⟩
    · split
      · exact ⟨h, .inr ⟨by show (9 : Int) ≠ 0; decide, by show (9 : Int) ≠ 21; decide, rfl, rfl⟩⟩
      · rw [flt_none h.al]
        obtain ⟨k1, k2, k3⟩ := h.beg 0
        split
        · rename_i h1; exact absurd rfl h1
        · exact ⟨⟨k1.up, k1.al, k1.sum⟩, .inl ⟨.inl rfl, k2, by show S.c8 ≤ (S.beg 0).c8; omega⟩⟩
theorem kt_append {S : DS} (h : Kt S) (s : ByteArray) (D : List UInt8) : Kt (S.append s D).1 ∧ Ct S (S.append s D).1 (S.append s D).2.2 := by
  by_cases h0 : (S.find s).2 = 0
  · obtain ⟨p, e, _⟩ := find_ok h0
    have e2 : S.append s D = ({ (S.beg 1).str S.flt.2.1 with F := upd S.F p (apF (S.F p) (D.take (S.apN D.length))), c8 := S.c8 + (S.apN D.length : Int) }, (S.apN D.length : Int), if strF S.flt.2.1 ≠ 0 then strF S.flt.2.1 else if S.apN D.length < D.length then 21 else 0) := by unfold DS.append; rw [e]
    obtain ⟨k1, k2, k3⟩ := h.beg 1
    rw [e2, flt_none h.al]
    refine ⟨⟨k1.up, k1.al, k1.sum⟩, .inl ⟨?_, k2, by show S.c8 ≤ S.c8 + _; omega⟩⟩
    show (if strF 0 ≠ 0 then strF 0 else if S.apN D.length < D.length then 21 else 0) = 0 ∨ (if strF 0 ≠ 0 then strF 0 else if S.apN D.length < D.length then 21 else 0) = 21
    rw [if_neg (by decide)]
    split
    · exact .inr rfl
    · exact .inl rfl
  · have e : S.append s D = (S, 0, (S.find s).2) := by
      have q := find_no h0
      unfold DS.append
      cases hq : S.find s with
      | mk a c => rw [hq] at q; dsimp only at q; subst q; rfl
    rw [e]
    refine ⟨h, .inr ⟨h0, ?_, rfl, rfl⟩⟩
    rcases find_cases s h0 with q | q | q <;> (show (S.find s).2 ≠ 21; omega)
theorem kt_sync {S : DS} (h : Kt S) (s : ByteArray) : Kt (S.sync s).1 ∧ Ct S (S.sync s).1 (S.sync s).2 := by
  by_cases h0 : (S.find s).2 = 0
  · obtain ⟨p, e, _⟩ := find_ok h0
    have e2 : S.sync s = ({ S.beg 2 with F := upd S.F p (syF (S.F p)) }, 0) := by
      unfold DS.sync
      rw [e]
      dsimp only
      rw [flt_none h.al, if_neg (by decide), if_neg (by decide)]
    obtain ⟨k1, k2, k3⟩ := h.beg 2
    rw [e2]
    exact ⟨⟨k1.up, k1.al, k1.sum⟩, .inl ⟨.inl rfl, k2, by show S.c8 ≤ (S.beg 2).c8; omega⟩⟩
  · have e : S.sync s = (S, (S.find s).2) := by
      have q := find_no h0
      unfold DS.sync
      cases hq : S.find s with
      | mk a c => rw [hq] at q; dsimp only at q; subst q; rfl
    rw [e]
    refine ⟨h, .inr ⟨h0, ?_, rfl, rfl⟩⟩
    rcases find_cases s h0 with q | q | q <;> (show (S.find s).2 ≠ 21; omega)
theorem kt_rename {S : DS} (h : Kt S) (s t : ByteArray) : Kt (S.rename s t).1 ∧ Ct S (S.rename s t).1 (S.rename s t).2 := by
  unfold DS.rename
  split
  · rename_i h0
    refine ⟨h, .inr ⟨h0, ?_, rfl, rfl⟩⟩
    rcases ref_cases (S := S) [s, t] with q | q | q <;> omega
  · split
    · rename_i h0
      refine ⟨h, .inr ⟨h0, ?_, rfl, rfl⟩⟩
      rcases find_cases s h0 with q | q | q <;> (show (S.find s).2 ≠ 21; omega)
    · rw [flt_none h.al, hit_none h.al]
      obtain ⟨k1, k2, k3⟩ := h.beg 4
      split
      · rename_i h1; exact absurd rfl h1
      · split
        · exact ⟨k1, .inl ⟨.inl rfl, k2, by show S.c8 ≤ (S.beg 4).c8; omega⟩⟩
        · exact ⟨⟨k1.up, k1.al, k1.sum⟩, .inl ⟨.inl rfl, k2, by show S.c8 ≤ (S.beg 4).c8; omega⟩⟩
theorem kt_remove {S : DS} (h : Kt S) (s : ByteArray) : Kt (S.remove s).1 ∧ Ct S (S.remove s).1 (S.remove s).2 := by
  unfold DS.remove
  split
  · rename_i h0
    refine ⟨h, .inr ⟨h0, ?_, rfl, rfl⟩⟩
    rcases find_cases s h0 with q | q | q <;> (show (S.find s).2 ≠ 21; omega)
  · rw [flt_none h.al, hit_none h.al]
    obtain ⟨k1, k2, k3⟩ := h.beg 5
    split
    · rename_i h1; exact absurd rfl h1
    · exact ⟨⟨k1.up, k1.al, k1.sum⟩, .inl ⟨.inl rfl, k2, by show S.c8 ≤ (S.beg 5).c8; omega⟩⟩
theorem kt_syncDir {S : DS} (h : Kt S) : Kt S.syncDir.1 ∧ Ct S S.syncDir.1 S.syncDir.2 := by
  have hr : S.ref [] = 0 := by unfold DS.ref; rw [h.up]; rfl
  unfold DS.syncDir
  rw [hr, if_neg (by simp), flt_none h.al, hit_none h.al]
  obtain ⟨k1, k2, k3⟩ := h.beg 6
  rw [if_neg (by decide)]
  exact ⟨⟨k1.up, k1.al, k1.sum⟩, .inl ⟨.inl rfl, k2, by show S.c8 ≤ (S.beg 6).c8; omega⟩⟩
theorem blk_sgo {q w' : World} {k : Nat} {o : Obj} {O O' : Nat → Prop} (h : q.heap[k]? = some o) (hn : ¬ O k) (g : Sgo q w' O O') : w'.heap[k]? = some o ∧ ¬ O' k := by
  refine ⟨g.but.at h hn, fun c => ?_⟩
  rcases g.own k c with z | z
  · exact hn z
  · have := heap_lt h; omega
end Go.Proofs.Ytdelknejmapeaaa.Dk
