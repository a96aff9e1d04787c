/-
  Two disks alike stay alike: Append, Sync, Cut.
-/
import Derived.Test.YtdelknejmapeaaaDoK
namespace Go.Proofs.Ytdelknejmapeaaa.Dk
open Go.RowKit Go.Maps Go.Sort Go.Shelf Go.Proofs.Ytdelknejmapeaaa.Nm

variable {σ : Nat → Nat} {S S' : DS}
theorem Alike.c8s (h : Alike σ S S') (n : Int) : Alike σ { S with c8 := n } { S' with c8 := n } :=
  ⟨h.most, h.up, h.al, h.c0, h.c1, h.c2, h.c3, h.c4, h.c5, h.c6, h.c7, rfl, h.l2, h.P, h.F, h.inj⟩
theorem Alike.apN (h : Alike σ S S') (n : Nat) : S'.apN n = S.apN n := by
  unfold DS.apN
  rw [h.flt, h.room]
theorem find_mem {S : DS} {s : ByteArray} {p : Nat} {e : Int} (h : S.find s = (some p, e)) : p ∈ S.ps := by
  by_cases h0 : (S.find s).2 = 0
  · obtain ⟨q, e1, _, _, hq⟩ := find_ok h0
    rw [h] at e1
    cases e1
    exact hq
  · have := find_no h0
    rw [h] at this
    cases this
theorem Alike.append (h : Alike σ S S') (s : ByteArray) (b : List UInt8) : Alike σ (S.append s b).1 (S'.append s b).1 ∧ (S'.append s b).2 = (S.append s b).2 := by
  have hf := h.find s
  unfold DS.append
  cases hq : S.find s with
  | mk a e =>
    rw [hq] at hf
    cases a with
    | none => rw [hf]; exact ⟨h, rfl⟩
    | some p =>
      have hp := find_mem hq
      rw [hf]
      simp only [Option.map_some]
      rw [h.apN, h.flt, h.F p hp, h.c8]
      refine ⟨?_, rfl⟩
      have e3 : ((S.beg 1).str S.flt.2.1).ps = S.ps := (str_ps _ _).trans (beg_ps S 1)
      have z := (((h.beg 1).str S.flt.2.1).one (p := p) (by rw [e3]; exact hp) (apF (S.F p) (b.take (S.apN b.length)))).c8s (S.c8 + (S.apN b.length : Int))
      have hS := str_rest (S.beg 1) S.flt.2.1
      have hS' := str_rest (S'.beg 1) S.flt.2.1
      rw [hS.2.2.2.2.2.2, hS'.2.2.2.2.2.2] at z
      exact z
theorem Alike.sync (h : Alike σ S S') (s : ByteArray) : Alike σ (S.sync s).1 (S'.sync s).1 ∧ (S'.sync s).2 = (S.sync s).2 := by
  have hf := h.find s
  unfold DS.sync
  cases hq : S.find s with
  | mk a e =>
    rw [hq] at hf
    cases a with
    | none => rw [hf]; exact ⟨h, rfl⟩
    | some p =>
      have hp := find_mem hq
      rw [hf]
      simp only [Option.map_some]
      rw [h.flt, h.F p hp]
      have one := fun t => (h.beg 2).one (p := p) (by rw [beg_ps]; exact hp) t
      split
      · exact ⟨one _, rfl⟩
      split
      · exact ⟨(h.beg 2).str 3, rfl⟩
      · exact ⟨one _, rfl⟩
theorem Alike.cut (h : Alike σ S S') (s : ByteArray) (n : Int) : Alike σ (S.cut s n).1 (S'.cut s n).1 ∧ (S'.cut s n).2 = (S.cut s n).2 := by
  have hf := h.find s
  unfold DS.cut
  cases hq : S.find s with
  | mk a e =>
    rw [hq] at hf
    cases a with
    | none => rw [hf]; exact ⟨h, rfl⟩
    | some p =>
      have hp := find_mem hq
      rw [hf]
      simp only [Option.map_some]
      rw [h.flt, h.F p hp]
      have one := fun t => (h.beg 3).one (p := p) (by rw [beg_ps]; exact hp) t
      split
      · exact ⟨h, rfl⟩
      split
      · exact ⟨(h.beg 3).str _, rfl⟩
      · exact ⟨one _, rfl⟩
end Go.Proofs.Ytdelknejmapeaaa.Dk
