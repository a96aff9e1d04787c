/-
  A text's bytes with marks behind its bytes 00: where the marks stand, how many there are. No program is named here.
-/
import Derived.Test.YtpfnkkkfekhngaaGreatDoorVr
import Derived.Lib.IndexMore
namespace Go.Proofs.YtpfnkkkfekhngaaGreatDoor.Va
open Go.RowKit Go.Proofs.YtpfnkkkfekhngaaGreatDoor.Rl

theorem esc_free : ∀ {u : List UInt8}, (0 : UInt8) ∉ u → ∀ s, esc (u ++ s) = u ++ esc s
  | [], _, s => rfl
  | c :: r, h, s => by
    simp only [List.mem_cons, not_or] at h
    rw [List.cons_append, esc, if_neg (fun e => h.1 e.symm), esc_free h.2, List.cons_append]
theorem esc_none {u : List UInt8} (h : (0 : UInt8) ∉ u) : esc u = u := by
  have := esc_free h []
  simpa [esc] using this
theorem esc_split {u : List UInt8} (h : (0 : UInt8) ∉ u) (r : List UInt8) : esc (u ++ 0 :: r) = u ++ 0 :: 255 :: esc r := by
  rw [esc_free h, esc, if_pos rfl]
theorem esc_add : ∀ a b : List UInt8, esc (a ++ b) = esc a ++ esc b
  | [], b => rfl
  | c :: r, b => by
    rw [List.cons_append, esc, esc, esc_add r b]
    split <;> rfl
theorem first_zero : ∀ t : List UInt8, (0 : UInt8) ∉ t ∨ ∃ u r, t = u ++ 0 :: r ∧ (0 : UInt8) ∉ u
  | [] => Or.inl (by simp)
  | c :: r => by
    by_cases h : c = 0
    · exact Or.inr ⟨[], r, by rw [h]; rfl, by simp⟩
    · rcases first_zero r with g | ⟨u, s, g1, g2⟩
      · exact Or.inl (by simp only [List.mem_cons, not_or]; exact ⟨fun e => h e.symm, g⟩)
      · exact Or.inr ⟨c :: u, s, by rw [g1]; rfl, by simp only [List.mem_cons, not_or]; exact ⟨fun e => h e.symm, g2⟩⟩
theorem not_pre {c : UInt8} (h : c ≠ 0) (l : List UInt8) : List.isPrefixOf [0, 255] (c :: l) = false := by
  simp only [List.isPrefixOf]
  have : (0 == c) = false := by simpa using fun e : (0 : UInt8) = c => h e.symm
  rw [this]; rfl
theorem index_free : ∀ {u : List UInt8}, (0 : UInt8) ∉ u → Lib.index u [0, 255] = -1
  | [], _ => rfl
  | c :: r, h => by
    simp only [List.mem_cons, not_or] at h
    rw [Lib.index, not_pre (fun e => h.1 e.symm), index_free h.2]
    rfl
theorem index_mark : ∀ {u : List UInt8}, (0 : UInt8) ∉ u → ∀ s, Lib.index (u ++ 0 :: 255 :: s) [0, 255] = (u.length : Int)
  | [], _, s => by
    rw [List.nil_append, Lib.index]
    simp [List.isPrefixOf]
  | c :: r, h, s => by
    simp only [List.mem_cons, not_or] at h
    rw [List.cons_append, Lib.index, not_pre (fun e => h.1 e.symm), index_mark h.2]
    have : ((r.length : Int) == -1) = false := by simp
    rw [this]
    simp
theorem count_free {u : List UInt8} (h : (0 : UInt8) ∉ u) : u.count 0 = 0 := List.count_eq_zero.2 h
theorem count_marks : ∀ (f : Nat) (t : List UInt8), t.count 0 < f → Lib.countFrom [0, 255] f (esc t) = t.count 0
  | 0, t, h => by omega
  | f + 1, t, h => by
    rcases first_zero t with g | ⟨u, r, rfl, g2⟩
    · rw [esc_none g, Lib.countFrom, index_free g, count_free g]; rfl
    · rw [List.count_append, count_free g2, List.count_cons_self] at h ⊢
      rw [esc_split g2, Lib.countFrom, index_mark g2]
      have e1 : ((u.length : Int) == -1) = false := by simp
      have e2 : (u ++ 0 :: 255 :: esc r).drop ((u.length : Int).toNat + ([0, 255] : List UInt8).length) = esc r := by
        rw [show (u.length : Int).toNat + ([0, 255] : List UInt8).length = u.length + 2 by simp, List.drop_append]
        simp
      rw [e1, e2, count_marks f r (by omega)]
      simp; omega
theorem esc_len0 : ∀ t : List UInt8, (esc t).length = t.length + t.count 0
  | [] => rfl
  | c :: r => by
    have h := esc_len0 r
    by_cases e : c = 0
    · subst e
      rw [esc, if_pos rfl, List.count_cons_self]
      simp only [List.length_cons, h]; omega
    · rw [esc, if_neg e, List.count_cons_of_ne (by simpa using e)]
      simp only [List.length_cons, h]; omega
theorem count_esc (t : List UInt8) : Lib.count (esc t) [0, 255] = t.count 0 := by
  unfold Lib.count
  refine count_marks _ t ?_
  rw [esc_len0]; omega
end Go.Proofs.YtpfnkkkfekhngaaGreatDoor.Va
