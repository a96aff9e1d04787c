/-
  The Reader's method String, NewReader, Err, Left, At.
-/
import Derived.Test.YtdhjlongdfgejaaRdM
namespace Go.Proofs.Ytdhjlongdfgejaa
open Go.RowKit

theorem rs_good {l : List UInt8} {most : Int} (h : (rs l most).2.2 = 0) : (rs l most).2.1 ≤ l.length ∧ (rs l most).1.length ≤ l.length := by
  have hb := rv_bounds l
  unfold rs at h ⊢
  by_cases h1 : most < 0
  · rw [if_pos h1] at h; simp at h
  · rw [if_neg h1] at h ⊢
    by_cases h2 : (rv l).2.2 ≠ 0
    · rw [if_pos h2] at h; exact absurd h h2
    · rw [if_neg h2] at h ⊢
      by_cases h3 : most < ((rv l).1 : Int)
      · rw [if_pos h3] at h; simp at h
      · rw [if_neg h3] at h ⊢
        by_cases h4 : l.length - (rv l).2.1 < (rv l).1
        · rw [if_pos h4] at h; simp at h
        · rw [if_neg h4]; simp; omega
theorem rs_err (l : List UInt8) (most : Int) : 0 ≤ (rs l most).2.2 ∧ (rs l most).2.2 ≤ 4 := by
  have hb := rv_bounds l
  unfold rs
  by_cases h1 : most < 0
  · rw [if_pos h1]; simp
  · rw [if_neg h1]
    by_cases h2 : (rv l).2.2 ≠ 0
    · rw [if_pos h2]; simp; omega
    · rw [if_neg h2]
      by_cases h3 : most < ((rv l).1 : Int)
      · rw [if_pos h3]; simp
      · rw [if_neg h3]
        by_cases h4 : l.length - (rv l).2.1 < (rv l).1
        · rw [if_pos h4]; simp
        · rw [if_neg h4]; simp
theorem rs_bad {l : List UInt8} {most : Int} (h : (rs l most).2.2 ≠ 0) : rs l most = ([], 0, (rs l most).2.2) := by
  unfold rs at h ⊢
  by_cases h1 : most < 0
  · simp only [if_pos h1]
  · simp only [if_neg h1] at h ⊢
    by_cases h2 : (rv l).2.2 ≠ 0
    · simp only [if_pos h2]
    · simp only [if_neg h2] at h ⊢
      by_cases h3 : most < ((rv l).1 : Int)
      · simp only [if_pos h3]
      · simp only [if_neg h3] at h ⊢
        by_cases h4 : l.length - (rv l).2.1 < (rv l).1
        · simp only [if_pos h4]
        · simp only [if_neg h4] at h; simp at h


set_option maxHeartbeats 400000 in
theorem newReader_any (w : World) (x : Value) (l : List UInt8) (hx : Sl w x l) (hlen : l.length ≤ 140737488355328) :
    Calls Try.prog 42 #[x] w fun e w' => ∃ rb, e = .returned (.pointer (some ⟨rb, 0, none⟩)) ∧ RdrAt w' rb l 0 0 ∧ Below w.heap.size w w' ∧ w.heap.size ≤ rb := by
  go_enter Try.func42, Try.ntmps42
  go_wp2_with fail
  refine (clone_any _ _ l hx hlen).mono ?_
  rintro e w2 ⟨v2, rfl, ho, hb⟩
  obtain ⟨ao, ca, rfl⟩ := own_slice ho
  go_wp2
  go_ret
  have hsz := hb.size
  refine ⟨_, rfl, ⟨.slice ao l.length ca, ?_, ?_, Nat.zero_le _, hlen⟩, hb.alloc hsz _, hsz⟩
  · exact heap_alloc_new _ _
  · obtain ⟨a1, a2⟩ := ho.alloc (.cells #[.slice ao l.length ca, .int .i64 0, .int .i64 0] 83)
    refine ⟨a1, ?_⟩
    rcases a2 with a2 | ⟨g, cap, cur, hv, hg, r⟩
    · exact Or.inl a2
    · exact Or.inr ⟨g, cap, cur, hv, Nat.zero_le _, r⟩

set_option maxHeartbeats 400000 in
theorem left_any (w : World) (rb : Nat) (l : List UInt8) (k : Nat) (er : Int) (h : RdrAt w rb l k er) :
    Calls Try.prog 63 #[.pointer (some ⟨rb, 0, none⟩)] w fun e w' => e = .returned (.int .i64 ((l.length : Int) - k)) ∧ Qt w w' := by
  obtain ⟨v, hr, ho, hk, hl⟩ := h
  obtain ⟨ao, ca, rfl⟩ := own_slice ho
  have h0 : w.cell? ⟨rb, 0, none⟩ = some (.slice ao l.length ca) := by simp [World.cell?, hr]
  have h1 : w.cell? ⟨rb, 1, none⟩ = some (.int .i64 (k : Int)) := by simp [World.cell?, hr]
  clear hr ho
  go_enter Try.func63, Try.ntmps63
  go_wp2
  go_quiet (fail)
  go_wp2
  go_ret
  exact ⟨rfl, ⟨_, rfl⟩⟩
theorem left_nil (w : World) : Calls Try.prog 63 #[.pointer none] w fun e w' => e = .returned (.int .i64 0) ∧ w' = w := by
  go_enter Try.func63, Try.ntmps63
  go_wp2
  go_ret
  exact ⟨rfl, rfl⟩
set_option maxHeartbeats 400000 in
theorem err_any (w : World) (rb : Nat) (l : List UInt8) (k : Nat) (er : Int) (h : RdrAt w rb l k er) :
    Calls Try.prog 62 #[.pointer (some ⟨rb, 0, none⟩)] w fun e w' => e = .returned (.tuple #[.int .i64 (if er = 0 then 0 else (k : Int)), .int .i64 er]) ∧ Qt w w' := by
  obtain ⟨v, hr, ho, hk, hl⟩ := h
  have h1 : w.cell? ⟨rb, 1, none⟩ = some (.int .i64 (k : Int)) := by simp [World.cell?, hr]
  have h2 : w.cell? ⟨rb, 2, none⟩ = some (.int .i64 er) := by simp [World.cell?, hr]
  clear hr ho
  by_cases he : er = 0
  · subst he
    rw [if_pos rfl]
    go_enter Try.func62, Try.ntmps62
    go_wp2
    go_ret2
    exact ⟨rfl, Qt.refl _⟩
  · rw [if_neg he]
    have hg : (er == 0) = false := by simpa using he
    clear he
    go_enter Try.func62, Try.ntmps62
    go_wp2
    go_quiet (fail)
    go_wp2
    go_ret2
    exact ⟨rfl, ⟨_, rfl⟩⟩
end Go.Proofs.Ytdhjlongdfgejaa
