/-
  A value and its copy with canonical NaNs; what Read comes to.
-/
import Derived.Test.YtpfnkkkfekhngaaGreatDoorVr
namespace Go.Proofs.YtpfnkkkfekhngaaGreatDoor.Va
open Go.RowKit Go.Proofs.YtpfnkkkfekhngaaGreatDoor.Rl
set_option maxRecDepth 100000

def zeroV : Val := .mk 0 0 0 [] []
/-- What Read comes to: the value, how far, why not. -/
def readO (b : List UInt8) : Val × Int × Int :=
  match rdV (2 * b.length + 2) 0 65536 0 b with
  | .bad p e => (zeroV, p, e)
  | .ok x p _ _ => (x, p, 0)
def copyO (x : Val) : Val := if mayV x then canonV x else zeroV
theorem canon_zero (r : Nat) : decide (canonB r = 0) = decide (r = 0) := by
  unfold canonB
  cases h : nanB r
  · simp
  · have : r ≠ 0 := by rintro rfl; revert h; decide +kernel
    simp [this]
theorem canon_key (r : Nat) : keyB (canonB r) = keyB r := by
  unfold canonB
  cases h : nanB r
  · simp
  · simp only [if_true]
    unfold keyB
    rw [h, show nanB 9221120237041090561 = true by decide +kernel, if_pos rfl, if_pos rfl]
theorem canon_lt {r : Nat} (h : r < 18446744073709551616) : canonB r < 18446744073709551616 := by unfold canonB; split <;> omega
theorem cmpT_self : ∀ t, cmpT t t = 0
  | [] => rfl
  | c :: r => by rw [cmpT, if_pos rfl, cmpT_self r]
mutual
theorem canonV_all : ∀ x : Val, szV (canonV x) = szV x ∧ (∀ d, okV d (canonV x) = okV d x) ∧ (wtV x → wtV (canonV x)) ∧ cmpV x (canonV x) = 0
  | .mk k n r t l => by
    obtain ⟨h1, h2, h3, h4, h5⟩ := canonL_all l
    rw [canonV]
    refine ⟨by rw [szV, szV, h1], fun d => ?_, fun h => ?_, ?_⟩
    · rw [okV, okV, h2, h5]
      unfold plain
      rw [canon_zero]
    · rw [wtV] at h ⊢
      exact ⟨h.1, h.2.1, canon_lt h.2.2.1, h3 h.2.2.2⟩
    · rw [cmpV, if_neg (by simp)]
      have z : ∀ a : Int, cmpZ a a = 0 := fun a => by unfold cmpZ; rw [if_neg (by omega), if_neg (by omega)]
      by_cases c1 : k = 2 ∨ k = 3
      · rw [if_pos c1]; exact z n
      · rw [if_neg c1]
        by_cases c2 : k = 4
        · rw [if_pos c2, cmpB, canon_key]; exact z _
        · rw [if_neg c2]
          by_cases c3 : k = 5
          · rw [if_pos c3]; exact cmpT_self t
          · rw [if_neg c3]; exact h4
theorem canonL_all : ∀ l : List Val, szL (canonL l) = szL l ∧ (∀ d, okL d (canonL l) = okL d l) ∧ (wtL l → wtL (canonL l)) ∧ cmpL l (canonL l) = 0 ∧ (canonL l).isEmpty = l.isEmpty
  | [] => ⟨rfl, fun _ => rfl, fun h => h, by rw [canonL, cmpL], rfl⟩
  | x :: r => by
    obtain ⟨a1, a2, a3, a4⟩ := canonV_all x
    obtain ⟨h1, h2, h3, h4, _⟩ := canonL_all r
    rw [canonL]
    refine ⟨by rw [szL, szL, a1, h1], fun d => by rw [okL, okL, a2, h2], fun h => ?_, by rw [cmpL, if_pos a4, h4], rfl⟩
    rw [wtL] at h ⊢
    exact ⟨a3 h.1, h3 h.2⟩
end
theorem may_parts {x : Val} (h : mayV x = true) : okV 0 x = true ∧ szV x ≤ 65536 := by
  unfold mayV at h
  rw [Bool.and_eq_true, decide_eq_true_eq] at h
  exact h
theorem canon_may (x : Val) : mayV (canonV x) = mayV x := by
  obtain ⟨h1, h2, _⟩ := canonV_all x
  unfold mayV
  rw [h1, h2]
theorem canon_comp {x : Val} (h : mayV x = true) : compV x (canonV x) = 0 := by
  unfold compV
  rw [canon_may, h]
  exact (canonV_all x).2.2.2
/-- A key, read back. -/
theorem readO_key {x : Val} (hw : wtV x) (hm : mayV x = true) (s : List UInt8) : readO (keyV x ++ s) = (canonV x, ((keyV x).length : Int), 0) := by
  obtain ⟨h1, h2⟩ := may_parts hm
  unfold readO
  rw [read_key x _ 0 65536 0 s hw h1 h2 (by rw [List.length_append]; omega), Nat.zero_add]
mutual
theorem bad_ne : ∀ (f d left p : Nat) (s : List UInt8) (q : Nat) (e : Int), rdV f d left p s = .bad q e → e ≠ 0
  | 0, d, left, p, s, q, e, h => by rw [rdV] at h; simp only [Res.bad.injEq] at h; omega
  | f + 1, d, left, p, [], q, e, h => by rw [rdV] at h; simp only [Res.bad.injEq] at h; omega
  | f + 1, d, left, p, k :: s, q, e, h => by
    rw [rdV_cons] at h
    split at h
    · simp only [Res.bad.injEq] at h; omega
    split at h
    · simp only [Res.bad.injEq] at h; omega
    split at h
    · split at h
      · simp only [Res.bad.injEq] at h; omega
      · simp only [Res.bad.injEq] at h; omega
      · split at h
        · simp only [Res.bad.injEq] at h; omega
        · cases h
    split at h
    · simp only [Res.bad.injEq] at h; omega
    split at h
    · split at h
      · simp only [Res.bad.injEq] at h; omega
      · split at h
        · simp only [Res.bad.injEq] at h; omega
        · cases h
    split at h
    · split at h
      · simp only [Res.bad.injEq] at h; omega
      · cases h
    split at h
    · split at h
      · simp only [Res.bad.injEq] at h; omega
      · split at h
        · cases h
        · simp only [Res.bad.injEq] at h; omega
    split at h
    · exact bad_neL f _ _ _ _ _ _ _ h
    · cases h
theorem bad_neL : ∀ (f d left p : Nat) (s : List UInt8) (acc : List Val) (q : Nat) (e : Int), rdL f d left p s acc = .bad q e → e ≠ 0
  | 0, d, left, p, s, acc, q, e, h => by rw [rdL] at h; simp only [Res.bad.injEq] at h; omega
  | f + 1, d, left, p, [], acc, q, e, h => by rw [rdL] at h; simp only [Res.bad.injEq] at h; omega
  | f + 1, d, left, p, k :: s, acc, q, e, h => by
    rw [rdL_cons] at h
    split at h
    · cases h
    · cases hr : rdV f d left p (k :: s) with
      | bad z e' =>
        rw [hr] at h
        simp only [Res.bad.injEq] at h
        have := bad_ne f d left p (k :: s) z e' hr
        omega
      | ok y z lf u =>
        rw [hr] at h
        exact bad_neL f _ _ _ _ _ _ _ h
end
/-- What Read takes is a value that may be, and its key is what was read. -/
theorem readO_ok {s : List UInt8} (h : (readO s).2.2 = 0) : ∃ (x : Val) (m : Nat), readO s = (x, (m : Int), 0) ∧ wtV x ∧ mayV x = true ∧ m ≤ s.length ∧ keyV x = s.take m := by
  unfold readO at h ⊢
  cases hr : rdV (2 * s.length + 2) 0 65536 0 s with
  | bad p e => rw [hr] at h; exact absurd h (bad_ne _ _ _ _ _ _ _ hr)
  | ok x p left u =>
    obtain ⟨h1, h2, h3, h4, h5, h6⟩ := read_sound _ _ _ _ _ _ _ _ _ (by omega) hr
    refine ⟨x, p, rfl, h1, ?_, ?_, ?_⟩
    · unfold mayV; rw [h2, decide_eq_true (by omega)]; rfl
    · rw [h4, List.length_append, h5]; omega
    · rw [h5, Nat.zero_add]
      conv => rhs; rw [h4]
      simp
theorem readO_bad {s : List UInt8} (h : (readO s).2.2 ≠ 0) : (readO s).1 = zeroV := by
  unfold readO at h ⊢
  cases hr : rdV (2 * s.length + 2) 0 65536 0 s with
  | bad p e => rfl
  | ok x p left u => rw [hr] at h; exact absurd rfl h
#print axioms readO_ok
end Go.Proofs.YtpfnkkkfekhngaaGreatDoor.Va
