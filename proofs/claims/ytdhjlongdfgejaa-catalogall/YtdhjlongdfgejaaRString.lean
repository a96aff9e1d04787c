/-
  What wire.ReadString answers, as a plain function on bytes (rs).
-/
import Derived.Test.YtdhjlongdfgejaaRVarint
import Derived.Test.YtdhjlongdfgejaaStr
namespace Go.Proofs.Ytdhjlongdfgejaa
open Go.RowKit

/-- What ReadString answers: the string's bytes, how many bytes were taken, the error's number. -/
def rs (l : List UInt8) (most : Int) : List UInt8 × Nat × Int :=
  if most < 0 then ([], 0, 1)
  else if (rv l).2.2 ≠ 0 then ([], 0, (rv l).2.2)
  else if most < ((rv l).1 : Int) then ([], 0, 3)
  else if l.length - (rv l).2.1 < (rv l).1 then ([], 0, 2)
  else ((l.drop (rv l).2.1).take (rv l).1, (rv l).2.1 + (rv l).1, 0)

theorem rvF_bounds (l : List UInt8) : ∀ i acc, acc < 128 ^ i → i ≤ 9 →
    (rvF i acc l).1 < 18446744073709551616 ∧ (rvF i acc l).2.1 ≤ i + l.length ∧ (rvF i acc l).2.1 ≤ 10 ∧ 0 ≤ (rvF i acc l).2.2 ∧ (rvF i acc l).2.2 ≤ 4 ∧ ((rvF i acc l).2.2 = 0 → i < (rvF i acc l).2.1) := by
  induction l with
  | nil => intro i acc _ _; simp [rvF]
  | cons c r ih =>
    intro i acc ha hi
    rw [rvF]
    by_cases h9 : i = 9 ∧ 1 < c.toNat
    · rw [if_pos h9]; simp
    · rw [if_neg h9]
      by_cases h1 : 128 ≤ c.toNat
      · rw [if_pos h1]
        have := ih (i + 1) (acc + c.toNat % 128 * 128 ^ i) (group_lt _ _ _ ha) (by omega)
        simp only [List.length_cons]; omega
      · rw [if_neg h1]
        by_cases h2 : 0 < i ∧ c.toNat = 0
        · rw [if_pos h2]; simp
        · rw [if_neg h2]
          have := done_lt64 acc c.toNat i ha hi (by omega)
          simp only [List.length_cons]; omega
theorem rv_bounds (l : List UInt8) : (rv l).1 < 18446744073709551616 ∧ (rv l).2.1 ≤ l.length ∧ (rv l).2.1 ≤ 10 ∧ 0 ≤ (rv l).2.2 ∧ (rv l).2.2 ≤ 4 ∧ ((rv l).2.2 = 0 → 0 < (rv l).2.1) := by
  have := rvF_bounds l 0 0 (by simp) (by omega)
  simpa [rv] using this

theorem Sl.len {w : World} {v : Value} {l : List UInt8} (h : Sl w v l) : l.length ≤ maxLen := by
  obtain ⟨_, _, _, _, h3, h4, _⟩ := h; omega

theorem Rd.drop {w : World} {b off : Nat} {l : List UInt8} (h : Rd w (some ⟨b, off, none⟩) l) (k n : Nat) : Rd w (some ⟨b, off + k, none⟩) ((l.drop k).take n) := by
  intro i hi
  have hi2 : k + i < l.length := by simp at hi; omega
  obtain ⟨b', off', e, hc⟩ := h (k + i) hi2
  simp only [Option.some.injEq, Addr.mk.injEq] at e
  obtain ⟨rfl, rfl, _⟩ := e
  refine ⟨b, off + k, rfl, ?_⟩
  rw [Nat.add_assoc, hc]
  simp

/-- What lies in b[k:k+n]. -/
theorem sl_cut {w : World} {b off : Nat} {l : List UInt8} (h : Rd w (some ⟨b, off, none⟩) l) (k n cap : Nat) (hk : k + n ≤ l.length) (hc : l.length ≤ cap) (hm : cap ≤ maxLen) :
    Sl w (.slice (some ⟨b, off + k, none⟩) n (cap - k)) ((l.drop k).take n) := by
  have hl : ((l.drop k).take n).length = n := by simp; omega
  exact ⟨_, _, by rw [hl], fun e => by simp at e, by omega, by omega, h.drop k n⟩
theorem sl_cut_end {w : World} {b off : Nat} {l : List UInt8} (k n cap : Nat) (hk : k + n ≤ l.length) (hc : l.length ≤ cap) (he : cap = k) :
    Sl w (.slice (some ⟨b, off, none⟩) n 0) ((l.drop k).take n) := by
  obtain rfl : n = 0 := by omega
  refine ⟨_, _, rfl, fun e => by simp at e, by simp, Nat.zero_le _, fun i hi => by simp at hi⟩

end Go.Proofs.Ytdhjlongdfgejaa
