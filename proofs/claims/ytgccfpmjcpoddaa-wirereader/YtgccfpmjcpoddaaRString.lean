/-
  What wire.ReadString answers, as a plain function on bytes (rs).
-/
import Derived.Test.YtgccfpmjcpoddaaRVarint
import Derived.Test.YtgccfpmjcpoddaaStr
namespace Go.Proofs.Ytgccfpmjcpoddaa
open Go.RowKit

/-- What ReadString answers: the string's bytes, how many bytes were taken, the error's number. -/
def rs (l : List UInt8) (most : Int) : List UInt8 × Nat × Int :=
  if most < 0 then ([], 0, 1)
  else if (rv l).2.2 ≠ 0 then ([], 0, (rv l).2.2)
  else if most < ((rv l).1 : Int) then ([], 0, 3)
  else if l.length - (rv l).2.1 < (rv l).1 then ([], 0, 2)
  else ((l.drop (rv l).2.1).take (rv l).1, (rv l).2.1 + (rv l).1, 0)

theorem rvF_bounds (l : List UInt8) : ∀ i acc, acc < 128 ^ i → i ≤ 9 →
    (rvF i acc l).1 < 18446744073709551616 ∧ (rvF i acc l).2.1 ≤ i + l.length ∧ (rvF i acc l).2.1 ≤ 10 ∧ 0 ≤ (rvF i acc l).2.2 ∧ (rvF i acc l).2.2 ≤ 4 ∧ ((rvF i acc l).2.2 = 0 → i < (rvF i acc l).2.1) := by
  induction l with
  | nil => intro i acc _ _; simp [rvF]
  | cons c r ih =>
    intro i acc ha hi
    rw [rvF]
    by_cases h9 : i = 9 ∧ 1 < c.toNat
    · rw [if_pos h9]; simp
    · rw [if_neg h9]
      by_cases h1 : 128 ≤ c.toNat
      · rw [if_pos h1]
        have := ih (i + 1) (acc + c.toNat % 128 * 128 ^ i) (group_lt _ _ _ ha) (by omega)
        simp only [List.length_cons]; omega
      · rw [if_neg h1]
        by_cases h2 : 0 < i ∧ c.toNat = 0
        · rw [if_pos h2]; simp
        · rw [if_neg h2]
          have := done_lt64 acc c.toNat i ha hi (by omega)
          simp only [List.length_cons]; omega
theorem rv_bounds (l : List UInt8) : (rv l).1 < 18446744073709551616 ∧ (rv l).2.1 ≤ l.length ∧ (rv l).2.1 ≤ 10 ∧ 0 ≤ (rv l).2.2 ∧ (rv l).2.2 ≤ 4 ∧ ((rv l).2.2 = 0 → 0 < (rv l).2.1) := by
  have := rvF_bounds l 0 0 (by simp) (by omega)
  simpa [rv] using this

theorem Sl.len {w : World} {v : Value} {l : List UInt8} (h : Sl w v l) : l.length ≤ maxLen := by
  obtain ⟨_, _, _, _, h3, h4, _⟩ := h; omega

theorem Rd.drop {w : World} {b off : Nat} {l : List UInt8} (h : Rd w (some ⟨b, off, none⟩) l) (k n : Nat) : Rd w (some ⟨b, off + k, none⟩) ((l.drop k).take n) := by
  intro i hi
  have hi2 : k + i < l.length := by simp at hi; omega
  obtain ⟨b', off', e, hc⟩ := h (k + i) hi2
  simp only [Option.some.injEq, Addr.mk.injEq] at e
  obtain ⟨rfl, rfl, _⟩ := e
  refine ⟨b, off + k, rfl, ?_⟩
  rw [Nat.add_assoc, hc]
  simp

/-- What lies in b[k:k+n]. -/
theorem sl_cut {w : World} {b off : Nat} {l : List UInt8} (h : Rd w (some ⟨b, off, none⟩) l) (k n cap : Nat) (hk : k + n ≤ l.length) (hc : l.length ≤ cap) (hm : cap ≤ maxLen) :
    Sl w (.slice (some ⟨b, off + k, none⟩) n (cap - k)) ((l.drop k).take n) := by
  have hl : ((l.drop k).take n).length = n := by simp; omega
  exact ⟨_, _, by rw [hl], fun e => by simp at e, by omega, by omega, h.drop k n⟩
theorem sl_cut_end {w : World} {b off : Nat} {l : List UInt8} (k n cap : Nat) (hk : k + n ≤ l.length) (hc : l.length ≤ cap) (he : cap = k) :
    Sl w (.slice (some ⟨b, off, none⟩) n 0) ((l.drop k).take n) := by
  obtain rfl : n = 0 := by omega
  refine ⟨_, _, rfl, fun e => by simp at e, by simp, Nat.zero_le _, fun i hi => by simp at hi⟩

set_option maxRecDepth 100000 in
set_option maxHeartbeats 800000 in
theorem readString_any (w : World) (x : Value) (l : List UInt8) (most : Int) (hx : Sl w x l) (hlen : l.length ≤ 140737488355328) (h0 : -9223372036854775808 ≤ most) (h1 : most ≤ 9223372036854775807) :
    Calls Try.prog 26 #[x, .int .i64 most] w fun e w' => ∃ v', e = .returned (.tuple #[v', .int .i64 ((rs l most).2.1 : Int), .int .i64 (rs l most).2.2]) ∧
      w'.ownsRow w.heap.size 5 1 v' (rs l most).1.length (bvals (rs l most).1) ∧ Below w.heap.size w w' := by
  by_cases hm : most < 0
  · have HR : Hid (rs l most = ([], 0, 1)) := by show _ = _; rw [rs, if_pos hm]
    go_enter Try.func26, Try.ntmps26
    go_wp2
    go_ret3
    exact ⟨_, by rw [HR.out]; rfl, by rw [HR.out]; exact World.ownsRow_nil _ _ _ _, Below.refl _ _⟩
  · have hb := rv_bounds l
    have hx0 := hx
    obtain ⟨n, hn⟩ : ∃ n, n = (rv l).1 := ⟨_, rfl⟩
    obtain ⟨k, hk⟩ : ∃ k, k = (rv l).2.1 := ⟨_, rfl⟩
    obtain ⟨er, he⟩ : ∃ er, er = (rv l).2.2 := ⟨_, rfl⟩
    have hrs : rs l most = if er ≠ 0 then ([], 0, er) else if most < (n : Int) then ([], 0, 3) else if l.length - k < n then ([], 0, 2) else ((l.drop k).take n, k + n, 0) := by
      rw [rs, if_neg hm, hn, hk, he]
    have hrv : rvVal (rv l) = .tuple #[.int .u64 (n : Int), .int .i64 (k : Int), .int .i64 er] := by rw [rvVal, hn, hk, he]
    rw [← hn, ← hk, ← he] at hb
    have HR : Hid (rvVal (rv l) = .tuple #[.int .u64 (n : Int), .int .i64 (k : Int), .int .i64 er]) := hrv
    clear hrv hn hk he
    obtain ⟨hb1, hb2, hb3, hb4, hb5, hb6⟩ := hb
    obtain ⟨ao, ca, rfl, h2, h3, h4, h5⟩ := hx
    by_cases h6 : er = 0
    · subst h6
      rw [if_neg (by simp)] at hrs
      by_cases h7 : most < (n : Int)
      · rw [if_pos h7] at hrs
        have HS : Hid _ := hrs
        clear hrs
        go_enter Try.func26, Try.ntmps26
        go_wp2_with fail
        refine (readVarint_any _ _ l hx0).mono ?_
        rintro e w2 ⟨rfl, rfl⟩
        rw [HR.out]
        go_wp2_with fail
        go_ret3
        exact ⟨_, by rw [HS.out]; rfl, by rw [HS.out]; exact World.ownsRow_nil _ _ _ _, Below.refl _ _⟩
      · rw [if_neg h7] at hrs
        by_cases h8 : l.length - k < n
        · rw [if_pos h8] at hrs
          have HS : Hid _ := hrs
          clear hrs
          go_enter Try.func26, Try.ntmps26
          go_wp2_with fail
          refine (readVarint_any _ _ l hx0).mono ?_
          rintro e w2 ⟨rfl, rfl⟩
          rw [HR.out]
          go_wp2_with fail
          go_ret3
          exact ⟨_, by rw [HS.out]; rfl, by rw [HS.out]; exact World.ownsRow_nil _ _ _ _, Below.refl _ _⟩
        · rw [if_neg h8] at hrs
          have HS : Hid _ := hrs
          have hk0 := hb6 rfl
          obtain ⟨b, off, rfl, hcells⟩ := h5.at (by omega)
          clear hrs hb6 hcells h2
          go_enter Try.func26, Try.ntmps26
          go_wp2_with fail
          refine (readVarint_any _ _ l hx0).mono ?_
          rintro e w2 ⟨rfl, rfl⟩
          rw [HR.out]
          go_wp2_with fail
          all_goals
            refine (clone_any _ _ ((l.drop k).take n) (by first | exact sl_cut h5 k n ca (by omega) h3 h4 | exact sl_cut_end k n ca (by omega) h3 (by assumption)) (by simp; omega)).mono ?_
            rintro e w3 ⟨v3, rfl, ho3, hb3⟩
            go_wp2
            go_ret3
            exact ⟨v3, by rw [HS.out]; simp, by rw [HS.out]; exact ho3, hb3⟩
    · have g6 : (er != 0) = true := by simpa using h6
      clear hb6
      rw [if_pos h6] at hrs
      have HS : Hid _ := hrs
      clear hrs h6
      go_enter Try.func26, Try.ntmps26
      go_wp2_with fail
      refine (readVarint_any _ _ l hx0).mono ?_
      rintro e w2 ⟨rfl, rfl⟩
      rw [HR.out]
      go_wp2_with fail
      go_ret3
      exact ⟨_, by rw [HS.out]; rfl, by rw [HS.out]; exact World.ownsRow_nil _ _ _ _, Below.refl _ _⟩
#print axioms readString_any
end Go.Proofs.Ytgccfpmjcpoddaa
