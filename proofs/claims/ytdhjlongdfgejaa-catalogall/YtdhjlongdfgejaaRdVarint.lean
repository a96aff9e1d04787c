/-
  What the Reader's method Varint does.
-/
import Derived.Test.YtdhjlongdfgejaaShut
namespace Go.Proofs.Ytdhjlongdfgejaa
open Go.RowKit

/-- A varint at k, at most most: the number, how many bytes, the error's number. -/
def vr (l : List UInt8) (k : Nat) (most : Int) : Nat × Nat × Int :=
  if (rv (l.drop k)).2.2 ≠ 0 then (0, 0, (rv (l.drop k)).2.2)
  else if most < ((rv (l.drop k)).1 : Int) then (0, 0, 3)
  else rv (l.drop k)

theorem sl_nil_any (w : World) : Sl w (.slice none 0 0) [] := Sl.nil w

theorem varint_nil (w : World) (most : Int) :
    Calls Try.prog 72 #[.pointer none, .int .u64 most] w fun e w' => e = .panicked [{ v := .iface 100 (.int .i64 2), recovered := false }] ∧ w' = w := by
  have HR : Hid (rvVal (rv []) = .tuple #[.int .u64 0, .int .i64 0, .int .i64 2]) := rfl
  go_enter Try.func72, Try.ntmps72
  go_wp2_with fail
  refine (rest_nil _).mono ?_
  rintro e w2 ⟨rfl, rfl⟩
  go_wp2_with fail
  refine (readVarint_any _ _ [] (Sl.nil _)).mono ?_
  rintro e w2 ⟨rfl, rfl⟩
  rw [HR.out]
  go_wp2_with fail
  refine (check_no _ 2 rfl).mono ?_
  rintro e w2 ⟨rfl, rfl⟩
  go_wp2
  exact ⟨rfl, rfl, rfl⟩
theorem varint_no (w : World) (rb : Nat) (l : List UInt8) (k : Nat) (er most : Int) (h : RdrAt w rb l k er) (he : (er != 0) = true) :
    Calls Try.prog 72 #[.pointer (some ⟨rb, 0, none⟩), .int .u64 most] w fun e w' => e = .panicked [{ v := .iface 100 (.int .i64 er), recovered := false }] ∧ w' = w := by
  go_enter Try.func72, Try.ntmps72
  go_wp2_with fail
  refine (rest_no _ rb l k er h he).mono ?_
  rintro e w2 ⟨rfl, rfl⟩
  go_wp2
  exact ⟨rfl, rfl, rfl⟩

set_option maxHeartbeats 400000 in
theorem varint_bad (w : World) (rb : Nat) (l : List UInt8) (k : Nat) (most : Int) (h : RdrAt w rb l k 0) (hm : 0 ≤ most ∧ most < 18446744073709551616) (hv : (vr l k most).2.2 ≠ 0) :
    Calls Try.prog 72 #[.pointer (some ⟨rb, 0, none⟩), .int .u64 most] w fun e w' => e = .panicked [{ v := .iface 100 (.int .i64 (vr l k most).2.2), recovered := false }] ∧ Qt w w' := by
  obtain ⟨hm0, hm1⟩ := hm
  obtain ⟨n, hn⟩ : ∃ n, n = (rv (l.drop k)).1 := ⟨_, rfl⟩
  obtain ⟨s, hs⟩ : ∃ s, s = (rv (l.drop k)).2.1 := ⟨_, rfl⟩
  obtain ⟨er, he⟩ : ∃ er, er = (rv (l.drop k)).2.2 := ⟨_, rfl⟩
  have hb := (rv_bounds (l.drop k)).1
  rw [← hn] at hb
  have HR : Hid (rvVal (rv (l.drop k)) = .tuple #[.int .u64 (n : Int), .int .i64 (s : Int), .int .i64 er]) := by show _ = _; rw [rvVal, hn, hs, he]
  by_cases h1 : er = 0
  · have hvr : vr l k most = (0, 0, 3) ∧ most < (n : Int) := by
      rw [vr, if_neg (by rw [← he]; simp [h1])] at hv ⊢
      by_cases h2 : most < ((rv (l.drop k)).1 : Int)
      · exact ⟨by rw [if_pos h2], by rw [hn]; exact h2⟩
      · rw [if_neg h2, ← he] at hv; exact absurd h1 hv
    obtain ⟨hv1, hv2⟩ := hvr
    rw [hv1]
    subst h1
    clear hv1 hv hn hs he
    go_enter Try.func72, Try.ntmps72
    go_wp2_with fail
    refine (rest_ok _ rb l k h).mono ?_
    rintro e w2 ⟨x, rfl, hsl, hq⟩
    go_wp2_with fail
    refine (readVarint_any _ _ (l.drop k) (hq.sl hsl)).mono ?_
    rintro e w3 ⟨rfl, rfl⟩
    rw [HR.out]
    go_wp2_with fail
    refine (check_ok _).mono ?_
    rintro e w3 ⟨rfl, rfl⟩
    go_wp2_with fail
    refine (check_no _ 3 rfl).mono ?_
    rintro e w3 ⟨rfl, rfl⟩
    go_wp2
    exact ⟨rfl, rfl, hq⟩
  · have hvr : vr l k most = (0, 0, er) := by
      rw [vr, ← he, if_pos h1]
    have g1 : (er != 0) = true := by simpa using h1
    rw [hvr]
    clear hvr hv hn hs he h1
    go_enter Try.func72, Try.ntmps72
    go_wp2_with fail
    refine (rest_ok _ rb l k h).mono ?_
    rintro e w2 ⟨x, rfl, hsl, hq⟩
    go_wp2_with fail
    refine (readVarint_any _ _ (l.drop k) (hq.sl hsl)).mono ?_
    rintro e w3 ⟨rfl, rfl⟩
    rw [HR.out]
    go_wp2_with fail
    refine (check_no _ er g1).mono ?_
    rintro e w3 ⟨rfl, rfl⟩
    go_wp2
    exact ⟨rfl, rfl, hq⟩

theorem vr_good {l : List UInt8} {k : Nat} {most : Int} (hv : (vr l k most).2.2 = 0) : vr l k most = rv (l.drop k) ∧ ¬ most < ((rv (l.drop k)).1 : Int) ∧ (rv (l.drop k)).2.2 = 0 := by
  unfold vr at *
  by_cases h1 : (rv (l.drop k)).2.2 ≠ 0
  · rw [if_pos h1] at hv; exact absurd hv h1
  · rw [if_neg h1] at hv ⊢
    by_cases h2 : most < ((rv (l.drop k)).1 : Int)
    · rw [if_pos h2] at hv; simp at hv
    · rw [if_neg h2]; exact ⟨rfl, h2, by simpa using h1⟩

set_option maxHeartbeats 400000 in
theorem varint_good (w : World) (rb : Nat) (l : List UInt8) (k : Nat) (most : Int) (h : RdrAt w rb l k 0) (hm : 0 ≤ most ∧ most < 18446744073709551616) (hv : (vr l k most).2.2 = 0) :
    Calls Try.prog 72 #[.pointer (some ⟨rb, 0, none⟩), .int .u64 most] w fun e w' => e = .returned (.int .u64 ((vr l k most).1 : Int)) ∧ RdrAt w' rb l (k + (vr l k most).2.1) 0 ∧ w.grownBy w' (some rb) := by
  obtain ⟨hm0, hm1⟩ := hm
  obtain ⟨n, hn⟩ : ∃ n, n = (rv (l.drop k)).1 := ⟨_, rfl⟩
  obtain ⟨s, hs⟩ : ∃ s, s = (rv (l.drop k)).2.1 := ⟨_, rfl⟩
  obtain ⟨g1, g2, g3⟩ := vr_good hv
  have hb := rv_bounds (l.drop k)
  rw [← hn, ← hs] at hb
  have hk : k ≤ l.length := by obtain ⟨_, _, _, hk, _⟩ := h; exact hk
  have hks : k + s ≤ l.length := by have := hb.2.1; simp at this; omega
  have HR : Hid (rvVal (rv (l.drop k)) = .tuple #[.int .u64 (n : Int), .int .i64 (s : Int), .int .i64 0]) := by show _ = _; rw [rvVal, hn, hs, g3]
  rw [g1, ← hn, ← hs]
  rw [← hn] at g2
  have hb1 := hb.1
  clear g1 g3 hv hn hs hb
  go_enter Try.func72, Try.ntmps72
  go_wp2_with fail
  refine (rest_ok _ rb l k h).mono ?_
  rintro e w2 ⟨x, rfl, hsl, hq⟩
  go_wp2_with fail
  refine (readVarint_any _ _ (l.drop k) (hq.sl hsl)).mono ?_
  rintro e w3 ⟨rfl, rfl⟩
  rw [HR.out]
  go_wp2_with fail
  refine (check_ok _).mono ?_
  rintro e w3 ⟨rfl, rfl⟩
  go_wp2_with fail
  refine (take_ok _ rb l k s (h.below (hq.below _)) hks).mono ?_
  rintro e w4 ⟨v4, rfl, _, hr4, hg4⟩
  go_wp2
  go_ret
  exact ⟨rfl, hr4, grown_trans (hq.grown _) hg4⟩
end Go.Proofs.Ytdhjlongdfgejaa
