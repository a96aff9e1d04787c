/-
  The document's own bits: so many of them taken.
-/
import Derived.Test.YtojohcckaklmpaaDoorSx
namespace Go.Proofs.YtojohcckaklmpaaDoor.Sr
open Go.RowKit
set_option maxRecDepth 100000
set_option linter.unusedVariables false

theorem bitsOf_get (x n j : Nat) (h : j < n) : (bitsOf x n)[j]? = some (x / 2 ^ (n - 1 - j) % 2) := by
  induction n generalizing j with
  | zero => omega
  | succ n ih =>
    rw [bitsOf]
    cases j with
    | zero => simp
    | succ j => rw [List.getElem?_cons_succ, ih j (by omega)]; congr 4; omega
theorem unb_get (A : List UInt8) (j : Nat) (h : j / 8 < A.length) : (unb A)[j]? = some (A[j / 8].toNat / 2 ^ (7 - j % 8) % 2) := by
  induction A generalizing j with
  | nil => simp at h
  | cons c A ih =>
    rw [unb]
    by_cases hj : j < 8
    · rw [List.getElem?_append_left (by simp; omega), bitsOf_get _ _ _ hj]
      have e0 : j / 8 = 0 := by omega
      have e1 : j % 8 = j := by omega
      simp only [e0, e1, List.getElem_cons_zero]
    · rw [List.getElem?_append_right (by simp; omega), bitsOf_len]
      have hlt : (j - 8) / 8 < A.length := by simp at h; omega
      rw [ih (j - 8) hlt]
      have e1 : (j - 8) % 8 = j % 8 := by omega
      have e2 : j / 8 = (j - 8) / 8 + 1 := by omega
      simp only [e1, e2, List.getElem_cons_succ]
theorem and8_all : ∀ y : Fin 256, bits .and .u8 (y.val : Int) 1 = ((y.val % 2 : Nat) : Int) := by decide +kernel
theorem and8 (c k : Nat) (hc : c < 256) : bits .and .u8 ((c : Int) / 2 ^ k) 1 = ((c / 2 ^ k % 2 : Nat) : Int) := by
  rw [show (c : Int) / 2 ^ k = ((c / 2 ^ k : Nat) : Int) by simp]
  exact and8_all ⟨c / 2 ^ k, Nat.lt_of_le_of_lt (Nat.div_le_self _ _) hc⟩
theorem two_more (n b : Nat) (hn : n < 9223372036854775808) (hb : b < 2) : IntKind.u64.wrap (IntKind.u64.wrap ((n : Int) * 2) + IntKind.u64.wrap (b : Int)) = ((2 * n + b : Nat) : Int) := by
  rw [IntKind.wrap_u64, IntKind.wrap_u64, IntKind.wrap_u64]; omega
/-- The document's bits at block q: bytes A, so many bits taken; R is left. -/
def RSrc (w : World) (base q : Nat) (A : List UInt8) (R : List Nat) : Prop :=
  ∃ (ao : Option Addr) (cap t : Nat), w.heap[q]? = some (.cells #[.slice ao A.length cap, .int .i64 (t : Int)] 73 (0, 0)) ∧ RdB w base ao A ∧ A.length ≤ cap ∧ cap ≤ maxLen ∧ A.length ≤ 140737488355328 ∧ t ≤ 8 * A.length ∧ R = (unb A).drop t
def RTakeP (base q W : Nat) (A : List UInt8) (R : List Nat) (e : Ending) (w' : World) : Prop :=
  if W ≤ R.length then e = .returned (.tuple #[.int .u64 ((ofB 0 (R.take W) : Nat) : Int), .bool true]) ∧ RSrc w' base q A (R.drop W) else e = .returned (.tuple #[.int .u64 0, .bool false])
theorem RTakeP.yes {base q W : Nat} {A : List UInt8} {R : List Nat} {e : Ending} {w' : World} (h : RTakeP base q W A R e w') (hW : W ≤ R.length) : e = .returned (.tuple #[.int .u64 ((ofB 0 (R.take W) : Nat) : Int), .bool true]) ∧ RSrc w' base q A (R.drop W) := by
  unfold RTakeP at h; rwa [if_pos hW] at h
theorem RTakeP.no {base q W : Nat} {A : List UInt8} {R : List Nat} {e : Ending} {w' : World} (h : RTakeP base q W A R e w') (hW : R.length < W) : e = .returned (.tuple #[.int .u64 0, .bool false]) := by
  unfold RTakeP at h; rwa [if_neg (by omega)] at h
set_option maxHeartbeats 4000000 in
theorem rtake_any (w : World) (base q W : Nat) (A : List UInt8) (R : List Nat) (hs : RSrc w base q A R) (hb : base ≤ q) (hW : W ≤ 64) :
    Calls Tryd.prog 40 #[.pointer (some ⟨q, 0, none⟩), .int .i64 (W : Int)] w fun e w' => RTakeP base q W A R e w' ∧ w.grownBy w' (some q) := by
  obtain ⟨ao, cap, t, hq, hA, h1, h2, h3, h4, hR⟩ := hs
  obtain ⟨L, hL⟩ : ∃ L, Hid (A.length = L) := ⟨_, rfl⟩
  have hRl : R.length = 8 * L - t := by rw [hR, List.length_drop, unb_len, hL.out]
  have hB : Hid (IsB R) := by rw [hR]; exact (unb_isB A).drop t
  rw [hL.out] at hq h1 h3 h4
  have c0 : w.cell? ⟨q, 0, none⟩ = some (.slice ao L cap) := by simp [World.cell?, hq]
  have c1 : w.cell? ⟨q, 1, none⟩ = some (.int .i64 (t : Int)) := by simp [World.cell?, hq]
  replace hq : Hid (w.heap[q]? = some (.cells #[.slice ao L cap, .int .i64 (t : Int)] 73 (0, 0))) := hq
  replace hA : Hid (RdB w base ao A) := hA
  replace hR : Hid (R = (unb A).drop t) := hR
  by_cases hno : R.length < W
  · have g1 : (L : Int) * 8 - (t : Int) < (W : Int) := by omega
    have g0 : (0 : Int) ≤ (L : Int) * 8 - (t : Int) := by omega
    go_enter Tryd.func40, Tryd.ntmps40
    go_wp2_with fail
    go_region
    go_wp2
    go_ret2
    refine ⟨?_, (Qt.grown ⟨1, rfl⟩ _)⟩
    unfold RTakeP
    rw [if_neg (by omega)]
    rfl
  · have g1 : ¬ (L : Int) * 8 - (t : Int) < (W : Int) := by omega
    have dec1 : decide ((L : Int) * 8 - (t : Int) < (W : Int)) = false := by simp; omega
    go_enter Tryd.func40, Tryd.ntmps40
    go_wp2_with fail
    go_region
    go_wp2_with fail
    (try simp only [dec1])
    go_loopw [6, 7] (fun vn vi wr => ∃ i n : Nat, i ≤ W ∧ vi = .int .i64 (i : Int) ∧ vn = .int .u64 (n : Int) ∧ Hid (ofB 0 (R.take i) = n) ∧ Hid (wr.heap[q]? = some (.cells #[.slice ao L cap, .int .i64 ((t + i : Nat) : Int)] 73 (0, 0))) ∧ Hid (w.grownBy wr (some q))) (fun _ v _ => W - (intOf v).toNat)
    case atStart => exact ⟨0, 0, by omega, rfl, rfl, rfl, hq, grown_drew (grown_refl _ _)⟩
    case round =>
      clear c0 c1
      obtain ⟨i, n, hi, rfl, rfl, hn, hqr, hG⟩ := hrel
      by_cases hiW : i = W
      · subst hiW
        go_wp2
        go_ret2
        refine ⟨?_, hG.out⟩
        unfold RTakeP
        rw [if_pos (by omega), hn.out]
        exact ⟨rfl, ao, cap, t + i, by rw [hL.out]; exact hqr.out, hA.out.grown hG.out hb, by rw [hL.out]; exact h1, h2, by rw [hL.out]; exact h3, by rw [hL.out]; omega, by rw [hR.out, List.drop_drop]⟩
      · have i1 : (i : Int) < (W : Int) := by omega
        have hlt : i < R.length := by omega
        obtain ⟨s, hsv⟩ : ∃ s, Hid (t + i = s) := ⟨_, rfl⟩
        have hs8 : s / 8 < L := by have := hsv.out; omega
        obtain ⟨b, off, rfl, hbb, hcell⟩ := hA.out (s / 8) (by rw [hL.out]; exact hs8)
        obtain ⟨c, hc⟩ : ∃ c, Hid ((A[s / 8]'(by rw [hL.out]; exact hs8)).toNat = c) := ⟨(A[s / 8]'(by rw [hL.out]; exact hs8)).toNat, (rfl : (A[s / 8]'(by rw [hL.out]; exact hs8)).toNat = _)⟩
        have hc8 : c < 256 := by rw [← hc.out]; exact UInt8.toNat_lt _
        have hRi : R[i]? = some (c / 2 ^ (7 - s % 8) % 2) := by
          rw [hR.out, List.getElem?_drop, hsv.out, unb_get A s (by rw [hL.out]; exact hs8), ← hc.out]
        have hcx : wr.cell? ⟨b, off + s / 8, none⟩ = some (.int .u8 (c : Int)) := by rw [← hc.out]; exact hG.out.cell hcell (by simp; omega)
        rw [hsv.out] at hqr
        have d0 : wr.cell? ⟨q, 0, none⟩ = some (.slice (some ⟨b, off, none⟩) L cap) := by simp [World.cell?, hqr.out]
        have d1 : wr.cell? ⟨q, 1, none⟩ = some (.int .i64 (s : Int)) := by simp [World.cell?, hqr.out]
        have f1 : wr.frozen? ⟨q, 1, none⟩ = false := by simp [World.frozen?, hqr.out]
        have s0 : (0 : Int) ≤ (s : Int) := by omega
        have s8 : (s : Int) / 8 < (L : Int) := by omega
        clear hcell
        have ha := and8 c (7 - s % 8) hc8
        obtain ⟨bb, hbv⟩ : ∃ bb, Hid (c / 2 ^ (7 - s % 8) % 2 = bb) := ⟨_, rfl⟩
        rw [hbv.out] at ha hRi
        have hb2 : bb < 2 := by rw [← hbv.out]; omega
        have hn2 : n < 9223372036854775808 := by
          have h1 := ofB_lt0 (hB.out.take i) (n := i) (by rw [List.length_take]; omega)
          rw [hn.out] at h1
          have h2 : 2 ^ i ≤ 2 ^ 63 := Nat.pow_le_pow_right (by decide) (by omega)
          omega
        have hn3 : Hid (ofB 0 (R.take (i + 1)) = 2 * n + bb) := by
          show _ = _
          rw [List.take_succ_eq_append_getElem hlt, ofB_snoc, hn.out]
          have := List.getElem?_eq_getElem hlt
          rw [hRi] at this
          rw [← Option.some.inj this]
        have hwr := two_more n bb hn2 hb2
        obtain ⟨N, hN⟩ : ∃ N, Hid (2 * n + bb = N) := ⟨_, rfl⟩
        rw [hN.out] at hn3 hwr
        have hq2 : Hid (((wr.setCell ⟨q, 1, none⟩ (.int .i64 ((s : Int) + 1))).drew).heap[q]? = some (.cells #[.slice (some ⟨b, off, none⟩) L cap, .int .i64 ((t + (i + 1) : Nat) : Int)] 73 (0, 0))) := by
          show (wr.setCell ⟨q, 1, none⟩ (.int .i64 ((s : Int) + 1))).heap[q]? = _
          rw [heap_set wr q 1 _ _ _ hqr.out, show ((t + (i + 1) : Nat) : Int) = (s : Int) + 1 by have := hsv.out; omega]; rfl
        have hG2 : Hid (w.grownBy (wr.setCell ⟨q, 1, none⟩ (.int .i64 ((s : Int) + 1))).drew (some q)) := grown_drew (grown_set hG.out _ _)
        obtain ⟨w2, hw2⟩ : ∃ w2, w2 = (wr.setCell ⟨q, 1, none⟩ (.int .i64 ((s : Int) + 1))).drew := ⟨_, rfl⟩
        rw [← hw2] at hq2 hG2
        have hs1 : (s : Int) + 1 ≤ 9223372036854775807 := by omega
        clear hn2 hb2 hRi hqr hG hRl h4 g1 dec1 hno
        go_wp2_with fail
        go_region
        go_wp2_with fail
        go_roundw
        case rel =>
          rw [← hw2]
          exact ⟨i + 1, N, by omega, by go_num, rfl, hn3, hq2, hG2⟩
        case measure => simp [intOf]; omega
#print axioms rtake_any
end Go.Proofs.YtojohcckaklmpaaDoor.Sr
