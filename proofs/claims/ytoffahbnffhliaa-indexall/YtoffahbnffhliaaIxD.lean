/-
  The binary search: slices.BinarySearchFunc over entries; below, Find, Cut of the program; Entries.
-/
import Derived.Test.YtoffahbnffhliaaIxC
import Derived.Deep.LoopGhost
namespace Go.Proofs.Ytoffahbnffhliaa.Ix
open Go.RowKit

def cmpF (a b : Int) : Int := if a < b then -1 else if b < a then 1 else 0
theorem nan_any (w : World) (a : Int) : Calls Try.prog 58 #[.int .i64 a] w fun e w' => e = .returned (.bool false) ∧ w' = w := by
  go_enter Try.func58, Try.ntmps58
  go_wp2_with fail
  go_ret
  exact ⟨by simp, rfl⟩
theorem compare_any (w : World) (a b : Int) : Calls Try.prog 44 #[.int .i64 a, .int .i64 b] w fun e w' => e = .returned (.int .i64 (cmpF a b)) ∧ w' = w := by
  go_enter Try.func44, Try.ntmps44
  go_wp2_with fail
  refine (nan_any _ _).mono ?_
  rintro e w1 ⟨rfl, rfl⟩
  go_wp2_with fail
  refine (nan_any _ _).mono ?_
  rintro e w1 ⟨rfl, rfl⟩
  by_cases h1 : a < b
  · have hc : Hid (cmpF a b = -1) := by show _ = _; rw [cmpF, if_pos h1]
    go_wp2_with fail
    go_ret
    exact ⟨by rw [hc.out]; rfl, rfl⟩
  · by_cases h2 : b < a
    · have hc : Hid (cmpF a b = 1) := by show _ = _; rw [cmpF, if_neg h1, if_pos h2]
      go_wp2_with fail
      go_ret
      exact ⟨by rw [hc.out]; rfl, rfl⟩
    · have hc : Hid (cmpF a b = 0) := by show _ = _; rw [cmpF, if_neg h1, if_neg h2]
      go_wp2_with fail
      go_ret
      exact ⟨by rw [hc.out]; rfl, rfl⟩
theorem clo_any (w : World) (a o n : Int) : Calls Try.prog 43 #[.agg #[.int .i64 a, .int .i64 o], .int .i64 n] w fun e w' => e = .returned (.int .i64 (cmpF a n)) ∧ Below w.heap.size w w' := by
  have hB := hide (box_below w (.cells #[.int .i64 a, .int .i64 o] 35))
  go_enter Try.func43, Try.ntmps43
  go_wp2_with fail
  refine (compare_any _ _ _).mono ?_
  rintro e w1 ⟨rfl, rfl⟩
  go_wp2_with fail
  go_ret
  exact ⟨rfl, hB.out⟩
def isAt (l : List (Int × Int)) (n : Int) : Bool := match l[cnt l n]? with
  | some e => decide (e.1 = n)
  | none => false
theorem cmpF_neg (a b : Int) : (cmpF a b < 0) = (a < b) := by
  unfold cmpF
  by_cases h : a < b
  · simp [h]
  · by_cases h2 : b < a <;> simp [h, h2]
theorem cmpF_zero (a b : Int) : (cmpF a b = 0) = (a = b) := by
  unfold cmpF
  by_cases h : a < b
  · simp [h]; omega
  · by_cases h2 : b < a
    · simp [h, h2]; omega
    · simp [h, h2]; omega
set_option maxHeartbeats 2000000 in
theorem bsf_any (w : World) (v : Value) (st : Nat) (l : List (Int × Int)) (n : Int) (hv : Ents w v l) (hs : Srt st l) :
    Calls Try.prog 42 #[v, .int .i64 n, .func (.func 43) #[] #[]] w fun e w' =>
      e = .returned (.tuple #[.int .i64 (cnt l n : Int), .bool (isAt l n)]) ∧ Below w.heap.size w w' := by
  by_cases hl : l = []
  · subst hl
    obtain ⟨ao, ca, rfl, q1, q2⟩ := hv.form
    have hR : Hid ((cnt [] n : Int) = 0 ∧ isAt [] n = false) := ⟨rfl, rfl⟩
    clear hv
    simp only [List.length_nil]
    go_enter Try.func42, Try.ntmps42
    go_wp2_with fail
    go_loopw [9, 10] (fun s9 s10 wr => s9 = .int .i64 0 ∧ s10 = .int .i64 0 ∧ wr = w) (fun _ _ _ => 0)
    case atStart => exact ⟨rfl, rfl, rfl⟩
    case round =>
      obtain ⟨rfl, rfl, rfl⟩ := hrel
      go_wp2_with fail
      go_ret2
      exact ⟨by rw [hR.out.1, hR.out.2]; rfl, Below.refl _ _⟩
  · obtain ⟨g, ca, rfl, hc, q1, q2, _⟩ := hv.at hl
    have HC := hide hc
    have HS := hide (cnt_split hs n)
    have hcl := cnt_le l n
    have hlen := hs.len
    have hR : Hid (∀ (hk : cnt l n < l.length), isAt l n = decide (l[cnt l n].1 = n)) := fun hk => by
      unfold isAt; rw [List.getElem?_eq_getElem hk]
    have hR2 : Hid (l.length ≤ cnt l n → isAt l n = false) := fun hk => by
      unfold isAt; rw [List.getElem?_eq_none hk]
    have SRT := hide hs
    obtain ⟨C, hC⟩ : ∃ C, Hid (cnt l n = C) := ⟨_, rfl⟩
    obtain ⟨N, hN⟩ : ∃ N, Hid (l.length = N) := ⟨_, rfl⟩
    obtain ⟨iz, hiz⟩ : ∃ iz, Hid (isAt l n = iz) := ⟨_, rfl⟩
    rw [hC.out] at hcl
    rw [hN.out] at q1 hlen hcl
    rw [hC.out, hN.out, hiz.out]
    clear hc hv hs hl
    go_enter Try.func42, Try.ntmps42
    go_wp2_with fail
    go_loopg [9, 10] N (fun kx s9 s10 wr => ∃ lo hi : Nat, s9 = .int .i64 (lo : Int) ∧ s10 = .int .i64 (hi : Int) ∧ lo ≤ C ∧ C ≤ hi ∧ hi ≤ N ∧ hi - lo ≤ kx ∧ Hid (Below w.heap.size w wr))
    case atStart => exact ⟨0, N, rfl, rfl, Nat.zero_le _, hcl, Nat.le_refl _, by omega, Below.refl _ _⟩
    case round =>
      obtain ⟨lo, hi, rfl, rfl, h1, h2, h3, h4, hB⟩ := hrel
      by_cases hlt : lo < hi
      · have hm : (lo + hi) / 2 < l.length := by rw [hN.out]; omega
        obtain ⟨k0, k1⟩ := HC.out _ hm
        have gB := hB.out.cell (lt_of_cell k0)
        have gB1 := hB.out.cell (lt_of_cell k1)
        rw [k0] at gB
        rw [k1] at gB1
        have hL : Hid ((lo + hi) / 2 < C → l[(lo + hi) / 2].1 < n) := fun h => HS.out.1 _ hm (by rw [hC.out]; exact h)
        have hG : Hid (C ≤ (lo + hi) / 2 → n ≤ l[(lo + hi) / 2].1) := fun h => HS.out.2 _ hm (by rw [hC.out]; exact h)
        generalize l[(lo + hi) / 2] = en at *
        obtain ⟨e1, e2⟩ := en
        simp only at gB gB1 hL hG
        obtain ⟨M, hM⟩ : ∃ M, M = (lo + hi) / 2 := ⟨_, rfl⟩
        rw [← hM] at gB gB1 hL hG hm
        have hMi : ((lo : Int) + (hi : Int)) / 2 = (M : Int) := by omega
        have hMN : M < N := by omega
        have hM1 : lo ≤ M ∧ M < hi := by omega
        replace hM := hide hM
        replace hm := hide hm
        clear k0 k1
        have hcn := hide (cmpF_neg e1 n)
        go_wp2_with fail
        refine (clo_any _ _ _ _).mono ?_
        rintro e w2 ⟨rfl, b2⟩
        have hB2 := hide (keepF hB.out b2)
        clear b2 gB gB1
        by_cases hlt2 : e1 < n
        · have hMC : M < C := by
            refine Classical.byContradiction fun c => ?_
            have := hG.out (by omega)
            omega
          rw [show cmpF e1 n = -1 by rw [cmpF, if_pos hlt2]]
          go_wp2_with fail
          go_roundg (hi - (M + 1))
          case measure => omega
          case rel => exact ⟨M + 1, hi, rfl, rfl, by omega, h2, h3, Nat.le_refl _, hB2.out⟩
        · have hMC : C ≤ M := by
            refine Classical.byContradiction fun c => ?_
            have := hL.out (by omega)
            omega
          have hz : ¬ cmpF e1 n < 0 := by rw [cmpF_neg]; exact hlt2
          generalize cmpF e1 n = z at *
          go_wp2_with fail
          go_roundg (M - lo)
          case measure => omega
          case rel => exact ⟨lo, M, rfl, rfl, h1, hMC, by omega, Nat.le_refl _, hB2.out⟩
      · obtain rfl : lo = C := by omega
        obtain rfl : hi = lo := by omega
        clear HS
        by_cases hin : hi < N
        · have hm : hi < l.length := by rw [hN.out]; exact hin
          obtain ⟨k0, k1⟩ := HC.out _ hm
          have gB := hB.out.cell (lt_of_cell k0)
          have gB1 := hB.out.cell (lt_of_cell k1)
          rw [k0] at gB
          rw [k1] at gB1
          have hQ : Hid (iz = decide (l[hi].1 = n)) := by
            show _ = _
            rw [← hiz.out, hR.out (by rw [hC.out]; exact hm)]
            simp only [hC.out]
          generalize l[hi] = en at *
          obtain ⟨e1, e2⟩ := en
          simp only at gB gB1 hQ
          replace hm := hide hm
          have hcz := hide (cmpF_zero e1 n)
          clear k0 k1
          go_wp2_with fail
          refine (clo_any _ _ _ _).mono ?_
          rintro e w2 ⟨rfl, b2⟩
          have hB2 := hide (keepF hB.out b2)
          clear b2 gB gB1
          have hfin : Hid (iz = decide (cmpF e1 n = 0)) := by show _ = _; rw [hQ.out]; simp only [hcz.out]
          generalize cmpF e1 n = z at *
          go_wp2_with fail
          go_ret2
          exact ⟨by rw [hfin.out]; first | rfl | simp, hB2.out⟩
        · have hfin : Hid (iz = false) := by show _ = _; rw [← hiz.out]; exact hR2.out (by rw [hC.out, hN.out]; omega)
          go_wp2_with fail
          go_ret2
          exact ⟨by rw [hfin.out]; rfl, hB.out⟩
#print axioms bsf_any
theorem below_any (w : World) (b : Nat) (x : X) (v : Value) (n : Int) (h : At TI w b x v) (hk : Ok x) :
    Calls Try.prog 29 #[.pointer (some ⟨b, 0, none⟩), .int .i64 n] w fun e w' => e = .returned (.tuple #[.int .i64 (cnt x.l n : Int), .bool (isAt x.l n)]) ∧ Below w.heap.size w w' := by
  obtain ⟨c0, c1, _, _⟩ := h.cells
  obtain ⟨ao, ca, rfl, _, _⟩ := h.row.form
  have H := hide h
  have HK := hide hk
  clear h hk
  generalize hL : x.l.length = N at *
  replace hL := hide hL
  go_enter Try.func29, Try.ntmps29
  go_wp2_with fail
  refine (bsf_any _ _ x.st x.l n H.out.row HK.out.srt).mono ?_
  rintro e w1 ⟨rfl, hb⟩
  replace hb := hide hb
  go_wp2_with fail
  go_ret2
  exact ⟨rfl, hb.out⟩
end Go.Proofs.Ytoffahbnffhliaa.Ix
