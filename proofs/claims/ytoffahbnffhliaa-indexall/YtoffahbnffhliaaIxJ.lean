/-
  Load of the program, whole.
-/
import Derived.Test.YtoffahbnffhliaaIxI
namespace Go.Proofs.Ytoffahbnffhliaa.Ix
open Go.RowKit

/-- What Load owes. -/
def DoesLoad (T : TypeId) (f : Nat) : Prop := ∀ (w : World) (v : Value) (l : List UInt8), Sl w v l → l.length ≤ 140737488355328 →
  Calls Try.prog f #[v] w fun e w' => ∃ p, e = .returned (.tuple #[p, .int .i64 (loadF l).1]) ∧ Loaded T w w' (loadF l).1 (loadF l).2 p ∧ Below w.heap.size w w'
theorem Loaded.up {T : TypeId} {w u w' : World} {E : Int} {x : X} {p : Value} (h : Loaded T u w' E x p) (hb : w.heap.size ≤ u.heap.size) : Loaded T w w' E x p := by
  rcases h with h | ⟨h0, b, v, h1, h2, h3, h4⟩
  · exact .inl h
  · exact .inr ⟨h0, b, v, h1, by omega, h3, fun k hk => Nat.le_trans hb (h4 k hk)⟩
set_option maxHeartbeats 4000000 in
theorem load_any : DoesLoad TI 17 := by
  intro w v l hv hlen
  obtain ⟨n, hn⟩ : ∃ n, Hid (l.length = n) := ⟨_, rfl⟩
  obtain ⟨ao, ca, rfl⟩ := hv.form hn.out
  by_cases h4 : n < 4
  · have hE : Hid (loadF l = (2, zX)) := by show _ = _; rw [loadF, if_pos (by rw [hn.out]; exact h4)]
    clear hv
    go_enter Try.func17, Try.ntmps17
    go_wp2_with fail
    go_ret2
    rw [hE.out]
    exact ⟨_, rfl, .inl ⟨by simp, rfl⟩, Below.refl _ _⟩
  · have HV := hide hv
    have hcap : n ≤ ca ∧ ca ≤ 9223372036854775807 := by
      obtain ⟨_, _, e, _, g3, g4, _⟩ := hv
      simp only [Value.slice.injEq] at e
      obtain ⟨_, _, rfl⟩ := e
      rw [hn.out] at g3
      unfold maxLen at g4
      omega
    obtain ⟨hc1, hc2⟩ := hcap
    obtain ⟨k, hk⟩ : ∃ k, Hid (n = k + 4) := ⟨n - 4, by show _ = _; omega⟩
    have hk' := hk.out
    have hnl := hn.out
    have sT : Hid (Sl w (.slice ao k ca) (l.take k)) := sl_take k (by omega) HV.out hn.out
    have sD : Hid (Sl w (.slice (if ca = k then ao else Option.map (fun x => x.add k) ao) (n - k) (ca - k)) (l.drop k)) := by
      obtain ⟨ao', ca', e, g2, g3, g4, g5⟩ := id hv
      simp only [Value.slice.injEq] at e
      obtain ⟨rfl, _, rfl⟩ := e
      have := sl_drop k (by omega) g2 g3 g4 g5
      rw [hn.out] at this
      exact this
    have hne : ¬ ca = k := by omega
    rw [if_neg hne] at sD
    have hdl : Hid ((l.drop k).length = 4) := by show _ = _; rw [List.length_drop, hnl]; omega
    have htl : Hid ((l.take k).length ≤ 140737488355328) := by show _ ≤ _; simp; omega
    obtain ⟨D, hD⟩ : ∃ D, Hid (l.drop k = D) := ⟨_, rfl⟩
    obtain ⟨M, hM⟩ : ∃ M, Hid (l.take k = M) := ⟨_, rfl⟩
    have hE : Hid (loadF l = if num D ≠ (Crc.more 0#32 M).toNat then (5, zX) else readF M) := by
      show _ = _
      rw [loadF, hnl, if_neg (by omega), show n - 4 = k by omega, hD.out, hM.out]
    rw [hD.out] at sD hdl
    rw [hM.out] at sT htl
    have hD4 : Hid ((D.drop 0).take 4 = D) := by show _ = _; rw [List.drop_zero, List.take_of_length_le (by rw [hdl.out]; omega)]
    have hnl2 := num_le D 4 (by rw [hdl.out]; omega)
    obtain ⟨nD, hnD⟩ : ∃ nD, Hid (num D = nD) := ⟨_, rfl⟩
    obtain ⟨nC, hnC⟩ : ∃ nC, Hid ((Crc.more 0#32 M).toNat = nC) := ⟨_, rfl⟩
    rw [hnD.out, hnC.out] at hE
    rw [hnD.out] at hnl2
    have hw : (n : Int) - 4 = (k : Int) := by omega
    have hw' : IntKind.i64.wrap (k : Int) = (k : Int) := by rw [IntKind.wrap_i64]; omega
    have hkc : k ≤ ca := by omega
    have hkn : k ≤ n := by omega
    have i0 : (0 : Int) ≤ (k : Int) := by omega
    have i1 : (k : Int) ≤ (n : Int) := by omega
    have i2 : (n : Int) ≤ (ca : Int) := by omega
    have i3 : (k : Int) ≤ (ca : Int) := by omega
    have h4' : ¬ (n : Int) < 4 := by omega
    clear hv hnl hk'
    go_enter Try.func17, Try.ntmps17
    go_upto_region 4 with fail
    go_cut [20] from 11 to 19 (fun y wx => y = .bool ((nD : Int) != (nC : Int)) ∧ Hid (Below w.heap.size w wx))
    case first =>
      have hS0 : Below w.heap.size w w.drew := (Below.refl _ _).drew
      go_region_held3 (fun q => Below w.heap.size w q)
        (first | exact hS0 | assumption | exact KP | exact Below.drew KP | fail)
        (first
          | (go_at_call 30; refine (newReader_any _ _ D (Below.sl (by assumption) sD.out) (by rw [hdl.out]; omega)).mono ?_; rintro e u1 ⟨rb, rfl, R1, B1, L1⟩; have KP := keepF (by assumption) B1; have LR := hide (Nat.le_trans (Below.size (by assumption)) L1); have RK := hide R1; clear R1 L1)
          | (go_at_call 31; refine (Fixed32_good _ _ D 0 RK.out (by rw [hdl.out]; omega)).mono ?_; rintro e u2 ⟨rfl, R2, G2⟩; rw [hD4.out, hnD.out]; have KP2 := below_block (by assumption) G2 LR.out; clear R2 G2)
          | (go_at_call 32; refine (Crc.sum_any _ _ M (Below.sl (by assumption) sT.out)).mono ?_; rintro e u3 ⟨rfl, B3⟩; rw [hnC.out]; have KP3 := keepF (by assumption) B3)
          | fail)
      all_goals
        go_wp2_with fail
        go_meet
        case rel => exact ⟨by first | rfl | simp, by assumption⟩
    case rest =>
      obtain ⟨rfl, hB⟩ := hcut
      by_cases hz : nD = nC
      · subst hz
        rw [if_neg (by simp)] at hE
        have sT2 := hide (Below.sl hB.out sT.out)
        have hbt : ((nD : Int) != (nD : Int)) = false := by simp
        rw [hbt]
        clear hbt
        go_wp2_with fail
        refine (newReader_any _ _ M sT2.out htl.out).mono ?_
        rintro e u1 ⟨rb, rfl, R1, B1, L1⟩
        have B1' := hide (keepF hB.out B1)
        have CALL := hide (read_any u1 rb M R1)
        have L1' := hide (Nat.le_trans hB.out.size L1)
        clear R1 B1 L1
        go_wp2_with fail
        refine CALL.out.mono ?_
        rintro e u2 ⟨p, rfl, LD, BT⟩
        have B2 := hide (BT.below B1'.out.size (n := w.heap.size) (fun j hj => by have := L1'.out; omega))
        replace LD := hide LD
        clear BT CALL
        go_wp2_with fail
        go_ret2
        rw [hE.out]
        exact ⟨_, rfl, LD.out.up B1'.out.size, B1'.out.trans B2.out⟩
      · rw [if_pos hz] at hE
        have hbt : ((nD : Int) != (nC : Int)) = true := by simp; omega
        rw [hbt]
        clear hbt
        go_wp2_with fail
        go_ret2
        rw [hE.out]
        exact ⟨_, rfl, .inl ⟨by simp, rfl⟩, hB.out⟩
#print axioms load_any
end Go.Proofs.Ytoffahbnffhliaa.Ix
