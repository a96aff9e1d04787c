/-
  frame's own reader: number, short, behind.
-/
import Derived.Test.YtebhkdaefjmbnaaFe
import Derived.BigQuiet
namespace Go.Proofs.Ytebhkdaefjmbnaa
open Go.RowKit

/-- A number of 64 bits as a signed one. -/
def sg64 (n : Nat) : Int := if n < 9223372036854775808 then (n : Int) else (n : Int) - 18446744073709551616

theorem sg64_wrap (n : Nat) (h : n < 18446744073709551616) : IntKind.i64.wrap (n : Int) = sg64 n := by
  rw [IntKind.wrap_i64]; unfold sg64; split <;> omega

set_option maxHeartbeats 400000 in
theorem number_any (w : World) (rb : Nat) (v : Value) (l : List UInt8) (s : Nat × Int) (h : RdrAt w rb l s.1 s.2) :
    Calls Try.prog 37 #[.agg #[.pointer (some ⟨rb, 0, none⟩), v]] w fun e w' => e = .returned (.int .i64 (sg64 (stv l 8 s))) ∧ RdrAt w' rb l (stp l 8 s).1 (stp l 8 s).2 ∧ w.grownBy w' (some rb) := by
  have hN := hide (stv_lt l 8 s)
  have hr := hide (h.below (box_below w (.cells #[.pointer (some ⟨rb, 0, none⟩), v] 77)))
  obtain ⟨N, hNe⟩ : ∃ N, Hid (stv l 8 s = N) := ⟨_, rfl⟩
  rw [hNe.out]
  rw [hNe.out] at hN
  have hW : IntKind.i64.wrap (N : Int) = sg64 N := sg64_wrap N (by simpa using hN.out)
  go_enter Try.func37, Try.ntmps37
  go_wp2_with fail
  refine (fixed64_tot _ rb l s hr.out).mono ?_
  rintro e w1 ⟨rfl, hr1, hg1⟩
  rw [hNe.out]
  replace hr1 := hide hr1
  have hg := hide (box_grown hg1)
  clear hg1
  go_wp2_with fail
  go_ret
  exact ⟨by first | rfl | (rw [← hW]) , hr1.out, hg.out⟩

set_option maxHeartbeats 400000 in
theorem short_any (w : World) (rb : Nat) (v : Value) (l : List UInt8) (k : Nat) (er : Int) (h : RdrAt w rb l k er) :
    Calls Try.prog 38 #[.agg #[.pointer (some ⟨rb, 0, none⟩), v]] w fun e w' => e = .returned (.bool (er != 0)) ∧ Below w.heap.size w w' := by
  have hr := hide (h.below (box_below w (.cells #[.pointer (some ⟨rb, 0, none⟩), v] 77)))
  go_enter Try.func38, Try.ntmps38
  go_wp2_with fail
  refine (err_any _ rb l k er hr.out).mono ?_
  rintro e w1 ⟨rfl, hq⟩
  have hb := hide (keepF (box_below w (.cells #[.pointer (some ⟨rb, 0, none⟩), v] 77)) (hq.below _))
  clear hq
  generalize (if er = 0 then 0 else (k : Int)) = z
  go_wp2_with fail
  go_ret
  exact ⟨rfl, hb.out⟩

set_option maxHeartbeats 800000 in
theorem behind_any (w : World) (rb : Nat) (v : Value) (l m : List UInt8) (k : Nat) (er : Int) (n : Nat) (hn : n ≤ 4096) (h : RdrAt w rb m k er) (hv : Sl w v l) (hk : k ≤ l.length) :
    Calls Try.prog 40 #[.agg #[.pointer (some ⟨rb, 0, none⟩), v], .int .i64 (n : Int)] w fun e w' =>
      (l.length - k < n ∧ e = .returned (.tuple #[.slice none 0 0, .bool false]) ∧ Below w.heap.size w w') ∨
      (n ≤ l.length - k ∧ ∃ v', e = .returned (.tuple #[v', .bool true]) ∧ w'.ownsRow w.heap.size 5 1 v' ((l.drop k).take n).length (bvals ((l.drop k).take n)) ∧ Below w.heap.size w w') := by
  have hr0 := hide (h.below (box_below w (.cells #[.pointer (some ⟨rb, 0, none⟩), v] 77)))
  obtain ⟨ao, ca, rfl, g2, g3, g4, g5⟩ := hv
  have HS := hide (sl_drop k hk g2 g3 g4 g5)
  have HL := hide hk
  obtain ⟨L, hL⟩ : ∃ L, Hid (l.length = L) := ⟨_, rfl⟩
  rw [hL.out] at hk g3 HS hr0
  rw [hL.out]
  have hm : ca ≤ 9223372036854775807 := by unfold maxLen at g4; omega
  have hkc : k ≤ ca := by omega
  generalize hz : (if ca = k then ao else Option.map (fun x : Addr => x.add k) ao) = zo at *
  clear g2 g4 g5 h
  go_enter Try.func40, Try.ntmps40
  go_wp2_with fail
  go_quiet ((go_at_call 53; exact Calls.quiet_of_same (at_any _ rb m k er (hr0.out.below (Qt.below ⟨_, rfl⟩ _)))))
  clear hz
  have HB : Hid (Below w.heap.size w ((w.alloc (.cells #[.pointer (some ⟨rb, 0, none⟩), .slice ao L ca] 77)).drewN nq)) := keepF (box_below _ _) (Qt.below ⟨_, rfl⟩ _)
  clear hr0
  generalize (w.alloc (.cells #[.pointer (some ⟨rb, 0, none⟩), .slice ao L ca] 77)).drewN nq = wq at *
  obtain ⟨J, hJ⟩ : ∃ J, J = L - k := ⟨_, rfl⟩
  have hcJ : J ≤ ca - k := by omega
  have hcm : ca - k ≤ 9223372036854775807 := by omega
  have HJ := hide hJ
  rw [← hJ] at HS ⊢
  generalize ca - k = cb at *
  clear hJ hkc hk g3 hm
  by_cases hlt : J < n
  · go_wp2_with fail
    go_ret2
    exact Or.inl ⟨by rw [← HJ.out]; exact hlt, rfl, HB.out⟩
  · have hle : n ≤ J := by omega
    have hnc : n ≤ cb := by omega
    have hlen : Hid ((l.drop k).length = J) := by show _ = _; rw [List.length_drop, hL.out, HJ.out]
    have s1 := hide (Below.sl HB.out (sl_take n (by rw [hlen.out]; exact hle) HS.out hlen.out))
    have hbl : Hid (((l.drop k).take n).length ≤ 140737488355328) := by show _ ≤ _; simp; omega
    go_wp2_with fail
    refine (clone_any _ _ _ s1.out hbl.out).mono ?_
    rintro e w2 ⟨v2, rfl, ho, hb⟩
    have ho2 := hide (owns_lower ho HB.out.size)
    have hb2 := hide (keepF HB.out hb)
    clear ho hb
    go_wp2_with fail
    go_ret2
    exact Or.inr ⟨by rw [← HJ.out]; exact hle, _, rfl, ho2.out, hb2.out⟩
#print axioms behind_any
end Go.Proofs.Ytebhkdaefjmbnaa
