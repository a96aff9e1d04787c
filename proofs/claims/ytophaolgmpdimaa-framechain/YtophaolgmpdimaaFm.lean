/-
  What frame.WriteHead and ReadHead answer.
-/
import Derived.Test.YtophaolgmpdimaaFi
import Derived.Test.YtophaolgmpdimaaFl
namespace Go.Proofs.Ytophaolgmpdimaa
open Go.RowKit

set_option maxHeartbeats 1000000 in
theorem writeHead_any : DoesWH 21 := by
  intro w nm bs seed g0 g1 g2 g3
  cases hm : inB nm 9223372036854775807 && inB bs 9223372036854775807 with
  | false =>
    have E : Hid (whF nm bs seed = ([], 0#32, 1)) := by
      show _ = _
      rw [whF, if_pos]
      simp only [inB, Bool.and_eq_false_iff, decide_eq_false_iff_not] at hm
      omega
    rw [E.out]
    replace hm := hide hm
    go_enter Try.func21, Try.ntmps21
    go_wp2_with fail
    refine (mayBe_any _ nm bs seed).mono ?_
    rintro e w1 ⟨rfl, hb⟩
    have hb2 := hide (keepF (box_below w (.cells #[.int .i64 nm, .int .i64 bs, .int .u32 (seed.toNat : Int)] 50)) hb)
    clear hb
    rw [hm.out]
    go_wp2_with fail
    go_ret3
    exact ⟨_, rfl, World.ownsRow_nil _ _ _ _, hb2.out⟩
  | true =>
    have hgd : 1 ≤ nm ∧ 1 ≤ bs := by
      simp only [inB, Bool.and_eq_true, decide_eq_true_eq] at hm
      omega
    obtain ⟨j1, j2⟩ := hgd
    have E : Hid (whF nm bs seed = (hed nm.toNat bs.toNat seed, hsum nm.toNat bs.toNat seed, 0)) := by show _ = _; rw [whF, if_neg (by omega)]
    rw [E.out]
    obtain ⟨S, hS⟩ : ∃ S, Hid (hsum nm.toNat bs.toNat seed = S) := ⟨_, rfl⟩
    obtain ⟨L, hL⟩ : ∃ L, Hid (hfs nm.toNat bs.toNat seed = L) := ⟨_, rfl⟩
    obtain ⟨F, hF⟩ : ∃ F, Hid ([L, fmark S].flatten = F) := ⟨_, rfl⟩
    have E2 : Hid (hed nm.toNat bs.toNat seed = F) := by show _ = _; rw [← hF.out, ← hL.out, ← hS.out, hed]; simp
    have E3 : Hid (Crc.more 0#32 L = S) := by show _ = _; rw [← hL.out, ← hS.out]; rfl
    have hLl : Hid (L.length = 28) := by show _ = _; rw [← hL.out]; exact hfs_len _ _ _
    rw [E2.out, hS.out]
    replace hm := hide hm
    have J1 := hide j1
    have J2 := hide j2
    clear E E2 j1 j2
    go_enter Try.func21, Try.ntmps21
    go_wp2_with fail
    refine (mayBe_any _ nm bs seed).mono ?_
    rintro e w1 ⟨rfl, hb1⟩
    rw [hm.out]
    have hh1 : Hid (w1.heap[w.heap.size]? = some (.cells #[.int .i64 nm, .int .i64 bs, .int .u32 (seed.toNat : Int)] 50 (0, 0))) := by
      show _ = _
      rw [hb1.block w.heap.size (by simp)]; exact heap_alloc_new _ _
    have hb01 := hide (keepF (box_below w _) hb1)
    obtain ⟨c0, c1, c2, _, _, _⟩ := three_cells hh1.out
    clear hb1
    go_wp2_with fail
    refine (headFields_any _ nm bs seed J1.out g1 J2.out g3).mono ?_
    rintro e w2 ⟨v2, rfl, ho2, hb2⟩
    rw [hL.out] at ho2
    have s2 := hide (Sl.of_owns ho2)
    obtain ⟨ao1, ca1, rfl⟩ := s2.out.form hLl.out
    have hb02 := hide (keepF hb01.out hb2)
    clear ho2 hb2 c0 c1 c2
    go_wp2_with fail
    refine (Crc.sum_any _ _ _ s2.out).mono ?_
    rintro e w3 ⟨rfl, hb3⟩
    rw [E3.out]
    replace hb3 := hide hb3
    go_wp2_with fail
    refine (mark_any _ S).mono ?_
    rintro e w4 ⟨v4, rfl, ho4, hb4⟩
    have s4 := hide (Sl.of_owns ho4)
    obtain ⟨ao2, ca2, rfl⟩ := s4.out.form (fmark_len _)
    have hb24 := hide (keepF hb3.out hb4)
    have hb04 := hide (keepF hb02.out hb24.out)
    clear ho4 hb4
    go_wp2_with fail
    refine (concat_any (w4.alloc (.cells #[.slice ao1 28 ca1, .slice ao2 4 ca2] 31)) _ [.slice ao1 28 ca1, .slice ao2 4 ca2] [L, fmark S] (row_lit w4 [_, _] 31 (by show 2 ≤ maxLen; decide)) (Below.sls (box_below w4 _) (.cons (Below.sl hb24.out s2.out) (.cons s4.out (.nil _)))) (by simp [fmark_len, hLl.out])).mono ?_
    rintro e w5 ⟨v5, rfl, ho5, hb5⟩
    have hb05 := hide (keepF (keepF hb04.out (box_below w4 _)) hb5)
    have ho6 := hide (owns_lower ho5 (b' := w.heap.size) (keepF hb04.out (box_below w4 _)).size)
    clear hb5 ho5
    rw [hF.out] at ho6
    go_wp2_with fail
    go_ret3
    exact ⟨_, rfl, ho6.out, hb05.out⟩
#print axioms writeHead_any
end Go.Proofs.Ytophaolgmpdimaa
