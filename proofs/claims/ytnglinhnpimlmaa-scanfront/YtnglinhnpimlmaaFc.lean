/-
  What frame.frameSum, Write, Size answer.
-/
import Derived.Test.YtnglinhnpimlmaaFb
namespace Go.Proofs.Ytnglinhnpimlmaa
open Go.RowKit

theorem Sl.form {w : World} {v : Value} {l : List UInt8} {n : Nat} (h : Sl w v l) (hn : l.length = n) : ∃ ao ca, v = .slice ao n ca := by
  obtain ⟨ao, ca, h, _⟩ := h
  exact ⟨ao, ca, by rw [h, hn]⟩

set_option maxHeartbeats 400000 in
theorem frameSum_any (w : World) (seed : Crc.R) (lsn : Nat) (vf vd : Value) (d : List UInt8) (hf : Sl w vf (ffs lsn d.length)) (hd : Sl w vd d) (hn : d.length ≤ 4096) :
    Calls Try.prog 29 #[.int .u32 (seed.toNat : Int), vf, vd] w fun e w' => e = .returned (.int .u32 ((fsum seed lsn d).toNat : Int)) ∧ Below w.heap.size w w' := by
  have HN := hide hn
  have HF := hide hf
  have HD := hide hd
  obtain ⟨ao2, ca2, rfl⟩ := hf.form (ffs_len _ _)
  obtain ⟨m, hm⟩ : ∃ m, Hid (d.length = m) := ⟨_, rfl⟩
  obtain ⟨ao3, ca3, rfl⟩ := hd.form hm.out
  have HS := hide (Crc.lt32 seed)
  obtain ⟨S, hS⟩ : ∃ S, Hid (fsum seed lsn d = S) := ⟨_, rfl⟩
  rw [hS.out]
  have E : Hid (Crc.more 0#32 (fx 4 seed.toNat ++ (ffs lsn d.length ++ d)) = S) := hS
  clear hn hf hd
  go_enter Try.func29, Try.ntmps29
  go_wp2_with fail
  refine (fixed32_any w (seed.toNat : Int) (by omega) (by have := HS.out; omega)).mono ?_
  rintro e w1 ⟨v1, rfl, ho1, hb1⟩
  rw [Int.toNat_natCast] at ho1
  have s1 := hide (Sl.of_owns ho1)
  obtain ⟨ao1, ca1, rfl⟩ := s1.out.form (fx_len _ _)
  replace hb1 := hide hb1
  clear ho1
  go_wp2_with fail
  refine (concat_any (w1.alloc (.cells #[.slice ao1 4 ca1, .slice ao2 12 ca2, .slice ao3 m ca3] 22)) _ [.slice ao1 4 ca1, .slice ao2 12 ca2, .slice ao3 m ca3] [fx 4 seed.toNat, ffs lsn d.length, d] (row_lit w1 [_, _, _] 22 (by show 3 ≤ maxLen; decide)) (Below.sls (box_below w1 _) (.cons s1.out (.cons (Below.sl hb1.out HF.out) (.cons (Below.sl hb1.out HD.out) (.nil _))))) (by have := HN.out; simp [fx_len, ffs_len]; omega)).mono ?_
  rintro e w3 ⟨v3, rfl, ho3, hb3⟩
  have e1 : [fx 4 seed.toNat, ffs lsn d.length, d].flatten = fx 4 seed.toNat ++ (ffs lsn d.length ++ d) := by simp
  rw [e1] at ho3
  have s3 := hide (Sl.of_owns ho3)
  have hb03 := hide (keepF (keepF hb1.out (box_below w1 _)) hb3)
  clear ho3 hb3 e1
  go_wp2_with fail
  refine (Crc.sum_any _ _ _ s3.out).mono ?_
  rintro e w4 ⟨rfl, hb4⟩
  have hb04 := hide (keepF hb03.out hb4)
  rw [E.out]
  clear hb4
  go_wp2_with fail
  go_ret
  exact ⟨rfl, hb04.out⟩

/-- What Write answers: the bytes, the sum, the error's number. -/
def wrF (seed : Crc.R) (lsn : Int) (d : List UInt8) : List UInt8 × Crc.R × Int :=
  if inB lsn 9223372036854775806 = false then ([], 0#32, 1) else if 4096 < d.length then ([], 0#32, 3) else (frm seed lsn.toNat d, fsum seed lsn.toNat d, 0)
/-- What a function that writes frames owes. -/
def DoesWrite (f : Nat) : Prop := ∀ (w : World) (seed : Crc.R) (lsn : Int) (v : Value) (d : List UInt8), -9223372036854775808 ≤ lsn → lsn ≤ 9223372036854775807 → Sl w v d →
  Calls Try.prog f #[.int .u32 (seed.toNat : Int), .int .i64 lsn, v] w fun e w' => ∃ v', e = .returned (.tuple #[v', .int .u32 ((wrF seed lsn d).2.1.toNat : Int), .int .i64 (wrF seed lsn d).2.2]) ∧ w'.ownsRow w.heap.size 5 1 v' (wrF seed lsn d).1.length (bvals (wrF seed lsn d).1) ∧ Below w.heap.size w w'

set_option maxHeartbeats 400000 in
theorem write_any : DoesWrite 18 := by
  intro w seed lsn v d g0 g1 hv
  have HV := hide hv
  obtain ⟨m, hm⟩ : ∃ m, Hid (d.length = m) := ⟨_, rfl⟩
  obtain ⟨ao3, ca3, rfl⟩ := hv.form hm.out
  clear hv
  cases hb : inB lsn 9223372036854775806 with
  | false =>
    have E : Hid (wrF seed lsn d = ([], 0#32, 1)) := by show _ = _; simp [wrF, hb]
    rw [E.out]
    replace hb := hide hb
    go_enter Try.func18, Try.ntmps18
    go_wp2_with fail
    refine (within_any _ lsn 9223372036854775806).mono ?_
    rintro e _ ⟨rfl, rfl⟩
    rw [hb.out]
    go_wp2_with fail
    go_ret3
    exact ⟨_, rfl, World.ownsRow_nil _ _ _ _, Below.refl _ _⟩
  | true =>
    replace hb := hide hb
    by_cases hl : 4096 < m
    · have E : Hid (wrF seed lsn d = ([], 0#32, 3)) := by show _ = _; simp [wrF, hb.out, hm.out, hl]
      rw [E.out]
      go_enter Try.func18, Try.ntmps18
      go_wp2_with fail
      refine (within_any _ lsn 9223372036854775806).mono ?_
      rintro e _ ⟨rfl, rfl⟩
      rw [hb.out]
      go_wp2_with fail
      go_ret3
      exact ⟨_, rfl, World.ownsRow_nil _ _ _ _, Below.refl _ _⟩
    · have E : Hid (wrF seed lsn d = (frm seed lsn.toNat d, fsum seed lsn.toNat d, 0)) := by show _ = _; simp [wrF, hb.out, hm.out, hl]
      rw [E.out]
      have HL : Hid (1 ≤ lsn) := by have := hb.out; simp [inB] at this; exact this.1
      have hm4 : Hid (m ≤ 4096) := by show _ ≤ _; omega
      obtain ⟨S, hS⟩ : ∃ S, Hid (fsum seed lsn.toNat d = S) := ⟨_, rfl⟩
      have E2 : Hid (frm seed lsn.toNat d = [ffs lsn.toNat d.length, fmark S, d].flatten) := by show _ = _; rw [frm, hS.out]; simp
      rw [E2.out, hS.out]
      obtain ⟨F, hF⟩ : ∃ F, Hid ([ffs lsn.toNat d.length, fmark S, d].flatten = F) := ⟨_, rfl⟩
      rw [hF.out]
      go_enter Try.func18, Try.ntmps18
      go_wp2_with fail
      refine (within_any _ lsn 9223372036854775806).mono ?_
      rintro e w0 ⟨rfl, hw⟩
      obtain rfl := hw.symm
      rw [hb.out]
      go_wp2_with fail
      refine (frameFields_any _ lsn m HL.out g1 hm4.out).mono ?_
      rintro e w1 ⟨v1, rfl, ho1, hb1⟩
      rw [← hm.out] at ho1
      have s1 := hide (Sl.of_owns ho1)
      obtain ⟨ao1, ca1, rfl⟩ := s1.out.form (ffs_len _ _)
      replace hb1 := hide hb1
      clear ho1
      go_wp2_with fail
      refine (frameSum_any _ seed lsn.toNat _ _ d s1.out (Below.sl hb1.out HV.out) (by rw [hm.out]; exact hm4.out)).mono ?_
      rintro e w2 ⟨rfl, hb2⟩
      replace hb2 := hide hb2
      rw [hS.out]
      go_wp2_with fail
      refine (mark_any _ S).mono ?_
      rintro e w3 ⟨v3, rfl, ho3, hb3⟩
      have s3 := hide (Sl.of_owns ho3)
      obtain ⟨ao2, ca2, rfl⟩ := s3.out.form (fmark_len _)
      have hb03 := hide (keepF hb1.out (keepF hb2.out hb3))
      have hb13 := hide (keepF hb2.out hb3)
      clear ho3 hb3
      go_wp2_with fail
      refine (concat_any (w3.alloc (.cells #[.slice ao1 12 ca1, .slice ao2 4 ca2, .slice ao3 m ca3] 22)) _ [.slice ao1 12 ca1, .slice ao2 4 ca2, .slice ao3 m ca3] [ffs lsn.toNat d.length, fmark S, d] (row_lit w3 [_, _, _] 22 (by show 3 ≤ maxLen; decide)) (Below.sls (box_below w3 _) (.cons (Below.sl hb13.out s1.out) (.cons s3.out (.cons (Below.sl hb03.out HV.out) (.nil _))))) (by have := hm4.out; simp [fmark_len, ffs_len, hm.out]; omega)).mono ?_
      rintro e w4 ⟨v4, rfl, ho4, hb4⟩
      have hb04 := hide (keepF (keepF hb03.out (box_below w3 _)) hb4)
      have ho5 := hide (owns_lower ho4 (b' := w.heap.size) (keepF hb03.out (box_below w3 _)).size)
      clear hb4 ho4
      rw [hF.out] at ho5
      go_wp2_with fail
      go_ret3
      exact ⟨_, rfl, ho5.out, hb04.out⟩

def szF (n : Int) : Int := if 0 ≤ n ∧ n ≤ 4096 then 16 + n else 0
theorem size_any (w : World) (n : Int) : Calls Try.prog 56 #[.int .i64 n] w fun e w' => e = .returned (.int .i64 (szF n)) ∧ w' = w := by
  by_cases h0 : n < 0
  · have E : Hid (szF n = 0) := by show _ = _; rw [szF, if_neg (by omega)]
    rw [E.out]
    go_enter Try.func56, Try.ntmps56
    go_wp2_with fail
    go_ret
    exact ⟨rfl, rfl⟩
  · by_cases h1 : n > 4096
    · have E : Hid (szF n = 0) := by show _ = _; rw [szF, if_neg (by omega)]
      rw [E.out]
      go_enter Try.func56, Try.ntmps56
      go_wp2_with fail
      go_ret
      exact ⟨rfl, rfl⟩
    · have E : Hid (szF n = 16 + n) := by show _ = _; rw [szF, if_pos (by omega)]
      rw [E.out]
      go_enter Try.func56, Try.ntmps56
      go_wp2_with fail
      go_ret
      exact ⟨rfl, rfl⟩
#print axioms write_any
end Go.Proofs.Ytnglinhnpimlmaa
