/-
  What frame.frameSum, Write, Size answer.
-/
import Derived.Test.YtebhkdaefjmbnaaFb
namespace Go.Proofs.Ytebhkdaefjmbnaa
open Go.RowKit

theorem Sl.form {w : World} {v : Value} {l : List UInt8} {n : Nat} (h : Sl w v l) (hn : l.length = n) : ∃ ao ca, v = .slice ao n ca := by
  obtain ⟨ao, ca, h, _⟩ := h
  exact ⟨ao, ca, by rw [h, hn]⟩

set_option maxHeartbeats 400000 in
theorem frameSum_any (w : World) (seed : Crc.R) (lsn : Nat) (vf vd : Value) (d : List UInt8) (hf : Sl w vf (ffs lsn d.length)) (hd : Sl w vd d) (hn : d.length ≤ 4096) :
    Calls Try.prog 41 #[.int .u32 (seed.toNat : Int), vf, vd] w fun e w' => e = .returned (.int .u32 ((fsum seed lsn d).toNat : Int)) ∧ Below w.heap.size w w' := by
  have HN := hide hn
  have HF := hide hf
  have HD := hide hd
  obtain ⟨ao2, ca2, rfl⟩ := hf.form (ffs_len _ _)
  obtain ⟨m, hm⟩ : ∃ m, Hid (d.length = m) := ⟨_, rfl⟩
  obtain ⟨ao3, ca3, rfl⟩ := hd.form hm.out
  have HS := hide (Crc.lt32 seed)
  obtain ⟨S, hS⟩ : ∃ S, Hid (fsum seed lsn d = S) := ⟨_, rfl⟩
  rw [hS.out]
  have E : Hid (Crc.more 0#32 (fx 4 seed.toNat ++ (ffs lsn d.length ++ d)) = S) := hS
  clear hn hf hd
  go_enter Try.func41, Try.ntmps41
  go_wp2_with fail
  refine (fixed32_any w (seed.toNat : Int) (by omega) (by have := HS.out; omega)).mono ?_
  rintro e w1 ⟨v1, rfl, ho1, hb1⟩
  rw [Int.toNat_natCast] at ho1
  have s1 := hide (Sl.of_owns ho1)
  obtain ⟨ao1, ca1, rfl⟩ := s1.out.form (fx_len _ _)
  replace hb1 := hide hb1
  clear ho1
  go_wp2_with fail
  refine (concat_any (w1.alloc (.cells #[.slice ao1 4 ca1, .slice ao2 12 ca2, .slice ao3 m ca3] 22)) _ [.slice ao1 4 ca1, .slice ao2 12 ca2, .slice ao3 m ca3] [fx 4 seed.toNat, ffs lsn d.length, d] (row_lit w1 [_, _, _] 22 (by show 3 ≤ maxLen; decide)) (Below.sls (box_below w1 _) (.cons s1.out (.cons (Below.sl hb1.out HF.out) (.cons (Below.sl hb1.out HD.out) (.nil _))))) (by have := HN.out; simp [fx_len, ffs_len]; omega)).mono ?_
  rintro e w3 ⟨v3, rfl, ho3, hb3⟩
  have e1 : [fx 4 seed.toNat, ffs lsn d.length, d].flatten = fx 4 seed.toNat ++ (ffs lsn d.length ++ d) := by simp
  rw [e1] at ho3
  have s3 := hide (Sl.of_owns ho3)
  have hb03 := hide (keepF (keepF hb1.out (box_below w1 _)) hb3)
  clear ho3 hb3 e1
  go_wp2_with fail
  refine (Crc.sum_any _ _ _ s3.out).mono ?_
  rintro e w4 ⟨rfl, hb4⟩
  have hb04 := hide (keepF hb03.out hb4)
  rw [E.out]
  clear hb4
  go_wp2_with fail
  go_ret
  exact ⟨rfl, hb04.out⟩

/-- What Write answers: the bytes, the sum, the error's number. -/
def wrF (seed : Crc.R) (lsn : Int) (d : List UInt8) : List UInt8 × Crc.R × Int :=
  if inB lsn 9223372036854775806 = false then ([], 0#32, 1) else if 4096 < d.length then ([], 0#32, 3) else (frm seed lsn.toNat d, fsum seed lsn.toNat d, 0)
/-- What a function that writes frames owes. -/
def DoesWrite (f : Nat) : Prop := ∀ (w : World) (seed : Crc.R) (lsn : Int) (v : Value) (d : List UInt8), -9223372036854775808 ≤ lsn → lsn ≤ 9223372036854775807 → Sl w v d →
  Calls Try.prog f #[.int .u32 (seed.toNat : Int), .int .i64 lsn, v] w fun e w' => ∃ v', e = .returned (.tuple #[v', .int .u32 ((wrF seed lsn d).2.1.toNat : Int), .int .i64 (wrF seed lsn d).2.2]) ∧ w'.ownsRow w.heap.size 5 1 v' (wrF seed lsn d).1.length (bvals (wrF seed lsn d).1) ∧ Below w.heap.size w w'

def szF (n : Int) : Int := if 0 ≤ n ∧ n ≤ 4096 then 16 + n else 0
theorem size_any (w : World) (n : Int) : Calls Try.prog 44 #[.int .i64 n] w fun e w' => e = .returned (.int .i64 (szF n)) ∧ w' = w := by
  by_cases h0 : n < 0
  · have E : Hid (szF n = 0) := by show _ = _; rw [szF, if_neg (by omega)]
    rw [E.out]
    go_enter Try.func44, Try.ntmps44
    go_wp2_with fail
    go_ret
    exact ⟨rfl, rfl⟩
  · by_cases h1 : n > 4096
    · have E : Hid (szF n = 0) := by show _ = _; rw [szF, if_neg (by omega)]
      rw [E.out]
      go_enter Try.func44, Try.ntmps44
      go_wp2_with fail
      go_ret
      exact ⟨rfl, rfl⟩
    · have E : Hid (szF n = 16 + n) := by show _ = _; rw [szF, if_pos (by omega)]
      rw [E.out]
      go_enter Try.func44, Try.ntmps44
      go_wp2_with fail
      go_ret
      exact ⟨rfl, rfl⟩
end Go.Proofs.Ytebhkdaefjmbnaa
