/-
  What the document's own functions of the sixth layer answer: Number (of the first), sum, Write.
-/
import Derived.Test.YtebhkdaefjmbnaaFc
import Derived.Test.YtebhkdaefjmbnaaRefF
import Derived.Test.YtebhkdaefjmbnaaCrcR
namespace Go.Proofs.Ytebhkdaefjmbnaa
open Go.RowKit

theorem num_drop (l : List UInt8) (k : Nat) (h : k < l.length) : num (l.drop k) = l[k].toNat + 256 * num (l.drop (k + 1)) := by
  rw [List.drop_eq_getElem_cons h, num]

set_option maxRecDepth 100000 in
set_option maxHeartbeats 400000 in
theorem refNum_any (w : World) (v : Value) (l : List UInt8) (hv : Sl w v l) (h8 : l.length ≤ 8) :
    Calls Try.prog 27 #[v] w fun e w' => e = .returned (.int .u64 (num l : Int)) ∧ w' = w := by
  obtain ⟨ao, ca, rfl, h2, h3, h4, h5⟩ := hv
  clear h2 h3 h4
  have H8 := hide h8
  go_enter Try.func27, Try.ntmps27
  go_wp2
  go_loopw [3, 4] (fun vn vi wr => ∃ k acc : Nat, k ≤ l.length ∧ vn = .int .u64 (acc : Int) ∧ vi = .int .i64 ((k : Int) - 1) ∧ Hid (acc = num (l.drop k)) ∧ w = wr) (fun _ i _ => (intOf i + 1).toNat)
  case atStart => exact ⟨l.length, 0, Nat.le_refl _, rfl, rfl, by show _ = _; simp [num], rfl⟩
  case round =>
    obtain ⟨k, acc, hk, rfl, rfl, hacc, rfl⟩ := hrel
    by_cases h0 : k = 0
    · subst h0
      have HN : Hid (acc = num l) := by show _ = _; rw [hacc.out]; rfl
      clear hacc
      go_wp2
      go_ret
      exact ⟨by rw [HN.out]; rfl, rfl⟩
    · obtain ⟨j, rfl⟩ : ∃ j, k = j + 1 := ⟨k - 1, by omega⟩
      have hj : j < l.length := by omega
      obtain ⟨b1, o1, rfl, h1⟩ := h5.at (by omega)
      have c1 := h1 j hj
      have hc := l[j].toNat_lt
      have HN : Hid (acc * 256 + l[j].toNat = num (l.drop j)) := by show _ = _; rw [num_drop l j hj, hacc.out]; omega
      have hb : acc * 256 + l[j].toNat < 18446744073709551616 := by
        rw [HN.out]
        have := num_le (l.drop j) 8 (by simp; omega)
        simpa using this
      have e1 : ((j + 1 : Nat) : Int) - 1 = (j : Int) := by omega
      clear h1 h5 hacc h0 hk
      rw [e1]
      clear e1
      generalize l[j] = c at *
      go_wp2
      go_roundw
      case rel => exact ⟨j, acc * 256 + c.toNat, by omega, by go_num, by go_num, HN.out, by trivial⟩
      case measure => simp [intOf]

set_option maxHeartbeats 800000 in
theorem refFSum_any (w : World) (seed : Crc.R) (lsn : Nat) (vd : Value) (d : List UInt8) (hl : lsn < 18446744073709551616) (hd : Sl w vd d) (hn : d.length ≤ 4096) :
    Calls Try.prog 24 #[.int .u32 (seed.toNat : Int), .int .u64 (lsn : Int), vd] w fun e w' => e = .returned (.int .u32 ((fsum seed lsn d).toNat : Int)) ∧ Below w.heap.size w w' := by
  have HD := hide hd
  obtain ⟨m, hm⟩ : ∃ m, Hid (d.length = m) := ⟨_, rfl⟩
  obtain ⟨ao3, ca3, rfl⟩ := hd.form hm.out
  have hm4 : m ≤ 4096 := by rw [← hm.out]; exact hn
  have HM4 := hide hm4
  have HS := hide (Crc.lt32 seed)
  have HL := hide hl
  obtain ⟨S, hS⟩ : ∃ S, Hid (fsum seed lsn d = S) := ⟨_, rfl⟩
  rw [hS.out]
  have E : Hid (Crc.more 0#32 (fx 4 seed.toNat ++ fx 4 m ++ fx 8 lsn ++ d) = S) := by
    show _ = _
    rw [← hS.out, fsum, ffs, hm.out]
    simp only [List.append_assoc]
  clear hn hd hl
  go_enter Try.func24, Try.ntmps24
  go_wp2_with fail
  refine (refFixed_any w (seed.toNat : Int) 4 (by omega) (by have := HS.out; omega) (by omega)).mono ?_
  rintro e w1 ⟨v1, rfl, ho1, hb1⟩
  rw [Int.toNat_natCast] at ho1
  replace ho1 := hide ho1
  replace hb1 := hide hb1
  go_wp2_with fail
  refine (refFixed_any w1 (m : Int) 4 (by omega) (by have := HM4.out; omega) (by omega)).mono ?_
  rintro e w2 ⟨v2, rfl, ho2, hb2⟩
  rw [Int.toNat_natCast] at ho2
  have s2 := hide (Sl.of_owns ho2)
  have ho1' := hide (ownsRow_below ho1.out hb2)
  have hb02 := hide (keepF hb1.out hb2)
  have z2 := hide hb02.out.size
  clear ho2 hb2 hb1 ho1
  go_wp2_with (at_builtin; refine wpList_append_bytes rfl (.tmp 11) (.tmp 15) 22 rfl w.heap.size 5 Try.infoU8 Try.underlying22 _ _ (fx 4 seed.toNat) (fx 4 m) rfl ho1'.out rfl s2.out (by simp [fx_len]) z2.out ?_)
  intro v3 w3 ho3 hb3
  have ho3' : Hid (w3.ownsRow w.heap.size 5 1 v3 (fx 4 seed.toNat ++ fx 4 m).length (bvals (fx 4 seed.toNat ++ fx 4 m))) := by simpa [Hid] using ho3
  have hb03 := hide (hb02.out.trans hb3)
  clear ho3 hb3 hb02 ho1' s2 z2
  go_wp2_with fail
  refine (refFixed_any w3 (lsn : Int) 8 (by omega) (by have := HL.out; omega) (by omega)).mono ?_
  rintro e w4 ⟨v4, rfl, ho4, hb4⟩
  rw [Int.toNat_natCast] at ho4
  have s4 := hide (Sl.of_owns ho4)
  have ho3'' := hide (ownsRow_below ho3'.out hb4)
  have hb04 := hide (keepF hb03.out hb4)
  have z4 := hide hb04.out.size
  clear ho4 hb4 hb03 ho3'
  go_wp2_with (at_builtin; refine wpList_append_bytes rfl (.tmp 17) (.tmp 19) 22 rfl w.heap.size 5 Try.infoU8 Try.underlying22 _ _ (fx 4 seed.toNat ++ fx 4 m) (fx 8 lsn) rfl ho3''.out rfl s4.out (by simp [fx_len]) z4.out ?_)
  intro v5 w5 ho5 hb5
  have ho5' : Hid (w5.ownsRow w.heap.size 5 1 v5 (fx 4 seed.toNat ++ fx 4 m ++ fx 8 lsn).length (bvals (fx 4 seed.toNat ++ fx 4 m ++ fx 8 lsn))) := by
    show World.ownsRow _ _ _ _ _ _ _
    simpa using ho5
  have hb05 := hide (hb04.out.trans hb5)
  have s5 := hide (Below.sl hb05.out HD.out)
  have z5 := hide hb05.out.size
  clear ho5 hb5 hb04 ho3'' s4 z4
  have hlen : Hid ((fx 4 seed.toNat ++ fx 4 m ++ fx 8 lsn).length + d.length ≤ 140737488355328) := by show _ ≤ _; rw [hm.out]; have := HM4.out; simp [fx_len]; omega
  obtain ⟨L, hL⟩ : ∃ L, Hid (fx 4 seed.toNat ++ fx 4 m ++ fx 8 lsn = L) := ⟨_, rfl⟩
  rw [hL.out] at ho5' hlen E
  go_wp2_with (at_builtin; refine wpList_append_bytes rfl (.tmp 21) (.tmp 22) 22 rfl w.heap.size 5 Try.infoU8 Try.underlying22 _ _ L d rfl ho5'.out rfl s5.out hlen.out z5.out ?_)
  intro v6 w6 ho6 hb6
  have s6 : Hid (Sl w6 v6 (L ++ d)) := Sl.of_owns2 ho6 (by simp)
  have hb06 := hide (hb05.out.trans hb6)
  clear ho6 hb6
  go_wp2_with fail
  refine (Crc.refSum_any _ _ _ s6.out).mono ?_
  rintro e w7 ⟨rfl, hw⟩
  obtain rfl := hw.symm
  rw [E.out]
  go_wp2_with fail
  go_ret
  exact ⟨rfl, hb06.out⟩

theorem list3 (a b c d : List UInt8) : a ++ (b ++ (c ++ d)) = a ++ b ++ c ++ d := by simp

set_option maxHeartbeats 800000 in
theorem refWrite_any : DoesWrite 16 := by
  intro w seed lsn v d g0 g1 hv
  have HV := hide hv
  obtain ⟨m, hm⟩ : ∃ m, Hid (d.length = m) := ⟨_, rfl⟩
  obtain ⟨ao3, ca3, rfl⟩ := hv.form hm.out
  clear hv
  by_cases h1 : lsn < 1
  · have E : Hid (wrF seed lsn d = ([], 0#32, 1)) := by show _ = _; rw [wrF, if_pos (by simp [inB]; omega)]
    rw [E.out]
    go_enter Try.func16, Try.ntmps16
    go_wp2_with fail
    go_ret3
    exact ⟨_, rfl, World.ownsRow_nil _ _ _ _, Below.refl _ _⟩
  by_cases h2 : lsn > 9223372036854775806
  · have E : Hid (wrF seed lsn d = ([], 0#32, 1)) := by show _ = _; rw [wrF, if_pos (by simp [inB]; omega)]
    rw [E.out]
    go_enter Try.func16, Try.ntmps16
    go_wp2_with fail
    go_ret3
    exact ⟨_, rfl, World.ownsRow_nil _ _ _ _, Below.refl _ _⟩
  have hb : Hid (inB lsn 9223372036854775806 = true) := by show _ = _; simp [inB]; omega
  by_cases hl : 4096 < m
  · have E : Hid (wrF seed lsn d = ([], 0#32, 3)) := by show _ = _; simp [wrF, hb.out, hm.out, hl]
    rw [E.out]
    go_enter Try.func16, Try.ntmps16
    go_wp2_with fail
    go_ret3
    exact ⟨_, rfl, World.ownsRow_nil _ _ _ _, Below.refl _ _⟩
  have E : Hid (wrF seed lsn d = (frm seed lsn.toNat d, fsum seed lsn.toNat d, 0)) := by show _ = _; simp [wrF, hb.out, hm.out, hl]
  rw [E.out]
  have hm4 : Hid (m ≤ 4096) := by show _ ≤ _; omega
  obtain ⟨n, rfl⟩ := Int.eq_ofNat_of_zero_le (show 0 ≤ lsn by omega)
  rw [Int.toNat_natCast] at *
  have HN : Hid (n < 18446744073709551616) := by show _ < _; omega
  obtain ⟨S, hS⟩ : ∃ S, Hid (fsum seed n d = S) := ⟨_, rfl⟩
  have E2 : Hid (frm seed n d = fx 4 m ++ fx 8 n ++ fx 4 (Crc.maskOf S).toNat ++ d) := by show _ = _; rw [frm, hS.out, ffs, fmark, hm.out]; simp
  rw [E2.out, hS.out]
  obtain ⟨F, hF⟩ : ∃ F, Hid (fx 4 m ++ fx 8 n ++ fx 4 (Crc.maskOf S).toNat ++ d = F) := ⟨_, rfl⟩
  rw [hF.out]
  have HK := hide (Crc.lt32 (Crc.maskOf S))
  have k1 : ¬ ((n : Int) < 1) := by omega
  have k2 : ¬ ((9223372036854775806 : Int) < (n : Int)) := by omega
  have k3 : ¬ ((4096 : Int) < (m : Int)) := by omega
  have k4 : (n : Int) % 18446744073709551616 = n := by omega
  clear E hb E2 h1 h2 g0 g1 hl
  go_enter Try.func16, Try.ntmps16
  go_wp2_with fail
  refine (refFSum_any w seed n _ d HN.out HV.out (by rw [hm.out]; exact hm4.out)).mono ?_
  rintro e w0 ⟨rfl, hb0⟩
  rw [hS.out]
  replace hb0 := hide hb0
  have z0 := hide hb0.out.size
  go_wp2_with fail
  refine (refFixed_any w0 (m : Int) 4 (by omega) (by have := hm4.out; omega) (by omega)).mono ?_
  rintro e w1 ⟨v1, rfl, ho1, hb1⟩
  rw [Int.toNat_natCast] at ho1
  replace ho1 := hide (owns_lower ho1 z0.out)
  replace hb1 := hide (keepF hb0.out hb1)
  clear hb0 z0
  go_wp2_with fail
  refine (refFixed_any w1 (n : Int) 8 (by omega) (by have := HN.out; omega) (by omega)).mono ?_
  rintro e w2 ⟨v2, rfl, ho2, hb2⟩
  rw [Int.toNat_natCast] at ho2
  have s2 := hide (Sl.of_owns ho2)
  have ho1' := hide (ownsRow_below ho1.out hb2)
  have hb02 := hide (keepF hb1.out hb2)
  have z2 := hide hb02.out.size
  clear ho2 hb2 hb1 ho1
  go_wp2_with (at_builtin; refine wpList_append_bytes rfl (.tmp 29) (.tmp 32) 22 rfl w.heap.size 5 Try.infoU8 Try.underlying22 _ _ (fx 4 m) (fx 8 n) rfl ho1'.out rfl s2.out (by simp [fx_len]) z2.out ?_)
  intro v3 w3 ho3 hb3
  have ho3' : Hid (w3.ownsRow w.heap.size 5 1 v3 (fx 4 m ++ fx 8 n).length (bvals (fx 4 m ++ fx 8 n))) := by
    show World.ownsRow _ _ _ _ _ _ _
    simpa using ho3
  have hb03 := hide (hb02.out.trans hb3)
  clear ho3 hb3 hb02 ho1' s2 z2
  go_wp2_with fail
  refine (Crc.refMask_any _ S).mono ?_
  rintro e w9 ⟨rfl, hw⟩
  obtain rfl := hw.symm
  have hk32 := HK.out
  go_wp2_with fail
  refine (refFixed_any w3 ((Crc.maskOf S).toNat : Int) 4 (by omega) (by have := HK.out; omega) (by omega)).mono ?_
  rintro e w4 ⟨v4, rfl, ho4, hb4⟩
  rw [Int.toNat_natCast] at ho4
  have s4 := hide (Sl.of_owns ho4)
  have ho3'' := hide (ownsRow_below ho3'.out hb4)
  have hb04 := hide (keepF hb03.out hb4)
  have z4 := hide hb04.out.size
  clear ho4 hb4 hb03 ho3'
  go_wp2_with (at_builtin; refine wpList_append_bytes rfl (.tmp 34) (.tmp 38) 22 rfl w.heap.size 5 Try.infoU8 Try.underlying22 _ _ (fx 4 m ++ fx 8 n) (fx 4 (Crc.maskOf S).toNat) rfl ho3''.out rfl s4.out (by simp [fx_len]) z4.out ?_)
  intro v5 w5 ho5 hb5
  have ho5' : Hid (w5.ownsRow w.heap.size 5 1 v5 (fx 4 m ++ fx 8 n ++ fx 4 (Crc.maskOf S).toNat).length (bvals (fx 4 m ++ fx 8 n ++ fx 4 (Crc.maskOf S).toNat))) := by
    show World.ownsRow _ _ _ _ _ _ _
    simpa using ho5
  have hb05 := hide (hb04.out.trans hb5)
  have s5 := hide (Below.sl hb05.out HV.out)
  have z5 := hide hb05.out.size
  clear ho5 hb5 hb04 ho3'' s4 z4
  have hlen : Hid ((fx 4 m ++ fx 8 n ++ fx 4 (Crc.maskOf S).toNat).length + d.length ≤ 140737488355328) := by show _ ≤ _; rw [hm.out]; have := hm4.out; simp [fx_len]; omega
  obtain ⟨L, hL⟩ : ∃ L, Hid (fx 4 m ++ fx 8 n ++ fx 4 (Crc.maskOf S).toNat = L) := ⟨_, rfl⟩
  rw [hL.out] at ho5' hlen hF
  go_wp2_with (at_builtin; refine wpList_append_bytes rfl (.tmp 40) (.tmp 41) 22 rfl w.heap.size 5 Try.infoU8 Try.underlying22 _ _ L d rfl ho5'.out rfl s5.out hlen.out z5.out ?_)
  intro v6 w6 ho6 hb6
  have ho7 : Hid (w6.ownsRow w.heap.size 5 1 v6 F.length (bvals F)) := by
    show World.ownsRow _ _ _ _ _ _ _
    rw [← List.length_append, hF.out] at ho6
    exact ho6
  have hb06 := hide (hb05.out.trans hb6)
  clear ho6 hb6
  go_wp2_with fail
  go_ret3
  exact ⟨_, rfl, ho7.out, hb06.out⟩
#print axioms refWrite_any
end Go.Proofs.Ytebhkdaefjmbnaa
