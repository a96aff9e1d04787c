/-
  The walk of CrcJoins: true.
-/
import Derived.Test.YtmhbcpbppcihfaaCrcG
namespace Go.Proofs.Ytmhbcpbppcihfaa.Crc
open Go.RowKit

theorem join_more (s : R) (l m : List UInt8) (n : Int) (hn : n = (m.length : Int)) : joinOf (more s l) (more 0#32 m) n = more s (l ++ m) := by
  subst hn
  rw [joinOf, if_neg (by omega), more_append, more_join (more s l) m]
  simp

set_option maxRecDepth 100000 in
set_option maxHeartbeats 2000000 in
theorem joins_walk (va vb vc : Value) (a b c : List UInt8) (w : World) (ha : Sl w va a) (hb : Sl w vb b) (hc : Sl w vc c) :
    Calls Try.prog 4 #[va, vb, vc] w fun e w' => e = .returned (.bool true) ∧ Below w.heap.size w w' := by
  have ha0 := ha
  have hb0 := hb
  have hc0 := hc
  obtain ⟨ao, ca, rfl, a2, a3, a4, a5⟩ := ha
  obtain ⟨bo, cb, rfl, b2, b3, b4, b5⟩ := hb
  obtain ⟨co, cc, rfl, c2, c3, c4, c5⟩ := hc
  have hca : ca ≤ 9223372036854775807 := by unfold maxLen at a4; omega
  have hcb : cb ≤ 9223372036854775807 := by unfold maxLen at b4; omega
  have hcc : cc ≤ 9223372036854775807 := by unfold maxLen at c4; omega
  have HA : Hid (Sl w (.slice ao a.length ca) a) := ha0
  have HB : Hid (Sl w (.slice bo b.length cb) b) := hb0
  have HC : Hid (Sl w (.slice co c.length cc) c) := hc0
  clear a2 a4 a5 b2 b4 b5 c2 c4 c5 ha0 hb0 hc0
  go_enter Try.func4, Try.ntmps4
  go_wp2_with fail
  refine (begun2_any _).mono ?_
  rintro e w0 ⟨rfl, hb0⟩
  have HB0 : Hid (Below w.heap.size w w0) := hb0
  clear hb0
  by_cases k1 : 10000 < a.length
  · go_wp2_with fail
    go_ret
    exact ⟨rfl, HB0.out⟩
  by_cases k2 : 10000 < b.length
  · go_wp2_with fail
    go_ret
    exact ⟨rfl, HB0.out⟩
  by_cases k3 : 10000 < c.length
  · go_wp2_with fail
    go_ret
    exact ⟨rfl, HB0.out⟩
  go_wp2_with (at_builtin; refine wpList_append_bytes rfl (.const (.slice none 0 0)) (.tmp 26) 26 rfl w0.heap.size 5 Try.infoU8 Try.underlying26 _ _ [] a rfl (World.ownsRow_nil _ _ _ _) rfl (Below.sl HB0.out HA.out) (by simp; omega) (Nat.le_refl _) ?_)
  intro v1 w1 o1 p1
  have HB1 : Hid (Below w.heap.size w w1) := HB0.out.trans (p1.mono HB0.out.size)
  have z1 := p1.size
  clear p1
  go_wp2_with (at_builtin; refine wpList_append_bytes rfl (.tmp 27) (.tmp 28) 26 rfl w0.heap.size 5 Try.infoU8 Try.underlying26 _ _ a b rfl o1 rfl (Below.sl HB1.out HB.out) (by omega) z1 ?_)
  intro v2 w2 o2 p2
  have HB2 : Hid (Below w.heap.size w w2) := HB1.out.trans (p2.mono HB0.out.size)
  have z2 := Nat.le_trans z1 p2.size
  have O2 : Hid (w2.ownsRow w0.heap.size 5 1 v2 (a ++ b).length (bvals (a ++ b))) := by unfold Hid; simpa using o2
  have Z2 : Hid (w0.heap.size ≤ w2.heap.size) := z2
  clear p2 o1 z1 HB1 o2 z2
  go_wp2_with (at_builtin; refine wpList_append_bytes rfl (.tmp 29) (.tmp 30) 26 rfl w0.heap.size 5 Try.infoU8 Try.underlying26 _ _ (a ++ b) c rfl O2.out rfl (Below.sl HB2.out HC.out) (by simp; omega) Z2.out ?_)
  intro v3 w3 o3 p3
  have HB3 : Hid (Below w.heap.size w w3) := HB2.out.trans (p3.mono HB0.out.size)
  have o3' : w3.ownsRow w0.heap.size 5 1 v3 (a ++ b ++ c).length (bvals (a ++ b ++ c)) := by simpa using o3
  have hv3 := Sl.of_owns o3'
  have J1 : Hid (joinOf (more 0#32 a) (more 0#32 b) (b.length : Int) = more 0#32 (a ++ b)) := join_more _ _ _ _ rfl
  have J2 : Hid (joinOf (more 0#32 (a ++ b)) (more 0#32 c) (c.length : Int) = more 0#32 (a ++ b ++ c)) := join_more _ _ _ _ rfl
  have J3 : Hid (joinOf (more 0#32 b) (more 0#32 c) (c.length : Int) = more 0#32 (b ++ c)) := join_more _ _ _ _ rfl
  have J4 : Hid (joinOf (more 0#32 a) (more 0#32 (b ++ c)) ((b.length : Int) + (c.length : Int)) = more 0#32 (a ++ b ++ c)) := by show _ = _; rw [List.append_assoc]; exact join_more _ _ _ _ (by simp)
  have J5 : Hid (more (more 0#32 a) b = more 0#32 (a ++ b)) := (more_append _ _ _).symm
  have J6 : Hid (more (more 0#32 (a ++ b)) c = more 0#32 (a ++ b ++ c)) := (more_append _ _ _).symm
  obtain ⟨L, hL⟩ : ∃ L, L = a ++ b ++ c := ⟨_, rfl⟩
  obtain ⟨S, hS⟩ : ∃ S, S = more 0#32 (a ++ b ++ c) := ⟨_, rfl⟩
  have HS : Hid (more 0#32 L = S) := by show _ = _; rw [hS, hL]
  rw [← hS] at J2 J4 J6
  have HV : Hid (Sl w3 v3 L) := by rw [hL]; exact hv3
  clear p3 o3 o3' O2 Z2 HB2 hS hL hv3
  obtain ⟨vo, cv, hvv, -, -, -, -⟩ := id HV.out
  have hvv' := hvv
  subst hvv
  clear hvv'
  go_wp2_with fail
  refine (sum_any _ _ _ HV.out).mono ?_
  rintro e w4 ⟨rfl, q4⟩
  rw [HS.out]
  have HB4 : Hid (Below w.heap.size w w4) := HB3.out.trans (q4.mono HB3.out.size)
  have HV4 : Hid (Sl w4 (.slice vo L.length cv) L) := Below.sl q4 HV.out
  clear q4 HV HB3
  go_wp2_with fail
  refine (sum_any _ _ a (Below.sl HB4.out HA.out)).mono ?_
  rintro e w5 ⟨rfl, q⟩
  have HB5 : Hid (Below w.heap.size w w5) := HB4.out.trans (q.mono HB4.out.size)
  have HV5 : Hid (Sl w5 (.slice vo L.length cv) L) := Below.sl q HV4.out
  clear q HV4 HB4
  go_wp2_with fail
  refine (sum_any _ _ b (Below.sl HB5.out HB.out)).mono ?_
  rintro e w6 ⟨rfl, q⟩
  have HB6 : Hid (Below w.heap.size w w6) := HB5.out.trans (q.mono HB5.out.size)
  have HV6 : Hid (Sl w6 (.slice vo L.length cv) L) := Below.sl q HV5.out
  clear q HV5 HB5
  go_wp2_with fail
  refine (join_any _ (more 0#32 a) (more 0#32 b) ((b.length : Int)) (by omega) (by omega)).mono ?_
  rintro e _ ⟨rfl, rfl⟩
  rw [J1.out]
  go_wp2_with fail
  refine (sum_any _ _ c (Below.sl HB6.out HC.out)).mono ?_
  rintro e w7 ⟨rfl, q⟩
  have HB7 : Hid (Below w.heap.size w w7) := HB6.out.trans (q.mono HB6.out.size)
  have HV7 : Hid (Sl w7 (.slice vo L.length cv) L) := Below.sl q HV6.out
  clear q HV6 HB6
  go_wp2_with fail
  refine (join_any _ (more 0#32 (a ++ b)) (more 0#32 c) ((c.length : Int)) (by omega) (by omega)).mono ?_
  rintro e _ ⟨rfl, rfl⟩
  rw [J2.out]
  go_wp2_with fail
  refine (sum_any _ _ a (Below.sl HB7.out HA.out)).mono ?_
  rintro e w8 ⟨rfl, q⟩
  have HB8 : Hid (Below w.heap.size w w8) := HB7.out.trans (q.mono HB7.out.size)
  have HV8 : Hid (Sl w8 (.slice vo L.length cv) L) := Below.sl q HV7.out
  clear q HV7 HB7
  go_wp2_with fail
  refine (sum_any _ _ b (Below.sl HB8.out HB.out)).mono ?_
  rintro e w9 ⟨rfl, q⟩
  have HB9 : Hid (Below w.heap.size w w9) := HB8.out.trans (q.mono HB8.out.size)
  have HV9 : Hid (Sl w9 (.slice vo L.length cv) L) := Below.sl q HV8.out
  clear q HV8 HB8
  go_wp2_with fail
  refine (sum_any _ _ c (Below.sl HB9.out HC.out)).mono ?_
  rintro e w10 ⟨rfl, q⟩
  have HB10 : Hid (Below w.heap.size w w10) := HB9.out.trans (q.mono HB9.out.size)
  have HV10 : Hid (Sl w10 (.slice vo L.length cv) L) := Below.sl q HV9.out
  clear q HV9 HB9
  go_wp2_with fail
  refine (join_any _ (more 0#32 b) (more 0#32 c) ((c.length : Int)) (by omega) (by omega)).mono ?_
  rintro e _ ⟨rfl, rfl⟩
  rw [J3.out]
  go_wp2_with fail
  refine (join_any _ (more 0#32 a) (more 0#32 (b ++ c)) ((b.length : Int) + (c.length : Int)) (by omega) (by omega)).mono ?_
  rintro e _ ⟨rfl, rfl⟩
  rw [J4.out]
  go_wp2_with fail
  refine (sum_any _ _ a (Below.sl HB10.out HA.out)).mono ?_
  rintro e w11 ⟨rfl, q⟩
  have HB11 : Hid (Below w.heap.size w w11) := HB10.out.trans (q.mono HB10.out.size)
  have HV11 : Hid (Sl w11 (.slice vo L.length cv) L) := Below.sl q HV10.out
  clear q HV10 HB10
  go_wp2_with fail
  refine (more_any _ (more 0#32 a) _ b (Below.sl HB11.out HB.out)).mono ?_
  rintro e w12 ⟨rfl, q⟩
  rw [J5.out]
  have HB12 : Hid (Below w.heap.size w w12) := HB11.out.trans (q.mono HB11.out.size)
  have HV12 : Hid (Sl w12 (.slice vo L.length cv) L) := Below.sl q HV11.out
  clear q HV11 HB11
  go_wp2_with fail
  refine (more_any _ (more 0#32 (a ++ b)) _ c (Below.sl HB12.out HC.out)).mono ?_
  rintro e w13 ⟨rfl, q⟩
  rw [J6.out]
  have HB13 : Hid (Below w.heap.size w w13) := HB12.out.trans (q.mono HB12.out.size)
  have HV13 : Hid (Sl w13 (.slice vo L.length cv) L) := Below.sl q HV12.out
  clear q HV12 HB12
  go_wp2_with fail
  refine (more_any _ (0#32) _ L HV13.out).mono ?_
  rintro e w14 ⟨rfl, q⟩
  have HB14 : Hid (Below w.heap.size w w14) := HB13.out.trans (q.mono HB13.out.size)
  have HV14 : Hid (Sl w14 (.slice vo L.length cv) L) := Below.sl q HV13.out
  clear q HV13 HB13
  rw [HS.out]
  go_wp2
  go_ret
  exact ⟨rfl, HB14.out⟩
#print axioms joins_walk
end Go.Proofs.Ytmhbcpbppcihfaa.Crc
