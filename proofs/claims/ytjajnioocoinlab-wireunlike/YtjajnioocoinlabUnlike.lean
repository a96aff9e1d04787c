/-
  WireUnlike returns true, and writes nothing that was there.
-/
import Derived.Test.YtjajnioocoinlabFront
namespace Go.Proofs.Ytjajnioocoinlab
open Go.RowKit

theorem wrap64_bounds (a : Int) : -9223372036854775808 ≤ wrap64 a ∧ wrap64 a ≤ 9223372036854775807 := by
  unfold wrap64; omega

set_option maxHeartbeats 1000000 in
theorem unlike_walk (a b : Int) (x y : Value) (s t : List UInt8) (w : World) (ha : 0 ≤ a ∧ a < 18446744073709551616) (hb : 0 ≤ b ∧ b < 18446744073709551616) (hx : Sl w x s) (hy : Sl w y t) (hs : s.length ≤ 140737488351232) (ht : t.length ≤ 140737488351232) :
    Calls Try.prog 3 #[.int .u64 a, .int .u64 b, x, y] w fun e w' => e = .returned (.bool true) ∧ Below w.heap.size w w' := by
  obtain ⟨ha0, ha1⟩ := ha
  obtain ⟨hb0, hb1⟩ := hb
  have HA : Hid (0 ≤ a ∧ a < 18446744073709551616) := ⟨ha0, ha1⟩
  have HB : Hid (0 ≤ b ∧ b < 18446744073709551616) := ⟨hb0, hb1⟩
  clear ha0 ha1 hb0 hb1
  go_enter Try.func3, Try.ntmps3
  go_wp2_with fail
  refine (begun_any w).mono ?_
  rintro e w1 ⟨rfl, b1⟩
  go_wp2_with fail
  refine (varint_any w1 a HA.out.1 HA.out.2).mono ?_
  rintro e w2 ⟨v2, rfl, o2, b2⟩
  have sx2 := Below.sl b2 (Below.sl b1 hx)
  have sy2 := Below.sl b2 (Below.sl b1 hy)
  have b12 := b1.trans (b2.mono b1.size)
  have sa2 := Sl.of_owns o2
  clear b1 b2 hx hy o2
  go_wp2_with fail
  refine (varint_any w2 b HB.out.1 HB.out.2).mono ?_
  rintro e w3 ⟨v3, rfl, o3, b3⟩
  have sx3 := Below.sl b3 sx2
  have sy3 := Below.sl b3 sy2
  have sa3 := Below.sl b3 sa2
  have sb3 := Sl.of_owns o3
  have b13 := b12.trans (b3.mono b12.size)
  clear b12 b3 sx2 sy2 sa2 o3
  go_wp2_with fail
  refine (string_any w3 x s sx3 (by omega)).mono ?_
  rintro e w4 ⟨v4, rfl, o4, b4⟩
  have sx4 := Below.sl b4 sx3
  have sy4 := Below.sl b4 sy3
  have sa4 := Below.sl b4 sa3
  have sb4 := Below.sl b4 sb3
  have su4 := Sl.of_owns o4
  have b14 := b13.trans (b4.mono b13.size)
  clear b13 b4 sx3 sy3 sa3 sb3 o4
  go_wp2_with fail
  refine (string_any w4 y t sy4 (by omega)).mono ?_
  rintro e w5 ⟨v5, rfl, o5, b5⟩
  have sx5 := Below.sl b5 sx4
  have sy5 := Below.sl b5 sy4
  have sa5 := Below.sl b5 sa4
  have sb5 := Below.sl b5 sb4
  have su5 := Below.sl b5 su4
  have sv5 := Sl.of_owns o5
  have b15 := b14.trans (b5.mono b14.size)
  clear b14 b5 sx4 sy4 sa4 sb4 su4 o5
  go_wp2_with fail
  refine (front_any w5 _ _ _ _ sa5 sb5).mono ?_
  rintro e w6 ⟨rfl, q6⟩
  rw [front_enc a.toNat b.toNat (by have := HA.out; omega) (by have := HB.out; omega)]
  have HAB : Hid (decide (a.toNat = b.toNat) = (a == b)) := by
    show _ = _
    have h1 := HA.out
    have h2 := HB.out
    by_cases h : a = b
    · subst h; simp
    · rw [decide_eq_false (by omega)]; simp [h]
  rw [HAB.out]
  have sx6 := q6.sl sx5
  have sy6 := q6.sl sy5
  have sa6 := q6.sl sa5
  have su6 := q6.sl su5
  have sv6 := q6.sl sv5
  have b16 := b15.trans (q6.below _)
  clear b15 sx5 sy5 sa5 sb5 su5 sv5 q6
  go_wp2_with fail
  refine (front_any w6 _ _ _ _ su6 sv6).mono ?_
  rintro e w7 ⟨rfl, q7⟩
  rw [front_str s t (by omega) (by omega)]
  have sx7 := q7.sl sx6
  have sy7 := q7.sl sy6
  have sa7 := q7.sl sa6
  have b17 := b16.trans (q7.below _)
  clear b16 sx6 sy6 sa6 su6 sv6 q7
  go_wp2_with fail
  refine (eq_sl w7 _ _ _ _ sx7 sy7).mono ?_
  rintro e w8 ⟨rfl, q8⟩
  have b18 := b17.trans (q8.below _)
  obtain ⟨ao, ca, hv2, _⟩ := q8.sl sa7
  have hl1 := enc_pos a.toNat
  have hl2 := enc_len a.toNat
  generalize hd : decide (s = t) = st
  rw [hv2]
  clear b17 sx7 sy7 sa7 q8 hd hv2
  generalize (enc a.toNat).length = n at *
  go_wp2_with fail
  have hw := wrap64_bounds a
  generalize hwz : wrap64 a = z at *
  have HWZ : Hid (wrap64 a = z) := hwz
  clear hwz
  have hz := zig_bounds z hw.1 hw.2
  refine (zig_any w8 z hw.1 hw.2).mono ?_
  rintro e w9 ⟨rfl, rfl⟩
  generalize hzz : zig z = y1 at *
  have HZ : Hid (zig z = y1) := hzz
  clear hzz
  obtain ⟨hz0, hz1⟩ := hz
  have HW : Hid (0 ≤ y1 ∧ y1 < 18446744073709551616) := ⟨hz0, hz1⟩
  clear hz0 hz1
  go_wp2_with fail
  refine (zag_any _ y1 HW.out.1 HW.out.2).mono ?_
  rintro e w9 ⟨rfl, rfl⟩
  rw [← HZ.out, zag_zig]
  go_wp2
  go_ret
  exact ⟨ret_bool (by rw [HWZ.out]; simp), b18⟩
#print axioms unlike_walk
end Go.Proofs.Ytjajnioocoinlab
