/-
  WireBack returns true, and writes nothing that was there, where the bytes together are not too many.
-/
import Derived.Test.YtjajnioocoinlaaFront
import Derived.Deep.RegionHeld3
import Derived.Deep.RegionHeld
namespace Go.Proofs.Ytjajnioocoinlaa
open Go.RowKit

theorem Sl.of_owns2 {w : World} {base e n : Nat} {v : Value} {l : List UInt8} (h : w.ownsRow base e 1 v n (bvals l)) (hn : l.length = n) : Sl w v l := by
  subst hn; exact Sl.of_owns h
theorem Sl.take {w : World} {v : Value} {l : List UInt8} (h : Sl w v l) (n : Nat) (hn : n ≤ l.length) : ∃ ao ca, v = .slice ao l.length ca ∧ l.length ≤ ca ∧ ca ≤ 9223372036854775807 ∧ Sl w (.slice ao n ca) (l.take n) := by
  obtain ⟨ao, ca, rfl, g2, g3, g4, g5⟩ := h
  exact ⟨ao, ca, rfl, g3, by unfold maxLen at g4; omega, sl_head n hn g2 g3 g4 g5⟩

theorem rs_str (s t : List UInt8) (hs : s.length < 18446744073709551616) : rs (enc s.length ++ (s ++ t)) (s.length : Int) = (s, (enc s.length).length + s.length, 0) := by
  have h := rv_enc s.length (s ++ t) hs
  unfold rs
  rw [h]
  simp only []
  rw [if_neg (by omega), if_neg (by simp), if_neg (by omega), if_neg (by simp only [List.length_append]; omega)]
  simp

/-- What is kept through a region: nothing old has turned, and these bytes lie there. -/
structure Kp (w0 : World) (v : Value) (l : List UInt8) (u : World) : Prop where
  below : Below w0.heap.size w0 u
  sl : Sl u v l
theorem Kp.drew {w0 u : World} {v : Value} {l : List UInt8} (h : Kp w0 v l u) : Kp w0 v l u.drew := ⟨h.below.drew, Qt.sl ⟨1, rfl⟩ h.sl⟩
theorem Kp.more {w0 u u' : World} {v : Value} {l : List UInt8} (h : Kp w0 v l u) (b : Below u.heap.size u u') : Kp w0 v l u' := ⟨h.below.trans (b.mono h.below.size), Below.sl b h.sl⟩
theorem Kp.qt {w0 u u' : World} {v : Value} {l : List UInt8} (h : Kp w0 v l u) (q : Qt u u') : Kp w0 v l u' := h.more (q.below _)

set_option maxHeartbeats 4000000 in
theorem back_walk (n : Int) (x y : Value) (s t : List UInt8) (w : World) (hn : 0 ≤ n ∧ n < 18446744073709551616) (hx : Sl w x s) (hy : Sl w y t) (hs : s.length ≤ 1048576) (ht : t.length ≤ 1048576) :
    Calls Try.prog 5 #[.int .u64 n, x, y] w fun e w' => e = .returned (.bool true) ∧ Below w.heap.size w w' := by
  obtain ⟨n, rfl⟩ := Int.eq_ofNat_of_zero_le hn.1
  have HN : Hid (n < 18446744073709551616) := by show _ < _; omega
  have HS : Hid (rs (enc s.length ++ (s ++ t)) (s.length : Int) = (s, (enc s.length).length + s.length, 0)) := rs_str s t (by omega)
  have HR : Hid (rvVal (rv (enc n ++ t)) = .tuple #[.int .u64 (n : Int), .int .i64 ((enc n).length : Int), .int .i64 0]) := by
    show _ = _
    rw [rv_enc n t HN.out]; rfl
  clear hn
  have hel := enc_len n
  go_enter Try.func5, Try.ntmps5
  go_wp2_with fail
  refine (begun_any w).mono ?_
  rintro e w1 ⟨rfl, b1⟩
  go_wp2_with fail
  refine (varint_any w1 n (by omega) (by have := HN.out; omega)).mono ?_
  rintro e w2 ⟨v2, rfl, o2, b2⟩
  rw [Int.toNat_natCast] at o2
  have sy2 := Below.sl (b1.trans (b2.mono b1.size)) hy
  have b12 := b1.trans (b2.mono b1.size)
  have hz1 := b1.size
  have hz2 := b2.size
  clear b1 b2
  go_wp2_with (at_builtin; refine wpList_append_bytes rfl (.tmp 17) (.tmp 18) 28 rfl w1.heap.size 5 Try.infoU8 Try.underlying28 _ _ (enc n) t rfl o2 rfl sy2 (by omega) (by omega) ?_)
  intro v3 w3 o3 b3
  have b13 : Below w.heap.size w w3 := b12.trans (b3.mono (by omega))
  have s3 := Sl.of_owns2 (l := enc n ++ t) o3 (by simp)
  obtain ⟨ao, ca, hv3, hca, hcm, st3⟩ := s3.take (enc n).length (by simp)
  rw [List.length_append] at hv3
  subst hv3
  rw [List.take_left] at st3
  simp only [List.length_append] at hca
  clear b12 b3 o2 o3 sy2 hz1 hz2
  go_wp2_with fail
  refine (readVarint_any _ _ (enc n ++ t) s3).mono ?_
  rintro e w4 ⟨rfl, hw⟩
  rw [HR.out]
  subst hw
  clear s3
  go_wp2_with fail
  have hK : Kp w (.slice ao (enc n).length ca) (enc n) w4 := ⟨b13, st3⟩
  clear b13 st3
  have g0 : (0 : Int) ≤ ((enc n).length : Int) := by omega
  have g2 : (((enc n).length : Nat) : Int) ≤ (ca : Int) := by omega
  go_region_held3 (Kp w (.slice ao (enc n).length ca) (enc n)) (first | exact Kp.drew hK | exact Kp.more (by assumption) (by assumption) | exact Kp.qt (by assumption) (by assumption)) (first | (go_at_call 11; refine (varint_any _ n (by omega) (by have := HN.out; omega)).mono ?_; rintro e w5 ⟨v5, rfl, o5, b5⟩) | (go_at_call 10; refine (eq_sl _ _ _ (enc n) (enc n) (Sl.of_owns2 o5 (by simp)) (Kp.sl (by assumption))).mono ?_; rintro e w6 ⟨rfl, q6⟩))
  have b6 : Below w.heap.size w w6 := Kp.below (v := .slice ao (enc n).length ca) (l := enc n) (by assumption)
  clear g0 g2 hca hcm
  go_wp2_with fail
  refine (string_any w6 x s (Below.sl b6 hx) (by omega)).mono ?_
  rintro e w7 ⟨v7, rfl, o7, b7⟩
  have b17 := b6.trans (b7.mono b6.size)
  have hz6 := b6.size
  have hz7 := b7.size
  have sy7 := Below.sl b17 hy
  have hel2 := enc_len s.length
  clear b7
  go_wp2_with (at_builtin; refine wpList_append_bytes rfl (.tmp 43) (.tmp 44) 28 rfl w6.heap.size 5 Try.infoU8 Try.underlying28 _ _ (enc s.length ++ s) t rfl (by rw [List.length_append] at *; exact o7) rfl sy7 (by simp; omega) (by omega) ?_)
  intro v8 w8 o8 b8
  have b18 : Below w.heap.size w w8 := b17.trans (b8.mono (by omega))
  have s8 := Sl.of_owns2 (l := enc s.length ++ (s ++ t)) o8 (by simp only [List.length_append])
  have hlx := (Below.sl b18 hx).len
  obtain ⟨xo, xc, hvx, _⟩ := id hx
  obtain ⟨yo, yc, hvy, _⟩ := id hy
  obtain ⟨zo, zc, hvz, _⟩ := id s8
  simp only [List.length_append] at hvz
  subst hvx hvy hvz
  clear b17 b8 o7 o8 sy7 hz6 hz7 b6
  go_wp2_with fail
  refine (readString_any w8 _ (enc s.length ++ (s ++ t)) (s.length : Int) (by simpa [Nat.add_assoc] using s8) (by simp; omega) (by omega) (by omega)).mono ?_
  rintro e w9 ⟨v9, rfl, o9, b9⟩
  rw [HS.out] at o9 ⊢
  have b19 := b18.trans (b9.mono b18.size)
  have s9 := Sl.of_owns2 (l := s) o9 rfl
  clear b18 b9 o9 s8
  go_wp2_with fail
  refine (eq_sl w9 _ _ s s s9 (Below.sl b19 hx)).mono ?_
  rintro e w10 ⟨rfl, q10⟩
  rw [show decide (s = s) = true by simp]
  have b20 := b19.trans (q10.below _)
  clear b19 q10 s9
  go_wp2_with fail
  refine (readVarint_any w10 _ t (Below.sl b20 hy)).mono ?_
  rintro e w11 ⟨rfl, hw⟩
  subst hw
  obtain ⟨m, hm⟩ : ∃ m, m = (rv t).1 := ⟨_, rfl⟩
  obtain ⟨k, hk⟩ : ∃ k, k = (rv t).2.1 := ⟨_, rfl⟩
  obtain ⟨er, he⟩ : ∃ er, er = (rv t).2.2 := ⟨_, rfl⟩
  have hrv : rvVal (rv t) = .tuple #[.int .u64 (m : Int), .int .i64 (k : Int), .int .i64 er] := by rw [rvVal, hm, hk, he]
  rw [hrv]
  by_cases h0 : er = 0
  · subst h0
    have hbk := rv_back he.symm
    have hbd := rv_bounds t
    rw [← hm, ← hk] at hbk hbd
    have hkl : k ≤ t.length := hbd.2.1
    have hk10 : k ≤ 10 := hbd.2.2.1
    have hk1 : 0 < k := hbd.2.2.2.2.2 he.symm
    have hm64 : Hid (m < 18446744073709551616) := hbd.1
    have HT : Hid (enc m = t.take k) := hbk.1
    clear hrv hm hk he hbk hbd
    obtain ⟨ao, ca, hv3, hca, hcm, st3⟩ := (Below.sl b20 hy).take k hkl
    simp only [Value.slice.injEq, true_and] at hv3
    obtain ⟨rfl, rfl⟩ := hv3
    rw [← HT.out] at st3
    have hK : Kp w (.slice yo k yc) (enc m) w11 := ⟨b20, st3⟩
    clear b20 st3
    have g0 : (0 : Int) ≤ (k : Int) := by omega
    have g2 : (k : Int) ≤ (yc : Int) := by omega
    have g3 : (1 : Int) ≤ (k : Int) := by omega
    have g4 : (k : Int) ≤ 10 := by omega
    go_wp2_with fail
    first
    | (go_region_held (Kp w (.slice yo k yc) (enc m)) (first | exact Kp.drew hK | exact Kp.more (by assumption) (by assumption) | exact Kp.qt (by assumption) (by assumption)) (first | (go_at_call 11; refine (varint_any _ m (by omega) (by have := hm64.out; omega)).mono ?_; rintro e w12 ⟨v12, rfl, o12, b12⟩) | (go_at_call 10; refine (eq_sl _ _ _ (enc m) (enc m) (Sl.of_owns2 o12 (by simp)) (Kp.sl (by assumption))).mono ?_; rintro e w13 ⟨rfl, q13⟩)))
    | fail
    have b21 : Below w.heap.size w w13 := Kp.below (v := .slice yo k yc) (l := enc m) (by assumption)
    go_wp2
    go_ret
    exact ⟨by simp, b21⟩
  · have hz := rv_err (by rw [← he]; exact h0)
    rw [← hm, ← hk] at hz
    obtain ⟨rfl, rfl⟩ := hz
    have hers := rv_errs t
    rw [← he] at hers
    have her : er = 2 ∨ er = 4 := by omega
    clear hrv hm hk he h0 hers
    rcases her with rfl | rfl
    all_goals
      go_wp2_with fail
      go_quiet (fail)
      go_wp2
      go_ret
      exact ⟨rfl, b20.trans (Qt.below ⟨_, rfl⟩ _)⟩
#print axioms back_walk
end Go.Proofs.Ytjajnioocoinlaa
