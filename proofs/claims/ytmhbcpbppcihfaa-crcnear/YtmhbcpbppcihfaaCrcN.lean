/-
  The walk of CrcNear: true.
-/
import Derived.Test.YtmhbcpbppcihfaaCrcG
import Derived.Test.YtmhbcpbppcihfaaCrcN0
import Derived.Deep.Cut
namespace Go.Proofs.Ytmhbcpbppcihfaa.Crc
open Go.RowKit

theorem b_shr_and (t : R) (k : Nat) : bits BinOp.and IntKind.u32 ((t.toNat : Int) / 2 ^ k) 1 = if t.getLsbD k then 1 else 0 := by
  have e : (t.toNat : Int) / 2 ^ k = ((t.toNat / 2 ^ k : Nat) : Int) := by simp
  have hl : t.toNat / 2 ^ k < 4294967296 := Nat.lt_of_le_of_lt (Nat.div_le_self _ _) (lt32 t)
  rw [e, show (1 : Int) = ((1 : Nat) : Int) from rfl, u32_and_nat _ _ hl (by decide), Nat.and_one_is_mod]
  have h : t.getLsbD k = decide (t.toNat / 2 ^ k % 2 = 1) := by rw [BitVec.getLsbD, Nat.testBit_eq_decide_div_mod_eq]
  rw [h]
  by_cases h1 : t.toNat / 2 ^ k % 2 = 1
  · rw [h1]; rfl
  · rw [if_neg (by simpa using h1)]; omega

theorem xor_pow8 (x : UInt8) (r : Nat) (hr : r < 8) : bits BinOp.xor IntKind.u8 (x.toNat : Int) (2 ^ r % 256) = ((x ^^^ UInt8.ofNat (2 ^ r)).toNat : Int) := by
  have hl : 2 ^ r < 256 := Nat.pow_lt_pow_right (a := 2) (n := 8) (by decide) hr
  have e : ((2 : Int) ^ r % 256) = ((2 ^ r : Nat) : Int) := by
    have : ((2 : Int) ^ r) = ((2 ^ r : Nat) : Int) := by simp
    rw [this]; exact Int.emod_eq_of_lt (Int.natCast_nonneg _) (Int.ofNat_lt.2 hl)
  rw [e, u8_xor_nat _ _ x.toNat_lt hl, UInt8.toNat_xor, UInt8.toNat_ofNat_of_lt' hl]
theorem flip_at (L : List UInt8) (p q r : Nat) (x : UInt8) (hq : q = p / 8) (hr : r = p % 8) (hl : q < L.length) (hx : x = L[q]) : flip L p = L.set q (x ^^^ UInt8.ofNat (2 ^ r)) := by
  subst hq hr hx
  unfold flip
  congr 2
  simp [List.getD, hl]
theorem bvals_set (L : List UInt8) (q : Nat) (y : UInt8) : (bvals L).set q (bval y) = bvals (L.set q y) := by
  simp [bvals, List.map_set]

set_option maxRecDepth 100000 in
set_option maxHeartbeats 2000000 in
theorem near_walk (vb : Value) (b : List UInt8) (at0 : Int) (t : R) (w : World) (hb : Sl w vb b) (hat : -9223372036854775808 ≤ at0 ∧ at0 ≤ 9223372036854775807) :
    Calls Try.prog 6 #[vb, .int .i64 at0, .int .u32 (t.toNat : Int)] w fun e w' => e = .returned (.bool true) ∧ Below w.heap.size w w' := by
  obtain ⟨n1, n2⟩ := hat
  have HS : Hid (Sl w vb b) := hb
  obtain ⟨bo, cb, rfl, b2, b3, b4, b5⟩ := hb
  have hcb : cb ≤ 9223372036854775807 := by unfold maxLen at b4; omega
  have htl := lt32 t
  clear b2 b4 b5
  go_enter Try.func6, Try.ntmps6
  go_wp2_with fail
  refine (begun2_any _).mono ?_
  rintro e w0 ⟨rfl, hb0⟩
  have HB0 : Hid (Below w.heap.size w w0) := hb0
  clear hb0
  by_cases k1 : b.length < 5
  · go_wp2_with fail
    go_ret
    exact ⟨rfl, HB0.out⟩
  by_cases k2 : 200 < b.length
  · go_wp2_with fail
    go_ret
    exact ⟨rfl, HB0.out⟩
  by_cases k3 : t.toNat = 0
  · go_wp2_with fail
    go_ret
    exact ⟨rfl, HB0.out⟩
  have HT : Hid (t ≠ 0#32) := by rintro rfl; exact k3 rfl
  obtain ⟨f, hf, hfe⟩ : ∃ f : Nat, f + 32 ≤ 8 * b.length ∧ ((at0 ≤ 0 ∧ f = 0) ∨ (0 < at0 ∧ at0 % (8 * (b.length : Int) - 31) = (f : Int))) := by
    by_cases h : 0 < at0
    · have h1 := Int.emod_nonneg at0 (show 8 * (b.length : Int) - 31 ≠ 0 by omega)
      have h2 := Int.emod_lt_of_pos at0 (show 0 < 8 * (b.length : Int) - 31 by omega)
      exact ⟨(at0 % (8 * (b.length : Int) - 31)).toNat, by omega, .inr ⟨h, by omega⟩⟩
    · exact ⟨0, by omega, .inl ⟨by omega, rfl⟩⟩
  have k3' : ((t.toNat : Int) == 0) = false := by simp only [beq_eq_false_iff_ne]; omega
  go_wp2_with (at_builtin; refine wpList_append_bytes rfl (.const (.slice none 0 0)) (.tmp 24) 26 rfl w0.heap.size 5 Try.infoU8 Try.underlying26 _ _ [] b rfl (World.ownsRow_nil _ _ _ _) rfl (Below.sl HB0.out HS.out) (by simp; omega) (Nat.le_refl _) ?_)
  intro v1 w1 o1 p1
  have O1 : Hid (w1.ownsRow w0.heap.size 5 1 v1 b.length (bvals b)) := o1
  have HB1 : Hid (Below w.heap.size w w1) := HB0.out.trans (p1.mono HB0.out.size)
  have hz : w.heap.size ≤ w0.heap.size := HB0.out.size
  have hsub : Hid (b.length ≠ 0) := by show _ ≠ _; omega
  clear p1 o1
  obtain ⟨g, cap, hv1, hg, hcap, hcapm⟩ : ∃ g cap, v1 = .slice (some ⟨g, 0, none⟩) b.length cap ∧ w0.heap.size ≤ g ∧ b.length ≤ cap ∧ cap ≤ 9223372036854775807 := by
    obtain ⟨_, p2⟩ := O1.out
    rcases p2 with ⟨_, hn⟩ | ⟨g, cap, cur, rfl, hg, hh, hn, hm, hs, ht⟩
    · exact absurd hn hsub.out
    · exact ⟨g, cap, rfl, hg, hn, by unfold maxLen at hm; omega⟩
  have hv1' := hv1
  subst hv1'
  clear hv1
  go_upto_if 27 with fail
  go_cut [8] from 10 (fun s8 wx => s8 = .int .i64 (f : Int) ∧ wx = w1)
  case first =>
    rcases hfe with ⟨hat, rfl⟩ | ⟨hat, hfe⟩
    · go_wp2_with fail
      go_meet
      case rel => exact ⟨rfl, rfl⟩
    · have hne : 8 * (b.length : Int) - 31 ≠ 0 := by omega
      go_wp2_with fail
      go_meet
      case rel => exact ⟨by rw [hfe], rfl⟩
  case rest =>
    obtain ⟨rfl, rfl⟩ := hcut
    clear hfe n1 n2 k3'
    go_wp2_with fail
    go_loopw [9] (fun vi wr => ∃ (k : Nat) (L : List UInt8), k ≤ 32 ∧ vi = .int .i64 (k : Int) ∧ Hid (L.length = b.length) ∧ Hid (wr.ownsRow w0.heap.size 5 1 (.slice (some ⟨g, 0, none⟩) b.length cap) b.length (bvals L)) ∧ Hid (feed ones L = feed ones b ^^^ turned t (8 * b.length) f k) ∧ Hid (Below w.heap.size w wr)) (fun i _ => 32 - (intOf i).toNat)
    case atStart => exact ⟨0, b, by omega, rfl, rfl, O1.out, by show _ = _; rw [turned_zero, BitVec.xor_zero], HB1.out⟩
    case round =>
      obtain ⟨k, L, hk, rfl, hL, hO, hF, hB⟩ := hrel
      by_cases h32 : k < 32
      · cases hbit : t.getLsbD k with
        | true =>
          have hand := b_shr_and t k
          rw [hbit, if_pos rfl] at hand
          obtain ⟨q, hq⟩ : ∃ q : Nat, q = (f + k) / 8 := ⟨_, rfl⟩
          obtain ⟨r, hr⟩ : ∃ r : Nat, r = (f + k) % 8 := ⟨_, rfl⟩
          have hqi : ((f : Int) + (k : Int)) / 8 = (q : Int) := by omega
          have hri : ((f : Int) + (k : Int)) % 8 = (r : Int) := by omega
          have hql : q < b.length := by omega
          have hr8 : r < 8 := by omega
          have hc := hO.out.cellAt q (by omega)
          rw [bvals_get (by rw [hL.out]; exact hql)] at hc
          have hfz := hO.out.frozenAt q
          have hLq : q < L.length := by rw [hL.out]; exact hql
          obtain ⟨x, hx⟩ : ∃ x, x = L[q] := ⟨_, rfl⟩
          rw [← hx] at hc
          have HQ : Hid (q = (f + k) / 8) := hq
          have HR : Hid (r = (f + k) % 8) := hr
          have HX : Hid (x = L[q]) := hx
          have HP : Hid (bits BinOp.xor IntKind.u8 (x.toNat : Int) (2 ^ r % 256) = ((x ^^^ UInt8.ofNat (2 ^ r)).toNat : Int)) := xor_pow8 x r hr8
          have HF2 : Hid (feed ones (flip L (f + k)) = feed ones b ^^^ turned t (8 * b.length) f (k + 1)) := by
            show _ = _
            rw [feed_flip L ones (f + k) (by rw [hL.out]; omega), hF.out, hL.out, turned_one t _ f k h32 hf hbit, BitVec.xor_assoc]
          have HFL : Hid (flip L (f + k) = L.set q (x ^^^ UInt8.ofNat (2 ^ r))) := flip_at L (f + k) q r x hq hr hLq hx
          clear hq hr hx hbit
          go_wp2_with fail
          go_region
          go_wp2_with fail
          rw [HP.out]
          go_roundw
          case rel =>
            refine ⟨k + 1, flip L (f + k), by omega, by go_num, by show _ = _; rw [flip_length]; exact hL.out, ?_, HF2.out, ?_⟩
            · have := (hO.out.stored q (bval (x ^^^ UInt8.ofNat (2 ^ r)))).1
              rw [bvals_set, ← HFL.out] at this
              exact this
            · exact (hB.out.setCell (p := ⟨g, q, none⟩) (Nat.le_trans hz hg) _).drew
          case measure => simp [intOf]; omega
        | false =>
          have hand := b_shr_and t k
          rw [hbit] at hand
          simp only [Bool.false_eq_true, if_false] at hand
          have HF2 : Hid (feed ones L = feed ones b ^^^ turned t (8 * b.length) f (k + 1)) := by show _ = _; rw [turned_none _ _ _ _ hbit]; exact hF.out
          clear hbit
          go_wp2_with fail
          go_roundw
          case rel => exact ⟨k + 1, L, by omega, by go_num, hL.out, hO.out, HF2.out, hB.out⟩
          case measure => simp [intOf]; omega
      · obtain rfl : k = 32 := by omega
        have HNE : Hid (more 0#32 b ≠ more 0#32 L) := more_ne b L _ hF.out (turned_ne t _ _ HT.out)
        have hne : (((more 0#32 b).toNat : Int) != ((more 0#32 L).toNat : Int)) = true := by
          simp only [bne_iff_ne, ne_eq]
          intro e
          exact HNE.out (BitVec.eq_of_toNat_eq (by omega))
        go_wp2_with fail
        refine (sum_any _ _ b (Below.sl hB.out HS.out)).mono ?_
        rintro e w2 ⟨rfl, q2⟩
        have HB2 : Hid (Below w.heap.size w w2) := hB.out.trans (q2.mono hB.out.size)
        have HL2 : Hid (Sl w2 (.slice (some ⟨g, 0, none⟩) b.length cap) L) := Below.sl q2 (Sl.of_owns2 hO.out hL.out)
        clear q2
        go_wp2_with fail
        refine (sum_any _ _ L HL2.out).mono ?_
        rintro e w3 ⟨rfl, q3⟩
        have HB3 : Hid (Below w.heap.size w w3) := HB2.out.trans (q3.mono HB2.out.size)
        clear q3
        go_wp2_with fail
        go_ret
        exact ⟨rfl, HB3.out⟩
#print axioms near_walk
end Go.Proofs.Ytmhbcpbppcihfaa.Crc
