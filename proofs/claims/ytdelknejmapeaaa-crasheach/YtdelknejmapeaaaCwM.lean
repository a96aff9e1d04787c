/-
  begun of layer 12: the walk.
-/
import Derived.Test.YtdelknejmapeaaaCwL
namespace Go.Proofs.Ytdelknejmapeaaa.Dk
open Go.RowKit Go.Maps Go.Sort Go.Shelf Go.Proofs.Ytdelknejmapeaaa.Nm
set_option linter.unusedVariables false

theorem rn_a (p : Nat) : runs [] [.cr sA p] = [([97], p)] := rfl
theorem get_am (p r : Nat) : get (runs [([97], p)] [.cr (sM 98) r]) (sM 98).data.toList = some r := rfl
theorem fate5 {S : DS} {p r d j : Nat} (h : EachD S 98 [] [97, 98, 99] [120] p r) (hf : FateOf S 5 d j) : d = 1 ∧ (S.tails (d : Int)).length = 2 := by
  have hd := hf.dl
  rw [h.P] at hd
  have h1 := hf.eq
  have h2 := hf.lt
  have hd2 : d = 0 ∨ d = 1 := by simp at hd; omega
  rcases hd2 with rfl | rfl
  · rw [show ((0 : Nat) : Int) = 0 from rfl, h.tails0] at h2
    simp [DS.cnts, prodT] at h1 h2
    omega
  · exact ⟨rfl, by rw [show ((1 : Nat) : Int) = 1 from rfl, h.tails1]; rfl⟩
set_option maxRecDepth 100000 in
set_option maxHeartbeats 4000000 in
theorem begun12_any (w : World) : Calls Try.prog 25 #[] w fun e w' => e = .returned (.bool true) ∧ Below w.heap.size w w' := by
  have s1 : sA.size ≤ 140737488355328 := by decide
  have s2 : (sM 98).size ≤ 140737488355328 := by decide
  have s3 : sA.size ≤ maxLen := by decide
  have s4 : (sM 98).size ≤ maxLen := by decide
  have hN := ci_new (w := w) w 100 (by decide) (Below.refl _ _)
  have h1 : Hid (∀ q b, CI w q b 100 [] [] noF 0 → Calls Try.prog 11 #[.pointer (some ⟨b, 0, none⟩), .string ⟨#[97]⟩] q fun e w' => e = .returned (.int .i64 0) ∧ ∃ p, CI w w' b 100 [] [.cr sA p] noF 1) := fun q b h => by
    refine (ci_create h (by decide) sA s1 may_a rfl (by decide)).mono ?_
    rintro e w' ⟨he, p, _, hc⟩
    rw [upd_noF] at hc
    exact ⟨he, p, hc⟩
  have h2 : Hid (∀ q b p, CI w q b 100 [] [.cr sA p] noF 1 → Calls Try.prog 16 #[.pointer (some ⟨b, 0, none⟩)] q fun e w' => e = .returned (.int .i64 0) ∧ CI w w' b 100 [([97], p)] [] noF 2) := fun q b p h => ci_syncDir h (by decide)
  have h3 : Hid (∀ q b p q' v, CI w q b 100 [([97], p)] [] noF 2 → Below q.heap.size q q' → Sl q' v [97, 98, 99] → (∀ b off n c, v = .slice (some ⟨b, off, none⟩) n c → q.heap.size ≤ b) → Calls Try.prog 6 #[.pointer (some ⟨b, 0, none⟩), .string ⟨#[97]⟩, v] q' fun e w' => e = .returned (.tuple #[.int .i64 3, .int .i64 0]) ∧ CI w w' b 100 [([97], p)] [] (upd noF p ⟨[97, 98, 99], [], 0⟩) 3) := fun q b p q' v h hb hv ho => ci_append_new h hb (by decide) sA s3 may_a (get_one _ _) v _ hv ho (by simp [sumL, noF, runs])
  have h4 : Hid (∀ q b p, CI w q b 100 [([97], p)] [] (upd noF p ⟨[97, 98, 99], [], 0⟩) 3 → Calls Try.prog 11 #[.pointer (some ⟨b, 0, none⟩), .string ⟨#[98]⟩] q fun e w' => e = .returned (.int .i64 0) ∧ ∃ r, p ≠ r ∧ CI w w' b 100 [([97], p)] [.cr (sM 98) r] (upd (upd noF p ⟨[97, 98, 99], [], 0⟩) r ⟨[], [], 0⟩) 4) := fun q b p h => by
    refine (ci_create h (by decide) (sM 98) s2 (may_m (.inl rfl)) rfl (by simp [runs])).mono ?_
    rintro e w' ⟨he, r, hr, hc⟩
    exact ⟨he, r, fun e => hr (by simp [e]), hc⟩
  have h5 : Hid (∀ q b p r q' v, p ≠ r → CI w q b 100 [([97], p)] [.cr (sM 98) r] (upd (upd noF p ⟨[97, 98, 99], [], 0⟩) r ⟨[], [], 0⟩) 4 → Below q.heap.size q q' → Sl q' v [120] → (∀ b off n c, v = .slice (some ⟨b, off, none⟩) n c → q.heap.size ≤ b) → Calls Try.prog 6 #[.pointer (some ⟨b, 0, none⟩), .string ⟨#[98]⟩, v] q' fun e w' => e = .returned (.tuple #[.int .i64 1, .int .i64 0]) ∧ ∃ S, EI w w' b S 98 [] [97, 98, 99] [120]) := fun q b p r q' v hn h hb hv ho => by
    refine (ci_append_new h hb (by decide) (sM 98) s4 (may_m (.inl rfl)) (get_am p r) v _ hv ho ?_).mono ?_
    · show sumL _ [([97], p), ([98], r)] + 1 ≤ 100
      simp [sumL, upd, hn]
    · rintro e w' ⟨he, hc⟩
      refine ⟨he, hc.each (.inl rfl) ?_ ?_ hn (by decide)⟩
      · rw [upd_ne _ _ hn, upd_ne _ _ hn, upd_same]; rfl
      · rw [upd_same, upd_same]; rfl
  have hw40 : ([97, 98, 99] : List UInt8).length + 1 ≤ 4 := by decide
  have e40 : ((([97, 98, 99] : List UInt8).length + 1) * (([120] : List UInt8).length + 2)) ≤ M40 := by decide
  have h6 : Hid (∀ q b S, EI w q b S 98 [] [97, 98, 99] [120] → Calls Try.prog 27 #[.pointer (some ⟨b, 0, none⟩)] q fun e w' => e = .returned (.tuple #[.int .i64 12, .int .i64 0]) ∧ Below q.heap.size q w') := fun q b S h => ei_ways h e40
  have h7 : Hid (∀ q b S, EI w q b S 98 [] [97, 98, 99] [120] → Calls Try.prog 50 #[.pointer (some ⟨b, 0, none⟩), .int .i64 5] q fun e w' => ∃ (j : Nat) (ao : Option Addr) (ca : Nat), e = .returned (.tuple #[.agg #[.int .i64 1, .slice ao 2 ca], .int .i64 0]) ∧ 2 ≤ ca ∧ ca ≤ 9223372036854775807 ∧ Hid (FateOf S 5 1 j) ∧ Hid (Kp (fun k => q.heap.size ≤ k ∧ k < w'.heap.size) w' (.slice ao 2 ca) (keps (digs (S.tails 1) j))) ∧ Hid (Below q.heap.size q w')) := fun q b S h => by
    refine (ei_at h e40 5 (by decide)).mono ?_
    rintro e w' ⟨d, j, ao, n, ca, rfl, hf, hn, k1, k2, hk, hb⟩
    obtain ⟨O, p, r, hd, he, _⟩ := h
    obtain ⟨rfl, h2⟩ := fate5 he hf
    rw [h2] at hn
    subst hn
    exact ⟨j, ao, ca, rfl, k1, k2, hf, hk, hb⟩
  have h8 : Hid (∀ q b S j v Z, EI w q b S 98 [] [97, 98, 99] [120] → FateOf S 5 1 j → Kp Z q v (keps (digs (S.tails 1) j)) → Calls Try.prog 51 #[.pointer (some ⟨b, 0, none⟩), .agg #[.int .i64 1, v]] q fun e w' => e = .returned (.tuple #[.int .i64 5, .int .i64 0]) ∧ Below q.heap.size q w') := fun q b S j v Z h hf hk => ei_number h e40 hf v Z hk
  have h9 : Hid (∀ q b S, EI w q b S 98 [] [97, 98, 99] [120] → Calls Try.prog 28 #[.pointer (some ⟨b, 0, none⟩), .int .i64 5] q fun e w' => ∃ b', e = .returned (.tuple #[.pointer (some ⟨b', 0, none⟩), .int .i64 0]) ∧ Hid (Below q.heap.size q w')) := fun q b S h => by
    refine (ei_after h e40 5 (by decide)).mono ?_
    rintro e w' ⟨b', rfl, _, hb⟩
    exact ⟨b', rfl, hb⟩
  have h10 : Hid (∀ q, Calls Try.prog 27 #[.pointer none] q fun e w' => e = .returned (.tuple #[.int .i64 0, .int .i64 1]) ∧ w' = q) := fun q => ways_nil q
  have kc := fun (w : World) (C : Array Value) (n c : Nat) => Lib.run_convert_bytes_const (P := Try.prog) w 22 5 C n c Try.underlying22 Try.underlying5
  clear s1 s2 s3 s4 hw40 e40
  go_enter Try.func25, Try.ntmps25
  go_upto_region 4 with (first
    | (go_at_call 26; refine hN.mono ?_; rintro e w1 ⟨b, rfl, D1⟩; replace D1 := hide D1)
    | (go_at_call 11; refine (h1.out _ _ D1.out).mono ?_; rintro e w2 ⟨rfl, p, D2⟩; replace D2 := hide D2)
    | (go_at_call 16; refine (h2.out _ _ _ D2.out).mono ?_; rintro e w3 ⟨rfl, D3⟩; replace D3 := hide D3))
  have B4 := hide (box_below w3 (.cells #[.int .u8 97, .int .u8 98, .int .u8 99] 5 (3, 4)))
  have S4 : Hid (Sl (w3.alloc (.cells #[.int .u8 97, .int .u8 98, .int .u8 99] 5 (3, 4))) (.slice (some ⟨w3.heap.size, 0, none⟩) 3 3) [97, 98, 99]) := sl_lit_mark w3 [97, 98, 99] 5 (3, 4) (by decide) _ rfl
  have F4 : Hid (∀ b off n c, Value.slice (some ⟨w3.heap.size, 0, none⟩) 3 3 = .slice (some ⟨b, off, none⟩) n c → w3.heap.size ≤ b) := fun b' off n c e => by
    simp only [Value.slice.injEq, Option.some.injEq, Addr.mk.injEq] at e
    omega
  go_upto_region 6 with (first
    | (go_at_call 6; refine (h3.out _ _ _ _ _ D3.out B4.out S4.out F4.out).mono ?_; rintro e w5 ⟨rfl, D5⟩; replace D5 := hide D5)
    | (go_at_call 11; refine (h4.out _ _ _ D5.out).mono ?_; rintro e w6 ⟨rfl, r, hn, D6⟩; replace D6 := hide D6; replace hn := hide hn))
  clear B4 S4 F4
  have B7 := hide (box_below w6 (.cells #[.int .u8 120] 5 (1, 2)))
  have S7 : Hid (Sl (w6.alloc (.cells #[.int .u8 120] 5 (1, 2))) (.slice (some ⟨w6.heap.size, 0, none⟩) 1 1) [120]) := sl_lit_mark w6 [120] 5 (1, 2) (by decide) _ rfl
  have F7 : Hid (∀ b off n c, Value.slice (some ⟨w6.heap.size, 0, none⟩) 1 1 = .slice (some ⟨b, off, none⟩) n c → w6.heap.size ≤ b) := fun b' off n c e => by
    simp only [Value.slice.injEq, Option.some.injEq, Addr.mk.injEq] at e
    omega
  go_upto_region 9 with (first
    | (go_at_call 6; refine (h5.out _ _ _ _ _ _ hn.out D6.out B7.out S7.out F7.out).mono ?_; rintro e w8 ⟨rfl, S, D8⟩; replace D8 := hide D8)
    | (go_at_call 27; refine (h6.out _ _ _ D8.out).mono ?_; rintro e w9 ⟨rfl, b9⟩; have D9 := hide (D8.out.below b9); clear b9)
    | (go_at_call 50; refine (h7.out _ _ _ D9.out).mono ?_; rintro e w10 ⟨j, ao, ca, rfl, c1, c2, hf, hk, b10⟩; have D10 := hide (D9.out.below b10.out)))
  have z2 := heap_alloc_new w10 (.cells #[.int .i64 1, .slice ao 2 ca] 26)
  have B11 := hide (box_below w10 (.cells #[.int .i64 1, .slice ao 2 ca] 26))
  obtain ⟨X, hX⟩ : ∃ X, Hid (w10.alloc (.cells #[.int .i64 1, .slice ao 2 ca] 26) = X) := ⟨_, rfl⟩
  rw [hX.out] at z2 B11 ⊢
  have D11 := hide (D10.out.below B11.out)
  have k11 := hide (hk.out.below B11.out)
  have KC : Hid (∀ q, Below X.heap.size X q → q.cell? ⟨w10.heap.size, 0, none⟩ = some (.int .i64 1) ∧ q.cell? ⟨w10.heap.size, 1, none⟩ = some (.slice ao 2 ca)) := fun q hq => by
    have z3 := (hq.block _ (heap_lt z2)).trans z2
    exact ⟨by simp [World.cell?, z3], by simp [World.cell?, z3]⟩
  obtain ⟨x0, x1⟩ := KC.out X (Below.refl _ _)
  clear z2 hk B7 S7 F7
  go_upto_region 12 with (first
    | (go_at_call 51; refine (h8.out _ _ _ _ _ _ D11.out hf.out k11.out).mono ?_; rintro e w12 ⟨rfl, b12⟩; have D12 := hide (D11.out.below b12); replace b12 := hide b12)
    | (go_at_call 28; refine (h9.out _ _ _ D12.out).mono ?_; rintro e w13 ⟨b', rfl, b13⟩; have D13 := hide (D12.out.below b13.out))
    | (go_at_call 27; refine (h10.out _).mono ?_; rintro e w14 ⟨rfl, e14⟩; subst w14))
  obtain ⟨y0, y1⟩ := KC.out w13 (b12.out.trans (b13.out.mono b12.out.size))
  go_wp2_with fail
  go_ret
  exact ⟨rfl, D13.out.bel⟩
#print axioms begun12_any
end Go.Proofs.Ytdelknejmapeaaa.Dk
