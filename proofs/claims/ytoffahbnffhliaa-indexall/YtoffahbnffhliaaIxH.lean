/-
  Load's parts: field, readEntry, read of the program.
-/
import Derived.Test.YtoffahbnffhliaaIxG
import Derived.Test.YtoffahbnffhliaaRdS
namespace Go.Proofs.Ytoffahbnffhliaa.Ix
open Go.RowKit

theorem rdr_own {T : TypeId} {w w' : World} {rb b : Nat} {l : List UInt8} {k : Nat} {er : Int} {x : X} {v : Value} (h : RdrAt w rb l k er) (ha : At T w b x v) (hT2 : T ≠ 5) (hb : But (Own b v) w w') : RdrAt w' rb l k er := by
  obtain ⟨vr, h1, h2, h3, h4⟩ := h
  have n1 : ¬ Own b v rb := by
    rintro (e | e)
    · rw [e, ha.box] at h1
      simp at h1
    · exact ha.row.no h1 (by decide) e
  refine ⟨vr, hb.at h1 n1, ⟨h2.1, ?_⟩, h3, h4⟩
  rcases h2.2 with h | ⟨g, cap, cur, rfl, hg, hh, r⟩
  · exact .inl h
  · refine .inr ⟨g, cap, cur, rfl, hg, hb.at hh ?_, r⟩
    rintro (e | e)
    · rw [e, ha.box] at hh
      simp at hh
      exact hT2 hh.2
    · exact ha.row.no hh (by decide) e
theorem At.rd {T : TypeId} {w w' : World} {rb b : Nat} {l : List UInt8} {k : Nat} {er : Int} {x : X} {v : Value} (ha : At T w b x v) (h : RdrAt w rb l k er) (hg : w.grownBy w' (some rb)) : At T w' b x v := by
  obtain ⟨vr, h1, _⟩ := h
  refine ha.but (Y := fun j => j = rb) (But.of_grownBy hg fun k e => by cases e; rfl) ?_
  rintro j (e | e) e2
  · rw [← e2, e, ha.box] at h1
    simp at h1
  · rw [e2] at e; exact ha.row.no h1 (by decide) e
theorem vr_cases (l : List UInt8) (k : Nat) (least most : Nat) :
    ((vr l k most).2.2 = 2 ∧ fldE (l.drop k) least most = 2) ∨ ((vr l k most).2.2 ≠ 0 ∧ (vr l k most).2.2 ≠ 2 ∧ fldE (l.drop k) least most = 4) ∨ ((vr l k most).2.2 = 0 ∧ vr l k most = rv (l.drop k) ∧ (rv (l.drop k)).1 < least ∧ fldE (l.drop k) least most = 4) ∨
    ((vr l k most).2.2 = 0 ∧ vr l k most = rv (l.drop k) ∧ least ≤ (rv (l.drop k)).1 ∧ fldE (l.drop k) least most = 0) := by
  unfold vr fldE
  rcases rv_errs (l.drop k) with h | h | h
  · by_cases h1 : (most : Int) < ((rv (l.drop k)).1 : Int)
    · refine .inr (.inl ?_)
      rw [if_neg (by simp [h]), if_pos h1, if_neg (by omega), if_pos (by omega)]
      simp
    · by_cases h2 : (rv (l.drop k)).1 < least
      · refine .inr (.inr (.inl ?_))
        rw [if_neg (by simp [h]), if_neg h1, if_neg (by omega), if_pos (by omega)]
        exact ⟨h, rfl, h2, rfl⟩
      · refine .inr (.inr (.inr ?_))
        rw [if_neg (by simp [h]), if_neg h1, if_neg (by omega), if_neg (by omega)]
        exact ⟨h, rfl, by omega, rfl⟩
  · refine .inl ?_
    rw [if_pos (by omega), if_pos h]
    exact ⟨h, rfl⟩
  · refine .inr (.inl ?_)
    rw [if_pos (by omega), if_neg (by omega), if_pos (by omega)]
    show (rv (l.drop k)).2.2 ≠ 0 ∧ (rv (l.drop k)).2.2 ≠ 2 ∧ _
    exact ⟨by omega, by omega, rfl⟩
set_option maxHeartbeats 1000000 in
theorem field_any (w : World) (rb : Nat) (l : List UInt8) (k least most : Nat) (h : RdrAt w rb l k 0) (hm : most < 18446744073709551616) :
    Calls Try.prog 51 #[.pointer (some ⟨rb, 0, none⟩), .int .u64 (least : Int), .int .u64 (most : Int)] w fun e w' =>
      e = .returned (.tuple #[.int .u64 ((if fldE (l.drop k) least most = 0 then (rv (l.drop k)).1 else 0 : Nat) : Int), .int .i64 (fldE (l.drop k) least most)]) ∧ w.grownBy w' (some rb) ∧ (fldE (l.drop k) least most = 0 → RdrAt w' rb l (k + (rv (l.drop k)).2.1) 0) := by
  have H := hide h
  clear h
  have hvc := vr_cases l k least most
  rcases hvc with ⟨a1, a2⟩ | ⟨a1, a2, a3⟩ | ⟨a1, a2, a3, a4⟩ | ⟨a1, a2, a3, a4⟩
  · rw [a2]
    have hV := hide (Varint_bad w rb l k 0 2 (most : Int) H.out fun u hu => by have := varint_bad u rb l k (most : Int) hu (by omega) (by rw [a1]; simp); rw [a1] at this; exact this)
    clear a1 a2
    go_enter Try.func51, Try.ntmps51
    go_wp2_with fail
    refine hV.out.mono ?_
    rintro e w1 ⟨rfl, r1, g1⟩
    replace r1 := hide r1
    replace g1 := hide g1
    go_wp2_with fail
    refine (err_any _ rb l k 2 r1.out).mono ?_
    rintro e w2 ⟨rfl, q2⟩
    replace q2 := hide q2
    go_wp2_with fail
    go_ret2
    exact ⟨rfl, grown_trans g1.out (q2.out.grown _)⟩
  · rw [a3]
    obtain ⟨er, her⟩ : ∃ er, (vr l k (most : Int)).2.2 = er := ⟨_, rfl⟩
    rw [her] at a1 a2
    have hV := hide (Varint_bad w rb l k 0 er (most : Int) H.out fun u hu => by have := varint_bad u rb l k (most : Int) hu (by omega) (by rw [her]; exact a1); rw [her] at this; exact this)
    have hb0 : (er == 0) = false := by simpa using a1
    have hb2 : (er == 2) = false := by simpa using a2
    clear her a3
    go_enter Try.func51, Try.ntmps51
    go_wp2_with fail
    refine hV.out.mono ?_
    rintro e w1 ⟨rfl, r1, g1⟩
    replace r1 := hide r1
    replace g1 := hide g1
    go_wp2_with fail
    refine (err_any _ rb l k er r1.out).mono ?_
    rintro e w2 ⟨rfl, q2⟩
    replace q2 := hide q2
    generalize (if er = 0 then (0 : Int) else (k : Int)) = z
    go_wp2_with fail
    go_ret2
    exact ⟨rfl, grown_trans g1.out (q2.out.grown _)⟩
  · rw [a4]
    have hV := Varint_good w rb l k (most : Int) H.out (by omega) a1
    rw [a2] at hV
    replace hV := hide hV
    generalize (rv (l.drop k)).2.1 = sz at *
    generalize (rv (l.drop k)).1 = n at *
    clear a1 a2 a4
    go_enter Try.func51, Try.ntmps51
    go_wp2_with fail
    refine hV.out.mono ?_
    rintro e w1 ⟨rfl, r1, g1⟩
    replace r1 := hide r1
    replace g1 := hide g1
    go_wp2_with fail
    refine (err_any _ rb l _ 0 r1.out).mono ?_
    rintro e w2 ⟨rfl, q2⟩
    replace q2 := hide q2
    rw [if_pos rfl]
    go_wp2_with fail
    go_ret2
    exact ⟨rfl, grown_trans g1.out (q2.out.grown _)⟩
  · rw [a4]
    have hV := Varint_good w rb l k (most : Int) H.out (by omega) a1
    rw [a2] at hV
    replace hV := hide hV
    rw [if_pos rfl]
    generalize (rv (l.drop k)).2.1 = sz at *
    generalize (rv (l.drop k)).1 = n at *
    clear a1 a2 a4
    go_enter Try.func51, Try.ntmps51
    go_wp2_with fail
    refine hV.out.mono ?_
    rintro e w1 ⟨rfl, r1, g1⟩
    replace r1 := hide r1
    replace g1 := hide g1
    go_wp2_with fail
    refine (err_any _ rb l _ 0 r1.out).mono ?_
    rintro e w2 ⟨rfl, q2⟩
    replace q2 := hide q2
    rw [if_pos rfl]
    go_wp2_with fail
    go_ret2
    exact ⟨rfl, grown_trans g1.out (q2.out.grown _), fun _ => r1.out.below (q2.out.below _)⟩
#print axioms field_any
/-- What readEntry leaves: the blocks that it may turn. -/
def RB (rb b : Nat) (v : Value) : Nat → Prop := fun j => j = rb ∨ Own b v j
theorem drop_nx (l : List UInt8) (k : Nat) : l.drop (k + (rv (l.drop k)).2.1) = nx (l.drop k) := by rw [nx, List.drop_drop]
set_option maxHeartbeats 4000000 in
theorem readEntry_any (w : World) (b rb : Nat) (x : X) (v : Value) (l : List UInt8) (k : Nat) (h : At TI w b x v) (hr : RdrAt w rb l k 0) (hs : Srt x.st x.l) (hla : x.la = lastE x.l) :
    Calls Try.prog 52 #[.pointer (some ⟨b, 0, none⟩), .pointer (some ⟨rb, 0, none⟩)] w fun e w' =>
      e = .returned (.int .i64 (entE x.st x.l x.la (l.drop k))) ∧ But (RB rb b v) w w' ∧ (entE x.st x.l x.la (l.drop k) = 0 → ∃ v', At TI w' b ⟨x.st, x.l ++ [entV x.la (l.drop k)], entV x.la (l.drop k)⟩ v' ∧ (∀ j, v'.ownBlock = some j → v.ownBlock = some j ∨ w.heap.size ≤ j) ∧ ∃ k', RdrAt w' rb l k' 0 ∧ l.drop k' = nx (nx (l.drop k))) := by
  obtain ⟨c0, c1, c2, c3⟩ := h.cells
  have H := hide h
  have HR := hide hr
  have hok : Ok x := by have := Ok.last hs; rw [← hla] at this; exact this
  obtain ⟨z1, z2, z3, z4, _⟩ := hok.la
  have hlen := hs.len
  have s0 := hs.s0
  have s1 := hs.s1
  obtain ⟨ao, ca, rfl, q1, q2⟩ := h.row.form
  obtain ⟨N, hN⟩ : ∃ N, Hid (x.l.length = N) := ⟨_, rfl⟩
  rw [hN.out] at H c1 hlen q2 ⊢
  obtain ⟨p1, p2, hp⟩ : ∃ p1 p2, Hid (x.la = (p1, p2)) := ⟨_, _, rfl⟩
  rw [hp.out] at c2 c3 z1 z2 z3 z4 ⊢
  simp only at c2 c3 z1 z2 z3 z4
  obtain ⟨st, hst⟩ : ∃ st, Hid (x.st = st) := ⟨_, rfl⟩
  rw [hst.out] at c0 s0 s1 ⊢
  have hw1 : IntKind.i64.wrap (9223372036854775807 - p1) = 9223372036854775807 - p1 := by rw [IntKind.wrap_i64]; omega
  have hw2 : IntKind.i64.wrap (2147483647 - p2) = 2147483647 - p2 := by rw [IntKind.wrap_i64]; omega
  have hw3 : IntKind.u64.wrap (9223372036854775807 - p1) = 9223372036854775807 - p1 := wrap_u64_in _ (by omega) (by omega)
  have hw4 : IntKind.u64.wrap (2147483647 - p2) = 2147483647 - p2 := wrap_u64_in _ (by omega) (by omega)
  obtain ⟨m1, hm1⟩ : ∃ m1 : Nat, 9223372036854775807 - p1 = (m1 : Int) := ⟨(9223372036854775807 - p1).toNat, by omega⟩
  obtain ⟨m2, hm2⟩ : ∃ m2 : Nat, 2147483647 - p2 = (m2 : Int) := ⟨(2147483647 - p2).toNat, by omega⟩
  obtain ⟨ap, hap⟩ : ∃ ap : Nat, Hid ((if x.l = [] then 0 else st) = ap) := ⟨_, rfl⟩
  have hapl : ap ≤ 1048576 := by rw [← hap.out]; split <;> omega
  have hE : Hid (entE st x.l (p1, p2) (l.drop k) = if fldE (l.drop k) 1 m1 ≠ 0 then fldE (l.drop k) 1 m1 else fldE (nx (l.drop k)) ap m2) := by
    show _ = _
    unfold entE
    simp only [hm1, hm2, Int.toNat_natCast, hap.out]
  clear h hr hs hla hok
  go_enter Try.func52, Try.ntmps52
  go_upto_if 18 with fail
  go_cut [5] from 5 to 5 (fun y wx => y = .int .i64 (ap : Int) ∧ w = wx)
  case first =>
    by_cases hl : x.l = []
    · have hN0 : N = 0 := by rw [← hN.out, hl]; rfl
      have ha0 : Hid (ap = 0) := by show _ = _; rw [← hap.out, if_pos hl]
      subst hN0
      go_wp2_with fail
      go_meet
      case rel => exact ⟨by rw [ha0.out]; rfl, rfl⟩
    · have hN0 : ¬ ((N : Int) = 0) := by have := List.length_pos_iff.2 hl; rw [hN.out] at this; omega
      have hb0 : ((N : Int) == 0) = false := by simpa using hN0
      have ha0 : Hid (ap = st) := by show _ = _; rw [← hap.out, if_neg hl]
      go_wp2_with fail
      go_meet
      case rel => exact ⟨by rw [ha0.out], rfl⟩
  case rest =>
    obtain ⟨rfl, rfl⟩ := hcut
    obtain ⟨n1, hn1⟩ : ∃ n1, Hid ((rv (l.drop k)).1 = n1) := ⟨_, rfl⟩
    obtain ⟨k1, hk1⟩ : ∃ k1, Hid (k + (rv (l.drop k)).2.1 = k1) := ⟨_, rfl⟩
    have hr1 : Hid (l.drop k1 = nx (l.drop k)) := by show _ = _; rw [← hk1.out, drop_nx]
    have hF1z := hide (@fld_zero (l.drop k) 1 m1)
    have hC1 := fld_cases (l.drop k) 1 m1
    have CALL1 := hide (field_any w rb l k 1 m1 HR.out (by omega))
    rw [hn1.out] at CALL1 hF1z
    rw [hk1.out] at CALL1
    obtain ⟨F1, hF1⟩ : ∃ F1, Hid (fldE (l.drop k) 1 m1 = F1) := ⟨_, rfl⟩
    rw [hF1.out] at hE CALL1 hF1z hC1
    go_wp2_with fail
    refine CALL1.out.mono ?_
    rintro e w1 ⟨rfl, g1, r1⟩
    have A1 := hide (H.out.rd HR.out g1)
    replace g1 := hide g1
    replace r1 := hide r1
    by_cases hz : ¬ F1 = 0
    · have hb0 : (F1 == 0) = false := by simpa using hz
      rw [if_pos hz] at hE
      have hEn : ¬ entE st x.l (p1, p2) (l.drop k) = 0 := by rw [hE.out]; exact hz
      rw [if_neg hz]
      clear hC1 CALL1
      go_wp2_with fail
      go_ret
      exact ⟨by rw [hE.out]; rfl, (But.of_grownBy g1.out fun j e => by cases e; exact .inl rfl), fun c => absurd c hEn⟩
    · replace hz := Classical.not_not.1 hz
      subst hz
      rw [if_neg (by simp)] at hE
      rw [if_pos rfl]
      obtain ⟨_, l1, l2⟩ := hF1z.out rfl
      have R1 := hide (r1.out rfl)
      obtain ⟨n2, hn2⟩ : ∃ n2, Hid ((rv (l.drop k1)).1 = n2) := ⟨_, rfl⟩
      obtain ⟨k2, hk2⟩ : ∃ k2, Hid (k1 + (rv (l.drop k1)).2.1 = k2) := ⟨_, rfl⟩
      have hr2 : Hid (l.drop k2 = nx (nx (l.drop k))) := by show _ = _; rw [← hk2.out, drop_nx, hr1.out]
      have hF2z := hide (@fld_zero (l.drop k1) ap m2)
      have hC2 := fld_cases (l.drop k1) ap m2
      have CALL2 := hide (field_any w1 rb l k1 ap m2 R1.out (by omega))
      rw [hn2.out] at CALL2 hF2z
      rw [hk2.out] at CALL2
      have hEV : Hid (entV (p1, p2) (l.drop k) = (p1 + (n1 : Int), p2 + (n2 : Int))) := by show _ = _; rw [entV, hn1.out, ← hr1.out, hn2.out]
      rw [← hr1.out] at hE
      obtain ⟨F2, hF2⟩ : ∃ F2, Hid (fldE (l.drop k1) ap m2 = F2) := ⟨_, rfl⟩
      rw [hF2.out] at hE CALL2 hF2z hC2
      obtain ⟨d0, d1, d2, d3⟩ := A1.out.cells
      rw [hst.out] at d0
      rw [hp.out] at d2 d3
      simp only at d2 d3
      clear CALL1 hC1 hF1z r1 c0 c1 c2 c3
      go_wp2_with fail
      refine CALL2.out.mono ?_
      rintro e w2 ⟨rfl, g2, r2⟩
      have A2 := hide (A1.out.rd R1.out g2)
      replace g2 := hide g2
      replace r2 := hide r2
      have g12 := hide (grown_trans g1.out g2.out)
      clear g1 g2 d0 d1 d2 d3
      by_cases hz : ¬ F2 = 0
      · have hb0 : (F2 == 0) = false := by simpa using hz
        have hEn : ¬ entE st x.l (p1, p2) (l.drop k) = 0 := by rw [hE.out]; exact hz
        rw [if_neg hz]
        clear hC2 CALL2
        go_wp2_with fail
        go_ret
        exact ⟨by rw [hE.out]; rfl, (But.of_grownBy g12.out fun j e => by cases e; exact .inl rfl), fun c => absurd c hEn⟩
      · replace hz := Classical.not_not.1 hz
        subst hz
        rw [if_pos rfl]
        obtain ⟨_, l3, l4⟩ := hF2z.out rfl
        have R2 := hide (r2.out rfl)
        obtain ⟨d0, d1, d2, d3⟩ := A2.out.cells
        obtain ⟨f0, f1, f2, f3⟩ := A2.out.frozen
        rw [hst.out] at d0
        rw [hp.out] at d2 d3
        simp only at d2 d3
        have hw5 : IntKind.i64.wrap (n1 : Int) = (n1 : Int) := by rw [IntKind.wrap_i64]; omega
        have hw6 : IntKind.i64.wrap (n2 : Int) = (n2 : Int) := by rw [IntKind.wrap_i64]; omega
        have hw7 : IntKind.i64.wrap (p1 + (n1 : Int)) = p1 + (n1 : Int) := by rw [IntKind.wrap_i64]; omega
        have hw8 : IntKind.i64.wrap (p2 + (n2 : Int)) = p2 + (n2 : Int) := by rw [IntKind.wrap_i64]; omega
        have hL := hide (A2.out.setLa (by decide) (p1 + (n1 : Int)) (p2 + (n2 : Int)))
        have hBl := hide (but_la w2 b (.int .i64 (p1 + (n1 : Int))) (.int .i64 (p2 + (n2 : Int))) (.slice ao N ca))
        clear CALL2 hC2 hF2z r2 hw1 hw2 hw3 hw4
        go_upto_region 10 with fail
        go_cut [] from 51 to 70 (fun wx => Hid (At TI wx b ⟨x.st, x.l, (p1 + (n1 : Int), p2 + (n2 : Int))⟩ (.slice ao N ca) ∧ But (Own b (.slice ao N ca)) w2 wx))
        case first =>
          go_region
          all_goals
            go_wp2_with fail
            go_meet
            case rel => exact ⟨hL.out.below (Below.refl _ _).drew, hBl.out.trans (But.of_below (Below.refl _ _).drew _)⟩
        case rest =>
          have AC := hide hcut.out.1
          have BC := hide hcut.out.2
          clear hL hBl hcut d0 d1 d2 d3 f0 f1 f2 f3 hw5 hw6 hw7 hw8
          obtain ⟨a1, ha1⟩ : ∃ a1, Hid (p1 + (n1 : Int) = a1) := ⟨_, rfl⟩
          obtain ⟨a2, ha2⟩ : ∃ a2, Hid (p2 + (n2 : Int) = a2) := ⟨_, rfl⟩
          rw [ha1.out, ha2.out] at AC hEV
          obtain ⟨d0, d1, d2, d3⟩ := AC.out.cells
          obtain ⟨f0, f1, f2, f3⟩ := AC.out.frozen
          simp only at d2 d3
          obtain ⟨i0, hi, hz0, hz1, hz2⟩ := info_parts infoEnt
          have ROW : Hid (wc.ownsRow 0 35 2 (.slice ao N ca) N (ecells x.l)) := by have := AC.out.row; unfold Ents at this; rw [hN.out] at this; exact this
          have hbl2 : b < wc.heap.size := lt_of_cell d0
          have hE0 : Hid (entE st x.l (p1, p2) (l.drop k) = 0) := hE.out
          go_wp2_with fail
          go_region_law (first | (refine step_append_lies _ rfl (.tmp 75) (.tmp 80) 36 rfl 0 35 i0 (.agg #[.int .i64 0, .int .i64 0]) 2 16 Try.underlying36 hi hz0 hz1 hz2 rfl (by decide) (.slice ao N ca) N (ecells x.l) (by simp [Act.eval]) (ROW.out.alloc _) ⟨wc.heap.size, 0, none⟩ 1 1 [.int .i64 a1, .int .i64 a2] (by simp [Act.eval]) rfl (two_newE _ _ _ _) (by simp [Value.oneCell']) (by decide) (by unfold maxLen; omega) (by omega) (Nat.zero_le _) (wc.heap.size + 1) (by simp) ?_; intro g2 cap2 w3 hown3 hgrow3 hat hlt3; obtain ⟨F1, F2, F3, F4⟩ := At.app AC.out (by decide) (by first | exact (box_below wc _).drew | exact (box_below wc.drew _) | exact box_below wc _) hgrow3 (by rw [hN.out]; exact hown3) (hat_of hat (by omega)); have cc3 := (show w3.cell? ⟨b, 1, none⟩ = some (.slice ao N ca) by simp [World.cell?, F1]); have ff3 := (show w3.frozen? ⟨b, 1, none⟩ = false by simp [World.frozen?, F1])))
          all_goals
            clear d0 d1 d2 d3 f0 f1 f2 f3 cc3 ff3 F1 hown3 hgrow3 hat hlt3 ROW hbl2
            replace F3 := hide F3
            replace F4 := hide F4
            replace F2 := hide F2
            generalize w3.setCell ⟨b, 1, none⟩ (.slice (some ⟨g2, 0, none⟩) (N + 1) cap2) = w4 at *
            go_wp2_with fail
            go_ret
            refine ⟨by rw [hE0.out]; rfl, ?_, fun _ => ⟨_, ?_, fun j hj => (F4.out j hj).imp id fun h => ?_, k2, rdr_own R2.out A2.out (by decide) (BC.out.trans F3.out), hr2.out⟩⟩
            · exact (But.of_grownBy g12.out fun j e => by cases e; exact .inl rfl).trans ((BC.out.trans F3.out).mono fun j _ hj => .inr hj)
            · rw [hEV.out, ← hst.out]; exact F2.out
            · exact Nat.le_trans (Nat.le_trans g12.out.size BC.out.size) h
#print axioms readEntry_any
end Go.Proofs.Ytoffahbnffhliaa.Ix
