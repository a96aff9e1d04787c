/-
  A text, read.
-/
import Derived.Test.YtpfnkkkfekhngaaGreatDoorWb
import Derived.Lib.BufferRead
import Derived.Lib.SlBytesRow
import Derived.Deep.RegionHeld3
namespace Go.Proofs.YtpfnkkkfekhngaaGreatDoor.Va
open Go.RowKit Go.Proofs.YtpfnkkkfekhngaaGreatDoor.Rl
set_option maxRecDepth 100000

theorem conv_any (w : World) (v : Value) (t : List UInt8) (h : Sl w v t) : (convert 40 103 v).run Tryz.prog w = .ok (.string (bstr t)) w := by
  obtain ⟨ao, c, rfl, h1, h2, h3, h4⟩ := h
  cases ao with
  | none =>
    obtain ⟨rfl, rfl⟩ := h1 rfl
    exact Lib.run_convert_nil_bytes w 40 103 5 0 Tryz.underlying40 Tryz.underlying5 Tryz.underlying103
  | some ad =>
    by_cases h0 : t.length = 0
    · have : t = [] := List.length_eq_zero_iff.1 h0
      subst this
      show (convert 40 103 (.slice (some ad) 0 c)).run Tryz.prog w = _
      rw [run_convert_bytes_string w 40 103 5 (some ad) 0 c Tryz.underlying40 Tryz.underlying5 Tryz.underlying103]
      simp [Conv.bytesToString, loadCells, bstr]
      rfl
    · obtain ⟨b, off, e, _⟩ := h4 0 (by omega)
      simp only [Option.some.injEq] at e
      subst e
      have hb : Lib.Bytes w b off (bstr t) := fun i hi => by
        obtain ⟨b', off', e', hc⟩ := h4 i hi
        simp only [Option.some.injEq, Addr.mk.injEq] at e'
        obtain ⟨rfl, rfl, _⟩ := e'
        rw [hc]
        rfl
      have := Lib.run_convert_window w 40 5 103 Tryz.underlying40 Tryz.underlying5 Tryz.underlying103 b off (bstr t) hb 0 t.length c (by show 0 + t.length ≤ t.length; omega)
      rw [Nat.add_zero] at this
      rw [this]
      congr 2
      apply ByteArray.ext
      simp [bstr]
theorem rdT_ne {c : UInt8} (hc : c ≠ 0) : ∀ (s : List UInt8) (p : Nat) (acc : List UInt8), rdT (c :: s) p acc = rdT s (p + 1) (acc ++ [c])
  | [], p, acc => by simp [rdT, hc]
  | d :: r, p, acc => by rw [rdT, if_pos hc]
theorem rdT_zero (d : UInt8) (r : List UInt8) (p : Nat) (acc : List UInt8) : rdT (0 :: d :: r) p acc = if d = 255 then rdT r (p + 2) (acc ++ [0]) else if d = 1 then .done acc (p + 2) r else .form (p + 1) := by
  rw [rdT, if_neg (by simp)]
def textR (front left p : Nat) (s : List UInt8) : Res := match rdT s p [] with
  | .short => .bad (p + s.length) 2
  | .form q => .bad q 4
  | .done t q s' => if left < 1 + t.length then .bad front 3 else .ok (.mk 5 0 0 t []) q (left - 1 - t.length) s'
/-- Where the reading of a text stands. -/
def TxtAt (w wr : World) (rb : Nat) (ao : Option Addr) (B : List UInt8) (c p left : Nat) (q : Nat) (acc : List UInt8) : Prop :=
  q ≤ B.length ∧ q = p + (esc acc).length ∧ B.drop p = esc acc ++ B.drop q ∧ rdT (B.drop p) p [] = rdT (B.drop q) q acc ∧ Rst wr rb (.slice ao B.length c) q 0 left ∧ But rb w wr
theorem esc_snoc (acc : List UInt8) (c : UInt8) : esc (acc ++ [c]) = esc acc ++ (if c = 0 then [0, 255] else [c]) := by
  rw [esc_add]
  by_cases h : c = 0 <;> simp [esc, h]
theorem TxtAt.plain {w wr w' : World} {rb : Nat} {ao : Option Addr} {B : List UInt8} {c p left q : Nat} {acc : List UInt8} (h : TxtAt w wr rb ao B c p left q acc) (hq : q < B.length) (hc : B[q] ≠ 0) (hr : Rst w' rb (.slice ao B.length c) ((q + 1 : Nat) : Int) 0 left) (hb : But rb wr w') : TxtAt w w' rb ao B c p left (q + 1) (acc ++ [B[q]]) := by
  obtain ⟨h1, h2, h3, h4, h5, h6⟩ := h
  have hd : B.drop q = B[q] :: B.drop (q + 1) := List.drop_eq_getElem_cons hq
  refine ⟨by omega, by rw [esc_snoc, if_neg hc, List.length_append]; simp only [List.length_cons, List.length_nil]; omega, by rw [esc_snoc, if_neg hc, h3, hd]; simp, by rw [h4, hd, rdT_ne hc], hr, h6.trans hb⟩
theorem TxtAt.zero {w wr w' : World} {rb : Nat} {ao : Option Addr} {B : List UInt8} {c p left q : Nat} {acc : List UInt8} (h : TxtAt w wr rb ao B c p left q acc) (hq : q + 1 < B.length) (hc : B[q] = 0) (hd : B[q + 1] = 255) (hr : Rst w' rb (.slice ao B.length c) ((q + 2 : Nat) : Int) 0 left) (hb : But rb wr w') : TxtAt w w' rb ao B c p left (q + 2) (acc ++ [0]) := by
  obtain ⟨h1, h2, h3, h4, h5, h6⟩ := h
  have e1 : B.drop q = 0 :: 255 :: B.drop (q + 2) := by
    rw [List.drop_eq_getElem_cons (show q < B.length by omega), hc, List.drop_eq_getElem_cons hq, hd]
  refine ⟨by omega, by rw [esc_snoc, if_pos rfl, List.length_append]; simp only [List.length_cons, List.length_nil]; omega, by rw [esc_snoc, if_pos rfl, h3, e1]; simp, by rw [h4, e1, rdT_zero, if_pos rfl], hr, h6.trans hb⟩
set_option maxHeartbeats 4000000 in
theorem text_any (w0 w : World) (rb b off : Nat) (B : List UInt8) (c p left : Nat) (hs : Src w0 w rb (some ⟨b, off, none⟩) B) (hl : B.length ≤ c) (hcm : c ≤ maxLen) (hr : Rst w rb (.slice (some ⟨b, off, none⟩) B.length c) ((p + 1 : Nat) : Int) 0 left) (hp : p < B.length) (hleft : left ≤ 65536) (hm : Mx w) (hmr : 1 < rb) :
    Calls Tryz.prog 58 #[.pointer (some ⟨rb, 0, none⟩), .int .i64 (p : Int)] w (RdRes rb (.slice (some ⟨b, off, none⟩) B.length c) w (textR p left (p + 1) (B.drop (p + 1)))) := by
  obtain ⟨R, hR⟩ : ∃ R, Hid (textR p left (p + 1) (B.drop (p + 1)) = R) := ⟨_, rfl⟩
  rw [hR.out]
  have hmx : B.length ≤ 9223372036854775807 := by unfold maxLen at hcm; omega
  have hle : (B.drop (p + 1)).length = B.length - (p + 1) := List.length_drop
  replace hs := hide hs
  have hlm : Hid (B.length ≤ maxLen) := by show _ ≤ _; omega
  have h0 : Hid (TxtAt w w rb (some ⟨b, off, none⟩) B c (p + 1) left (p + 1) []) := ⟨by omega, rfl, rfl, rfl, hr, But.refl _ _⟩
  obtain ⟨n, hn⟩ : ∃ n, Hid (B.length = n) := ⟨_, rfl⟩
  replace hl := hide hl
  replace hcm := hide hcm
  replace hm := hide hm
  replace hmr := hide hmr
  replace hleft := hide hleft
  replace hle := hide hle
  clear hr
  rw [hn.out] at hmx hp ⊢
  go_enter Tryz.func58, Tryz.ntmps58
  go_wp2_with fail
  go_loopw [6] (fun v6 wr => ∃ (q : Nat) (z : Nat), q ≤ n ∧ z ≤ q ∧ v6 = .int .i64 (z : Int) ∧ Hid (∃ acc, z = 1 + acc.length ∧ TxtAt w wr rb (some ⟨b, off, none⟩) B c (p + 1) left q acc)) (fun v _ => n - (intOf v).toNat)
  case atStart => exact ⟨p + 1, 1, by omega, by omega, rfl, [], rfl, h0.out⟩
  case round =>
    obtain ⟨q, z, hq, hzq, rfl, hI⟩ := hrel
    obtain ⟨acc, hz, hT⟩ := hI.out
    replace hT := hide hT
    replace hz := hide hz
    have hrd := hide hT.out.2.2.2.1
    have hst := hide hT.out.2.2.2.2.1
    have hbu := hide hT.out.2.2.2.2.2
    clear hI
    by_cases hqe : q = n
    · have hR2 : Hid (R = .bad n 2) := by
        show _ = _
        have h1 := hn.out
        have h2 := hle.out
        rw [← hR.out, textR, hrd.out, List.drop_of_length_le (by omega)]
        simp only [rdT]
        rw [h2, show p + 1 + (B.length - (p + 1)) = n by omega]
      have hcall := hide (next_end wr rb (some ⟨b, off, none⟩) n c 0 left (by have := hst.out; rw [hqe, hn.out] at this; exact this))
      go_wp2_with fail
      refine hcall.out.mono ?_
      rintro e w1 ⟨rfl, hr1, hb⟩
      have hr2 := hide hr1
      have hb2 := hide (hbu.out.trans hb)
      clear hr1 hb
      go_wp2_with fail
      go_returns
      rw [hR2.out]
      exact RdRes.bad hb2.out hr2.out
    · have hqn : q < n := by omega
      have hql : q < B.length := by rw [hn.out]; exact hqn
      have hcall := next_ok w0 wr rb (some ⟨b, off, none⟩) B c q 0 left (hs.out.but hbu.out) hlm.out hst.out hql
      obtain ⟨u, hu⟩ : ∃ u, Hid (B[q] = u) := ⟨B[q], rfl⟩
      obtain ⟨U, hU⟩ : ∃ U : Nat, Hid (u.toNat = U) := ⟨_, rfl⟩
      rw [hu.out, hU.out, hn.out] at hcall
      replace hcall := hide hcall
      by_cases hu0 : u = 0
      case neg =>
        have hU0 : ((U : Int) != 0) = true := by
          have : U ≠ 0 := fun h => hu0 (UInt8.toNat_inj.1 (by rw [hU.out, h]; rfl))
          simp; omega
        have hne : Hid (B[q] ≠ 0) := by rw [hu.out]; exact hu0
        clear hu0
        go_wp2_with fail
        refine hcall.out.mono ?_
        rintro e w1 ⟨rfl, hr1, hb⟩
        have hT2 := hide (hT.out.plain hql hne.out (by rw [hn.out]; exact hr1) hb)
        clear hr1 hb
        go_wp2_with fail
        go_roundw
        case rel => exact ⟨q + 1, z + 1, by omega, by omega, by go_num, acc ++ [B[q]], by rw [hz.out, List.length_append]; simp; omega, hT2.out⟩
        case measure => simp [intOf]; omega
      case pos =>
        subst hu0
        have hU0 : U = 0 := by rw [← hU.out]; rfl
        subst hU0
        go_wp2_with fail
        refine hcall.out.mono ?_
        rintro e w1 ⟨rfl, hr1, hb⟩
        have hb1 := hide (hbu.out.trans hb)
        have hb1' := hide hb
        have hr1' := hide hr1
        clear hr1 hb
        by_cases hq1 : q + 1 = n
        · have hR2 : Hid (R = .bad n 2) := by
            show _ = _
            have h1 := hn.out
            have h2 := hle.out
            rw [← hR.out, textR, hrd.out, List.drop_eq_getElem_cons hql, hu.out, List.drop_of_length_le (show B.length ≤ q + 1 by omega)]
            simp only [rdT]
            rw [if_neg (by simp), h2, show p + 1 + (B.length - (p + 1)) = n by omega]
          have hcall2 := hide (next_end w1 rb (some ⟨b, off, none⟩) n c 0 left (by have := hr1'.out; rw [hq1] at this; exact this))
          go_wp2_with fail
          refine hcall2.out.mono ?_
          rintro e w2 ⟨rfl, hr2, hb⟩
          have hr3 := hide hr2
          have hb3 := hide (hb1.out.trans hb)
          clear hr2 hb
          go_wp2_with fail
          go_returns
          rw [hR2.out]
          exact RdRes.bad hb3.out hr3.out
        · have hq1n : q + 1 < n := by omega
          have hql1 : q + 1 < B.length := by rw [hn.out]; exact hq1n
          have hcall2 := next_ok w0 w1 rb (some ⟨b, off, none⟩) B c (q + 1) 0 left (hs.out.but hb1.out) hlm.out (by rw [hn.out]; exact hr1'.out) hql1
          obtain ⟨d, hd⟩ : ∃ u, Hid (B[q + 1] = u) := ⟨B[q + 1], rfl⟩
          obtain ⟨D, hD⟩ : ∃ U : Nat, Hid (d.toNat = U) := ⟨_, rfl⟩
          rw [hd.out, hD.out, hn.out] at hcall2
          replace hcall2 := hide hcall2
          have hdr : Hid (B.drop q = 0 :: d :: B.drop (q + 2)) := by
            show _ = _
            rw [List.drop_eq_getElem_cons hql, hu.out, List.drop_eq_getElem_cons hql1, hd.out]
          have hRd : Hid (rdT (B.drop (p + 1)) (p + 1) [] = if d = 255 then rdT (B.drop (q + 2)) (q + 2) (acc ++ [0]) else if d = 1 then .done acc (q + 2) (B.drop (q + 2)) else .form (q + 1)) := by
            show _ = _
            rw [hrd.out, hdr.out, rdT_zero]
          go_wp2_with fail
          refine hcall2.out.mono ?_
          rintro e w2 ⟨rfl, hr2, hb⟩
          have hb2 := hide (hb1.out.trans hb)
          have hb2' := hide (hb1'.out.trans hb)
          have hr2' := hide hr2
          clear hr2 hb
          by_cases hd255 : d = 255
          · subst hd255
            have hDv : D = 255 := by rw [← hD.out]; rfl
            subst hDv
            have hT2 := hide (hT.out.zero hql1 hu.out hd.out (by rw [hn.out]; exact hr2'.out) hb2'.out)
            go_wp2_with fail
            go_roundw
            case rel => exact ⟨q + 2, z + 1, by omega, by omega, by go_num, acc ++ [0], by rw [hz.out, List.length_append]; simp; omega, hT2.out⟩
            case measure => simp [intOf]; omega
          · have hD255 : ((D : Int) == 255) = false := by
              have : D ≠ 255 := fun h => hd255 (UInt8.toNat_inj.1 (by rw [hD.out, h]; rfl))
              simp; omega
            obtain ⟨e0, e1, e2, e3⟩ := hr2'.out.cells
            by_cases hd1 : d = 1
            case neg =>
              have hD1 : ((D : Int) != 1) = true := by
                have : D ≠ 1 := fun h => hd1 (UInt8.toNat_inj.1 (by rw [hD.out, h]; rfl))
                simp; omega
              have hR2 : Hid (R = .bad (q + 1) 4) := by show _ = _; rw [← hR.out, textR, hRd.out, if_neg hd255, if_neg hd1]
              clear hd1 hd255
              have hstop := hide (stop_any w2 rb (.slice (some ⟨b, off, none⟩) n c) _ 0 left ((q : Int) + 1) 4 hr2'.out)
              go_wp2_with fail
              refine hstop.out.mono ?_
              rintro e w3 ⟨rfl, hr3, hb⟩
              have hr4 := hide hr3
              have hb4 := hide (hb2.out.trans hb)
              clear hr3 hb
              go_wp2_with fail
              go_returns
              rw [hR2.out]
              exact RdRes.bad hb4.out hr4.out
            case pos =>
              subst hd1
              have hDv : D = 1 := by rw [← hD.out]; rfl
              subst hDv
              have hRd2 : Hid (R = if left < 1 + acc.length then .bad p 3 else .ok (.mk 5 0 0 acc []) (q + 2) (left - 1 - acc.length) (B.drop (q + 2))) := by show _ = _; rw [← hR.out, textR, hRd.out, if_neg hd255, if_pos rfl]
              clear hd255
              by_cases hsp : left < z
              · have hR2 : Hid (R = .bad p 3) := by show _ = _; rw [hRd2.out, if_pos (by rw [← hz.out]; exact hsp)]
                have hspend := hide (spend_no w2 rb 3 left z hr2'.out.num (by omega))
                have hstop := hide (stop_any w2 rb (.slice (some ⟨b, off, none⟩) n c) _ 0 left p 3 hr2'.out)
                go_wp2_with fail
                refine hspend.out.mono ?_
                rintro e _ ⟨rfl, rfl⟩
                go_wp2_with fail
                refine hstop.out.mono ?_
                rintro e w3 ⟨rfl, hr3, hb⟩
                have hr4 := hide hr3
                have hb4 := hide (hb2.out.trans hb)
                clear hr3 hb
                go_wp2_with fail
                go_returns
                rw [hR2.out]
                exact RdRes.bad hb4.out hr4.out
              · have hR2 : Hid (R = .ok (.mk 5 0 0 acc []) (q + 2) (left - z) (B.drop (q + 2))) := by show _ = _; rw [hRd2.out, if_neg (by rw [← hz.out]; exact hsp), hz.out, show left - 1 - acc.length = left - (1 + acc.length) by omega]
                have hspend := hide (spend_yes w2 rb 3 left z hr2'.out.num (by omega) (by have := hleft.out; omega) (by omega))
                go_wp2_with fail
                refine hspend.out.mono ?_
                rintro e w3 ⟨rfl, rfl⟩
                have hr3 : Rst (w2.setCell ⟨rb, 3, none⟩ (.int .i64 ((left : Int) - (z : Int)))) rb (.slice (some ⟨b, off, none⟩) n c) ((q + 1 + 1 : Nat) : Int) 0 ((left : Int) - (z : Int)) := hr2'.out.left _
                have hb3 := hide (hb2.out.trans (But.set rb w2 3 (.int .i64 ((left : Int) - (z : Int)))))
                obtain ⟨w4, hw4⟩ : ∃ w4, Hid (w2.setCell ⟨rb, 3, none⟩ (.int .i64 ((left : Int) - (z : Int))) = w4) := ⟨_, rfl⟩
                rw [hw4.out] at hr3 hb3 ⊢
                replace hr3 := hide hr3
                clear e0 e1 e2 e3
                obtain ⟨P1, hP1⟩ : ∃ P1, Hid (p + 1 = P1) := ⟨_, rfl⟩
                obtain ⟨Q2, hQ2⟩ : ∃ Q2, Hid (q + 1 + 1 = Q2) := ⟨_, rfl⟩
                rw [hQ2.out] at hr3
                have hw1 : IntKind.i64.wrap ((p : Int) + 1) = (P1 : Int) := by rw [IntKind.wrap_i64, ← hP1.out]; omega
                have hw2 : IntKind.i64.wrap ((Q2 : Int) - 2) = (q : Int) := by rw [IntKind.wrap_i64, ← hQ2.out]; omega
                have hq2 := hide hT.out.2.1
                have hdd := hide hT.out.2.2.1
                have hsl : ∀ W : World, (Instr.slice 40 (.slice (some ⟨b, off, none⟩) n c) (some (.int .i64 (P1 : Int))) (some (.int .i64 (q : Int))) none).run Tryz.prog W = .ok (.slice (some ⟨b, off + P1, none⟩) (esc acc).length (c - P1)) W := fun W => by
                  have h1 := hP1.out
                  have h2 := hq2.out
                  have h3 := hl.out
                  have h4 := hn.out
                  have h5 := slice_lh W b off n c P1 q (by omega) (by omega) (by omega)
                  rw [show q - P1 = (esc acc).length by omega] at h5
                  exact h5
                have hun := hide (unmarked_any w4.drew b (off + P1) (c - P1) acc (fun i hi => by
                  have hrd4 : Rd w4 (some ⟨b, off, none⟩) B := (hs.out.but hb3.out).rd
                  have h1 := hP1.out
                  have h2 := hq2.out
                  have h4 := hn.out
                  obtain ⟨b', off', e', hc'⟩ := hrd4 (P1 + i) (by omega)
                  simp only [Option.some.injEq, Addr.mk.injEq] at e'
                  obtain ⟨rfl, rfl, _⟩ := e'
                  show w4.cell? ⟨b, off + P1 + i, none⟩ = _
                  rw [Nat.add_assoc, hc']
                  have h6 : (B.drop (p + 1))[i]'(by rw [List.length_drop]; omega) = (esc acc)[i] := by
                    have h7 : (B.drop (p + 1))[i]? = (esc acc)[i]? := by rw [hdd.out, List.getElem?_append_left hi]
                    rw [List.getElem?_eq_getElem (by rw [List.length_drop]; omega), List.getElem?_eq_getElem hi] at h7
                    simpa using h7
                  rw [← h6]
                  simp [← h1]) (by
                  have h1 := hP1.out
                  have h2 := hq2.out
                  have h3 := hl.out
                  have h4 := hn.out
                  omega) (by have := hcm.out; omega) (by have h1 := hz.out; have h2 := hleft.out; omega) (by
                  obtain ⟨m, hm'⟩ := hm.out
                  exact ⟨m, hb3.out.cell hm' (by have := hmr.out; show 1 ≠ rb; omega)⟩))
                obtain ⟨e0, e1, e2, e3⟩ := hr3.out.cells
                have KS := hide (fun (V : World) (hV : Below w4.heap.size w4 V) => (show Below w4.heap.size w4 V ∧ V.cell? ⟨rb, 0, none⟩ = some (.slice (some ⟨b, off, none⟩) n c) ∧ V.cell? ⟨rb, 1, none⟩ = some (.int .i64 (Q2 : Int)) from ⟨hV, (hV.cell (lt_of_cell e0)).trans e0, (hV.cell (lt_of_cell e1)).trans e1⟩))
                have hS0 := KS.out w4.drew (Below.refl _ _).drew
                obtain ⟨el, hel⟩ : ∃ el, Hid ((esc acc).length = el) := ⟨_, rfl⟩
                rw [hel.out] at hun hsl
                have hzl := hide hsp
                clear hw4 hspend hsp
                go_wp2_with fail
                go_region_held (fun V => Below w4.heap.size w4 V ∧ V.cell? ⟨rb, 0, none⟩ = some (.slice (some ⟨b, off, none⟩) n c) ∧ V.cell? ⟨rb, 1, none⟩ = some (.int .i64 (Q2 : Int)))
                  (first | exact hS0 | assumption | exact KS.out _ (keepV (by assumption) (And.left (by assumption))))
                  (first
                    | (go_at_call 72; refine hun.out.mono ?_; rintro e u1 ⟨v1, rfl, S1, B1⟩; have CV := conv_any _ _ _ S1))
                have hB4 := hide (And.left (a := Below w4.heap.size w4 u1) (by assumption))
                have hr5 : Hid (Rst u1 rb (.slice (some ⟨b, off, none⟩) n c) (Q2 : Int) 0 ((left : Int) - (z : Int))) := hr3.out.same (hB4.out.block _ hr3.out.lt)
                have hb5 : Hid (But rb w u1) := hb3.out.trans (But.of hB4.out)
                have hz1 : z ≤ left := by have := hzl.out; omega
                go_wp2_with fail
                go_returns
                rw [hR2.out]
                refine RdRes.ok hb5.out ?_ ?_
                · rw [IsT]
                  exact Or.inr (Or.inr (Or.inr (Or.inr (Or.inl ⟨rfl, rfl⟩))))
                · have h1 := hr5.out
                  rw [show ((left - z : Nat) : Int) = (left : Int) - (z : Int) by omega, show ((q + 2 : Nat) : Int) = (Q2 : Int) by rw [← hQ2.out]]
                  exact h1
#print axioms text_any
end Go.Proofs.YtpfnkkkfekhngaaGreatDoor.Va
