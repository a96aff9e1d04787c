/-
  Arm.
-/
import Derived.Test.YtdelknejmapeaaaDlO0
namespace Go.Proofs.Ytdelknejmapeaaa.Dk
open Go.RowKit Go.Maps Go.Sort Go.Shelf Go.Proofs.Ytdelknejmapeaaa.Nm

/-- Other faults are armed. -/
theorem Dsk.armed {w w1 : World} {b m : Nat} {S : DS} {O : Nat → Prop} {f g : Nat} {pd : Value} {am : Option Nat} {VB VL : Nat → Value} {l : Ar} (h : Dsk w b S O f g pd am VB VL) (hB : Below w.heap.size w w1) (hm : Am w1 m l) (hn : w.heap.size ≤ m) (hcl : ∀ e ∈ l, (1 ≤ e.2.2.1 ∧ e.2.2.1 ≤ 3) ∧ 0 ≤ e.2.2.2) :
    ∃ O', Dsk (w1.setCell ⟨b, 5, none⟩ (.map (some m))) b { S with al := l } O' f g pd (some m) VB VL ∧ Sgo w (w1.setCell ⟨b, 5, none⟩ (.map (some m))) O O' := by
  have h1 := h.below hB
  obtain ⟨n1, n2, n3, n4⟩ := h1.dk.noB
  have hG := But.of_grownBy (X := fun k => k = b) (grown_setCell w1 b 5 (.map (some m))) fun k e => by cases e; rfl
  have hbm : m ≠ b := fun e => hm.ne h1.dk.cells e.symm
  have hx := heap_setCell_same w1 b 5 _ _ (.map (some m)) h1.dk.cells
  have hOl : ∀ k, Own b (S.dc f g pd am) k → k < w.heap.size := fun k hk => h.lt k (h.ow k hk)
  refine ⟨fun k => O k ∨ (w.heap.size ≤ k ∧ k < (w1.setCell ⟨b, 5, none⟩ (.map (some m))).heap.size), ⟨⟨hx, rfl, rfl, h1.dk.mf.but hG n1, h1.dk.mg.but hG n2, h1.dk.fg, h1.dk.pd.but hG n4, ?_, (fun e => by cases e), h1.dk.run, h1.dk.can, h1.dk.ok, h1.dk.c0, h1.dk.c1⟩, ?_, ?_, ?_, ?_, ?_⟩, ?_⟩
  · intro m' e
    simp only [DS.dc, Option.some.injEq] at e
    subst e
    refine ⟨hm.but hG hbm, fun e => ?_, fun e => ?_⟩
    · have := hOl f (.inr (.inl rfl)); omega
    · have := hOl g (.inr (.inr (.inl rfl))); omega
  · have k1 := h1.fs.but hG (fun p hp k hk e => h1.fs.no p hp k hk (.inl e))
    refine ⟨k1.at_, k1.ap, fun p hp k hk c => ?_⟩
    have hk2 := h.fs.lt hp k hk
    rcases c with c | c | c | c | c
    · exact k1.no p hp k hk (.inl c)
    · exact k1.no p hp k hk (.inr (.inl c))
    · exact k1.no p hp k hk (.inr (.inr (.inl c)))
    · exact k1.no p hp k hk (.inr (.inr (.inr (.inl c))))
    · simp only [DS.dc, Option.some.injEq] at c; omega
  · intro k hk
    rcases hk with c | c | c | c | c
    · exact .inl (h.ow k (.inl c))
    · exact .inl (h.ow k (.inr (.inl c)))
    · exact .inl (h.ow k (.inr (.inr (.inl c))))
    · exact .inl (h.ow k (.inr (.inr (.inr (.inl c)))))
    · simp only [DS.dc, Option.some.injEq] at c; subst c; exact .inr ⟨hn, Nat.lt_of_lt_of_le hm.lt hG.size⟩
  · exact fun p hp k hk => .inl (h.of p hp k hk)
  · rintro k (q | q)
    · exact Nat.lt_of_lt_of_le (h1.lt k q) hG.size
    · exact q.2
  · exact ⟨h.ok.most, h.ok.sz, h.ok.cnt, hcl, h.ok.by8⟩
  · refine ⟨(But.of_below hB _).trans (hG.mono fun k _ e => by rw [e]; exact h.ow b (.inl rfl)), ?_⟩
    rintro k (q | q)
    · exact .inl q
    · exact .inr q.1
set_option maxRecDepth 100000 in
set_option maxHeartbeats 2000000 in
theorem arm_any {w : World} {b : Nat} {S : DS} {O : Nat → Prop} {f g : Nat} {pd : Value} {am : Option Nat} {VB VL : Nat → Value} (h : Dsk w b S O f g pd am VB VL) (hc : S.c7 < 900000000) (v : Value) (fs : List Ft) (hv : Fts w v fs) (h4 : ∀ t ∈ fs, t.2.1 ≠ 4) :
    Calls Try.prog 17 #[.pointer (some ⟨b, 0, none⟩), v] w (Does w b O (S.arm fs)) := by
  have hM := made_any w _ _ h.dk.dp
  rw [show madeD (some (S.dc f g pd am)) = true from rfl] at hM
  have H := hide h
  obtain ⟨ao, ca, rfl, q1, q2, q3⟩ := hv
  have q2' : (ca : Int) ≤ 9223372036854775807 := by unfold maxLen at q2; omega
  replace q3 := hide q3
  obtain ⟨N, hN⟩ : ∃ N, Hid (fs.length = N) := ⟨_, rfl⟩
  rw [hN.out] at q1 ⊢
  have hc7 : Hid (∀ q, Below w.heap.size w q → q.cell? ⟨b, 13, none⟩ = some (.int .i64 S.c7)) := fun q hq => (H.out.below hq).dk.box.all.1
  have hc70 : 0 ≤ S.c7 := by have := h.dk.c0; exact this.2.2.2.2.2.2.2
  clear h
  by_cases c64 : 64 < N
  · have hR : Hid (S.arm fs = (S, 1)) := by show _ = _; unfold DS.arm; rw [if_pos (by rw [hN.out]; exact c64)]
    rw [hR.out]
    have i1 : (64 : Int) < (N : Int) := by omega
    go_enter Try.func17, Try.ntmps17
    go_wp2_with (go_at_call 36; refine hM.mono ?_; rintro e w1 ⟨rfl, e1⟩; subst w1)
    go_ret
    exact ⟨rfl, O, H.out.e, Sgo.refl _ _⟩
  · have i1 : ¬ (64 : Int) < (N : Int) := by omega
    have hmm := @run_makeMap Try.prog
    obtain ⟨m, hm0⟩ : ∃ m, Hid (w.heap.size = m) := ⟨_, rfl⟩
    have A0 : Hid (Am (w.alloc (.map #[] 0)) m []) := by show Am _ _ _; rw [← hm0.out]; exact Am.of (l := []) (World.ownsMap_made w _ _ _)
    have B0 := hide (box_below w (.map #[] 0))
    have h4' := hide h4
    clear h4
    go_enter Try.func17, Try.ntmps17
    go_wp2_with (go_at_call 36; refine hM.mono ?_; rintro e w1 ⟨rfl, e1⟩; subst w1)
    rw [hm0.out]
    clear hmm hM
    go_loopw [20] (fun i wr => ∃ k : Nat, i = .int .i64 k ∧ k ≤ N ∧ ∃ l : Ar, Hid (armL S.c7 (fs.take k) [] = some l) ∧ Hid (Am wr m l ∧ Below m w wr)) (fun i _ => N - (intOf i).toNat)
    case atStart => exact ⟨0, rfl, Nat.zero_le _, [], rfl, A0.out, by rw [← hm0.out]; exact B0.out⟩
    case round =>
      obtain ⟨k, rfl, hk, l, hl, hI⟩ := hrel
      by_cases hlt : k < N
      · have i2 : (k : Int) < (N : Int) := by omega
        have hkl : k < fs.length := by rw [hN.out]; exact hlt
        obtain ⟨gb, off, rfl, f1, f2, f3⟩ := q3.out k hkl
        have hsn : Hid (fs.take (k + 1) = fs.take k ++ [fs[k]]) := List.take_succ_eq_append_getElem hkl
        have hdrop : Hid (fs = fs.take (k + 1) ++ fs.drop (k + 1)) := (List.take_append_drop _ _).symm
        have hll := armL_len hl.out
        rw [List.length_take] at hll
        simp only [List.length_nil, Nat.zero_add] at hll
        have Bw := hI.out.2
        rw [← hm0.out] at Bw
        have f1' := (Bw.cell (p := ⟨gb, off + k * 3, none⟩) (lt_of_cell f1)).trans f1
        have f2' := (Bw.cell (p := ⟨gb, off + k * 3 + 1, none⟩) (lt_of_cell f2)).trans f2
        have f3' := (Bw.cell (p := ⟨gb, off + k * 3 + 2, none⟩) (lt_of_cell f3)).trans f3
        replace Bw := hide Bw
        clear f1 f2 f3
        generalize fs[k] = t at *
        clear hkl
        obtain ⟨ta, tk, tp⟩ := t
        dsimp only at f1' f2' f3'
        obtain ⟨w1, hw1⟩ : ∃ w1, Hid (wr.alloc (.cells #[.int .i64 ta, .int .i64 tk, .int .i64 tp] 77) = w1) := ⟨_, rfl⟩
        have B1 : Hid (Below wr.heap.size wr w1) := by show Below _ _ _; rw [← hw1.out]; exact box_below wr _
        have N1 : Hid (w1.heap[wr.heap.size]? = some (.cells #[.int .i64 ta, .int .i64 tk, .int .i64 tp] 77 (0, 0))) := by show _ = _; rw [← hw1.out]; exact heap_alloc_new wr _
        have hMay := mayBefall_any w1 (ta, tk, tp)
        dsimp only at hMay
        have A1 : Hid (Am w1 m l) := hI.out.1.heap (B1.out.block m hI.out.1.lt)
        obtain ⟨x0, x1, x2⟩ := cells3 N1.out
        have zm : Hid (m < wr.heap.size) := hI.out.1.lt
        by_cases cm : mayF (ta, tk, tp) = true
        · rw [cm] at hMay
          have ha1 : 1 ≤ ta ∧ ta ≤ 4294967296 := by simp [mayF] at cm; omega
          have hww : IntKind.i64.wrap (S.c7 + ta) = S.c7 + ta := by rw [IntKind.wrap_i64]; omega
          have k0 : -9223372036854775808 ≤ S.c7 + ta := by omega
          have k1 : S.c7 + ta ≤ 9223372036854775807 := by omega
          have hlook : Hid (∀ q, Am q m l → _) := fun q hq => hq.look_ok (n := S.c7 + ta) k0 k1
          unfold TA fv at hlook
          cases hg : aget l (S.c7 + ta) with
          | some u =>
            rw [hg] at hlook
            simp only [Option.getD_some, Option.isSome_some] at hlook
            obtain ⟨ua, uk, up⟩ := u
            dsimp only at hlook
            have hR : Hid (S.arm fs = (S, 1)) := by
              show _ = _
              unfold DS.arm
              rw [if_neg (by rw [hN.out]; omega)]
              have : armL S.c7 fs [] = none := by
                rw [hdrop.out]
                refine armL_none _ _ _ _ ?_
                rw [hsn.out, armL_snoc, hl.out]
                simp [hg]
              rw [this]
            rw [hR.out]
            go_upto_region 9 with fail
            rw [hw1.out]
            go_upto_region 11 with (go_at_call 46; refine hMay.mono ?_; rintro e w2 ⟨rfl, B2⟩; replace B2 := hide B2; have N2 : Hid (w2.heap[wr.heap.size]? = some (.cells #[.int .i64 ta, .int .i64 tk, .int .i64 tp] 77 (0, 0))) := (B2.out.block _ (heap_lt N1.out)).trans N1.out)
            obtain ⟨y0, y1, y2⟩ := cells3 N2.out
            have E2 : Hid (Below w.heap.size w w2) := Bw.out.trans ((B1.out.trans (B2.out.mono B1.out.size)).mono Bw.out.size)
            have y3 := hc7.out w2 E2.out
            go_quiet (fail)
            have A2 : Hid (Am (w2.drewN nq) m l) := A1.out.heap (B2.out.block m A1.out.lt)
            have hL2 := hlook.out _ A2.out
            have E3 : Hid (Below w.heap.size w (w2.drewN nq)) := E2.out.trans (Qt.below ⟨nq, rfl⟩ _)
            generalize w2.drewN nq = w3 at *
            clear y0 y1 y2 y3 x0 x1 x2 f1' f2' f3' hlook
            go_wp2_with fail
            go_ret
            have B4 := E3.out.trans ((box_below w3 (.cells #[.int .i64 ua, .int .i64 uk, .int .i64 up] 77)).mono E3.out.size)
            exact ⟨rfl, O, (H.out.below B4).e, Sgo.of_below B4⟩
          | none =>
            rw [hg] at hlook
            simp only [Option.getD_none, Option.isSome_none] at hlook
            unfold zf at hlook
            dsimp only at hlook
            have hl2 : Hid (armL S.c7 (fs.take (k + 1)) [] = some (aput l (S.c7 + ta) (ta, tk, tp))) := by
              show _ = _
              rw [hsn.out, armL_snoc, hl.out]
              simp [cm, hg]
            go_upto_region 9 with fail
            rw [hw1.out]
            go_upto_region 11 with (go_at_call 46; refine hMay.mono ?_; rintro e w2 ⟨rfl, B2⟩; replace B2 := hide B2; have N2 : Hid (w2.heap[wr.heap.size]? = some (.cells #[.int .i64 ta, .int .i64 tk, .int .i64 tp] 77 (0, 0))) := (B2.out.block _ (heap_lt N1.out)).trans N1.out)
            obtain ⟨y0, y1, y2⟩ := cells3 N2.out
            have E2 : Hid (Below w.heap.size w w2) := Bw.out.trans ((B1.out.trans (B2.out.mono B1.out.size)).mono Bw.out.size)
            have y3 := hc7.out w2 E2.out
            go_quiet (fail)
            have A2 : Hid (Am (w2.drewN nq) m l) := A1.out.heap (B2.out.block m A1.out.lt)
            have hL2 := hlook.out _ A2.out
            have E3 : Hid (Below w.heap.size w (w2.drewN nq)) := E2.out.trans (Qt.below ⟨nq, rfl⟩ _)
            replace N2 : Hid ((w2.drewN nq).heap[wr.heap.size]? = some (.cells #[.int .i64 ta, .int .i64 tk, .int .i64 tp] 77 (0, 0))) := N2.out
            generalize w2.drewN nq = w3 at *
            clear y0 y1 y2 y3 x0 x1 x2 f1' f2' f3' hlook
            obtain ⟨w4, hw4⟩ : ∃ w4, Hid (w3.alloc (.cells #[.int .i64 0, .int .i64 0, .int .i64 0] 77) = w4) := ⟨_, rfl⟩
            have B4 : Hid (Below w3.heap.size w3 w4) := by show Below _ _ _; rw [← hw4.out]; exact box_below w3 _
            have A4 : Hid (Am w4 m l) := A2.out.heap (B4.out.block m A2.out.lt)
            have N4 : Hid (w4.heap[wr.heap.size]? = some (.cells #[.int .i64 ta, .int .i64 tk, .int .i64 tp] 77 (0, 0))) := (B4.out.block _ (heap_lt N2.out)).trans N2.out
            obtain ⟨y0, y1, y2⟩ := cells3 N4.out
            obtain ⟨w5, hU, A5, T5⟩ := A4.out.store (n := S.c7 + ta) (f := (ta, tk, tp)) k0 k1 (by unfold maxLen; omega)
            unfold TA fv at hU
            dsimp only at hU
            replace A5 := hide A5
            replace T5 := hide T5
            go_upto_region 15 with fail
            rw [hw4.out]
            go_wp2_with fail
            go_roundw
            case rel =>
              refine ⟨k + 1, by go_num, by omega, _, hl2.out, A5.out, ?_⟩
              have E4 := E3.out.trans (B4.out.mono E3.out.size)
              rw [hm0.out] at E4
              have G5 := turned_but T5.out
              exact ⟨G5.os.trans E4.os, G5.tape.trans E4.tape, G5.output.trans E4.output, Nat.le_trans E4.size G5.size, fun j hj => (G5.block j (by have := E4.size; have := hm0.out; omega) (by omega)).trans (E4.block j hj)⟩
            case measure => simp [intOf]; omega
        · have cm' : mayF (ta, tk, tp) = false := by simpa using cm
          rw [cm'] at hMay
          have hR : Hid (S.arm fs = (S, 1)) := by
            show _ = _
            unfold DS.arm
            rw [if_neg (by rw [hN.out]; omega)]
            have : armL S.c7 fs [] = none := by
              rw [hdrop.out]
              refine armL_none _ _ _ _ ?_
              rw [hsn.out, armL_snoc, hl.out]
              simp [cm']
            rw [this]
          rw [hR.out]
          go_upto_region 9 with fail
          rw [hw1.out]
          go_wp2_with (go_at_call 46; refine hMay.mono ?_; rintro e w2 ⟨rfl, B2⟩; replace B2 := hide B2)
          go_ret
          have E2 : Below w.heap.size w w2 := Bw.out.trans ((B1.out.trans (B2.out.mono B1.out.size)).mono Bw.out.size)
          exact ⟨rfl, O, (H.out.below E2).e, Sgo.of_below E2⟩
      · obtain rfl : k = N := by omega
        rw [List.take_of_length_le (by rw [hN.out]; omega)] at hl
        have hR : Hid (S.arm fs = ({ S with al := l }, 0)) := by
          show _ = _
          unfold DS.arm
          rw [if_neg (by rw [hN.out]; omega), hl.out]
        rw [hR.out]
        have Bw := hI.out.2
        rw [← hm0.out] at Bw
        obtain ⟨O', D', G'⟩ := H.out.armed Bw hI.out.1 (by rw [hm0.out]; exact Nat.le_refl _) (fun e he => by
          rcases armL_mem hl.out e he with z | ⟨z1, z2⟩
          · simp at z
          · have := h4'.out _ z1
            simp [mayF] at z2
            omega)
        have hbx := (H.out.below Bw).dk.cells
        have t1 : wr.cell? ⟨b, 5, none⟩ = some (.map am) := (H.out.below Bw).dk.box.cells.2.2.2.2.2
        have t2 : wr.frozen? ⟨b, 5, none⟩ = false := by simp [World.frozen?, hbx]
        replace D' := hide D'
        replace G' := hide G'
        clear hbx
        go_wp2_with fail
        go_ret
        exact ⟨by rw [hR.out]; rfl, O', by rw [hR.out]; exact D'.out.e, G'.out⟩
#print axioms arm_any
end Go.Proofs.Ytdelknejmapeaaa.Dk
