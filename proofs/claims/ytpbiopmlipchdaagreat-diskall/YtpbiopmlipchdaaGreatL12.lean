/-
  Arm.
-/
import Derived.Test.YtpbiopmlipchdaaGreatL11
import Derived.Test.YtpbiopmlipchdaaGreatProg
import Derived.Test.YtpbiopmlipchdaaGreatL01
namespace Go.Proofs.YtpbiopmlipchdaaGreat.Dk
open Go.RowKit Go.Maps Go.Sort Go.Shelf Go.Proofs.YtpbiopmlipchdaaGreat.Nm
theorem Dsk.armed {w w1 : World} {b m : Nat} {S : DS} {O : Nat → Prop} {f g : Nat} {pd : Value} {am : Option Nat} {VB VL : Nat → Value} {l : Ar} (h : Dsk w b S O f g pd am VB VL) (hB : Below w.heap.size w w1) (hm : Am w1 m l) (hn : w.heap.size ≤ m) (hcl : ∀ e ∈ l, (1 ≤ e.2.2.1 ∧ e.2.2.1 ≤ 3) ∧ 0 ≤ e.2.2.2) :
    ∃ O', Dsk (w1.setCell ⟨b, 5, none⟩ (.map (some m))) b { S with al := l } O' f g pd (some m) VB VL ∧ Sgo w (w1.setCell ⟨b, 5, none⟩ (.map (some m))) O O' := by
  have h1 := h.below hB
  obtain ⟨n1, n2, n3, n4⟩ := h1.dk.noB
  have hG := But.of_grownBy (X := fun k => k = b) (grown_setCell w1 b 5 (.map (some m))) fun k e => by cases e; rfl
  have hbm : m ≠ b := fun e => hm.ne h1.dk.cells e.symm
  have hx := heap_setCell_same w1 b 5 _ _ (.map (some m)) h1.dk.cells
  have hOl : ∀ k, Own b (S.dc f g pd am) k → k < w.heap.size := fun k hk => h.lt k (h.ow k hk)
  refine ⟨fun k => O k ∨ (w.heap.size ≤ k ∧ k < (w1.setCell ⟨b, 5, none⟩ (.map (some m))).heap.size), ⟨⟨hx, rfl, rfl, h1.dk.mf.but hG n1, h1.dk.mg.but hG n2, h1.dk.fg, h1.dk.pd.but hG n4, ?_, (fun e => by cases e), h1.dk.run, h1.dk.can, h1.dk.ok, h1.dk.c0, h1.dk.c1⟩, ?_, ?_, ?_, ?_, ?_⟩, ?_⟩
  · intro m' e
    simp only [DS.dc, Option.some.injEq] at e
    subst e
    refine ⟨hm.but hG hbm, fun e => ?_, fun e => ?_⟩
    · have := hOl f (.inr (.inl rfl)); omega
    · have := hOl g (.inr (.inr (.inl rfl))); omega
  · have k1 := h1.fs.but hG (fun p hp k hk e => h1.fs.no p hp k hk (.inl e))
    refine ⟨k1.at_, k1.ap, fun p hp k hk c => ?_⟩
    have hk2 := h.fs.lt hp k hk
    rcases c with c | c | c | c | c
    · exact k1.no p hp k hk (.inl c)
    · exact k1.no p hp k hk (.inr (.inl c))
    · exact k1.no p hp k hk (.inr (.inr (.inl c)))
    · exact k1.no p hp k hk (.inr (.inr (.inr (.inl c))))
    · simp only [DS.dc, Option.some.injEq] at c; omega
  · intro k hk
    rcases hk with c | c | c | c | c
    · exact .inl (h.ow k (.inl c))
    · exact .inl (h.ow k (.inr (.inl c)))
    · exact .inl (h.ow k (.inr (.inr (.inl c))))
    · exact .inl (h.ow k (.inr (.inr (.inr (.inl c)))))
    · simp only [DS.dc, Option.some.injEq] at c; subst c; exact .inr ⟨hn, Nat.lt_of_lt_of_le hm.lt hG.size⟩
  · exact fun p hp k hk => .inl (h.of p hp k hk)
  · rintro k (q | q)
    · exact Nat.lt_of_lt_of_le (h1.lt k q) hG.size
    · exact q.2
  · exact ⟨h.ok.most, h.ok.sz, h.ok.cnt, hcl, h.ok.by8⟩
  · refine ⟨(But.of_below hB _).trans (hG.mono fun k _ e => by rw [e]; exact h.ow b (.inl rfl)), ?_⟩
    rintro k (q | q)
    · exact .inl q
    · exact .inr q.1
set_option maxRecDepth 100000 in
set_option maxHeartbeats 2000000 in
theorem arm_any {w : World} {b : Nat} {S : DS} {O : Nat → Prop} {f g : Nat} {pd : Value} {am : Option Nat} {VB VL : Nat → Value} (h : Dsk w b S O f g pd am VB VL) (hc : S.c7 < 900000000) (v : Value) (fs : List Ft) (hv : Fts w v fs) (h4 : ∀ t ∈ fs, t.2.1 ≠ 4) :
    Calls Tryz.prog 59 #[.pointer (some ⟨b, 0, none⟩), v] w (Does w b O (S.arm fs)) := by
  have hM := made_any w _ _ h.dk.dp
  rw [show madeD (some (S.dc f g pd am)) = true from rfl] at hM
  have H := hide h
  obtain ⟨ao, ca, rfl, q1, q2, q3⟩ := hv
  have q2' : (ca : Int) ≤ 9223372036854775807 := by unfold maxLen at q2; omega
  replace q3 := hide q3
  obtain ⟨N, hN⟩ : ∃ N, Hid (fs.length = N) := ⟨_, rfl⟩
  rw [hN.out] at q1 ⊢
  have hc7 : Hid (∀ q, Below w.heap.size w q → q.cell? ⟨b, 13, none⟩ = some (.int .i64 S.c7)) := fun q hq => (H.out.below hq).dk.box.all.1
  have hc70 : 0 ≤ S.c7 := by have := h.dk.c0; exact this.2.2.2.2.2.2.2
  clear h
  by_cases c64 : 64 < N
  · have hR : Hid (S.arm fs = (S, 1)) := by show _ = _; unfold DS.arm; rw [if_pos (by rw [hN.out]; exact c64)]
    rw [hR.out]
    have i1 : (64 : Int) < (N : Int) := by omega
    go_enter Tryz.func59, Tryz.ntmps59
    go_wp2_with (go_at_call 79; refine hM.mono ?_; rintro e w1 ⟨rfl, e1⟩; subst w1)
    go_ret
    exact ⟨rfl, O, H.out.e, Sgo.refl _ _⟩
  · have i1 : ¬ (64 : Int) < (N : Int) := by omega
    have hmm := @run_makeMap Tryz.prog
    obtain ⟨m, hm0⟩ : ∃ m, Hid (w.heap.size = m) := ⟨_, rfl⟩
    have A0 : Hid (Am (w.alloc (.map #[] 0)) m []) := by show Am _ _ _; rw [← hm0.out]; exact Am.of (l := []) (World.ownsMap_made w _ _ _)
    have B0 := hide (box_below w (.map #[] 0))
    have h4' := hide h4
    clear h4
    go_enter Tryz.func59, Tryz.ntmps59
    go_wp2_with (go_at_call 79; refine hM.mono ?_; rintro e w1 ⟨rfl, e1⟩; subst w1)
    rw [hm0.out]
    clear hmm hM
    go_loopw [20] (fun i wr => ∃ k : Nat, i = .int .i64 k ∧ k ≤ N ∧ ∃ l : Ar, Hid (armL S.c7 (fs.take k) [] = some l) ∧ Hid (Am wr m l ∧ Below m w wr)) (fun i _ => N - (intOf i).toNat)
    case atStart => exact ⟨0, rfl, Nat.zero_le _, [], rfl, A0.out, by rw [← hm0.out]; exact B0.out⟩
    case round =>
      obtain ⟨k, rfl, hk, l, hl, hI⟩ := hrel
      by_cases hlt : k < N
      · have i2 : (k : Int) < (N : Int) := by omega
        have hkl : k < fs.length := by rw [hN.out]; exact hlt
        obtain ⟨gb, off, rfl, f1, f2, f3⟩ := q3.out k hkl
        have hsn : Hid (fs.take (k + 1) = fs.take k ++ [fs[k]]) := List.take_succ_eq_append_getElem hkl
        have hdrop : Hid (fs = fs.take (k + 1) ++ fs.drop (k + 1)) := (List.take_append_drop _ _).symm
        have hll := armL_len hl.out
        rw [List.length_take] at hll
        simp only [List.length_nil, Nat.zero_add] at hll
        have Bw := hI.out.2
        rw [← hm0.out] at Bw
        have f1' := (Bw.cell (p := ⟨gb, off + k * 3, none⟩) (lt_of_cell f1)).trans f1
        have f2' := (Bw.cell (p := ⟨gb, off + k * 3 + 1, none⟩) (lt_of_cell f2)).trans f2
        have f3' := (Bw.cell (p := ⟨gb, off + k * 3 + 2, none⟩) (lt_of_cell f3)).trans f3
        replace Bw := hide Bw
        clear f1 f2 f3
        generalize fs[k] = t at *
        clear hkl
        obtain ⟨ta, tk, tp⟩ := t
        dsimp only at f1' f2' f3'
        obtain ⟨w1, hw1⟩ : ∃ w1, Hid (wr.alloc (.cells #[.int .i64 ta, .int .i64 tk, .int .i64 tp] 118) = w1) := ⟨_, rfl⟩
        have B1 : Hid (Below wr.heap.size wr w1) := by show Below _ _ _; rw [← hw1.out]; exact box_below wr _
        have N1 : Hid (w1.heap[wr.heap.size]? = some (.cells #[.int .i64 ta, .int .i64 tk, .int .i64 tp] 118 (0, 0))) := by show _ = _; rw [← hw1.out]; exact heap_alloc_new wr _
        have hMay := mayBefall_any w1 (ta, tk, tp)
        dsimp only at hMay
        have A1 : Hid (Am w1 m l) := hI.out.1.heap (B1.out.block m hI.out.1.lt)
        obtain ⟨x0, x1, x2⟩ := cells3 N1.out
        have zm : Hid (m < wr.heap.size) := hI.out.1.lt
        by_cases cm : mayF (ta, tk, tp) = true
        · rw [cm] at hMay
          have ha1 : 1 ≤ ta ∧ ta ≤ 4294967296 := by simp [mayF] at cm; omega
          have hww : IntKind.i64.wrap (S.c7 + ta) = S.c7 + ta := by rw [IntKind.wrap_i64]; omega
          have k0 : -9223372036854775808 ≤ S.c7 + ta := by omega
          have k1 : S.c7 + ta ≤ 9223372036854775807 := by omega
          have hlook : Hid (∀ q, Am q m l → _) := fun q hq => hq.look_ok (n := S.c7 + ta) k0 k1
          unfold TA fv at hlook
          cases hg : aget l (S.c7 + ta) with
          | some u =>
            rw [hg] at hlook
            simp only [Option.getD_some, Option.isSome_some] at hlook
            obtain ⟨ua, uk, up⟩ := u
            dsimp only at hlook
            have hR : Hid (S.arm fs = (S, 1)) := by
              show _ = _
              unfold DS.arm
              rw [if_neg (by rw [hN.out]; omega)]
              have : armL S.c7 fs [] = none := by
                rw [hdrop.out]
                refine armL_none _ _ _ _ ?_
                rw [hsn.out, armL_snoc, hl.out]
                simp [hg]
              rw [this]
            rw [hR.out]
            go_upto_region 9 with fail
            rw [hw1.out]
            go_upto_region 11 with (go_at_call 102; refine hMay.mono ?_; rintro e w2 ⟨rfl, B2⟩; replace B2 := hide B2; have N2 : Hid (w2.heap[wr.heap.size]? = some (.cells #[.int .i64 ta, .int .i64 tk, .int .i64 tp] 118 (0, 0))) := (B2.out.block _ (heap_lt N1.out)).trans N1.out)
            obtain ⟨y0, y1, y2⟩ := cells3 N2.out
            have E2 : Hid (Below w.heap.size w w2) := Bw.out.trans ((B1.out.trans (B2.out.mono B1.out.size)).mono Bw.out.size)
            have y3 := hc7.out w2 E2.out
            go_quiet (fail)
            have A2 : Hid (Am (w2.drewN nq) m l) := A1.out.heap (B2.out.block m A1.out.lt)
            have hL2 := hlook.out _ A2.out
            have E3 : Hid (Below w.heap.size w (w2.drewN nq)) := E2.out.trans (Qt.below ⟨nq, rfl⟩ _)
            generalize w2.drewN nq = w3 at *
            clear y0 y1 y2 y3 x0 x1 x2 f1' f2' f3' hlook
            go_wp2_with fail
            go_ret
            have B4 := E3.out.trans ((box_below w3 (.cells #[.int .i64 ua, .int .i64 uk, .int .i64 up] 118)).mono E3.out.size)
            exact ⟨rfl, O, (H.out.below B4).e, Sgo.of_below B4⟩
          | none =>
            rw [hg] at hlook
            simp only [Option.getD_none, Option.isSome_none] at hlook
            unfold zf at hlook
            dsimp only at hlook
            have hl2 : Hid (armL S.c7 (fs.take (k + 1)) [] = some (aput l (S.c7 + ta) (ta, tk, tp))) := by
              show _ = _
              rw [hsn.out, armL_snoc, hl.out]
              simp [cm, hg]
            go_upto_region 9 with fail
            rw [hw1.out]
            go_upto_region 11 with (go_at_call 102; refine hMay.mono ?_; rintro e w2 ⟨rfl, B2⟩; replace B2 := hide B2; have N2 : Hid (w2.heap[wr.heap.size]? = some (.cells #[.int .i64 ta, .int .i64 tk, .int .i64 tp] 118 (0, 0))) := (B2.out.block _ (heap_lt N1.out)).trans N1.out)
            obtain ⟨y0, y1, y2⟩ := cells3 N2.out
            have E2 : Hid (Below w.heap.size w w2) := Bw.out.trans ((B1.out.trans (B2.out.mono B1.out.size)).mono Bw.out.size)
            have y3 := hc7.out w2 E2.out
            go_quiet (fail)
            have A2 : Hid (Am (w2.drewN nq) m l) := A1.out.heap (B2.out.block m A1.out.lt)
            have hL2 := hlook.out _ A2.out
            have E3 : Hid (Below w.heap.size w (w2.drewN nq)) := E2.out.trans (Qt.below ⟨nq, rfl⟩ _)
            replace N2 : Hid ((w2.drewN nq).heap[wr.heap.size]? = some (.cells #[.int .i64 ta, .int .i64 tk, .int .i64 tp] 118 (0, 0))) := N2.out
            generalize w2.drewN nq = w3 at *
            clear y0 y1 y2 y3 x0 x1 x2 f1' f2' f3' hlook
            obtain ⟨w4, hw4⟩ : ∃ w4, Hid (w3.alloc (.cells #[.int .i64 0, .int .i64 0, .int .i64 0] 118) = w4) := ⟨_, rfl⟩
            have B4 : Hid (Below w3.heap.size w3 w4) := by show Below _ _ _; rw [← hw4.out]; exact box_below w3 _
            have A4 : Hid (Am w4 m l) := A2.out.heap (B4.out.block m A2.out.lt)
            have N4 : Hid (w4.heap[wr.heap.size]? = some (.cells #[.int .i64 ta, .int .i64 tk, .int .i64 tp] 118 (0, 0))) := (B4.out.block _ (heap_lt N2.out)).trans N2.out
            obtain ⟨y0, y1, y2⟩ := cells3 N4.out
            obtain ⟨w5, hU, A5, T5⟩ := A4.out.store (n := S.c7 + ta) (f := (ta, tk, tp)) k0 k1 (by unfold maxLen; omega)
            unfold TA fv at hU
            dsimp only at hU
            replace A5 := hide A5
            replace T5 := hide T5
            go_upto_region 15 with fail
            rw [hw4.out]
            go_wp2_with fail
            go_roundw
            case rel =>
              refine ⟨k + 1, by go_num, by omega, _, hl2.out, A5.out, ?_⟩
              have E4 := E3.out.trans (B4.out.mono E3.out.size)
              rw [hm0.out] at E4
              have G5 := turned_but T5.out
              exact ⟨G5.os.trans E4.os, G5.tape.trans E4.tape, G5.output.trans E4.output, Nat.le_trans E4.size G5.size, fun j hj => (G5.block j (by have := E4.size; have := hm0.out; omega) (by omega)).trans (E4.block j hj)⟩
            case measure => simp [intOf]; omega
        · have cm' : mayF (ta, tk, tp) = false := by simpa using cm
          rw [cm'] at hMay
          have hR : Hid (S.arm fs = (S, 1)) := by
            show _ = _
            unfold DS.arm
            rw [if_neg (by rw [hN.out]; omega)]
            have : armL S.c7 fs [] = none := by
              rw [hdrop.out]
              refine armL_none _ _ _ _ ?_
              rw [hsn.out, armL_snoc, hl.out]
              simp [cm']
            rw [this]
          rw [hR.out]
          go_upto_region 9 with fail
          rw [hw1.out]
          go_wp2_with (go_at_call 102; refine hMay.mono ?_; rintro e w2 ⟨rfl, B2⟩; replace B2 := hide B2)
          go_ret
          have E2 : Below w.heap.size w w2 := Bw.out.trans ((B1.out.trans (B2.out.mono B1.out.size)).mono Bw.out.size)
          exact ⟨rfl, O, (H.out.below E2).e, Sgo.of_below E2⟩
      · obtain rfl : k = N := by omega
        rw [List.take_of_length_le (by rw [hN.out]; omega)] at hl
        have hR : Hid (S.arm fs = ({ S with al := l }, 0)) := by
          show _ = _
          unfold DS.arm
          rw [if_neg (by rw [hN.out]; omega), hl.out]
        rw [hR.out]
        have Bw := hI.out.2
        rw [← hm0.out] at Bw
        obtain ⟨O', D', G'⟩ := H.out.armed Bw hI.out.1 (by rw [hm0.out]; exact Nat.le_refl _) (fun e he => by
          rcases armL_mem hl.out e he with z | ⟨z1, z2⟩
          · simp at z
          · have := h4'.out _ z1
            simp [mayF] at z2
            omega)
        have hbx := (H.out.below Bw).dk.cells
        have t1 : wr.cell? ⟨b, 5, none⟩ = some (.map am) := (H.out.below Bw).dk.box.cells.2.2.2.2.2
        have t2 : wr.frozen? ⟨b, 5, none⟩ = false := by simp [World.frozen?, hbx]
        replace D' := hide D'
        replace G' := hide G'
        clear hbx
        go_wp2_with fail
        go_ret
        exact ⟨by rw [hR.out]; rfl, O', by rw [hR.out]; exact D'.out.e, G'.out⟩
end Go.Proofs.YtpbiopmlipchdaaGreat.Dk
namespace Go.Proofs.YtpbiopmlipchdaaGreat.Dk
open Go.RowKit Go.Maps Go.Sort Go.Shelf Go.Proofs.YtpbiopmlipchdaaGreat.Nm
theorem flt_none {S : DS} (h : S.al = []) : S.flt = zf := by unfold DS.flt; rw [h]; rfl
theorem hit_none {S : DS} (h : S.al = []) (j : Nat) : S.hit j = S.beg j := by
  unfold DS.hit DS.str
  rw [flt_none h]
  rfl
theorem ref_up {S : DS} (h : S.up = true) {s : ByteArray} (hm : may s.data.toList = true) : S.ref [s] = 0 := by
  unfold DS.ref
  rw [h]
  simp [hm]
theorem find_get {S : DS} (h : S.up = true) {s : ByteArray} (hm : may s.data.toList = true) {p : Nat} (hg : get S.dir s.data.toList = some p) : S.find s = (some p, 0) := by
  unfold DS.find
  rw [ref_up h hm, if_pos rfl, hg]
theorem may_a : may sA.data.toList = true := by decide
structure Fil (S : DS) (M pa pb a b : Nat) : Prop where
  up : S.up = true
  al : S.al = []
  most : S.most = (M : Int)
  dir : S.dir = [([97], pa), ([98], pb)]
  ne : pa ≠ pb
  fa : (S.F pa).by_.length = a
  fb : (S.F pb).by_.length = b
theorem Fil.room {S : DS} {M pa pb a b : Nat} (h : Fil S M pa pb a b) (hab : a + b ≤ M) : S.room = ((M - a - b : Nat) : Int) := by
  unfold DS.room
  rw [h.dir, h.most]
  simp only [sumL, List.map_cons, List.map_nil, List.sum_cons, List.sum_nil, h.fa, h.fb]
  omega
theorem Fil.apN {S : DS} {M pa pb a b : Nat} (h : Fil S M pa pb a b) (hab : a + b ≤ M) (len : Nat) : S.apN len = min (M - a - b) len := by
  unfold DS.apN
  rw [flt_none h.al, if_neg (by decide), h.room hab]
  omega
structure Fil1 (S : DS) (M pb b : Nat) : Prop where
  up : S.up = true
  al : S.al = []
  most : S.most = (M : Int)
  dir : S.dir = [([98], pb)]
  fb : (S.F pb).by_.length = b
theorem Fil.remove {S : DS} {M pa pb a b : Nat} (h : Fil S M pa pb a b) : (S.remove sA).2 = 0 ∧ Fil1 (S.remove sA).1 M pb b ∧ (S.remove sA).1.c7 = S.c7 + 1 := by
  have e : S.remove sA = ({ S.hit 5 with P := S.P ++ [.rm sA] }, 0) := by
    unfold DS.remove
    rw [find_get h.up may_a (p := pa) (by rw [h.dir]; rfl), if_neg (by simp), flt_none h.al, if_neg (by decide)]
  rw [e, hit_none h.al]
  refine ⟨rfl, ⟨h.up, ?_, h.most, ?_, h.fb⟩, rfl⟩
  · show adel S.al _ = []
    rw [h.al]; rfl
  · show runs S.l2 (S.P ++ [.rm sA]) = _
    rw [runs_snoc]
    show (Ch.rm sA).run S.dir = _
    rw [h.dir]
    rfl
theorem Fil1.create {S : DS} {M pb b p : Nat} (h : Fil1 S M pb b) (hp : p ∉ S.ps) : (S.create sA p).2 = 0 ∧ Fil (S.create sA p).1 M p pb 0 b ∧ (S.create sA p).1.c7 = S.c7 + 1 := by
  have hb : pb ∈ S.ps := DS.mem_dir (n := [98]) (by rw [h.dir]; rfl)
  have hne : p ≠ pb := fun e => hp (by rw [e]; exact hb)
  have e : S.create sA p = ({ (S.beg 0).str S.flt.2.1 with P := S.P ++ [.cr sA p], F := upd S.F p ⟨[], [], 0⟩ }, 0) := by
    unfold DS.create
    rw [ref_up h.up may_a, if_neg (by simp), h.dir, if_neg (by simp [get, sA]), if_neg (by simp), flt_none h.al, if_neg (by decide)]
  rw [e, flt_none h.al]
  refine ⟨rfl, ⟨h.up, ?_, h.most, ?_, hne, ?_, ?_⟩, rfl⟩
  · show adel S.al _ = []
    rw [h.al]; rfl
  · show runs S.l2 (S.P ++ [.cr sA p]) = _
    rw [runs_snoc]
    show (Ch.cr sA p).run S.dir = _
    rw [h.dir]
    rfl
  · show (upd S.F p _ p).by_.length = _
    rw [upd_same]; rfl
  · show (upd S.F p _ pb).by_.length = _
    rw [upd_ne _ _ (Ne.symm hne)]
    exact h.fb
theorem Fil.size {S : DS} {M pa pb a b : Nat} (h : Fil S M pa pb a b) : S.size sA = ((a : Int), 0) := by
  unfold DS.size
  rw [find_get h.up may_a (p := pa) (by rw [h.dir]; rfl)]
  show (((S.F pa).by_.length : Int), _) = _
  rw [h.fa]
end Go.Proofs.YtpbiopmlipchdaaGreat.Dk
namespace Go.Proofs.YtpbiopmlipchdaaGreat.Dk
open Go.RowKit Go.Maps Go.Sort Go.Shelf Go.Proofs.YtpbiopmlipchdaaGreat.Nm
structure One (S : DS) (s : ByteArray) (M : Nat) (p : Nat) (t : Fl) (c : Int) (l : Ar) : Prop where
  up : S.up = true
  most : S.most = (M : Int)
  l2 : S.l2 = [(s.data.toList, p)]
  P : S.P = []
  al : S.al = l
  c7 : S.c7 = c
  F : S.F p = t
  le : t.la.length ≤ t.by_.length
theorem One.dir {S : DS} {s : ByteArray} {M p : Nat} {t : Fl} {c : Int} {l : Ar} (h : One S s M p t c l) : S.dir = [(s.data.toList, p)] := by unfold DS.dir; rw [h.l2, h.P]; rfl
theorem get_one (n : List UInt8) (p : Nat) : get [(n, p)] n = some p := by simp [get]
theorem One.find {S : DS} {s : ByteArray} {M p : Nat} {t : Fl} {c : Int} {l : Ar} (h : One S s M p t c l) (hm : may s.data.toList = true) : S.find s = (some p, 0) := find_get h.up hm (by rw [h.dir]; exact get_one _ _)
theorem One.room {S : DS} {s : ByteArray} {M p : Nat} {t : Fl} {c : Int} {l : Ar} (h : One S s M p t c l) (hb : t.by_.length ≤ M) : S.room = ((M - t.by_.length : Nat) : Int) := by
  unfold DS.room
  rw [h.dir, h.most]
  simp only [sumL, List.map_cons, List.map_nil, List.sum_cons, List.sum_nil, h.F]
  omega
theorem One.append {S : DS} {s : ByteArray} {M p : Nat} {t : Fl} {c : Int} (h : One S s M p t c []) (hm : may s.data.toList = true) (D : List UInt8) (hD : t.by_.length + D.length ≤ M) :
    (S.append s D).2.1 = (D.length : Int) ∧ (S.append s D).2.2 = 0 ∧ One (S.append s D).1 s M p (apF t D) (c + 1) [] := by
  have hn : S.apN D.length = D.length := by
    unfold DS.apN
    rw [flt_none h.al, if_neg (by decide), h.room (by omega)]
    omega
  have e : S.append s D = ({ (S.beg 1).str S.flt.2.1 with F := upd S.F p (apF (S.F p) (D.take (S.apN D.length))), c8 := S.c8 + (S.apN D.length : Int) }, (S.apN D.length : Int), if strF S.flt.2.1 ≠ 0 then strF S.flt.2.1 else if S.apN D.length < D.length then 21 else 0) := by
    unfold DS.append
    rw [h.find hm]
  rw [e, hn, flt_none h.al, List.take_length]
  refine ⟨rfl, ?_, ⟨h.up, h.most, h.l2, h.P, ?_, ?_, ?_, ?_⟩⟩
  · show (if strF 0 ≠ 0 then strF 0 else if D.length < D.length then 21 else 0) = 0
    rw [if_neg (by decide), if_neg (by omega)]
  · show adel S.al _ = []
    rw [h.al]; rfl
  · show S.c7 + 1 = _
    rw [h.c7]
  · show upd S.F p _ p = _
    rw [upd_same, h.F]
  · have := h.le; simp [apF]; omega
theorem One.sync {S : DS} {s : ByteArray} {M p : Nat} {t : Fl} {c : Int} (h : One S s M p t c []) (hm : may s.data.toList = true) (hl : (syF t).la.length ≤ t.by_.length) : (S.sync s).2 = 0 ∧ One (S.sync s).1 s M p (syF t) (c + 1) [] := by
  have e : S.sync s = ({ S.beg 2 with F := upd S.F p (syF (S.F p)) }, 0) := by
    unfold DS.sync
    rw [h.find hm]
    dsimp only
    rw [flt_none h.al, if_neg (by decide), if_neg (by decide)]
  rw [e]
  refine ⟨rfl, ⟨h.up, h.most, h.l2, h.P, ?_, ?_, ?_, hl⟩⟩
  · show adel S.al _ = []
    rw [h.al]; rfl
  · show S.c7 + 1 = _
    rw [h.c7]
  · show upd S.F p _ p = _
    rw [upd_same, h.F]
theorem One.arm {S : DS} {s : ByteArray} {M p : Nat} {t : Fl} {c : Int} {l : Ar} (h : One S s M p t c l) : (S.arm [(1, 1, 0)]).2 = 0 ∧ One (S.arm [(1, 1, 0)]).1 s M p t c [(c + 1, (1, 1, 0))] := by
  have e : S.arm [(1, 1, 0)] = ({ S with al := [(S.c7 + 1, (1, 1, 0))] }, 0) := by
    unfold DS.arm
    rw [if_neg (by decide)]
    rfl
  rw [e]
  refine ⟨rfl, ⟨h.up, h.most, h.l2, h.P, ?_, h.c7, h.F, h.le⟩⟩
  show [(S.c7 + 1, _)] = _
  rw [h.c7]
theorem One.fail {S : DS} {s : ByteArray} {M p : Nat} {t : Fl} {c : Int} (h : One S s M p t c [(c + 1, (1, 1, 0))]) (hm : may s.data.toList = true) : (S.sync s).2 = 20 ∧ One (S.sync s).1 s M p (spF t) (c + 1) [] := by
  have hf : S.flt = (1, 1, 0) := by unfold DS.flt aget; rw [h.al, h.c7]; simp
  have e : S.sync s = ({ S.beg 2 with F := upd S.F p (spF (S.F p)) }, 20) := by
    unfold DS.sync
    rw [h.find hm]
    dsimp only
    rw [hf, if_pos rfl]
  rw [e]
  refine ⟨rfl, ⟨h.up, h.most, h.l2, h.P, ?_, ?_, ?_, h.le⟩⟩
  · show adel S.al (S.c7 + 1) = []
    rw [h.al, h.c7]; simp [adel]
  · show S.c7 + 1 = _
    rw [h.c7]
  · show upd S.F p _ p = _
    rw [upd_same, h.F]
theorem One.read {S : DS} {s : ByteArray} {M p : Nat} {t : Fl} {c : Int} {l : Ar} (h : One S s M p t c l) (hm : may s.data.toList = true) : S.read s 0 (t.by_.length : Int) = (t.by_, 0) := by
  unfold DS.read
  rw [h.find hm]
  dsimp only
  rw [h.F, if_pos (by omega)]
  simp
theorem One.crash {S : DS} {s : ByteArray} {M p : Nat} {t : Fl} {c : Int} {l : Ar} (h : One S s M p t c l) : One (S.crash 0 []) s M p (crFl t (0, [])) c [] := by
  have hf : S.front 0 = [(s.data.toList, p)] := by unfold DS.front; rw [h.P, h.l2]; rfl
  have e : S.crash 0 [] = { S with up := true, l2 := [(s.data.toList, p)], P := [], al := [], F := upd S.F p (crFl (S.F p) (0, [])) } := by
    unfold DS.crash
    rw [hf, nms_one]
    have : crashL [(s.data.toList, p)] [s.data.toList] [] S.F = upd S.F p (crFl (S.F p) (0, [])) := by
      simp only [crashL, crash1, get_one]
      rfl
    rw [this]
  rw [e]
  exact ⟨rfl, h.most, rfl, rfl, rfl, h.c7, by show upd S.F p _ p = _; rw [upd_same, h.F], Nat.le_refl _⟩
end Go.Proofs.YtpbiopmlipchdaaGreat.Dk
namespace Go.Proofs.YtpbiopmlipchdaaGreat.Dk
open Go.RowKit Go.Maps Go.Sort Go.Shelf Go.Proofs.YtpbiopmlipchdaaGreat.Nm
end Go.Proofs.YtpbiopmlipchdaaGreat.Dk
namespace Go.Proofs.YtpbiopmlipchdaaGreat
open Go.RowKit
set_option maxHeartbeats 800000 in
theorem eq_any (w : World) (ao bo : Option Addr) (l m : List UInt8) (ca cb : Nat) (hl : l.length ≤ maxLen) (hm : m.length ≤ maxLen) (ha : Rd w ao l) (hb : Rd w bo m) :
    Calls Tryz.prog 21 #[.slice ao l.length ca, .slice bo m.length cb] w fun e w' => e = .returned (.bool (decide (l = m))) ∧ Qt w w' := by
  unfold maxLen at hl hm
  by_cases hn : (l.length : Int) = (m.length : Int)
  · have hn' : (((l.length : Nat) : Int) != ((m.length : Nat) : Int)) = false := by simp; omega
    have HN : Hid (l.length = m.length) := by show _ = _; omega
    clear hn
    go_enter Tryz.func21, Tryz.ntmps21
    go_wp2
    go_loopw [5] (fun i wr => ∃ k : Nat, k ≤ l.length ∧ i = .int .i64 k ∧ Qt w wr ∧ Hid (l.take k = m.take k)) (fun i _ => l.length - (intOf i).toNat)
    case atStart => exact ⟨0, Nat.zero_le _, rfl, Qt.refl _, by simp [Hid]⟩
    case round =>
      obtain ⟨k, hk, rfl, ⟨nq, rfl⟩, heq⟩ := hrel
      by_cases hlt : k < l.length
      · obtain ⟨b1, o1, rfl, h1⟩ := ha.at (by omega)
        obtain ⟨b2, o2, rfl, h2⟩ := hb.at (by have := HN.out; omega)
        have hlt2 : k < m.length := by have := HN.out; omega
        have c1 := h1 k hlt
        have c2 := h2 k hlt2
        clear h1 h2
        cases hc : ((l[k].toNat : Int) != (m[k].toNat : Int))
        · have HS : Hid (l.take (k + 1) = m.take (k + 1)) := by
            show _ = _
            rw [take_snoc l k hlt, take_snoc m k hlt2, heq.out, u8_eq hc]
          go_wp2
          go_quiet (fail)
          go_wp2
          go_roundw
          case rel => exact ⟨k + 1, by omega, by go_num, ⟨_, rfl⟩, HS⟩
          case measure => simp [intOf]; omega
        · have HS : Hid (decide (l = m) = false) := by
            show _ = _
            exact decide_eq_false (ne_at k hlt hlt2 (u8_ne hc))
          go_wp2
          go_quiet (fail)
          go_wp2
          go_ret
          exact ⟨ret_bool (by rw [HS.out]), Qt.drewN ⟨_, rfl⟩ _⟩
      · have HS : Hid (decide (l = m) = true) := by
          show _ = _
          exact decide_eq_true (take_eq_all HN.out k (by omega) heq.out)
        go_wp2
        go_ret
        exact ⟨ret_bool (by rw [HS.out]), ⟨_, rfl⟩⟩
  · have hn' : (((l.length : Nat) : Int) != ((m.length : Nat) : Int)) = true := by simp; omega
    have HS : Hid (decide (l = m) = false) := by
      show _ = _
      exact decide_eq_false (by rintro rfl; exact hn rfl)
    clear hn
    go_enter Tryz.func21, Tryz.ntmps21
    go_wp2
    go_ret
    exact ⟨ret_bool (by rw [HS.out]), Qt.refl _⟩
end Go.Proofs.YtpbiopmlipchdaaGreat
namespace Go.Proofs.YtpbiopmlipchdaaGreat.Dk
open Go.RowKit Go.Maps Go.Sort Go.Shelf Go.Proofs.YtpbiopmlipchdaaGreat.Nm
def sF : ByteArray := ⟨#[102]⟩
structure OI (w q : World) (b : Nat) (S : DS) (O : Nat → Prop) (p : Nat) (t : Fl) (c : Int) (l : Ar) : Prop where
  d : DskE q b S O
  o : One S sF 1048576 p t c l
  bel : Below w.heap.size w q
  lo : ∀ k, O k → w.heap.size ≤ k
theorem OI.below {w q q' : World} {b : Nat} {S : DS} {O : Nat → Prop} {p : Nat} {t : Fl} {c : Int} {l : Ar} (h : OI w q b S O p t c l) (hb : Below q.heap.size q q') : OI w q' b S O p t c l :=
  ⟨h.d.below hb, h.o, h.bel.trans (hb.mono h.bel.size), h.lo⟩
theorem OI.step {w q q' : World} {b : Nat} {S S' : DS} {O O' : Nat → Prop} {p : Nat} {t t' : Fl} {c c' : Int} {l l' : Ar} (h : OI w q b S O p t c l) (hd : DskE q' b S' O') (ho : One S' sF 1048576 p t' c' l') (hg : Sgo q q' O O') : OI w q' b S' O' p t' c' l' :=
  ⟨hd, ho, hg.under h.lo (Nat.le_refl _) h.bel, hg.low h.bel.size h.lo⟩
end Go.Proofs.YtpbiopmlipchdaaGreat.Dk
namespace Go.Proofs.YtpbiopmlipchdaaGreat.Dk
open Go.RowKit Go.Maps Go.Sort Go.Shelf Go.Proofs.YtpbiopmlipchdaaGreat.Nm
structure Cm (S : DS) (M : Nat) (L2 : Dr) (PP : List Ch) (F : Nat → Fl) (c : Int) : Prop where
  up : S.up = true
  al : S.al = []
  most : S.most = (M : Int)
  l2 : S.l2 = L2
  P : S.P = PP
  F : S.F = F
  c7 : S.c7 = c
theorem Cm.dir {S : DS} {M : Nat} {L2 : Dr} {PP : List Ch} {F : Nat → Fl} {c : Int} (h : Cm S M L2 PP F c) : S.dir = runs L2 PP := by unfold DS.dir; rw [h.l2, h.P]
theorem Cm.find {S : DS} {M : Nat} {L2 : Dr} {PP : List Ch} {F : Nat → Fl} {c : Int} (h : Cm S M L2 PP F c) {s : ByteArray} {p : Nat} (hm : may s.data.toList = true) (hg : get (runs L2 PP) s.data.toList = some p) : S.find s = (some p, 0) := find_get h.up hm (by rw [h.dir]; exact hg)
theorem Cm.create {S : DS} {M : Nat} {L2 : Dr} {PP : List Ch} {F : Nat → Fl} {c : Int} (h : Cm S M L2 PP F c) {s : ByteArray} (hm : may s.data.toList = true) (hg : get (runs L2 PP) s.data.toList = none) (hl : (runs L2 PP).length < 256) (p : Nat) :
    (S.create s p).2 = 0 ∧ Cm (S.create s p).1 M L2 (PP ++ [.cr s p]) (upd F p ⟨[], [], 0⟩) (c + 1) := by
  have e : S.create s p = ({ (S.beg 0).str S.flt.2.1 with P := S.P ++ [.cr s p], F := upd S.F p ⟨[], [], 0⟩ }, 0) := by
    unfold DS.create
    rw [ref_up h.up hm, if_neg (by simp), h.dir, hg, if_neg (by simp), if_neg (by omega), flt_none h.al, if_neg (by decide)]
  rw [e, flt_none h.al]
  refine ⟨rfl, ⟨h.up, ?_, h.most, h.l2, ?_, ?_, ?_⟩⟩
  · show adel S.al _ = []; rw [h.al]; rfl
  · show S.P ++ _ = _; rw [h.P]
  · show upd S.F p _ = _; rw [h.F]
  · show S.c7 + 1 = _; rw [h.c7]
theorem Cm.append {S : DS} {M : Nat} {L2 : Dr} {PP : List Ch} {F : Nat → Fl} {c : Int} (h : Cm S M L2 PP F c) {s : ByteArray} {p : Nat} (hm : may s.data.toList = true) (hg : get (runs L2 PP) s.data.toList = some p) (D : List UInt8) (hD : sumL F (runs L2 PP) + D.length ≤ M) :
    (S.append s D).2.1 = (D.length : Int) ∧ (S.append s D).2.2 = 0 ∧ Cm (S.append s D).1 M L2 PP (upd F p (apF (F p) D)) (c + 1) := by
  have hn : S.apN D.length = D.length := by
    unfold DS.apN DS.room
    rw [flt_none h.al, if_neg (by decide), h.dir, h.F, h.most]
    omega
  have e : S.append s D = ({ (S.beg 1).str S.flt.2.1 with F := upd S.F p (apF (S.F p) (D.take (S.apN D.length))), c8 := S.c8 + (S.apN D.length : Int) }, (S.apN D.length : Int), if strF S.flt.2.1 ≠ 0 then strF S.flt.2.1 else if S.apN D.length < D.length then 21 else 0) := by
    unfold DS.append
    rw [h.find hm hg]
  rw [e, hn, flt_none h.al, List.take_length]
  refine ⟨rfl, ?_, ⟨h.up, ?_, h.most, h.l2, h.P, ?_, ?_⟩⟩
  · show (if strF 0 ≠ 0 then strF 0 else if D.length < D.length then 21 else 0) = 0
    rw [if_neg (by decide), if_neg (by omega)]
  · show adel S.al _ = []; rw [h.al]; rfl
  · show upd S.F p (apF (S.F p) D) = _; rw [h.F]
  · show S.c7 + 1 = _; rw [h.c7]
theorem Cm.sync {S : DS} {M : Nat} {L2 : Dr} {PP : List Ch} {F : Nat → Fl} {c : Int} (h : Cm S M L2 PP F c) {s : ByteArray} {p : Nat} (hm : may s.data.toList = true) (hg : get (runs L2 PP) s.data.toList = some p) :
    (S.sync s).2 = 0 ∧ Cm (S.sync s).1 M L2 PP (upd F p (syF (F p))) (c + 1) := by
  have e : S.sync s = ({ S.beg 2 with F := upd S.F p (syF (S.F p)) }, 0) := by
    unfold DS.sync
    rw [h.find hm hg]
    dsimp only
    rw [flt_none h.al, if_neg (by decide), if_neg (by decide)]
  rw [e]
  refine ⟨rfl, ⟨h.up, ?_, h.most, h.l2, h.P, ?_, ?_⟩⟩
  · show adel S.al _ = []; rw [h.al]; rfl
  · show upd S.F p (syF (S.F p)) = _; rw [h.F]
  · show S.c7 + 1 = _; rw [h.c7]
theorem Cm.rename {S : DS} {M : Nat} {L2 : Dr} {PP : List Ch} {F : Nat → Fl} {c : Int} (h : Cm S M L2 PP F c) {s t : ByteArray} {p : Nat} (hm : may s.data.toList = true) (hm2 : may t.data.toList = true) (hg : get (runs L2 PP) s.data.toList = some p) (hne : s ≠ t) :
    (S.rename s t).2 = 0 ∧ Cm (S.rename s t).1 M L2 (PP ++ [.rn s t]) F (c + 1) := by
  have hr : S.ref [s, t] = 0 := by unfold DS.ref; rw [h.up]; simp [hm, hm2]
  have e : S.rename s t = ({ S.hit 4 with P := S.P ++ [.rn s t] }, 0) := by
    unfold DS.rename
    rw [hr, if_neg (by simp), h.find hm hg, if_neg (by simp), flt_none h.al, if_neg (by decide), if_neg hne]
  rw [e, hit_none h.al]
  refine ⟨rfl, ⟨h.up, ?_, h.most, h.l2, ?_, h.F, ?_⟩⟩
  · show adel S.al _ = []; rw [h.al]; rfl
  · show S.P ++ _ = _; rw [h.P]
  · show S.c7 + 1 = _; rw [h.c7]
theorem Cm.syncDir {S : DS} {M : Nat} {L2 : Dr} {PP : List Ch} {F : Nat → Fl} {c : Int} (h : Cm S M L2 PP F c) : S.syncDir.2 = 0 ∧ Cm S.syncDir.1 M (runs L2 PP) [] F (c + 1) := by
  have hr : S.ref [] = 0 := by unfold DS.ref; rw [h.up]; rfl
  have e : S.syncDir = ({ S.hit 6 with l2 := S.dir, P := [] }, 0) := by
    unfold DS.syncDir
    rw [hr, if_neg (by simp), flt_none h.al, if_neg (by decide)]
  rw [e, hit_none h.al]
  refine ⟨rfl, ⟨h.up, ?_, h.most, h.dir, rfl, h.F, ?_⟩⟩
  · show adel S.al _ = []; rw [h.al]; rfl
  · show S.c7 + 1 = _; rw [h.c7]
theorem Cm.crash {S : DS} {M : Nat} {L2 : Dr} {PP : List Ch} {F : Nat → Fl} {c : Int} (h : Cm S M L2 PP F c) (d : Int) (ks : List Kep) : Cm (S.crash d ks) M (runs L2 (PP.take (wthn d PP.length))) [] (crashL (runs L2 (PP.take (wthn d PP.length))) (nms (runs L2 (PP.take (wthn d PP.length)))) ks F) c := by
  have hf : S.front d = runs L2 (PP.take (wthn d PP.length)) := by unfold DS.front; rw [h.l2, h.P]
  refine ⟨rfl, rfl, h.most, hf, rfl, ?_, h.c7⟩
  show crashL (S.front d) (nms (S.front d)) ks S.F = _
  rw [hf, h.F]
theorem Cm.size {S : DS} {M : Nat} {L2 : Dr} {PP : List Ch} {F : Nat → Fl} {c : Int} (h : Cm S M L2 PP F c) {s : ByteArray} {p : Nat} (hm : may s.data.toList = true) (hg : get (runs L2 PP) s.data.toList = some p) : S.size s = (((F p).by_.length : Int), 0) := by
  unfold DS.size
  rw [h.find hm hg]
  dsimp only
  rw [h.F]
theorem Cm.read {S : DS} {M : Nat} {L2 : Dr} {PP : List Ch} {F : Nat → Fl} {c : Int} (h : Cm S M L2 PP F c) {s : ByteArray} {p : Nat} (hm : may s.data.toList = true) (hg : get (runs L2 PP) s.data.toList = some p) (n : Nat) (hn : n ≤ (F p).by_.length) : S.read s 0 (n : Int) = ((F p).by_.take n, 0) := by
  unfold DS.read
  rw [h.find hm hg]
  dsimp only
  rw [h.F, if_pos (by omega)]
  simp
def CI (w q : World) (b M : Nat) (L2 : Dr) (PP : List Ch) (F : Nat → Fl) (c : Int) : Prop :=
  ∃ (S : DS) (O : Nat → Prop), DskE q b S O ∧ Cm S M L2 PP F c ∧ Below w.heap.size w q ∧ ∀ k, O k → w.heap.size ≤ k
theorem CI.below {w q q' : World} {b M : Nat} {L2 : Dr} {PP : List Ch} {F : Nat → Fl} {c : Int} (h : CI w q b M L2 PP F c) (hb : Below q.heap.size q q') : CI w q' b M L2 PP F c := by
  obtain ⟨S, O, hd, hm, hB, hl⟩ := h
  exact ⟨S, O, hd.below hb, hm, hB.trans (hb.mono hB.size), hl⟩
theorem CI.bel {w q : World} {b M : Nat} {L2 : Dr} {PP : List Ch} {F : Nat → Fl} {c : Int} (h : CI w q b M L2 PP F c) : Below w.heap.size w q := by
  obtain ⟨S, O, hd, hm, hB, hl⟩ := h
  exact hB
def DS.list (S : DS) : List (List UInt8) × Int := if S.up then (nms S.dir, 0) else ([], 22)
set_option maxRecDepth 100000 in
theorem list_any {w : World} {b : Nat} {S : DS} {O : Nat → Prop} {f g : Nat} {pd : Value} {am : Option Nat} {VB VL : Nat → Value} (h : Dsk w b S O f g pd am VB VL) (hc : S.c7 < 1000000000) :
    Calls Tryz.prog 26 #[.pointer (some ⟨b, 0, none⟩)] w fun e w' => ∃ v, e = .returned (.tuple #[v, .int .i64 S.list.2]) ∧ w'.ownsRow w.heap.size 9 1 v S.list.1.length (S.list.1.map encStr) ∧ Below w.heap.size w w' := by
  have hr := refuse_any w _ _ (some (S.dc f g pd am)) [] h.dk.dp (row0 w) (by simp)
  rw [ref_dc] at hr
  obtain ⟨d1, _, _⟩ := dir_len h.ok hc
  have hN := names_any f S.dir w h.dk.mf (by omega)
  have c2 : w.cell? ⟨b, 2, none⟩ = some (.map (some f)) := h.dk.box.cells.2.2.1
  obtain ⟨R, hR⟩ : ∃ R, Hid (S.list = R) := ⟨_, rfl⟩
  rw [hR.out]
  cases hu : S.up with
  | true =>
    have e1 : S.ref [] = 0 := by unfold DS.ref; rw [hu]; rfl
    have e2 : Hid (R = (nms S.dir, 0)) := by show _ = _; rw [← hR.out]; unfold DS.list; rw [hu]; rfl
    rw [e1] at hr
    clear h
    go_enter Tryz.func26, Tryz.ntmps26
    go_wp2_with (first
      | (go_at_call 68; refine hr.mono ?_; rintro e w1 ⟨rfl, e1⟩; subst w1)
      | (go_at_call 81; refine hN.mono ?_; rintro e w2 ⟨v2, rfl, R2, _, B2⟩; replace R2 := hide R2; replace B2 := hide B2))
    go_ret2
    exact ⟨v2, by rw [e2.out]; rfl, by rw [e2.out]; exact R2.out, B2.out⟩
  | false =>
    have e1 : S.ref [] = 22 := by unfold DS.ref; rw [hu]; rfl
    have e2 : Hid (R = ([], 22)) := by show _ = _; rw [← hR.out]; unfold DS.list; rw [hu]; rfl
    rw [e1] at hr
    clear h
    go_enter Tryz.func26, Tryz.ntmps26
    go_wp2_with (go_at_call 68; refine hr.mono ?_; rintro e w1 ⟨rfl, e1⟩; subst w1)
    go_ret2
    exact ⟨_, by rw [e2.out]; rfl, by rw [e2.out]; exact World.ownsRow_nil _ _ _ _, Below.refl _ _⟩
end Go.Proofs.YtpbiopmlipchdaaGreat.Dk
