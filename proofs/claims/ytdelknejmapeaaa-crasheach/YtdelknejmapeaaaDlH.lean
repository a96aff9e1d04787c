/-
  Append.
-/
import Derived.Test.YtdelknejmapeaaaDlH0
namespace Go.Proofs.Ytdelknejmapeaaa.Dk
open Go.RowKit Go.Maps Go.Proofs.Ytdelknejmapeaaa.Nm
open Ix (wp_region_T wpAnyT wpAnyT_take wpAnyT_one wpAnyT_done vac)

set_option maxRecDepth 100000 in
set_option maxHeartbeats 1000000 in
theorem append_any {w : World} {b : Nat} {S : DS} {O : Nat → Prop} {f g : Nat} {pd : Value} {am : Option Nat} {VB VL : Nat → Value} (h : Dsk w b S O f g pd am VB VL) (s : ByteArray) (hs : s.size ≤ maxLen) (v : Value) (D : List UInt8) (hv : Sl w v D) (ho : SOff O v) (hc : S.c7 < 900000000) :
    Calls Try.prog 6 #[.pointer (some ⟨b, 0, none⟩), .string s, v] w fun e w' => e = .returned (.tuple #[.int .i64 (S.append s D).2.1, .int .i64 (S.append s D).2.2]) ∧ ∃ O', DskE w' b (S.append s D).1 O' ∧ Sgo w w' O O' := by
  have hF := dsk_find h s hs
  by_cases h0 : (S.find s).2 = 0
  · obtain ⟨p, e, hg, hr, hp⟩ := find_ok h0
    rw [e] at hF
    simp only [Option.map_some] at hF
    have hR : Hid (S.append s D = ({ (S.beg 1).str S.flt.2.1 with F := upd S.F p (apF (S.F p) (D.take (S.apN D.length))), c8 := S.c8 + (S.apN D.length : Int) }, (S.apN D.length : Int), if strF S.flt.2.1 ≠ 0 then strF S.flt.2.1 else if S.apN D.length < D.length then 21 else 0)) := by show _ = _; unfold DS.append; rw [e]
    have hb : Hid (∀ u, Dsk u b S O f g pd am VB VL → _) := fun u hu => dsk_begin hu 1 (by omega) (by omega)
    have hm : Hid (∀ u, Dsk u b (S.beg 1) O f g pd am VB VL → Calls Try.prog 31 #[.pointer (some ⟨b, 0, none⟩)] u fun e w' => e = .returned (.int .i64 S.room) ∧ Below u.heap.size u w') := fun u hu => by have := room_any hu (by have := (beg_rest S 1).2.2.2.2.2.1; omega); rw [beg_room] at this; exact this
    obtain ⟨hn1, hn2⟩ := apN_le h.ok D.length
    have hsz := apN_size h.ok hg D.length
    have hmin := apN_min h.ok D.length
    have hpart := apN_part h.ok D.length
    have hft := h.ok.flt
    have H := hide h
    have V := hide hv
    obtain ⟨av, cv, rfl, _, q3, q4, _⟩ := hv
    have q4' : cv ≤ 9223372036854775807 := by unfold maxLen at q4; omega
    have hpb : (S.beg 1).ps = S.ps := beg_ps S 1
    obtain ⟨t, ht⟩ : ∃ t, Hid (S.flt = t) := ⟨_, rfl⟩
    obtain ⟨n, hn⟩ : ∃ n, Hid (S.apN D.length = n) := ⟨_, rfl⟩
    obtain ⟨R, hRm⟩ : ∃ R, Hid (S.room = R) := ⟨_, rfl⟩
    rw [ht.out] at hb hft hmin hpart hR
    rw [hn.out] at hn1 hn2 hsz hmin hpart hR
    rw [hRm.out] at hm hmin hpart hn2
    unfold fv at hb
    obtain ⟨ta, tk, tp⟩ := t
    dsimp only at hb hft hmin hpart hR
    replace hmin := hide hmin
    replace hpart := hide hpart
    replace hft := hide hft
    replace hn2 := hide hn2
    clear h e hr h0 hg hpb
    go_enter Try.func6, Try.ntmps6
    go_upto_region 5 with (first
      | (go_at_call 29; refine hF.mono ?_; rintro e w1 ⟨rfl, B1⟩; replace B1 := hide B1; have D1 := hide (H.out.below B1.out))
      | (go_at_call 30; refine (hb.out _ D1.out).mono ?_; rintro e w2 ⟨rfl, D2, G2⟩; replace D2 := hide D2; replace G2 := hide G2))
    have B3 := hide ((Below.refl _ w2).alloc (Nat.le_refl _) (.cells #[.int .i64 ta, .int .i64 tk, .int .i64 tp] 77))
    have N3 := hide (heap_alloc_new w2 (.cells #[.int .i64 ta, .int .i64 tk, .int .i64 tp] 77))
    have D3 := hide (D2.out.below B3.out)
    generalize w2.alloc (.cells #[.int .i64 ta, .int .i64 tk, .int .i64 tp] 77) = w3 at *
    have V2 := hide (sl_but (Below.sl B1.out V.out) G2.out.but ho)
    have T3 := hide ((Sgo.of_below (O := O) B1.out).trans (G2.out.trans (Sgo.of_below B3.out)))
    have hlo : Hid (¬ O w2.heap.size ∧ b ≠ w2.heap.size) := ⟨fun c => Nat.lt_irrefl _ (D2.out.lt _ c), fun e => by have := D2.out.lt b (D2.out.ow b (.inl rfl)); omega⟩
    have i1 : (n : Int) ≤ (cv : Int) := by omega
    have i2 : (0 : Int) ≤ (n : Int) := by omega
    have hb8 := H.out.ok.by8
    have hww : IntKind.i64.wrap (S.c8 + (n : Int)) = S.c8 + (n : Int) := by rw [IntKind.wrap_i64]; omega
    have hb8' : Hid (0 ≤ S.c8 + (n : Int) ∧ S.c8 + (n : Int) ≤ 16777216 * (S.c7 + 1)) := by show _ ∧ _; omega
    have hsz' := hide hsz
    clear hF hb D1 V B1 G2 D2 hb8 hc hsz
    by_cases k0 : tk = 0
    · subst k0
      have hmn := hmin.out rfl
      have i0 : ((0 : Int) != 0) = false := rfl
      go_upto_region 8 with (go_at_call 31; refine (hm.out _ D3.out).mono ?_; rintro e w4 ⟨rfl, B4⟩; replace B4 := hide B4; have N4 : Hid (w4.heap[w2.heap.size]? = some (.cells #[.int .i64 ta, .int .i64 0, .int .i64 tp] 77 (0, 0))) := (B4.out.block _ (heap_lt N3.out)).trans N3.out; obtain ⟨x0, x1, x2⟩ := cells3 N4.out; have D4 := hide (D3.out.below B4.out))
      clear x0 x1 x2
      replace hmn := hide hmn
      have H4 : Hid (FlAt w4 p (S.F p) (VB p) (VL p)) := D4.out.fs.at_ p hp
      obtain ⟨ab, cb, eb, _, _⟩ := H4.out.b.form
      have V4 : Hid (Sl w4 (.slice av n cv) (D.take n)) := sl_take (Below.sl B4.out (Below.sl B3.out V2.out)) hn1
      have KC : Hid (∀ q : World, q.heap[p]? = some (.cells #[VB p, VL p, .int .i64 ((S.F p).sp : Int)] TFl (0, 0)) → q.cell? ⟨p, 0, none⟩ = some (.slice ab (S.F p).by_.length cb)) := fun q hq => by rw [← eb]; exact (cells3 hq).1
      have KP : Hid (w4.drew.heap[p]? = some (.cells #[VB p, VL p, .int .i64 ((S.F p).sp : Int)] TFl (0, 0))) := H4.out.box
      have B5 : Hid (Below w4.heap.size w4 w4.drew) := (Below.refl _ _).drew
      replace eb := hide eb
      refine wp_region_T (fun q => q.heap[p]? = some (.cells #[VB p, VL p, .int .i64 ((S.F p).sp : Int)] TFl (0, 0))) 11 (by kernel_rfl) ?_
      generalize w4.drew = q at *
      refine wpAnyT_take (i := 0) (oi := { dst := some 40, op := Op.move (Operand.tmp 8), type := 73, pos := "operation.go:64", after := #[], guard := none }) (v := .pointer (some ⟨p, 0, none⟩)) [11] rfl (by kernel_rfl) (by kernel_rfl) (by kernel_rfl) (by kernel_rfl) (fun _ _ _ h => h) (Or.inl ⟨by rfl, ?_⟩) KP.out ?_
      · intro wq hSw
        have y2 := KC.out wq hSw
        go_simp
      (try simp only [Act.put, List.setIfInBounds_toArray, List.set_cons_zero, List.set_cons_succ])
      refine wpAnyT_take (i := 1) (oi := { dst := some 41, op := Op.move (Operand.tmp 8), type := 73, pos := "operation.go:64", after := #[], guard := none }) (v := .pointer (some ⟨p, 0, none⟩)) [11] rfl (by kernel_rfl) (by kernel_rfl) (by kernel_rfl) (by kernel_rfl) (fun _ _ _ h => h) (Or.inl ⟨by rfl, ?_⟩) KP.out ?_
      · intro wq hSw
        have y2 := KC.out wq hSw
        go_simp
      (try simp only [Act.put, List.setIfInBounds_toArray, List.set_cons_zero, List.set_cons_succ])
      refine wpAnyT_take (i := 2) (oi := { dst := some 42, op := Op.nilCheck (Operand.tmp 41), type := 0, pos := "operation.go:64", after := #[{ on := 1, ground := Ground.data }], guard := none }) (v := .pointer (some ⟨p, 0, none⟩)) [11] rfl (by kernel_rfl) (by kernel_rfl) (by kernel_rfl) (by kernel_rfl) (fun _ _ _ h => h) (Or.inl ⟨by rfl, ?_⟩) KP.out ?_
      · intro wq hSw
        have y2 := KC.out wq hSw
        go_simp
      (try simp only [Act.put, List.setIfInBounds_toArray, List.set_cons_zero, List.set_cons_succ])
      refine wpAnyT_take (i := 3) (oi := { dst := some 43, op := Op.fieldAddr 81 (Operand.tmp 42) 0, type := 0, pos := "operation.go:64", after := #[{ on := 2, ground := Ground.data }], guard := none }) (v := .pointer (some ⟨p, 0, none⟩)) [11] rfl (by kernel_rfl) (by kernel_rfl) (by kernel_rfl) (by kernel_rfl) (fun _ _ _ h => h) (Or.inl ⟨by rfl, ?_⟩) KP.out ?_
      · intro wq hSw
        have y2 := KC.out wq hSw
        go_simp
      (try simp only [Act.put, List.setIfInBounds_toArray, List.set_cons_zero, List.set_cons_succ])
      refine wpAnyT_take (i := 4) (oi := { dst := some 44, op := Op.load 22 (Operand.tmp 43), type := 22, pos := "operation.go:64", after := #[{ on := 3, ground := Ground.data }], guard := none }) (v := .slice ab (S.F p).by_.length cb) [11] rfl (by kernel_rfl) (by kernel_rfl) (by kernel_rfl) (by kernel_rfl) (fun _ _ _ h => h) (Or.inl ⟨by rfl, ?_⟩) KP.out ?_
      · intro wq hSw
        have y2 := KC.out wq hSw
        go_simp
      (try simp only [Act.put, List.setIfInBounds_toArray, List.set_cons_zero, List.set_cons_succ])
      refine wpAnyT_take (i := 5) (oi := { dst := some 45, op := Op.move (Operand.tmp 2), type := 22, pos := "operation.go:64", after := #[], guard := none }) (v := .slice av D.length cv) [11] rfl (by kernel_rfl) (by kernel_rfl) (by kernel_rfl) (by kernel_rfl) (fun _ _ _ h => h) (Or.inl ⟨by rfl, ?_⟩) KP.out ?_
      · intro wq hSw
        have y2 := KC.out wq hSw
        go_simp
      (try simp only [Act.put, List.setIfInBounds_toArray, List.set_cons_zero, List.set_cons_succ])
      refine wpAnyT_take (i := 6) (oi := { dst := some 46, op := Op.move (Operand.tmp 11), type := 3, pos := "operation.go:64", after := #[], guard := none }) (v := .int .i64 (n : Int)) [11] rfl (by kernel_rfl) (by kernel_rfl) (by kernel_rfl) (by kernel_rfl) (fun _ _ _ h => h) (Or.inl ⟨by rfl, ?_⟩) KP.out ?_
      · intro wq hSw
        have y2 := KC.out wq hSw
        go_simp
      (try simp only [Act.put, List.setIfInBounds_toArray, List.set_cons_zero, List.set_cons_succ])
      refine wpAnyT_take (i := 7) (oi := { dst := some 47, op := Op.slice 22 (Operand.tmp 45) none (some (Operand.tmp 46)) none, type := 22, pos := "operation.go:64", after := #[{ on := 5, ground := Ground.data }, { on := 6, ground := Ground.data }], guard := none }) (v := .slice av n cv) [11] rfl (by kernel_rfl) (by kernel_rfl) (by kernel_rfl) (by kernel_rfl) (fun _ _ _ h => h) (Or.inl ⟨by rfl, ?_⟩) KP.out ?_
      · intro wq hSw
        have y2 := KC.out wq hSw
        go_simp
      (try simp only [Act.put, List.setIfInBounds_toArray, List.set_cons_zero, List.set_cons_succ])
      have Hq := hide (H4.out.below B5.out)
      obtain ⟨v5, w5, hr, O5, G5, A5⟩ := run_app (B := 0) Hq.out.b (V4.out.below4 B5.out) (by have := hsz'.out; rw [List.length_take]; omega) (Nat.zero_le _) 22
      rw [eb.out] at hr
      obtain ⟨K5, F5, U5, W5⟩ := Hq.out.app O5 G5 A5 (by have := hsz'.out; rw [List.length_take]; omega)
      replace K5 := hide K5
      replace F5 := hide F5
      replace U5 := hide U5
      replace W5 := hide W5
      obtain ⟨a5, c5, e5, _, _⟩ := O5.form
      clear O5 G5 A5
      rw [e5] at hr F5 U5 W5
      rw [List.length_append, List.length_take, Nat.min_eq_left hn1] at hr F5 U5 W5
      refine wpAnyT_one (i := 8) (o := { dst := some 48, op := Op.call { callee := Callee.builtin Builtin.append, args := #[Operand.tmp 44, Operand.tmp 47], argTypes := #[22, 22] }, type := 22, pos := "operation.go:64", after := #[{ on := 4, ground := Ground.data }, { on := 7, ground := Ground.data }], guard := none }) (by kernel_rfl) rfl (fun K hK => ?_)
      refine step_app rfl (.tmp 44) (.tmp 47) rfl _ _ _ w5 (by simp [Act.eval]) (by simp [Act.eval]) hr ?_
      refine hK.out _ _ (fun _ => K5.out) ?_
      clear hK K hr
      (try simp only [Act.put, List.setIfInBounds_toArray, List.set_cons_zero, List.set_cons_succ])
      refine wpAnyT_take (i := 9) (oi := { dst := some 49, op := Op.nilCheck (Operand.tmp 40), type := 0, pos := "operation.go:64", after := #[{ on := 0, ground := Ground.data }, { on := 0, ground := Ground.phase }, { on := 1, ground := Ground.phase }, { on := 2, ground := Ground.phase }, { on := 3, ground := Ground.phase }, { on := 4, ground := Ground.phase }, { on := 5, ground := Ground.phase }, { on := 6, ground := Ground.phase }, { on := 7, ground := Ground.phase }, { on := 8, ground := Ground.phase }], guard := none }) (v := .pointer (some ⟨p, 0, none⟩)) [10, 11] rfl (by kernel_rfl) (by kernel_rfl) (by kernel_rfl) (by kernel_rfl) (fun _ _ _ h => h) (Or.inl ⟨by rfl, ?_⟩) K5.out ?_
      · intro wq hSw
        have y2 := KC.out wq hSw
        go_simp
      (try simp only [Act.put, List.setIfInBounds_toArray, List.set_cons_zero, List.set_cons_succ])
      refine wpAnyT_take (i := 10) (oi := { dst := some 50, op := Op.fieldAddr 81 (Operand.tmp 49) 0, type := 0, pos := "operation.go:64", after := #[{ on := 9, ground := Ground.data }, { on := 0, ground := Ground.phase }, { on := 1, ground := Ground.phase }, { on := 2, ground := Ground.phase }, { on := 3, ground := Ground.phase }, { on := 4, ground := Ground.phase }, { on := 5, ground := Ground.phase }, { on := 6, ground := Ground.phase }, { on := 7, ground := Ground.phase }, { on := 8, ground := Ground.phase }], guard := none }) (v := .pointer (some ⟨p, 0, none⟩)) [11] rfl (by kernel_rfl) (by kernel_rfl) (by kernel_rfl) (by kernel_rfl) (fun _ _ _ h => h) (Or.inl ⟨by rfl, ?_⟩) K5.out ?_
      · intro wq hSw
        have y2 := KC.out wq hSw
        go_simp
      (try simp only [Act.put, List.setIfInBounds_toArray, List.set_cons_zero, List.set_cons_succ])
      have d1 := (cells3 K5.out).1
      have d2 := (frozen3 K5.out).1
      refine wpAnyT_one (i := 11) (o := { dst := none, op := Op.store 22 (Operand.tmp 50) (Operand.tmp 48), type := 0, pos := "operation.go:64", after := #[{ on := 10, ground := Ground.data }, { on := 8, ground := Ground.data }, { on := 8, ground := Ground.chain }, { on := 0, ground := Ground.phase }, { on := 1, ground := Ground.phase }, { on := 2, ground := Ground.phase }, { on := 3, ground := Ground.phase }, { on := 4, ground := Ground.phase }, { on := 5, ground := Ground.phase }, { on := 6, ground := Ground.phase }, { on := 7, ground := Ground.phase }, { on := 8, ground := Ground.phase }], guard := none }) (by kernel_rfl) rfl (fun K hK => ?_)
      go_simp
      refine hK.out _ _ (vac (by kernel_rfl)) ?_
      clear hK K d1 d2 KC
      refine wpAnyT_done (by kernel_rfl) ?_ _
      have D5 := hide (D4.out.below B5.out)
      obtain ⟨O6, D6, G6⟩ := D5.out.one hp F5.out U5.out W5.out (by have := hsz'.out; simp only [apF, List.length_append, List.length_take]; omega)
      have zz : Hid (w2.heap.size < w4.heap.size) := heap_lt N4.out
      have T6 := hide (T3.out.trans ((Sgo.of_below B4.out).trans ((Sgo.of_below B5.out).trans G6)))
      have N6 : Hid ((w5.setCell ⟨p, 0, none⟩ (.slice a5 ((S.F p).by_.length + n) c5)).heap[w2.heap.size]? = some (.cells #[.int .i64 ta, .int .i64 0, .int .i64 tp] 77 (0, 0))) := G6.but.at ((B5.out.block _ zz.out).trans N4.out) hlo.out.1
      replace D6 := hide D6
      clear D5 K5 F5 U5 W5 G6 D4 V4 KP B5 H4 Hq T3
      generalize (w5.setCell ⟨p, 0, none⟩ (.slice a5 ((S.F p).by_.length + n) c5)) = w6 at *
      have y1 : w6.cell? ⟨b, 14, none⟩ = some (.int .i64 S.c8) := D6.out.dk.box.all.2
      have y2 : w6.frozen? ⟨b, 14, none⟩ = false := by have := D6.out.dk.cells; simp [World.frozen?, this]
      have D7 := hide (D6.out.c8 (S.c8 + (n : Int)) hb8'.out)
      have N7 : Hid ((w6.setCell ⟨b, 14, none⟩ (.int .i64 (S.c8 + (n : Int)))).heap[w2.heap.size]? = some (.cells #[.int .i64 ta, .int .i64 0, .int .i64 tp] 77 (0, 0))) := (But.of_grownBy (X := fun k => k = b) (grown_setCell w6 b 14 (.int .i64 (S.c8 + (n : Int)))) fun k e => by cases e; rfl).at N6.out (fun e => hlo.out.2 e.symm)
      obtain ⟨x0, x1, x2⟩ := cells3 N7.out
      have hSt := dsk_strike D7.out.1 (ta, 0, tp) (by have := hft.out; show (0 : Int) ≠ 4; omega)
      have T7 := hide (T6.out.trans D7.out.2)
      unfold fv at hSt
      dsimp only at hSt
      have hE : Hid ((({ ({ S.beg 1 with F := upd S.F p (apF (S.F p) (D.take n)) } : DS) with c8 := S.c8 + (n : Int) } : DS).str 0) = (S.append s D).1) := by
        show _ = _
        rw [hR.out]
        unfold DS.str
        split <;> rfl
      have hA1 : Hid ((n : Int) = (S.append s D).2.1) := by show _ = _; rw [hR.out]
      have hA2 : Hid ((if strF 0 ≠ 0 then strF 0 else if n < D.length then 21 else 0) = (S.append s D).2.2) := by show _ = _; rw [hR.out]
      obtain ⟨e0, he⟩ : ∃ e0, Hid (strF 0 = e0) := ⟨_, rfl⟩
      rw [he.out] at hSt hA2
      clear hR hm hmin hpart hmn D6 N6 T6 N4 B4 N3 B3 D3 V2
      by_cases s0 : e0 = 0
      · subst s0
        by_cases c : n < D.length
        · have c1 : (n : Int) < (D.length : Int) := by omega
          have hA3 : Hid ((21 : Int) = (S.append s D).2.2) := by show _ = _; rw [← hA2.out, if_neg (by simp), if_pos c]
          clear hA2
          go_wp2_with (go_at_call 32; refine hSt.mono ?_; rintro e w8 ⟨rfl, D8, G8⟩; replace D8 := hide D8; replace G8 := hide G8)
          go_ret2
          refine ⟨by rw [← hA1.out, ← hA3.out]; rfl, O6, ?_, T7.out.trans G8.out⟩
          rw [← hE.out]
          exact D8.out.e
        · have c1 : ¬ (n : Int) < (D.length : Int) := by omega
          have hA3 : Hid ((0 : Int) = (S.append s D).2.2) := by show _ = _; rw [← hA2.out, if_neg (by simp), if_neg c]
          clear hA2
          go_wp2_with (go_at_call 32; refine hSt.mono ?_; rintro e w8 ⟨rfl, D8, G8⟩; replace D8 := hide D8; replace G8 := hide G8)
          go_ret2
          refine ⟨by rw [← hA1.out, ← hA3.out]; rfl, O6, ?_, T7.out.trans G8.out⟩
          rw [← hE.out]
          exact D8.out.e
      · have s0' : (e0 != 0) = true := by simpa using s0
        have hA3 : Hid (e0 = (S.append s D).2.2) := by show _ = _; rw [← hA2.out, if_pos s0]
        clear hA2 s0
        go_wp2_with (go_at_call 32; refine hSt.mono ?_; rintro e w8 ⟨rfl, D8, G8⟩; replace D8 := hide D8; replace G8 := hide G8)
        go_ret2
        refine ⟨by rw [← hA1.out, ← hA3.out]; rfl, O6, ?_, T7.out.trans G8.out⟩
        rw [← hE.out]
        exact D8.out.e
    · have k0' : (tk != 0) = true := by simpa using k0
      have hmn := hpart.out k0
      replace k0 := hide k0
      go_upto_region 8 with (go_at_call 31; refine (hm.out _ D3.out).mono ?_; rintro e w4 ⟨rfl, B4⟩; replace B4 := hide B4; have N4 : Hid (w4.heap[w2.heap.size]? = some (.cells #[.int .i64 ta, .int .i64 tk, .int .i64 tp] 77 (0, 0))) := (B4.out.block _ (heap_lt N3.out)).trans N3.out; obtain ⟨x0, x1, x2⟩ := cells3 N4.out; have D4 := hide (D3.out.below B4.out))
      clear x0 x1 x2
      replace hmn := hide hmn
      have H4 : Hid (FlAt w4 p (S.F p) (VB p) (VL p)) := D4.out.fs.at_ p hp
      obtain ⟨ab, cb, eb, _, _⟩ := H4.out.b.form
      have V4 : Hid (Sl w4 (.slice av n cv) (D.take n)) := sl_take (Below.sl B4.out (Below.sl B3.out V2.out)) hn1
      have KC : Hid (∀ q : World, q.heap[p]? = some (.cells #[VB p, VL p, .int .i64 ((S.F p).sp : Int)] TFl (0, 0)) → q.cell? ⟨p, 0, none⟩ = some (.slice ab (S.F p).by_.length cb)) := fun q hq => by rw [← eb]; exact (cells3 hq).1
      have KP : Hid (w4.drew.heap[p]? = some (.cells #[VB p, VL p, .int .i64 ((S.F p).sp : Int)] TFl (0, 0))) := H4.out.box
      have B5 : Hid (Below w4.heap.size w4 w4.drew) := (Below.refl _ _).drew
      replace eb := hide eb
      refine wp_region_T (fun q => q.heap[p]? = some (.cells #[VB p, VL p, .int .i64 ((S.F p).sp : Int)] TFl (0, 0))) 11 (by kernel_rfl) ?_
      generalize w4.drew = q at *
      refine wpAnyT_take (i := 0) (oi := { dst := some 40, op := Op.move (Operand.tmp 8), type := 73, pos := "operation.go:64", after := #[], guard := none }) (v := .pointer (some ⟨p, 0, none⟩)) [11] rfl (by kernel_rfl) (by kernel_rfl) (by kernel_rfl) (by kernel_rfl) (fun _ _ _ h => h) (Or.inl ⟨by rfl, ?_⟩) KP.out ?_
      · intro wq hSw
        have y2 := KC.out wq hSw
        go_simp
      (try simp only [Act.put, List.setIfInBounds_toArray, List.set_cons_zero, List.set_cons_succ])
      refine wpAnyT_take (i := 1) (oi := { dst := some 41, op := Op.move (Operand.tmp 8), type := 73, pos := "operation.go:64", after := #[], guard := none }) (v := .pointer (some ⟨p, 0, none⟩)) [11] rfl (by kernel_rfl) (by kernel_rfl) (by kernel_rfl) (by kernel_rfl) (fun _ _ _ h => h) (Or.inl ⟨by rfl, ?_⟩) KP.out ?_
      · intro wq hSw
        have y2 := KC.out wq hSw
        go_simp
      (try simp only [Act.put, List.setIfInBounds_toArray, List.set_cons_zero, List.set_cons_succ])
      refine wpAnyT_take (i := 2) (oi := { dst := some 42, op := Op.nilCheck (Operand.tmp 41), type := 0, pos := "operation.go:64", after := #[{ on := 1, ground := Ground.data }], guard := none }) (v := .pointer (some ⟨p, 0, none⟩)) [11] rfl (by kernel_rfl) (by kernel_rfl) (by kernel_rfl) (by kernel_rfl) (fun _ _ _ h => h) (Or.inl ⟨by rfl, ?_⟩) KP.out ?_
      · intro wq hSw
        have y2 := KC.out wq hSw
        go_simp
      (try simp only [Act.put, List.setIfInBounds_toArray, List.set_cons_zero, List.set_cons_succ])
      refine wpAnyT_take (i := 3) (oi := { dst := some 43, op := Op.fieldAddr 81 (Operand.tmp 42) 0, type := 0, pos := "operation.go:64", after := #[{ on := 2, ground := Ground.data }], guard := none }) (v := .pointer (some ⟨p, 0, none⟩)) [11] rfl (by kernel_rfl) (by kernel_rfl) (by kernel_rfl) (by kernel_rfl) (fun _ _ _ h => h) (Or.inl ⟨by rfl, ?_⟩) KP.out ?_
      · intro wq hSw
        have y2 := KC.out wq hSw
        go_simp
      (try simp only [Act.put, List.setIfInBounds_toArray, List.set_cons_zero, List.set_cons_succ])
      refine wpAnyT_take (i := 4) (oi := { dst := some 44, op := Op.load 22 (Operand.tmp 43), type := 22, pos := "operation.go:64", after := #[{ on := 3, ground := Ground.data }], guard := none }) (v := .slice ab (S.F p).by_.length cb) [11] rfl (by kernel_rfl) (by kernel_rfl) (by kernel_rfl) (by kernel_rfl) (fun _ _ _ h => h) (Or.inl ⟨by rfl, ?_⟩) KP.out ?_
      · intro wq hSw
        have y2 := KC.out wq hSw
        go_simp
      (try simp only [Act.put, List.setIfInBounds_toArray, List.set_cons_zero, List.set_cons_succ])
      refine wpAnyT_take (i := 5) (oi := { dst := some 45, op := Op.move (Operand.tmp 2), type := 22, pos := "operation.go:64", after := #[], guard := none }) (v := .slice av D.length cv) [11] rfl (by kernel_rfl) (by kernel_rfl) (by kernel_rfl) (by kernel_rfl) (fun _ _ _ h => h) (Or.inl ⟨by rfl, ?_⟩) KP.out ?_
      · intro wq hSw
        have y2 := KC.out wq hSw
        go_simp
      (try simp only [Act.put, List.setIfInBounds_toArray, List.set_cons_zero, List.set_cons_succ])
      refine wpAnyT_take (i := 6) (oi := { dst := some 46, op := Op.move (Operand.tmp 11), type := 3, pos := "operation.go:64", after := #[], guard := none }) (v := .int .i64 (n : Int)) [11] rfl (by kernel_rfl) (by kernel_rfl) (by kernel_rfl) (by kernel_rfl) (fun _ _ _ h => h) (Or.inl ⟨by rfl, ?_⟩) KP.out ?_
      · intro wq hSw
        have y2 := KC.out wq hSw
        go_simp
      (try simp only [Act.put, List.setIfInBounds_toArray, List.set_cons_zero, List.set_cons_succ])
      refine wpAnyT_take (i := 7) (oi := { dst := some 47, op := Op.slice 22 (Operand.tmp 45) none (some (Operand.tmp 46)) none, type := 22, pos := "operation.go:64", after := #[{ on := 5, ground := Ground.data }, { on := 6, ground := Ground.data }], guard := none }) (v := .slice av n cv) [11] rfl (by kernel_rfl) (by kernel_rfl) (by kernel_rfl) (by kernel_rfl) (fun _ _ _ h => h) (Or.inl ⟨by rfl, ?_⟩) KP.out ?_
      · intro wq hSw
        have y2 := KC.out wq hSw
        go_simp
      (try simp only [Act.put, List.setIfInBounds_toArray, List.set_cons_zero, List.set_cons_succ])
      have Hq := hide (H4.out.below B5.out)
      obtain ⟨v5, w5, hr, O5, G5, A5⟩ := run_app (B := 0) Hq.out.b (V4.out.below4 B5.out) (by have := hsz'.out; rw [List.length_take]; omega) (Nat.zero_le _) 22
      rw [eb.out] at hr
      obtain ⟨K5, F5, U5, W5⟩ := Hq.out.app O5 G5 A5 (by have := hsz'.out; rw [List.length_take]; omega)
      replace K5 := hide K5
      replace F5 := hide F5
      replace U5 := hide U5
      replace W5 := hide W5
      obtain ⟨a5, c5, e5, _, _⟩ := O5.form
      clear O5 G5 A5
      rw [e5] at hr F5 U5 W5
      rw [List.length_append, List.length_take, Nat.min_eq_left hn1] at hr F5 U5 W5
      refine wpAnyT_one (i := 8) (o := { dst := some 48, op := Op.call { callee := Callee.builtin Builtin.append, args := #[Operand.tmp 44, Operand.tmp 47], argTypes := #[22, 22] }, type := 22, pos := "operation.go:64", after := #[{ on := 4, ground := Ground.data }, { on := 7, ground := Ground.data }], guard := none }) (by kernel_rfl) rfl (fun K hK => ?_)
      refine step_app rfl (.tmp 44) (.tmp 47) rfl _ _ _ w5 (by simp [Act.eval]) (by simp [Act.eval]) hr ?_
      refine hK.out _ _ (fun _ => K5.out) ?_
      clear hK K hr
      (try simp only [Act.put, List.setIfInBounds_toArray, List.set_cons_zero, List.set_cons_succ])
      refine wpAnyT_take (i := 9) (oi := { dst := some 49, op := Op.nilCheck (Operand.tmp 40), type := 0, pos := "operation.go:64", after := #[{ on := 0, ground := Ground.data }, { on := 0, ground := Ground.phase }, { on := 1, ground := Ground.phase }, { on := 2, ground := Ground.phase }, { on := 3, ground := Ground.phase }, { on := 4, ground := Ground.phase }, { on := 5, ground := Ground.phase }, { on := 6, ground := Ground.phase }, { on := 7, ground := Ground.phase }, { on := 8, ground := Ground.phase }], guard := none }) (v := .pointer (some ⟨p, 0, none⟩)) [10, 11] rfl (by kernel_rfl) (by kernel_rfl) (by kernel_rfl) (by kernel_rfl) (fun _ _ _ h => h) (Or.inl ⟨by rfl, ?_⟩) K5.out ?_
      · intro wq hSw
        have y2 := KC.out wq hSw
        go_simp
      (try simp only [Act.put, List.setIfInBounds_toArray, List.set_cons_zero, List.set_cons_succ])
      refine wpAnyT_take (i := 10) (oi := { dst := some 50, op := Op.fieldAddr 81 (Operand.tmp 49) 0, type := 0, pos := "operation.go:64", after := #[{ on := 9, ground := Ground.data }, { on := 0, ground := Ground.phase }, { on := 1, ground := Ground.phase }, { on := 2, ground := Ground.phase }, { on := 3, ground := Ground.phase }, { on := 4, ground := Ground.phase }, { on := 5, ground := Ground.phase }, { on := 6, ground := Ground.phase }, { on := 7, ground := Ground.phase }, { on := 8, ground := Ground.phase }], guard := none }) (v := .pointer (some ⟨p, 0, none⟩)) [11] rfl (by kernel_rfl) (by kernel_rfl) (by kernel_rfl) (by kernel_rfl) (fun _ _ _ h => h) (Or.inl ⟨by rfl, ?_⟩) K5.out ?_
      · intro wq hSw
        have y2 := KC.out wq hSw
        go_simp
      (try simp only [Act.put, List.setIfInBounds_toArray, List.set_cons_zero, List.set_cons_succ])
      have d1 := (cells3 K5.out).1
      have d2 := (frozen3 K5.out).1
      refine wpAnyT_one (i := 11) (o := { dst := none, op := Op.store 22 (Operand.tmp 50) (Operand.tmp 48), type := 0, pos := "operation.go:64", after := #[{ on := 10, ground := Ground.data }, { on := 8, ground := Ground.data }, { on := 8, ground := Ground.chain }, { on := 0, ground := Ground.phase }, { on := 1, ground := Ground.phase }, { on := 2, ground := Ground.phase }, { on := 3, ground := Ground.phase }, { on := 4, ground := Ground.phase }, { on := 5, ground := Ground.phase }, { on := 6, ground := Ground.phase }, { on := 7, ground := Ground.phase }, { on := 8, ground := Ground.phase }], guard := none }) (by kernel_rfl) rfl (fun K hK => ?_)
      go_simp
      refine hK.out _ _ (vac (by kernel_rfl)) ?_
      clear hK K d1 d2 KC
      refine wpAnyT_done (by kernel_rfl) ?_ _
      have D5 := hide (D4.out.below B5.out)
      obtain ⟨O6, D6, G6⟩ := D5.out.one hp F5.out U5.out W5.out (by have := hsz'.out; simp only [apF, List.length_append, List.length_take]; omega)
      have zz : Hid (w2.heap.size < w4.heap.size) := heap_lt N4.out
      have T6 := hide (T3.out.trans ((Sgo.of_below B4.out).trans ((Sgo.of_below B5.out).trans G6)))
      have N6 : Hid ((w5.setCell ⟨p, 0, none⟩ (.slice a5 ((S.F p).by_.length + n) c5)).heap[w2.heap.size]? = some (.cells #[.int .i64 ta, .int .i64 tk, .int .i64 tp] 77 (0, 0))) := G6.but.at ((B5.out.block _ zz.out).trans N4.out) hlo.out.1
      replace D6 := hide D6
      clear D5 K5 F5 U5 W5 G6 D4 V4 KP B5 H4 Hq T3
      generalize (w5.setCell ⟨p, 0, none⟩ (.slice a5 ((S.F p).by_.length + n) c5)) = w6 at *
      have y1 : w6.cell? ⟨b, 14, none⟩ = some (.int .i64 S.c8) := D6.out.dk.box.all.2
      have y2 : w6.frozen? ⟨b, 14, none⟩ = false := by have := D6.out.dk.cells; simp [World.frozen?, this]
      have D7 := hide (D6.out.c8 (S.c8 + (n : Int)) hb8'.out)
      have N7 : Hid ((w6.setCell ⟨b, 14, none⟩ (.int .i64 (S.c8 + (n : Int)))).heap[w2.heap.size]? = some (.cells #[.int .i64 ta, .int .i64 tk, .int .i64 tp] 77 (0, 0))) := (But.of_grownBy (X := fun k => k = b) (grown_setCell w6 b 14 (.int .i64 (S.c8 + (n : Int)))) fun k e => by cases e; rfl).at N6.out (fun e => hlo.out.2 e.symm)
      obtain ⟨x0, x1, x2⟩ := cells3 N7.out
      have hSt := dsk_strike D7.out.1 (ta, tk, tp) (by have := hft.out; show (tk : Int) ≠ 4; omega)
      have T7 := hide (T6.out.trans D7.out.2)
      unfold fv at hSt
      dsimp only at hSt
      have hE : Hid ((({ ({ S.beg 1 with F := upd S.F p (apF (S.F p) (D.take n)) } : DS) with c8 := S.c8 + (n : Int) } : DS).str tk) = (S.append s D).1) := by
        show _ = _
        rw [hR.out]
        unfold DS.str
        split <;> rfl
      have hA1 : Hid ((n : Int) = (S.append s D).2.1) := by show _ = _; rw [hR.out]
      have hA2 : Hid ((if strF tk ≠ 0 then strF tk else if n < D.length then 21 else 0) = (S.append s D).2.2) := by show _ = _; rw [hR.out]
      obtain ⟨e0, he⟩ : ∃ e0, Hid (strF tk = e0) := ⟨_, rfl⟩
      rw [he.out] at hSt hA2
      clear hR hm hmin hpart hmn D6 N6 T6 N4 B4 N3 B3 D3 V2
      by_cases s0 : e0 = 0
      · subst s0
        by_cases c : n < D.length
        · have c1 : (n : Int) < (D.length : Int) := by omega
          have hA3 : Hid ((21 : Int) = (S.append s D).2.2) := by show _ = _; rw [← hA2.out, if_neg (by simp), if_pos c]
          clear hA2
          go_wp2_with (go_at_call 32; refine hSt.mono ?_; rintro e w8 ⟨rfl, D8, G8⟩; replace D8 := hide D8; replace G8 := hide G8)
          go_ret2
          refine ⟨by rw [← hA1.out, ← hA3.out]; rfl, O6, ?_, T7.out.trans G8.out⟩
          rw [← hE.out]
          exact D8.out.e
        · have c1 : ¬ (n : Int) < (D.length : Int) := by omega
          have hA3 : Hid ((0 : Int) = (S.append s D).2.2) := by show _ = _; rw [← hA2.out, if_neg (by simp), if_neg c]
          clear hA2
          go_wp2_with (go_at_call 32; refine hSt.mono ?_; rintro e w8 ⟨rfl, D8, G8⟩; replace D8 := hide D8; replace G8 := hide G8)
          go_ret2
          refine ⟨by rw [← hA1.out, ← hA3.out]; rfl, O6, ?_, T7.out.trans G8.out⟩
          rw [← hE.out]
          exact D8.out.e
      · have s0' : (e0 != 0) = true := by simpa using s0
        have hA3 : Hid (e0 = (S.append s D).2.2) := by show _ = _; rw [← hA2.out, if_pos s0]
        clear hA2 s0
        go_wp2_with (go_at_call 32; refine hSt.mono ?_; rintro e w8 ⟨rfl, D8, G8⟩; replace D8 := hide D8; replace G8 := hide G8)
        go_ret2
        refine ⟨by rw [← hA1.out, ← hA3.out]; rfl, O6, ?_, T7.out.trans G8.out⟩
        rw [← hE.out]
        exact D8.out.e
  · have hR : Hid (S.append s D = (S, 0, (S.find s).2)) := by
      show _ = _
      have q := find_no h0
      unfold DS.append
      cases hq : S.find s with
      | mk a c => rw [hq] at q; dsimp only at q; subst q; rfl
    rw [hR.out]
    have q := find_no h0
    rw [q] at hF
    simp only [Option.map_none] at hF
    generalize (S.find s).2 = r at *
    have h0' : (r != 0) = true := by simpa using h0
    obtain ⟨av, cv, rfl, _, q3, q4, _⟩ := hv
    have H := hide h
    clear h h0 q hR
    go_enter Try.func6, Try.ntmps6
    go_wp2_with (go_at_call 29; refine hF.mono ?_; rintro e w1 ⟨rfl, B1⟩; replace B1 := hide B1)
    go_ret2
    exact ⟨rfl, O, (H.out.below B1.out).e, Sgo.of_below B1.out⟩
#print axioms append_any
end Go.Proofs.Ytdelknejmapeaaa.Dk
