/-
  The document's disk: Sync, whole.
-/
import Derived.Test.YtjehpijjneghpaaGreatK23
namespace Go.Proofs.YtjehpijjneghpaaGreat.Re
open Go.RowKit Go.Maps Go.Sort Go.Shelf Go.Proofs.YtjehpijjneghpaaGreat.Nm Go.Proofs.YtjehpijjneghpaaGreat.Dk
open Ix (wp_region_T wpAnyT wpAnyT_take wpAnyT_one wpAnyT_done vac)
set_option linter.unusedVariables false
theorem flt_no4 {R : RB} (h : R.ok) : R.flt.2.1 ≠ 4 := by
  unfold RB.flt rfl1
  cases hf : R.fs.find? (fun f => f.1 == R.si + 1) with
  | none => simp [zf]
  | some f => exact h.no4 f (List.mem_of_find?_eq_some hf)
set_option maxRecDepth 100000 in
set_option maxHeartbeats 1000000 in
theorem sync_rm {w : World} {b : Nat} {R : RB} {V : RV} (h : RM w b R V) (ho : R.ok) (hc : R.c7 ≤ 1000000000) (hg : ∀ e ∈ R.dir, e.2 < R.F.length) (hla : ∀ f ∈ R.F, f.2.1.length ≤ f.1.length ∧ (f.1.length : Int) ≤ 100000000) (s : ByteArray) (hs : s.size ≤ maxLen) :
    Calls Tryz.prog 48 #[.pointer (some ⟨b, 0, none⟩), .string s] w fun e w' => e = .returned (.int .i64 (R.sync s).2) ∧ Rgo w w' b V (R.sync s).1 := by
  by_cases h13 : R.flt.2.1 = 1 ∨ R.flt.2.1 = 3
  · exact sync_rm_bad h ho hc hg hla s hs h13
  obtain ⟨X, hX⟩ : ∃ X, Hid (R.sync s = X) := ⟨_, rfl⟩
  rw [hX.out]
  by_cases h0 : refN R.down R.dir s true = 0
  · have hR := refused_rm h s hs true
    rw [h0] at hR
    have hB := begins_rm h ho hc 2 (by omega)
    obtain ⟨hf, hp, _⟩ := refN_there hg h0
    obtain ⟨be1, be2, _⟩ := beg_same R 2
    have hFi : Hid (∀ q, RM q b (R.beg 2) V → Calls Tryz.prog 96 #[V.vD, .string s] q fun e w' => e = .returned (.int .i64 (R.pOf s : Int)) ∧ w' = q) := fun q hq => by
      have := find_ref q V.vD (R.beg 2).dir s hq.dd.tr
      rw [be2, hf] at this
      exact this
    have hvd : ∃ da dn dc, V.vD = .slice da dn dc := by rcases h.dd.form with ⟨e, _⟩ | ⟨g, cap, e, _⟩ <;> exact ⟨_, _, _, e⟩
    obtain ⟨da, dn, dc, hvd⟩ := hvd
    have k4 : R.flt.2.1 ≠ 4 := flt_no4 ho
    obtain ⟨F, hF⟩ : ∃ F : Ft, Hid (R.flt = F) := ⟨R.flt, rfl⟩
    rw [hF.out] at hB h13 k4
    obtain ⟨fa, fk, fp⟩ := F
    unfold fv at hB
    dsimp only at hB h13 k4
    have k1 : ¬ fk = 1 := fun c => h13 (.inl c)
    have k3 : ¬ fk = 3 := fun c => h13 (.inr c)
    have e1 : Hid (X = ((R.beg 2).one (R.pOf s) ((R.fOf (R.pOf s)).1, (R.fOf (R.pOf s)).2.1 ++ svd (flD (R.fOf (R.pOf s))) ((R.fOf (R.pOf s)).1.length - (R.fOf (R.pOf s)).2.1.length), 0), 0)) := by show _ = _; rw [← hX.out]; unfold RB.sync; rw [if_neg (by rw [h0]; simp), hF.out, if_neg k1, if_neg k3]
    rw [hvd] at hFi
    clear h ho hc h13
    go_enter Tryz.func48, Tryz.ntmps48
    go_upto_region 5 with (first
      | (go_at_call 95; refine hR.mono ?_; rintro e w1 ⟨rfl, e1'⟩; subst w1)
      | (go_at_call 97; refine hB.mono ?_; rintro e w1 ⟨rfl, M1, b1⟩; replace M1 := hide M1; replace b1 := hide b1))
    have z1 := heap_alloc_new w1 (.cells #[.int .i64 fa, .int .i64 fk, .int .i64 fp] 118)
    have BX := hide (box_below w1 (.cells #[.int .i64 fa, .int .i64 fk, .int .i64 fp] 118))
    obtain ⟨Y, hY⟩ : ∃ Y, Hid (w1.alloc (.cells #[.int .i64 fa, .int .i64 fk, .int .i64 fp] 118) = Y) := ⟨_, rfl⟩
    rw [hY.out] at z1 BX ⊢
    have y1 : Y.cell? ⟨w1.heap.size, 1, none⟩ = some (.int .i64 fk) := by simp [World.cell?, z1]
    have MY := hide (M1.out.below BX.out)
    have bY : Hid (But (fun k => k = b) w Y) := b1.out.trans (But.of_below BX.out _)
    clear z1
    obtain ⟨g, cap, hvf, fl1, fl2, hl, z0, z1, z2⟩ := MY.out.at (i := R.pOf s) (by rw [be1]; exact hp)
    have c1 : Y.cell? ⟨b, 1, none⟩ = some V.vF := (MY.out.cell 1).trans rfl
    have c2 : Y.cell? ⟨b, 2, none⟩ = some V.vD := (MY.out.cell 2).trans rfl
    rw [hvf, be1] at c1
    rw [hvd] at c2
    rw [be1] at fl1
    have hfo : R.fOf (R.pOf s) = R.F[R.pOf s] := by unfold RB.fOf; rw [List.getElem?_eq_getElem hp]; rfl
    have hlap := hla _ (List.getElem_mem hp)
    rw [hfo] at e1
    obtain ⟨ob1, ob2⟩ := MY.out.nn (R.pOf s) (by rw [be1]; exact hp)
    simp only [be1] at ob1 ob2 z2
    have hg1 : V.vF.ownBlock = some g := by rw [hvf]; exact own_some _ _ _
    generalize hpp : R.pOf s = p at *
    have ip : (p : Int) < (R.F.length : Int) := by omega
    clear hpp
    go_quiet ((go_at_call 96; exact Calls.quiet_of_same (hFi.out _ (MY.out.below (Qt.below ⟨_, rfl⟩ _)))))
    have B3 : Hid (Below Y.heap.size Y (Y.drewN nq)) := Qt.below ⟨nq, rfl⟩ _
    have MZ := hide (MY.out.below B3.out)
    have y2 : (Y.drewN nq).cell? ⟨w1.heap.size, 1, none⟩ = some (.int .i64 fk) := by rw [B3.out.cell (lt_of_cell y1)]; exact y1
    have bZ : Hid (But (fun k => k = b) w (Y.drewN nq)) := bY.out.trans (But.of_below B3.out _)
    generalize Y.drewN nq = Z at *
    have en : Hid (((R.F[p].1.length - R.F[p].2.1.length : Nat) : Int) = (R.F[p].1.length : Int) - (R.F[p].2.1.length : Int)) := by show _ = _; have := hlap.1; omega
    have w0 : Z.cell? ⟨g, p * 3, none⟩ = some V.T[p].1 := by rw [B3.out.cell (lt_of_cell z0)]; exact z0
    have w1' : Z.cell? ⟨g, p * 3 + 1, none⟩ = some V.T[p].2 := by rw [B3.out.cell (lt_of_cell z1)]; exact z1
    have w2 : Z.cell? ⟨g, p * 3 + 2, none⟩ = some (.int .i64 R.F[p].2.2) := by rw [B3.out.cell (lt_of_cell z2)]; exact z2
    have ob1Z := ob1.below B3.out
    have ob2Z := ob2.below B3.out
    have hL : Hid (∀ q, Below Z.heap.size Z q → Calls Tryz.prog 90 #[.pointer (some ⟨g, p * 3, none⟩), .int .i64 ((R.F[p].1.length : Int) - (R.F[p].2.1.length : Int))] q fun e w' => ∃ v', e = .returned v' ∧ Ob q.heap.size w' v' (R.F[p].2.1 ++ svd (flD R.F[p]) (R.F[p].1.length - R.F[p].2.1.length)) ∧ Below q.heap.size q w') := fun q hq => by
      rw [← en.out]
      refine lasting_ref q g (p * 3) V.T[p].1 V.T[p].2 (flD R.F[p]) R.F[p].2.2 _ (by rw [hq.cell (lt_of_cell w0)]; exact w0) (by rw [hq.cell (lt_of_cell w1')]; exact w1') (by rw [hq.cell (lt_of_cell w2)]; exact w2) (ob1Z.below hq).sl (ob2Z.below hq).sl (by have := hlap.1; show R.F[p].2.1.length + (R.F[p].1.length - R.F[p].2.1.length) ≤ R.F[p].1.length; omega) (fun k => ?_) hlap.2
      show ((R.F[p].2.1.length + k : Nat) : Int) < R.F[p].2.2 ↔ k < (R.F[p].2.2 - (R.F[p].2.1.length : Int)).toNat
      omega
    obtain ⟨ta, tc, et, tl1, tl2⟩ := ob1.form
    obtain ⟨la, lc, eL, ll1, ll2⟩ := ob2.form
    have OB1 := hide ob1Z
    have w1s := hide w1'
    rw [et] at w0
    rw [eL] at w1'
    have lb1 : (R.F[p].2.1.length : Int) ≤ (R.F[p].1.length : Int) := by have := hlap.1; omega
    have lb2 := hlap.2
    have KC : Hid (∀ q : World, Below Z.heap.size Z q → q.cell? ⟨g, p * 3, none⟩ = some (.slice ta R.F[p].1.length tc) ∧ q.cell? ⟨g, p * 3 + 1, none⟩ = some (.slice la R.F[p].2.1.length lc)) := fun q hq => ⟨by rw [hq.cell (lt_of_cell w0)]; exact w0, by rw [hq.cell (lt_of_cell w1')]; exact w1'⟩
    have hwr : IntKind.i64.wrap ((R.F[p].1.length : Int) - (R.F[p].2.1.length : Int)) = (R.F[p].1.length : Int) - (R.F[p].2.1.length : Int) := by rw [IntKind.wrap_i64]; omega
    obtain ⟨f0, hf0⟩ : ∃ f0 : FD, Hid (R.F[p] = f0) := ⟨R.F[p], rfl⟩
    rw [hf0.out] at hL e1 KC hwr tl1 ll1 lb1 lb2 OB1 w0 w1' w2
    have hln := MZ.out.ln
    have hiF : p < (R.beg 2).F.length := by rw [be1]; exact hp
    have hf0' : Hid ((R.beg 2).F[p] = f0) := by show _ = _; simp only [be1]; exact hf0.out
    obtain ⟨L, hLe⟩ : ∃ L : List UInt8, Hid (f0.2.1 ++ svd (flD f0) (f0.1.length - f0.2.1.length) = L) := ⟨f0.2.1 ++ svd (flD f0) (f0.1.length - f0.2.1.length), rfl⟩
    rw [hLe.out] at hL e1
    obtain ⟨bl, hbl⟩ : ∃ bl : Nat, Hid (f0.1.length = bl) := ⟨f0.1.length, rfl⟩
    obtain ⟨ll, hll⟩ : ∃ ll : Nat, Hid (f0.2.1.length = ll) := ⟨f0.2.1.length, rfl⟩
    rw [hbl.out] at hL KC hwr tl1 lb1 lb2 w0
    rw [hll.out] at hL KC hwr ll1 lb1 w1'
    replace hln := hide hln
    replace hlap := hide hlap
    have q1 : (fk == 1) = false := by simpa using k1
    have q3 : (fk == 3) = false := by simpa using k3
    have q4 : (fk == 4) = false := by simpa using k4
    go_upto_region 13 with fail
    have KP : Hid (Below Z.heap.size Z Z.drew) := (Below.refl _ _).drew
    clear ob1 ob2 ob1Z ob2Z z0 z1 z2 w0 w1' w2 c1 c2 y1 y2 hB hR hFi
    refine wp_region_T (fun q => Below Z.heap.size Z q) 16 (by kernel_rfl) ?_
    generalize Z.drew = q at *
    refine Ix.tk 0 ⟨some 49, .move (.tmp 7), 140, "ref.go:250", #[], none⟩ (.pointer (some ⟨g, p * 3, none⟩)) [14,15,16] ?_ KP.out ?_
    · intro wq hSw
      obtain ⟨y1, y2⟩ := KC.out wq hSw
      go_simp
    (try simp only [Act.put, List.setIfInBounds_toArray, List.set_cons_zero, List.set_cons_succ])
    refine Ix.tk 1 ⟨some 50, .move (.tmp 7), 140, "ref.go:250", #[], none⟩ (.pointer (some ⟨g, p * 3, none⟩)) [13,16] ?_ KP.out ?_
    · intro wq hSw
      obtain ⟨y1, y2⟩ := KC.out wq hSw
      go_simp
    (try simp only [Act.put, List.setIfInBounds_toArray, List.set_cons_zero, List.set_cons_succ])
    refine Ix.tk 2 ⟨some 51, .move (.tmp 7), 140, "ref.go:250", #[], none⟩ (.pointer (some ⟨g, p * 3, none⟩)) [3,4,5,6,12,13,16] ?_ KP.out ?_
    · intro wq hSw
      obtain ⟨y1, y2⟩ := KC.out wq hSw
      go_simp
    (try simp only [Act.put, List.setIfInBounds_toArray, List.set_cons_zero, List.set_cons_succ])
    refine Ix.tk 3 ⟨some 52, .nilCheck (.tmp 51), 0, "ref.go:250", #[⟨2,.data⟩], none⟩ (.pointer (some ⟨g, p * 3, none⟩)) [4,5,6,12,13,16] ?_ KP.out ?_
    · intro wq hSw
      obtain ⟨y1, y2⟩ := KC.out wq hSw
      go_simp
    (try simp only [Act.put, List.setIfInBounds_toArray, List.set_cons_zero, List.set_cons_succ])
    refine Ix.tk 4 ⟨some 53, .fieldAddr 138 (.tmp 52) 0, 0, "ref.go:250", #[⟨3,.data⟩], none⟩ (.pointer (some ⟨g, p * 3, none⟩)) [5,6,12,13,16] ?_ KP.out ?_
    · intro wq hSw
      obtain ⟨y1, y2⟩ := KC.out wq hSw
      go_simp
    (try simp only [Act.put, List.setIfInBounds_toArray, List.set_cons_zero, List.set_cons_succ])
    refine Ix.tk 5 ⟨some 54, .load 30 (.tmp 53), 30, "ref.go:250", #[⟨4,.data⟩], none⟩ (.slice ta bl tc) [6,12,13,16] ?_ KP.out ?_
    · intro wq hSw
      obtain ⟨y1, y2⟩ := KC.out wq hSw
      go_simp
    (try simp only [Act.put, List.setIfInBounds_toArray, List.set_cons_zero, List.set_cons_succ])
    refine Ix.tk 6 ⟨some 55, .call { callee := .builtin .len, args := #[.tmp 54], argTypes := #[30] }, 3, "ref.go:250", #[⟨5,.data⟩], none⟩ (.int .i64 (bl : Int)) [12,13,16] ?_ KP.out ?_
    · intro wq hSw
      obtain ⟨y1, y2⟩ := KC.out wq hSw
      go_simp
    (try simp only [Act.put, List.setIfInBounds_toArray, List.set_cons_zero, List.set_cons_succ])
    refine Ix.tk 7 ⟨some 56, .move (.tmp 7), 140, "ref.go:250", #[], none⟩ (.pointer (some ⟨g, p * 3, none⟩)) [8,9,10,11,12,13,16] ?_ KP.out ?_
    · intro wq hSw
      obtain ⟨y1, y2⟩ := KC.out wq hSw
      go_simp
    (try simp only [Act.put, List.setIfInBounds_toArray, List.set_cons_zero, List.set_cons_succ])
    refine Ix.tk 8 ⟨some 57, .nilCheck (.tmp 56), 0, "ref.go:250", #[⟨7,.data⟩], none⟩ (.pointer (some ⟨g, p * 3, none⟩)) [9,10,11,12,13,16] ?_ KP.out ?_
    · intro wq hSw
      obtain ⟨y1, y2⟩ := KC.out wq hSw
      go_simp
    (try simp only [Act.put, List.setIfInBounds_toArray, List.set_cons_zero, List.set_cons_succ])
    refine Ix.tk 9 ⟨some 58, .fieldAddr 138 (.tmp 57) 1, 0, "ref.go:250", #[⟨8,.data⟩], none⟩ (.pointer (some ⟨g, p * 3 + 1, none⟩)) [10,11,12,13,16] ?_ KP.out ?_
    · intro wq hSw
      obtain ⟨y1, y2⟩ := KC.out wq hSw
      go_simp
    (try simp only [Act.put, List.setIfInBounds_toArray, List.set_cons_zero, List.set_cons_succ])
    refine Ix.tk 10 ⟨some 59, .load 30 (.tmp 58), 30, "ref.go:250", #[⟨9,.data⟩], none⟩ (.slice la ll lc) [11,12,13,16] ?_ KP.out ?_
    · intro wq hSw
      obtain ⟨y1, y2⟩ := KC.out wq hSw
      go_simp
    (try simp only [Act.put, List.setIfInBounds_toArray, List.set_cons_zero, List.set_cons_succ])
    refine Ix.tk 11 ⟨some 60, .call { callee := .builtin .len, args := #[.tmp 59], argTypes := #[30] }, 3, "ref.go:250", #[⟨10,.data⟩], none⟩ (.int .i64 (ll : Int)) [12,13,16] ?_ KP.out ?_
    · intro wq hSw
      obtain ⟨y1, y2⟩ := KC.out wq hSw
      go_simp
    (try simp only [Act.put, List.setIfInBounds_toArray, List.set_cons_zero, List.set_cons_succ])
    refine Ix.tk 12 ⟨some 61, .binOp .sub 3 (.tmp 55) (.tmp 60) 3, 3, "ref.go:250", #[⟨6,.data⟩,⟨11,.data⟩], none⟩ (.int .i64 ((bl : Int) - (ll : Int))) [13,16] ?_ KP.out ?_
    · intro wq hSw
      obtain ⟨y1, y2⟩ := KC.out wq hSw
      go_simp
    (try simp only [Act.put, List.setIfInBounds_toArray, List.set_cons_zero, List.set_cons_succ])
    refine wpAnyT_one (i := 13) (o := ⟨some 62, .call { callee := .value (.func 90), args := #[.tmp 50, .tmp 61], argTypes := #[140, 3] }, 30, "ref.go:250", #[⟨1, .data⟩, ⟨12, .data⟩], none⟩) (by kernel_rfl) rfl (fun K hK => ?_)
    go_simp
    go_at_call 90
    refine (hL.out q KP.out).mono ?_
    rintro e w5 ⟨v5, rfl, O5, b5⟩
    obtain ⟨va, vc, ev, vl1, vl2⟩ := O5.form
    have X5 : Hid (Below Z.heap.size Z w5) := KP.out.trans (b5.mono KP.out.size)
    have zq : Hid (Z.heap.size ≤ q.heap.size) := KP.out.size
    replace O5 := hide O5
    (try go_simp)
    refine hK.out _ _ (fun _ => X5.out) ?_
    clear hK K
    (try simp only [Act.put, List.setIfInBounds_toArray, List.set_cons_zero, List.set_cons_succ])
    refine Ix.tk 14 ⟨some 63, .nilCheck (.tmp 49), 0, "ref.go:250", #[⟨0,.data⟩,⟨0,.phase⟩,⟨1,.phase⟩,⟨2,.phase⟩,⟨3,.phase⟩,⟨4,.phase⟩,⟨5,.phase⟩,⟨6,.phase⟩,⟨7,.phase⟩,⟨8,.phase⟩,⟨9,.phase⟩,⟨10,.phase⟩,⟨11,.phase⟩,⟨12,.phase⟩,⟨13,.phase⟩], none⟩ (.pointer (some ⟨g, p * 3, none⟩)) [15,16] ?_ X5.out ?_
    · intro wq hSw
      obtain ⟨y1, y2⟩ := KC.out wq hSw
      go_simp
    (try simp only [Act.put, List.setIfInBounds_toArray, List.set_cons_zero, List.set_cons_succ])
    refine Ix.tk 15 ⟨some 64, .fieldAddr 138 (.tmp 63) 1, 0, "ref.go:250", #[⟨14,.data⟩,⟨0,.phase⟩,⟨1,.phase⟩,⟨2,.phase⟩,⟨3,.phase⟩,⟨4,.phase⟩,⟨5,.phase⟩,⟨6,.phase⟩,⟨7,.phase⟩,⟨8,.phase⟩,⟨9,.phase⟩,⟨10,.phase⟩,⟨11,.phase⟩,⟨12,.phase⟩,⟨13,.phase⟩], none⟩ (.pointer (some ⟨g, p * 3 + 1, none⟩)) [16] ?_ X5.out ?_
    · intro wq hSw
      obtain ⟨y1, y2⟩ := KC.out wq hSw
      go_simp
    (try simp only [Act.put, List.setIfInBounds_toArray, List.set_cons_zero, List.set_cons_succ])
    have M5 := hide (MZ.out.below X5.out)
    have FF := M5.out.ff
    rw [hvf] at FF
    have d1 : w5.cell? ⟨g, p * 3 + 1, none⟩ = some V.T[p].2 := by rw [X5.out.cell (lt_of_cell w1s.out)]; exact w1s.out
    have d2 : w5.frozen? ⟨g, p * 3 + 1, none⟩ = false := FF.frozenAt _
    have s1 := (FF.stored (p * 3 + 1) v5).1
    rw [fcells_setL _ _ p _ L hln.out hiF hl] at s1
    have L1 : p < ((R.beg 2).F.set p ((R.beg 2).F[p].1, L, (R.beg 2).F[p].2.2)).length := by rw [List.length_set]; exact hiF
    have L2 : p < (V.T.set p (V.T[p].1, v5)).length := by rw [List.length_set]; exact hl
    have L3 : (V.T.set p (V.T[p].1, v5)).length = ((R.beg 2).F.set p ((R.beg 2).F[p].1, L, (R.beg 2).F[p].2.2)).length := by rw [List.length_set, List.length_set]; exact hln.out
    have d3 : ∃ u, (w5.setCell ⟨g, p * 3 + 1, none⟩ v5).cell? ⟨g, p * 3 + 2, none⟩ = some u := by
      have hx := (fcells_at _ _ L3 p L1 L2).2.2
      have := World.ownsRow.cells s1 (g := g) rfl _ _ hx
      rw [addr_add, Nat.zero_add] at this
      exact ⟨_, this⟩
    obtain ⟨u3, d3⟩ := d3
    have d4 : (w5.setCell ⟨g, p * 3 + 1, none⟩ v5).frozen? ⟨g, p * 3 + 2, none⟩ = false := s1.frozenAt _
    have s2 := (s1.stored (p * 3 + 2) (.int .i64 0)).1
    rw [fcells_setS _ _ p _ L3 L1 L2, List.getElem_set_self, List.set_set] at s2
    have g1 := But.of_grownBy (X := fun k => k = g) (grown_setCell w5 g (p * 3 + 1) v5) fun k e => by cases e; rfl
    have g2 := But.of_grownBy (X := fun k => k = g) (grown_setCell (w5.setCell ⟨g, p * 3 + 1, none⟩ v5) g (p * 3 + 2) (.int .i64 0)) fun k e => by cases e; rfl
    have gX := g1.trans g2
    have fin : Hid (Rgo Z ((w5.setCell ⟨g, p * 3 + 1, none⟩ v5).setCell ⟨g, p * 3 + 2, none⟩ (.int .i64 0)) b V ((R.beg 2).one p (f0.1, L, 0))) := by
      refine RM.file MZ.out (i := p) hiF hl (t := (V.T[p].1, v5)) ?_ ?_ ?_ ((But.of_below X5.out _).trans (gX.mono fun k _ e => .inl (by rw [hg1, e]))) (.inl rfl) (.inr fun k hk => ?_) ?_
      · rw [hvf]
        simp only [hf0'.out] at s2
        exact s2
      · exact Oc.but (OB1.out.below X5.out) gX (fun k hk e => MZ.out.ds 1 (2 * p + 6) (by omega) g hg1 (by rw [blk_N b V hl, hk, e]))
      · have := Oc.but (Oc.of (O5.out.low (Nat.zero_le _))) gX (fun k hk e => by
          have q1 := (O5.out.lt k hk).1
          have q2 := MZ.out.lt 1 g hg1
          have q3 := zq.out
          omega)
        exact this
      · have q1 := (O5.out.lt k hk).1
        have q3 := zq.out
        omega
      · intro k k1 k2
        have q1 := (O5.out.lt k k2).1
        have q2 := MZ.out.lt (2 * p + 6) k (by rw [blk_N b V hl]; exact k1)
        have q3 := zq.out
        omega
    have fin2 := hide (fin.out.behind bZ.out)
    rw [eL] at d1
    subst ev
    clear fin g1 g2 gX s1 s2 FF M5 L1 L2 L3
    refine wpAnyT_one (i := 16) (o := ⟨none, .store 30 (.tmp 64) (.tmp 62), 0, "ref.go:250", #[⟨15, .data⟩, ⟨13, .data⟩, ⟨13, .chain⟩, ⟨0, .phase⟩, ⟨1, .phase⟩, ⟨2, .phase⟩, ⟨3, .phase⟩, ⟨4, .phase⟩, ⟨5, .phase⟩, ⟨6, .phase⟩, ⟨7, .phase⟩, ⟨8, .phase⟩, ⟨9, .phase⟩, ⟨10, .phase⟩, ⟨11, .phase⟩, ⟨12, .phase⟩, ⟨13, .phase⟩], none⟩) (by kernel_rfl) rfl (fun K hK => ?_)
    go_simp
    refine hK.out _ _ (vac (by kernel_rfl)) ?_
    clear hK K
    (try simp only [Act.put, List.setIfInBounds_toArray, List.set_cons_zero, List.set_cons_succ])
    refine wpAnyT_done (by kernel_rfl) ?_ _
    go_wp2_with fail
    go_ret
    rw [e1.out]
    exact ⟨rfl, fin2.out⟩
  · have e1 : X = (R, refN R.down R.dir s true) := by rw [← hX.out]; unfold RB.sync; rw [if_pos h0]
    rw [e1]
    refine (sync_rm_no h s hs h0).mono ?_
    rintro e w' ⟨rfl, rfl⟩
    exact ⟨rfl, Rgo.refl h⟩
end Go.Proofs.YtjehpijjneghpaaGreat.Re
