/-
  The document's disk: Append.
-/
import Derived.Test.YtjehpijjneghpaaGreatM25
namespace Go.Proofs.YtjehpijjneghpaaGreat.Re
open Go.RowKit Go.Maps Go.Sort Go.Shelf Go.Proofs.YtjehpijjneghpaaGreat.Nm Go.Proofs.YtjehpijjneghpaaGreat.Dk
open Ix (wp_region_T wpAnyT wpAnyT_take wpAnyT_one wpAnyT_done vac)
set_option linter.unusedVariables false
def RB.apN (R : RB) (len : Nat) : Nat := (if R.flt.2.1 ≠ 0 then min (min (len : Int) R.room) R.flt.2.2 else min (len : Int) R.room).toNat
def RB.put (R : RB) (n : Int) : RB := { R with c8 := n }
def RB.append (R : RB) (s : ByteArray) (D : List UInt8) : RB × Int × Int :=
  if refN R.down R.dir s true ≠ 0 then (R, 0, refN R.down R.dir s true)
  else (((R.beg 1).one (R.pOf s) ((R.fOf (R.pOf s)).1 ++ D.take (R.apN D.length), (R.fOf (R.pOf s)).2)).put (R.c8 + (R.apN D.length : Int)), (R.apN D.length : Int), if R.flt.2.1 ≠ 0 then toldN R.flt.2.1 else if R.apN D.length < D.length then 21 else 0)
theorem room_lo (R : RB) : 0 ≤ R.room := by unfold RB.room; omega
theorem rapN_min (R : RB) (len : Nat) (h0 : R.flt.2.1 = 0) : min (len : Int) R.room = (R.apN len : Int) := by
  have := room_lo R
  unfold RB.apN
  rw [if_neg (by simp [h0])]
  omega
theorem rapN_part (R : RB) (len : Nat) (h0 : R.flt.2.1 ≠ 0) (hp : 0 ≤ R.flt.2.2) : min (min (len : Int) R.room) R.flt.2.2 = (R.apN len : Int) := by
  have := room_lo R
  unfold RB.apN
  rw [if_pos h0]
  omega
theorem rapN_le (R : RB) (len : Nat) : R.apN len ≤ len ∧ (R.apN len : Int) ≤ R.room := by
  have := room_lo R
  unfold RB.apN
  split <;> omega
theorem beg_c8 (R : RB) (j : Nat) : (R.beg j).c8 = R.c8 := by unfold RB.beg; split <;> rfl
set_option maxRecDepth 100000 in
set_option maxHeartbeats 2000000 in
theorem append_rm {w : World} {b : Nat} {R : RB} {V : RV} (h : RM w b R V) (ho : R.ok) (hc : R.c7 ≤ 1000000000) (hg : ∀ e ∈ R.dir, e.2 < R.F.length) (hpt : 0 ≤ R.flt.2.2) (m0 : 0 ≤ R.most) (m1 : R.most ≤ 16777216) (hz : ((R.sum R.dir.length : Nat) : Int) ≤ 9000000000000000) (h8 : 0 ≤ R.c8 ∧ R.c8 ≤ 4000000000000000000)
    (s : ByteArray) (hs : s.size ≤ maxLen) (v : Value) (D : List UInt8) (hv : Sl w v D) (hov : SOff (fun k => ∃ x, blk b V x = some k) v) (hsz : R.lenOf (R.pOf s) + R.apN D.length ≤ 100000000) :
    Calls Tryz.prog 46 #[.pointer (some ⟨b, 0, none⟩), .string s, v] w fun e w' => e = .returned (.tuple #[.int .i64 (R.append s D).2.1, .int .i64 (R.append s D).2.2]) ∧ Rgo w w' b V (R.append s D).1 := by
  obtain ⟨X, hX⟩ : ∃ X, Hid (R.append s D = X) := ⟨_, rfl⟩
  rw [hX.out]
  have hR := refused_rm h s hs true
  by_cases h0 : refN R.down R.dir s true = 0
  · rw [h0] at hR
    have hRm : Hid (∀ q, RM q b R V → Calls Tryz.prog 100 #[.pointer (some ⟨b, 0, none⟩)] q fun e w' => e = .returned (.int .i64 R.room) ∧ Below q.heap.size q w') := fun q hq => room_rm hq hg m0 m1 hz
    have hB : Hid (∀ q, RM q b R V → _) := fun q hq => begins_rm hq ho hc 1 (by omega)
    obtain ⟨hf, hp, _⟩ := refN_there hg h0
    obtain ⟨be1, be2, _⟩ := beg_same R 1
    have hFi : Hid (∀ q, RM q b (R.beg 1) V → Calls Tryz.prog 96 #[V.vD, .string s] q fun e w' => e = .returned (.int .i64 (R.pOf s : Int)) ∧ w' = q) := fun q hq => by
      have := find_ref q V.vD (R.beg 1).dir s hq.dd.tr
      rw [be2, hf] at this
      exact this
    have hvd : ∃ da dn dc, V.vD = .slice da dn dc := by rcases h.dd.form with ⟨e, _⟩ | ⟨g, cap, e, _⟩ <;> exact ⟨_, _, _, e⟩
    obtain ⟨da, dn, dc, hvd⟩ := hvd
    obtain ⟨hn1, hn2⟩ := rapN_le R D.length
    have hmin := rapN_min R D.length
    have hpart := rapN_part R D.length
    have hrl := room_lo R
    have hrh : R.room ≤ 16777216 := by unfold RB.room; omega
    have e1 : Hid (X = (((R.beg 1).one (R.pOf s) ((R.fOf (R.pOf s)).1 ++ D.take (R.apN D.length), (R.fOf (R.pOf s)).2)).put (R.c8 + (R.apN D.length : Int)), (R.apN D.length : Int), if R.flt.2.1 ≠ 0 then toldN R.flt.2.1 else if R.apN D.length < D.length then 21 else 0)) := by show _ = _; rw [← hX.out]; unfold RB.append; rw [if_neg (by rw [h0]; simp)]
    obtain ⟨F, hF⟩ : ∃ F : Ft, Hid (R.flt = F) := ⟨R.flt, rfl⟩
    rw [hF.out] at hB hmin hpart hpt e1
    obtain ⟨n, hn⟩ : ∃ n, Hid (R.apN D.length = n) := ⟨_, rfl⟩
    rw [hn.out] at hmin hpart hn1 hn2 hsz e1
    obtain ⟨rm, hrm⟩ : ∃ rm, Hid (R.room = rm) := ⟨_, rfl⟩
    rw [hrm.out] at hmin hpart hn2 hrl hrh hRm
    obtain ⟨fa, fk, fp⟩ := F
    unfold fv at hB
    dsimp only at hB hmin hpart hpt e1
    rw [hvd] at hFi
    have HM := hide h
    have hfo : R.fOf (R.pOf s) = R.F[R.pOf s] := by unfold RB.fOf; rw [List.getElem?_eq_getElem hp]; rfl
    have hlo : R.lenOf (R.pOf s) = R.F[R.pOf s].1.length := by unfold RB.lenOf; rw [List.getElem?_eq_getElem hp]
    rw [hlo] at hsz
    rw [hfo] at e1
    have VV := hide hv
    obtain ⟨av, cv, rfl, _, q3, q4, _⟩ := hv
    have q4' : cv ≤ 9223372036854775807 := by unfold maxLen at q4; omega
    have i1 : (n : Int) ≤ (cv : Int) := by omega
    have i2 : (0 : Int) ≤ (n : Int) := by omega
    have hww : IntKind.i64.wrap (R.c8 + (n : Int)) = R.c8 + (n : Int) := by rw [IntKind.wrap_i64]; omega
    replace hn2 := hide hn2
    replace hov := hide hov
    obtain ⟨n1, hn3⟩ : ∃ n1 : Nat, min (D.length : Int) rm = (n1 : Int) := ⟨(min (D.length : Int) rm).toNat, by omega⟩
    have hz1 : Hid (fk = 0 → n1 = n) := fun c => by have := hmin c; omega
    have hz2 : Hid (fk ≠ 0 → min (n1 : Int) fp = (n : Int)) := fun c => by rw [← hn3]; exact hpart c hpt
    clear h ho hc hmin hpart hlo hfo q4 m0 m1 hz hpt
    by_cases k0 : fk = 0
    · subst k0
      have e3 := hz1.out rfl
      subst e3
      go_enter Tryz.func46, Tryz.ntmps46
      go_upto_region 6 with (first
        | (go_at_call 95; refine hR.mono ?_; rintro e w1 ⟨rfl, e1'⟩; subst w1)
        | (go_at_call 100; refine (hRm.out _ HM.out).mono ?_; rintro e wa ⟨rfl, Ba⟩; replace Ba := hide Ba; have Ma := hide (HM.out.below Ba.out))
        | (go_at_call 97; refine (hB.out _ Ma.out).mono ?_; rintro e w1 ⟨rfl, M1, b1⟩; replace M1 := hide M1; replace b1 := hide b1))
      have z1 := heap_alloc_new w1 (.cells #[.int .i64 fa, .int .i64 0, .int .i64 fp] 118)
      have BX := hide (box_below w1 (.cells #[.int .i64 fa, .int .i64 0, .int .i64 fp] 118))
      obtain ⟨Y, hY⟩ : ∃ Y, Hid (w1.alloc (.cells #[.int .i64 fa, .int .i64 0, .int .i64 fp] 118) = Y) := ⟨_, rfl⟩
      rw [hY.out] at z1 BX ⊢
      have y1 : Y.cell? ⟨w1.heap.size, 1, none⟩ = some (.int .i64 0) := by simp [World.cell?, z1]
      have y2 : Y.cell? ⟨w1.heap.size, 2, none⟩ = some (.int .i64 fp) := by simp [World.cell?, z1]
      have MY := hide (M1.out.below BX.out)
      have bY : Hid (But (fun k => k = b) w Y) := (But.of_below Ba.out _).trans (b1.out.trans (But.of_below BX.out _))
      have VY : Hid (Sl Y (.slice av D.length cv) D) := sl_but VV.out bY.out (hov.out.mono fun k hk => ⟨0, by rw [hk]; rfl⟩)
      have zb : Hid (∀ k, (∃ x, blk b V x = some k) → k ≠ w1.heap.size) := fun k ⟨x, hx⟩ e => by have := M1.out.lt x k hx; omega
      clear z1 hR hRm hB
      obtain ⟨g, cap, hvf, fl1, fl2, hl, z0, _, _⟩ := MY.out.at (i := R.pOf s) (by rw [be1]; exact hp)
      have c1 : Y.cell? ⟨b, 1, none⟩ = some V.vF := (MY.out.cell 1).trans rfl
      have c2 : Y.cell? ⟨b, 2, none⟩ = some V.vD := (MY.out.cell 2).trans rfl
      rw [hvf, be1] at c1
      rw [hvd] at c2
      rw [be1] at fl1
      obtain ⟨ob1, ob2⟩ := MY.out.nn (R.pOf s) (by rw [be1]; exact hp)
      simp only [be1] at ob1 ob2
      have hg1 : V.vF.ownBlock = some g := by rw [hvf]; exact own_some _ _ _
      generalize hpp : R.pOf s = p at *
      have ip : (p : Int) < (R.F.length : Int) := by omega
      clear hpp
      go_upto_region 8 with fail
      go_quiet ((go_at_call 96; exact Calls.quiet_of_same (hFi.out _ (MY.out.below (Qt.below ⟨_, rfl⟩ _)))))
      have B3 : Hid (Below Y.heap.size Y (Y.drewN nq)) := Qt.below ⟨nq, rfl⟩ _
      have MZ := hide (MY.out.below B3.out)
      have y3 : (Y.drewN nq).cell? ⟨w1.heap.size, 1, none⟩ = some (.int .i64 0) := by rw [B3.out.cell (lt_of_cell y1)]; exact y1
      have bZ : Hid (But (fun k => k = b) w (Y.drewN nq)) := bY.out.trans (But.of_below B3.out _)
      have VZ : Hid (Sl (Y.drewN nq) (.slice av D.length cv) D) := Below.sl B3.out VY.out
      have ob1Z := ob1.below B3.out
      have ob2Z := ob2.below B3.out
      have w0 : (Y.drewN nq).cell? ⟨g, p * 3, none⟩ = some V.T[p].1 := by rw [B3.out.cell (lt_of_cell z0)]; exact z0
      generalize Y.drewN nq = Z at *
      go_upto_region 9 with fail
      obtain ⟨ta, tc, et, tl1, tl2⟩ := ob1.form
      obtain ⟨f0, hf0⟩ : ∃ f0 : FD, Hid (R.F[p] = f0) := ⟨R.F[p], rfl⟩
      have hln := hide MZ.out.ln
      have hiF : p < (R.beg 1).F.length := by rw [be1]; exact hp
      have hf0' : Hid ((R.beg 1).F[p] = f0) := by show _ = _; simp only [be1]; exact hf0.out
      rw [hf0.out] at e1 tl1 ob1Z ob2Z hsz et
      have OB1 := hide ob1Z
      have OB2 := hide ob2Z
      have hbt : Hid (V.T[p].1.ownBlock ≠ some g) := fun e => MZ.out.ds 1 (2 * p + 6) (by omega) g hg1 (by rw [blk_N b V hl, e])
      have w0s := hide w0
      have ets := hide et
      rw [et] at w0
      obtain ⟨bl, hbl⟩ : ∃ bl : Nat, Hid (f0.1.length = bl) := ⟨f0.1.length, rfl⟩
      rw [hbl.out] at w0 tl1 ets
      have KC : Hid (∀ q : World, q.heap[g]? = Z.heap[g]? → q.cell? ⟨g, p * 3, none⟩ = some (.slice ta bl tc)) := fun q hq => by rw [← w0]; simp only [World.cell?, hq]
      have KP : Hid (Z.drew.heap[g]? = Z.heap[g]?) := rfl
      have BQ : Hid (Below Z.heap.size Z Z.drew) := (Below.refl _ _).drew
      have hsz' := hide hsz
      clear ob1 ob2 ob1Z ob2Z z0 c1 c2 y1 y2 hFi et w0 hsz
      refine wp_region_T (fun q => q.heap[g]? = Z.heap[g]?) 11 (by kernel_rfl) ?_
      generalize Z.drew = q at *
      refine Ix.tk 0 ⟨some 47, .move (.tmp 11), 140, "ref.go:211", #[], none⟩ (.pointer (some ⟨g, p * 3, none⟩)) [9,10,11] ?_ KP.out ?_
      · intro wq hSw
        have y1 := KC.out wq hSw
        go_simp
      (try simp only [zzp, zza, zzb, zzc])
      refine Ix.tk 1 ⟨some 48, .move (.tmp 11), 140, "ref.go:211", #[], none⟩ (.pointer (some ⟨g, p * 3, none⟩)) [2,3,4,8,11] ?_ KP.out ?_
      · intro wq hSw
        have y1 := KC.out wq hSw
        go_simp
      (try simp only [zzp, zza, zzb, zzc])
      refine Ix.tk 2 ⟨some 49, .nilCheck (.tmp 48), 0, "ref.go:211", #[⟨1,.data⟩], none⟩ (.pointer (some ⟨g, p * 3, none⟩)) [3,4,8,11] ?_ KP.out ?_
      · intro wq hSw
        have y1 := KC.out wq hSw
        go_simp
      (try simp only [zzp, zza, zzb, zzc])
      refine Ix.tk 3 ⟨some 50, .fieldAddr 138 (.tmp 49) 0, 0, "ref.go:211", #[⟨2,.data⟩], none⟩ (.pointer (some ⟨g, p * 3, none⟩)) [4,8,11] ?_ KP.out ?_
      · intro wq hSw
        have y1 := KC.out wq hSw
        go_simp
      (try simp only [zzp, zza, zzb, zzc])
      refine Ix.tk 4 ⟨some 51, .load 30 (.tmp 50), 30, "ref.go:211", #[⟨3,.data⟩], none⟩ (.slice ta bl tc) [8,11] ?_ KP.out ?_
      · intro wq hSw
        have y1 := KC.out wq hSw
        go_simp
      (try simp only [zzp, zza, zzb, zzc])
      refine Ix.tk 5 ⟨some 52, .move (.tmp 2), 30, "ref.go:211", #[], none⟩ (.slice av D.length cv) [7,8,11] ?_ KP.out ?_
      · intro wq hSw
        have y1 := KC.out wq hSw
        go_simp
      (try simp only [zzp, zza, zzb, zzc])
      refine Ix.tk 6 ⟨some 53, .move (.tmp 9), 3, "ref.go:211", #[], none⟩ (.int .i64 (n1 : Int)) [7,8,11] ?_ KP.out ?_
      · intro wq hSw
        have y1 := KC.out wq hSw
        go_simp
      (try simp only [zzp, zza, zzb, zzc])
      refine Ix.tk 7 ⟨some 54, .slice 30 (.tmp 52) none (some (.tmp 53)) none, 30, "ref.go:211", #[⟨5,.data⟩,⟨6,.data⟩], none⟩ (.slice av n1 cv) [8,11] ?_ KP.out ?_
      · intro wq hSw
        have y1 := KC.out wq hSw
        go_simp
      (try simp only [zzp, zza, zzb, zzc])
      have V5 : Sl q (.slice av n1 cv) (D.take n1) := sl_take (Below.sl BQ.out VZ.out) hn1
      obtain ⟨v5, w5, hr, O5, G5, A5⟩ := run_appO (B := 0) (OB1.out.below BQ.out) V5 (by have := hsz'.out; rw [List.length_take]; omega) (Nat.zero_le _) 30
      rw [ets.out] at hr
      obtain ⟨a5, c5, e5, l51, l52⟩ := O5.form
      obtain ⟨m5, hm5⟩ : ∃ m5, Hid ((f0.1 ++ D.take n1).length = m5) := ⟨_, rfl⟩
      rw [hm5.out] at e5 l51
      have U5 : Hid (But (fun k => V.T[p].1.ownBlock = some k) q w5) := But.of_grownBy G5 fun k e => e
      have K5 : Hid (w5.heap[g]? = Z.heap[g]?) := (U5.out.block g (Nat.lt_of_lt_of_le (lt_of_cell w0s.out) BQ.out.size) hbt.out).trans KP.out
      refine wpAnyT_one (i := 8) (o := ⟨some 55, .call { callee := .builtin .append, args := #[.tmp 51, .tmp 54], argTypes := #[30, 30] }, 30, "ref.go:211", #[⟨4, .data⟩, ⟨7, .data⟩], none⟩) (by kernel_rfl) rfl (fun K hK => ?_)
      refine step_app rfl (.tmp 51) (.tmp 54) rfl _ _ _ w5 (by simp [Act.eval]) (by simp [Act.eval]) hr ?_
      refine hK.out _ _ (fun _ => K5.out) ?_
      clear hK K hr
      (try simp only [zzp, zza, zzb, zzc])
      refine Ix.tk 9 ⟨some 56, .nilCheck (.tmp 47), 0, "ref.go:211", #[⟨0,.data⟩,⟨0,.phase⟩,⟨1,.phase⟩,⟨2,.phase⟩,⟨3,.phase⟩,⟨4,.phase⟩,⟨5,.phase⟩,⟨6,.phase⟩,⟨7,.phase⟩,⟨8,.phase⟩], none⟩ (.pointer (some ⟨g, p * 3, none⟩)) [10,11] ?_ K5.out ?_
      · intro wq hSw
        have y1 := KC.out wq hSw
        go_simp
      (try simp only [zzp, zza, zzb, zzc])
      refine Ix.tk 10 ⟨some 57, .fieldAddr 138 (.tmp 56) 0, 0, "ref.go:211", #[⟨9,.data⟩,⟨0,.phase⟩,⟨1,.phase⟩,⟨2,.phase⟩,⟨3,.phase⟩,⟨4,.phase⟩,⟨5,.phase⟩,⟨6,.phase⟩,⟨7,.phase⟩,⟨8,.phase⟩], none⟩ (.pointer (some ⟨g, p * 3, none⟩)) [11] ?_ K5.out ?_
      · intro wq hSw
        have y1 := KC.out wq hSw
        go_simp
      (try simp only [zzp, zza, zzb, zzc])
      have Q5 : Hid (But (fun k => V.T[p].1.ownBlock = some k) Z w5) := (But.of_below BQ.out _).trans U5.out
      have FF := ownsRow_but MZ.out.ff Q5.out (fun k hk => by rw [hg1] at hk; cases hk; exact hbt.out)
      rw [hvf] at FF
      have d1 : ∃ u, w5.cell? ⟨g, p * 3, none⟩ = some u := ⟨_, KC.out w5 K5.out⟩
      obtain ⟨u1, d1⟩ := d1
      have d2 : w5.frozen? ⟨g, p * 3, none⟩ = false := FF.frozenAt _
      have s1 := (FF.stored (p * 3) v5).1
      rw [fcells_setN _ _ p _ (f0.1 ++ D.take n1) hln.out hiF hl] at s1
      have g1 := But.of_grownBy (X := fun k => k = g) (grown_setCell w5 g (p * 3) v5) fun k e => by cases e; rfl
      have qz : Hid (q.heap.size = Z.heap.size ∨ Z.heap.size ≤ q.heap.size) := .inr BQ.out.size
      have nA : Hid (v5.ownBlock = V.T[p].1.ownBlock ∨ ∀ k, v5.ownBlock = some k → Z.heap.size ≤ k) := A5.imp id fun e k hk => by rw [e] at hk; simp at hk; have := BQ.out.size; omega
      have hbt5 : Hid (∀ k, v5.ownBlock = some k → k ≠ g) := fun k hk c => by
        subst c
        rcases nA.out with e | e
        · exact hbt.out (by rw [← e]; exact hk)
        · have q1 := e k hk
          have q2 := MZ.out.lt 1 k hg1
          omega
      have fin : Hid (Rgo Z (w5.setCell ⟨g, p * 3, none⟩ v5) b V ((R.beg 1).one p (f0.1 ++ D.take n1, f0.2))) := by
        refine RM.file MZ.out (i := p) hiF hl (t := (v5, V.T[p].2)) ?_ ?_ ?_ ((Q5.out.mono fun k _ e => .inr e).trans (g1.mono fun k _ e => .inl (by rw [hg1, e]))) nA.out (.inl rfl) ?_
        · rw [hvf]
          simp only [hf0'.out] at s1
          exact s1
        · exact Oc.but O5 g1 (fun k hk e => hbt5.out k hk e)
        · refine Oc.but (OB2.out.but Q5.out fun k hk c => MZ.out.ds (2 * p + 6) (2 * p + 7) (by omega) k (by rw [blk_N b V hl]; exact c) (by rw [blk_L b V hl]; exact hk)) g1 (fun k hk e => MZ.out.ds 1 (2 * p + 7) (by omega) g hg1 (by rw [blk_L b V hl, hk, e]))
        · intro k k1 k2
          rcases nA.out with e | e
          · exact MZ.out.ds (2 * p + 6) (2 * p + 7) (by omega) k (by rw [blk_N b V hl, ← e]; exact k1) (by rw [blk_L b V hl]; exact k2)
          · have q1 := e k k1
            have q2 := MZ.out.lt (2 * p + 7) k (by rw [blk_L b V hl]; exact k2)
            omega
      have fin2 := hide (fin.out.behind bZ.out)
      obtain ⟨⟨V6, M6, X6⟩, T6⟩ := fin2.out
      replace M6 := hide M6
      have y4 : (w5.setCell ⟨g, p * 3, none⟩ v5).cell? ⟨w1.heap.size, 1, none⟩ = some (.int .i64 0) := cell_but (cell_but y3 Q5.out (fun c => zb.out w1.heap.size ⟨2 * p + 6, by rw [blk_N b V hl]; exact c⟩ rfl)) g1 (fun c => zb.out g ⟨1, hg1⟩ c.symm)
      subst e5
      clear FF s1 g1 fin fin2 O5 V5 U5 Q5 G5 A5
      refine wpAnyT_one (i := 11) (o := ⟨none, .store 30 (.tmp 57) (.tmp 55), 0, "ref.go:211", #[⟨10, .data⟩, ⟨8, .data⟩, ⟨8, .chain⟩, ⟨0, .phase⟩, ⟨1, .phase⟩, ⟨2, .phase⟩, ⟨3, .phase⟩, ⟨4, .phase⟩, ⟨5, .phase⟩, ⟨6, .phase⟩, ⟨7, .phase⟩, ⟨8, .phase⟩], none⟩) (by kernel_rfl) rfl (fun K hK => ?_)
      go_simp
      refine hK.out _ _ (vac (by kernel_rfl)) ?_
      clear hK K d1 d2
      (try simp only [zzq])
      refine wpAnyT_done (by kernel_rfl) ?_ _
      obtain ⟨w6, hw6⟩ : ∃ w6, Hid (w5.setCell ⟨g, p * 3, none⟩ (.slice a5 m5 c5) = w6) := ⟨_, rfl⟩
      rw [hw6.out] at M6 T6 y4 ⊢
      have x1 : w6.cell? ⟨b, 15, none⟩ = some (.int .i64 R.c8) := (M6.out.cell 15).trans (by show some (Value.int .i64 (R.beg 1).c8) = _; rw [beg_c8])
      have x2 : w6.frozen? ⟨b, 15, none⟩ = false := by simp [World.frozen?, M6.out.box]
      have g7 := But.of_grownBy (X := fun k => k = b) (grown_setCell w6 b 15 (.int .i64 (R.c8 + (n1 : Int)))) fun k e => by cases e; rfl
      have y5 : (w6.setCell ⟨b, 15, none⟩ (.int .i64 (R.c8 + (n1 : Int)))).cell? ⟨w1.heap.size, 1, none⟩ = some (.int .i64 0) := cell_but y4 g7 (fun c => zb.out b ⟨0, rfl⟩ c.symm)
      have fin3 : Hid (Rgo w (w6.setCell ⟨b, 15, none⟩ (.int .i64 (R.c8 + (n1 : Int)))) b V (((R.beg 1).one p (f0.1 ++ D.take n1, f0.2)).put (R.c8 + (n1 : Int)))) := by
        refine Rgo.then (R' := ((R.beg 1).one p (f0.1 ++ D.take n1, f0.2)).put (R.c8 + (n1 : Int))) (Rgo.same (M6.out.turn (R' := ((R.beg 1).one p (f0.1 ++ D.take n1, f0.2)).put (R.c8 + (n1 : Int))) g7 ?_ ⟨rfl, rfl, rfl, rfl, rfl⟩) g7) X6 T6
        exact heap_setCell_same w6 b 15 _ _ (.int .i64 (R.c8 + (n1 : Int))) M6.out.box
      clear M6 T6 X6 g7 fl1 fl2
      by_cases c : n1 < D.length
      · have c1 : (n1 : Int) < (D.length : Int) := by omega
        have e2 : Hid ((if ((0 : Int)) ≠ 0 then toldN 0 else if n1 < D.length then (21 : Int) else 0) = 21) := by show _ = _; rw [if_neg (by simp), if_pos c]
        rw [e2.out] at e1
        go_wp2_with fail
        go_ret2
        rw [e1.out]
        exact ⟨rfl, fin3.out⟩
      · have c1 : ¬ (n1 : Int) < (D.length : Int) := by omega
        have e2 : Hid ((if ((0 : Int)) ≠ 0 then toldN 0 else if n1 < D.length then (21 : Int) else 0) = 0) := by show _ = _; rw [if_neg (by simp), if_neg c]
        rw [e2.out] at e1
        go_wp2_with fail
        go_ret2
        rw [e1.out]
        exact ⟨rfl, fin3.out⟩
    · have k0' : (fk != 0) = true := by simpa using k0
      have hmn := hz2.out k0
      go_enter Tryz.func46, Tryz.ntmps46
      go_upto_region 6 with (first
        | (go_at_call 95; refine hR.mono ?_; rintro e w1 ⟨rfl, e1'⟩; subst w1)
        | (go_at_call 100; refine (hRm.out _ HM.out).mono ?_; rintro e wa ⟨rfl, Ba⟩; replace Ba := hide Ba; have Ma := hide (HM.out.below Ba.out))
        | (go_at_call 97; refine (hB.out _ Ma.out).mono ?_; rintro e w1 ⟨rfl, M1, b1⟩; replace M1 := hide M1; replace b1 := hide b1))
      have z1 := heap_alloc_new w1 (.cells #[.int .i64 fa, .int .i64 fk, .int .i64 fp] 118)
      have BX := hide (box_below w1 (.cells #[.int .i64 fa, .int .i64 fk, .int .i64 fp] 118))
      obtain ⟨Y, hY⟩ : ∃ Y, Hid (w1.alloc (.cells #[.int .i64 fa, .int .i64 fk, .int .i64 fp] 118) = Y) := ⟨_, rfl⟩
      rw [hY.out] at z1 BX ⊢
      have y1 : Y.cell? ⟨w1.heap.size, 1, none⟩ = some (.int .i64 fk) := by simp [World.cell?, z1]
      have y2 : Y.cell? ⟨w1.heap.size, 2, none⟩ = some (.int .i64 fp) := by simp [World.cell?, z1]
      have MY := hide (M1.out.below BX.out)
      have bY : Hid (But (fun k => k = b) w Y) := (But.of_below Ba.out _).trans (b1.out.trans (But.of_below BX.out _))
      have VY : Hid (Sl Y (.slice av D.length cv) D) := sl_but VV.out bY.out (hov.out.mono fun k hk => ⟨0, by rw [hk]; rfl⟩)
      have zb : Hid (∀ k, (∃ x, blk b V x = some k) → k ≠ w1.heap.size) := fun k ⟨x, hx⟩ e => by have := M1.out.lt x k hx; omega
      clear z1 hR hRm hB
      obtain ⟨g, cap, hvf, fl1, fl2, hl, z0, _, _⟩ := MY.out.at (i := R.pOf s) (by rw [be1]; exact hp)
      have c1 : Y.cell? ⟨b, 1, none⟩ = some V.vF := (MY.out.cell 1).trans rfl
      have c2 : Y.cell? ⟨b, 2, none⟩ = some V.vD := (MY.out.cell 2).trans rfl
      rw [hvf, be1] at c1
      rw [hvd] at c2
      rw [be1] at fl1
      obtain ⟨ob1, ob2⟩ := MY.out.nn (R.pOf s) (by rw [be1]; exact hp)
      simp only [be1] at ob1 ob2
      have hg1 : V.vF.ownBlock = some g := by rw [hvf]; exact own_some _ _ _
      generalize hpp : R.pOf s = p at *
      have ip : (p : Int) < (R.F.length : Int) := by omega
      clear hpp
      go_upto_region 8 with fail
      go_quiet ((go_at_call 96; exact Calls.quiet_of_same (hFi.out _ (MY.out.below (Qt.below ⟨_, rfl⟩ _)))))
      have B3 : Hid (Below Y.heap.size Y (Y.drewN nq)) := Qt.below ⟨nq, rfl⟩ _
      have MZ := hide (MY.out.below B3.out)
      have y3 : (Y.drewN nq).cell? ⟨w1.heap.size, 1, none⟩ = some (.int .i64 fk) := by rw [B3.out.cell (lt_of_cell y1)]; exact y1
      have bZ : Hid (But (fun k => k = b) w (Y.drewN nq)) := bY.out.trans (But.of_below B3.out _)
      have VZ : Hid (Sl (Y.drewN nq) (.slice av D.length cv) D) := Below.sl B3.out VY.out
      have ob1Z := ob1.below B3.out
      have ob2Z := ob2.below B3.out
      have w0 : (Y.drewN nq).cell? ⟨g, p * 3, none⟩ = some V.T[p].1 := by rw [B3.out.cell (lt_of_cell z0)]; exact z0
      generalize Y.drewN nq = Z at *
      go_upto_region 9 with fail
      obtain ⟨ta, tc, et, tl1, tl2⟩ := ob1.form
      obtain ⟨f0, hf0⟩ : ∃ f0 : FD, Hid (R.F[p] = f0) := ⟨R.F[p], rfl⟩
      have hln := hide MZ.out.ln
      have hiF : p < (R.beg 1).F.length := by rw [be1]; exact hp
      have hf0' : Hid ((R.beg 1).F[p] = f0) := by show _ = _; simp only [be1]; exact hf0.out
      rw [hf0.out] at e1 tl1 ob1Z ob2Z hsz et
      have OB1 := hide ob1Z
      have OB2 := hide ob2Z
      have hbt : Hid (V.T[p].1.ownBlock ≠ some g) := fun e => MZ.out.ds 1 (2 * p + 6) (by omega) g hg1 (by rw [blk_N b V hl, e])
      have w0s := hide w0
      have ets := hide et
      rw [et] at w0
      obtain ⟨bl, hbl⟩ : ∃ bl : Nat, Hid (f0.1.length = bl) := ⟨f0.1.length, rfl⟩
      rw [hbl.out] at w0 tl1 ets
      have KC : Hid (∀ q : World, q.heap[g]? = Z.heap[g]? → q.cell? ⟨g, p * 3, none⟩ = some (.slice ta bl tc)) := fun q hq => by rw [← w0]; simp only [World.cell?, hq]
      have KP : Hid (Z.drew.heap[g]? = Z.heap[g]?) := rfl
      have BQ : Hid (Below Z.heap.size Z Z.drew) := (Below.refl _ _).drew
      have hsz' := hide hsz
      clear ob1 ob2 ob1Z ob2Z z0 c1 c2 y1 y2 hFi et w0 hsz
      refine wp_region_T (fun q => q.heap[g]? = Z.heap[g]?) 11 (by kernel_rfl) ?_
      generalize Z.drew = q at *
      refine Ix.tk 0 ⟨some 47, .move (.tmp 11), 140, "ref.go:211", #[], none⟩ (.pointer (some ⟨g, p * 3, none⟩)) [9,10,11] ?_ KP.out ?_
      · intro wq hSw
        have y1 := KC.out wq hSw
        go_simp
      (try simp only [zzp, zza, zzb, zzc])
      refine Ix.tk 1 ⟨some 48, .move (.tmp 11), 140, "ref.go:211", #[], none⟩ (.pointer (some ⟨g, p * 3, none⟩)) [2,3,4,8,11] ?_ KP.out ?_
      · intro wq hSw
        have y1 := KC.out wq hSw
        go_simp
      (try simp only [zzp, zza, zzb, zzc])
      refine Ix.tk 2 ⟨some 49, .nilCheck (.tmp 48), 0, "ref.go:211", #[⟨1,.data⟩], none⟩ (.pointer (some ⟨g, p * 3, none⟩)) [3,4,8,11] ?_ KP.out ?_
      · intro wq hSw
        have y1 := KC.out wq hSw
        go_simp
      (try simp only [zzp, zza, zzb, zzc])
      refine Ix.tk 3 ⟨some 50, .fieldAddr 138 (.tmp 49) 0, 0, "ref.go:211", #[⟨2,.data⟩], none⟩ (.pointer (some ⟨g, p * 3, none⟩)) [4,8,11] ?_ KP.out ?_
      · intro wq hSw
        have y1 := KC.out wq hSw
        go_simp
      (try simp only [zzp, zza, zzb, zzc])
      refine Ix.tk 4 ⟨some 51, .load 30 (.tmp 50), 30, "ref.go:211", #[⟨3,.data⟩], none⟩ (.slice ta bl tc) [8,11] ?_ KP.out ?_
      · intro wq hSw
        have y1 := KC.out wq hSw
        go_simp
      (try simp only [zzp, zza, zzb, zzc])
      refine Ix.tk 5 ⟨some 52, .move (.tmp 2), 30, "ref.go:211", #[], none⟩ (.slice av D.length cv) [7,8,11] ?_ KP.out ?_
      · intro wq hSw
        have y1 := KC.out wq hSw
        go_simp
      (try simp only [zzp, zza, zzb, zzc])
      refine Ix.tk 6 ⟨some 53, .move (.tmp 9), 3, "ref.go:211", #[], none⟩ (.int .i64 (n : Int)) [7,8,11] ?_ KP.out ?_
      · intro wq hSw
        have y1 := KC.out wq hSw
        go_simp
      (try simp only [zzp, zza, zzb, zzc])
      refine Ix.tk 7 ⟨some 54, .slice 30 (.tmp 52) none (some (.tmp 53)) none, 30, "ref.go:211", #[⟨5,.data⟩,⟨6,.data⟩], none⟩ (.slice av n cv) [8,11] ?_ KP.out ?_
      · intro wq hSw
        have y1 := KC.out wq hSw
        go_simp
      (try simp only [zzp, zza, zzb, zzc])
      have V5 : Sl q (.slice av n cv) (D.take n) := sl_take (Below.sl BQ.out VZ.out) hn1
      obtain ⟨v5, w5, hr, O5, G5, A5⟩ := run_appO (B := 0) (OB1.out.below BQ.out) V5 (by have := hsz'.out; rw [List.length_take]; omega) (Nat.zero_le _) 30
      rw [ets.out] at hr
      obtain ⟨a5, c5, e5, l51, l52⟩ := O5.form
      obtain ⟨m5, hm5⟩ : ∃ m5, Hid ((f0.1 ++ D.take n).length = m5) := ⟨_, rfl⟩
      rw [hm5.out] at e5 l51
      have U5 : Hid (But (fun k => V.T[p].1.ownBlock = some k) q w5) := But.of_grownBy G5 fun k e => e
      have K5 : Hid (w5.heap[g]? = Z.heap[g]?) := (U5.out.block g (Nat.lt_of_lt_of_le (lt_of_cell w0s.out) BQ.out.size) hbt.out).trans KP.out
      refine wpAnyT_one (i := 8) (o := ⟨some 55, .call { callee := .builtin .append, args := #[.tmp 51, .tmp 54], argTypes := #[30, 30] }, 30, "ref.go:211", #[⟨4, .data⟩, ⟨7, .data⟩], none⟩) (by kernel_rfl) rfl (fun K hK => ?_)
      refine step_app rfl (.tmp 51) (.tmp 54) rfl _ _ _ w5 (by simp [Act.eval]) (by simp [Act.eval]) hr ?_
      refine hK.out _ _ (fun _ => K5.out) ?_
      clear hK K hr
      (try simp only [zzp, zza, zzb, zzc])
      refine Ix.tk 9 ⟨some 56, .nilCheck (.tmp 47), 0, "ref.go:211", #[⟨0,.data⟩,⟨0,.phase⟩,⟨1,.phase⟩,⟨2,.phase⟩,⟨3,.phase⟩,⟨4,.phase⟩,⟨5,.phase⟩,⟨6,.phase⟩,⟨7,.phase⟩,⟨8,.phase⟩], none⟩ (.pointer (some ⟨g, p * 3, none⟩)) [10,11] ?_ K5.out ?_
      · intro wq hSw
        have y1 := KC.out wq hSw
        go_simp
      (try simp only [zzp, zza, zzb, zzc])
      refine Ix.tk 10 ⟨some 57, .fieldAddr 138 (.tmp 56) 0, 0, "ref.go:211", #[⟨9,.data⟩,⟨0,.phase⟩,⟨1,.phase⟩,⟨2,.phase⟩,⟨3,.phase⟩,⟨4,.phase⟩,⟨5,.phase⟩,⟨6,.phase⟩,⟨7,.phase⟩,⟨8,.phase⟩], none⟩ (.pointer (some ⟨g, p * 3, none⟩)) [11] ?_ K5.out ?_
      · intro wq hSw
        have y1 := KC.out wq hSw
        go_simp
      (try simp only [zzp, zza, zzb, zzc])
      have Q5 : Hid (But (fun k => V.T[p].1.ownBlock = some k) Z w5) := (But.of_below BQ.out _).trans U5.out
      have FF := ownsRow_but MZ.out.ff Q5.out (fun k hk => by rw [hg1] at hk; cases hk; exact hbt.out)
      rw [hvf] at FF
      have d1 : ∃ u, w5.cell? ⟨g, p * 3, none⟩ = some u := ⟨_, KC.out w5 K5.out⟩
      obtain ⟨u1, d1⟩ := d1
      have d2 : w5.frozen? ⟨g, p * 3, none⟩ = false := FF.frozenAt _
      have s1 := (FF.stored (p * 3) v5).1
      rw [fcells_setN _ _ p _ (f0.1 ++ D.take n) hln.out hiF hl] at s1
      have g1 := But.of_grownBy (X := fun k => k = g) (grown_setCell w5 g (p * 3) v5) fun k e => by cases e; rfl
      have qz : Hid (q.heap.size = Z.heap.size ∨ Z.heap.size ≤ q.heap.size) := .inr BQ.out.size
      have nA : Hid (v5.ownBlock = V.T[p].1.ownBlock ∨ ∀ k, v5.ownBlock = some k → Z.heap.size ≤ k) := A5.imp id fun e k hk => by rw [e] at hk; simp at hk; have := BQ.out.size; omega
      have hbt5 : Hid (∀ k, v5.ownBlock = some k → k ≠ g) := fun k hk c => by
        subst c
        rcases nA.out with e | e
        · exact hbt.out (by rw [← e]; exact hk)
        · have q1 := e k hk
          have q2 := MZ.out.lt 1 k hg1
          omega
      have fin : Hid (Rgo Z (w5.setCell ⟨g, p * 3, none⟩ v5) b V ((R.beg 1).one p (f0.1 ++ D.take n, f0.2))) := by
        refine RM.file MZ.out (i := p) hiF hl (t := (v5, V.T[p].2)) ?_ ?_ ?_ ((Q5.out.mono fun k _ e => .inr e).trans (g1.mono fun k _ e => .inl (by rw [hg1, e]))) nA.out (.inl rfl) ?_
        · rw [hvf]
          simp only [hf0'.out] at s1
          exact s1
        · exact Oc.but O5 g1 (fun k hk e => hbt5.out k hk e)
        · refine Oc.but (OB2.out.but Q5.out fun k hk c => MZ.out.ds (2 * p + 6) (2 * p + 7) (by omega) k (by rw [blk_N b V hl]; exact c) (by rw [blk_L b V hl]; exact hk)) g1 (fun k hk e => MZ.out.ds 1 (2 * p + 7) (by omega) g hg1 (by rw [blk_L b V hl, hk, e]))
        · intro k k1 k2
          rcases nA.out with e | e
          · exact MZ.out.ds (2 * p + 6) (2 * p + 7) (by omega) k (by rw [blk_N b V hl, ← e]; exact k1) (by rw [blk_L b V hl]; exact k2)
          · have q1 := e k k1
            have q2 := MZ.out.lt (2 * p + 7) k (by rw [blk_L b V hl]; exact k2)
            omega
      have fin2 := hide (fin.out.behind bZ.out)
      obtain ⟨⟨V6, M6, X6⟩, T6⟩ := fin2.out
      replace M6 := hide M6
      have y4 : (w5.setCell ⟨g, p * 3, none⟩ v5).cell? ⟨w1.heap.size, 1, none⟩ = some (.int .i64 fk) := cell_but (cell_but y3 Q5.out (fun c => zb.out w1.heap.size ⟨2 * p + 6, by rw [blk_N b V hl]; exact c⟩ rfl)) g1 (fun c => zb.out g ⟨1, hg1⟩ c.symm)
      subst e5
      clear FF s1 g1 fin fin2 O5 V5 U5 Q5 G5 A5
      refine wpAnyT_one (i := 11) (o := ⟨none, .store 30 (.tmp 57) (.tmp 55), 0, "ref.go:211", #[⟨10, .data⟩, ⟨8, .data⟩, ⟨8, .chain⟩, ⟨0, .phase⟩, ⟨1, .phase⟩, ⟨2, .phase⟩, ⟨3, .phase⟩, ⟨4, .phase⟩, ⟨5, .phase⟩, ⟨6, .phase⟩, ⟨7, .phase⟩, ⟨8, .phase⟩], none⟩) (by kernel_rfl) rfl (fun K hK => ?_)
      go_simp
      refine hK.out _ _ (vac (by kernel_rfl)) ?_
      clear hK K d1 d2
      (try simp only [zzq])
      refine wpAnyT_done (by kernel_rfl) ?_ _
      obtain ⟨w6, hw6⟩ : ∃ w6, Hid (w5.setCell ⟨g, p * 3, none⟩ (.slice a5 m5 c5) = w6) := ⟨_, rfl⟩
      rw [hw6.out] at M6 T6 y4 ⊢
      have x1 : w6.cell? ⟨b, 15, none⟩ = some (.int .i64 R.c8) := (M6.out.cell 15).trans (by show some (Value.int .i64 (R.beg 1).c8) = _; rw [beg_c8])
      have x2 : w6.frozen? ⟨b, 15, none⟩ = false := by simp [World.frozen?, M6.out.box]
      have g7 := But.of_grownBy (X := fun k => k = b) (grown_setCell w6 b 15 (.int .i64 (R.c8 + (n : Int)))) fun k e => by cases e; rfl
      have y5 : (w6.setCell ⟨b, 15, none⟩ (.int .i64 (R.c8 + (n : Int)))).cell? ⟨w1.heap.size, 1, none⟩ = some (.int .i64 fk) := cell_but y4 g7 (fun c => zb.out b ⟨0, rfl⟩ c.symm)
      have fin3 : Hid (Rgo w (w6.setCell ⟨b, 15, none⟩ (.int .i64 (R.c8 + (n : Int)))) b V (((R.beg 1).one p (f0.1 ++ D.take n, f0.2)).put (R.c8 + (n : Int)))) := by
        refine Rgo.then (R' := ((R.beg 1).one p (f0.1 ++ D.take n, f0.2)).put (R.c8 + (n : Int))) (Rgo.same (M6.out.turn (R' := ((R.beg 1).one p (f0.1 ++ D.take n, f0.2)).put (R.c8 + (n : Int))) g7 ?_ ⟨rfl, rfl, rfl, rfl, rfl⟩) g7) X6 T6
        exact heap_setCell_same w6 b 15 _ _ (.int .i64 (R.c8 + (n : Int))) M6.out.box
      clear M6 T6 X6 g7 fl1 fl2
      have hTo2 : Hid (∀ q, Calls Tryz.prog 98 #[.int .i64 fk] q fun e w' => e = .returned (.int .i64 (toldN fk)) ∧ w' = q) := fun q => told_ref q fk
      have e2 : Hid ((if fk ≠ 0 then toldN fk else if n < D.length then (21 : Int) else 0) = toldN fk) := by show _ = _; rw [if_pos k0]
      rw [e2.out] at e1
      obtain ⟨tk, htk⟩ : ∃ tk, Hid (toldN fk = tk) := ⟨_, rfl⟩
      rw [htk.out] at hTo2 e1
      go_wp2_with (go_at_call 98; refine (hTo2.out _).mono ?_; rintro e w2 ⟨rfl, e2⟩; subst w2)
      go_ret2
      rw [e1.out]
      exact ⟨rfl, fin3.out⟩
  · have e1 : X = (R, 0, refN R.down R.dir s true) := by rw [← hX.out]; unfold RB.append; rw [if_pos h0]
    have H := hide h
    obtain ⟨av, cv, rfl, _, q3, q4, _⟩ := hv
    rw [e1]
    clear h e1 hg hov
    generalize refN R.down R.dir s true = rn at *
    have h0' : (rn != 0) = true := by simpa using h0
    go_enter Tryz.func46, Tryz.ntmps46
    go_wp2_with (go_at_call 95; refine hR.mono ?_; rintro e w1 ⟨rfl, e1'⟩; subst w1)
    go_ret2
    exact ⟨rfl, Rgo.refl H.out⟩
end Go.Proofs.YtjehpijjneghpaaGreat.Re
