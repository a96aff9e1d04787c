/-
  crash, sync of a file.
-/
import Derived.Test.YtpflaglfnkmjiaaGreatL03
import Derived.Test.YtpflaglfnkmjiaaGreatL02
import Derived.Laws.BytesArg
import Derived.Test.YtpflaglfnkmjiaaGreatL01
import Derived.Deep.Strs
import Derived.Deep.Slices
import Derived.Deep.LoopGhost
set_option maxRecDepth 100000
set_option maxHeartbeats 40000000
set_option linter.unusedVariables false
namespace Go.Proofs.YtpflaglfnkmjiaaGreat.Dk
open Go.RowKit Go.Maps Go.Proofs.YtpflaglfnkmjiaaGreat.Nm
open Ix (wp_region_T wpAnyT wpAnyT_take wpAnyT_one wpAnyT_done vac)
theorem step_app {w : World} {ops : Array Oper} {o : Oper} {a : Act} {K : Act → World → Prop} {Q : Exit → Act → World → Prop} {E : Prop} (hgd : o.guard = none) (x y : Operand)
    (ho : o.op = .call { callee := .builtin .append, args := #[x, y], argTypes := #[39, 39] }) (vx vy v' : Value) (w' : World) (hx : a.eval x = vx) (hy : a.eval y = vy) (hr : (Builtin.append_ #[39, 39] o.type #[vx, vy]).run Tryz.prog w = .ok v' w') (h : K (a.put o.dst v') w') :
    if Region.wanted o (yielded ops a.tmps) = true then Oper.wp Tryz.prog o a w K Q else E := by
 have hw : Region.wanted o (yielded ops a.tmps) = true := by simp [Region.wanted, hgd]
 rw [if_pos hw]
 unfold Oper.wp execOp
 simp only [ho, resolve, invoke, builtin, Sem.run_bind, Sem.run_pure, Result.andThen_ok, List.map_toArray, List.map_cons, List.map_nil, hx, hy, hr]
 exact h
def syF (f : Fl) : Fl := ⟨f.by_, f.la ++ svd f (f.by_.length - f.la.length), 0⟩
theorem sync_any (w : World) (p : Nat) (f : Fl) (vb vl : Value) (h : FlAt w p f vb vl) :
    Calls Tryz.prog 118 #[.pointer (some ⟨p, 0, none⟩)] w fun e w' => e = .returned (.tuple #[]) ∧ ∃ vl', FlAt w' p (syF f) vb vl' ∧ But (FOwn p vb vl) w w' ∧ (∀ k, FOwn p vb vl' k → FOwn p vb vl k ∨ w.heap.size ≤ k) := by
 have H := hide h
 obtain ⟨ta, hta⟩ : ∃ ta, Hid (f.by_.length - f.la.length = ta) := ⟨_, rfl⟩
 obtain ⟨al, cl, rfl, q1, q2⟩ := h.l.form
 have hT : Hid (∀ q, Below w.heap.size w q → Calls Tryz.prog 108 #[.pointer (some ⟨p, 0, none⟩)] q fun e w' => e = .returned (.int .i64 (ta : Int)) ∧ ∃ n, w' = q.drewN n) := fun q hq => by have := tail_any q p f vb _ (h.below hq); rw [hta.out] at this; exact this
 have hS : Hid (∀ q, Below w.heap.size w q → Calls Tryz.prog 128 #[.pointer (some ⟨p, 0, none⟩), .int .i64 (ta : Int)] q fun e w' => ∃ v, e = .returned v ∧ Ob q.heap.size w' v (svd f ta) ∧ Below q.heap.size q w') := fun q hq => saved_any q p ta f vb _ (h.below hq) (by have := hta.out; have := h.le; omega)
 have hsl : (svd f ta).length = ta := svd_len f ta (by have := hta.out; have := h.le; omega)
 have hz : f.la.length + ta ≤ 1099511627776 := by have := hta.out; have := h.le; have := h.sz; omega
 replace hsl := hide hsl
 have KC : Hid (∀ q : World, q.heap[p]? = some (.cells #[vb, .slice al f.la.length cl, .int .i64 (f.sp : Int)] TFl (0, 0)) → q.cell? ⟨p, 1, none⟩ = some (.slice al f.la.length cl)) := fun q hq => (cells3 hq).2.1
 have KB : Hid (∀ q : World, Below w.heap.size w q → q.heap[p]? = some (.cells #[vb, .slice al f.la.length cl, .int .i64 (f.sp : Int)] TFl (0, 0))) := fun q hq => (hq.block p (heap_lt H.out.box)).trans H.out.box
 clear h
 go_enter Tryz.func118, Tryz.ntmps118
 go_upto_region 0 with fail
 have B0 : Hid (Below w.heap.size w w.drew) := (Below.refl _ _).drew
 refine wp_region_T (fun q => q.heap[p]? = some (.cells #[vb, .slice al f.la.length cl, .int .i64 (f.sp : Int)] TFl (0, 0))) 12 (by kernel_rfl) ?_
 generalize w.drew = q at *
 have KP := hide (KB.out _ B0.out)
 refine Ix.tk 0 ⟨some 2, .move (.tmp 0), _, _, _, _⟩ (.pointer (some ⟨p, 0, none⟩)) [12] ?_ KP.out ?_
 ·intro wq hSw
  have y2 := KC.out wq hSw
  go_simp
 (try simp only [zzp, zzb, zzc])
 refine Ix.tk 1 ⟨some 3, .move (.tmp 0), _, _, _, _⟩ (.pointer (some ⟨p, 0, none⟩)) [12] ?_ KP.out ?_
 ·intro wq hSw
  have y2 := KC.out wq hSw
  go_simp
 (try simp only [zzp, zzb, zzc])
 refine Ix.tk 2 ⟨some 4, .nilCheck (.tmp 3), _, _, _, _⟩ (.pointer (some ⟨p, 0, none⟩)) [12] ?_ KP.out ?_
 ·intro wq hSw
  have y2 := KC.out wq hSw
  go_simp
 (try simp only [zzp, zzb, zzc])
 refine Ix.tk 3 ⟨some 5, .fieldAddr 180 (.tmp 4) 1, _, _, _, _⟩ (.pointer (some ⟨p, 1, none⟩)) [12] ?_ KP.out ?_
 ·intro wq hSw
  have y2 := KC.out wq hSw
  go_simp
 (try simp only [zzp, zzb, zzc])
 refine Ix.tk 4 ⟨some 6, .load 39 (.tmp 5), _, _, _, _⟩ (.slice al f.la.length cl) [12] ?_ KP.out ?_
 ·intro wq hSw
  have y2 := KC.out wq hSw
  go_simp
 (try simp only [zzp, zzb, zzc])
 refine Ix.tk 5 ⟨some 7, .move (.tmp 0), _, _, _, _⟩ (.pointer (some ⟨p, 0, none⟩)) [12] ?_ KP.out ?_
 ·intro wq hSw
  have y2 := KC.out wq hSw
  go_simp
 (try simp only [zzp, zzb, zzc])
 refine Ix.tk 6 ⟨some 8, .move (.tmp 0), _, _, _, _⟩ (.pointer (some ⟨p, 0, none⟩)) [12] ?_ KP.out ?_
 ·intro wq hSw
  have y2 := KC.out wq hSw
  go_simp
 (try simp only [zzp, zzb, zzc])
 refine wpAnyT_one (i := 7) (o := ⟨some 9, .call { callee := .value (.func 108), args := #[.tmp 8], argTypes := #[137] }, _, _, _, _⟩) (by kernel_rfl) rfl (fun K hK => ?_)
 go_simp
 go_at_call 108
 refine (hT.out q B0.out).mono ?_
 rintro e w1 ⟨rfl, nq, rfl⟩
 have B1 : Hid (Below w.heap.size w (q.drewN nq)) := B0.out.trans (Qt.below ⟨nq, rfl⟩ _)
 have K1 := hide (KB.out _ B1.out)
 (try go_simp)
 refine hK.out _ _ (fun _ => K1.out) ?_
 clear hK K
 (try simp only [zzp, zzb, zzc])
 generalize q.drewN nq = q1 at *
 refine wpAnyT_one (i := 8) (o := ⟨some 10, .call { callee := .value (.func 128), args := #[.tmp 7, .tmp 9], argTypes := #[137, 3] }, _, _, _, _⟩) (by kernel_rfl) rfl (fun K hK => ?_)
 go_simp
 go_at_call 128
 refine (hS.out q1 B1.out).mono ?_
 rintro e w4 ⟨vs, rfl, O4, B4⟩
 obtain ⟨a4, c4, rfl, _, _⟩ := O4.form
 replace O4 := hide O4
 replace B4 : Hid (Below w.heap.size w w4) := B1.out.trans (B4.mono B1.out.size)
 have K4 := hide (KB.out _ B4.out)
 (try go_simp)
 refine hK.out _ _ (fun _ => K4.out) ?_
 clear hK K
 (try simp only [zzp, zzb, zzc])
 have H4 := hide (H.out.below B4.out)
 obtain ⟨v5, w5, hr, O5, G5, A5⟩ := run_app (B := 0) H4.out.l O4.out.sl (by have := hsl.out; omega) (Nat.zero_le _) 39
 have hL : Hid (f.la ++ svd f ta = (syF f).la) := by show _ = _; unfold syF; rw [hta.out]
 rw [hL.out] at O5
 replace O5 := hide O5
 replace G5 := hide G5
 replace A5 := hide A5
 have K5 : Hid (w5.heap[p]? = some (.cells #[vb, .slice al f.la.length cl, .int .i64 (f.sp : Int)] TFl (0, 0))) := (But.of_grownBy (X := fun k => Value.ownBlock (.slice al f.la.length cl) = some k) G5.out fun k e => e).at K4.out (H4.out.l.no H4.out.box (by decide))
 obtain ⟨a5, c5, e5, _, _⟩ := O5.out.form
 subst e5
 refine wpAnyT_one (i := 9) (o := ⟨some 11, .call { callee := .builtin .append, args := #[.tmp 6, .tmp 10], argTypes := #[39, 39] }, _, _, _, _⟩) (by kernel_rfl) rfl (fun K hK => ?_)
 refine step_app rfl (.tmp 6) (.tmp 10) rfl _ _ _ w5 (by simp [Act.eval]) (by simp [Act.eval]) hr ?_
 refine hK.out _ _ (fun _ => K5.out) ?_
 clear hK K hr
 (try simp only [zzp, zzb, zzc])
 refine Ix.tk 10 ⟨some 12, .nilCheck (.tmp 2), _, _, _, _⟩ (.pointer (some ⟨p, 0, none⟩)) [11,12] ?_ K5.out ?_
 ·intro wq hSw
  have y2 := KC.out wq hSw
  go_simp
 (try simp only [zzp, zzb, zzc])
 refine Ix.tk 11 ⟨some 13, .fieldAddr 180 (.tmp 12) 1, _, _, _, _⟩ (.pointer (some ⟨p, 1, none⟩)) [12] ?_ K5.out ?_
 ·intro wq hSw
  have y2 := KC.out wq hSw
  go_simp
 (try simp only [zzp, zzb, zzc])
 have d1 := (cells3 K5.out).2.1
 have d2 := (frozen3 K5.out).2.1
 refine wpAnyT_one (i := 12) (o := ⟨none, .store 39 (.tmp 13) (.tmp 11), _, _, _, _⟩) (by kernel_rfl) rfl (fun K hK => ?_)
 go_simp
 refine hK.out _ _ (vac (by kernel_rfl)) ?_
 clear hK K d1 d2 KC KB hT hS
 refine wpAnyT_done (by kernel_rfl) ?_ _
 have b7 : Hid ((w5.setCell ⟨p, 1, none⟩ (.slice a5 (syF f).la.length c5)).heap[p]? = some (.cells #[vb, .slice a5 (syF f).la.length c5, .int .i64 (f.sp : Int)] TFl (0, 0))) := by show _ = _; rw [heap_setCell_same _ _ _ _ _ _ K5.out]; simp
 have g7 := hide (But.of_grownBy (X := fun k => k = p) (grown_setCell w5 p 1 (.slice a5 (syF f).la.length c5)) fun k e => by cases e; rfl)
 have x1 := (cells3 b7.out).2.2
 have x2 := (frozen3 b7.out).2.2
 generalize hw7 : (w5.setCell ⟨p, 1, none⟩ (.slice a5 (syF f).la.length c5)) = w7 at *
 replace hw7 := hide hw7
 go_wp2_with fail
 go_end0
 have b8 : (w7.setCell ⟨p, 2, none⟩ (.int .i64 0)).heap[p]? = some (.cells #[vb, .slice a5 (syF f).la.length c5, .int .i64 0] TFl (0, 0)) := by rw [heap_setCell_same _ _ _ _ _ _ b7.out]; simp
 have g8 := g7.out.trans (But.of_grownBy (X := fun k => k = p) (grown_setCell w7 p 2 (.int .i64 0)) fun k e => by cases e; rfl)
 have G5b := But.of_grownBy (X := fun k => Value.ownBlock (.slice al f.la.length cl) = some k) G5.out fun k e => e
 have Ob5 : Ob 0 w5 vb f.by_ := H4.out.b.but G5b (fun k hk c => H4.out.ne k hk c)
 refine ⟨rfl, .slice a5 (syF f).la.length c5, ⟨b8, ?_, ?_, ?_, ?_, Nat.zero_le _, H.out.sz⟩, ?_, ?_⟩
 ·exact Ob5.but g8 (fun k hk e => Ob5.no K5.out (by decide) (by rw [← e]; exact hk))
 ·exact O5.out.but g8 (fun k hk e => O5.out.no K5.out (by decide) (by rw [← e]; exact hk))
 ·intro k hk c
  rcases A5.out with e | e
  ·rw [e] at c
   exact H.out.ne k hk c
  ·rw [e] at c
   have := (H4.out.b.lt k hk).2
   simp at c
   omega
 ·show (syF f).la.length ≤ f.by_.length
  rw [← hL.out, List.length_append, hsl.out]
  have := hta.out
  have := H.out.le
  omega
 ·exact (((But.of_below B4.out _).trans (G5b.mono fun k _ e => .inr (.inr e))).trans (g8.mono fun k _ e => .inl e))
 ·rintro k (q | q | q)
  ·exact .inl (.inl q)
  ·exact .inl (.inr (.inl q))
  ·rcases A5.out with e | e
   ·rw [e] at q
    exact .inl (.inr (.inr q))
   ·rw [e] at q
    have := B4.out.size
    simp at q
    exact .inr (by omega)
def DS.room (S : DS) : Int := max (S.most - (sumL S.F S.dir : Int)) 0
theorem DS.ok.sum {S : DS} (h : S.ok) (hc : S.c7 < 1000000000) : (sumL S.F S.dir : Int) ≤ 16777216000000000 := by
 have h1 := sumL_le S.F S.dir fun e he => h.sz e.2 (runs_mem (List.mem_map.2 ⟨e, he, rfl⟩))
 obtain ⟨d1, _, _⟩ := dir_len h hc
 have : S.dir.length * 16777216 ≤ 1000000000 * 16777216 := Nat.mul_le_mul_right _ (by omega)
 omega
theorem room_any {w : World} {b : Nat} {S : DS} {O : Nat → Prop} {f g : Nat} {pd : Value} {am : Option Nat} {VB VL : Nat → Value} (h : Dsk w b S O f g pd am VB VL) (hc : S.c7 < 1000000000) :
    Calls Tryz.prog 116 #[.pointer (some ⟨b, 0, none⟩)] w fun e w' => e = .returned (.int .i64 S.room) ∧ Below w.heap.size w w' := by
 have c0 : w.cell? ⟨b, 0, none⟩ = some (.int .i64 S.most) := h.dk.box.cells.1
 have c2 : w.cell? ⟨b, 2, none⟩ = some (.map (some f)) := h.dk.box.cells.2.2.1
 have hown : w.ownsMap Tryz.prog TS ptrR f S.dir.length (dirD S.dir) := h.dk.mf
 have hsum := h.ok.sum hc
 have hmost := h.ok.most
 have hkeys := hide h.dk.mf.keys
 have hfl := hide h.dk.mf.lt
 have hF : Hid (∀ q p k, Below w.heap.size w q → get S.dir k = some p → ∃ ao ca, q.cell? ⟨p, 0, none⟩ = some (.slice ao (S.F p).by_.length ca)) := fun q p k hq hp => by
  have hf := (h.fs.at_ p (DS.mem_dir hp)).below hq
  obtain ⟨ao, ca, e, _⟩ := hf.b.form
  exact ⟨ao, ca, by rw [← e]; exact (cells3 hf.box).1⟩
 have hroom : Hid (max (S.most - (sumL S.F S.dir : Int)) 0 = S.room) := rfl
 have hss := hide (leftS_start S.F S.dir)
 have hse : Hid (∀ left : Lit → Bool, (∀ kl, left kl = false) → leftS S.F S.dir left = 0) := fun left hl => leftS_end S.F S.dir hl
 have hst : Hid (∀ (left : Lit → Bool) k p, get S.dir k = some p → left (.string k) = true → leftS S.F S.dir left = leftS S.F S.dir (fun z => left z && !z.sameKey (.string k)) + (S.F p).by_.length) := fun left k p hg hl => leftS_step S.F hkeys.out hg hl
 have hsl : Hid (∀ left : Lit → Bool, leftS S.F S.dir left ≤ sumL S.F S.dir) := fun left => leftS_le S.F S.dir left
 have hhas : Hid (∀ k, Maps.has (dirD S.dir) (.string k) = true → (get S.dir k).isSome = true) := fun k hk => by rw [← dirD_has]; exact hk
 have hrg : Hid (∀ (x : ByteArray) (c : Option Nat) (y : DataW Unit × List MemPlace), (∀ zd, (dirD S.dir).atKey (.string x.data.toList) zd = y.1) → ptrR (.pointer (c.map fun b => ⟨b, 0, none⟩)) = some y → (get S.dir x.data.toList).isSome = true → ∃ p, c = some p ∧ get S.dir x.data.toList = some p) := fun x c y h1 h2 h3 => round_get h1 h2 h3
 generalize S.dir = l at *
 generalize hSM : S.most = M at *
 obtain ⟨N, hN⟩ : ∃ N : Nat, sumL S.F l = N := ⟨_, rfl⟩
 rw [hN] at hss hsl hsum hroom
 generalize S.room = R at *
 generalize S.F = F at *
 clear h hN hkeys hSM
 go_enter Tryz.func116, Tryz.ntmps116
 go_wp2_with (first
  | (at_range; refine wpList_range_own _ rfl _ TM rfl TS TF keyS undM ptrR f l.length (dirD l) rfl hown ?_; intro w0 hrg0 hg0 hs0)
  | go_in)
 go_frame
 go_loopw [3] (fun v wr => ∃ (left : Lit → Bool) (cnt : Nat), wr.ranges Tryz.prog TS ptrR f w.heap.size l.length (dirD l) left cnt ∧ v = .int .i64 (M - (N : Int) + (leftS F l left : Int)) ∧ Hid (∀ k, left (.string k) = true → (get l k).isSome = true) ∧ Hid (Below w.heap.size w wr))
  (fun _ wr => wr.rangeLeft f w.heap.size)
 case atStart =>
  refine ⟨_, _, hrg0, ?_, hhas.out, (Below.refl _ w).grown hg0 (Nat.le_refl _) (fun j hj => by cases hj)⟩
  rw [hss.out]
  congr 1
  omega
 case round =>
  obtain ⟨left, cnt, hrgs, rfl, hlk, hnx⟩ := hrel
  go_wp2_with (first
   | (at_next; refine wpList_next_ranges _ rfl _ rfl TS keyS ptrR Value.string (fun c : Option Nat => .pointer (c.map fun b => ⟨b, 0, none⟩)) (fun key kl hk => keyOf_str_inv hk) (fun v y hv => ptrR_shape hv) f w.heap.size l.length _ _ _ rfl hrgs ?_ ?_)
   | go_in)
  ·intro hc0 hl0
   have e0 := hse.out left hl0
   rw [e0]
   generalize hX : M - (N : Int) + ((0 : Nat) : Int) = X
   have hX2 : Hid (max X 0 = R) := by show _ = _; rw [← hroom.out, ← hX]; simp
   clear hX
   go_wp2_with fail
   go_ret
   exact ⟨by rw [← hX2.out]; rfl, hnx.out⟩
  ·intro x c kl ya yb w1 cnt1 hkey hlx hv hat hrg1 hlt hg1 hs1 hen
   obtain ⟨rfl, hxs⟩ := keyOf_str_lit hkey
   obtain ⟨p, rfl, hp⟩ := hrg.out x c (ya, yb) hat hv (hlk.out _ hlx)
   have hst1 := hst.out left _ p hp hlx
   have hB1 := hide (hnx.out.grown hg1 hnx.out.size (fun j hj => by cases hj; exact Nat.le_refl _))
   obtain ⟨ao, ca, hcell⟩ := hF.out w1 p _ hB1.out hp
   have hsl1 := hsl.out left
   have hlk2 : Hid (∀ k, (fun z : Lit => left z && !z.sameKey (.string x.data.toList)) (.string k) = true → (get l k).isSome = true) := fun k hk => hlk.out k (by simp only [Bool.and_eq_true] at hk; exact hk.1)
   obtain ⟨L1, hL1⟩ : ∃ L1 : Nat, Hid (leftS F l (fun z => left z && !z.sameKey (.string x.data.toList)) = L1) := ⟨_, rfl⟩
   rw [hL1.out] at hst1
   obtain ⟨len, hlen⟩ : ∃ len : Nat, (F p).by_.length = len := ⟨_, rfl⟩
   rw [hlen] at hst1 hcell
   rw [hst1]
   obtain ⟨X, hX⟩ : ∃ X : Int, Hid (M - (N : Int) + ((L1 + len : Nat) : Int) = X) := ⟨_, rfl⟩
   have hw : IntKind.i64.wrap (X - (len : Int)) = X - (len : Int) := by have := hX.out; rw [IntKind.wrap_i64]; omega
   rw [hX.out]
   replace hst1 := hide hst1
   replace hsl1 := hide hsl1
   replace hlt := hide hlt
   replace hp := hide hp
   replace hkey := hide hkey
   replace hv := hide hv
   replace hat := hide hat
   replace hrg1 := hide hrg1
   replace hrgs := hide hrgs
   clear hg1 hs1 hlen hlx
   simp only [Option.map_some] at hen
   go_wp2_with fail
   go_roundw
   case rel =>
    refine ⟨_, cnt1, hrg1.out, ?_, hlk2.out, hB1.out⟩
    rw [hL1.out]
    have := hX.out
    congr 1
    omega
   case measure => rw [hrg1.out.left_eq, hrgs.out.left_eq]; exact hlt.out
def SOff (O : Nat → Prop) (v : Value) : Prop := ∀ b off n c, v = .slice (some ⟨b, off, none⟩) n c → 0 < n → ¬ O b
theorem sl_but {X : Nat → Prop} {w w' : World} {v : Value} {l : List UInt8} (h : Sl w v l) (hb : But X w w') (hx : SOff X v) : Sl w' v l := by
 obtain ⟨ao, cap, rfl, h2, h3, h4, h5⟩ := h
 refine ⟨ao, cap, rfl, h2, h3, h4, fun i hi => ?_⟩
 obtain ⟨b, off, e, hc⟩ := h5 i hi
 subst e
 refine ⟨b, off, rfl, ?_⟩
 rw [← hc]
 have := hb.block b (lt_of_cell hc) (hx b off _ _ rfl (by omega))
 unfold World.cell?
 dsimp only
 rw [this]
def DS.apN (S : DS) (len : Nat) : Nat := (if S.flt.2.1 ≠ 0 then min (min (len : Int) S.room) S.flt.2.2 else min (len : Int) S.room).toNat
theorem apN_le {S : DS} (h : S.ok) (len : Nat) : S.apN len ≤ len ∧ (S.apN len : Int) ≤ S.room := by
 have := h.flt
 have h0 : 0 ≤ S.room := by unfold DS.room; omega
 unfold DS.apN
 split <;> omega
theorem apN_min {S : DS} (_ : S.ok) (len : Nat) (h0 : S.flt.2.1 = 0) : min (len : Int) S.room = (S.apN len : Int) := by
 have h0' : 0 ≤ S.room := by unfold DS.room; omega
 unfold DS.apN
 rw [if_neg (by simpa using h0)]
 omega
theorem apN_part {S : DS} (h : S.ok) (len : Nat) (h0 : S.flt.2.1 ≠ 0) : min (min (len : Int) S.room) S.flt.2.2 = (S.apN len : Int) := by
 have := h.flt
 have h0' : 0 ≤ S.room := by unfold DS.room; omega
 unfold DS.apN
 rw [if_pos h0]
 omega
theorem apN_size {S : DS} (h : S.ok) {s : List UInt8} {p : Nat} (hp : get S.dir s = some p) (len : Nat) : (S.F p).by_.length + S.apN len ≤ 16777216 := by
 have h1 := (apN_le h len).2
 have h2 := h.sz p (DS.mem_dir hp)
 have h3 := sumL_one S.F hp
 have h4 := h.most
 unfold DS.room at h1
 omega
def apF (f : Fl) (b : List UInt8) : Fl := ⟨f.by_ ++ b, f.la, f.sp⟩
def DS.append (S : DS) (s : ByteArray) (b : List UInt8) : DS × Int × Int :=
 match S.find s with
 | (none, e) => (S, 0, e)
 | (some p, _) =>
  ({ (S.beg 1).str S.flt.2.1 with F := upd S.F p (apF (S.F p) (b.take (S.apN b.length))), c8 := S.c8 + (S.apN b.length : Int) }, (S.apN b.length : Int),
   if strF S.flt.2.1 ≠ 0 then strF S.flt.2.1 else if S.apN b.length < b.length then 21 else 0)
theorem Dk.c8 {w : World} {b : Nat} {x : Dc} {f g : Nat} {l l2 : Dr} {P : List Ch} {al : Ar} (h : Dk w b x f g l l2 P al) (n : Int) : Dk (w.setCell ⟨b, 14, none⟩ (.int .i64 n)) b { x with c8 := n } f g l l2 P al := by
 obtain ⟨n1, n2, n3, n4⟩ := h.noB
 have hB := But.of_grownBy (X := fun k => k = b) (grown_setCell w b 14 (.int .i64 n)) fun k e => by cases e; rfl
 refine ⟨?_, h.fm, h.lm, h.mf.but hB n1, h.mg.but hB n2, h.fg, h.pd.but hB n4, fun m e => ⟨(h.am m e).1.but hB (n3 m e), (h.am m e).2⟩, h.an, h.run, h.can, h.ok, h.c0, h.c1⟩
 have := heap_setCell_same w b 14 _ _ (.int .i64 n) h.box
 exact this
theorem Dsk.c8 {w : World} {b : Nat} {S : DS} {O : Nat → Prop} {f g : Nat} {pd : Value} {am : Option Nat} {VB VL : Nat → Value} (h : Dsk w b S O f g pd am VB VL) (n : Int) (hn : 0 ≤ n ∧ n ≤ 16777216 * S.c7) :
    Dsk (w.setCell ⟨b, 14, none⟩ (.int .i64 n)) b { S with c8 := n } O f g pd am VB VL ∧ Sgo w (w.setCell ⟨b, 14, none⟩ (.int .i64 n)) O O := by
 have hB := But.of_grownBy (X := fun k => k = b) (grown_setCell w b 14 (.int .i64 n)) fun k e => by cases e; rfl
 exact h.turn (T := { S with c8 := n }) rfl rfl rfl ⟨h.ok.most, h.ok.sz, h.ok.cnt, h.ok.calm, hn⟩ (h.dk.c8 n) ⟨hB.mono fun k _ e => .inl e, fun k hk => .inl hk⟩
theorem beg_room (S : DS) (j : Nat) : (S.beg j).room = S.room := by
 obtain ⟨e1, e2, e3, e4, e5, e6, e7, e8⟩ := beg_rest S j
 unfold DS.room
 rw [beg_dir, e1, e8]
theorem FlAt.app {w w5 : World} {p : Nat} {f : Fl} {vb vl v5 : Value} {m : List UInt8} (h : FlAt w p f vb vl) (O5 : Ob 0 w5 v5 (f.by_ ++ m)) (G5 : w.grownBy w5 vb.ownBlock) (A5 : v5.ownBlock = vb.ownBlock ∨ v5.ownBlock = some w.heap.size) (hz : f.by_.length + m.length ≤ 1099511627776) :
    w5.heap[p]? = some (.cells #[vb, vl, .int .i64 (f.sp : Int)] TFl (0, 0)) ∧ FlAt (w5.setCell ⟨p, 0, none⟩ v5) p (apF f m) v5 vl ∧ But (FOwn p vb vl) w (w5.setCell ⟨p, 0, none⟩ v5) ∧ (∀ k, FOwn p v5 vl k → FOwn p vb vl k ∨ w.heap.size ≤ k) := by
 have G5b := But.of_grownBy (X := fun k => vb.ownBlock = some k) G5 fun k e => e
 have K5 : w5.heap[p]? = some (.cells #[vb, vl, .int .i64 (f.sp : Int)] TFl (0, 0)) := G5b.at h.box (h.b.no h.box (by decide))
 have g7 := But.of_grownBy (X := fun k => k = p) (grown_setCell w5 p 0 v5) fun k e => by cases e; rfl
 have Ol : Ob 0 w5 vl f.la := h.l.but G5b (fun k hk c => h.ne k c hk)
 refine ⟨K5, ⟨?_, ?_, ?_, ?_, ?_, ?_, ?_⟩, ?_, ?_⟩
 ·rw [heap_setCell_same _ _ _ _ _ _ K5]; simp [apF]
 ·exact O5.but g7 (fun k hk e => O5.no K5 (by decide) (by rw [← e]; exact hk))
 ·exact Ol.but g7 (fun k hk e => Ol.no K5 (by decide) (by rw [← e]; exact hk))
 ·intro k hk c
  rcases A5 with e | e
  ·rw [e] at hk
   exact h.ne k hk c
  ·rw [e] at hk
   have := (h.l.lt k c).2
   simp at hk
   omega
 ·have := h.le; simp [apF]; omega
 ·have := h.sp; have := h.le; simp [apF]; omega
 ·simp [apF]; exact hz
 ·exact (G5b.mono fun k _ e => .inr (.inl e)).trans (g7.mono fun k _ e => .inl e)
 ·rintro k (q | q | q)
  ·exact .inl (.inl q)
  ·rcases A5 with e | e
   ·rw [e] at q; exact .inl (.inr (.inl q))
   ·rw [e] at q; simp at q; exact .inr (by omega)
  ·exact .inl (.inr (.inr q))
theorem append_any {w : World} {b : Nat} {S : DS} {O : Nat → Prop} {f g : Nat} {pd : Value} {am : Option Nat} {VB VL : Nat → Value} (h : Dsk w b S O f g pd am VB VL) (s : ByteArray) (hs : s.size ≤ maxLen) (v : Value) (D : List UInt8) (hv : Sl w v D) (ho : SOff O v) (hc : S.c7 < 900000000) :
    Calls Tryz.prog 49 #[.pointer (some ⟨b, 0, none⟩), .string s, v] w fun e w' => e = .returned (.tuple #[.int .i64 (S.append s D).2.1, .int .i64 (S.append s D).2.2]) ∧ ∃ O', DskE w' b (S.append s D).1 O' ∧ Sgo w w' O O' := by
 have hF := dsk_find h s hs
 by_cases h0 : (S.find s).2 = 0
 ·obtain ⟨p, e, hg, hr, hp⟩ := find_ok h0
  rw [e] at hF
  simp only [Option.map_some] at hF
  have hR : Hid (S.append s D = ({ (S.beg 1).str S.flt.2.1 with F := upd S.F p (apF (S.F p) (D.take (S.apN D.length))), c8 := S.c8 + (S.apN D.length : Int) }, (S.apN D.length : Int), if strF S.flt.2.1 ≠ 0 then strF S.flt.2.1 else if S.apN D.length < D.length then 21 else 0)) := by show _ = _; unfold DS.append; rw [e]
  have hb : Hid (∀ u, Dsk u b S O f g pd am VB VL → _) := fun u hu => dsk_begin hu 1 (by omega) (by omega)
  have hm : Hid (∀ u, Dsk u b (S.beg 1) O f g pd am VB VL → Calls Tryz.prog 116 #[.pointer (some ⟨b, 0, none⟩)] u fun e w' => e = .returned (.int .i64 S.room) ∧ Below u.heap.size u w') := fun u hu => by have := room_any hu (by have := (beg_rest S 1).2.2.2.2.2.1; omega); rw [beg_room] at this; exact this
  obtain ⟨hn1, hn2⟩ := apN_le h.ok D.length
  have hsz := apN_size h.ok hg D.length
  have hmin := apN_min h.ok D.length
  have hpart := apN_part h.ok D.length
  have hft := h.ok.flt
  have H := hide h
  have V := hide hv
  obtain ⟨av, cv, rfl, _, q3, q4, _⟩ := hv
  have q4' : cv ≤ 9223372036854775807 := by unfold maxLen at q4; omega
  have hpb : (S.beg 1).ps = S.ps := beg_ps S 1
  obtain ⟨t, ht⟩ : ∃ t, Hid (S.flt = t) := ⟨_, rfl⟩
  obtain ⟨n, hn⟩ : ∃ n, Hid (S.apN D.length = n) := ⟨_, rfl⟩
  obtain ⟨R, hRm⟩ : ∃ R, Hid (S.room = R) := ⟨_, rfl⟩
  rw [ht.out] at hb hft hmin hpart hR
  rw [hn.out] at hn1 hn2 hsz hmin hpart hR
  rw [hRm.out] at hm hmin hpart hn2
  unfold fv at hb
  obtain ⟨ta, tk, tp⟩ := t
  dsimp only at hb hft hmin hpart hR
  replace hmin := hide hmin
  replace hpart := hide hpart
  replace hft := hide hft
  replace hn2 := hide hn2
  clear h e hr h0 hg hpb
  go_enter Tryz.func49, Tryz.ntmps49
  go_upto_region 5 with (first
   | (go_at_call 99; refine hF.mono ?_; rintro e w1 ⟨rfl, B1⟩; replace B1 := hide B1; have D1 := hide (H.out.below B1.out))
   | (go_at_call 54; refine (hb.out _ D1.out).mono ?_; rintro e w2 ⟨rfl, D2, G2⟩; replace D2 := hide D2; replace G2 := hide G2))
  have B3 := hide ((Below.refl _ w2).alloc (Nat.le_refl _) (.cells #[.int .i64 ta, .int .i64 tk, .int .i64 tp] 118))
  have N3 := hide (heap_alloc_new w2 (.cells #[.int .i64 ta, .int .i64 tk, .int .i64 tp] 118))
  have D3 := hide (D2.out.below B3.out)
  generalize w2.alloc (.cells #[.int .i64 ta, .int .i64 tk, .int .i64 tp] 118) = w3 at *
  have V2 := hide (sl_but (Below.sl B1.out V.out) G2.out.but ho)
  have T3 := hide ((Sgo.of_below (O := O) B1.out).trans (G2.out.trans (Sgo.of_below B3.out)))
  have hlo : Hid (¬ O w2.heap.size ∧ b ≠ w2.heap.size) := ⟨fun c => Nat.lt_irrefl _ (D2.out.lt _ c), fun e => by have := D2.out.lt b (D2.out.ow b (.inl rfl)); omega⟩
  have i1 : (n : Int) ≤ (cv : Int) := by omega
  have i2 : (0 : Int) ≤ (n : Int) := by omega
  have hb8 := H.out.ok.by8
  have hww : IntKind.i64.wrap (S.c8 + (n : Int)) = S.c8 + (n : Int) := by rw [IntKind.wrap_i64]; omega
  have hb8' : Hid (0 ≤ S.c8 + (n : Int) ∧ S.c8 + (n : Int) ≤ 16777216 * (S.c7 + 1)) := by show _ ∧ _; omega
  have hsz' := hide hsz
  clear hF hb D1 V B1 G2 D2 hb8 hc hsz
  by_cases k0 : tk = 0
  ·subst k0
   have hmn := hmin.out rfl
   have i0 : ((0 : Int) != 0) = false := rfl
   go_upto_region 8 with (go_at_call 116; refine (hm.out _ D3.out).mono ?_; rintro e w4 ⟨rfl, B4⟩; replace B4 := hide B4; have N4 : Hid (w4.heap[w2.heap.size]? = some (.cells #[.int .i64 ta, .int .i64 0, .int .i64 tp] 118 (0, 0))) := (B4.out.block _ (heap_lt N3.out)).trans N3.out; obtain ⟨x0, x1, x2⟩ := cells3 N4.out; have D4 := hide (D3.out.below B4.out))
   clear x0 x1 x2
   replace hmn := hide hmn
   have H4 : Hid (FlAt w4 p (S.F p) (VB p) (VL p)) := D4.out.fs.at_ p hp
   obtain ⟨ab, cb, eb, _, _⟩ := H4.out.b.form
   have V4 : Hid (Sl w4 (.slice av n cv) (D.take n)) := sl_take (Below.sl B4.out (Below.sl B3.out V2.out)) hn1
   have KC : Hid (∀ q : World, q.heap[p]? = some (.cells #[VB p, VL p, .int .i64 ((S.F p).sp : Int)] TFl (0, 0)) → q.cell? ⟨p, 0, none⟩ = some (.slice ab (S.F p).by_.length cb)) := fun q hq => by rw [← eb]; exact (cells3 hq).1
   have KP : Hid (w4.drew.heap[p]? = some (.cells #[VB p, VL p, .int .i64 ((S.F p).sp : Int)] TFl (0, 0))) := H4.out.box
   have B5 : Hid (Below w4.heap.size w4 w4.drew) := (Below.refl _ _).drew
   replace eb := hide eb
   refine wp_region_T (fun q => q.heap[p]? = some (.cells #[VB p, VL p, .int .i64 ((S.F p).sp : Int)] TFl (0, 0))) 11 (by kernel_rfl) ?_
   generalize w4.drew = q at *
   refine Ix.tk 0 ⟨some 40, .move (.tmp 8), _, _, _, _⟩ (.pointer (some ⟨p, 0, none⟩)) [11] ?_ KP.out ?_
   ·intro wq hSw
    have y2 := KC.out wq hSw
    go_simp
   (try simp only [zzp, zzb, zzc])
   refine Ix.tk 1 ⟨some 41, .move (.tmp 8), _, _, _, _⟩ (.pointer (some ⟨p, 0, none⟩)) [11] ?_ KP.out ?_
   ·intro wq hSw
    have y2 := KC.out wq hSw
    go_simp
   (try simp only [zzp, zzb, zzc])
   refine Ix.tk 2 ⟨some 42, .nilCheck (.tmp 41), _, _, _, _⟩ (.pointer (some ⟨p, 0, none⟩)) [11] ?_ KP.out ?_
   ·intro wq hSw
    have y2 := KC.out wq hSw
    go_simp
   (try simp only [zzp, zzb, zzc])
   refine Ix.tk 3 ⟨some 43, .fieldAddr 180 (.tmp 42) 0, _, _, _, _⟩ (.pointer (some ⟨p, 0, none⟩)) [11] ?_ KP.out ?_
   ·intro wq hSw
    have y2 := KC.out wq hSw
    go_simp
   (try simp only [zzp, zzb, zzc])
   refine Ix.tk 4 ⟨some 44, .load 39 (.tmp 43), _, _, _, _⟩ (.slice ab (S.F p).by_.length cb) [11] ?_ KP.out ?_
   ·intro wq hSw
    have y2 := KC.out wq hSw
    go_simp
   (try simp only [zzp, zzb, zzc])
   refine Ix.tk 5 ⟨some 45, .move (.tmp 2), _, _, _, _⟩ (.slice av D.length cv) [11] ?_ KP.out ?_
   ·intro wq hSw
    have y2 := KC.out wq hSw
    go_simp
   (try simp only [zzp, zzb, zzc])
   refine Ix.tk 6 ⟨some 46, .move (.tmp 11), _, _, _, _⟩ (.int .i64 (n : Int)) [11] ?_ KP.out ?_
   ·intro wq hSw
    have y2 := KC.out wq hSw
    go_simp
   (try simp only [zzp, zzb, zzc])
   refine Ix.tk 7 ⟨some 47, .slice 39 (.tmp 45) none (some (.tmp 46)) none, _, _, _, _⟩ (.slice av n cv) [11] ?_ KP.out ?_
   ·intro wq hSw
    have y2 := KC.out wq hSw
    go_simp
   (try simp only [zzp, zzb, zzc])
   have Hq := hide (H4.out.below B5.out)
   obtain ⟨v5, w5, hr, O5, G5, A5⟩ := run_app (B := 0) Hq.out.b (V4.out.below4 B5.out) (by have := hsz'.out; rw [List.length_take]; omega) (Nat.zero_le _) 39
   rw [eb.out] at hr
   obtain ⟨K5, F5, U5, W5⟩ := Hq.out.app O5 G5 A5 (by have := hsz'.out; rw [List.length_take]; omega)
   replace K5 := hide K5
   replace F5 := hide F5
   replace U5 := hide U5
   replace W5 := hide W5
   obtain ⟨a5, c5, e5, _, _⟩ := O5.form
   clear O5 G5 A5
   rw [e5] at hr F5 U5 W5
   rw [List.length_append, List.length_take, Nat.min_eq_left hn1] at hr F5 U5 W5
   refine wpAnyT_one (i := 8) (o := ⟨some 48, .call { callee := .builtin .append, args := #[.tmp 44, .tmp 47], argTypes := #[39, 39] }, _, _, _, _⟩) (by kernel_rfl) rfl (fun K hK => ?_)
   refine step_app rfl (.tmp 44) (.tmp 47) rfl _ _ _ w5 (by simp [Act.eval]) (by simp [Act.eval]) hr ?_
   refine hK.out _ _ (fun _ => K5.out) ?_
   clear hK K hr
   (try simp only [zzp, zzb, zzc])
   refine Ix.tk 9 ⟨some 49, .nilCheck (.tmp 40), _, _, _, _⟩ (.pointer (some ⟨p, 0, none⟩)) [10,11] ?_ K5.out ?_
   ·intro wq hSw
    have y2 := KC.out wq hSw
    go_simp
   (try simp only [zzp, zzb, zzc])
   refine Ix.tk 10 ⟨some 50, .fieldAddr 180 (.tmp 49) 0, _, _, _, _⟩ (.pointer (some ⟨p, 0, none⟩)) [11] ?_ K5.out ?_
   ·intro wq hSw
    have y2 := KC.out wq hSw
    go_simp
   (try simp only [zzp, zzb, zzc])
   have d1 := (cells3 K5.out).1
   have d2 := (frozen3 K5.out).1
   refine wpAnyT_one (i := 11) (o := ⟨none, .store 39 (.tmp 50) (.tmp 48), _, _, _, _⟩) (by kernel_rfl) rfl (fun K hK => ?_)
   go_simp
   refine hK.out _ _ (vac (by kernel_rfl)) ?_
   clear hK K d1 d2 KC
   refine wpAnyT_done (by kernel_rfl) ?_ _
   have D5 := hide (D4.out.below B5.out)
   obtain ⟨O6, D6, G6⟩ := D5.out.one hp F5.out U5.out W5.out (by have := hsz'.out; simp only [apF, List.length_append, List.length_take]; omega)
   have zz : Hid (w2.heap.size < w4.heap.size) := heap_lt N4.out
   have T6 := hide (T3.out.trans ((Sgo.of_below B4.out).trans ((Sgo.of_below B5.out).trans G6)))
   have N6 : Hid ((w5.setCell ⟨p, 0, none⟩ (.slice a5 ((S.F p).by_.length + n) c5)).heap[w2.heap.size]? = some (.cells #[.int .i64 ta, .int .i64 0, .int .i64 tp] 118 (0, 0))) := G6.but.at ((B5.out.block _ zz.out).trans N4.out) hlo.out.1
   replace D6 := hide D6
   clear D5 K5 F5 U5 W5 G6 D4 V4 KP B5 H4 Hq T3
   generalize (w5.setCell ⟨p, 0, none⟩ (.slice a5 ((S.F p).by_.length + n) c5)) = w6 at *
   have y1 : w6.cell? ⟨b, 14, none⟩ = some (.int .i64 S.c8) := D6.out.dk.box.all.2
   have y2 : w6.frozen? ⟨b, 14, none⟩ = false := by have := D6.out.dk.cells; simp [World.frozen?, this]
   have D7 := hide (D6.out.c8 (S.c8 + (n : Int)) hb8'.out)
   have N7 : Hid ((w6.setCell ⟨b, 14, none⟩ (.int .i64 (S.c8 + (n : Int)))).heap[w2.heap.size]? = some (.cells #[.int .i64 ta, .int .i64 0, .int .i64 tp] 118 (0, 0))) := (But.of_grownBy (X := fun k => k = b) (grown_setCell w6 b 14 (.int .i64 (S.c8 + (n : Int)))) fun k e => by cases e; rfl).at N6.out (fun e => hlo.out.2 e.symm)
   obtain ⟨x0, x1, x2⟩ := cells3 N7.out
   have hSt := dsk_strike D7.out.1 (ta, 0, tp) (by have := hft.out; show (0 : Int) ≠ 4; omega)
   have T7 := hide (T6.out.trans D7.out.2)
   unfold fv at hSt
   dsimp only at hSt
   have hE : Hid ((({ ({ S.beg 1 with F := upd S.F p (apF (S.F p) (D.take n)) } : DS) with c8 := S.c8 + (n : Int) } : DS).str 0) = (S.append s D).1) := by
    show _ = _
    rw [hR.out]
    unfold DS.str
    split <;> rfl
   have hA1 : Hid ((n : Int) = (S.append s D).2.1) := by show _ = _; rw [hR.out]
   have hA2 : Hid ((if strF 0 ≠ 0 then strF 0 else if n < D.length then 21 else 0) = (S.append s D).2.2) := by show _ = _; rw [hR.out]
   obtain ⟨e0, he⟩ : ∃ e0, Hid (strF 0 = e0) := ⟨_, rfl⟩
   rw [he.out] at hSt hA2
   clear hR hm hmin hpart hmn D6 N6 T6 N4 B4 N3 B3 D3 V2
   by_cases s0 : e0 = 0
   ·subst s0
    by_cases c : n < D.length
    ·have c1 : (n : Int) < (D.length : Int) := by omega
     have hA3 : Hid ((21 : Int) = (S.append s D).2.2) := by show _ = _; rw [← hA2.out, if_neg (by simp), if_pos c]
     clear hA2
     go_wp2_with (go_at_call 115; refine hSt.mono ?_; rintro e w8 ⟨rfl, D8, G8⟩; replace D8 := hide D8; replace G8 := hide G8)
     go_ret2
     refine ⟨by rw [← hA1.out, ← hA3.out]; rfl, O6, ?_, T7.out.trans G8.out⟩
     rw [← hE.out]
     exact D8.out.e
    ·have c1 : ¬ (n : Int) < (D.length : Int) := by omega
     have hA3 : Hid ((0 : Int) = (S.append s D).2.2) := by show _ = _; rw [← hA2.out, if_neg (by simp), if_neg c]
     clear hA2
     go_wp2_with (go_at_call 115; refine hSt.mono ?_; rintro e w8 ⟨rfl, D8, G8⟩; replace D8 := hide D8; replace G8 := hide G8)
     go_ret2
     refine ⟨by rw [← hA1.out, ← hA3.out]; rfl, O6, ?_, T7.out.trans G8.out⟩
     rw [← hE.out]
     exact D8.out.e
   ·have s0' : (e0 != 0) = true := by simpa using s0
    have hA3 : Hid (e0 = (S.append s D).2.2) := by show _ = _; rw [← hA2.out, if_pos s0]
    clear hA2 s0
    go_wp2_with (go_at_call 115; refine hSt.mono ?_; rintro e w8 ⟨rfl, D8, G8⟩; replace D8 := hide D8; replace G8 := hide G8)
    go_ret2
    refine ⟨by rw [← hA1.out, ← hA3.out]; rfl, O6, ?_, T7.out.trans G8.out⟩
    rw [← hE.out]
    exact D8.out.e
  ·have k0' : (tk != 0) = true := by simpa using k0
   have hmn := hpart.out k0
   replace k0 := hide k0
   go_upto_region 8 with (go_at_call 116; refine (hm.out _ D3.out).mono ?_; rintro e w4 ⟨rfl, B4⟩; replace B4 := hide B4; have N4 : Hid (w4.heap[w2.heap.size]? = some (.cells #[.int .i64 ta, .int .i64 tk, .int .i64 tp] 118 (0, 0))) := (B4.out.block _ (heap_lt N3.out)).trans N3.out; obtain ⟨x0, x1, x2⟩ := cells3 N4.out; have D4 := hide (D3.out.below B4.out))
   clear x0 x1 x2
   replace hmn := hide hmn
   have H4 : Hid (FlAt w4 p (S.F p) (VB p) (VL p)) := D4.out.fs.at_ p hp
   obtain ⟨ab, cb, eb, _, _⟩ := H4.out.b.form
   have V4 : Hid (Sl w4 (.slice av n cv) (D.take n)) := sl_take (Below.sl B4.out (Below.sl B3.out V2.out)) hn1
   have KC : Hid (∀ q : World, q.heap[p]? = some (.cells #[VB p, VL p, .int .i64 ((S.F p).sp : Int)] TFl (0, 0)) → q.cell? ⟨p, 0, none⟩ = some (.slice ab (S.F p).by_.length cb)) := fun q hq => by rw [← eb]; exact (cells3 hq).1
   have KP : Hid (w4.drew.heap[p]? = some (.cells #[VB p, VL p, .int .i64 ((S.F p).sp : Int)] TFl (0, 0))) := H4.out.box
   have B5 : Hid (Below w4.heap.size w4 w4.drew) := (Below.refl _ _).drew
   replace eb := hide eb
   refine wp_region_T (fun q => q.heap[p]? = some (.cells #[VB p, VL p, .int .i64 ((S.F p).sp : Int)] TFl (0, 0))) 11 (by kernel_rfl) ?_
   generalize w4.drew = q at *
   refine Ix.tk 0 ⟨some 40, .move (.tmp 8), _, _, _, _⟩ (.pointer (some ⟨p, 0, none⟩)) [11] ?_ KP.out ?_
   ·intro wq hSw
    have y2 := KC.out wq hSw
    go_simp
   (try simp only [zzp, zzb, zzc])
   refine Ix.tk 1 ⟨some 41, .move (.tmp 8), _, _, _, _⟩ (.pointer (some ⟨p, 0, none⟩)) [11] ?_ KP.out ?_
   ·intro wq hSw
    have y2 := KC.out wq hSw
    go_simp
   (try simp only [zzp, zzb, zzc])
   refine Ix.tk 2 ⟨some 42, .nilCheck (.tmp 41), _, _, _, _⟩ (.pointer (some ⟨p, 0, none⟩)) [11] ?_ KP.out ?_
   ·intro wq hSw
    have y2 := KC.out wq hSw
    go_simp
   (try simp only [zzp, zzb, zzc])
   refine Ix.tk 3 ⟨some 43, .fieldAddr 180 (.tmp 42) 0, _, _, _, _⟩ (.pointer (some ⟨p, 0, none⟩)) [11] ?_ KP.out ?_
   ·intro wq hSw
    have y2 := KC.out wq hSw
    go_simp
   (try simp only [zzp, zzb, zzc])
   refine Ix.tk 4 ⟨some 44, .load 39 (.tmp 43), _, _, _, _⟩ (.slice ab (S.F p).by_.length cb) [11] ?_ KP.out ?_
   ·intro wq hSw
    have y2 := KC.out wq hSw
    go_simp
   (try simp only [zzp, zzb, zzc])
   refine Ix.tk 5 ⟨some 45, .move (.tmp 2), _, _, _, _⟩ (.slice av D.length cv) [11] ?_ KP.out ?_
   ·intro wq hSw
    have y2 := KC.out wq hSw
    go_simp
   (try simp only [zzp, zzb, zzc])
   refine Ix.tk 6 ⟨some 46, .move (.tmp 11), _, _, _, _⟩ (.int .i64 (n : Int)) [11] ?_ KP.out ?_
   ·intro wq hSw
    have y2 := KC.out wq hSw
    go_simp
   (try simp only [zzp, zzb, zzc])
   refine Ix.tk 7 ⟨some 47, .slice 39 (.tmp 45) none (some (.tmp 46)) none, _, _, _, _⟩ (.slice av n cv) [11] ?_ KP.out ?_
   ·intro wq hSw
    have y2 := KC.out wq hSw
    go_simp
   (try simp only [zzp, zzb, zzc])
   have Hq := hide (H4.out.below B5.out)
   obtain ⟨v5, w5, hr, O5, G5, A5⟩ := run_app (B := 0) Hq.out.b (V4.out.below4 B5.out) (by have := hsz'.out; rw [List.length_take]; omega) (Nat.zero_le _) 39
   rw [eb.out] at hr
   obtain ⟨K5, F5, U5, W5⟩ := Hq.out.app O5 G5 A5 (by have := hsz'.out; rw [List.length_take]; omega)
   replace K5 := hide K5
   replace F5 := hide F5
   replace U5 := hide U5
   replace W5 := hide W5
   obtain ⟨a5, c5, e5, _, _⟩ := O5.form
   clear O5 G5 A5
   rw [e5] at hr F5 U5 W5
   rw [List.length_append, List.length_take, Nat.min_eq_left hn1] at hr F5 U5 W5
   refine wpAnyT_one (i := 8) (o := ⟨some 48, .call { callee := .builtin .append, args := #[.tmp 44, .tmp 47], argTypes := #[39, 39] }, _, _, _, _⟩) (by kernel_rfl) rfl (fun K hK => ?_)
   refine step_app rfl (.tmp 44) (.tmp 47) rfl _ _ _ w5 (by simp [Act.eval]) (by simp [Act.eval]) hr ?_
   refine hK.out _ _ (fun _ => K5.out) ?_
   clear hK K hr
   (try simp only [zzp, zzb, zzc])
   refine Ix.tk 9 ⟨some 49, .nilCheck (.tmp 40), _, _, _, _⟩ (.pointer (some ⟨p, 0, none⟩)) [10,11] ?_ K5.out ?_
   ·intro wq hSw
    have y2 := KC.out wq hSw
    go_simp
   (try simp only [zzp, zzb, zzc])
   refine Ix.tk 10 ⟨some 50, .fieldAddr 180 (.tmp 49) 0, _, _, _, _⟩ (.pointer (some ⟨p, 0, none⟩)) [11] ?_ K5.out ?_
   ·intro wq hSw
    have y2 := KC.out wq hSw
    go_simp
   (try simp only [zzp, zzb, zzc])
   have d1 := (cells3 K5.out).1
   have d2 := (frozen3 K5.out).1
   refine wpAnyT_one (i := 11) (o := ⟨none, .store 39 (.tmp 50) (.tmp 48), _, _, _, _⟩) (by kernel_rfl) rfl (fun K hK => ?_)
   go_simp
   refine hK.out _ _ (vac (by kernel_rfl)) ?_
   clear hK K d1 d2 KC
   refine wpAnyT_done (by kernel_rfl) ?_ _
   have D5 := hide (D4.out.below B5.out)
   obtain ⟨O6, D6, G6⟩ := D5.out.one hp F5.out U5.out W5.out (by have := hsz'.out; simp only [apF, List.length_append, List.length_take]; omega)
   have zz : Hid (w2.heap.size < w4.heap.size) := heap_lt N4.out
   have T6 := hide (T3.out.trans ((Sgo.of_below B4.out).trans ((Sgo.of_below B5.out).trans G6)))
   have N6 : Hid ((w5.setCell ⟨p, 0, none⟩ (.slice a5 ((S.F p).by_.length + n) c5)).heap[w2.heap.size]? = some (.cells #[.int .i64 ta, .int .i64 tk, .int .i64 tp] 118 (0, 0))) := G6.but.at ((B5.out.block _ zz.out).trans N4.out) hlo.out.1
   replace D6 := hide D6
   clear D5 K5 F5 U5 W5 G6 D4 V4 KP B5 H4 Hq T3
   generalize (w5.setCell ⟨p, 0, none⟩ (.slice a5 ((S.F p).by_.length + n) c5)) = w6 at *
   have y1 : w6.cell? ⟨b, 14, none⟩ = some (.int .i64 S.c8) := D6.out.dk.box.all.2
   have y2 : w6.frozen? ⟨b, 14, none⟩ = false := by have := D6.out.dk.cells; simp [World.frozen?, this]
   have D7 := hide (D6.out.c8 (S.c8 + (n : Int)) hb8'.out)
   have N7 : Hid ((w6.setCell ⟨b, 14, none⟩ (.int .i64 (S.c8 + (n : Int)))).heap[w2.heap.size]? = some (.cells #[.int .i64 ta, .int .i64 tk, .int .i64 tp] 118 (0, 0))) := (But.of_grownBy (X := fun k => k = b) (grown_setCell w6 b 14 (.int .i64 (S.c8 + (n : Int)))) fun k e => by cases e; rfl).at N6.out (fun e => hlo.out.2 e.symm)
   obtain ⟨x0, x1, x2⟩ := cells3 N7.out
   have hSt := dsk_strike D7.out.1 (ta, tk, tp) (by have := hft.out; show (tk : Int) ≠ 4; omega)
   have T7 := hide (T6.out.trans D7.out.2)
   unfold fv at hSt
   dsimp only at hSt
   have hE : Hid ((({ ({ S.beg 1 with F := upd S.F p (apF (S.F p) (D.take n)) } : DS) with c8 := S.c8 + (n : Int) } : DS).str tk) = (S.append s D).1) := by
    show _ = _
    rw [hR.out]
    unfold DS.str
    split <;> rfl
   have hA1 : Hid ((n : Int) = (S.append s D).2.1) := by show _ = _; rw [hR.out]
   have hA2 : Hid ((if strF tk ≠ 0 then strF tk else if n < D.length then 21 else 0) = (S.append s D).2.2) := by show _ = _; rw [hR.out]
   obtain ⟨e0, he⟩ : ∃ e0, Hid (strF tk = e0) := ⟨_, rfl⟩
   rw [he.out] at hSt hA2
   clear hR hm hmin hpart hmn D6 N6 T6 N4 B4 N3 B3 D3 V2
   by_cases s0 : e0 = 0
   ·subst s0
    by_cases c : n < D.length
    ·have c1 : (n : Int) < (D.length : Int) := by omega
     have hA3 : Hid ((21 : Int) = (S.append s D).2.2) := by show _ = _; rw [← hA2.out, if_neg (by simp), if_pos c]
     clear hA2
     go_wp2_with (go_at_call 115; refine hSt.mono ?_; rintro e w8 ⟨rfl, D8, G8⟩; replace D8 := hide D8; replace G8 := hide G8)
     go_ret2
     refine ⟨by rw [← hA1.out, ← hA3.out]; rfl, O6, ?_, T7.out.trans G8.out⟩
     rw [← hE.out]
     exact D8.out.e
    ·have c1 : ¬ (n : Int) < (D.length : Int) := by omega
     have hA3 : Hid ((0 : Int) = (S.append s D).2.2) := by show _ = _; rw [← hA2.out, if_neg (by simp), if_neg c]
     clear hA2
     go_wp2_with (go_at_call 115; refine hSt.mono ?_; rintro e w8 ⟨rfl, D8, G8⟩; replace D8 := hide D8; replace G8 := hide G8)
     go_ret2
     refine ⟨by rw [← hA1.out, ← hA3.out]; rfl, O6, ?_, T7.out.trans G8.out⟩
     rw [← hE.out]
     exact D8.out.e
   ·have s0' : (e0 != 0) = true := by simpa using s0
    have hA3 : Hid (e0 = (S.append s D).2.2) := by show _ = _; rw [← hA2.out, if_pos s0]
    clear hA2 s0
    go_wp2_with (go_at_call 115; refine hSt.mono ?_; rintro e w8 ⟨rfl, D8, G8⟩; replace D8 := hide D8; replace G8 := hide G8)
    go_ret2
    refine ⟨by rw [← hA1.out, ← hA3.out]; rfl, O6, ?_, T7.out.trans G8.out⟩
    rw [← hE.out]
    exact D8.out.e
 ·have hR : Hid (S.append s D = (S, 0, (S.find s).2)) := by
    show _ = _
    have q := find_no h0
    unfold DS.append
    cases hq : S.find s with
    | mk a c => rw [hq] at q; dsimp only at q; subst q; rfl
  rw [hR.out]
  have q := find_no h0
  rw [q] at hF
  simp only [Option.map_none] at hF
  generalize (S.find s).2 = r at *
  have h0' : (r != 0) = true := by simpa using h0
  obtain ⟨av, cv, rfl, _, q3, q4, _⟩ := hv
  have H := hide h
  clear h h0 q hR
  go_enter Tryz.func49, Tryz.ntmps49
  go_wp2_with (go_at_call 99; refine hF.mono ?_; rintro e w1 ⟨rfl, B1⟩; replace B1 := hide B1)
  go_ret2
  exact ⟨rfl, O, (H.out.below B1.out).e, Sgo.of_below B1.out⟩
end Go.Proofs.YtpflaglfnkmjiaaGreat.Dk
namespace Go.Proofs.YtpflaglfnkmjiaaGreat.Dk
open Go.RowKit Go.Maps Go.Sort Go.Shelf Go.Proofs.YtpflaglfnkmjiaaGreat.Nm
open Ix (wp_region_T wpAnyT wpAnyT_take wpAnyT_one wpAnyT_done vac)
def noF : Nat → Fl := fun _ => ⟨[], [], 0⟩
def DS.new (most : Int) : DS := ⟨most, true, [], [], [], 0, 0, 0, 0, 0, 0, 0, 0, 0, noF⟩
theorem new_dsk (w : World) (most : Int) (h0 : 0 ≤ most) (h1 : most ≤ 16777216) :
    Calls Tryz.prog 7 #[.int .i64 most] w fun e w' => ∃ b O, e = .returned (.pointer (some ⟨b, 0, none⟩)) ∧ DskE w' b (DS.new most) O ∧ Below w.heap.size w w' ∧ (∀ k, O k → w.heap.size ≤ k) := by
 refine (new_any w most (by omega) (by omega)).mono ?_
 rintro e w' ⟨hB, ⟨hn, _⟩ | ⟨_, _, rfl, hb, m1, m2⟩⟩
 ·exact absurd ⟨h0, h1⟩ hn
 ·refine ⟨w.heap.size + 2, fun k => w.heap.size ≤ k ∧ k < w'.heap.size, rfl, ⟨w.heap.size, w.heap.size + 1, .slice none 0 0, none, fun _ => undef, fun _ => undef, ⟨?_, ⟨fun p hp => by simp [DS.ps, DS.new] at hp, fun p hp => by simp [DS.ps, DS.new] at hp, fun p hp => by simp [DS.ps, DS.new] at hp⟩, ?_, fun p hp => by simp [DS.ps, DS.new] at hp, fun k hk => hk.2, ?_⟩⟩, hB, fun k hk => hk.1⟩
  ·exact ⟨hb, rfl, rfl, m1, m2, by omega, Pd.nil _, (fun _ e => by cases e), fun _ => rfl, rfl, trivial, (by simp [DS.new]), ⟨Int.le_refl _, Int.le_refl _, Int.le_refl _, Int.le_refl _, Int.le_refl _, Int.le_refl _, Int.le_refl _, Int.le_refl _⟩, ⟨Int.le_refl _, Int.le_refl _, Int.le_refl _, Int.le_refl _, Int.le_refl _, Int.le_refl _, Int.le_refl _⟩⟩
  ·have z := heap_lt hb
   intro k hk
   rcases hk with c | c | c | c | c
   ·rw [c]; exact ⟨by omega, z⟩
   ·simp only [DS.dc, Option.some.injEq] at c; subst c; exact ⟨by omega, by omega⟩
   ·simp only [DS.dc, Option.some.injEq] at c; subst c; exact ⟨by omega, by omega⟩
   ·simp [DS.dc, Value.ownBlock] at c
   ·simp [DS.dc] at c
  ·exact ⟨⟨h0, h1⟩, fun p hp => by simp [DS.ps, DS.new] at hp, Int.le_refl _, (fun e he => by simp [DS.new] at he), ⟨Int.le_refl _, Int.le_refl _⟩⟩
theorem append_dsk {w : World} {b : Nat} {S : DS} {O : Nat → Prop} (h : DskE w b S O) (s : ByteArray) (hs : s.size ≤ maxLen) (v : Value) (D : List UInt8) (hv : Sl w v D) (ho : SOff O v) (hc : S.c7 < 900000000) :
    Calls Tryz.prog 49 #[.pointer (some ⟨b, 0, none⟩), .string s, v] w fun e w' => e = .returned (.tuple #[.int .i64 (S.append s D).2.1, .int .i64 (S.append s D).2.2]) ∧ ∃ O', DskE w' b (S.append s D).1 O' ∧ Sgo w w' O O' := by
 obtain ⟨f, g, pd, am, VB, VL, h⟩ := h
 exact append_any h s hs v D hv ho hc
def spF (f : Fl) : Fl := ⟨f.by_, f.la, f.by_.length - f.la.length⟩
def DS.sync (S : DS) (s : ByteArray) : DS × Int :=
 match S.find s with
 | (none, e) => (S, e)
 | (some p, _) =>
  if S.flt.2.1 = 1 then ({ S.beg 2 with F := upd S.F p (spF (S.F p)) }, 20)
  else if S.flt.2.1 = 3 then ((S.beg 2).str 3, 22)
  else ({ S.beg 2 with F := upd S.F p (syF (S.F p)) }, 0)
theorem syncF_any {w : World} {b : Nat} {S : DS} {O : Nat → Prop} {f g : Nat} {pd : Value} {am : Option Nat} {VB VL : Nat → Value} (h : Dsk w b S O f g pd am VB VL) (s : ByteArray) (hs : s.size ≤ maxLen) (hc : S.c7 < 900000000) :
    Calls Tryz.prog 50 #[.pointer (some ⟨b, 0, none⟩), .string s] w (Does w b O (S.sync s)) := by
 have hF := dsk_find h s hs
 by_cases h0 : (S.find s).2 = 0
 ·obtain ⟨p, e, hg, hr, hp⟩ := find_ok h0
  rw [e] at hF
  simp only [Option.map_some] at hF
  have hR : Hid (S.sync s = if S.flt.2.1 = 1 then ({ S.beg 2 with F := upd S.F p (spF (S.F p)) }, 20) else if S.flt.2.1 = 3 then ((S.beg 2).str 3, 22) else ({ S.beg 2 with F := upd S.F p (syF (S.F p)) }, 0)) := by show _ = _; unfold DS.sync; rw [e]
  have hb : Hid (∀ u, Dsk u b S O f g pd am VB VL → _) := fun u hu => dsk_begin hu 2 (by omega) (by omega)
  have hft := h.ok.flt
  have hsz := hide (h.ok.sz p hp)
  have H := hide h
  obtain ⟨t, ht⟩ : ∃ t, Hid (S.flt = t) := ⟨_, rfl⟩
  rw [ht.out] at hb hft hR
  unfold fv at hb
  obtain ⟨ta, tk, tp⟩ := t
  dsimp only at hb hft hR
  clear h e hr h0 hg
  have hsp : Hid (∀ u, Dsk u b (S.beg 2) O f g pd am VB VL → Calls Tryz.prog 117 #[.pointer (some ⟨p, 0, none⟩)] u fun e w' => e = .returned (.tuple #[]) ∧ ∃ O', Dsk w' b { S.beg 2 with F := upd S.F p (spF (S.F p)) } O' f g pd am (upd VB p (VB p)) (upd VL p (VL p)) ∧ Sgo u w' O O' ∧ But (fun k => k = p) u w') := fun u hu => by
   refine (spoil_any u p (S.F p) (VB p) (VL p) (hu.fs.at_ p hp)).mono ?_
   rintro e w' ⟨rfl, hf, hB⟩
   obtain ⟨O', k1, k2⟩ := hu.one (t := spF (S.F p)) hp hf (hB.mono fun k _ e => .inl e) (fun k hk => .inl hk) hsz.out
   exact ⟨rfl, O', k1, k2, hB⟩
  have hsy : Hid (∀ u, Dsk u b (S.beg 2) O f g pd am VB VL → Calls Tryz.prog 118 #[.pointer (some ⟨p, 0, none⟩)] u fun e w' => e = .returned (.tuple #[]) ∧ ∃ O', DskE w' b { S.beg 2 with F := upd S.F p (syF (S.F p)) } O' ∧ Sgo u w' O O') := fun u hu => by
   refine (sync_any u p (S.F p) (VB p) (VL p) (hu.fs.at_ p hp)).mono ?_
   rintro e w' ⟨rfl, vl', hf, hB, ho⟩
   obtain ⟨O', k1, k2⟩ := hu.one (t := syF (S.F p)) hp hf hB ho hsz.out
   exact ⟨rfl, O', k1.e, k2⟩
  have hpO : Hid (O p) := H.out.of p hp p (.inl rfl)
  by_cases k1 : tk = 1
  ·subst k1
   have hR2 : Hid (S.sync s = ({ S.beg 2 with F := upd S.F p (spF (S.F p)) }, 20)) := by show _ = _; rw [hR.out, if_pos rfl]
   rw [hR2.out]
   clear hR hft hsy
   have hst : Hid (∀ u O' VB' VL', Dsk u b { S.beg 2 with F := upd S.F p (spF (S.F p)) } O' f g pd am VB' VL' → Calls Tryz.prog 53 #[.pointer (some ⟨b, 0, none⟩), .agg #[.int .i64 ta, .int .i64 1, .int .i64 tp]] u fun e w' => e = .returned (.int .i64 20) ∧ Dsk w' b { S.beg 2 with F := upd S.F p (spF (S.F p)) } O' f g pd am VB' VL' ∧ Sgo u w' O' O') := fun u O' VB' VL' hu => dsk_strikeR hu (ta, 1, tp) (by show (1 : Int) ≠ 4; decide)
   go_enter Tryz.func50, Tryz.ntmps50
   go_upto_region 5 with (first
    | (go_at_call 99; refine hF.mono ?_; rintro e w1 ⟨rfl, B1⟩; replace B1 := hide B1; have D1 := hide (H.out.below B1.out))
    | (go_at_call 54; refine (hb.out _ D1.out).mono ?_; rintro e w2 ⟨rfl, D2, G2⟩; replace D2 := hide D2; replace G2 := hide G2))
   have B3 := hide (box_below w2 (.cells #[.int .i64 ta, .int .i64 1, .int .i64 tp] 118))
   have N3 := hide (heap_alloc_new w2 (.cells #[.int .i64 ta, .int .i64 1, .int .i64 tp] 118))
   have D3 := hide (D2.out.below B3.out)
   have hne : Hid (¬ O w2.heap.size) := fun c => Nat.lt_irrefl _ (D2.out.lt _ c)
   have T3 := hide ((Sgo.of_below (O := O) B1.out).trans (G2.out.trans (Sgo.of_below B3.out)))
   generalize w2.alloc (.cells #[.int .i64 ta, .int .i64 1, .int .i64 tp] 118) = w3 at *
   obtain ⟨x0, x1, x2⟩ := cells3 N3.out
   go_wp2_with (first
    | (go_at_call 117; refine (hsp.out _ D3.out).mono ?_; rintro e w4 ⟨rfl, O4, D4, G4, U4⟩; replace D4 := hide D4; replace G4 := hide G4; have N4 := hide (U4.at N3.out (fun e => hne.out (by rw [e]; exact hpO.out))); clear U4; obtain ⟨y0, y1, y2⟩ := cells3 N4.out)
    | (go_at_call 53; refine (hst.out _ _ _ _ D4.out).mono ?_; rintro e w5 ⟨rfl, D5, G5⟩; replace D5 := hide D5; replace G5 := hide G5))
   go_ret
   exact ⟨rfl, O4, D5.out.e, T3.out.trans (G4.out.trans G5.out)⟩
  ·have k1' : (tk == 1) = false := by simpa using k1
   have k4' : (tk == 4) = false := by simp; omega
   by_cases k3 : tk = 3
   ·subst k3
    have hR2 : Hid (S.sync s = ((S.beg 2).str 3, 22)) := by show _ = _; rw [hR.out, if_neg (by decide), if_pos rfl]
    rw [hR2.out]
    clear hR hft hsy hsp
    have hst : Hid (∀ u, Dsk u b (S.beg 2) O f g pd am VB VL → Calls Tryz.prog 53 #[.pointer (some ⟨b, 0, none⟩), .agg #[.int .i64 ta, .int .i64 3, .int .i64 tp]] u fun e w' => e = .returned (.int .i64 22) ∧ Dsk w' b ((S.beg 2).str 3) O f g pd am VB VL ∧ Sgo u w' O O) := fun u hu => dsk_strikeR hu (ta, 3, tp) (by show (3 : Int) ≠ 4; decide)
    go_enter Tryz.func50, Tryz.ntmps50
    go_upto_region 5 with (first
     | (go_at_call 99; refine hF.mono ?_; rintro e w1 ⟨rfl, B1⟩; replace B1 := hide B1; have D1 := hide (H.out.below B1.out))
     | (go_at_call 54; refine (hb.out _ D1.out).mono ?_; rintro e w2 ⟨rfl, D2, G2⟩; replace D2 := hide D2; replace G2 := hide G2))
    have B3 := hide (box_below w2 (.cells #[.int .i64 ta, .int .i64 3, .int .i64 tp] 118))
    have N3 := hide (heap_alloc_new w2 (.cells #[.int .i64 ta, .int .i64 3, .int .i64 tp] 118))
    have D3 := hide (D2.out.below B3.out)
    have T3 := hide ((Sgo.of_below (O := O) B1.out).trans (G2.out.trans (Sgo.of_below B3.out)))
    generalize w2.alloc (.cells #[.int .i64 ta, .int .i64 3, .int .i64 tp] 118) = w3 at *
    obtain ⟨x0, x1, x2⟩ := cells3 N3.out
    go_wp2_with (go_at_call 53; refine (hst.out _ D3.out).mono ?_; rintro e w5 ⟨rfl, D5, G5⟩; replace D5 := hide D5; replace G5 := hide G5)
    go_ret
    exact ⟨rfl, O, D5.out.e, T3.out.trans G5.out⟩
   ·have hR2 : Hid (S.sync s = ({ S.beg 2 with F := upd S.F p (syF (S.F p)) }, 0)) := by show _ = _; rw [hR.out, if_neg k1, if_neg k3]
    rw [hR2.out]
    have hst : Hid (∀ u, Dsk u b (S.beg 2) O f g pd am VB VL → Calls Tryz.prog 53 #[.pointer (some ⟨b, 0, none⟩), .agg #[.int .i64 ta, .int .i64 tk, .int .i64 tp]] u fun e w' => e = .returned (.int .i64 0) ∧ Dsk w' b (S.beg 2) O f g pd am VB VL ∧ Sgo u w' O O) := fun u hu => by
     have := dsk_strikeR hu (ta, tk, tp) (by show tk ≠ 4; omega)
     have e1 : strR tk = 0 := by unfold strR strF; by_cases c : tk = 2 <;> simp [c, k1, k3]
     have e2 : (S.beg 2).str tk = S.beg 2 := by unfold DS.str; rw [if_neg k3]
     dsimp only at this
     rw [e1, e2] at this
     exact this
    clear hR hft hsp k1 k3
    go_enter Tryz.func50, Tryz.ntmps50
    go_upto_region 5 with (first
     | (go_at_call 99; refine hF.mono ?_; rintro e w1 ⟨rfl, B1⟩; replace B1 := hide B1; have D1 := hide (H.out.below B1.out))
     | (go_at_call 54; refine (hb.out _ D1.out).mono ?_; rintro e w2 ⟨rfl, D2, G2⟩; replace D2 := hide D2; replace G2 := hide G2))
    have B3 := hide (box_below w2 (.cells #[.int .i64 ta, .int .i64 tk, .int .i64 tp] 118))
    have N3 := hide (heap_alloc_new w2 (.cells #[.int .i64 ta, .int .i64 tk, .int .i64 tp] 118))
    have D3 := hide (D2.out.below B3.out)
    have T3 := hide ((Sgo.of_below (O := O) B1.out).trans (G2.out.trans (Sgo.of_below B3.out)))
    generalize w2.alloc (.cells #[.int .i64 ta, .int .i64 tk, .int .i64 tp] 118) = w3 at *
    obtain ⟨x0, x1, x2⟩ := cells3 N3.out
    go_wp2_with (first
     | (go_at_call 53; refine (hst.out _ D3.out).mono ?_; rintro e w5 ⟨rfl, D5, G5⟩; replace D5 := hide D5; replace G5 := hide G5)
     | (go_at_call 118; refine (hsy.out _ D5.out).mono ?_; rintro e w6 ⟨rfl, O6, D6, G6⟩; replace D6 := hide D6; replace G6 := hide G6))
    go_ret
    exact ⟨rfl, O6, D6.out, T3.out.trans (G5.out.trans G6.out)⟩
 ·have hR : Hid (S.sync s = (S, (S.find s).2)) := by
    show _ = _
    have q := find_no h0
    unfold DS.sync
    cases hq : S.find s with
    | mk a c => rw [hq] at q; dsimp only at q; subst q; rfl
  rw [hR.out]
  have q := find_no h0
  rw [q] at hF
  simp only [Option.map_none] at hF
  generalize (S.find s).2 = r at *
  have h0' : (r != 0) = true := by simpa using h0
  have H := hide h
  clear h h0 q hR
  go_enter Tryz.func50, Tryz.ntmps50
  go_wp2_with (go_at_call 99; refine hF.mono ?_; rintro e w1 ⟨rfl, B1⟩; replace B1 := hide B1)
  go_ret
  exact ⟨rfl, O, (H.out.below B1.out).e, Sgo.of_below B1.out⟩
theorem flt_none {S : DS} (h : S.al = []) : S.flt = zf := by unfold DS.flt; rw [h]; rfl
theorem ref_up {S : DS} (h : S.up = true) {s : ByteArray} (hm : may s.data.toList = true) : S.ref [s] = 0 := by
 unfold DS.ref
 rw [h]
 simp [hm]
theorem find_get {S : DS} (h : S.up = true) {s : ByteArray} (hm : may s.data.toList = true) {p : Nat} (hg : get S.dir s.data.toList = some p) : S.find s = (some p, 0) := by
 unfold DS.find
 rw [ref_up h hm, if_pos rfl, hg]
structure Cm (S : DS) (M : Nat) (L2 : Dr) (PP : List Ch) (F : Nat → Fl) (c : Int) : Prop where
 up : S.up = true
 al : S.al = []
 most : S.most = (M : Int)
 l2 : S.l2 = L2
 P : S.P = PP
 F : S.F = F
 c7 : S.c7 = c
theorem Cm.dir {S : DS} {M : Nat} {L2 : Dr} {PP : List Ch} {F : Nat → Fl} {c : Int} (h : Cm S M L2 PP F c) : S.dir = runs L2 PP := by unfold DS.dir; rw [h.l2, h.P]
theorem Cm.find {S : DS} {M : Nat} {L2 : Dr} {PP : List Ch} {F : Nat → Fl} {c : Int} (h : Cm S M L2 PP F c) {s : ByteArray} {p : Nat} (hm : may s.data.toList = true) (hg : get (runs L2 PP) s.data.toList = some p) : S.find s = (some p, 0) := find_get h.up hm (by rw [h.dir]; exact hg)
theorem Cm.create {S : DS} {M : Nat} {L2 : Dr} {PP : List Ch} {F : Nat → Fl} {c : Int} (h : Cm S M L2 PP F c) {s : ByteArray} (hm : may s.data.toList = true) (hg : get (runs L2 PP) s.data.toList = none) (hl : (runs L2 PP).length < 256) (p : Nat) :
    (S.create s p).2 = 0 ∧ Cm (S.create s p).1 M L2 (PP ++ [.cr s p]) (upd F p ⟨[], [], 0⟩) (c + 1) := by
 have e : S.create s p = ({ (S.beg 0).str S.flt.2.1 with P := S.P ++ [.cr s p], F := upd S.F p ⟨[], [], 0⟩ }, 0) := by
  unfold DS.create
  rw [ref_up h.up hm, if_neg (by simp), h.dir, hg, if_neg (by simp), if_neg (by omega), flt_none h.al, if_neg (by decide)]
 rw [e, flt_none h.al]
 refine ⟨rfl, ⟨h.up, ?_, h.most, h.l2, ?_, ?_, ?_⟩⟩
 ·show adel S.al _ = []; rw [h.al]; rfl
 ·show S.P ++ _ = _; rw [h.P]
 ·show upd S.F p _ = _; rw [h.F]
 ·show S.c7 + 1 = _; rw [h.c7]
theorem Cm.append {S : DS} {M : Nat} {L2 : Dr} {PP : List Ch} {F : Nat → Fl} {c : Int} (h : Cm S M L2 PP F c) {s : ByteArray} {p : Nat} (hm : may s.data.toList = true) (hg : get (runs L2 PP) s.data.toList = some p) (D : List UInt8) (hD : sumL F (runs L2 PP) + D.length ≤ M) :
    (S.append s D).2.1 = (D.length : Int) ∧ (S.append s D).2.2 = 0 ∧ Cm (S.append s D).1 M L2 PP (upd F p (apF (F p) D)) (c + 1) := by
 have hn : S.apN D.length = D.length := by
  unfold DS.apN DS.room
  rw [flt_none h.al, if_neg (by decide), h.dir, h.F, h.most]
  omega
 have e : S.append s D = ({ (S.beg 1).str S.flt.2.1 with F := upd S.F p (apF (S.F p) (D.take (S.apN D.length))), c8 := S.c8 + (S.apN D.length : Int) }, (S.apN D.length : Int), if strF S.flt.2.1 ≠ 0 then strF S.flt.2.1 else if S.apN D.length < D.length then 21 else 0) := by
  unfold DS.append
  rw [h.find hm hg]
 rw [e, hn, flt_none h.al, List.take_length]
 refine ⟨rfl, ?_, ⟨h.up, ?_, h.most, h.l2, h.P, ?_, ?_⟩⟩
 ·show (if strF 0 ≠ 0 then strF 0 else if D.length < D.length then 21 else 0) = 0
  rw [if_neg (by decide), if_neg (by omega)]
 ·show adel S.al _ = []; rw [h.al]; rfl
 ·show upd S.F p (apF (S.F p) D) = _; rw [h.F]
 ·show S.c7 + 1 = _; rw [h.c7]
theorem Cm.sync {S : DS} {M : Nat} {L2 : Dr} {PP : List Ch} {F : Nat → Fl} {c : Int} (h : Cm S M L2 PP F c) {s : ByteArray} {p : Nat} (hm : may s.data.toList = true) (hg : get (runs L2 PP) s.data.toList = some p) :
    (S.sync s).2 = 0 ∧ Cm (S.sync s).1 M L2 PP (upd F p (syF (F p))) (c + 1) := by
 have e : S.sync s = ({ S.beg 2 with F := upd S.F p (syF (S.F p)) }, 0) := by
  unfold DS.sync
  rw [h.find hm hg]
  dsimp only
  rw [flt_none h.al, if_neg (by decide), if_neg (by decide)]
 rw [e]
 refine ⟨rfl, ⟨h.up, ?_, h.most, h.l2, h.P, ?_, ?_⟩⟩
 ·show adel S.al _ = []; rw [h.al]; rfl
 ·show upd S.F p (syF (S.F p)) = _; rw [h.F]
 ·show S.c7 + 1 = _; rw [h.c7]
end Go.Proofs.YtpflaglfnkmjiaaGreat.Dk
namespace Go.Proofs.YtpflaglfnkmjiaaGreat.Dk
open Go.ChangeShapes Go.WideShapes Go.ChangeAt Go.RowKit Go.Deep
set_option maxRecDepth 100000
set_option maxRecDepth 100000
end Go.Proofs.YtpflaglfnkmjiaaGreat.Dk
namespace Go.Proofs.YtpflaglfnkmjiaaGreat.Dk
open Go.RowKit Go.Maps Go.Sort Go.Shelf Go.Proofs.YtpflaglfnkmjiaaGreat.Nm
def DS.cs (S : DS) : Array Value := #[.int .i64 S.c0, .int .i64 S.c1, .int .i64 S.c2, .int .i64 S.c3, .int .i64 S.c4, .int .i64 S.c5, .int .i64 S.c6, .int .i64 S.c7, .int .i64 S.c8]
theorem count_dsk {w : World} {b : Nat} {S : DS} {O : Nat → Prop} (h : DskE w b S O) :
    Calls Tryz.prog 21 #[.pointer (some ⟨b, 0, none⟩)] w fun e w' => e = .returned (.agg S.cs) ∧ Below w.heap.size w w' := by
 obtain ⟨f, g, pd, am, VB, VL, h⟩ := h
 have hb := h.dk.cells
 have hB := hide (box_below w (.cells S.cs 74))
 have hb1 : (w.alloc (.cells #[.int .i64 0, .int .i64 0, .int .i64 0, .int .i64 0, .int .i64 0, .int .i64 0, .int .i64 0, .int .i64 0, .int .i64 0] 74)).heap[b]? = some (.cells (dcells (S.dc f g pd am)) TD (0, 0)) := ((box_below w _).block b (heap_lt hb)).trans hb
 have x0 : (w.alloc (.cells #[.int .i64 0, .int .i64 0, .int .i64 0, .int .i64 0, .int .i64 0, .int .i64 0, .int .i64 0, .int .i64 0, .int .i64 0] 74)).cell? ⟨b, 6, none⟩ = some (.int .i64 S.c0) := by simp [World.cell?, hb1, dcells, DS.dc]
 have x1 : (w.alloc (.cells #[.int .i64 0, .int .i64 0, .int .i64 0, .int .i64 0, .int .i64 0, .int .i64 0, .int .i64 0, .int .i64 0, .int .i64 0] 74)).cell? ⟨b, 7, none⟩ = some (.int .i64 S.c1) := by simp [World.cell?, hb1, dcells, DS.dc]
 have x2 : (w.alloc (.cells #[.int .i64 0, .int .i64 0, .int .i64 0, .int .i64 0, .int .i64 0, .int .i64 0, .int .i64 0, .int .i64 0, .int .i64 0] 74)).cell? ⟨b, 8, none⟩ = some (.int .i64 S.c2) := by simp [World.cell?, hb1, dcells, DS.dc]
 have x3 : (w.alloc (.cells #[.int .i64 0, .int .i64 0, .int .i64 0, .int .i64 0, .int .i64 0, .int .i64 0, .int .i64 0, .int .i64 0, .int .i64 0] 74)).cell? ⟨b, 9, none⟩ = some (.int .i64 S.c3) := by simp [World.cell?, hb1, dcells, DS.dc]
 have x4 : (w.alloc (.cells #[.int .i64 0, .int .i64 0, .int .i64 0, .int .i64 0, .int .i64 0, .int .i64 0, .int .i64 0, .int .i64 0, .int .i64 0] 74)).cell? ⟨b, 10, none⟩ = some (.int .i64 S.c4) := by simp [World.cell?, hb1, dcells, DS.dc]
 have x5 : (w.alloc (.cells #[.int .i64 0, .int .i64 0, .int .i64 0, .int .i64 0, .int .i64 0, .int .i64 0, .int .i64 0, .int .i64 0, .int .i64 0] 74)).cell? ⟨b, 11, none⟩ = some (.int .i64 S.c5) := by simp [World.cell?, hb1, dcells, DS.dc]
 have x6 : (w.alloc (.cells #[.int .i64 0, .int .i64 0, .int .i64 0, .int .i64 0, .int .i64 0, .int .i64 0, .int .i64 0, .int .i64 0, .int .i64 0] 74)).cell? ⟨b, 12, none⟩ = some (.int .i64 S.c6) := by simp [World.cell?, hb1, dcells, DS.dc]
 have x7 : (w.alloc (.cells #[.int .i64 0, .int .i64 0, .int .i64 0, .int .i64 0, .int .i64 0, .int .i64 0, .int .i64 0, .int .i64 0, .int .i64 0] 74)).cell? ⟨b, 13, none⟩ = some (.int .i64 S.c7) := by simp [World.cell?, hb1, dcells, DS.dc]
 have x8 : (w.alloc (.cells #[.int .i64 0, .int .i64 0, .int .i64 0, .int .i64 0, .int .i64 0, .int .i64 0, .int .i64 0, .int .i64 0, .int .i64 0] 74)).cell? ⟨b, 14, none⟩ = some (.int .i64 S.c8) := by simp [World.cell?, hb1, dcells, DS.dc]
 clear hb1 hb h
 unfold DS.cs at hB ⊢
 go_enter Tryz.func21, Tryz.ntmps21
 go_wp2_with fail
 go_returns
 exact ⟨rfl, hB.out⟩
open Ix (wp_region_T wpAnyT wpAnyT_take wpAnyT_one wpAnyT_done vac)
theorem wpAnyT_pair {P : Program} {ops : Array Oper} {Q : Exit → Act → World → Prop} {md : Region.Mode} {S : World → Prop} {d : Nat} {i j : Nat} {oi oj : Oper} {fuel : Nat} {listed : Array Bool} {a : Act} {w : World} (G : Value → Value → World → Prop) (hij : i ≠ j) (hr : Region.ready md ops listed = [i, j]) (hoi : ops[i]? = some oi) (hoj : ops[j]? = some oj)
    (hri : Region.ready md ops (listed.setIfInBounds i true) = [j]) (hrj : Region.ready md ops (listed.setIfInBounds j true) = [i])
    (hcomm : ∀ vi vj, (a.put oj.dst vj).put oi.dst vi = (a.put oi.dst vi).put oj.dst vj)
    (hI : ∀ K' : Act → World → Prop, Shut (∀ vi w1, S w1 → (∀ K2 : Act → World → Prop, Shut (∀ vj w2, G vi vj w2 → K2 ((a.put oi.dst vi).put oj.dst vj) w2) → if Region.wanted oj (yielded ops (a.put oi.dst vi).tmps) = true then Oper.wp P oj (a.put oi.dst vi) w1 K2 Q else K2 ((a.put oi.dst vi).put oj.dst undef) w1) → K' (a.put oi.dst vi) w1) → if Region.wanted oi (yielded ops a.tmps) = true then Oper.wp P oi a w K' Q else K' (a.put oi.dst undef) w)
    (hJ : ∀ K' : Act → World → Prop, Shut (∀ vj w1, S w1 → (∀ K2 : Act → World → Prop, Shut (∀ vi w2, G vi vj w2 → K2 ((a.put oj.dst vj).put oi.dst vi) w2) → if Region.wanted oi (yielded ops (a.put oj.dst vj).tmps) = true then Oper.wp P oi (a.put oj.dst vj) w1 K2 Q else K2 ((a.put oj.dst vj).put oi.dst undef) w1) → K' (a.put oj.dst vj) w1) → if Region.wanted oj (yielded ops a.tmps) = true then Oper.wp P oj a w K' Q else K' (a.put oj.dst undef) w)
    (hG : ∀ vi vj w2, G vi vj w2 → S w2)
    (h : ∀ vi vj w2, G vi vj w2 → wpAnyT P md ops Q S d fuel ((listed.setIfInBounds i true).setIfInBounds j true) ((a.put oi.dst vi).put oj.dst vj) w2) :
    wpAnyT P md ops Q S d (fuel + 1 + 1) listed a w := by
 refine ⟨fun h0 => (by rw [h0] at hr; cases hr), fun k hk => ?_⟩
 rw [hr] at hk
 simp only [List.mem_cons, List.not_mem_nil, or_false] at hk
 rcases hk with rfl | rfl
 ·refine wpOp_step hoi (fun K' hK => hI K' (fun vi w1 hS hrest => hK _ w1 ⟨fun _ => hS, ?_⟩))
  refine wpAnyT_one hri hoj (fun K2 hK2 => hrest K2 (fun vj w2 hg => hK2 _ w2 (fun _ => hG vi vj w2 hg) (h vi vj w2 hg)))
 ·refine wpOp_step hoj (fun K' hK => hJ K' (fun vj w1 hS hrest => hK _ w1 ⟨fun _ => hS, ?_⟩))
  refine wpAnyT_one hrj hoi (fun K2 hK2 => hrest K2 (fun vi w2 hg => hK2 _ w2 (fun _ => hG vi vj w2 hg) ?_))
  rw [hcomm, Array.setIfInBounds_comm _ _ (Ne.symm hij)]
  exact h vi vj w2 hg
end Go.Proofs.YtpflaglfnkmjiaaGreat.Dk
namespace Go.Proofs.YtpflaglfnkmjiaaGreat.Sg
open Go.RowKit Go.Maps Go.Sort Go.Shelf Go.Proofs.YtpflaglfnkmjiaaGreat.Nm Go.Proofs.YtpflaglfnkmjiaaGreat.Dk
open Ix (wp_region_T wpAnyT wpAnyT_take wpAnyT_one wpAnyT_done vac)
theorem bs2 {w q q' : World} (h : Below w.heap.size w q) (h2 : Below q.heap.size q q') : Below w.heap.size w q' := h.trans (h2.mono h.size)
theorem tri {w : World} {g : Nat} {a b c : Value} {T : TypeId} {z : Nat × Nat} (h : w.heap[g]? = some (.cells #[a, b, c] T z)) : w.cell? ⟨g, 0, none⟩ = some a ∧ w.cell? ⟨g, 1, none⟩ = some b ∧ w.cell? ⟨g, 2, none⟩ = some c := ⟨by simp [World.cell?, h], by simp [World.cell?, h], by simp [World.cell?, h]⟩
structure SG where
 b : Nat
 file : ByteArray
 num : Int
 base : Int
 hs : Int
 next : Int
 size : Int
 seed : Int
 cond : Int
 x : Ix.X
 sd : Sr
def SG.cs (s : SG) (xb mb : Nat) : Array Value := #[.pointer (some ⟨s.b, 0, none⟩), .string s.file, .int .i64 s.num, .int .i64 s.base, .int .u32 s.hs, .int .i64 s.next, .int .i64 s.size, .int .u32 s.seed, .int .i64 s.cond, .pointer (some ⟨xb, 0, none⟩), .map (some mb)]
structure Seg (w : World) (sb : Nat) (s : SG) (xb mb : Nat) (v : Value) : Prop where
 box : w.heap[sb]? = some (.cells (s.cs xb mb) 130 (0, 0))
 ix : Ix.At Ix.TI w xb s.x v
 sm : Sm w mb s.sd
 ap : xb ≠ mb ∧ xb ≠ sb ∧ mb ≠ sb ∧ ∀ k, v.ownBlock = some k → k ≠ sb ∧ k ≠ xb ∧ k ≠ mb
theorem headed_any (w : World) (b : Nat) (s : ByteArray) (num base hs sum : Int) (hs2 : s.size ≤ 281474976710656) :
    Calls Tryz.prog 51 #[.pointer (some ⟨b, 0, none⟩), .string s, .agg #[.int .i64 num, .int .i64 base, .int .u32 hs], .int .u32 sum] w fun e w' => ∃ sb xb mb v, e = .returned (.pointer (some ⟨sb, 0, none⟩)) ∧ Seg w' sb ⟨b, s, num, base, hs, base, 32, sum, 0, ⟨1024, [], (0, 0)⟩, []⟩ xb mb v ∧ Below w.heap.size w w' ∧ (w.heap.size ≤ sb ∧ w.heap.size ≤ xb ∧ w.heap.size ≤ mb ∧ ∀ k, v.ownBlock = some k → w.heap.size ≤ k) := by
 replace hs2 := hide hs2
 have B1 := hide (box_below w (.cells #[.int .i64 num, .int .i64 base, .int .u32 hs] 38))
 have N1 := hide (heap_alloc_new w (.cells #[.int .i64 num, .int .i64 base, .int .u32 hs] 38))
 obtain ⟨w1, hw1⟩ : ∃ w1, Hid (w.alloc (.cells #[.int .i64 num, .int .i64 base, .int .u32 hs] 38) = w1) := ⟨_, rfl⟩
 obtain ⟨g6, hg6⟩ : ∃ g6, Hid (w.heap.size = g6) := ⟨_, rfl⟩
 rw [hw1.out] at B1 N1
 rw [hg6.out] at N1
 have hX := Ix.new_any w1 1024 (by omega) (by omega)
 go_enter Tryz.func51, Tryz.ntmps51
 go_upto_region 1 with fail
 rw [hw1.out, hg6.out]
 go_upto_region 2 with (first
  | (go_at_call 119; refine hX.mono ?_; rintro e w3 ⟨b3, ⟨c, _⟩ | ⟨_, _, xb, lx, rfl, X3⟩⟩; (exact absurd (show (1 : Int) ≤ 1024 ∧ (1024 : Int) ≤ 1048576 by decide) c); replace X3 := hide X3; replace b3 := hide b3; replace lx := hide lx)
  | fail)
 clear hX
 have N3 := hide ((b3.out.block _ (heap_lt N1.out)).trans N1.out)
 have B03 := hide (bs2 B1.out b3.out)
 have KP : Hid (w3.drew.heap[g6]? = some (.cells #[.int .i64 num, .int .i64 base, .int .u32 hs] 38 (0, 0))) := N3.out
 have GQ : Hid (Below w3.heap.size w3 w3.drew) := (Below.refl _ _).drew
 refine wp_region_T (fun q => q.heap[g6]? = some (.cells #[.int .i64 num, .int .i64 base, .int .u32 hs] 38 (0, 0))) 11 (by kernel_rfl) ?_
 generalize w3.drew = q at *
 refine Ix.tk 0 ⟨some 15, .move (.tmp 0), _, _, _, _⟩ (.pointer (some ⟨b, 0, none⟩)) [9,10,11] ?_ KP.out ?_
 ·intro wq hSw
  obtain ⟨y0, y1, y2⟩ := tri hSw
  go_simp
 (try simp only [zzp, zzb, zzc])
 refine Ix.tk 1 ⟨some 16, .move (.tmp 1), _, _, _, _⟩ (.string s) [2,9,10,11] ?_ KP.out ?_
 ·intro wq hSw
  obtain ⟨y0, y1, y2⟩ := tri hSw
  go_simp
 (try simp only [zzp, zzb, zzc])
 refine Ix.tk 3 ⟨some 18, .load 38 (.tmp 6), _, _, _, _⟩ (.agg #[.int .i64 num, .int .i64 base, .int .u32 hs]) [9,10,11] ?_ KP.out ?_
 ·intro wq hSw
  obtain ⟨y0, y1, y2⟩ := tri hSw
  go_simp
 (try simp only [zzp, zzb, zzc])
 refine Ix.tk 4 ⟨some 19, .fieldAddr 38 (.tmp 6) 1, _, _, _, _⟩ (.pointer (some ⟨g6, 1, none⟩)) [5,9,10,11] ?_ KP.out ?_
 ·intro wq hSw
  obtain ⟨y0, y1, y2⟩ := tri hSw
  go_simp
 (try simp only [zzp, zzb, zzc])
 refine Ix.tk 5 ⟨some 20, .load 2 (.tmp 19), _, _, _, _⟩ (.int .i64 base) [9,10,11] ?_ KP.out ?_
 ·intro wq hSw
  obtain ⟨y0, y1, y2⟩ := tri hSw
  go_simp
 (try simp only [zzp, zzb, zzc])
 refine Ix.tk 6 ⟨some 21, .move (.tmp 3), _, _, _, _⟩ (.int .u32 sum) [9,10,11] ?_ KP.out ?_
 ·intro wq hSw
  obtain ⟨y0, y1, y2⟩ := tri hSw
  go_simp
 (try simp only [zzp, zzb, zzc])
 refine Ix.tk 7 ⟨some 22, .move (.tmp 9), _, _, _, _⟩ (.pointer (some ⟨xb, 0, none⟩)) [9,10,11] ?_ KP.out ?_
 ·intro wq hSw
  obtain ⟨y0, y1, y2⟩ := tri hSw
  go_simp
 (try simp only [zzp, zzb, zzc])
 refine wpAnyT_pair (i := 2) (j := 8) (oi := ⟨some 17, .call { callee := .value (.func 101), args := #[.tmp 16], argTypes := #[9] }, _, _, _, _⟩) (oj := ⟨some 23, .makeMap 128 none, _, _, _, _⟩) (fun vi vj w2 => vi = .string s ∧ ∃ mb, vj = .map (some mb) ∧ q.heap.size ≤ mb ∧ Sm w2 mb [] ∧ Below q.heap.size q w2) (by decide) (by kernel_rfl) rfl rfl (by kernel_rfl) (by kernel_rfl) (fun _ _ => rfl) ?_ ?_ ?_ ?_
 ·intro K hK
  go_simp
  go_at_call 101
  refine (clone_str s q hs2.out).mono ?_
  rintro e w4 ⟨rfl, b4⟩
  (try go_simp)
  refine hK.out (.string s) _ ((b4.block _ (heap_lt KP.out)).trans KP.out) (fun K2 hK2 => ?_)
  clear hK K
  go_simp
  exact hK2.out (.map (some w4.heap.size)) _ ⟨rfl, w4.heap.size, rfl, b4.size, Sm.made w4, b4.alloc b4.size (.map #[] 0)⟩
 ·intro K hK
  go_simp
  have B4 : Below q.heap.size q (q.alloc (.map #[] 0)) := (Below.refl _ _).alloc (Nat.le_refl _) (.map #[] 0)
  refine hK.out (.map (some q.heap.size)) _ ((B4.block _ (heap_lt KP.out)).trans KP.out) (fun K2 hK2 => ?_)
  clear hK K
  have M1 := Sm.made q
  go_simp
  go_at_call 101
  refine (clone_str s _ hs2.out).mono ?_
  rintro e w4 ⟨rfl, b4⟩
  (try go_simp)
  exact hK2.out (.string s) _ ⟨rfl, q.heap.size, rfl, Nat.le_refl _, M1.heap (b4.block _ M1.lt), bs2 B4 b4⟩
 ·rintro vi vj w2 ⟨_, mb, _, _, _, hb⟩
  exact (hb.block _ (heap_lt KP.out)).trans KP.out
 rintro vi vj w4 ⟨rfl, mb, rfl, hmb, M4, b4⟩
 replace M4 := hide M4
 replace b4 := hide b4
 have K4 : Hid (w4.heap[g6]? = some (.cells #[.int .i64 num, .int .i64 base, .int .u32 hs] 38 (0, 0))) := (b4.out.block _ (heap_lt KP.out)).trans KP.out
 (try simp only [zzp, zzb, zzc])
 refine wpAnyT_one (i := 9) (o := ⟨some 24, .build 130 #[(0, .tmp 15), (1, .tmp 17), (2, .tmp 18), (3, .tmp 20), (4, .const (Value.int IntKind.i64 32)), (5, .tmp 21), (7, .tmp 22), (8, .tmp 23)], _, _, _, _⟩) (by kernel_rfl) rfl (fun K hK => ?_)
 go_simp
 refine hK.out _ _ (fun _ => K4.out) ?_
 clear hK K
 (try simp only [zzp, zzb, zzc])
 have B5 := hide (box_below w4 (.cells #[.pointer (some ⟨b, 0, none⟩), .string s, .int .i64 num, .int .i64 base, .int .u32 hs, .int .i64 base, .int .i64 32, .int .u32 sum, .int .i64 0, .pointer (some ⟨xb, 0, none⟩), .map (some mb)] 130))
 have N5 := hide (heap_alloc_new w4 (.cells #[.pointer (some ⟨b, 0, none⟩), .string s, .int .i64 num, .int .i64 base, .int .u32 hs, .int .i64 base, .int .i64 32, .int .u32 sum, .int .i64 0, .pointer (some ⟨xb, 0, none⟩), .map (some mb)] 130))
 have K5 : Hid ((w4.alloc (.cells #[.pointer (some ⟨b, 0, none⟩), .string s, .int .i64 num, .int .i64 base, .int .u32 hs, .int .i64 base, .int .i64 32, .int .u32 sum, .int .i64 0, .pointer (some ⟨xb, 0, none⟩), .map (some mb)] 130)).heap[g6]? = some (.cells #[.int .i64 num, .int .i64 base, .int .u32 hs] 38 (0, 0))) := (B5.out.block _ (heap_lt K4.out)).trans K4.out
 refine wpAnyT_one (i := 10) (o := ⟨some 25, .box 130 (.tmp 24), _, _, _, _⟩) (by kernel_rfl) rfl (fun K hK => ?_)
 go_simp
 refine hK.out _ _ (fun _ => K5.out) ?_
 clear hK K
 (try simp only [zzp, zzb, zzc])
 refine wpAnyT_one (i := 11) (o := ⟨some 8, .assign (.tmp 25), _, _, _, _⟩) (by kernel_rfl) rfl (fun K hK => ?_)
 go_simp
 refine hK.out _ _ (vac (by kernel_rfl)) ?_
 clear hK K
 (try simp only [zzp, zzb, zzc])
 refine wpAnyT_done (by kernel_rfl) ?_ _
 go_wp2_with fail
 go_ret
 have bq := bs2 GQ.out (bs2 b4.out B5.out)
 have xa := (X3.out.below bq)
 refine ⟨_, xb, mb, _, rfl, ⟨N5.out, xa, M4.out.heap (B5.out.block _ M4.out.lt), ?_⟩, ?_, ?_⟩
 ·have z1 := X3.out.lt xb (.inl rfl)
  have z2 := GQ.out.size
  have z3 := M4.out.lt
  refine ⟨by omega, by omega, by omega, fun k hk => by simp [Value.ownBlock] at hk⟩
 ·exact bs2 B03.out bq
 ·have z1 := GQ.out.size
  have z2 := B03.out.size
  have z3 := b4.out.size
  have z4 := B1.out.size
  have z5 := lx.out
  exact ⟨by omega, by omega, by omega, fun k hk => by simp [Value.ownBlock] at hk⟩
end Go.Proofs.YtpflaglfnkmjiaaGreat.Sg
namespace Go.Proofs.YtpflaglfnkmjiaaGreat.Ix
open Go.RowKit
def cmpF (a b : Int) : Int := if a < b then -1 else if b < a then 1 else 0
theorem nan_any (w : World) (a : Int) : Calls Tryz.prog 202 #[.int .i64 a] w fun e w' => e = .returned (.bool false) ∧ w' = w := by
 go_enter Tryz.func202, Tryz.ntmps202
 go_wp2_with fail
 go_ret
 exact ⟨by simp, rfl⟩
theorem compare_any (w : World) (a b : Int) : Calls Tryz.prog 186 #[.int .i64 a, .int .i64 b] w fun e w' => e = .returned (.int .i64 (cmpF a b)) ∧ w' = w := by
 go_enter Tryz.func186, Tryz.ntmps186
 go_wp2_with fail
 refine (nan_any _ _).mono ?_
 rintro e w1 ⟨rfl, rfl⟩
 go_wp2_with fail
 refine (nan_any _ _).mono ?_
 rintro e w1 ⟨rfl, rfl⟩
 by_cases h1 : a < b
 ·have hc : Hid (cmpF a b = -1) := by show _ = _; rw [cmpF, if_pos h1]
  go_wp2_with fail
  go_ret
  exact ⟨by rw [hc.out]; rfl, rfl⟩
 ·by_cases h2 : b < a
  ·have hc : Hid (cmpF a b = 1) := by show _ = _; rw [cmpF, if_neg h1, if_pos h2]
   go_wp2_with fail
   go_ret
   exact ⟨by rw [hc.out]; rfl, rfl⟩
  ·have hc : Hid (cmpF a b = 0) := by show _ = _; rw [cmpF, if_neg h1, if_neg h2]
   go_wp2_with fail
   go_ret
   exact ⟨by rw [hc.out]; rfl, rfl⟩
theorem clo_any (w : World) (a o n : Int) : Calls Tryz.prog 185 #[.agg #[.int .i64 a, .int .i64 o], .int .i64 n] w fun e w' => e = .returned (.int .i64 (cmpF a n)) ∧ Below w.heap.size w w' := by
 have hB := hide (box_below w (.cells #[.int .i64 a, .int .i64 o] 147))
 go_enter Tryz.func185, Tryz.ntmps185
 go_wp2_with fail
 refine (compare_any _ _ _).mono ?_
 rintro e w1 ⟨rfl, rfl⟩
 go_wp2_with fail
 go_ret
 exact ⟨rfl, hB.out⟩
def isAt (l : List (Int × Int)) (n : Int) : Bool := match l[cnt l n]? with
 | some e => decide (e.1 = n)
 | none => false
theorem cmpF_neg (a b : Int) : (cmpF a b < 0) = (a < b) := by
 unfold cmpF
 by_cases h : a < b
 ·simp [h]
 ·by_cases h2 : b < a <;> simp [h, h2]
theorem cmpF_zero (a b : Int) : (cmpF a b = 0) = (a = b) := by
 unfold cmpF
 by_cases h : a < b
 ·simp [h]; omega
 ·by_cases h2 : b < a
  ·simp [h, h2]; omega
  ·simp [h, h2]; omega
theorem bsf_any (w : World) (v : Value) (st : Nat) (l : List (Int × Int)) (n : Int) (hv : Ents w v l) (hs : Srt st l) :
    Calls Tryz.prog 184 #[v, .int .i64 n, .func (.func 185) #[] #[]] w fun e w' =>
     e = .returned (.tuple #[.int .i64 (cnt l n : Int), .bool (isAt l n)]) ∧ Below w.heap.size w w' := by
 by_cases hl : l = []
 ·subst hl
  obtain ⟨ao, ca, rfl, q1, q2⟩ := hv.form
  have hR : Hid ((cnt [] n : Int) = 0 ∧ isAt [] n = false) := ⟨rfl, rfl⟩
  clear hv
  simp only [List.length_nil]
  go_enter Tryz.func184, Tryz.ntmps184
  go_wp2_with fail
  go_loopw [9, 10] (fun s9 s10 wr => s9 = .int .i64 0 ∧ s10 = .int .i64 0 ∧ wr = w) (fun _ _ _ => 0)
  case atStart => exact ⟨rfl, rfl, rfl⟩
  case round =>
   obtain ⟨rfl, rfl, rfl⟩ := hrel
   go_wp2_with fail
   go_ret2
   exact ⟨by rw [hR.out.1, hR.out.2]; rfl, Below.refl _ _⟩
 ·obtain ⟨g, ca, rfl, hc, q1, q2, _⟩ := hv.at hl
  have HC := hide hc
  have HS := hide (cnt_split hs n)
  have hcl := cnt_le l n
  have hlen := hs.len
  have hR : Hid (∀ (hk : cnt l n < l.length), isAt l n = decide (l[cnt l n].1 = n)) := fun hk => by
   unfold isAt; rw [List.getElem?_eq_getElem hk]
  have hR2 : Hid (l.length ≤ cnt l n → isAt l n = false) := fun hk => by
   unfold isAt; rw [List.getElem?_eq_none hk]
  have SRT := hide hs
  obtain ⟨C, hC⟩ : ∃ C, Hid (cnt l n = C) := ⟨_, rfl⟩
  obtain ⟨N, hN⟩ : ∃ N, Hid (l.length = N) := ⟨_, rfl⟩
  obtain ⟨iz, hiz⟩ : ∃ iz, Hid (isAt l n = iz) := ⟨_, rfl⟩
  rw [hC.out] at hcl
  rw [hN.out] at q1 hlen hcl
  rw [hC.out, hN.out, hiz.out]
  clear hc hv hs hl
  go_enter Tryz.func184, Tryz.ntmps184
  go_wp2_with fail
  go_loopg [9, 10] N (fun kx s9 s10 wr => ∃ lo hi : Nat, s9 = .int .i64 (lo : Int) ∧ s10 = .int .i64 (hi : Int) ∧ lo ≤ C ∧ C ≤ hi ∧ hi ≤ N ∧ hi - lo ≤ kx ∧ Hid (Below w.heap.size w wr))
  case atStart => exact ⟨0, N, rfl, rfl, Nat.zero_le _, hcl, Nat.le_refl _, by omega, Below.refl _ _⟩
  case round =>
   obtain ⟨lo, hi, rfl, rfl, h1, h2, h3, h4, hB⟩ := hrel
   by_cases hlt : lo < hi
   ·have hm : (lo + hi) / 2 < l.length := by rw [hN.out]; omega
    obtain ⟨k0, k1⟩ := HC.out _ hm
    have gB := hB.out.cell (lt_of_cell k0)
    have gB1 := hB.out.cell (lt_of_cell k1)
    rw [k0] at gB
    rw [k1] at gB1
    have hL : Hid ((lo + hi) / 2 < C → l[(lo + hi) / 2].1 < n) := fun h => HS.out.1 _ hm (by rw [hC.out]; exact h)
    have hG : Hid (C ≤ (lo + hi) / 2 → n ≤ l[(lo + hi) / 2].1) := fun h => HS.out.2 _ hm (by rw [hC.out]; exact h)
    generalize l[(lo + hi) / 2] = en at *
    obtain ⟨e1, e2⟩ := en
    simp only at gB gB1 hL hG
    obtain ⟨M, hM⟩ : ∃ M, M = (lo + hi) / 2 := ⟨_, rfl⟩
    rw [← hM] at gB gB1 hL hG hm
    have hMi : ((lo : Int) + (hi : Int)) / 2 = (M : Int) := by omega
    have hMN : M < N := by omega
    have hM1 : lo ≤ M ∧ M < hi := by omega
    replace hM := hide hM
    replace hm := hide hm
    clear k0 k1
    have hcn := hide (cmpF_neg e1 n)
    go_wp2_with fail
    refine (clo_any _ _ _ _).mono ?_
    rintro e w2 ⟨rfl, b2⟩
    have hB2 := hide (keepF hB.out b2)
    clear b2 gB gB1
    by_cases hlt2 : e1 < n
    ·have hMC : M < C := by
       refine Classical.byContradiction fun c => ?_
       have := hG.out (by omega)
       omega
     rw [show cmpF e1 n = -1 by rw [cmpF, if_pos hlt2]]
     go_wp2_with fail
     go_roundg (hi - (M + 1))
     case measure => omega
     case rel => exact ⟨M + 1, hi, rfl, rfl, by omega, h2, h3, Nat.le_refl _, hB2.out⟩
    ·have hMC : C ≤ M := by
       refine Classical.byContradiction fun c => ?_
       have := hL.out (by omega)
       omega
     have hz : ¬ cmpF e1 n < 0 := by rw [cmpF_neg]; exact hlt2
     generalize cmpF e1 n = z at *
     go_wp2_with fail
     go_roundg (M - lo)
     case measure => omega
     case rel => exact ⟨lo, M, rfl, rfl, h1, hMC, by omega, Nat.le_refl _, hB2.out⟩
   ·obtain rfl : lo = C := by omega
    obtain rfl : hi = lo := by omega
    clear HS
    by_cases hin : hi < N
    ·have hm : hi < l.length := by rw [hN.out]; exact hin
     obtain ⟨k0, k1⟩ := HC.out _ hm
     have gB := hB.out.cell (lt_of_cell k0)
     have gB1 := hB.out.cell (lt_of_cell k1)
     rw [k0] at gB
     rw [k1] at gB1
     have hQ : Hid (iz = decide (l[hi].1 = n)) := by
      show _ = _
      rw [← hiz.out, hR.out (by rw [hC.out]; exact hm)]
      simp only [hC.out]
     generalize l[hi] = en at *
     obtain ⟨e1, e2⟩ := en
     simp only at gB gB1 hQ
     replace hm := hide hm
     have hcz := hide (cmpF_zero e1 n)
     clear k0 k1
     go_wp2_with fail
     refine (clo_any _ _ _ _).mono ?_
     rintro e w2 ⟨rfl, b2⟩
     have hB2 := hide (keepF hB.out b2)
     clear b2 gB gB1
     have hfin : Hid (iz = decide (cmpF e1 n = 0)) := by show _ = _; rw [hQ.out]; simp only [hcz.out]
     generalize cmpF e1 n = z at *
     go_wp2_with fail
     go_ret2
     exact ⟨by rw [hfin.out]; first | rfl | simp, hB2.out⟩
    ·have hfin : Hid (iz = false) := by show _ = _; rw [← hiz.out]; exact hR2.out (by rw [hC.out, hN.out]; omega)
     go_wp2_with fail
     go_ret2
     exact ⟨by rw [hfin.out]; rfl, hB.out⟩
theorem below_any (w : World) (b : Nat) (x : X) (v : Value) (n : Int) (h : At TI w b x v) (hk : Ok x) :
    Calls Tryz.prog 142 #[.pointer (some ⟨b, 0, none⟩), .int .i64 n] w fun e w' => e = .returned (.tuple #[.int .i64 (cnt x.l n : Int), .bool (isAt x.l n)]) ∧ Below w.heap.size w w' := by
 obtain ⟨c0, c1, _, _⟩ := h.cells
 obtain ⟨ao, ca, rfl, _, _⟩ := h.row.form
 have H := hide h
 have HK := hide hk
 clear h hk
 generalize hL : x.l.length = N at *
 replace hL := hide hL
 go_enter Tryz.func142, Tryz.ntmps142
 go_wp2_with fail
 refine (bsf_any _ _ x.st x.l n H.out.row HK.out.srt).mono ?_
 rintro e w1 ⟨rfl, hb⟩
 replace hb := hide hb
 go_wp2_with fail
 go_ret2
 exact ⟨rfl, hb.out⟩
def entv (e : Int × Int) : Value := .agg #[.int .i64 e.1, .int .i64 e.2]
def DoesFind (T : TypeId) (f : Nat) : Prop := ∀ (w : World) (b : Nat) (x : X) (v : Value) (n : Int), At T w b x v → Ok x → -9223372036854775808 ≤ n → n ≤ 9223372036854775807 →
 Calls Tryz.prog f #[.pointer (some ⟨b, 0, none⟩), .int .i64 n] w fun e w' => e = .returned (.tuple #[entv (findF x.l n).1, .bool (findF x.l n).2]) ∧ Below w.heap.size w w'
theorem find_prog {st : Nat} {l : List (Int × Int)} (h : Srt st l) (n : Int) :
    (∀ hk : cnt l n < l.length, isAt l n = true → findF l n = (l[cnt l n], true)) ∧ (isAt l n = false → ∀ hk : 0 < cnt l n, findF l n = (l[cnt l n - 1]'(by have := cnt_le l n; omega), true)) ∧ (isAt l n = false → cnt l n = 0 → findF l n = ((0, 0), false)) ∧ (isAt l n = true → cnt l n < l.length) := by
 obtain ⟨h1, h2⟩ := cnt_split h n
 have hc := cnt_le l n
 have key : ∀ hk : cnt l n < l.length, isAt l n = decide (l[cnt l n].1 = n) := fun hk => by unfold isAt; rw [List.getElem?_eq_getElem hk]
 refine ⟨fun hk hi => ?_, fun hi hk => ?_, fun hi hk => ?_, fun hi => ?_⟩
 ·rw [key hk] at hi
  have hi' : l[cnt l n].1 = n := of_decide_eq_true hi
  refine find_at hk (by omega) fun j hj hij => ?_
  have := (h.lt hk hj hij).1
  omega
 ·refine find_at (by omega) (by have := h1 (cnt l n - 1) (by omega) (by omega); omega) fun j hj hij => ?_
  have g := h2 j hj (by omega)
  have hk2 : cnt l n < l.length := by omega
  rw [key hk2] at hi
  have hi' : ¬ l[cnt l n].1 = n := of_decide_eq_false hi
  have g2 := h2 (cnt l n) hk2 (Nat.le_refl _)
  have g3 := h.le hk2 hj (by omega)
  omega
 ·refine find_no fun j hj => ?_
  have hk2 : cnt l n < l.length := by omega
  rw [key hk2] at hi
  have hi' : ¬ l[cnt l n].1 = n := of_decide_eq_false hi
  have g2 := h2 (cnt l n) hk2 (Nat.le_refl _)
  have g3 := h.le hk2 hj (by omega)
  omega
 ·refine Classical.byContradiction fun c => ?_
  have : isAt l n = false := by unfold isAt; rw [List.getElem?_eq_none (by omega)]
  rw [this] at hi; cases hi
theorem find_any : DoesFind TI 71 := by
 intro w b x v n h hk n0 n1
 obtain ⟨ao, ca, rfl, _, _⟩ := h.row.form
 obtain ⟨P1, P2, P3, P4⟩ := find_prog hk.srt n
 have H1 := hide (h.below (box_below w (.cells #[.int .i64 0, .int .i64 0] 147)))
 have HK := hide hk
 have hcl := cnt_le x.l n
 have hlen := hk.srt.len
 replace P1 := hide P1
 replace P2 := hide P2
 replace P3 := hide P3
 replace P4 := hide P4
 clear h hk
 go_enter Tryz.func71, Tryz.ntmps71
 go_wp2_with fail
 refine (below_any _ b x _ n H1.out HK.out).mono ?_
 rintro e w2 ⟨rfl, b2⟩
 have hh := b2.block w.heap.size (by simp)
 rw [heap_alloc_new] at hh
 have hB : Hid (Below w.heap.size w w2) := keepF (box_below _ _) b2
 have H2 := hide (H1.out.below b2)
 obtain ⟨x0, x1, y0, y1⟩ := two_cells hh
 replace hh := hide hh
 clear b2
 obtain ⟨d0, d1, _, _⟩ := H2.out.cells
 have fin : ∀ (tm : Array Value) (F : (Int × Int) × Bool), Hid (findF x.l n = F) → tm[4]? = some (.pointer (some ⟨w.heap.size, 0, none⟩)) → tm[5]? = some (.bool F.2) →
     bodyPost Tryz.prog Tryz.f71 (fun e w' => e = .returned (.tuple #[entv (findF x.l n).1, .bool (findF x.l n).2]) ∧ Below w.heap.size w w') .ret ⟨tm, []⟩ (put2 w2 w.heap.size (.int .i64 F.1.1) (.int .i64 F.1.2)) := by
  intro tm F hF t4 t5
  obtain ⟨k0, k1, _, _⟩ := two_cells (put2_heap hh.out (.int .i64 F.1.1) (.int .i64 F.1.2))
  refine bodyPost_ret (by simp [results, Tryz.results71, go_sem, k0, k1, t4, t5]; rfl) rfl ?_
  rw [hF.out]
  exact ⟨rfl, put2_below hB.out (Nat.le_refl _) _ _⟩
 replace fin := hide fin
 by_cases hi : isAt x.l n = true
 ·have hlt := P4.out hi
  have hF := hide (P1.out hlt hi)
  obtain ⟨g, ca', ev, hc, q1, q2, _⟩ := H2.out.row.at (fun c => by rw [c] at hlt; simp at hlt)
  simp only [Value.slice.injEq] at ev
  obtain ⟨rfl, _, rfl⟩ := ev
  obtain ⟨k0, k1⟩ := hc _ hlt
  rw [hi]
  clear hc P1 P2 P3 P4 hi
  generalize x.l[cnt x.l n] = en at *
  generalize cnt x.l n = C at *
  generalize hN : x.l.length = N at *
  replace hN := hide hN
  go_wp2_with fail
  exact fin.out _ (en, true) hF.out (by simp) (by simp)
 ·have hi' : isAt x.l n = false := by simpa using hi
  rw [hi']
  by_cases hz : cnt x.l n = 0
  ·have hF := hide (P3.out hi' hz)
   rw [hz]
   clear P1 P2 P3 P4 hi hi'
   go_wp2_with fail
   exact fin.out _ ((0, 0), false) hF.out (by simp) (by simp)
  ·obtain ⟨M, hM⟩ : ∃ M, cnt x.l n = M + 1 := ⟨cnt x.l n - 1, by omega⟩
   have hlt : M < x.l.length := by omega
   have hF : Hid (findF x.l n = (x.l[M], true)) := by
    show _ = _
    rw [P2.out hi' (by omega)]
    simp only [hM, Nat.add_sub_cancel]
   obtain ⟨g, ca', ev, hc, q1, q2, _⟩ := H2.out.row.at (fun c => by rw [c] at hlt; simp at hlt)
   simp only [Value.slice.injEq] at ev
   obtain ⟨rfl, _, rfl⟩ := ev
   obtain ⟨k0, k1⟩ := hc _ hlt
   rw [hM]
   rw [hM] at hcl
   clear hc P1 P2 P3 P4 hi hi' hz hM
   generalize x.l[M] = en at *
   generalize hN : x.l.length = N at *
   replace hN := hide hN
   have hw2 : IntKind.i64.wrap (M : Int) = (M : Int) := by rw [IntKind.wrap_i64]; omega
   go_wp2_with fail
   exact fin.out _ (en, true) hF.out (by simp) (by simp)
end Go.Proofs.YtpflaglfnkmjiaaGreat.Ix
