/-
  The document's Merge. (gen_GrD.py)
-/
import Derived.Test.YtjkdhckhokkefaaN04
namespace Go.Proofs.Ytjkdhckhokkefaa.Gg
open Go.RowKit Rl
open Ix (wp_region_T wpAnyT wpAnyT_take wpAnyT_one wpAnyT_done vac)
set_option linter.unusedVariables false
set_option maxRecDepth 100000
/-- Of one that was told nothing both ends are 0. -/
def Nz (l : L) : Prop := Nn l ∧ (l.n = 0 → l.lo = 0 ∧ l.hi = 0)
theorem nz0 (l : List Nat) : Nz (g0 l).l := ⟨nn0 l, fun _ => ⟨rfl, rfl⟩⟩
theorem Nz.put {g : G} (h : Nz g.l) (hn : 0 ≤ g.l.n) (h1 : g.l.lo < 18446744073709551616) (x : Nat) : Nz (putF g x).l := by
  refine ⟨h.1.put h1 x, ?_⟩
  unfold putF
  split
  · exact h.2
  · intro e
    have : g.l.n + 1 = 0 := e
    omega
theorem Nz.merge {g o : G} (h : Nz g.l) (k : Nz o.l) (hn : 0 ≤ g.l.n) (kn : 0 ≤ o.l.n) (h1 : g.l.lo < 18446744073709551616) : Nz (mgF g o).l := by
  refine ⟨h.1.merge k.1 h1, fun e => ?_⟩
  have e' : g.l.n + o.l.n = 0 := e
  have hg : g.l.n = 0 := by omega
  have ho := k.2 (by omega)
  show (endsF g.l o.l).1 = 0 ∧ (endsF g.l o.l).2 = 0
  unfold endsF
  rw [if_pos hg]
  exact ho
/-- Three ways to merge. -/
theorem merge_A {a b : L} (ha : Nz a) (hb : Nz b) (h0 : b.n = 0) : mergeL a b = ⟨a.n, a.na + b.na, a.lo, a.hi, a.me⟩ := by
  unfold mergeL moB endsF
  rw [if_pos h0, h0, Int.add_zero, if_pos rfl]
  split
  · rename_i h1
    rw [(ha.2 h1).1, (ha.2 h1).2, (hb.2 h0).1, (hb.2 h0).2]
  · rfl
theorem merge_B {a b : L} (h0 : b.n ≠ 0) (h1 : a.n = 0) : mergeL a b = ⟨b.n, a.na + b.na, b.lo, b.hi, b.me⟩ := by
  unfold mergeL moB endsF
  rw [if_pos h1, if_pos h1, if_neg h0, h1, Int.zero_add]
theorem merge_C {a b : L} (ha : Nz a) (hb : Nz b) (hlo : a.lo < 18446744073709551616) (h0 : b.n ≠ 0) (h1 : a.n ≠ 0) : mergeL a b = ⟨a.n + b.n, a.na + b.na, if cmpB b.lo a.lo < 0 then b.lo else a.lo, if 0 < cmpB b.hi a.hi then b.hi else a.hi, addB a.me (mulB (subB b.me a.me) (divB (nfB b.n) (nfB (a.n + b.n))))⟩ := by
  unfold mergeL moB endsF
  rw [if_neg h0, if_neg h1, if_neg h1, if_neg h0, min_num hlo ha.1.1, max_num ha.1.2 hb.1.2]
theorem run_dupI {w : World} {v : Value} {l : List Int} (hv : Row w v (ivals l)) (hl : l.length ≤ 1000000) (ty : TypeId) : ∃ v' w', (Builtin.append_ #[41, 41] ty #[.slice none 0 0, v]).run Try.prog w = .ok v' w' ∧ Iw w.heap.size w' v' l ∧ Below w.heap.size w w' := by
  obtain ⟨i0, hi, hz0, hz1, hz2⟩ := info_parts infoI64
  have hv0 := hv
  obtain ⟨ao, ca, rfl, h1, h2, h3, _⟩ := hv0
  have hfl : (ivals l).length = l.length := by simp [ivals]
  rw [hfl] at hv ⊢
  cases ao with
  | none =>
    obtain ⟨e0, rfl⟩ := h1 rfl
    have e1 : l = [] := by simpa [ivals] using e0
    subst e1
    exact ⟨.slice none 0 0, w, run_append_owned_none (P := Try.prog) (w := w) w.heap.size 41 ty 2 i0 1 Try.underlying41 hi (.slice none 0 0) 0 [] (World.ownsRow_nil _ _ _ _), World.ownsRow_nil _ _ _ _, Below.refl _ _⟩
  | some ad =>
    obtain ⟨v', w', hr, ho, hg, _, hat⟩ := run_append_own_at (P := Try.prog) w w.heap.size 41 ty 2 i0 (.int .i64 0) 1 8 Try.underlying41 hi hz0 hz1 hz2 rfl (by decide) (.slice none 0 0) 0 [] (World.ownsRow_nil _ _ _ _) ad l.length ca (ivals l) (by rw [hfl, Nat.mul_one]) (row_news hv) (ivals_one l) (by unfold maxLen; omega) (by omega) (Nat.le_refl _)
    rw [List.nil_append, Nat.zero_add] at ho
    exact ⟨v', w', hr, ho, Below.grown (Below.refl _ _) hg (Nat.le_refl _) (fun k hk => by simp [Value.ownBlock] at hk)⟩
/-- Between the rounds: how far the cells have been added; the copies. -/
structure Mr (w wr : World) (b : Nat) (g : G) (vb : Value) (cb K ca xb : Nat) (cs2 : List Int) (pb : Nat) (l2 : L) (i : Nat) : Prop where
  at_ : At 66 wr b ⟨g.bs, mixL g.cs cs2 i, g.l⟩ vb (.slice (some ⟨cb, 0, none⟩) K ca)
  cp : ∀ j, j < K → wr.cell? ⟨xb, j, none⟩ = some (.int .i64 (cs2.getD j 0))
  lx : Lx wr pb l2
  but : But (Tur b (.slice (some ⟨cb, 0, none⟩) K ca)) w wr
  h1 : cb ≠ xb
  h2 : cb ≠ pb
  h3 : b ≠ pb
theorem Mr.drew {w wr : World} {b : Nat} {g : G} {vb : Value} {cb K ca xb : Nat} {cs2 : List Int} {pb : Nat} {l2 : L} {i : Nat} (h : Mr w wr b g vb cb K ca xb cs2 pb l2 i) : Mr w wr.drew b g vb cb K ca xb cs2 pb l2 i :=
  ⟨h.at_.below (Below.refl _ _).drew, h.cp, h.lx, h.but.trans (But.of_below (Below.refl _ _).drew _), h.h1, h.h2, h.h3⟩
theorem Mr.step {w wr : World} {b : Nat} {g : G} {vb : Value} {cb K ca xb : Nat} {cs2 : List Int} {pb : Nat} {l2 : L} {i : Nat} (h : Mr w wr b g vb cb K ca xb cs2 pb l2 i) (hg : g.cs.length = K) (ho : cs2.length = K) (hi : i < K) : Mr w (wr.setCell ⟨cb, i, none⟩ (.int .i64 (g.cs.getD i 0 + cs2.getD i 0))) b g vb cb K ca xb cs2 pb l2 (i + 1) := by
  have h1 := h.at_.cset (by decide) i (g.cs.getD i 0 + cs2.getD i 0)
  simp only at h1
  rw [mix_step g.cs cs2 (by omega) i (by omega)] at h1
  refine ⟨h1, fun j hj => ?_, h.lx.away _ (Ne.symm h.h2), h.but.trans (but_cell _ _ _ _ (.inr rfl)), h.h1, h.h2, h.h3⟩
  rw [World.cell?_of_block (w := wr) (set_block wr cb i xb _ (Ne.symm h.h1))]
  exact h.cp j hj
/-- What stands while what is told is merged. -/
structure Mt (w q : World) (b : Nat) (g : G) (vb vc : Value) (pb : Nat) (l2 : L) : Prop where
  at_ : At 66 q b g vb vc
  lx : Lx q pb l2
  but : But (Tur b vc) w q
  ne : b ≠ pb
theorem Mt.below {w q q' : World} {b : Nat} {g : G} {vb vc : Value} {pb : Nat} {l2 : L} (h : Mt w q b g vb vc pb l2) (hb : Below q.heap.size q q') : Mt w q' b g vb vc pb l2 := ⟨h.at_.below hb, h.lx.below hb, h.but.trans (But.of_below hb _), h.ne⟩
theorem Mt.s2 {w q : World} {b : Nat} {g : G} {vb vc : Value} {pb : Nat} {l2 : L} (h : Mt w q b g vb vc pb l2) (x : Int) : Mt w (q.setCell ⟨b, 2, none⟩ (.int .i64 x)) b ⟨g.bs, g.cs, ⟨x, g.l.na, g.l.lo, g.l.hi, g.l.me⟩⟩ vb vc pb l2 := ⟨h.at_.set2 (by decide) (by decide) x, h.lx.away _ (Ne.symm h.ne), h.but.trans (but_cell _ _ _ _ (.inl rfl)), h.ne⟩
theorem Mt.s3 {w q : World} {b : Nat} {g : G} {vb vc : Value} {pb : Nat} {l2 : L} (h : Mt w q b g vb vc pb l2) (x : Int) : Mt w (q.setCell ⟨b, 3, none⟩ (.int .i64 x)) b ⟨g.bs, g.cs, ⟨g.l.n, x, g.l.lo, g.l.hi, g.l.me⟩⟩ vb vc pb l2 := ⟨h.at_.set3 (by decide) (by decide) x, h.lx.away _ (Ne.symm h.ne), h.but.trans (but_cell _ _ _ _ (.inl rfl)), h.ne⟩
theorem Mt.s4 {w q : World} {b : Nat} {g : G} {vb vc : Value} {pb : Nat} {l2 : L} (h : Mt w q b g vb vc pb l2) (x : Nat) : Mt w (q.setCell ⟨b, 4, none⟩ (.float .f64 x)) b ⟨g.bs, g.cs, ⟨g.l.n, g.l.na, x, g.l.hi, g.l.me⟩⟩ vb vc pb l2 := ⟨h.at_.set4 (by decide) (by decide) x, h.lx.away _ (Ne.symm h.ne), h.but.trans (but_cell _ _ _ _ (.inl rfl)), h.ne⟩
theorem Mt.s5 {w q : World} {b : Nat} {g : G} {vb vc : Value} {pb : Nat} {l2 : L} (h : Mt w q b g vb vc pb l2) (x : Nat) : Mt w (q.setCell ⟨b, 5, none⟩ (.float .f64 x)) b ⟨g.bs, g.cs, ⟨g.l.n, g.l.na, g.l.lo, x, g.l.me⟩⟩ vb vc pb l2 := ⟨h.at_.set5 (by decide) (by decide) x, h.lx.away _ (Ne.symm h.ne), h.but.trans (but_cell _ _ _ _ (.inl rfl)), h.ne⟩
theorem Mt.s6 {w q : World} {b : Nat} {g : G} {vb vc : Value} {pb : Nat} {l2 : L} (h : Mt w q b g vb vc pb l2) (x : Nat) : Mt w (q.setCell ⟨b, 6, none⟩ (.float .f64 x)) b ⟨g.bs, g.cs, ⟨g.l.n, g.l.na, g.l.lo, g.l.hi, x⟩⟩ vb vc pb l2 := ⟨h.at_.set6 (by decide) (by decide) x, h.lx.away _ (Ne.symm h.ne), h.but.trans (but_cell _ _ _ _ (.inl rfl)), h.ne⟩
theorem _root_.Go.Proofs.Ytjkdhckhokkefaa.But.trans' {X Y : Nat → Prop} {A B C : World} (h : But X A B) (k : But Y B C) (hY : ∀ i, Y i → A.heap.size ≤ i) : But X A C :=
  ⟨k.os.trans h.os, k.tape.trans h.tape, k.output.trans h.output, Nat.le_trans h.size k.size, fun i hi hx => (k.block i (Nat.lt_of_lt_of_le hi h.size) (fun hy => by have := hY i hy; omega)).trans (h.block i hi hx)⟩
theorem wpList_append_runI {w : World} {ops : Array Oper} {rest : List Oper} {o : Oper} {a : Act} {Q : Exit → Act → World → Prop} (hgd : o.guard = none) (s x : Operand) {vs vx v' : Value} {w' : World}
    (ho : o.op = .call { callee := .builtin .append, args := #[s, x], argTypes := #[41, 41] }) (hs : a.eval s = vs) (hx : a.eval x = vx)
    (hr : (Builtin.append_ #[41, 41] o.type #[vs, vx]).run Try.prog w = .ok v' w') (h : wpList Try.prog ops Q rest (a.put o.dst v') w') : wpList Try.prog ops Q (o :: rest) a w := by
  refine wpList_plain hgd fun K hK => ?_
  exact Lib.wp_append_run _ s x 41 41 ho vs vx hs hx v' w' hr (hK _ _ h)
set_option maxHeartbeats 4000000 in
theorem rmerge_any (w : World) (b : Nat) (g : G) (vb vc : Value) (b2 : Nat) (o : G) (vb2 vc2 : Value) (M : Int) (h : At 66 w b g vb vc) (h2 : At 66 w b2 o vb2 vc2) (ok : Ok M g) (ok2 : Ok M o) (nz : Nz g.l) (nz2 : Nz o.l) (hM : M ≤ 1000000000) :
    Calls Try.prog 16 #[.pointer (some ⟨b, 0, none⟩), .pointer (some ⟨b2, 0, none⟩)] w fun e w' => (sameL g.bs o.bs ∧ e = .returned (.int .i64 0) ∧ At 66 w' b (mgF g o) vb vc ∧ But (Tur b vc) w w') ∨ (¬ sameL g.bs o.bs ∧ e = .returned (.int .i64 1) ∧ Below w.heap.size w w') := by
  have hcl : 0 < g.cs.length := by rw [ok.cl]; omega
  have hcl2 : 0 < o.cs.length := by rw [ok2.cl]; omega
  have HA := hide h
  have HA2 := hide h2
  obtain ⟨c0, c1, c2, c3, c4, c5, c6⟩ := h.cells
  obtain ⟨d0, d1, d2, d3, d4, d5, d6⟩ := h2.cells
  obtain ⟨xo, xc, rfl, xq, hxr⟩ := Fw.reads h.rb
  obtain ⟨zo, zc, rfl, zq, hzr⟩ := Fw.reads h2.rb
  have HXR := hide hxr
  have HZR := hide hzr
  have HB := hide (fun j (hj : j < g.bs.length) => ok.bs _ (getD_mem hj))
  have HB2 := hide (fun j (hj : j < o.bs.length) => ok2.bs _ (getD_mem hj))
  clear hxr hzr
  by_cases hlm : g.bs.length = o.bs.length
  · have HS : Hid (∀ P : Prop, (P ↔ ∀ i, i < g.bs.length → keyB (g.bs.getD i 0) = keyB (o.bs.getD i 0)) → (P ↔ sameL g.bs o.bs)) := hide fun P hP => by rw [hP]; unfold sameL; exact ⟨fun h => ⟨hlm, h⟩, fun h => h.2⟩
    have hlen := ok.len
    have HOK := hide ok
    have HOK2 := hide ok2
    have HNZ := hide nz
    have HNZ2 := hide nz2
    have HLM := hide hlm
    rw [← hlm] at HZR HB2 d0 HA2
    obtain ⟨N, hN⟩ : ∃ N, Hid (g.bs.length = N) := ⟨_, rfl⟩
    rw [hN.out] at HXR HZR HB HB2 HS hlen c0 d0 HA HA2
    rw [hN.out]
    obtain ⟨cb, ca, rfl, p1, p2⟩ := Iw.form h.rc hcl
    obtain ⟨ob, ca2, rfl, r1, r2⟩ := Iw.form h2.rc hcl2
    have hoK : o.cs.length = g.cs.length := by rw [ok.cl, ok2.cl, hlm]
    have hK64 : g.cs.length ≤ 65 := by rw [ok.cl]; have := ok.len; omega
    rw [hoK] at d1 r2 HA2
    obtain ⟨K, hK⟩ : ∃ K, Hid (g.cs.length = K) := ⟨_, rfl⟩
    rw [hK.out] at d1 r2 HA2 c1 p2 HA hK64 hoK hcl ⊢
    clear h h2 ok ok2 nz nz2
    go_enter Try.func16, Try.ntmps16
    go_upto_region 1 with fail
    go_quiet (fail)
    have BW : Hid (Below w.heap.size w (w.drewN nq)) := below_drewN (Below.refl _ _) nq
    clear c0 c1 c2 c3 c4 c5 c6 d0 d1 d2 d3 d4 d5 d6
    generalize w.drewN nq = w0 at *
    go_wp2_with fail
    go_loopw [5] (fun v5 wr => ∃ i : Nat, i ≤ N ∧ v5 = .int .i64 (i : Int) ∧ Hid (∀ j, j < i → keyB (g.bs.getD j 0) = keyB (o.bs.getD j 0)) ∧ Hid (Below w.heap.size w wr)) (fun v _ => N - (intOf v).toNat)
    case atStart => exact ⟨0, by omega, rfl, fun j hj => by omega, BW.out⟩
    case round =>
      clear BW
      obtain ⟨i, hi, rfl, hf, hBe⟩ := hrel
      have A1 := HA.out.below hBe.out
      have A2 := HA2.out.below hBe.out
      obtain ⟨c0, c1, c2, c3, c4, c5, c6⟩ := A1.cells
      obtain ⟨d0, d1, d2, d3, d4, d5, d6⟩ := A2.cells
      replace A1 := hide A1
      replace A2 := hide A2
      by_cases hin : i = N
      · subst hin
        have SAME : Hid (sameL g.bs o.bs) := hide ((HS.out _ Iff.rfl).1 hf.out)
        have FBX := hide (box_below wr (.cells #[.int .i64 o.l.n, .int .i64 o.l.na, .float .f64 o.l.lo, .float .f64 o.l.hi, .float .f64 o.l.me] 44))
        have FX : Hid (Lx (wr.alloc (.cells #[.int .i64 o.l.n, .int .i64 o.l.na, .float .f64 o.l.lo, .float .f64 o.l.hi, .float .f64 o.l.me] 44)) wr.heap.size o.l) := hide (Lx.new wr o.l)
        have sf : ∀ (W : World) (a : Addr) (x : Nat), (store a (.float .f64 x)).run Try.prog W = stored Try.prog W a (.float .f64 x) .plain := fun W a x => run_store _ W a _ _ rfl
        have hcbw : Hid (cb < w.heap.size ∧ b < w.heap.size) := hide ⟨HA.out.lt cb (.inr (.inr rfl)), HA.out.lt b (.inl rfl)⟩
        have hszr : Hid (w.heap.size ≤ wr.heap.size) := hide hBe.out.size
        go_upto_region 9 with fail
        replace A1 := hide (A1.out.below FBX.out)
        replace A2 := hide (A2.out.below FBX.out)
        replace hBe := hide (keepF hBe.out FBX.out)
        have hpx : Hid (wr.heap.size < (wr.alloc (.cells #[.int .i64 o.l.n, .int .i64 o.l.na, .float .f64 o.l.lo, .float .f64 o.l.hi, .float .f64 o.l.me] 44)).heap.size) := hide (heap_lt FX.out)
        clear FBX c0 c1 c2 c3 c4 c5 c6 d0 d1 d2 d3 d4 d5 d6
        generalize wr.alloc (.cells #[.int .i64 o.l.n, .int .i64 o.l.na, .float .f64 o.l.lo, .float .f64 o.l.hi, .float .f64 o.l.me] 44) = w1 at *
        obtain ⟨pb, hpb⟩ : ∃ pb, Hid (wr.heap.size = pb) := ⟨_, rfl⟩
        rw [hpb.out] at FX hpx hszr ⊢
        obtain ⟨d0, d1, d2, d3, d4, d5, d6⟩ := A2.out.cells
        obtain ⟨v9, w2, hr9, i9, b9⟩ := run_dupI (Row.of_owns A2.out.rc) (by rw [hoK]; omega) 41
        have hr9' := hide hr9
        clear hr9
        obtain ⟨xb, xca, xcur, rfl, x1, x2, x3, x4, x5⟩ := Iw.at i9 hcl2
        have hxb : Hid (w1.heap.size ≤ xb) := hide ((World.ownsRow.lt i9 xb rfl).1)
        have hne1 : cb ≠ xb := by have a := hcbw.out; have c := hBe.out.size; have e := hxb.out; omega
        have hne2 : cb ≠ pb := by have a := hcbw.out; have e := hszr.out; omega
        have hne3 : b ≠ pb := by have a := hcbw.out; have e := hszr.out; omega
        have G0 : Hid (Mr w w2 b g (.slice xo i xc) cb K ca xb o.cs pb o.l 0) := hide ⟨by rw [mix_zero]; exact A1.out.below b9, fun j hj => x5 j (by rw [hoK]; exact hj), FX.out.below b9, But.of_below (keepF hBe.out b9) _, hne1, hne2, hne3⟩
        rw [hoK] at x2 hr9'
        clear i9 b9 x3 x4 x5 A1 A2 FX hne1 hne2 hne3
        go_wp2_with (at_builtin; refine wpList_append_runI rfl (.const (.slice none 0 0)) (.tmp 55) rfl rfl rfl hr9'.out ?_)
        clear hr9' d0 d1 d2 d3 d4 d5 d6
        go_loopw [8] (fun v8 wr => ∃ j : Nat, j ≤ K ∧ v8 = .int .i64 (j : Int) ∧ Hid (Mr w wr b g (.slice xo i xc) cb K ca xb o.cs pb o.l j)) (fun v _ => K - (intOf v).toNat)
        case atStart => exact ⟨0, by omega, rfl, G0.out⟩
        case round =>
          clear G0
          obtain ⟨j, hj, rfl, hG⟩ := hrel
          by_cases hjn : j = K
          · have hjn' := hide hjn
            subst hjn
            have MT0 : Hid (Mt w wr b (⟨g.bs, mixL g.cs o.cs j, g.l⟩ : G) (.slice xo i xc) (.slice (some ⟨cb, 0, none⟩) j ca) pb o.l) := hide ⟨hG.out.at_, hG.out.lx, hG.out.but, hG.out.h3⟩
            have hng := HOK.out.na
            have hno := HOK2.out.na
            have hcg := HOK.out.n
            have hco := HOK2.out.n
            have kna : IntKind.i64.wrap (g.l.na + o.l.na) = g.l.na + o.l.na := by simp [IntKind.wrap, IntKind.bits, IntKind.signed]; omega
            have kn : IntKind.i64.wrap (g.l.n + o.l.n) = g.l.n + o.l.n := by simp [IntKind.wrap, IntKind.bits, IntKind.signed]; omega
            have MIX : Hid (mixL g.cs o.cs j = addL g.cs o.cs) := hide (by rw [← hK.out]; exact mix_end _ _ (by rw [hK.out, hoK]))
            clear hG
            go_upto_region 14 with fail
            have KP : Hid (Mt w wr.drew b (⟨g.bs, mixL g.cs o.cs j, g.l⟩ : G) (.slice xo i xc) (.slice (some ⟨cb, 0, none⟩) j ca) pb o.l) := MT0.out.below (Below.refl _ _).drew
            clear MT0
            refine wp_region_T (fun q => At 66 q b (⟨g.bs, mixL g.cs o.cs j, g.l⟩ : G) (.slice xo i xc) (.slice (some ⟨cb, 0, none⟩) j ca) ∧ Lx q pb o.l) 12 (by kernel_rfl) ?_
            generalize wr.drew = q at *
            refine wpAnyT_take (i := 0) (oi := { dst := some 81, op := Op.move (Operand.tmp 0), type := 31, pos := "ref.go:93", after := #[], guard := none }) (v := .pointer (some ⟨b, 0, none⟩)) [9, 10, 11, 12] rfl (by kernel_rfl) (by kernel_rfl) (by kernel_rfl) (by kernel_rfl) (fun _ _ _ h => h) (Or.inl ⟨by rfl, ?_⟩) ⟨KP.out.at_, KP.out.lx⟩ ?_
            · intro wq hSw
              obtain ⟨y0, y1, y2, y3, y4, y5, y6⟩ := hSw.1.cells
              obtain ⟨z0, z1, z2, z3, z4⟩ := hSw.2.cells
              simp only at y2 y3 y4 y5 y6
              go_simp
            (try simp only [Act.put, List.setIfInBounds_toArray, List.set_cons_zero, List.set_cons_succ])
            refine wpAnyT_take (i := 1) (oi := { dst := some 82, op := Op.move (Operand.tmp 0), type := 31, pos := "ref.go:93", after := #[], guard := none }) (v := .pointer (some ⟨b, 0, none⟩)) [2, 3, 4, 5, 8, 12] rfl (by kernel_rfl) (by kernel_rfl) (by kernel_rfl) (by kernel_rfl) (fun _ _ _ h => h) (Or.inl ⟨by rfl, ?_⟩) ⟨KP.out.at_, KP.out.lx⟩ ?_
            · intro wq hSw
              obtain ⟨y0, y1, y2, y3, y4, y5, y6⟩ := hSw.1.cells
              obtain ⟨z0, z1, z2, z3, z4⟩ := hSw.2.cells
              simp only at y2 y3 y4 y5 y6
              go_simp
            (try simp only [Act.put, List.setIfInBounds_toArray, List.set_cons_zero, List.set_cons_succ])
            refine wpAnyT_take (i := 2) (oi := { dst := some 83, op := Op.nilCheck (Operand.tmp 82), type := 0, pos := "ref.go:93", after := #[{ on := 1, ground := Ground.data }], guard := none }) (v := .pointer (some ⟨b, 0, none⟩)) [3, 4, 5, 8, 12] rfl (by kernel_rfl) (by kernel_rfl) (by kernel_rfl) (by kernel_rfl) (fun _ _ _ h => h) (Or.inl ⟨by rfl, ?_⟩) ⟨KP.out.at_, KP.out.lx⟩ ?_
            · intro wq hSw
              obtain ⟨y0, y1, y2, y3, y4, y5, y6⟩ := hSw.1.cells
              obtain ⟨z0, z1, z2, z3, z4⟩ := hSw.2.cells
              simp only at y2 y3 y4 y5 y6
              go_simp
            (try simp only [Act.put, List.setIfInBounds_toArray, List.set_cons_zero, List.set_cons_succ])
            refine wpAnyT_take (i := 3) (oi := { dst := some 84, op := Op.fieldAddr 66 (Operand.tmp 83) 2, type := 0, pos := "ref.go:93", after := #[{ on := 2, ground := Ground.data }], guard := none }) (v := .pointer (some ⟨b, 2, none⟩)) [4, 5, 8, 12] rfl (by kernel_rfl) (by kernel_rfl) (by kernel_rfl) (by kernel_rfl) (fun _ _ _ h => h) (Or.inl ⟨by rfl, ?_⟩) ⟨KP.out.at_, KP.out.lx⟩ ?_
            · intro wq hSw
              obtain ⟨y0, y1, y2, y3, y4, y5, y6⟩ := hSw.1.cells
              obtain ⟨z0, z1, z2, z3, z4⟩ := hSw.2.cells
              simp only at y2 y3 y4 y5 y6
              go_simp
            (try simp only [Act.put, List.setIfInBounds_toArray, List.set_cons_zero, List.set_cons_succ])
            refine wpAnyT_take (i := 4) (oi := { dst := some 85, op := Op.fieldAddr 44 (Operand.tmp 84) 1, type := 0, pos := "ref.go:93", after := #[{ on := 3, ground := Ground.data }], guard := none }) (v := .pointer (some ⟨b, 3, none⟩)) [5, 8, 12] rfl (by kernel_rfl) (by kernel_rfl) (by kernel_rfl) (by kernel_rfl) (fun _ _ _ h => h) (Or.inl ⟨by rfl, ?_⟩) ⟨KP.out.at_, KP.out.lx⟩ ?_
            · intro wq hSw
              obtain ⟨y0, y1, y2, y3, y4, y5, y6⟩ := hSw.1.cells
              obtain ⟨z0, z1, z2, z3, z4⟩ := hSw.2.cells
              simp only at y2 y3 y4 y5 y6
              go_simp
            (try simp only [Act.put, List.setIfInBounds_toArray, List.set_cons_zero, List.set_cons_succ])
            refine wpAnyT_take (i := 5) (oi := { dst := some 86, op := Op.load 2 (Operand.tmp 85), type := 2, pos := "ref.go:93", after := #[{ on := 4, ground := Ground.data }], guard := none }) (v := .int .i64 g.l.na) [8, 12] rfl (by kernel_rfl) (by kernel_rfl) (by kernel_rfl) (by kernel_rfl) (fun _ _ _ h => h) (Or.inl ⟨by rfl, ?_⟩) ⟨KP.out.at_, KP.out.lx⟩ ?_
            · intro wq hSw
              obtain ⟨y0, y1, y2, y3, y4, y5, y6⟩ := hSw.1.cells
              obtain ⟨z0, z1, z2, z3, z4⟩ := hSw.2.cells
              simp only at y2 y3 y4 y5 y6
              go_simp
            (try simp only [Act.put, List.setIfInBounds_toArray, List.set_cons_zero, List.set_cons_succ])
            refine wpAnyT_take (i := 6) (oi := { dst := some 87, op := Op.fieldAddr 44 (Operand.tmp 6) 1, type := 0, pos := "ref.go:93", after := #[], guard := none }) (v := .pointer (some ⟨pb, 1, none⟩)) [7, 8, 12] rfl (by kernel_rfl) (by kernel_rfl) (by kernel_rfl) (by kernel_rfl) (fun _ _ _ h => h) (Or.inl ⟨by rfl, ?_⟩) ⟨KP.out.at_, KP.out.lx⟩ ?_
            · intro wq hSw
              obtain ⟨y0, y1, y2, y3, y4, y5, y6⟩ := hSw.1.cells
              obtain ⟨z0, z1, z2, z3, z4⟩ := hSw.2.cells
              simp only at y2 y3 y4 y5 y6
              go_simp
            (try simp only [Act.put, List.setIfInBounds_toArray, List.set_cons_zero, List.set_cons_succ])
            refine wpAnyT_take (i := 7) (oi := { dst := some 88, op := Op.load 2 (Operand.tmp 87), type := 2, pos := "ref.go:93", after := #[{ on := 6, ground := Ground.data }], guard := none }) (v := .int .i64 o.l.na) [8, 12] rfl (by kernel_rfl) (by kernel_rfl) (by kernel_rfl) (by kernel_rfl) (fun _ _ _ h => h) (Or.inl ⟨by rfl, ?_⟩) ⟨KP.out.at_, KP.out.lx⟩ ?_
            · intro wq hSw
              obtain ⟨y0, y1, y2, y3, y4, y5, y6⟩ := hSw.1.cells
              obtain ⟨z0, z1, z2, z3, z4⟩ := hSw.2.cells
              simp only at y2 y3 y4 y5 y6
              go_simp
            (try simp only [Act.put, List.setIfInBounds_toArray, List.set_cons_zero, List.set_cons_succ])
            refine wpAnyT_take (i := 8) (oi := { dst := some 89, op := Op.binOp BinOp.add 2 (Operand.tmp 86) (Operand.tmp 88) 2, type := 2, pos := "ref.go:93", after := #[{ on := 5, ground := Ground.data }, { on := 7, ground := Ground.data }], guard := none }) (v := .int .i64 (g.l.na + o.l.na)) [12] rfl (by kernel_rfl) (by kernel_rfl) (by kernel_rfl) (by kernel_rfl) (fun _ _ _ h => h) (Or.inl ⟨by rfl, ?_⟩) ⟨KP.out.at_, KP.out.lx⟩ ?_
            · intro wq hSw
              obtain ⟨y0, y1, y2, y3, y4, y5, y6⟩ := hSw.1.cells
              obtain ⟨z0, z1, z2, z3, z4⟩ := hSw.2.cells
              simp only at y2 y3 y4 y5 y6
              go_simp
            (try simp only [Act.put, List.setIfInBounds_toArray, List.set_cons_zero, List.set_cons_succ])
            refine wpAnyT_one (i := 9) (o := { dst := some 90, op := Op.nilCheck (Operand.tmp 81), type := 0, pos := "ref.go:93", after := #[{ on := 0, ground := Ground.data }, { on := 0, ground := Ground.phase }, { on := 1, ground := Ground.phase }, { on := 2, ground := Ground.phase }, { on := 3, ground := Ground.phase }, { on := 4, ground := Ground.phase }, { on := 5, ground := Ground.phase }, { on := 6, ground := Ground.phase }, { on := 7, ground := Ground.phase }, { on := 8, ground := Ground.phase }], guard := none }) (by kernel_rfl) rfl (fun K9 hK9 => ?_)
            go_simp
            refine hK9.out _ _ (fun _ => ⟨KP.out.at_, KP.out.lx⟩) ?_
            clear hK9 K9
            (try simp only [Act.put, List.setIfInBounds_toArray, List.set_cons_zero, List.set_cons_succ])
            refine wpAnyT_one (i := 10) (o := { dst := some 91, op := Op.fieldAddr 66 (Operand.tmp 90) 2, type := 0, pos := "ref.go:93", after := #[{ on := 9, ground := Ground.data }, { on := 0, ground := Ground.phase }, { on := 1, ground := Ground.phase }, { on := 2, ground := Ground.phase }, { on := 3, ground := Ground.phase }, { on := 4, ground := Ground.phase }, { on := 5, ground := Ground.phase }, { on := 6, ground := Ground.phase }, { on := 7, ground := Ground.phase }, { on := 8, ground := Ground.phase }], guard := none }) (by kernel_rfl) rfl (fun K9 hK9 => ?_)
            go_simp
            refine hK9.out _ _ (fun _ => ⟨KP.out.at_, KP.out.lx⟩) ?_
            clear hK9 K9
            (try simp only [Act.put, List.setIfInBounds_toArray, List.set_cons_zero, List.set_cons_succ])
            refine wpAnyT_one (i := 11) (o := { dst := some 92, op := Op.fieldAddr 44 (Operand.tmp 91) 1, type := 0, pos := "ref.go:93", after := #[{ on := 10, ground := Ground.data }, { on := 0, ground := Ground.phase }, { on := 1, ground := Ground.phase }, { on := 2, ground := Ground.phase }, { on := 3, ground := Ground.phase }, { on := 4, ground := Ground.phase }, { on := 5, ground := Ground.phase }, { on := 6, ground := Ground.phase }, { on := 7, ground := Ground.phase }, { on := 8, ground := Ground.phase }], guard := none }) (by kernel_rfl) rfl (fun K9 hK9 => ?_)
            go_simp
            refine hK9.out _ _ (fun _ => ⟨KP.out.at_, KP.out.lx⟩) ?_
            clear hK9 K9
            (try simp only [Act.put, List.setIfInBounds_toArray, List.set_cons_zero, List.set_cons_succ])
            obtain ⟨y0, y1, y2, y3, y4, y5, y6⟩ := KP.out.at_.cells
            simp only at y2 y3 y4 y5 y6
            have f3 := KP.out.at_.frozen 3
            have MT := hide (KP.out.s3 (g.l.na + o.l.na))
            simp only at MT
            refine wpAnyT_one (i := 12) (o := { dst := none, op := Op.store 2 (Operand.tmp 92) (Operand.tmp 89), type := 0, pos := "ref.go:93", after := #[{ on := 11, ground := Ground.data }, { on := 8, ground := Ground.data }, { on := 0, ground := Ground.phase }, { on := 1, ground := Ground.phase }, { on := 2, ground := Ground.phase }, { on := 3, ground := Ground.phase }, { on := 4, ground := Ground.phase }, { on := 5, ground := Ground.phase }, { on := 6, ground := Ground.phase }, { on := 7, ground := Ground.phase }, { on := 8, ground := Ground.phase }], guard := none }) (by kernel_rfl) rfl (fun K9 hK9 => ?_)
            go_simp
            refine hK9.out _ _ (vac (by kernel_rfl)) ?_
            clear hK9 K9
            (try simp only [Act.put, List.setIfInBounds_toArray, List.set_cons_zero, List.set_cons_succ])
            refine wpAnyT_done (by kernel_rfl) ?_ _
            clear y0 y1 y2 y3 y4 y5 y6 f3 KP
            generalize q.setCell ⟨b, 3, none⟩ (.int .i64 (g.l.na + o.l.na)) = w5 at *
            obtain ⟨y0, y1, y2, y3, y4, y5, y6⟩ := MT.out.at_.cells
            obtain ⟨z0, z1, z2, z3, z4⟩ := MT.out.lx.cells
            simp only at y2 y3 y4 y5 y6
            by_cases ho0 : o.l.n = 0
            · have hz : (o.l.n == 0) = true := by simp [ho0]
              have HL := hide (merge_A HNZ.out HNZ2.out ho0)
              replace ho0 := hide ho0
              go_wp2_with fail
              go_ret
              have ft := MT.out
              rw [MIX.out] at ft
              have e9 : mgF g o = ⟨g.bs, addL g.cs o.cs, ⟨g.l.n, g.l.na + o.l.na, g.l.lo, g.l.hi, g.l.me⟩⟩ := by unfold mgF; rw [HL.out]
              rw [e9]
              exact .inl ⟨SAME.out, rfl, ft.at_, ft.but⟩
            · have hz : (o.l.n == 0) = false := by simp [ho0]
              by_cases hg0 : g.l.n = 0
              · have hz2 : (g.l.n == 0) = true := by simp [hg0]
                have HL := hide (merge_B ho0 hg0)
                replace hg0 := hide hg0
                have f1 := MT.out.lx.frozen 1
                have X1 := hide (MT.out.lx.set1 (g.l.na + o.l.na))
                have A1 : Hid (At 66 (w5.setCell ⟨pb, 1, none⟩ (.int .i64 (g.l.na + o.l.na))) b ⟨g.bs, mixL g.cs o.cs j, ⟨g.l.n, g.l.na + o.l.na, g.l.lo, g.l.hi, g.l.me⟩⟩ (.slice xo i xc) (.slice (some ⟨cb, 0, none⟩) j ca)) := hide (MT.out.at_.but (but_cell w5 pb 1 _ (X := fun k => k = pb) rfl) (fun k hk e => by
                  have a := hcbw.out
                  have c := hszr.out
                  rcases hk with r | r | r
                  · omega
                  · have := HA.out.lt k (.inr (.inl r)); omega
                  · have := HA.out.lt k (.inr (.inr r)); omega))
                have B1 : Hid (But (Tur b (.slice (some ⟨cb, 0, none⟩) j ca)) w (w5.setCell ⟨pb, 1, none⟩ (.int .i64 (g.l.na + o.l.na)))) := hide (MT.out.but.trans' (but_cell w5 pb 1 _ (X := fun k => k = pb) rfl) (fun k hk => by rw [hk]; exact hszr.out))
                (try simp only at X1)
                go_upto_region 19 with fail
                clear y0 y1 y2 y3 y4 y5 y6 z0 z1 z2 z3 z4 f1 MT
                generalize w5.setCell ⟨pb, 1, none⟩ (.int .i64 (g.l.na + o.l.na)) = w6 at *
                obtain ⟨y0, y1, y2, y3, y4, y5, y6⟩ := A1.out.cells
                obtain ⟨z0, z1, z2, z3, z4⟩ := X1.out.cells
                simp only at y2 y3 y4 y5 y6 z0 z1 z2 z3 z4
                have t2 := A1.out.frozen 2
                have t3 := A1.out.frozen 3
                have t4 := A1.out.frozen 4
                have t5 := A1.out.frozen 5
                have t6 := A1.out.frozen 6
                have FIN := hide (A1.out.look (by decide) (by decide) ⟨o.l.n, g.l.na + o.l.na, o.l.lo, o.l.hi, o.l.me⟩)
                simp only at FIN
                clear A1
                go_wp2_with fail
                go_ret
                have ft := FIN.out
                rw [MIX.out] at ft
                have e9 : mgF g o = ⟨g.bs, addL g.cs o.cs, ⟨o.l.n, g.l.na + o.l.na, o.l.lo, o.l.hi, o.l.me⟩⟩ := by unfold mgF; rw [HL.out]
                rw [e9]
                exact .inl ⟨SAME.out, rfl, ft, B1.out.trans (but_all _ b 2 _ _ _ _ _ (.inl rfl))⟩
              · have hz2 : (g.l.n == 0) = false := by simp [hg0]
                have HL := hide (merge_C HNZ.out HNZ2.out HOK.out.lo ho0 hg0)
                have hC1 := fun u => refCompare_any u o.l.lo g.l.lo HOK2.out.lo HOK.out.lo
                have hC2 := fun u => refCompare_any u o.l.hi g.l.hi HOK2.out.hi HOK.out.hi
                have hc3 := conv_f o.l.n
                have hc4 := conv_f (g.l.n + o.l.n)
                obtain ⟨s1, hs1⟩ : ∃ s, Hid (cmpB o.l.lo g.l.lo = s) := ⟨_, rfl⟩
                obtain ⟨s2, hs2⟩ : ∃ s, Hid (cmpB o.l.hi g.l.hi = s) := ⟨_, rfl⟩
                rw [hs1.out] at hC1 HL
                rw [hs2.out] at hC2 HL
                clear hs1 hs2
                by_cases hq1 : s1 < 0
                · by_cases hq2 : 0 < s2
                  · skip
                    have HL' := hide HL.out
                    rw [if_pos hq1, if_pos hq2] at HL'
                    clear HL
                    go_upto_region 21 with fail
                    go_quiet ((go_at_call 23; exact Calls.quiet_of_same (hC1 _)))
                    replace MT := hide (MT.out.below (below_drewN (Below.refl _ _) nq))
                    clear y0 y1 y2 y3 y4 y5 y6 z0 z1 z2 z3 z4
                    generalize w5.drewN nq = w6 at *
                    obtain ⟨y0, y1, y2, y3, y4, y5, y6⟩ := MT.out.at_.cells
                    obtain ⟨z0, z1, z2, z3, z4⟩ := MT.out.lx.cells
                    simp only at y2 y3 y4 y5 y6
                    have f4 := MT.out.at_.frozen 4
                    have MT2 := hide (MT.out.s4 o.l.lo)
                    simp only at MT2
                    go_upto_region 23 with fail
                    replace MT := MT2
                    clear MT2 f4 y0 y1 y2 y3 y4 y5 y6 z0 z1 z2 z3 z4
                    generalize w6.setCell ⟨b, 4, none⟩ (.float .f64 o.l.lo) = w7 at *
                    obtain ⟨y0, y1, y2, y3, y4, y5, y6⟩ := MT.out.at_.cells
                    obtain ⟨z0, z1, z2, z3, z4⟩ := MT.out.lx.cells
                    simp only at y2 y3 y4 y5 y6
                    go_quiet ((go_at_call 23; exact Calls.quiet_of_same (hC2 _)))
                    replace MT := hide (MT.out.below (below_drewN (Below.refl _ _) nq))
                    clear y0 y1 y2 y3 y4 y5 y6 z0 z1 z2 z3 z4
                    generalize w7.drewN nq = w8 at *
                    obtain ⟨y0, y1, y2, y3, y4, y5, y6⟩ := MT.out.at_.cells
                    obtain ⟨z0, z1, z2, z3, z4⟩ := MT.out.lx.cells
                    simp only at y2 y3 y4 y5 y6
                    have f5 := MT.out.at_.frozen 5
                    have MT2 := hide (MT.out.s5 o.l.hi)
                    simp only at MT2
                    go_upto_region 25 with fail
                    replace MT := MT2
                    clear MT2 f5 y0 y1 y2 y3 y4 y5 y6 z0 z1 z2 z3 z4
                    generalize w8.setCell ⟨b, 5, none⟩ (.float .f64 o.l.hi) = w9 at *
                    obtain ⟨y0, y1, y2, y3, y4, y5, y6⟩ := MT.out.at_.cells
                    obtain ⟨z0, z1, z2, z3, z4⟩ := MT.out.lx.cells
                    simp only at y2 y3 y4 y5 y6
                    have KP : Hid (Mt w w9.drew b (⟨g.bs, mixL g.cs o.cs j, ⟨g.l.n, g.l.na + o.l.na, o.l.lo, o.l.hi, g.l.me⟩⟩ : G) (.slice xo i xc) (.slice (some ⟨cb, 0, none⟩) j ca) pb o.l) := MT.out.below (Below.refl _ _).drew
                    clear MT y0 y1 y2 y3 y4 y5 y6 z0 z1 z2 z3 z4
                    refine wp_region_T (fun q => At 66 q b (⟨g.bs, mixL g.cs o.cs j, ⟨g.l.n, g.l.na + o.l.na, o.l.lo, o.l.hi, g.l.me⟩⟩ : G) (.slice xo i xc) (.slice (some ⟨cb, 0, none⟩) j ca) ∧ Lx q pb o.l) 8 (by kernel_rfl) ?_
                    generalize w9.drew = q1 at *
                    refine wpAnyT_take (i := 0) (oi := { dst := some 144, op := Op.fieldAddr 44 (Operand.tmp 6) 4, type := 0, pos := "ref.go:108", after := #[], guard := none }) (v := .pointer (some ⟨pb, 4, none⟩)) [1, 7, 8] rfl (by kernel_rfl) (by kernel_rfl) (by kernel_rfl) (by kernel_rfl) (fun _ _ _ h => h) (Or.inl ⟨by rfl, ?_⟩) ⟨KP.out.at_, KP.out.lx⟩ ?_
                    · intro wq hSw
                      obtain ⟨y0, y1, y2, y3, y4, y5, y6⟩ := hSw.1.cells
                      obtain ⟨z0, z1, z2, z3, z4⟩ := hSw.2.cells
                      simp only at y2 y3 y4 y5 y6
                      go_simp
                    (try simp only [Act.put, List.setIfInBounds_toArray, List.set_cons_zero, List.set_cons_succ])
                    refine wpAnyT_take (i := 1) (oi := { dst := some 145, op := Op.load 26 (Operand.tmp 144), type := 26, pos := "ref.go:108", after := #[{ on := 0, ground := Ground.data }], guard := none }) (v := .float .f64 o.l.me) [7, 8] rfl (by kernel_rfl) (by kernel_rfl) (by kernel_rfl) (by kernel_rfl) (fun _ _ _ h => h) (Or.inl ⟨by rfl, ?_⟩) ⟨KP.out.at_, KP.out.lx⟩ ?_
                    · intro wq hSw
                      obtain ⟨y0, y1, y2, y3, y4, y5, y6⟩ := hSw.1.cells
                      obtain ⟨z0, z1, z2, z3, z4⟩ := hSw.2.cells
                      simp only at y2 y3 y4 y5 y6
                      go_simp
                    (try simp only [Act.put, List.setIfInBounds_toArray, List.set_cons_zero, List.set_cons_succ])
                    refine wpAnyT_take (i := 2) (oi := { dst := some 146, op := Op.move (Operand.tmp 0), type := 31, pos := "ref.go:108", after := #[], guard := none }) (v := .pointer (some ⟨b, 0, none⟩)) [3, 4, 5, 6, 7, 8] rfl (by kernel_rfl) (by kernel_rfl) (by kernel_rfl) (by kernel_rfl) (fun _ _ _ h => h) (Or.inl ⟨by rfl, ?_⟩) ⟨KP.out.at_, KP.out.lx⟩ ?_
                    · intro wq hSw
                      obtain ⟨y0, y1, y2, y3, y4, y5, y6⟩ := hSw.1.cells
                      obtain ⟨z0, z1, z2, z3, z4⟩ := hSw.2.cells
                      simp only at y2 y3 y4 y5 y6
                      go_simp
                    (try simp only [Act.put, List.setIfInBounds_toArray, List.set_cons_zero, List.set_cons_succ])
                    refine wpAnyT_take (i := 3) (oi := { dst := some 147, op := Op.nilCheck (Operand.tmp 146), type := 0, pos := "ref.go:108", after := #[{ on := 2, ground := Ground.data }], guard := none }) (v := .pointer (some ⟨b, 0, none⟩)) [4, 5, 6, 7, 8] rfl (by kernel_rfl) (by kernel_rfl) (by kernel_rfl) (by kernel_rfl) (fun _ _ _ h => h) (Or.inl ⟨by rfl, ?_⟩) ⟨KP.out.at_, KP.out.lx⟩ ?_
                    · intro wq hSw
                      obtain ⟨y0, y1, y2, y3, y4, y5, y6⟩ := hSw.1.cells
                      obtain ⟨z0, z1, z2, z3, z4⟩ := hSw.2.cells
                      simp only at y2 y3 y4 y5 y6
                      go_simp
                    (try simp only [Act.put, List.setIfInBounds_toArray, List.set_cons_zero, List.set_cons_succ])
                    refine wpAnyT_take (i := 4) (oi := { dst := some 148, op := Op.fieldAddr 66 (Operand.tmp 147) 2, type := 0, pos := "ref.go:108", after := #[{ on := 3, ground := Ground.data }], guard := none }) (v := .pointer (some ⟨b, 2, none⟩)) [5, 6, 7, 8] rfl (by kernel_rfl) (by kernel_rfl) (by kernel_rfl) (by kernel_rfl) (fun _ _ _ h => h) (Or.inl ⟨by rfl, ?_⟩) ⟨KP.out.at_, KP.out.lx⟩ ?_
                    · intro wq hSw
                      obtain ⟨y0, y1, y2, y3, y4, y5, y6⟩ := hSw.1.cells
                      obtain ⟨z0, z1, z2, z3, z4⟩ := hSw.2.cells
                      simp only at y2 y3 y4 y5 y6
                      go_simp
                    (try simp only [Act.put, List.setIfInBounds_toArray, List.set_cons_zero, List.set_cons_succ])
                    refine wpAnyT_take (i := 5) (oi := { dst := some 149, op := Op.fieldAddr 44 (Operand.tmp 148) 4, type := 0, pos := "ref.go:108", after := #[{ on := 4, ground := Ground.data }], guard := none }) (v := .pointer (some ⟨b, 6, none⟩)) [6, 7, 8] rfl (by kernel_rfl) (by kernel_rfl) (by kernel_rfl) (by kernel_rfl) (fun _ _ _ h => h) (Or.inl ⟨by rfl, ?_⟩) ⟨KP.out.at_, KP.out.lx⟩ ?_
                    · intro wq hSw
                      obtain ⟨y0, y1, y2, y3, y4, y5, y6⟩ := hSw.1.cells
                      obtain ⟨z0, z1, z2, z3, z4⟩ := hSw.2.cells
                      simp only at y2 y3 y4 y5 y6
                      go_simp
                    (try simp only [Act.put, List.setIfInBounds_toArray, List.set_cons_zero, List.set_cons_succ])
                    refine wpAnyT_take (i := 6) (oi := { dst := some 150, op := Op.load 26 (Operand.tmp 149), type := 26, pos := "ref.go:108", after := #[{ on := 5, ground := Ground.data }], guard := none }) (v := .float .f64 g.l.me) [7, 8] rfl (by kernel_rfl) (by kernel_rfl) (by kernel_rfl) (by kernel_rfl) (fun _ _ _ h => h) (Or.inl ⟨by rfl, ?_⟩) ⟨KP.out.at_, KP.out.lx⟩ ?_
                    · intro wq hSw
                      obtain ⟨y0, y1, y2, y3, y4, y5, y6⟩ := hSw.1.cells
                      obtain ⟨z0, z1, z2, z3, z4⟩ := hSw.2.cells
                      simp only at y2 y3 y4 y5 y6
                      go_simp
                    (try simp only [Act.put, List.setIfInBounds_toArray, List.set_cons_zero, List.set_cons_succ])
                    obtain ⟨dv, n1, e1, i1⟩ := sub2 o.l.me g.l.me q1
                    have KP1 : Hid (Mt w (q1.drewN n1) b (⟨g.bs, mixL g.cs o.cs j, ⟨g.l.n, g.l.na + o.l.na, o.l.lo, o.l.hi, g.l.me⟩⟩ : G) (.slice xo i xc) (.slice (some ⟨cb, 0, none⟩) j ca) pb o.l) := KP.out.below (below_drewN (Below.refl _ _) n1)
                    refine wpAnyT_one (i := 7) (o := { dst := some 151, op := Op.binOp BinOp.sub 26 (Operand.tmp 145) (Operand.tmp 150) 26, type := 26, pos := "ref.go:108", after := #[{ on := 1, ground := Ground.data }, { on := 6, ground := Ground.data }], guard := none }) (by kernel_rfl) rfl (fun K9 hK9 => ?_)
                    go_simp
                    refine hK9.out _ _ (fun _ => ⟨KP1.out.at_, KP1.out.lx⟩) ?_
                    clear hK9 K9
                    (try simp only [Act.put, List.setIfInBounds_toArray, List.set_cons_zero, List.set_cons_succ])
                    refine wpAnyT_one (i := 8) (o := { dst := some 9, op := Op.assign (Operand.tmp 151), type := 26, pos := "ref.go:108", after := #[{ on := 7, ground := Ground.data }, { on := 0, ground := Ground.phase }, { on := 1, ground := Ground.phase }, { on := 2, ground := Ground.phase }, { on := 3, ground := Ground.phase }, { on := 4, ground := Ground.phase }, { on := 5, ground := Ground.phase }, { on := 6, ground := Ground.phase }, { on := 7, ground := Ground.phase }], guard := none }) (by kernel_rfl) rfl (fun K9 hK9 => ?_)
                    go_simp
                    refine hK9.out _ _ (vac (by kernel_rfl)) ?_
                    clear hK9 K9
                    (try simp only [Act.put, List.setIfInBounds_toArray, List.set_cons_zero, List.set_cons_succ])
                    refine wpAnyT_done (by kernel_rfl) ?_ _
                    clear KP e1
                    generalize q1.drewN n1 = w10 at *
                    go_upto_region 26 with fail
                    have KP : Hid (Mt w w10.drew b (⟨g.bs, mixL g.cs o.cs j, ⟨g.l.n, g.l.na + o.l.na, o.l.lo, o.l.hi, g.l.me⟩⟩ : G) (.slice xo i xc) (.slice (some ⟨cb, 0, none⟩) j ca) pb o.l) := KP1.out.below (Below.refl _ _).drew
                    clear KP1
                    refine wp_region_T (fun q => At 66 q b (⟨g.bs, mixL g.cs o.cs j, ⟨g.l.n, g.l.na + o.l.na, o.l.lo, o.l.hi, g.l.me⟩⟩ : G) (.slice xo i xc) (.slice (some ⟨cb, 0, none⟩) j ca) ∧ Lx q pb o.l) 13 (by kernel_rfl) ?_
                    generalize w10.drew = q2 at *
                    refine wpAnyT_take (i := 0) (oi := { dst := some 152, op := Op.fieldAddr 44 (Operand.tmp 6) 0, type := 0, pos := "ref.go:109", after := #[], guard := none }) (v := .pointer (some ⟨pb, 0, none⟩)) [1, 2, 12, 13] rfl (by kernel_rfl) (by kernel_rfl) (by kernel_rfl) (by kernel_rfl) (fun _ _ _ h => h) (Or.inl ⟨by rfl, ?_⟩) ⟨KP.out.at_, KP.out.lx⟩ ?_
                    · intro wq hSw
                      obtain ⟨y0, y1, y2, y3, y4, y5, y6⟩ := hSw.1.cells
                      obtain ⟨z0, z1, z2, z3, z4⟩ := hSw.2.cells
                      simp only at y2 y3 y4 y5 y6
                      go_simp
                    (try simp only [Act.put, List.setIfInBounds_toArray, List.set_cons_zero, List.set_cons_succ])
                    refine wpAnyT_take (i := 1) (oi := { dst := some 153, op := Op.load 2 (Operand.tmp 152), type := 2, pos := "ref.go:109", after := #[{ on := 0, ground := Ground.data }], guard := none }) (v := .int .i64 o.l.n) [2, 12, 13] rfl (by kernel_rfl) (by kernel_rfl) (by kernel_rfl) (by kernel_rfl) (fun _ _ _ h => h) (Or.inl ⟨by rfl, ?_⟩) ⟨KP.out.at_, KP.out.lx⟩ ?_
                    · intro wq hSw
                      obtain ⟨y0, y1, y2, y3, y4, y5, y6⟩ := hSw.1.cells
                      obtain ⟨z0, z1, z2, z3, z4⟩ := hSw.2.cells
                      simp only at y2 y3 y4 y5 y6
                      go_simp
                    (try simp only [Act.put, List.setIfInBounds_toArray, List.set_cons_zero, List.set_cons_succ])
                    refine wpAnyT_take (i := 2) (oi := { dst := some 154, op := Op.convert 2 26 (Operand.tmp 153), type := 26, pos := "ref.go:109", after := #[{ on := 1, ground := Ground.data }], guard := none }) (v := .float .f64 (nfB o.l.n)) [12, 13] rfl (by kernel_rfl) (by kernel_rfl) (by kernel_rfl) (by kernel_rfl) (fun _ _ _ h => h) (Or.inl ⟨by rfl, ?_⟩) ⟨KP.out.at_, KP.out.lx⟩ ?_
                    · intro wq hSw
                      obtain ⟨y0, y1, y2, y3, y4, y5, y6⟩ := hSw.1.cells
                      obtain ⟨z0, z1, z2, z3, z4⟩ := hSw.2.cells
                      simp only at y2 y3 y4 y5 y6
                      go_simp
                    (try simp only [Act.put, List.setIfInBounds_toArray, List.set_cons_zero, List.set_cons_succ])
                    refine wpAnyT_take (i := 3) (oi := { dst := some 155, op := Op.move (Operand.tmp 0), type := 31, pos := "ref.go:109", after := #[], guard := none }) (v := .pointer (some ⟨b, 0, none⟩)) [4, 5, 6, 7, 10, 11, 12, 13] rfl (by kernel_rfl) (by kernel_rfl) (by kernel_rfl) (by kernel_rfl) (fun _ _ _ h => h) (Or.inl ⟨by rfl, ?_⟩) ⟨KP.out.at_, KP.out.lx⟩ ?_
                    · intro wq hSw
                      obtain ⟨y0, y1, y2, y3, y4, y5, y6⟩ := hSw.1.cells
                      obtain ⟨z0, z1, z2, z3, z4⟩ := hSw.2.cells
                      simp only at y2 y3 y4 y5 y6
                      go_simp
                    (try simp only [Act.put, List.setIfInBounds_toArray, List.set_cons_zero, List.set_cons_succ])
                    refine wpAnyT_take (i := 4) (oi := { dst := some 156, op := Op.nilCheck (Operand.tmp 155), type := 0, pos := "ref.go:109", after := #[{ on := 3, ground := Ground.data }], guard := none }) (v := .pointer (some ⟨b, 0, none⟩)) [5, 6, 7, 10, 11, 12, 13] rfl (by kernel_rfl) (by kernel_rfl) (by kernel_rfl) (by kernel_rfl) (fun _ _ _ h => h) (Or.inl ⟨by rfl, ?_⟩) ⟨KP.out.at_, KP.out.lx⟩ ?_
                    · intro wq hSw
                      obtain ⟨y0, y1, y2, y3, y4, y5, y6⟩ := hSw.1.cells
                      obtain ⟨z0, z1, z2, z3, z4⟩ := hSw.2.cells
                      simp only at y2 y3 y4 y5 y6
                      go_simp
                    (try simp only [Act.put, List.setIfInBounds_toArray, List.set_cons_zero, List.set_cons_succ])
                    refine wpAnyT_take (i := 5) (oi := { dst := some 157, op := Op.fieldAddr 66 (Operand.tmp 156) 2, type := 0, pos := "ref.go:109", after := #[{ on := 4, ground := Ground.data }], guard := none }) (v := .pointer (some ⟨b, 2, none⟩)) [6, 7, 10, 11, 12, 13] rfl (by kernel_rfl) (by kernel_rfl) (by kernel_rfl) (by kernel_rfl) (fun _ _ _ h => h) (Or.inl ⟨by rfl, ?_⟩) ⟨KP.out.at_, KP.out.lx⟩ ?_
                    · intro wq hSw
                      obtain ⟨y0, y1, y2, y3, y4, y5, y6⟩ := hSw.1.cells
                      obtain ⟨z0, z1, z2, z3, z4⟩ := hSw.2.cells
                      simp only at y2 y3 y4 y5 y6
                      go_simp
                    (try simp only [Act.put, List.setIfInBounds_toArray, List.set_cons_zero, List.set_cons_succ])
                    refine wpAnyT_take (i := 6) (oi := { dst := some 158, op := Op.fieldAddr 44 (Operand.tmp 157) 0, type := 0, pos := "ref.go:109", after := #[{ on := 5, ground := Ground.data }], guard := none }) (v := .pointer (some ⟨b, 2, none⟩)) [7, 10, 11, 12, 13] rfl (by kernel_rfl) (by kernel_rfl) (by kernel_rfl) (by kernel_rfl) (fun _ _ _ h => h) (Or.inl ⟨by rfl, ?_⟩) ⟨KP.out.at_, KP.out.lx⟩ ?_
                    · intro wq hSw
                      obtain ⟨y0, y1, y2, y3, y4, y5, y6⟩ := hSw.1.cells
                      obtain ⟨z0, z1, z2, z3, z4⟩ := hSw.2.cells
                      simp only at y2 y3 y4 y5 y6
                      go_simp
                    (try simp only [Act.put, List.setIfInBounds_toArray, List.set_cons_zero, List.set_cons_succ])
                    refine wpAnyT_take (i := 7) (oi := { dst := some 159, op := Op.load 2 (Operand.tmp 158), type := 2, pos := "ref.go:109", after := #[{ on := 6, ground := Ground.data }], guard := none }) (v := .int .i64 g.l.n) [10, 11, 12, 13] rfl (by kernel_rfl) (by kernel_rfl) (by kernel_rfl) (by kernel_rfl) (fun _ _ _ h => h) (Or.inl ⟨by rfl, ?_⟩) ⟨KP.out.at_, KP.out.lx⟩ ?_
                    · intro wq hSw
                      obtain ⟨y0, y1, y2, y3, y4, y5, y6⟩ := hSw.1.cells
                      obtain ⟨z0, z1, z2, z3, z4⟩ := hSw.2.cells
                      simp only at y2 y3 y4 y5 y6
                      go_simp
                    (try simp only [Act.put, List.setIfInBounds_toArray, List.set_cons_zero, List.set_cons_succ])
                    refine wpAnyT_take (i := 8) (oi := { dst := some 160, op := Op.fieldAddr 44 (Operand.tmp 6) 0, type := 0, pos := "ref.go:109", after := #[], guard := none }) (v := .pointer (some ⟨pb, 0, none⟩)) [9, 10, 11, 12, 13] rfl (by kernel_rfl) (by kernel_rfl) (by kernel_rfl) (by kernel_rfl) (fun _ _ _ h => h) (Or.inl ⟨by rfl, ?_⟩) ⟨KP.out.at_, KP.out.lx⟩ ?_
                    · intro wq hSw
                      obtain ⟨y0, y1, y2, y3, y4, y5, y6⟩ := hSw.1.cells
                      obtain ⟨z0, z1, z2, z3, z4⟩ := hSw.2.cells
                      simp only at y2 y3 y4 y5 y6
                      go_simp
                    (try simp only [Act.put, List.setIfInBounds_toArray, List.set_cons_zero, List.set_cons_succ])
                    refine wpAnyT_take (i := 9) (oi := { dst := some 161, op := Op.load 2 (Operand.tmp 160), type := 2, pos := "ref.go:109", after := #[{ on := 8, ground := Ground.data }], guard := none }) (v := .int .i64 o.l.n) [10, 11, 12, 13] rfl (by kernel_rfl) (by kernel_rfl) (by kernel_rfl) (by kernel_rfl) (fun _ _ _ h => h) (Or.inl ⟨by rfl, ?_⟩) ⟨KP.out.at_, KP.out.lx⟩ ?_
                    · intro wq hSw
                      obtain ⟨y0, y1, y2, y3, y4, y5, y6⟩ := hSw.1.cells
                      obtain ⟨z0, z1, z2, z3, z4⟩ := hSw.2.cells
                      simp only at y2 y3 y4 y5 y6
                      go_simp
                    (try simp only [Act.put, List.setIfInBounds_toArray, List.set_cons_zero, List.set_cons_succ])
                    refine wpAnyT_take (i := 10) (oi := { dst := some 162, op := Op.binOp BinOp.add 2 (Operand.tmp 159) (Operand.tmp 161) 2, type := 2, pos := "ref.go:109", after := #[{ on := 7, ground := Ground.data }, { on := 9, ground := Ground.data }], guard := none }) (v := .int .i64 (g.l.n + o.l.n)) [11, 12, 13] rfl (by kernel_rfl) (by kernel_rfl) (by kernel_rfl) (by kernel_rfl) (fun _ _ _ h => h) (Or.inl ⟨by rfl, ?_⟩) ⟨KP.out.at_, KP.out.lx⟩ ?_
                    · intro wq hSw
                      obtain ⟨y0, y1, y2, y3, y4, y5, y6⟩ := hSw.1.cells
                      obtain ⟨z0, z1, z2, z3, z4⟩ := hSw.2.cells
                      simp only at y2 y3 y4 y5 y6
                      go_simp
                    (try simp only [Act.put, List.setIfInBounds_toArray, List.set_cons_zero, List.set_cons_succ])
                    refine wpAnyT_take (i := 11) (oi := { dst := some 163, op := Op.convert 2 26 (Operand.tmp 162), type := 26, pos := "ref.go:109", after := #[{ on := 10, ground := Ground.data }], guard := none }) (v := .float .f64 (nfB (g.l.n + o.l.n))) [12, 13] rfl (by kernel_rfl) (by kernel_rfl) (by kernel_rfl) (by kernel_rfl) (fun _ _ _ h => h) (Or.inl ⟨by rfl, ?_⟩) ⟨KP.out.at_, KP.out.lx⟩ ?_
                    · intro wq hSw
                      obtain ⟨y0, y1, y2, y3, y4, y5, y6⟩ := hSw.1.cells
                      obtain ⟨z0, z1, z2, z3, z4⟩ := hSw.2.cells
                      simp only at y2 y3 y4 y5 y6
                      go_simp
                    (try simp only [Act.put, List.setIfInBounds_toArray, List.set_cons_zero, List.set_cons_succ])
                    obtain ⟨wv, n2, e2, i2⟩ := div2 (nfB o.l.n) (nfB (g.l.n + o.l.n)) q2
                    have KP2 : Hid (Mt w (q2.drewN n2) b (⟨g.bs, mixL g.cs o.cs j, ⟨g.l.n, g.l.na + o.l.na, o.l.lo, o.l.hi, g.l.me⟩⟩ : G) (.slice xo i xc) (.slice (some ⟨cb, 0, none⟩) j ca) pb o.l) := KP.out.below (below_drewN (Below.refl _ _) n2)
                    refine wpAnyT_one (i := 12) (o := { dst := some 164, op := Op.binOp BinOp.quo 26 (Operand.tmp 154) (Operand.tmp 163) 26, type := 26, pos := "ref.go:109", after := #[{ on := 2, ground := Ground.data }, { on := 11, ground := Ground.data }], guard := none }) (by kernel_rfl) rfl (fun K9 hK9 => ?_)
                    go_simp
                    refine hK9.out _ _ (fun _ => ⟨KP2.out.at_, KP2.out.lx⟩) ?_
                    clear hK9 K9
                    (try simp only [Act.put, List.setIfInBounds_toArray, List.set_cons_zero, List.set_cons_succ])
                    refine wpAnyT_one (i := 13) (o := { dst := some 10, op := Op.assign (Operand.tmp 164), type := 26, pos := "ref.go:109", after := #[{ on := 12, ground := Ground.data }, { on := 0, ground := Ground.phase }, { on := 1, ground := Ground.phase }, { on := 2, ground := Ground.phase }, { on := 3, ground := Ground.phase }, { on := 4, ground := Ground.phase }, { on := 5, ground := Ground.phase }, { on := 6, ground := Ground.phase }, { on := 7, ground := Ground.phase }, { on := 8, ground := Ground.phase }, { on := 9, ground := Ground.phase }, { on := 10, ground := Ground.phase }, { on := 11, ground := Ground.phase }, { on := 12, ground := Ground.phase }], guard := none }) (by kernel_rfl) rfl (fun K9 hK9 => ?_)
                    go_simp
                    refine hK9.out _ _ (vac (by kernel_rfl)) ?_
                    clear hK9 K9
                    (try simp only [Act.put, List.setIfInBounds_toArray, List.set_cons_zero, List.set_cons_succ])
                    refine wpAnyT_done (by kernel_rfl) ?_ _
                    clear KP e2
                    generalize q2.drewN n2 = w11 at *
                    obtain ⟨yv, n3, e3, i3⟩ := mul2 dv wv w11
                    obtain ⟨sv, n4, e4, i4⟩ := add2 g.l.me yv (w11.drewN n3)
                    rw [World.drewN_drewN] at e4
                    have i5 : Is (Ieee.double.mul (subB o.l.me g.l.me) (divB (nfB o.l.n) (nfB (g.l.n + o.l.n)))) yv := ⟨i3.1, by rw [i3.2, mul_same i1.c i2.c]; rfl⟩
                    have hCa := fun u => refCanon_any u sv i4.lt
                    have hme : canonB sv = addB g.l.me (mulB (subB o.l.me g.l.me) (divB (nfB o.l.n) (nfB (g.l.n + o.l.n)))) := i4.add i5
                    obtain ⟨me2, hme2⟩ : ∃ m, Hid (addB g.l.me (mulB (subB o.l.me g.l.me) (divB (nfB o.l.n) (nfB (g.l.n + o.l.n)))) = m) := ⟨_, rfl⟩
                    rw [hme, hme2.out] at hCa
                    rw [hme2.out] at HL'
                    clear i1 i2 i3 i4 i5 hme
                    have MT3 := KP2.out.below (below_drewN (Below.refl _ _) (n3 + n4))
                    obtain ⟨y0, y1, y2, y3, y4, y5, y6⟩ := MT3.at_.cells
                    simp only at y2 y3 y4 y5 y6
                    obtain ⟨z0, z1, z2, z3, z4, z5, z6⟩ := KP2.out.at_.cells
                    simp only at z2 z3 z4 z5 z6
                    have f6 := MT3.at_.frozen 6
                    have MT := hide (MT3.s6 me2)
                    simp only at MT
                    clear MT3 KP2
                    go_upto_region 29 with (go_at_call 37; refine (hCa _).mono ?_; rintro e w' ⟨rfl, hw⟩; rw [hw]; clear hw w')
                    clear y0 y1 y2 y3 y4 y5 y6 z0 z1 z2 z3 z4 z5 z6 f6 e3 e4
                    generalize (w11.drewN (n3 + n4)).setCell ⟨b, 6, none⟩ (.float .f64 me2) = w12 at *
                    have KP : Hid (Mt w w12.drew b (⟨g.bs, mixL g.cs o.cs j, ⟨g.l.n, g.l.na + o.l.na, o.l.lo, o.l.hi, me2⟩⟩ : G) (.slice xo i xc) (.slice (some ⟨cb, 0, none⟩) j ca) pb o.l) := MT.out.below (Below.refl _ _).drew
                    clear MT
                    refine wp_region_T (fun q => At 66 q b (⟨g.bs, mixL g.cs o.cs j, ⟨g.l.n, g.l.na + o.l.na, o.l.lo, o.l.hi, me2⟩⟩ : G) (.slice xo i xc) (.slice (some ⟨cb, 0, none⟩) j ca) ∧ Lx q pb o.l) 12 (by kernel_rfl) ?_
                    generalize w12.drew = q3 at *
                    refine wpAnyT_take (i := 0) (oi := { dst := some 180, op := Op.move (Operand.tmp 0), type := 31, pos := "ref.go:112", after := #[], guard := none }) (v := .pointer (some ⟨b, 0, none⟩)) [9, 10, 11, 12] rfl (by kernel_rfl) (by kernel_rfl) (by kernel_rfl) (by kernel_rfl) (fun _ _ _ h => h) (Or.inl ⟨by rfl, ?_⟩) ⟨KP.out.at_, KP.out.lx⟩ ?_
                    · intro wq hSw
                      obtain ⟨y0, y1, y2, y3, y4, y5, y6⟩ := hSw.1.cells
                      obtain ⟨z0, z1, z2, z3, z4⟩ := hSw.2.cells
                      simp only at y2 y3 y4 y5 y6
                      go_simp
                    (try simp only [Act.put, List.setIfInBounds_toArray, List.set_cons_zero, List.set_cons_succ])
                    refine wpAnyT_take (i := 1) (oi := { dst := some 181, op := Op.move (Operand.tmp 0), type := 31, pos := "ref.go:112", after := #[], guard := none }) (v := .pointer (some ⟨b, 0, none⟩)) [2, 3, 4, 5, 8, 12] rfl (by kernel_rfl) (by kernel_rfl) (by kernel_rfl) (by kernel_rfl) (fun _ _ _ h => h) (Or.inl ⟨by rfl, ?_⟩) ⟨KP.out.at_, KP.out.lx⟩ ?_
                    · intro wq hSw
                      obtain ⟨y0, y1, y2, y3, y4, y5, y6⟩ := hSw.1.cells
                      obtain ⟨z0, z1, z2, z3, z4⟩ := hSw.2.cells
                      simp only at y2 y3 y4 y5 y6
                      go_simp
                    (try simp only [Act.put, List.setIfInBounds_toArray, List.set_cons_zero, List.set_cons_succ])
                    refine wpAnyT_take (i := 2) (oi := { dst := some 182, op := Op.nilCheck (Operand.tmp 181), type := 0, pos := "ref.go:112", after := #[{ on := 1, ground := Ground.data }], guard := none }) (v := .pointer (some ⟨b, 0, none⟩)) [3, 4, 5, 8, 12] rfl (by kernel_rfl) (by kernel_rfl) (by kernel_rfl) (by kernel_rfl) (fun _ _ _ h => h) (Or.inl ⟨by rfl, ?_⟩) ⟨KP.out.at_, KP.out.lx⟩ ?_
                    · intro wq hSw
                      obtain ⟨y0, y1, y2, y3, y4, y5, y6⟩ := hSw.1.cells
                      obtain ⟨z0, z1, z2, z3, z4⟩ := hSw.2.cells
                      simp only at y2 y3 y4 y5 y6
                      go_simp
                    (try simp only [Act.put, List.setIfInBounds_toArray, List.set_cons_zero, List.set_cons_succ])
                    refine wpAnyT_take (i := 3) (oi := { dst := some 183, op := Op.fieldAddr 66 (Operand.tmp 182) 2, type := 0, pos := "ref.go:112", after := #[{ on := 2, ground := Ground.data }], guard := none }) (v := .pointer (some ⟨b, 2, none⟩)) [4, 5, 8, 12] rfl (by kernel_rfl) (by kernel_rfl) (by kernel_rfl) (by kernel_rfl) (fun _ _ _ h => h) (Or.inl ⟨by rfl, ?_⟩) ⟨KP.out.at_, KP.out.lx⟩ ?_
                    · intro wq hSw
                      obtain ⟨y0, y1, y2, y3, y4, y5, y6⟩ := hSw.1.cells
                      obtain ⟨z0, z1, z2, z3, z4⟩ := hSw.2.cells
                      simp only at y2 y3 y4 y5 y6
                      go_simp
                    (try simp only [Act.put, List.setIfInBounds_toArray, List.set_cons_zero, List.set_cons_succ])
                    refine wpAnyT_take (i := 4) (oi := { dst := some 184, op := Op.fieldAddr 44 (Operand.tmp 183) 0, type := 0, pos := "ref.go:112", after := #[{ on := 3, ground := Ground.data }], guard := none }) (v := .pointer (some ⟨b, 2, none⟩)) [5, 8, 12] rfl (by kernel_rfl) (by kernel_rfl) (by kernel_rfl) (by kernel_rfl) (fun _ _ _ h => h) (Or.inl ⟨by rfl, ?_⟩) ⟨KP.out.at_, KP.out.lx⟩ ?_
                    · intro wq hSw
                      obtain ⟨y0, y1, y2, y3, y4, y5, y6⟩ := hSw.1.cells
                      obtain ⟨z0, z1, z2, z3, z4⟩ := hSw.2.cells
                      simp only at y2 y3 y4 y5 y6
                      go_simp
                    (try simp only [Act.put, List.setIfInBounds_toArray, List.set_cons_zero, List.set_cons_succ])
                    refine wpAnyT_take (i := 5) (oi := { dst := some 185, op := Op.load 2 (Operand.tmp 184), type := 2, pos := "ref.go:112", after := #[{ on := 4, ground := Ground.data }], guard := none }) (v := .int .i64 g.l.n) [8, 12] rfl (by kernel_rfl) (by kernel_rfl) (by kernel_rfl) (by kernel_rfl) (fun _ _ _ h => h) (Or.inl ⟨by rfl, ?_⟩) ⟨KP.out.at_, KP.out.lx⟩ ?_
                    · intro wq hSw
                      obtain ⟨y0, y1, y2, y3, y4, y5, y6⟩ := hSw.1.cells
                      obtain ⟨z0, z1, z2, z3, z4⟩ := hSw.2.cells
                      simp only at y2 y3 y4 y5 y6
                      go_simp
                    (try simp only [Act.put, List.setIfInBounds_toArray, List.set_cons_zero, List.set_cons_succ])
                    refine wpAnyT_take (i := 6) (oi := { dst := some 186, op := Op.fieldAddr 44 (Operand.tmp 6) 0, type := 0, pos := "ref.go:112", after := #[], guard := none }) (v := .pointer (some ⟨pb, 0, none⟩)) [7, 8, 12] rfl (by kernel_rfl) (by kernel_rfl) (by kernel_rfl) (by kernel_rfl) (fun _ _ _ h => h) (Or.inl ⟨by rfl, ?_⟩) ⟨KP.out.at_, KP.out.lx⟩ ?_
                    · intro wq hSw
                      obtain ⟨y0, y1, y2, y3, y4, y5, y6⟩ := hSw.1.cells
                      obtain ⟨z0, z1, z2, z3, z4⟩ := hSw.2.cells
                      simp only at y2 y3 y4 y5 y6
                      go_simp
                    (try simp only [Act.put, List.setIfInBounds_toArray, List.set_cons_zero, List.set_cons_succ])
                    refine wpAnyT_take (i := 7) (oi := { dst := some 187, op := Op.load 2 (Operand.tmp 186), type := 2, pos := "ref.go:112", after := #[{ on := 6, ground := Ground.data }], guard := none }) (v := .int .i64 o.l.n) [8, 12] rfl (by kernel_rfl) (by kernel_rfl) (by kernel_rfl) (by kernel_rfl) (fun _ _ _ h => h) (Or.inl ⟨by rfl, ?_⟩) ⟨KP.out.at_, KP.out.lx⟩ ?_
                    · intro wq hSw
                      obtain ⟨y0, y1, y2, y3, y4, y5, y6⟩ := hSw.1.cells
                      obtain ⟨z0, z1, z2, z3, z4⟩ := hSw.2.cells
                      simp only at y2 y3 y4 y5 y6
                      go_simp
                    (try simp only [Act.put, List.setIfInBounds_toArray, List.set_cons_zero, List.set_cons_succ])
                    refine wpAnyT_take (i := 8) (oi := { dst := some 188, op := Op.binOp BinOp.add 2 (Operand.tmp 185) (Operand.tmp 187) 2, type := 2, pos := "ref.go:112", after := #[{ on := 5, ground := Ground.data }, { on := 7, ground := Ground.data }], guard := none }) (v := .int .i64 (g.l.n + o.l.n)) [12] rfl (by kernel_rfl) (by kernel_rfl) (by kernel_rfl) (by kernel_rfl) (fun _ _ _ h => h) (Or.inl ⟨by rfl, ?_⟩) ⟨KP.out.at_, KP.out.lx⟩ ?_
                    · intro wq hSw
                      obtain ⟨y0, y1, y2, y3, y4, y5, y6⟩ := hSw.1.cells
                      obtain ⟨z0, z1, z2, z3, z4⟩ := hSw.2.cells
                      simp only at y2 y3 y4 y5 y6
                      go_simp
                    (try simp only [Act.put, List.setIfInBounds_toArray, List.set_cons_zero, List.set_cons_succ])
                    refine wpAnyT_one (i := 9) (o := { dst := some 189, op := Op.nilCheck (Operand.tmp 180), type := 0, pos := "ref.go:112", after := #[{ on := 0, ground := Ground.data }, { on := 0, ground := Ground.phase }, { on := 1, ground := Ground.phase }, { on := 2, ground := Ground.phase }, { on := 3, ground := Ground.phase }, { on := 4, ground := Ground.phase }, { on := 5, ground := Ground.phase }, { on := 6, ground := Ground.phase }, { on := 7, ground := Ground.phase }, { on := 8, ground := Ground.phase }], guard := none }) (by kernel_rfl) rfl (fun K9 hK9 => ?_)
                    go_simp
                    refine hK9.out _ _ (fun _ => ⟨KP.out.at_, KP.out.lx⟩) ?_
                    clear hK9 K9
                    (try simp only [Act.put, List.setIfInBounds_toArray, List.set_cons_zero, List.set_cons_succ])
                    refine wpAnyT_one (i := 10) (o := { dst := some 190, op := Op.fieldAddr 66 (Operand.tmp 189) 2, type := 0, pos := "ref.go:112", after := #[{ on := 9, ground := Ground.data }, { on := 0, ground := Ground.phase }, { on := 1, ground := Ground.phase }, { on := 2, ground := Ground.phase }, { on := 3, ground := Ground.phase }, { on := 4, ground := Ground.phase }, { on := 5, ground := Ground.phase }, { on := 6, ground := Ground.phase }, { on := 7, ground := Ground.phase }, { on := 8, ground := Ground.phase }], guard := none }) (by kernel_rfl) rfl (fun K9 hK9 => ?_)
                    go_simp
                    refine hK9.out _ _ (fun _ => ⟨KP.out.at_, KP.out.lx⟩) ?_
                    clear hK9 K9
                    (try simp only [Act.put, List.setIfInBounds_toArray, List.set_cons_zero, List.set_cons_succ])
                    refine wpAnyT_one (i := 11) (o := { dst := some 191, op := Op.fieldAddr 44 (Operand.tmp 190) 0, type := 0, pos := "ref.go:112", after := #[{ on := 10, ground := Ground.data }, { on := 0, ground := Ground.phase }, { on := 1, ground := Ground.phase }, { on := 2, ground := Ground.phase }, { on := 3, ground := Ground.phase }, { on := 4, ground := Ground.phase }, { on := 5, ground := Ground.phase }, { on := 6, ground := Ground.phase }, { on := 7, ground := Ground.phase }, { on := 8, ground := Ground.phase }], guard := none }) (by kernel_rfl) rfl (fun K9 hK9 => ?_)
                    go_simp
                    refine hK9.out _ _ (fun _ => ⟨KP.out.at_, KP.out.lx⟩) ?_
                    clear hK9 K9
                    (try simp only [Act.put, List.setIfInBounds_toArray, List.set_cons_zero, List.set_cons_succ])
                    obtain ⟨y0, y1, y2, y3, y4, y5, y6⟩ := KP.out.at_.cells
                    simp only at y2 y3 y4 y5 y6
                    have f2 := KP.out.at_.frozen 2
                    have MT := hide (KP.out.s2 (g.l.n + o.l.n))
                    simp only at MT
                    refine wpAnyT_one (i := 12) (o := { dst := none, op := Op.store 2 (Operand.tmp 191) (Operand.tmp 188), type := 0, pos := "ref.go:112", after := #[{ on := 11, ground := Ground.data }, { on := 8, ground := Ground.data }, { on := 0, ground := Ground.phase }, { on := 1, ground := Ground.phase }, { on := 2, ground := Ground.phase }, { on := 3, ground := Ground.phase }, { on := 4, ground := Ground.phase }, { on := 5, ground := Ground.phase }, { on := 6, ground := Ground.phase }, { on := 7, ground := Ground.phase }, { on := 8, ground := Ground.phase }], guard := none }) (by kernel_rfl) rfl (fun K9 hK9 => ?_)
                    go_simp
                    refine hK9.out _ _ (vac (by kernel_rfl)) ?_
                    clear hK9 K9
                    (try simp only [Act.put, List.setIfInBounds_toArray, List.set_cons_zero, List.set_cons_succ])
                    refine wpAnyT_done (by kernel_rfl) ?_ _
                    clear y0 y1 y2 y3 y4 y5 y6 f2 KP
                    go_wp2_with fail
                    go_ret
                    have ft := MT.out
                    rw [MIX.out] at ft
                    have e9 : mgF g o = ⟨g.bs, addL g.cs o.cs, ⟨g.l.n + o.l.n, g.l.na + o.l.na, o.l.lo, o.l.hi, me2⟩⟩ := by unfold mgF; rw [HL'.out]
                    rw [e9]
                    exact .inl ⟨SAME.out, rfl, ft.at_, ft.but⟩
                  · skip
                    have HL' := hide HL.out
                    rw [if_pos hq1, if_neg hq2] at HL'
                    clear HL
                    go_upto_region 21 with fail
                    go_quiet ((go_at_call 23; exact Calls.quiet_of_same (hC1 _)))
                    replace MT := hide (MT.out.below (below_drewN (Below.refl _ _) nq))
                    clear y0 y1 y2 y3 y4 y5 y6 z0 z1 z2 z3 z4
                    generalize w5.drewN nq = w6 at *
                    obtain ⟨y0, y1, y2, y3, y4, y5, y6⟩ := MT.out.at_.cells
                    obtain ⟨z0, z1, z2, z3, z4⟩ := MT.out.lx.cells
                    simp only at y2 y3 y4 y5 y6
                    have f4 := MT.out.at_.frozen 4
                    have MT2 := hide (MT.out.s4 o.l.lo)
                    simp only at MT2
                    go_upto_region 23 with fail
                    replace MT := MT2
                    clear MT2 f4 y0 y1 y2 y3 y4 y5 y6 z0 z1 z2 z3 z4
                    generalize w6.setCell ⟨b, 4, none⟩ (.float .f64 o.l.lo) = w7 at *
                    obtain ⟨y0, y1, y2, y3, y4, y5, y6⟩ := MT.out.at_.cells
                    obtain ⟨z0, z1, z2, z3, z4⟩ := MT.out.lx.cells
                    simp only at y2 y3 y4 y5 y6
                    go_quiet ((go_at_call 23; exact Calls.quiet_of_same (hC2 _)))
                    replace MT := hide (MT.out.below (below_drewN (Below.refl _ _) nq))
                    clear y0 y1 y2 y3 y4 y5 y6 z0 z1 z2 z3 z4
                    generalize w7.drewN nq = w8 at *
                    obtain ⟨y0, y1, y2, y3, y4, y5, y6⟩ := MT.out.at_.cells
                    obtain ⟨z0, z1, z2, z3, z4⟩ := MT.out.lx.cells
                    simp only at y2 y3 y4 y5 y6
                    go_upto_region 25 with fail
                    have KP : Hid (Mt w w8.drew b (⟨g.bs, mixL g.cs o.cs j, ⟨g.l.n, g.l.na + o.l.na, o.l.lo, g.l.hi, g.l.me⟩⟩ : G) (.slice xo i xc) (.slice (some ⟨cb, 0, none⟩) j ca) pb o.l) := MT.out.below (Below.refl _ _).drew
                    clear MT y0 y1 y2 y3 y4 y5 y6 z0 z1 z2 z3 z4
                    refine wp_region_T (fun q => At 66 q b (⟨g.bs, mixL g.cs o.cs j, ⟨g.l.n, g.l.na + o.l.na, o.l.lo, g.l.hi, g.l.me⟩⟩ : G) (.slice xo i xc) (.slice (some ⟨cb, 0, none⟩) j ca) ∧ Lx q pb o.l) 8 (by kernel_rfl) ?_
                    generalize w8.drew = q1 at *
                    refine wpAnyT_take (i := 0) (oi := { dst := some 144, op := Op.fieldAddr 44 (Operand.tmp 6) 4, type := 0, pos := "ref.go:108", after := #[], guard := none }) (v := .pointer (some ⟨pb, 4, none⟩)) [1, 7, 8] rfl (by kernel_rfl) (by kernel_rfl) (by kernel_rfl) (by kernel_rfl) (fun _ _ _ h => h) (Or.inl ⟨by rfl, ?_⟩) ⟨KP.out.at_, KP.out.lx⟩ ?_
                    · intro wq hSw
                      obtain ⟨y0, y1, y2, y3, y4, y5, y6⟩ := hSw.1.cells
                      obtain ⟨z0, z1, z2, z3, z4⟩ := hSw.2.cells
                      simp only at y2 y3 y4 y5 y6
                      go_simp
                    (try simp only [Act.put, List.setIfInBounds_toArray, List.set_cons_zero, List.set_cons_succ])
                    refine wpAnyT_take (i := 1) (oi := { dst := some 145, op := Op.load 26 (Operand.tmp 144), type := 26, pos := "ref.go:108", after := #[{ on := 0, ground := Ground.data }], guard := none }) (v := .float .f64 o.l.me) [7, 8] rfl (by kernel_rfl) (by kernel_rfl) (by kernel_rfl) (by kernel_rfl) (fun _ _ _ h => h) (Or.inl ⟨by rfl, ?_⟩) ⟨KP.out.at_, KP.out.lx⟩ ?_
                    · intro wq hSw
                      obtain ⟨y0, y1, y2, y3, y4, y5, y6⟩ := hSw.1.cells
                      obtain ⟨z0, z1, z2, z3, z4⟩ := hSw.2.cells
                      simp only at y2 y3 y4 y5 y6
                      go_simp
                    (try simp only [Act.put, List.setIfInBounds_toArray, List.set_cons_zero, List.set_cons_succ])
                    refine wpAnyT_take (i := 2) (oi := { dst := some 146, op := Op.move (Operand.tmp 0), type := 31, pos := "ref.go:108", after := #[], guard := none }) (v := .pointer (some ⟨b, 0, none⟩)) [3, 4, 5, 6, 7, 8] rfl (by kernel_rfl) (by kernel_rfl) (by kernel_rfl) (by kernel_rfl) (fun _ _ _ h => h) (Or.inl ⟨by rfl, ?_⟩) ⟨KP.out.at_, KP.out.lx⟩ ?_
                    · intro wq hSw
                      obtain ⟨y0, y1, y2, y3, y4, y5, y6⟩ := hSw.1.cells
                      obtain ⟨z0, z1, z2, z3, z4⟩ := hSw.2.cells
                      simp only at y2 y3 y4 y5 y6
                      go_simp
                    (try simp only [Act.put, List.setIfInBounds_toArray, List.set_cons_zero, List.set_cons_succ])
                    refine wpAnyT_take (i := 3) (oi := { dst := some 147, op := Op.nilCheck (Operand.tmp 146), type := 0, pos := "ref.go:108", after := #[{ on := 2, ground := Ground.data }], guard := none }) (v := .pointer (some ⟨b, 0, none⟩)) [4, 5, 6, 7, 8] rfl (by kernel_rfl) (by kernel_rfl) (by kernel_rfl) (by kernel_rfl) (fun _ _ _ h => h) (Or.inl ⟨by rfl, ?_⟩) ⟨KP.out.at_, KP.out.lx⟩ ?_
                    · intro wq hSw
                      obtain ⟨y0, y1, y2, y3, y4, y5, y6⟩ := hSw.1.cells
                      obtain ⟨z0, z1, z2, z3, z4⟩ := hSw.2.cells
                      simp only at y2 y3 y4 y5 y6
                      go_simp
                    (try simp only [Act.put, List.setIfInBounds_toArray, List.set_cons_zero, List.set_cons_succ])
                    refine wpAnyT_take (i := 4) (oi := { dst := some 148, op := Op.fieldAddr 66 (Operand.tmp 147) 2, type := 0, pos := "ref.go:108", after := #[{ on := 3, ground := Ground.data }], guard := none }) (v := .pointer (some ⟨b, 2, none⟩)) [5, 6, 7, 8] rfl (by kernel_rfl) (by kernel_rfl) (by kernel_rfl) (by kernel_rfl) (fun _ _ _ h => h) (Or.inl ⟨by rfl, ?_⟩) ⟨KP.out.at_, KP.out.lx⟩ ?_
                    · intro wq hSw
                      obtain ⟨y0, y1, y2, y3, y4, y5, y6⟩ := hSw.1.cells
                      obtain ⟨z0, z1, z2, z3, z4⟩ := hSw.2.cells
                      simp only at y2 y3 y4 y5 y6
                      go_simp
                    (try simp only [Act.put, List.setIfInBounds_toArray, List.set_cons_zero, List.set_cons_succ])
                    refine wpAnyT_take (i := 5) (oi := { dst := some 149, op := Op.fieldAddr 44 (Operand.tmp 148) 4, type := 0, pos := "ref.go:108", after := #[{ on := 4, ground := Ground.data }], guard := none }) (v := .pointer (some ⟨b, 6, none⟩)) [6, 7, 8] rfl (by kernel_rfl) (by kernel_rfl) (by kernel_rfl) (by kernel_rfl) (fun _ _ _ h => h) (Or.inl ⟨by rfl, ?_⟩) ⟨KP.out.at_, KP.out.lx⟩ ?_
                    · intro wq hSw
                      obtain ⟨y0, y1, y2, y3, y4, y5, y6⟩ := hSw.1.cells
                      obtain ⟨z0, z1, z2, z3, z4⟩ := hSw.2.cells
                      simp only at y2 y3 y4 y5 y6
                      go_simp
                    (try simp only [Act.put, List.setIfInBounds_toArray, List.set_cons_zero, List.set_cons_succ])
                    refine wpAnyT_take (i := 6) (oi := { dst := some 150, op := Op.load 26 (Operand.tmp 149), type := 26, pos := "ref.go:108", after := #[{ on := 5, ground := Ground.data }], guard := none }) (v := .float .f64 g.l.me) [7, 8] rfl (by kernel_rfl) (by kernel_rfl) (by kernel_rfl) (by kernel_rfl) (fun _ _ _ h => h) (Or.inl ⟨by rfl, ?_⟩) ⟨KP.out.at_, KP.out.lx⟩ ?_
                    · intro wq hSw
                      obtain ⟨y0, y1, y2, y3, y4, y5, y6⟩ := hSw.1.cells
                      obtain ⟨z0, z1, z2, z3, z4⟩ := hSw.2.cells
                      simp only at y2 y3 y4 y5 y6
                      go_simp
                    (try simp only [Act.put, List.setIfInBounds_toArray, List.set_cons_zero, List.set_cons_succ])
                    obtain ⟨dv, n1, e1, i1⟩ := sub2 o.l.me g.l.me q1
                    have KP1 : Hid (Mt w (q1.drewN n1) b (⟨g.bs, mixL g.cs o.cs j, ⟨g.l.n, g.l.na + o.l.na, o.l.lo, g.l.hi, g.l.me⟩⟩ : G) (.slice xo i xc) (.slice (some ⟨cb, 0, none⟩) j ca) pb o.l) := KP.out.below (below_drewN (Below.refl _ _) n1)
                    refine wpAnyT_one (i := 7) (o := { dst := some 151, op := Op.binOp BinOp.sub 26 (Operand.tmp 145) (Operand.tmp 150) 26, type := 26, pos := "ref.go:108", after := #[{ on := 1, ground := Ground.data }, { on := 6, ground := Ground.data }], guard := none }) (by kernel_rfl) rfl (fun K9 hK9 => ?_)
                    go_simp
                    refine hK9.out _ _ (fun _ => ⟨KP1.out.at_, KP1.out.lx⟩) ?_
                    clear hK9 K9
                    (try simp only [Act.put, List.setIfInBounds_toArray, List.set_cons_zero, List.set_cons_succ])
                    refine wpAnyT_one (i := 8) (o := { dst := some 9, op := Op.assign (Operand.tmp 151), type := 26, pos := "ref.go:108", after := #[{ on := 7, ground := Ground.data }, { on := 0, ground := Ground.phase }, { on := 1, ground := Ground.phase }, { on := 2, ground := Ground.phase }, { on := 3, ground := Ground.phase }, { on := 4, ground := Ground.phase }, { on := 5, ground := Ground.phase }, { on := 6, ground := Ground.phase }, { on := 7, ground := Ground.phase }], guard := none }) (by kernel_rfl) rfl (fun K9 hK9 => ?_)
                    go_simp
                    refine hK9.out _ _ (vac (by kernel_rfl)) ?_
                    clear hK9 K9
                    (try simp only [Act.put, List.setIfInBounds_toArray, List.set_cons_zero, List.set_cons_succ])
                    refine wpAnyT_done (by kernel_rfl) ?_ _
                    clear KP e1
                    generalize q1.drewN n1 = w10 at *
                    go_upto_region 26 with fail
                    have KP : Hid (Mt w w10.drew b (⟨g.bs, mixL g.cs o.cs j, ⟨g.l.n, g.l.na + o.l.na, o.l.lo, g.l.hi, g.l.me⟩⟩ : G) (.slice xo i xc) (.slice (some ⟨cb, 0, none⟩) j ca) pb o.l) := KP1.out.below (Below.refl _ _).drew
                    clear KP1
                    refine wp_region_T (fun q => At 66 q b (⟨g.bs, mixL g.cs o.cs j, ⟨g.l.n, g.l.na + o.l.na, o.l.lo, g.l.hi, g.l.me⟩⟩ : G) (.slice xo i xc) (.slice (some ⟨cb, 0, none⟩) j ca) ∧ Lx q pb o.l) 13 (by kernel_rfl) ?_
                    generalize w10.drew = q2 at *
                    refine wpAnyT_take (i := 0) (oi := { dst := some 152, op := Op.fieldAddr 44 (Operand.tmp 6) 0, type := 0, pos := "ref.go:109", after := #[], guard := none }) (v := .pointer (some ⟨pb, 0, none⟩)) [1, 2, 12, 13] rfl (by kernel_rfl) (by kernel_rfl) (by kernel_rfl) (by kernel_rfl) (fun _ _ _ h => h) (Or.inl ⟨by rfl, ?_⟩) ⟨KP.out.at_, KP.out.lx⟩ ?_
                    · intro wq hSw
                      obtain ⟨y0, y1, y2, y3, y4, y5, y6⟩ := hSw.1.cells
                      obtain ⟨z0, z1, z2, z3, z4⟩ := hSw.2.cells
                      simp only at y2 y3 y4 y5 y6
                      go_simp
                    (try simp only [Act.put, List.setIfInBounds_toArray, List.set_cons_zero, List.set_cons_succ])
                    refine wpAnyT_take (i := 1) (oi := { dst := some 153, op := Op.load 2 (Operand.tmp 152), type := 2, pos := "ref.go:109", after := #[{ on := 0, ground := Ground.data }], guard := none }) (v := .int .i64 o.l.n) [2, 12, 13] rfl (by kernel_rfl) (by kernel_rfl) (by kernel_rfl) (by kernel_rfl) (fun _ _ _ h => h) (Or.inl ⟨by rfl, ?_⟩) ⟨KP.out.at_, KP.out.lx⟩ ?_
                    · intro wq hSw
                      obtain ⟨y0, y1, y2, y3, y4, y5, y6⟩ := hSw.1.cells
                      obtain ⟨z0, z1, z2, z3, z4⟩ := hSw.2.cells
                      simp only at y2 y3 y4 y5 y6
                      go_simp
                    (try simp only [Act.put, List.setIfInBounds_toArray, List.set_cons_zero, List.set_cons_succ])
                    refine wpAnyT_take (i := 2) (oi := { dst := some 154, op := Op.convert 2 26 (Operand.tmp 153), type := 26, pos := "ref.go:109", after := #[{ on := 1, ground := Ground.data }], guard := none }) (v := .float .f64 (nfB o.l.n)) [12, 13] rfl (by kernel_rfl) (by kernel_rfl) (by kernel_rfl) (by kernel_rfl) (fun _ _ _ h => h) (Or.inl ⟨by rfl, ?_⟩) ⟨KP.out.at_, KP.out.lx⟩ ?_
                    · intro wq hSw
                      obtain ⟨y0, y1, y2, y3, y4, y5, y6⟩ := hSw.1.cells
                      obtain ⟨z0, z1, z2, z3, z4⟩ := hSw.2.cells
                      simp only at y2 y3 y4 y5 y6
                      go_simp
                    (try simp only [Act.put, List.setIfInBounds_toArray, List.set_cons_zero, List.set_cons_succ])
                    refine wpAnyT_take (i := 3) (oi := { dst := some 155, op := Op.move (Operand.tmp 0), type := 31, pos := "ref.go:109", after := #[], guard := none }) (v := .pointer (some ⟨b, 0, none⟩)) [4, 5, 6, 7, 10, 11, 12, 13] rfl (by kernel_rfl) (by kernel_rfl) (by kernel_rfl) (by kernel_rfl) (fun _ _ _ h => h) (Or.inl ⟨by rfl, ?_⟩) ⟨KP.out.at_, KP.out.lx⟩ ?_
                    · intro wq hSw
                      obtain ⟨y0, y1, y2, y3, y4, y5, y6⟩ := hSw.1.cells
                      obtain ⟨z0, z1, z2, z3, z4⟩ := hSw.2.cells
                      simp only at y2 y3 y4 y5 y6
                      go_simp
                    (try simp only [Act.put, List.setIfInBounds_toArray, List.set_cons_zero, List.set_cons_succ])
                    refine wpAnyT_take (i := 4) (oi := { dst := some 156, op := Op.nilCheck (Operand.tmp 155), type := 0, pos := "ref.go:109", after := #[{ on := 3, ground := Ground.data }], guard := none }) (v := .pointer (some ⟨b, 0, none⟩)) [5, 6, 7, 10, 11, 12, 13] rfl (by kernel_rfl) (by kernel_rfl) (by kernel_rfl) (by kernel_rfl) (fun _ _ _ h => h) (Or.inl ⟨by rfl, ?_⟩) ⟨KP.out.at_, KP.out.lx⟩ ?_
                    · intro wq hSw
                      obtain ⟨y0, y1, y2, y3, y4, y5, y6⟩ := hSw.1.cells
                      obtain ⟨z0, z1, z2, z3, z4⟩ := hSw.2.cells
                      simp only at y2 y3 y4 y5 y6
                      go_simp
                    (try simp only [Act.put, List.setIfInBounds_toArray, List.set_cons_zero, List.set_cons_succ])
                    refine wpAnyT_take (i := 5) (oi := { dst := some 157, op := Op.fieldAddr 66 (Operand.tmp 156) 2, type := 0, pos := "ref.go:109", after := #[{ on := 4, ground := Ground.data }], guard := none }) (v := .pointer (some ⟨b, 2, none⟩)) [6, 7, 10, 11, 12, 13] rfl (by kernel_rfl) (by kernel_rfl) (by kernel_rfl) (by kernel_rfl) (fun _ _ _ h => h) (Or.inl ⟨by rfl, ?_⟩) ⟨KP.out.at_, KP.out.lx⟩ ?_
                    · intro wq hSw
                      obtain ⟨y0, y1, y2, y3, y4, y5, y6⟩ := hSw.1.cells
                      obtain ⟨z0, z1, z2, z3, z4⟩ := hSw.2.cells
                      simp only at y2 y3 y4 y5 y6
                      go_simp
                    (try simp only [Act.put, List.setIfInBounds_toArray, List.set_cons_zero, List.set_cons_succ])
                    refine wpAnyT_take (i := 6) (oi := { dst := some 158, op := Op.fieldAddr 44 (Operand.tmp 157) 0, type := 0, pos := "ref.go:109", after := #[{ on := 5, ground := Ground.data }], guard := none }) (v := .pointer (some ⟨b, 2, none⟩)) [7, 10, 11, 12, 13] rfl (by kernel_rfl) (by kernel_rfl) (by kernel_rfl) (by kernel_rfl) (fun _ _ _ h => h) (Or.inl ⟨by rfl, ?_⟩) ⟨KP.out.at_, KP.out.lx⟩ ?_
                    · intro wq hSw
                      obtain ⟨y0, y1, y2, y3, y4, y5, y6⟩ := hSw.1.cells
                      obtain ⟨z0, z1, z2, z3, z4⟩ := hSw.2.cells
                      simp only at y2 y3 y4 y5 y6
                      go_simp
                    (try simp only [Act.put, List.setIfInBounds_toArray, List.set_cons_zero, List.set_cons_succ])
                    refine wpAnyT_take (i := 7) (oi := { dst := some 159, op := Op.load 2 (Operand.tmp 158), type := 2, pos := "ref.go:109", after := #[{ on := 6, ground := Ground.data }], guard := none }) (v := .int .i64 g.l.n) [10, 11, 12, 13] rfl (by kernel_rfl) (by kernel_rfl) (by kernel_rfl) (by kernel_rfl) (fun _ _ _ h => h) (Or.inl ⟨by rfl, ?_⟩) ⟨KP.out.at_, KP.out.lx⟩ ?_
                    · intro wq hSw
                      obtain ⟨y0, y1, y2, y3, y4, y5, y6⟩ := hSw.1.cells
                      obtain ⟨z0, z1, z2, z3, z4⟩ := hSw.2.cells
                      simp only at y2 y3 y4 y5 y6
                      go_simp
                    (try simp only [Act.put, List.setIfInBounds_toArray, List.set_cons_zero, List.set_cons_succ])
                    refine wpAnyT_take (i := 8) (oi := { dst := some 160, op := Op.fieldAddr 44 (Operand.tmp 6) 0, type := 0, pos := "ref.go:109", after := #[], guard := none }) (v := .pointer (some ⟨pb, 0, none⟩)) [9, 10, 11, 12, 13] rfl (by kernel_rfl) (by kernel_rfl) (by kernel_rfl) (by kernel_rfl) (fun _ _ _ h => h) (Or.inl ⟨by rfl, ?_⟩) ⟨KP.out.at_, KP.out.lx⟩ ?_
                    · intro wq hSw
                      obtain ⟨y0, y1, y2, y3, y4, y5, y6⟩ := hSw.1.cells
                      obtain ⟨z0, z1, z2, z3, z4⟩ := hSw.2.cells
                      simp only at y2 y3 y4 y5 y6
                      go_simp
                    (try simp only [Act.put, List.setIfInBounds_toArray, List.set_cons_zero, List.set_cons_succ])
                    refine wpAnyT_take (i := 9) (oi := { dst := some 161, op := Op.load 2 (Operand.tmp 160), type := 2, pos := "ref.go:109", after := #[{ on := 8, ground := Ground.data }], guard := none }) (v := .int .i64 o.l.n) [10, 11, 12, 13] rfl (by kernel_rfl) (by kernel_rfl) (by kernel_rfl) (by kernel_rfl) (fun _ _ _ h => h) (Or.inl ⟨by rfl, ?_⟩) ⟨KP.out.at_, KP.out.lx⟩ ?_
                    · intro wq hSw
                      obtain ⟨y0, y1, y2, y3, y4, y5, y6⟩ := hSw.1.cells
                      obtain ⟨z0, z1, z2, z3, z4⟩ := hSw.2.cells
                      simp only at y2 y3 y4 y5 y6
                      go_simp
                    (try simp only [Act.put, List.setIfInBounds_toArray, List.set_cons_zero, List.set_cons_succ])
                    refine wpAnyT_take (i := 10) (oi := { dst := some 162, op := Op.binOp BinOp.add 2 (Operand.tmp 159) (Operand.tmp 161) 2, type := 2, pos := "ref.go:109", after := #[{ on := 7, ground := Ground.data }, { on := 9, ground := Ground.data }], guard := none }) (v := .int .i64 (g.l.n + o.l.n)) [11, 12, 13] rfl (by kernel_rfl) (by kernel_rfl) (by kernel_rfl) (by kernel_rfl) (fun _ _ _ h => h) (Or.inl ⟨by rfl, ?_⟩) ⟨KP.out.at_, KP.out.lx⟩ ?_
                    · intro wq hSw
                      obtain ⟨y0, y1, y2, y3, y4, y5, y6⟩ := hSw.1.cells
                      obtain ⟨z0, z1, z2, z3, z4⟩ := hSw.2.cells
                      simp only at y2 y3 y4 y5 y6
                      go_simp
                    (try simp only [Act.put, List.setIfInBounds_toArray, List.set_cons_zero, List.set_cons_succ])
                    refine wpAnyT_take (i := 11) (oi := { dst := some 163, op := Op.convert 2 26 (Operand.tmp 162), type := 26, pos := "ref.go:109", after := #[{ on := 10, ground := Ground.data }], guard := none }) (v := .float .f64 (nfB (g.l.n + o.l.n))) [12, 13] rfl (by kernel_rfl) (by kernel_rfl) (by kernel_rfl) (by kernel_rfl) (fun _ _ _ h => h) (Or.inl ⟨by rfl, ?_⟩) ⟨KP.out.at_, KP.out.lx⟩ ?_
                    · intro wq hSw
                      obtain ⟨y0, y1, y2, y3, y4, y5, y6⟩ := hSw.1.cells
                      obtain ⟨z0, z1, z2, z3, z4⟩ := hSw.2.cells
                      simp only at y2 y3 y4 y5 y6
                      go_simp
                    (try simp only [Act.put, List.setIfInBounds_toArray, List.set_cons_zero, List.set_cons_succ])
                    obtain ⟨wv, n2, e2, i2⟩ := div2 (nfB o.l.n) (nfB (g.l.n + o.l.n)) q2
                    have KP2 : Hid (Mt w (q2.drewN n2) b (⟨g.bs, mixL g.cs o.cs j, ⟨g.l.n, g.l.na + o.l.na, o.l.lo, g.l.hi, g.l.me⟩⟩ : G) (.slice xo i xc) (.slice (some ⟨cb, 0, none⟩) j ca) pb o.l) := KP.out.below (below_drewN (Below.refl _ _) n2)
                    refine wpAnyT_one (i := 12) (o := { dst := some 164, op := Op.binOp BinOp.quo 26 (Operand.tmp 154) (Operand.tmp 163) 26, type := 26, pos := "ref.go:109", after := #[{ on := 2, ground := Ground.data }, { on := 11, ground := Ground.data }], guard := none }) (by kernel_rfl) rfl (fun K9 hK9 => ?_)
                    go_simp
                    refine hK9.out _ _ (fun _ => ⟨KP2.out.at_, KP2.out.lx⟩) ?_
                    clear hK9 K9
                    (try simp only [Act.put, List.setIfInBounds_toArray, List.set_cons_zero, List.set_cons_succ])
                    refine wpAnyT_one (i := 13) (o := { dst := some 10, op := Op.assign (Operand.tmp 164), type := 26, pos := "ref.go:109", after := #[{ on := 12, ground := Ground.data }, { on := 0, ground := Ground.phase }, { on := 1, ground := Ground.phase }, { on := 2, ground := Ground.phase }, { on := 3, ground := Ground.phase }, { on := 4, ground := Ground.phase }, { on := 5, ground := Ground.phase }, { on := 6, ground := Ground.phase }, { on := 7, ground := Ground.phase }, { on := 8, ground := Ground.phase }, { on := 9, ground := Ground.phase }, { on := 10, ground := Ground.phase }, { on := 11, ground := Ground.phase }, { on := 12, ground := Ground.phase }], guard := none }) (by kernel_rfl) rfl (fun K9 hK9 => ?_)
                    go_simp
                    refine hK9.out _ _ (vac (by kernel_rfl)) ?_
                    clear hK9 K9
                    (try simp only [Act.put, List.setIfInBounds_toArray, List.set_cons_zero, List.set_cons_succ])
                    refine wpAnyT_done (by kernel_rfl) ?_ _
                    clear KP e2
                    generalize q2.drewN n2 = w11 at *
                    obtain ⟨yv, n3, e3, i3⟩ := mul2 dv wv w11
                    obtain ⟨sv, n4, e4, i4⟩ := add2 g.l.me yv (w11.drewN n3)
                    rw [World.drewN_drewN] at e4
                    have i5 : Is (Ieee.double.mul (subB o.l.me g.l.me) (divB (nfB o.l.n) (nfB (g.l.n + o.l.n)))) yv := ⟨i3.1, by rw [i3.2, mul_same i1.c i2.c]; rfl⟩
                    have hCa := fun u => refCanon_any u sv i4.lt
                    have hme : canonB sv = addB g.l.me (mulB (subB o.l.me g.l.me) (divB (nfB o.l.n) (nfB (g.l.n + o.l.n)))) := i4.add i5
                    obtain ⟨me2, hme2⟩ : ∃ m, Hid (addB g.l.me (mulB (subB o.l.me g.l.me) (divB (nfB o.l.n) (nfB (g.l.n + o.l.n)))) = m) := ⟨_, rfl⟩
                    rw [hme, hme2.out] at hCa
                    rw [hme2.out] at HL'
                    clear i1 i2 i3 i4 i5 hme
                    have MT3 := KP2.out.below (below_drewN (Below.refl _ _) (n3 + n4))
                    obtain ⟨y0, y1, y2, y3, y4, y5, y6⟩ := MT3.at_.cells
                    simp only at y2 y3 y4 y5 y6
                    obtain ⟨z0, z1, z2, z3, z4, z5, z6⟩ := KP2.out.at_.cells
                    simp only at z2 z3 z4 z5 z6
                    have f6 := MT3.at_.frozen 6
                    have MT := hide (MT3.s6 me2)
                    simp only at MT
                    clear MT3 KP2
                    go_upto_region 29 with (go_at_call 37; refine (hCa _).mono ?_; rintro e w' ⟨rfl, hw⟩; rw [hw]; clear hw w')
                    clear y0 y1 y2 y3 y4 y5 y6 z0 z1 z2 z3 z4 z5 z6 f6 e3 e4
                    generalize (w11.drewN (n3 + n4)).setCell ⟨b, 6, none⟩ (.float .f64 me2) = w12 at *
                    have KP : Hid (Mt w w12.drew b (⟨g.bs, mixL g.cs o.cs j, ⟨g.l.n, g.l.na + o.l.na, o.l.lo, g.l.hi, me2⟩⟩ : G) (.slice xo i xc) (.slice (some ⟨cb, 0, none⟩) j ca) pb o.l) := MT.out.below (Below.refl _ _).drew
                    clear MT
                    refine wp_region_T (fun q => At 66 q b (⟨g.bs, mixL g.cs o.cs j, ⟨g.l.n, g.l.na + o.l.na, o.l.lo, g.l.hi, me2⟩⟩ : G) (.slice xo i xc) (.slice (some ⟨cb, 0, none⟩) j ca) ∧ Lx q pb o.l) 12 (by kernel_rfl) ?_
                    generalize w12.drew = q3 at *
                    refine wpAnyT_take (i := 0) (oi := { dst := some 180, op := Op.move (Operand.tmp 0), type := 31, pos := "ref.go:112", after := #[], guard := none }) (v := .pointer (some ⟨b, 0, none⟩)) [9, 10, 11, 12] rfl (by kernel_rfl) (by kernel_rfl) (by kernel_rfl) (by kernel_rfl) (fun _ _ _ h => h) (Or.inl ⟨by rfl, ?_⟩) ⟨KP.out.at_, KP.out.lx⟩ ?_
                    · intro wq hSw
                      obtain ⟨y0, y1, y2, y3, y4, y5, y6⟩ := hSw.1.cells
                      obtain ⟨z0, z1, z2, z3, z4⟩ := hSw.2.cells
                      simp only at y2 y3 y4 y5 y6
                      go_simp
                    (try simp only [Act.put, List.setIfInBounds_toArray, List.set_cons_zero, List.set_cons_succ])
                    refine wpAnyT_take (i := 1) (oi := { dst := some 181, op := Op.move (Operand.tmp 0), type := 31, pos := "ref.go:112", after := #[], guard := none }) (v := .pointer (some ⟨b, 0, none⟩)) [2, 3, 4, 5, 8, 12] rfl (by kernel_rfl) (by kernel_rfl) (by kernel_rfl) (by kernel_rfl) (fun _ _ _ h => h) (Or.inl ⟨by rfl, ?_⟩) ⟨KP.out.at_, KP.out.lx⟩ ?_
                    · intro wq hSw
                      obtain ⟨y0, y1, y2, y3, y4, y5, y6⟩ := hSw.1.cells
                      obtain ⟨z0, z1, z2, z3, z4⟩ := hSw.2.cells
                      simp only at y2 y3 y4 y5 y6
                      go_simp
                    (try simp only [Act.put, List.setIfInBounds_toArray, List.set_cons_zero, List.set_cons_succ])
                    refine wpAnyT_take (i := 2) (oi := { dst := some 182, op := Op.nilCheck (Operand.tmp 181), type := 0, pos := "ref.go:112", after := #[{ on := 1, ground := Ground.data }], guard := none }) (v := .pointer (some ⟨b, 0, none⟩)) [3, 4, 5, 8, 12] rfl (by kernel_rfl) (by kernel_rfl) (by kernel_rfl) (by kernel_rfl) (fun _ _ _ h => h) (Or.inl ⟨by rfl, ?_⟩) ⟨KP.out.at_, KP.out.lx⟩ ?_
                    · intro wq hSw
                      obtain ⟨y0, y1, y2, y3, y4, y5, y6⟩ := hSw.1.cells
                      obtain ⟨z0, z1, z2, z3, z4⟩ := hSw.2.cells
                      simp only at y2 y3 y4 y5 y6
                      go_simp
                    (try simp only [Act.put, List.setIfInBounds_toArray, List.set_cons_zero, List.set_cons_succ])
                    refine wpAnyT_take (i := 3) (oi := { dst := some 183, op := Op.fieldAddr 66 (Operand.tmp 182) 2, type := 0, pos := "ref.go:112", after := #[{ on := 2, ground := Ground.data }], guard := none }) (v := .pointer (some ⟨b, 2, none⟩)) [4, 5, 8, 12] rfl (by kernel_rfl) (by kernel_rfl) (by kernel_rfl) (by kernel_rfl) (fun _ _ _ h => h) (Or.inl ⟨by rfl, ?_⟩) ⟨KP.out.at_, KP.out.lx⟩ ?_
                    · intro wq hSw
                      obtain ⟨y0, y1, y2, y3, y4, y5, y6⟩ := hSw.1.cells
                      obtain ⟨z0, z1, z2, z3, z4⟩ := hSw.2.cells
                      simp only at y2 y3 y4 y5 y6
                      go_simp
                    (try simp only [Act.put, List.setIfInBounds_toArray, List.set_cons_zero, List.set_cons_succ])
                    refine wpAnyT_take (i := 4) (oi := { dst := some 184, op := Op.fieldAddr 44 (Operand.tmp 183) 0, type := 0, pos := "ref.go:112", after := #[{ on := 3, ground := Ground.data }], guard := none }) (v := .pointer (some ⟨b, 2, none⟩)) [5, 8, 12] rfl (by kernel_rfl) (by kernel_rfl) (by kernel_rfl) (by kernel_rfl) (fun _ _ _ h => h) (Or.inl ⟨by rfl, ?_⟩) ⟨KP.out.at_, KP.out.lx⟩ ?_
                    · intro wq hSw
                      obtain ⟨y0, y1, y2, y3, y4, y5, y6⟩ := hSw.1.cells
                      obtain ⟨z0, z1, z2, z3, z4⟩ := hSw.2.cells
                      simp only at y2 y3 y4 y5 y6
                      go_simp
                    (try simp only [Act.put, List.setIfInBounds_toArray, List.set_cons_zero, List.set_cons_succ])
                    refine wpAnyT_take (i := 5) (oi := { dst := some 185, op := Op.load 2 (Operand.tmp 184), type := 2, pos := "ref.go:112", after := #[{ on := 4, ground := Ground.data }], guard := none }) (v := .int .i64 g.l.n) [8, 12] rfl (by kernel_rfl) (by kernel_rfl) (by kernel_rfl) (by kernel_rfl) (fun _ _ _ h => h) (Or.inl ⟨by rfl, ?_⟩) ⟨KP.out.at_, KP.out.lx⟩ ?_
                    · intro wq hSw
                      obtain ⟨y0, y1, y2, y3, y4, y5, y6⟩ := hSw.1.cells
                      obtain ⟨z0, z1, z2, z3, z4⟩ := hSw.2.cells
                      simp only at y2 y3 y4 y5 y6
                      go_simp
                    (try simp only [Act.put, List.setIfInBounds_toArray, List.set_cons_zero, List.set_cons_succ])
                    refine wpAnyT_take (i := 6) (oi := { dst := some 186, op := Op.fieldAddr 44 (Operand.tmp 6) 0, type := 0, pos := "ref.go:112", after := #[], guard := none }) (v := .pointer (some ⟨pb, 0, none⟩)) [7, 8, 12] rfl (by kernel_rfl) (by kernel_rfl) (by kernel_rfl) (by kernel_rfl) (fun _ _ _ h => h) (Or.inl ⟨by rfl, ?_⟩) ⟨KP.out.at_, KP.out.lx⟩ ?_
                    · intro wq hSw
                      obtain ⟨y0, y1, y2, y3, y4, y5, y6⟩ := hSw.1.cells
                      obtain ⟨z0, z1, z2, z3, z4⟩ := hSw.2.cells
                      simp only at y2 y3 y4 y5 y6
                      go_simp
                    (try simp only [Act.put, List.setIfInBounds_toArray, List.set_cons_zero, List.set_cons_succ])
                    refine wpAnyT_take (i := 7) (oi := { dst := some 187, op := Op.load 2 (Operand.tmp 186), type := 2, pos := "ref.go:112", after := #[{ on := 6, ground := Ground.data }], guard := none }) (v := .int .i64 o.l.n) [8, 12] rfl (by kernel_rfl) (by kernel_rfl) (by kernel_rfl) (by kernel_rfl) (fun _ _ _ h => h) (Or.inl ⟨by rfl, ?_⟩) ⟨KP.out.at_, KP.out.lx⟩ ?_
                    · intro wq hSw
                      obtain ⟨y0, y1, y2, y3, y4, y5, y6⟩ := hSw.1.cells
                      obtain ⟨z0, z1, z2, z3, z4⟩ := hSw.2.cells
                      simp only at y2 y3 y4 y5 y6
                      go_simp
                    (try simp only [Act.put, List.setIfInBounds_toArray, List.set_cons_zero, List.set_cons_succ])
                    refine wpAnyT_take (i := 8) (oi := { dst := some 188, op := Op.binOp BinOp.add 2 (Operand.tmp 185) (Operand.tmp 187) 2, type := 2, pos := "ref.go:112", after := #[{ on := 5, ground := Ground.data }, { on := 7, ground := Ground.data }], guard := none }) (v := .int .i64 (g.l.n + o.l.n)) [12] rfl (by kernel_rfl) (by kernel_rfl) (by kernel_rfl) (by kernel_rfl) (fun _ _ _ h => h) (Or.inl ⟨by rfl, ?_⟩) ⟨KP.out.at_, KP.out.lx⟩ ?_
                    · intro wq hSw
                      obtain ⟨y0, y1, y2, y3, y4, y5, y6⟩ := hSw.1.cells
                      obtain ⟨z0, z1, z2, z3, z4⟩ := hSw.2.cells
                      simp only at y2 y3 y4 y5 y6
                      go_simp
                    (try simp only [Act.put, List.setIfInBounds_toArray, List.set_cons_zero, List.set_cons_succ])
                    refine wpAnyT_one (i := 9) (o := { dst := some 189, op := Op.nilCheck (Operand.tmp 180), type := 0, pos := "ref.go:112", after := #[{ on := 0, ground := Ground.data }, { on := 0, ground := Ground.phase }, { on := 1, ground := Ground.phase }, { on := 2, ground := Ground.phase }, { on := 3, ground := Ground.phase }, { on := 4, ground := Ground.phase }, { on := 5, ground := Ground.phase }, { on := 6, ground := Ground.phase }, { on := 7, ground := Ground.phase }, { on := 8, ground := Ground.phase }], guard := none }) (by kernel_rfl) rfl (fun K9 hK9 => ?_)
                    go_simp
                    refine hK9.out _ _ (fun _ => ⟨KP.out.at_, KP.out.lx⟩) ?_
                    clear hK9 K9
                    (try simp only [Act.put, List.setIfInBounds_toArray, List.set_cons_zero, List.set_cons_succ])
                    refine wpAnyT_one (i := 10) (o := { dst := some 190, op := Op.fieldAddr 66 (Operand.tmp 189) 2, type := 0, pos := "ref.go:112", after := #[{ on := 9, ground := Ground.data }, { on := 0, ground := Ground.phase }, { on := 1, ground := Ground.phase }, { on := 2, ground := Ground.phase }, { on := 3, ground := Ground.phase }, { on := 4, ground := Ground.phase }, { on := 5, ground := Ground.phase }, { on := 6, ground := Ground.phase }, { on := 7, ground := Ground.phase }, { on := 8, ground := Ground.phase }], guard := none }) (by kernel_rfl) rfl (fun K9 hK9 => ?_)
                    go_simp
                    refine hK9.out _ _ (fun _ => ⟨KP.out.at_, KP.out.lx⟩) ?_
                    clear hK9 K9
                    (try simp only [Act.put, List.setIfInBounds_toArray, List.set_cons_zero, List.set_cons_succ])
                    refine wpAnyT_one (i := 11) (o := { dst := some 191, op := Op.fieldAddr 44 (Operand.tmp 190) 0, type := 0, pos := "ref.go:112", after := #[{ on := 10, ground := Ground.data }, { on := 0, ground := Ground.phase }, { on := 1, ground := Ground.phase }, { on := 2, ground := Ground.phase }, { on := 3, ground := Ground.phase }, { on := 4, ground := Ground.phase }, { on := 5, ground := Ground.phase }, { on := 6, ground := Ground.phase }, { on := 7, ground := Ground.phase }, { on := 8, ground := Ground.phase }], guard := none }) (by kernel_rfl) rfl (fun K9 hK9 => ?_)
                    go_simp
                    refine hK9.out _ _ (fun _ => ⟨KP.out.at_, KP.out.lx⟩) ?_
                    clear hK9 K9
                    (try simp only [Act.put, List.setIfInBounds_toArray, List.set_cons_zero, List.set_cons_succ])
                    obtain ⟨y0, y1, y2, y3, y4, y5, y6⟩ := KP.out.at_.cells
                    simp only at y2 y3 y4 y5 y6
                    have f2 := KP.out.at_.frozen 2
                    have MT := hide (KP.out.s2 (g.l.n + o.l.n))
                    simp only at MT
                    refine wpAnyT_one (i := 12) (o := { dst := none, op := Op.store 2 (Operand.tmp 191) (Operand.tmp 188), type := 0, pos := "ref.go:112", after := #[{ on := 11, ground := Ground.data }, { on := 8, ground := Ground.data }, { on := 0, ground := Ground.phase }, { on := 1, ground := Ground.phase }, { on := 2, ground := Ground.phase }, { on := 3, ground := Ground.phase }, { on := 4, ground := Ground.phase }, { on := 5, ground := Ground.phase }, { on := 6, ground := Ground.phase }, { on := 7, ground := Ground.phase }, { on := 8, ground := Ground.phase }], guard := none }) (by kernel_rfl) rfl (fun K9 hK9 => ?_)
                    go_simp
                    refine hK9.out _ _ (vac (by kernel_rfl)) ?_
                    clear hK9 K9
                    (try simp only [Act.put, List.setIfInBounds_toArray, List.set_cons_zero, List.set_cons_succ])
                    refine wpAnyT_done (by kernel_rfl) ?_ _
                    clear y0 y1 y2 y3 y4 y5 y6 f2 KP
                    go_wp2_with fail
                    go_ret
                    have ft := MT.out
                    rw [MIX.out] at ft
                    have e9 : mgF g o = ⟨g.bs, addL g.cs o.cs, ⟨g.l.n + o.l.n, g.l.na + o.l.na, o.l.lo, g.l.hi, me2⟩⟩ := by unfold mgF; rw [HL'.out]
                    rw [e9]
                    exact .inl ⟨SAME.out, rfl, ft.at_, ft.but⟩
                · by_cases hq2 : 0 < s2
                  · skip
                    have HL' := hide HL.out
                    rw [if_neg hq1, if_pos hq2] at HL'
                    clear HL
                    go_upto_region 21 with fail
                    go_quiet ((go_at_call 23; exact Calls.quiet_of_same (hC1 _)))
                    replace MT := hide (MT.out.below (below_drewN (Below.refl _ _) nq))
                    clear y0 y1 y2 y3 y4 y5 y6 z0 z1 z2 z3 z4
                    generalize w5.drewN nq = w6 at *
                    obtain ⟨y0, y1, y2, y3, y4, y5, y6⟩ := MT.out.at_.cells
                    obtain ⟨z0, z1, z2, z3, z4⟩ := MT.out.lx.cells
                    simp only at y2 y3 y4 y5 y6
                    go_upto_region 23 with fail
                    go_quiet ((go_at_call 23; exact Calls.quiet_of_same (hC2 _)))
                    replace MT := hide (MT.out.below (below_drewN (Below.refl _ _) nq))
                    clear y0 y1 y2 y3 y4 y5 y6 z0 z1 z2 z3 z4
                    generalize w6.drewN nq = w8 at *
                    obtain ⟨y0, y1, y2, y3, y4, y5, y6⟩ := MT.out.at_.cells
                    obtain ⟨z0, z1, z2, z3, z4⟩ := MT.out.lx.cells
                    simp only at y2 y3 y4 y5 y6
                    have f5 := MT.out.at_.frozen 5
                    have MT2 := hide (MT.out.s5 o.l.hi)
                    simp only at MT2
                    go_upto_region 25 with fail
                    replace MT := MT2
                    clear MT2 f5 y0 y1 y2 y3 y4 y5 y6 z0 z1 z2 z3 z4
                    generalize w8.setCell ⟨b, 5, none⟩ (.float .f64 o.l.hi) = w9 at *
                    obtain ⟨y0, y1, y2, y3, y4, y5, y6⟩ := MT.out.at_.cells
                    obtain ⟨z0, z1, z2, z3, z4⟩ := MT.out.lx.cells
                    simp only at y2 y3 y4 y5 y6
                    have KP : Hid (Mt w w9.drew b (⟨g.bs, mixL g.cs o.cs j, ⟨g.l.n, g.l.na + o.l.na, g.l.lo, o.l.hi, g.l.me⟩⟩ : G) (.slice xo i xc) (.slice (some ⟨cb, 0, none⟩) j ca) pb o.l) := MT.out.below (Below.refl _ _).drew
                    clear MT y0 y1 y2 y3 y4 y5 y6 z0 z1 z2 z3 z4
                    refine wp_region_T (fun q => At 66 q b (⟨g.bs, mixL g.cs o.cs j, ⟨g.l.n, g.l.na + o.l.na, g.l.lo, o.l.hi, g.l.me⟩⟩ : G) (.slice xo i xc) (.slice (some ⟨cb, 0, none⟩) j ca) ∧ Lx q pb o.l) 8 (by kernel_rfl) ?_
                    generalize w9.drew = q1 at *
                    refine wpAnyT_take (i := 0) (oi := { dst := some 144, op := Op.fieldAddr 44 (Operand.tmp 6) 4, type := 0, pos := "ref.go:108", after := #[], guard := none }) (v := .pointer (some ⟨pb, 4, none⟩)) [1, 7, 8] rfl (by kernel_rfl) (by kernel_rfl) (by kernel_rfl) (by kernel_rfl) (fun _ _ _ h => h) (Or.inl ⟨by rfl, ?_⟩) ⟨KP.out.at_, KP.out.lx⟩ ?_
                    · intro wq hSw
                      obtain ⟨y0, y1, y2, y3, y4, y5, y6⟩ := hSw.1.cells
                      obtain ⟨z0, z1, z2, z3, z4⟩ := hSw.2.cells
                      simp only at y2 y3 y4 y5 y6
                      go_simp
                    (try simp only [Act.put, List.setIfInBounds_toArray, List.set_cons_zero, List.set_cons_succ])
                    refine wpAnyT_take (i := 1) (oi := { dst := some 145, op := Op.load 26 (Operand.tmp 144), type := 26, pos := "ref.go:108", after := #[{ on := 0, ground := Ground.data }], guard := none }) (v := .float .f64 o.l.me) [7, 8] rfl (by kernel_rfl) (by kernel_rfl) (by kernel_rfl) (by kernel_rfl) (fun _ _ _ h => h) (Or.inl ⟨by rfl, ?_⟩) ⟨KP.out.at_, KP.out.lx⟩ ?_
                    · intro wq hSw
                      obtain ⟨y0, y1, y2, y3, y4, y5, y6⟩ := hSw.1.cells
                      obtain ⟨z0, z1, z2, z3, z4⟩ := hSw.2.cells
                      simp only at y2 y3 y4 y5 y6
                      go_simp
                    (try simp only [Act.put, List.setIfInBounds_toArray, List.set_cons_zero, List.set_cons_succ])
                    refine wpAnyT_take (i := 2) (oi := { dst := some 146, op := Op.move (Operand.tmp 0), type := 31, pos := "ref.go:108", after := #[], guard := none }) (v := .pointer (some ⟨b, 0, none⟩)) [3, 4, 5, 6, 7, 8] rfl (by kernel_rfl) (by kernel_rfl) (by kernel_rfl) (by kernel_rfl) (fun _ _ _ h => h) (Or.inl ⟨by rfl, ?_⟩) ⟨KP.out.at_, KP.out.lx⟩ ?_
                    · intro wq hSw
                      obtain ⟨y0, y1, y2, y3, y4, y5, y6⟩ := hSw.1.cells
                      obtain ⟨z0, z1, z2, z3, z4⟩ := hSw.2.cells
                      simp only at y2 y3 y4 y5 y6
                      go_simp
                    (try simp only [Act.put, List.setIfInBounds_toArray, List.set_cons_zero, List.set_cons_succ])
                    refine wpAnyT_take (i := 3) (oi := { dst := some 147, op := Op.nilCheck (Operand.tmp 146), type := 0, pos := "ref.go:108", after := #[{ on := 2, ground := Ground.data }], guard := none }) (v := .pointer (some ⟨b, 0, none⟩)) [4, 5, 6, 7, 8] rfl (by kernel_rfl) (by kernel_rfl) (by kernel_rfl) (by kernel_rfl) (fun _ _ _ h => h) (Or.inl ⟨by rfl, ?_⟩) ⟨KP.out.at_, KP.out.lx⟩ ?_
                    · intro wq hSw
                      obtain ⟨y0, y1, y2, y3, y4, y5, y6⟩ := hSw.1.cells
                      obtain ⟨z0, z1, z2, z3, z4⟩ := hSw.2.cells
                      simp only at y2 y3 y4 y5 y6
                      go_simp
                    (try simp only [Act.put, List.setIfInBounds_toArray, List.set_cons_zero, List.set_cons_succ])
                    refine wpAnyT_take (i := 4) (oi := { dst := some 148, op := Op.fieldAddr 66 (Operand.tmp 147) 2, type := 0, pos := "ref.go:108", after := #[{ on := 3, ground := Ground.data }], guard := none }) (v := .pointer (some ⟨b, 2, none⟩)) [5, 6, 7, 8] rfl (by kernel_rfl) (by kernel_rfl) (by kernel_rfl) (by kernel_rfl) (fun _ _ _ h => h) (Or.inl ⟨by rfl, ?_⟩) ⟨KP.out.at_, KP.out.lx⟩ ?_
                    · intro wq hSw
                      obtain ⟨y0, y1, y2, y3, y4, y5, y6⟩ := hSw.1.cells
                      obtain ⟨z0, z1, z2, z3, z4⟩ := hSw.2.cells
                      simp only at y2 y3 y4 y5 y6
                      go_simp
                    (try simp only [Act.put, List.setIfInBounds_toArray, List.set_cons_zero, List.set_cons_succ])
                    refine wpAnyT_take (i := 5) (oi := { dst := some 149, op := Op.fieldAddr 44 (Operand.tmp 148) 4, type := 0, pos := "ref.go:108", after := #[{ on := 4, ground := Ground.data }], guard := none }) (v := .pointer (some ⟨b, 6, none⟩)) [6, 7, 8] rfl (by kernel_rfl) (by kernel_rfl) (by kernel_rfl) (by kernel_rfl) (fun _ _ _ h => h) (Or.inl ⟨by rfl, ?_⟩) ⟨KP.out.at_, KP.out.lx⟩ ?_
                    · intro wq hSw
                      obtain ⟨y0, y1, y2, y3, y4, y5, y6⟩ := hSw.1.cells
                      obtain ⟨z0, z1, z2, z3, z4⟩ := hSw.2.cells
                      simp only at y2 y3 y4 y5 y6
                      go_simp
                    (try simp only [Act.put, List.setIfInBounds_toArray, List.set_cons_zero, List.set_cons_succ])
                    refine wpAnyT_take (i := 6) (oi := { dst := some 150, op := Op.load 26 (Operand.tmp 149), type := 26, pos := "ref.go:108", after := #[{ on := 5, ground := Ground.data }], guard := none }) (v := .float .f64 g.l.me) [7, 8] rfl (by kernel_rfl) (by kernel_rfl) (by kernel_rfl) (by kernel_rfl) (fun _ _ _ h => h) (Or.inl ⟨by rfl, ?_⟩) ⟨KP.out.at_, KP.out.lx⟩ ?_
                    · intro wq hSw
                      obtain ⟨y0, y1, y2, y3, y4, y5, y6⟩ := hSw.1.cells
                      obtain ⟨z0, z1, z2, z3, z4⟩ := hSw.2.cells
                      simp only at y2 y3 y4 y5 y6
                      go_simp
                    (try simp only [Act.put, List.setIfInBounds_toArray, List.set_cons_zero, List.set_cons_succ])
                    obtain ⟨dv, n1, e1, i1⟩ := sub2 o.l.me g.l.me q1
                    have KP1 : Hid (Mt w (q1.drewN n1) b (⟨g.bs, mixL g.cs o.cs j, ⟨g.l.n, g.l.na + o.l.na, g.l.lo, o.l.hi, g.l.me⟩⟩ : G) (.slice xo i xc) (.slice (some ⟨cb, 0, none⟩) j ca) pb o.l) := KP.out.below (below_drewN (Below.refl _ _) n1)
                    refine wpAnyT_one (i := 7) (o := { dst := some 151, op := Op.binOp BinOp.sub 26 (Operand.tmp 145) (Operand.tmp 150) 26, type := 26, pos := "ref.go:108", after := #[{ on := 1, ground := Ground.data }, { on := 6, ground := Ground.data }], guard := none }) (by kernel_rfl) rfl (fun K9 hK9 => ?_)
                    go_simp
                    refine hK9.out _ _ (fun _ => ⟨KP1.out.at_, KP1.out.lx⟩) ?_
                    clear hK9 K9
                    (try simp only [Act.put, List.setIfInBounds_toArray, List.set_cons_zero, List.set_cons_succ])
                    refine wpAnyT_one (i := 8) (o := { dst := some 9, op := Op.assign (Operand.tmp 151), type := 26, pos := "ref.go:108", after := #[{ on := 7, ground := Ground.data }, { on := 0, ground := Ground.phase }, { on := 1, ground := Ground.phase }, { on := 2, ground := Ground.phase }, { on := 3, ground := Ground.phase }, { on := 4, ground := Ground.phase }, { on := 5, ground := Ground.phase }, { on := 6, ground := Ground.phase }, { on := 7, ground := Ground.phase }], guard := none }) (by kernel_rfl) rfl (fun K9 hK9 => ?_)
                    go_simp
                    refine hK9.out _ _ (vac (by kernel_rfl)) ?_
                    clear hK9 K9
                    (try simp only [Act.put, List.setIfInBounds_toArray, List.set_cons_zero, List.set_cons_succ])
                    refine wpAnyT_done (by kernel_rfl) ?_ _
                    clear KP e1
                    generalize q1.drewN n1 = w10 at *
                    go_upto_region 26 with fail
                    have KP : Hid (Mt w w10.drew b (⟨g.bs, mixL g.cs o.cs j, ⟨g.l.n, g.l.na + o.l.na, g.l.lo, o.l.hi, g.l.me⟩⟩ : G) (.slice xo i xc) (.slice (some ⟨cb, 0, none⟩) j ca) pb o.l) := KP1.out.below (Below.refl _ _).drew
                    clear KP1
                    refine wp_region_T (fun q => At 66 q b (⟨g.bs, mixL g.cs o.cs j, ⟨g.l.n, g.l.na + o.l.na, g.l.lo, o.l.hi, g.l.me⟩⟩ : G) (.slice xo i xc) (.slice (some ⟨cb, 0, none⟩) j ca) ∧ Lx q pb o.l) 13 (by kernel_rfl) ?_
                    generalize w10.drew = q2 at *
                    refine wpAnyT_take (i := 0) (oi := { dst := some 152, op := Op.fieldAddr 44 (Operand.tmp 6) 0, type := 0, pos := "ref.go:109", after := #[], guard := none }) (v := .pointer (some ⟨pb, 0, none⟩)) [1, 2, 12, 13] rfl (by kernel_rfl) (by kernel_rfl) (by kernel_rfl) (by kernel_rfl) (fun _ _ _ h => h) (Or.inl ⟨by rfl, ?_⟩) ⟨KP.out.at_, KP.out.lx⟩ ?_
                    · intro wq hSw
                      obtain ⟨y0, y1, y2, y3, y4, y5, y6⟩ := hSw.1.cells
                      obtain ⟨z0, z1, z2, z3, z4⟩ := hSw.2.cells
                      simp only at y2 y3 y4 y5 y6
                      go_simp
                    (try simp only [Act.put, List.setIfInBounds_toArray, List.set_cons_zero, List.set_cons_succ])
                    refine wpAnyT_take (i := 1) (oi := { dst := some 153, op := Op.load 2 (Operand.tmp 152), type := 2, pos := "ref.go:109", after := #[{ on := 0, ground := Ground.data }], guard := none }) (v := .int .i64 o.l.n) [2, 12, 13] rfl (by kernel_rfl) (by kernel_rfl) (by kernel_rfl) (by kernel_rfl) (fun _ _ _ h => h) (Or.inl ⟨by rfl, ?_⟩) ⟨KP.out.at_, KP.out.lx⟩ ?_
                    · intro wq hSw
                      obtain ⟨y0, y1, y2, y3, y4, y5, y6⟩ := hSw.1.cells
                      obtain ⟨z0, z1, z2, z3, z4⟩ := hSw.2.cells
                      simp only at y2 y3 y4 y5 y6
                      go_simp
                    (try simp only [Act.put, List.setIfInBounds_toArray, List.set_cons_zero, List.set_cons_succ])
                    refine wpAnyT_take (i := 2) (oi := { dst := some 154, op := Op.convert 2 26 (Operand.tmp 153), type := 26, pos := "ref.go:109", after := #[{ on := 1, ground := Ground.data }], guard := none }) (v := .float .f64 (nfB o.l.n)) [12, 13] rfl (by kernel_rfl) (by kernel_rfl) (by kernel_rfl) (by kernel_rfl) (fun _ _ _ h => h) (Or.inl ⟨by rfl, ?_⟩) ⟨KP.out.at_, KP.out.lx⟩ ?_
                    · intro wq hSw
                      obtain ⟨y0, y1, y2, y3, y4, y5, y6⟩ := hSw.1.cells
                      obtain ⟨z0, z1, z2, z3, z4⟩ := hSw.2.cells
                      simp only at y2 y3 y4 y5 y6
                      go_simp
                    (try simp only [Act.put, List.setIfInBounds_toArray, List.set_cons_zero, List.set_cons_succ])
                    refine wpAnyT_take (i := 3) (oi := { dst := some 155, op := Op.move (Operand.tmp 0), type := 31, pos := "ref.go:109", after := #[], guard := none }) (v := .pointer (some ⟨b, 0, none⟩)) [4, 5, 6, 7, 10, 11, 12, 13] rfl (by kernel_rfl) (by kernel_rfl) (by kernel_rfl) (by kernel_rfl) (fun _ _ _ h => h) (Or.inl ⟨by rfl, ?_⟩) ⟨KP.out.at_, KP.out.lx⟩ ?_
                    · intro wq hSw
                      obtain ⟨y0, y1, y2, y3, y4, y5, y6⟩ := hSw.1.cells
                      obtain ⟨z0, z1, z2, z3, z4⟩ := hSw.2.cells
                      simp only at y2 y3 y4 y5 y6
                      go_simp
                    (try simp only [Act.put, List.setIfInBounds_toArray, List.set_cons_zero, List.set_cons_succ])
                    refine wpAnyT_take (i := 4) (oi := { dst := some 156, op := Op.nilCheck (Operand.tmp 155), type := 0, pos := "ref.go:109", after := #[{ on := 3, ground := Ground.data }], guard := none }) (v := .pointer (some ⟨b, 0, none⟩)) [5, 6, 7, 10, 11, 12, 13] rfl (by kernel_rfl) (by kernel_rfl) (by kernel_rfl) (by kernel_rfl) (fun _ _ _ h => h) (Or.inl ⟨by rfl, ?_⟩) ⟨KP.out.at_, KP.out.lx⟩ ?_
                    · intro wq hSw
                      obtain ⟨y0, y1, y2, y3, y4, y5, y6⟩ := hSw.1.cells
                      obtain ⟨z0, z1, z2, z3, z4⟩ := hSw.2.cells
                      simp only at y2 y3 y4 y5 y6
                      go_simp
                    (try simp only [Act.put, List.setIfInBounds_toArray, List.set_cons_zero, List.set_cons_succ])
                    refine wpAnyT_take (i := 5) (oi := { dst := some 157, op := Op.fieldAddr 66 (Operand.tmp 156) 2, type := 0, pos := "ref.go:109", after := #[{ on := 4, ground := Ground.data }], guard := none }) (v := .pointer (some ⟨b, 2, none⟩)) [6, 7, 10, 11, 12, 13] rfl (by kernel_rfl) (by kernel_rfl) (by kernel_rfl) (by kernel_rfl) (fun _ _ _ h => h) (Or.inl ⟨by rfl, ?_⟩) ⟨KP.out.at_, KP.out.lx⟩ ?_
                    · intro wq hSw
                      obtain ⟨y0, y1, y2, y3, y4, y5, y6⟩ := hSw.1.cells
                      obtain ⟨z0, z1, z2, z3, z4⟩ := hSw.2.cells
                      simp only at y2 y3 y4 y5 y6
                      go_simp
                    (try simp only [Act.put, List.setIfInBounds_toArray, List.set_cons_zero, List.set_cons_succ])
                    refine wpAnyT_take (i := 6) (oi := { dst := some 158, op := Op.fieldAddr 44 (Operand.tmp 157) 0, type := 0, pos := "ref.go:109", after := #[{ on := 5, ground := Ground.data }], guard := none }) (v := .pointer (some ⟨b, 2, none⟩)) [7, 10, 11, 12, 13] rfl (by kernel_rfl) (by kernel_rfl) (by kernel_rfl) (by kernel_rfl) (fun _ _ _ h => h) (Or.inl ⟨by rfl, ?_⟩) ⟨KP.out.at_, KP.out.lx⟩ ?_
                    · intro wq hSw
                      obtain ⟨y0, y1, y2, y3, y4, y5, y6⟩ := hSw.1.cells
                      obtain ⟨z0, z1, z2, z3, z4⟩ := hSw.2.cells
                      simp only at y2 y3 y4 y5 y6
                      go_simp
                    (try simp only [Act.put, List.setIfInBounds_toArray, List.set_cons_zero, List.set_cons_succ])
                    refine wpAnyT_take (i := 7) (oi := { dst := some 159, op := Op.load 2 (Operand.tmp 158), type := 2, pos := "ref.go:109", after := #[{ on := 6, ground := Ground.data }], guard := none }) (v := .int .i64 g.l.n) [10, 11, 12, 13] rfl (by kernel_rfl) (by kernel_rfl) (by kernel_rfl) (by kernel_rfl) (fun _ _ _ h => h) (Or.inl ⟨by rfl, ?_⟩) ⟨KP.out.at_, KP.out.lx⟩ ?_
                    · intro wq hSw
                      obtain ⟨y0, y1, y2, y3, y4, y5, y6⟩ := hSw.1.cells
                      obtain ⟨z0, z1, z2, z3, z4⟩ := hSw.2.cells
                      simp only at y2 y3 y4 y5 y6
                      go_simp
                    (try simp only [Act.put, List.setIfInBounds_toArray, List.set_cons_zero, List.set_cons_succ])
                    refine wpAnyT_take (i := 8) (oi := { dst := some 160, op := Op.fieldAddr 44 (Operand.tmp 6) 0, type := 0, pos := "ref.go:109", after := #[], guard := none }) (v := .pointer (some ⟨pb, 0, none⟩)) [9, 10, 11, 12, 13] rfl (by kernel_rfl) (by kernel_rfl) (by kernel_rfl) (by kernel_rfl) (fun _ _ _ h => h) (Or.inl ⟨by rfl, ?_⟩) ⟨KP.out.at_, KP.out.lx⟩ ?_
                    · intro wq hSw
                      obtain ⟨y0, y1, y2, y3, y4, y5, y6⟩ := hSw.1.cells
                      obtain ⟨z0, z1, z2, z3, z4⟩ := hSw.2.cells
                      simp only at y2 y3 y4 y5 y6
                      go_simp
                    (try simp only [Act.put, List.setIfInBounds_toArray, List.set_cons_zero, List.set_cons_succ])
                    refine wpAnyT_take (i := 9) (oi := { dst := some 161, op := Op.load 2 (Operand.tmp 160), type := 2, pos := "ref.go:109", after := #[{ on := 8, ground := Ground.data }], guard := none }) (v := .int .i64 o.l.n) [10, 11, 12, 13] rfl (by kernel_rfl) (by kernel_rfl) (by kernel_rfl) (by kernel_rfl) (fun _ _ _ h => h) (Or.inl ⟨by rfl, ?_⟩) ⟨KP.out.at_, KP.out.lx⟩ ?_
                    · intro wq hSw
                      obtain ⟨y0, y1, y2, y3, y4, y5, y6⟩ := hSw.1.cells
                      obtain ⟨z0, z1, z2, z3, z4⟩ := hSw.2.cells
                      simp only at y2 y3 y4 y5 y6
                      go_simp
                    (try simp only [Act.put, List.setIfInBounds_toArray, List.set_cons_zero, List.set_cons_succ])
                    refine wpAnyT_take (i := 10) (oi := { dst := some 162, op := Op.binOp BinOp.add 2 (Operand.tmp 159) (Operand.tmp 161) 2, type := 2, pos := "ref.go:109", after := #[{ on := 7, ground := Ground.data }, { on := 9, ground := Ground.data }], guard := none }) (v := .int .i64 (g.l.n + o.l.n)) [11, 12, 13] rfl (by kernel_rfl) (by kernel_rfl) (by kernel_rfl) (by kernel_rfl) (fun _ _ _ h => h) (Or.inl ⟨by rfl, ?_⟩) ⟨KP.out.at_, KP.out.lx⟩ ?_
                    · intro wq hSw
                      obtain ⟨y0, y1, y2, y3, y4, y5, y6⟩ := hSw.1.cells
                      obtain ⟨z0, z1, z2, z3, z4⟩ := hSw.2.cells
                      simp only at y2 y3 y4 y5 y6
                      go_simp
                    (try simp only [Act.put, List.setIfInBounds_toArray, List.set_cons_zero, List.set_cons_succ])
                    refine wpAnyT_take (i := 11) (oi := { dst := some 163, op := Op.convert 2 26 (Operand.tmp 162), type := 26, pos := "ref.go:109", after := #[{ on := 10, ground := Ground.data }], guard := none }) (v := .float .f64 (nfB (g.l.n + o.l.n))) [12, 13] rfl (by kernel_rfl) (by kernel_rfl) (by kernel_rfl) (by kernel_rfl) (fun _ _ _ h => h) (Or.inl ⟨by rfl, ?_⟩) ⟨KP.out.at_, KP.out.lx⟩ ?_
                    · intro wq hSw
                      obtain ⟨y0, y1, y2, y3, y4, y5, y6⟩ := hSw.1.cells
                      obtain ⟨z0, z1, z2, z3, z4⟩ := hSw.2.cells
                      simp only at y2 y3 y4 y5 y6
                      go_simp
                    (try simp only [Act.put, List.setIfInBounds_toArray, List.set_cons_zero, List.set_cons_succ])
                    obtain ⟨wv, n2, e2, i2⟩ := div2 (nfB o.l.n) (nfB (g.l.n + o.l.n)) q2
                    have KP2 : Hid (Mt w (q2.drewN n2) b (⟨g.bs, mixL g.cs o.cs j, ⟨g.l.n, g.l.na + o.l.na, g.l.lo, o.l.hi, g.l.me⟩⟩ : G) (.slice xo i xc) (.slice (some ⟨cb, 0, none⟩) j ca) pb o.l) := KP.out.below (below_drewN (Below.refl _ _) n2)
                    refine wpAnyT_one (i := 12) (o := { dst := some 164, op := Op.binOp BinOp.quo 26 (Operand.tmp 154) (Operand.tmp 163) 26, type := 26, pos := "ref.go:109", after := #[{ on := 2, ground := Ground.data }, { on := 11, ground := Ground.data }], guard := none }) (by kernel_rfl) rfl (fun K9 hK9 => ?_)
                    go_simp
                    refine hK9.out _ _ (fun _ => ⟨KP2.out.at_, KP2.out.lx⟩) ?_
                    clear hK9 K9
                    (try simp only [Act.put, List.setIfInBounds_toArray, List.set_cons_zero, List.set_cons_succ])
                    refine wpAnyT_one (i := 13) (o := { dst := some 10, op := Op.assign (Operand.tmp 164), type := 26, pos := "ref.go:109", after := #[{ on := 12, ground := Ground.data }, { on := 0, ground := Ground.phase }, { on := 1, ground := Ground.phase }, { on := 2, ground := Ground.phase }, { on := 3, ground := Ground.phase }, { on := 4, ground := Ground.phase }, { on := 5, ground := Ground.phase }, { on := 6, ground := Ground.phase }, { on := 7, ground := Ground.phase }, { on := 8, ground := Ground.phase }, { on := 9, ground := Ground.phase }, { on := 10, ground := Ground.phase }, { on := 11, ground := Ground.phase }, { on := 12, ground := Ground.phase }], guard := none }) (by kernel_rfl) rfl (fun K9 hK9 => ?_)
                    go_simp
                    refine hK9.out _ _ (vac (by kernel_rfl)) ?_
                    clear hK9 K9
                    (try simp only [Act.put, List.setIfInBounds_toArray, List.set_cons_zero, List.set_cons_succ])
                    refine wpAnyT_done (by kernel_rfl) ?_ _
                    clear KP e2
                    generalize q2.drewN n2 = w11 at *
                    obtain ⟨yv, n3, e3, i3⟩ := mul2 dv wv w11
                    obtain ⟨sv, n4, e4, i4⟩ := add2 g.l.me yv (w11.drewN n3)
                    rw [World.drewN_drewN] at e4
                    have i5 : Is (Ieee.double.mul (subB o.l.me g.l.me) (divB (nfB o.l.n) (nfB (g.l.n + o.l.n)))) yv := ⟨i3.1, by rw [i3.2, mul_same i1.c i2.c]; rfl⟩
                    have hCa := fun u => refCanon_any u sv i4.lt
                    have hme : canonB sv = addB g.l.me (mulB (subB o.l.me g.l.me) (divB (nfB o.l.n) (nfB (g.l.n + o.l.n)))) := i4.add i5
                    obtain ⟨me2, hme2⟩ : ∃ m, Hid (addB g.l.me (mulB (subB o.l.me g.l.me) (divB (nfB o.l.n) (nfB (g.l.n + o.l.n)))) = m) := ⟨_, rfl⟩
                    rw [hme, hme2.out] at hCa
                    rw [hme2.out] at HL'
                    clear i1 i2 i3 i4 i5 hme
                    have MT3 := KP2.out.below (below_drewN (Below.refl _ _) (n3 + n4))
                    obtain ⟨y0, y1, y2, y3, y4, y5, y6⟩ := MT3.at_.cells
                    simp only at y2 y3 y4 y5 y6
                    obtain ⟨z0, z1, z2, z3, z4, z5, z6⟩ := KP2.out.at_.cells
                    simp only at z2 z3 z4 z5 z6
                    have f6 := MT3.at_.frozen 6
                    have MT := hide (MT3.s6 me2)
                    simp only at MT
                    clear MT3 KP2
                    go_upto_region 29 with (go_at_call 37; refine (hCa _).mono ?_; rintro e w' ⟨rfl, hw⟩; rw [hw]; clear hw w')
                    clear y0 y1 y2 y3 y4 y5 y6 z0 z1 z2 z3 z4 z5 z6 f6 e3 e4
                    generalize (w11.drewN (n3 + n4)).setCell ⟨b, 6, none⟩ (.float .f64 me2) = w12 at *
                    have KP : Hid (Mt w w12.drew b (⟨g.bs, mixL g.cs o.cs j, ⟨g.l.n, g.l.na + o.l.na, g.l.lo, o.l.hi, me2⟩⟩ : G) (.slice xo i xc) (.slice (some ⟨cb, 0, none⟩) j ca) pb o.l) := MT.out.below (Below.refl _ _).drew
                    clear MT
                    refine wp_region_T (fun q => At 66 q b (⟨g.bs, mixL g.cs o.cs j, ⟨g.l.n, g.l.na + o.l.na, g.l.lo, o.l.hi, me2⟩⟩ : G) (.slice xo i xc) (.slice (some ⟨cb, 0, none⟩) j ca) ∧ Lx q pb o.l) 12 (by kernel_rfl) ?_
                    generalize w12.drew = q3 at *
                    refine wpAnyT_take (i := 0) (oi := { dst := some 180, op := Op.move (Operand.tmp 0), type := 31, pos := "ref.go:112", after := #[], guard := none }) (v := .pointer (some ⟨b, 0, none⟩)) [9, 10, 11, 12] rfl (by kernel_rfl) (by kernel_rfl) (by kernel_rfl) (by kernel_rfl) (fun _ _ _ h => h) (Or.inl ⟨by rfl, ?_⟩) ⟨KP.out.at_, KP.out.lx⟩ ?_
                    · intro wq hSw
                      obtain ⟨y0, y1, y2, y3, y4, y5, y6⟩ := hSw.1.cells
                      obtain ⟨z0, z1, z2, z3, z4⟩ := hSw.2.cells
                      simp only at y2 y3 y4 y5 y6
                      go_simp
                    (try simp only [Act.put, List.setIfInBounds_toArray, List.set_cons_zero, List.set_cons_succ])
                    refine wpAnyT_take (i := 1) (oi := { dst := some 181, op := Op.move (Operand.tmp 0), type := 31, pos := "ref.go:112", after := #[], guard := none }) (v := .pointer (some ⟨b, 0, none⟩)) [2, 3, 4, 5, 8, 12] rfl (by kernel_rfl) (by kernel_rfl) (by kernel_rfl) (by kernel_rfl) (fun _ _ _ h => h) (Or.inl ⟨by rfl, ?_⟩) ⟨KP.out.at_, KP.out.lx⟩ ?_
                    · intro wq hSw
                      obtain ⟨y0, y1, y2, y3, y4, y5, y6⟩ := hSw.1.cells
                      obtain ⟨z0, z1, z2, z3, z4⟩ := hSw.2.cells
                      simp only at y2 y3 y4 y5 y6
                      go_simp
                    (try simp only [Act.put, List.setIfInBounds_toArray, List.set_cons_zero, List.set_cons_succ])
                    refine wpAnyT_take (i := 2) (oi := { dst := some 182, op := Op.nilCheck (Operand.tmp 181), type := 0, pos := "ref.go:112", after := #[{ on := 1, ground := Ground.data }], guard := none }) (v := .pointer (some ⟨b, 0, none⟩)) [3, 4, 5, 8, 12] rfl (by kernel_rfl) (by kernel_rfl) (by kernel_rfl) (by kernel_rfl) (fun _ _ _ h => h) (Or.inl ⟨by rfl, ?_⟩) ⟨KP.out.at_, KP.out.lx⟩ ?_
                    · intro wq hSw
                      obtain ⟨y0, y1, y2, y3, y4, y5, y6⟩ := hSw.1.cells
                      obtain ⟨z0, z1, z2, z3, z4⟩ := hSw.2.cells
                      simp only at y2 y3 y4 y5 y6
                      go_simp
                    (try simp only [Act.put, List.setIfInBounds_toArray, List.set_cons_zero, List.set_cons_succ])
                    refine wpAnyT_take (i := 3) (oi := { dst := some 183, op := Op.fieldAddr 66 (Operand.tmp 182) 2, type := 0, pos := "ref.go:112", after := #[{ on := 2, ground := Ground.data }], guard := none }) (v := .pointer (some ⟨b, 2, none⟩)) [4, 5, 8, 12] rfl (by kernel_rfl) (by kernel_rfl) (by kernel_rfl) (by kernel_rfl) (fun _ _ _ h => h) (Or.inl ⟨by rfl, ?_⟩) ⟨KP.out.at_, KP.out.lx⟩ ?_
                    · intro wq hSw
                      obtain ⟨y0, y1, y2, y3, y4, y5, y6⟩ := hSw.1.cells
                      obtain ⟨z0, z1, z2, z3, z4⟩ := hSw.2.cells
                      simp only at y2 y3 y4 y5 y6
                      go_simp
                    (try simp only [Act.put, List.setIfInBounds_toArray, List.set_cons_zero, List.set_cons_succ])
                    refine wpAnyT_take (i := 4) (oi := { dst := some 184, op := Op.fieldAddr 44 (Operand.tmp 183) 0, type := 0, pos := "ref.go:112", after := #[{ on := 3, ground := Ground.data }], guard := none }) (v := .pointer (some ⟨b, 2, none⟩)) [5, 8, 12] rfl (by kernel_rfl) (by kernel_rfl) (by kernel_rfl) (by kernel_rfl) (fun _ _ _ h => h) (Or.inl ⟨by rfl, ?_⟩) ⟨KP.out.at_, KP.out.lx⟩ ?_
                    · intro wq hSw
                      obtain ⟨y0, y1, y2, y3, y4, y5, y6⟩ := hSw.1.cells
                      obtain ⟨z0, z1, z2, z3, z4⟩ := hSw.2.cells
                      simp only at y2 y3 y4 y5 y6
                      go_simp
                    (try simp only [Act.put, List.setIfInBounds_toArray, List.set_cons_zero, List.set_cons_succ])
                    refine wpAnyT_take (i := 5) (oi := { dst := some 185, op := Op.load 2 (Operand.tmp 184), type := 2, pos := "ref.go:112", after := #[{ on := 4, ground := Ground.data }], guard := none }) (v := .int .i64 g.l.n) [8, 12] rfl (by kernel_rfl) (by kernel_rfl) (by kernel_rfl) (by kernel_rfl) (fun _ _ _ h => h) (Or.inl ⟨by rfl, ?_⟩) ⟨KP.out.at_, KP.out.lx⟩ ?_
                    · intro wq hSw
                      obtain ⟨y0, y1, y2, y3, y4, y5, y6⟩ := hSw.1.cells
                      obtain ⟨z0, z1, z2, z3, z4⟩ := hSw.2.cells
                      simp only at y2 y3 y4 y5 y6
                      go_simp
                    (try simp only [Act.put, List.setIfInBounds_toArray, List.set_cons_zero, List.set_cons_succ])
                    refine wpAnyT_take (i := 6) (oi := { dst := some 186, op := Op.fieldAddr 44 (Operand.tmp 6) 0, type := 0, pos := "ref.go:112", after := #[], guard := none }) (v := .pointer (some ⟨pb, 0, none⟩)) [7, 8, 12] rfl (by kernel_rfl) (by kernel_rfl) (by kernel_rfl) (by kernel_rfl) (fun _ _ _ h => h) (Or.inl ⟨by rfl, ?_⟩) ⟨KP.out.at_, KP.out.lx⟩ ?_
                    · intro wq hSw
                      obtain ⟨y0, y1, y2, y3, y4, y5, y6⟩ := hSw.1.cells
                      obtain ⟨z0, z1, z2, z3, z4⟩ := hSw.2.cells
                      simp only at y2 y3 y4 y5 y6
                      go_simp
                    (try simp only [Act.put, List.setIfInBounds_toArray, List.set_cons_zero, List.set_cons_succ])
                    refine wpAnyT_take (i := 7) (oi := { dst := some 187, op := Op.load 2 (Operand.tmp 186), type := 2, pos := "ref.go:112", after := #[{ on := 6, ground := Ground.data }], guard := none }) (v := .int .i64 o.l.n) [8, 12] rfl (by kernel_rfl) (by kernel_rfl) (by kernel_rfl) (by kernel_rfl) (fun _ _ _ h => h) (Or.inl ⟨by rfl, ?_⟩) ⟨KP.out.at_, KP.out.lx⟩ ?_
                    · intro wq hSw
                      obtain ⟨y0, y1, y2, y3, y4, y5, y6⟩ := hSw.1.cells
                      obtain ⟨z0, z1, z2, z3, z4⟩ := hSw.2.cells
                      simp only at y2 y3 y4 y5 y6
                      go_simp
                    (try simp only [Act.put, List.setIfInBounds_toArray, List.set_cons_zero, List.set_cons_succ])
                    refine wpAnyT_take (i := 8) (oi := { dst := some 188, op := Op.binOp BinOp.add 2 (Operand.tmp 185) (Operand.tmp 187) 2, type := 2, pos := "ref.go:112", after := #[{ on := 5, ground := Ground.data }, { on := 7, ground := Ground.data }], guard := none }) (v := .int .i64 (g.l.n + o.l.n)) [12] rfl (by kernel_rfl) (by kernel_rfl) (by kernel_rfl) (by kernel_rfl) (fun _ _ _ h => h) (Or.inl ⟨by rfl, ?_⟩) ⟨KP.out.at_, KP.out.lx⟩ ?_
                    · intro wq hSw
                      obtain ⟨y0, y1, y2, y3, y4, y5, y6⟩ := hSw.1.cells
                      obtain ⟨z0, z1, z2, z3, z4⟩ := hSw.2.cells
                      simp only at y2 y3 y4 y5 y6
                      go_simp
                    (try simp only [Act.put, List.setIfInBounds_toArray, List.set_cons_zero, List.set_cons_succ])
                    refine wpAnyT_one (i := 9) (o := { dst := some 189, op := Op.nilCheck (Operand.tmp 180), type := 0, pos := "ref.go:112", after := #[{ on := 0, ground := Ground.data }, { on := 0, ground := Ground.phase }, { on := 1, ground := Ground.phase }, { on := 2, ground := Ground.phase }, { on := 3, ground := Ground.phase }, { on := 4, ground := Ground.phase }, { on := 5, ground := Ground.phase }, { on := 6, ground := Ground.phase }, { on := 7, ground := Ground.phase }, { on := 8, ground := Ground.phase }], guard := none }) (by kernel_rfl) rfl (fun K9 hK9 => ?_)
                    go_simp
                    refine hK9.out _ _ (fun _ => ⟨KP.out.at_, KP.out.lx⟩) ?_
                    clear hK9 K9
                    (try simp only [Act.put, List.setIfInBounds_toArray, List.set_cons_zero, List.set_cons_succ])
                    refine wpAnyT_one (i := 10) (o := { dst := some 190, op := Op.fieldAddr 66 (Operand.tmp 189) 2, type := 0, pos := "ref.go:112", after := #[{ on := 9, ground := Ground.data }, { on := 0, ground := Ground.phase }, { on := 1, ground := Ground.phase }, { on := 2, ground := Ground.phase }, { on := 3, ground := Ground.phase }, { on := 4, ground := Ground.phase }, { on := 5, ground := Ground.phase }, { on := 6, ground := Ground.phase }, { on := 7, ground := Ground.phase }, { on := 8, ground := Ground.phase }], guard := none }) (by kernel_rfl) rfl (fun K9 hK9 => ?_)
                    go_simp
                    refine hK9.out _ _ (fun _ => ⟨KP.out.at_, KP.out.lx⟩) ?_
                    clear hK9 K9
                    (try simp only [Act.put, List.setIfInBounds_toArray, List.set_cons_zero, List.set_cons_succ])
                    refine wpAnyT_one (i := 11) (o := { dst := some 191, op := Op.fieldAddr 44 (Operand.tmp 190) 0, type := 0, pos := "ref.go:112", after := #[{ on := 10, ground := Ground.data }, { on := 0, ground := Ground.phase }, { on := 1, ground := Ground.phase }, { on := 2, ground := Ground.phase }, { on := 3, ground := Ground.phase }, { on := 4, ground := Ground.phase }, { on := 5, ground := Ground.phase }, { on := 6, ground := Ground.phase }, { on := 7, ground := Ground.phase }, { on := 8, ground := Ground.phase }], guard := none }) (by kernel_rfl) rfl (fun K9 hK9 => ?_)
                    go_simp
                    refine hK9.out _ _ (fun _ => ⟨KP.out.at_, KP.out.lx⟩) ?_
                    clear hK9 K9
                    (try simp only [Act.put, List.setIfInBounds_toArray, List.set_cons_zero, List.set_cons_succ])
                    obtain ⟨y0, y1, y2, y3, y4, y5, y6⟩ := KP.out.at_.cells
                    simp only at y2 y3 y4 y5 y6
                    have f2 := KP.out.at_.frozen 2
                    have MT := hide (KP.out.s2 (g.l.n + o.l.n))
                    simp only at MT
                    refine wpAnyT_one (i := 12) (o := { dst := none, op := Op.store 2 (Operand.tmp 191) (Operand.tmp 188), type := 0, pos := "ref.go:112", after := #[{ on := 11, ground := Ground.data }, { on := 8, ground := Ground.data }, { on := 0, ground := Ground.phase }, { on := 1, ground := Ground.phase }, { on := 2, ground := Ground.phase }, { on := 3, ground := Ground.phase }, { on := 4, ground := Ground.phase }, { on := 5, ground := Ground.phase }, { on := 6, ground := Ground.phase }, { on := 7, ground := Ground.phase }, { on := 8, ground := Ground.phase }], guard := none }) (by kernel_rfl) rfl (fun K9 hK9 => ?_)
                    go_simp
                    refine hK9.out _ _ (vac (by kernel_rfl)) ?_
                    clear hK9 K9
                    (try simp only [Act.put, List.setIfInBounds_toArray, List.set_cons_zero, List.set_cons_succ])
                    refine wpAnyT_done (by kernel_rfl) ?_ _
                    clear y0 y1 y2 y3 y4 y5 y6 f2 KP
                    go_wp2_with fail
                    go_ret
                    have ft := MT.out
                    rw [MIX.out] at ft
                    have e9 : mgF g o = ⟨g.bs, addL g.cs o.cs, ⟨g.l.n + o.l.n, g.l.na + o.l.na, g.l.lo, o.l.hi, me2⟩⟩ := by unfold mgF; rw [HL'.out]
                    rw [e9]
                    exact .inl ⟨SAME.out, rfl, ft.at_, ft.but⟩
                  · skip
                    have HL' := hide HL.out
                    rw [if_neg hq1, if_neg hq2] at HL'
                    clear HL
                    go_upto_region 21 with fail
                    go_quiet ((go_at_call 23; exact Calls.quiet_of_same (hC1 _)))
                    replace MT := hide (MT.out.below (below_drewN (Below.refl _ _) nq))
                    clear y0 y1 y2 y3 y4 y5 y6 z0 z1 z2 z3 z4
                    generalize w5.drewN nq = w6 at *
                    obtain ⟨y0, y1, y2, y3, y4, y5, y6⟩ := MT.out.at_.cells
                    obtain ⟨z0, z1, z2, z3, z4⟩ := MT.out.lx.cells
                    simp only at y2 y3 y4 y5 y6
                    go_upto_region 23 with fail
                    go_quiet ((go_at_call 23; exact Calls.quiet_of_same (hC2 _)))
                    replace MT := hide (MT.out.below (below_drewN (Below.refl _ _) nq))
                    clear y0 y1 y2 y3 y4 y5 y6 z0 z1 z2 z3 z4
                    generalize w6.drewN nq = w8 at *
                    obtain ⟨y0, y1, y2, y3, y4, y5, y6⟩ := MT.out.at_.cells
                    obtain ⟨z0, z1, z2, z3, z4⟩ := MT.out.lx.cells
                    simp only at y2 y3 y4 y5 y6
                    go_upto_region 25 with fail
                    have KP : Hid (Mt w w8.drew b (⟨g.bs, mixL g.cs o.cs j, ⟨g.l.n, g.l.na + o.l.na, g.l.lo, g.l.hi, g.l.me⟩⟩ : G) (.slice xo i xc) (.slice (some ⟨cb, 0, none⟩) j ca) pb o.l) := MT.out.below (Below.refl _ _).drew
                    clear MT y0 y1 y2 y3 y4 y5 y6 z0 z1 z2 z3 z4
                    refine wp_region_T (fun q => At 66 q b (⟨g.bs, mixL g.cs o.cs j, ⟨g.l.n, g.l.na + o.l.na, g.l.lo, g.l.hi, g.l.me⟩⟩ : G) (.slice xo i xc) (.slice (some ⟨cb, 0, none⟩) j ca) ∧ Lx q pb o.l) 8 (by kernel_rfl) ?_
                    generalize w8.drew = q1 at *
                    refine wpAnyT_take (i := 0) (oi := { dst := some 144, op := Op.fieldAddr 44 (Operand.tmp 6) 4, type := 0, pos := "ref.go:108", after := #[], guard := none }) (v := .pointer (some ⟨pb, 4, none⟩)) [1, 7, 8] rfl (by kernel_rfl) (by kernel_rfl) (by kernel_rfl) (by kernel_rfl) (fun _ _ _ h => h) (Or.inl ⟨by rfl, ?_⟩) ⟨KP.out.at_, KP.out.lx⟩ ?_
                    · intro wq hSw
                      obtain ⟨y0, y1, y2, y3, y4, y5, y6⟩ := hSw.1.cells
                      obtain ⟨z0, z1, z2, z3, z4⟩ := hSw.2.cells
                      simp only at y2 y3 y4 y5 y6
                      go_simp
                    (try simp only [Act.put, List.setIfInBounds_toArray, List.set_cons_zero, List.set_cons_succ])
                    refine wpAnyT_take (i := 1) (oi := { dst := some 145, op := Op.load 26 (Operand.tmp 144), type := 26, pos := "ref.go:108", after := #[{ on := 0, ground := Ground.data }], guard := none }) (v := .float .f64 o.l.me) [7, 8] rfl (by kernel_rfl) (by kernel_rfl) (by kernel_rfl) (by kernel_rfl) (fun _ _ _ h => h) (Or.inl ⟨by rfl, ?_⟩) ⟨KP.out.at_, KP.out.lx⟩ ?_
                    · intro wq hSw
                      obtain ⟨y0, y1, y2, y3, y4, y5, y6⟩ := hSw.1.cells
                      obtain ⟨z0, z1, z2, z3, z4⟩ := hSw.2.cells
                      simp only at y2 y3 y4 y5 y6
                      go_simp
                    (try simp only [Act.put, List.setIfInBounds_toArray, List.set_cons_zero, List.set_cons_succ])
                    refine wpAnyT_take (i := 2) (oi := { dst := some 146, op := Op.move (Operand.tmp 0), type := 31, pos := "ref.go:108", after := #[], guard := none }) (v := .pointer (some ⟨b, 0, none⟩)) [3, 4, 5, 6, 7, 8] rfl (by kernel_rfl) (by kernel_rfl) (by kernel_rfl) (by kernel_rfl) (fun _ _ _ h => h) (Or.inl ⟨by rfl, ?_⟩) ⟨KP.out.at_, KP.out.lx⟩ ?_
                    · intro wq hSw
                      obtain ⟨y0, y1, y2, y3, y4, y5, y6⟩ := hSw.1.cells
                      obtain ⟨z0, z1, z2, z3, z4⟩ := hSw.2.cells
                      simp only at y2 y3 y4 y5 y6
                      go_simp
                    (try simp only [Act.put, List.setIfInBounds_toArray, List.set_cons_zero, List.set_cons_succ])
                    refine wpAnyT_take (i := 3) (oi := { dst := some 147, op := Op.nilCheck (Operand.tmp 146), type := 0, pos := "ref.go:108", after := #[{ on := 2, ground := Ground.data }], guard := none }) (v := .pointer (some ⟨b, 0, none⟩)) [4, 5, 6, 7, 8] rfl (by kernel_rfl) (by kernel_rfl) (by kernel_rfl) (by kernel_rfl) (fun _ _ _ h => h) (Or.inl ⟨by rfl, ?_⟩) ⟨KP.out.at_, KP.out.lx⟩ ?_
                    · intro wq hSw
                      obtain ⟨y0, y1, y2, y3, y4, y5, y6⟩ := hSw.1.cells
                      obtain ⟨z0, z1, z2, z3, z4⟩ := hSw.2.cells
                      simp only at y2 y3 y4 y5 y6
                      go_simp
                    (try simp only [Act.put, List.setIfInBounds_toArray, List.set_cons_zero, List.set_cons_succ])
                    refine wpAnyT_take (i := 4) (oi := { dst := some 148, op := Op.fieldAddr 66 (Operand.tmp 147) 2, type := 0, pos := "ref.go:108", after := #[{ on := 3, ground := Ground.data }], guard := none }) (v := .pointer (some ⟨b, 2, none⟩)) [5, 6, 7, 8] rfl (by kernel_rfl) (by kernel_rfl) (by kernel_rfl) (by kernel_rfl) (fun _ _ _ h => h) (Or.inl ⟨by rfl, ?_⟩) ⟨KP.out.at_, KP.out.lx⟩ ?_
                    · intro wq hSw
                      obtain ⟨y0, y1, y2, y3, y4, y5, y6⟩ := hSw.1.cells
                      obtain ⟨z0, z1, z2, z3, z4⟩ := hSw.2.cells
                      simp only at y2 y3 y4 y5 y6
                      go_simp
                    (try simp only [Act.put, List.setIfInBounds_toArray, List.set_cons_zero, List.set_cons_succ])
                    refine wpAnyT_take (i := 5) (oi := { dst := some 149, op := Op.fieldAddr 44 (Operand.tmp 148) 4, type := 0, pos := "ref.go:108", after := #[{ on := 4, ground := Ground.data }], guard := none }) (v := .pointer (some ⟨b, 6, none⟩)) [6, 7, 8] rfl (by kernel_rfl) (by kernel_rfl) (by kernel_rfl) (by kernel_rfl) (fun _ _ _ h => h) (Or.inl ⟨by rfl, ?_⟩) ⟨KP.out.at_, KP.out.lx⟩ ?_
                    · intro wq hSw
                      obtain ⟨y0, y1, y2, y3, y4, y5, y6⟩ := hSw.1.cells
                      obtain ⟨z0, z1, z2, z3, z4⟩ := hSw.2.cells
                      simp only at y2 y3 y4 y5 y6
                      go_simp
                    (try simp only [Act.put, List.setIfInBounds_toArray, List.set_cons_zero, List.set_cons_succ])
                    refine wpAnyT_take (i := 6) (oi := { dst := some 150, op := Op.load 26 (Operand.tmp 149), type := 26, pos := "ref.go:108", after := #[{ on := 5, ground := Ground.data }], guard := none }) (v := .float .f64 g.l.me) [7, 8] rfl (by kernel_rfl) (by kernel_rfl) (by kernel_rfl) (by kernel_rfl) (fun _ _ _ h => h) (Or.inl ⟨by rfl, ?_⟩) ⟨KP.out.at_, KP.out.lx⟩ ?_
                    · intro wq hSw
                      obtain ⟨y0, y1, y2, y3, y4, y5, y6⟩ := hSw.1.cells
                      obtain ⟨z0, z1, z2, z3, z4⟩ := hSw.2.cells
                      simp only at y2 y3 y4 y5 y6
                      go_simp
                    (try simp only [Act.put, List.setIfInBounds_toArray, List.set_cons_zero, List.set_cons_succ])
                    obtain ⟨dv, n1, e1, i1⟩ := sub2 o.l.me g.l.me q1
                    have KP1 : Hid (Mt w (q1.drewN n1) b (⟨g.bs, mixL g.cs o.cs j, ⟨g.l.n, g.l.na + o.l.na, g.l.lo, g.l.hi, g.l.me⟩⟩ : G) (.slice xo i xc) (.slice (some ⟨cb, 0, none⟩) j ca) pb o.l) := KP.out.below (below_drewN (Below.refl _ _) n1)
                    refine wpAnyT_one (i := 7) (o := { dst := some 151, op := Op.binOp BinOp.sub 26 (Operand.tmp 145) (Operand.tmp 150) 26, type := 26, pos := "ref.go:108", after := #[{ on := 1, ground := Ground.data }, { on := 6, ground := Ground.data }], guard := none }) (by kernel_rfl) rfl (fun K9 hK9 => ?_)
                    go_simp
                    refine hK9.out _ _ (fun _ => ⟨KP1.out.at_, KP1.out.lx⟩) ?_
                    clear hK9 K9
                    (try simp only [Act.put, List.setIfInBounds_toArray, List.set_cons_zero, List.set_cons_succ])
                    refine wpAnyT_one (i := 8) (o := { dst := some 9, op := Op.assign (Operand.tmp 151), type := 26, pos := "ref.go:108", after := #[{ on := 7, ground := Ground.data }, { on := 0, ground := Ground.phase }, { on := 1, ground := Ground.phase }, { on := 2, ground := Ground.phase }, { on := 3, ground := Ground.phase }, { on := 4, ground := Ground.phase }, { on := 5, ground := Ground.phase }, { on := 6, ground := Ground.phase }, { on := 7, ground := Ground.phase }], guard := none }) (by kernel_rfl) rfl (fun K9 hK9 => ?_)
                    go_simp
                    refine hK9.out _ _ (vac (by kernel_rfl)) ?_
                    clear hK9 K9
                    (try simp only [Act.put, List.setIfInBounds_toArray, List.set_cons_zero, List.set_cons_succ])
                    refine wpAnyT_done (by kernel_rfl) ?_ _
                    clear KP e1
                    generalize q1.drewN n1 = w10 at *
                    go_upto_region 26 with fail
                    have KP : Hid (Mt w w10.drew b (⟨g.bs, mixL g.cs o.cs j, ⟨g.l.n, g.l.na + o.l.na, g.l.lo, g.l.hi, g.l.me⟩⟩ : G) (.slice xo i xc) (.slice (some ⟨cb, 0, none⟩) j ca) pb o.l) := KP1.out.below (Below.refl _ _).drew
                    clear KP1
                    refine wp_region_T (fun q => At 66 q b (⟨g.bs, mixL g.cs o.cs j, ⟨g.l.n, g.l.na + o.l.na, g.l.lo, g.l.hi, g.l.me⟩⟩ : G) (.slice xo i xc) (.slice (some ⟨cb, 0, none⟩) j ca) ∧ Lx q pb o.l) 13 (by kernel_rfl) ?_
                    generalize w10.drew = q2 at *
                    refine wpAnyT_take (i := 0) (oi := { dst := some 152, op := Op.fieldAddr 44 (Operand.tmp 6) 0, type := 0, pos := "ref.go:109", after := #[], guard := none }) (v := .pointer (some ⟨pb, 0, none⟩)) [1, 2, 12, 13] rfl (by kernel_rfl) (by kernel_rfl) (by kernel_rfl) (by kernel_rfl) (fun _ _ _ h => h) (Or.inl ⟨by rfl, ?_⟩) ⟨KP.out.at_, KP.out.lx⟩ ?_
                    · intro wq hSw
                      obtain ⟨y0, y1, y2, y3, y4, y5, y6⟩ := hSw.1.cells
                      obtain ⟨z0, z1, z2, z3, z4⟩ := hSw.2.cells
                      simp only at y2 y3 y4 y5 y6
                      go_simp
                    (try simp only [Act.put, List.setIfInBounds_toArray, List.set_cons_zero, List.set_cons_succ])
                    refine wpAnyT_take (i := 1) (oi := { dst := some 153, op := Op.load 2 (Operand.tmp 152), type := 2, pos := "ref.go:109", after := #[{ on := 0, ground := Ground.data }], guard := none }) (v := .int .i64 o.l.n) [2, 12, 13] rfl (by kernel_rfl) (by kernel_rfl) (by kernel_rfl) (by kernel_rfl) (fun _ _ _ h => h) (Or.inl ⟨by rfl, ?_⟩) ⟨KP.out.at_, KP.out.lx⟩ ?_
                    · intro wq hSw
                      obtain ⟨y0, y1, y2, y3, y4, y5, y6⟩ := hSw.1.cells
                      obtain ⟨z0, z1, z2, z3, z4⟩ := hSw.2.cells
                      simp only at y2 y3 y4 y5 y6
                      go_simp
                    (try simp only [Act.put, List.setIfInBounds_toArray, List.set_cons_zero, List.set_cons_succ])
                    refine wpAnyT_take (i := 2) (oi := { dst := some 154, op := Op.convert 2 26 (Operand.tmp 153), type := 26, pos := "ref.go:109", after := #[{ on := 1, ground := Ground.data }], guard := none }) (v := .float .f64 (nfB o.l.n)) [12, 13] rfl (by kernel_rfl) (by kernel_rfl) (by kernel_rfl) (by kernel_rfl) (fun _ _ _ h => h) (Or.inl ⟨by rfl, ?_⟩) ⟨KP.out.at_, KP.out.lx⟩ ?_
                    · intro wq hSw
                      obtain ⟨y0, y1, y2, y3, y4, y5, y6⟩ := hSw.1.cells
                      obtain ⟨z0, z1, z2, z3, z4⟩ := hSw.2.cells
                      simp only at y2 y3 y4 y5 y6
                      go_simp
                    (try simp only [Act.put, List.setIfInBounds_toArray, List.set_cons_zero, List.set_cons_succ])
                    refine wpAnyT_take (i := 3) (oi := { dst := some 155, op := Op.move (Operand.tmp 0), type := 31, pos := "ref.go:109", after := #[], guard := none }) (v := .pointer (some ⟨b, 0, none⟩)) [4, 5, 6, 7, 10, 11, 12, 13] rfl (by kernel_rfl) (by kernel_rfl) (by kernel_rfl) (by kernel_rfl) (fun _ _ _ h => h) (Or.inl ⟨by rfl, ?_⟩) ⟨KP.out.at_, KP.out.lx⟩ ?_
                    · intro wq hSw
                      obtain ⟨y0, y1, y2, y3, y4, y5, y6⟩ := hSw.1.cells
                      obtain ⟨z0, z1, z2, z3, z4⟩ := hSw.2.cells
                      simp only at y2 y3 y4 y5 y6
                      go_simp
                    (try simp only [Act.put, List.setIfInBounds_toArray, List.set_cons_zero, List.set_cons_succ])
                    refine wpAnyT_take (i := 4) (oi := { dst := some 156, op := Op.nilCheck (Operand.tmp 155), type := 0, pos := "ref.go:109", after := #[{ on := 3, ground := Ground.data }], guard := none }) (v := .pointer (some ⟨b, 0, none⟩)) [5, 6, 7, 10, 11, 12, 13] rfl (by kernel_rfl) (by kernel_rfl) (by kernel_rfl) (by kernel_rfl) (fun _ _ _ h => h) (Or.inl ⟨by rfl, ?_⟩) ⟨KP.out.at_, KP.out.lx⟩ ?_
                    · intro wq hSw
                      obtain ⟨y0, y1, y2, y3, y4, y5, y6⟩ := hSw.1.cells
                      obtain ⟨z0, z1, z2, z3, z4⟩ := hSw.2.cells
                      simp only at y2 y3 y4 y5 y6
                      go_simp
                    (try simp only [Act.put, List.setIfInBounds_toArray, List.set_cons_zero, List.set_cons_succ])
                    refine wpAnyT_take (i := 5) (oi := { dst := some 157, op := Op.fieldAddr 66 (Operand.tmp 156) 2, type := 0, pos := "ref.go:109", after := #[{ on := 4, ground := Ground.data }], guard := none }) (v := .pointer (some ⟨b, 2, none⟩)) [6, 7, 10, 11, 12, 13] rfl (by kernel_rfl) (by kernel_rfl) (by kernel_rfl) (by kernel_rfl) (fun _ _ _ h => h) (Or.inl ⟨by rfl, ?_⟩) ⟨KP.out.at_, KP.out.lx⟩ ?_
                    · intro wq hSw
                      obtain ⟨y0, y1, y2, y3, y4, y5, y6⟩ := hSw.1.cells
                      obtain ⟨z0, z1, z2, z3, z4⟩ := hSw.2.cells
                      simp only at y2 y3 y4 y5 y6
                      go_simp
                    (try simp only [Act.put, List.setIfInBounds_toArray, List.set_cons_zero, List.set_cons_succ])
                    refine wpAnyT_take (i := 6) (oi := { dst := some 158, op := Op.fieldAddr 44 (Operand.tmp 157) 0, type := 0, pos := "ref.go:109", after := #[{ on := 5, ground := Ground.data }], guard := none }) (v := .pointer (some ⟨b, 2, none⟩)) [7, 10, 11, 12, 13] rfl (by kernel_rfl) (by kernel_rfl) (by kernel_rfl) (by kernel_rfl) (fun _ _ _ h => h) (Or.inl ⟨by rfl, ?_⟩) ⟨KP.out.at_, KP.out.lx⟩ ?_
                    · intro wq hSw
                      obtain ⟨y0, y1, y2, y3, y4, y5, y6⟩ := hSw.1.cells
                      obtain ⟨z0, z1, z2, z3, z4⟩ := hSw.2.cells
                      simp only at y2 y3 y4 y5 y6
                      go_simp
                    (try simp only [Act.put, List.setIfInBounds_toArray, List.set_cons_zero, List.set_cons_succ])
                    refine wpAnyT_take (i := 7) (oi := { dst := some 159, op := Op.load 2 (Operand.tmp 158), type := 2, pos := "ref.go:109", after := #[{ on := 6, ground := Ground.data }], guard := none }) (v := .int .i64 g.l.n) [10, 11, 12, 13] rfl (by kernel_rfl) (by kernel_rfl) (by kernel_rfl) (by kernel_rfl) (fun _ _ _ h => h) (Or.inl ⟨by rfl, ?_⟩) ⟨KP.out.at_, KP.out.lx⟩ ?_
                    · intro wq hSw
                      obtain ⟨y0, y1, y2, y3, y4, y5, y6⟩ := hSw.1.cells
                      obtain ⟨z0, z1, z2, z3, z4⟩ := hSw.2.cells
                      simp only at y2 y3 y4 y5 y6
                      go_simp
                    (try simp only [Act.put, List.setIfInBounds_toArray, List.set_cons_zero, List.set_cons_succ])
                    refine wpAnyT_take (i := 8) (oi := { dst := some 160, op := Op.fieldAddr 44 (Operand.tmp 6) 0, type := 0, pos := "ref.go:109", after := #[], guard := none }) (v := .pointer (some ⟨pb, 0, none⟩)) [9, 10, 11, 12, 13] rfl (by kernel_rfl) (by kernel_rfl) (by kernel_rfl) (by kernel_rfl) (fun _ _ _ h => h) (Or.inl ⟨by rfl, ?_⟩) ⟨KP.out.at_, KP.out.lx⟩ ?_
                    · intro wq hSw
                      obtain ⟨y0, y1, y2, y3, y4, y5, y6⟩ := hSw.1.cells
                      obtain ⟨z0, z1, z2, z3, z4⟩ := hSw.2.cells
                      simp only at y2 y3 y4 y5 y6
                      go_simp
                    (try simp only [Act.put, List.setIfInBounds_toArray, List.set_cons_zero, List.set_cons_succ])
                    refine wpAnyT_take (i := 9) (oi := { dst := some 161, op := Op.load 2 (Operand.tmp 160), type := 2, pos := "ref.go:109", after := #[{ on := 8, ground := Ground.data }], guard := none }) (v := .int .i64 o.l.n) [10, 11, 12, 13] rfl (by kernel_rfl) (by kernel_rfl) (by kernel_rfl) (by kernel_rfl) (fun _ _ _ h => h) (Or.inl ⟨by rfl, ?_⟩) ⟨KP.out.at_, KP.out.lx⟩ ?_
                    · intro wq hSw
                      obtain ⟨y0, y1, y2, y3, y4, y5, y6⟩ := hSw.1.cells
                      obtain ⟨z0, z1, z2, z3, z4⟩ := hSw.2.cells
                      simp only at y2 y3 y4 y5 y6
                      go_simp
                    (try simp only [Act.put, List.setIfInBounds_toArray, List.set_cons_zero, List.set_cons_succ])
                    refine wpAnyT_take (i := 10) (oi := { dst := some 162, op := Op.binOp BinOp.add 2 (Operand.tmp 159) (Operand.tmp 161) 2, type := 2, pos := "ref.go:109", after := #[{ on := 7, ground := Ground.data }, { on := 9, ground := Ground.data }], guard := none }) (v := .int .i64 (g.l.n + o.l.n)) [11, 12, 13] rfl (by kernel_rfl) (by kernel_rfl) (by kernel_rfl) (by kernel_rfl) (fun _ _ _ h => h) (Or.inl ⟨by rfl, ?_⟩) ⟨KP.out.at_, KP.out.lx⟩ ?_
                    · intro wq hSw
                      obtain ⟨y0, y1, y2, y3, y4, y5, y6⟩ := hSw.1.cells
                      obtain ⟨z0, z1, z2, z3, z4⟩ := hSw.2.cells
                      simp only at y2 y3 y4 y5 y6
                      go_simp
                    (try simp only [Act.put, List.setIfInBounds_toArray, List.set_cons_zero, List.set_cons_succ])
                    refine wpAnyT_take (i := 11) (oi := { dst := some 163, op := Op.convert 2 26 (Operand.tmp 162), type := 26, pos := "ref.go:109", after := #[{ on := 10, ground := Ground.data }], guard := none }) (v := .float .f64 (nfB (g.l.n + o.l.n))) [12, 13] rfl (by kernel_rfl) (by kernel_rfl) (by kernel_rfl) (by kernel_rfl) (fun _ _ _ h => h) (Or.inl ⟨by rfl, ?_⟩) ⟨KP.out.at_, KP.out.lx⟩ ?_
                    · intro wq hSw
                      obtain ⟨y0, y1, y2, y3, y4, y5, y6⟩ := hSw.1.cells
                      obtain ⟨z0, z1, z2, z3, z4⟩ := hSw.2.cells
                      simp only at y2 y3 y4 y5 y6
                      go_simp
                    (try simp only [Act.put, List.setIfInBounds_toArray, List.set_cons_zero, List.set_cons_succ])
                    obtain ⟨wv, n2, e2, i2⟩ := div2 (nfB o.l.n) (nfB (g.l.n + o.l.n)) q2
                    have KP2 : Hid (Mt w (q2.drewN n2) b (⟨g.bs, mixL g.cs o.cs j, ⟨g.l.n, g.l.na + o.l.na, g.l.lo, g.l.hi, g.l.me⟩⟩ : G) (.slice xo i xc) (.slice (some ⟨cb, 0, none⟩) j ca) pb o.l) := KP.out.below (below_drewN (Below.refl _ _) n2)
                    refine wpAnyT_one (i := 12) (o := { dst := some 164, op := Op.binOp BinOp.quo 26 (Operand.tmp 154) (Operand.tmp 163) 26, type := 26, pos := "ref.go:109", after := #[{ on := 2, ground := Ground.data }, { on := 11, ground := Ground.data }], guard := none }) (by kernel_rfl) rfl (fun K9 hK9 => ?_)
                    go_simp
                    refine hK9.out _ _ (fun _ => ⟨KP2.out.at_, KP2.out.lx⟩) ?_
                    clear hK9 K9
                    (try simp only [Act.put, List.setIfInBounds_toArray, List.set_cons_zero, List.set_cons_succ])
                    refine wpAnyT_one (i := 13) (o := { dst := some 10, op := Op.assign (Operand.tmp 164), type := 26, pos := "ref.go:109", after := #[{ on := 12, ground := Ground.data }, { on := 0, ground := Ground.phase }, { on := 1, ground := Ground.phase }, { on := 2, ground := Ground.phase }, { on := 3, ground := Ground.phase }, { on := 4, ground := Ground.phase }, { on := 5, ground := Ground.phase }, { on := 6, ground := Ground.phase }, { on := 7, ground := Ground.phase }, { on := 8, ground := Ground.phase }, { on := 9, ground := Ground.phase }, { on := 10, ground := Ground.phase }, { on := 11, ground := Ground.phase }, { on := 12, ground := Ground.phase }], guard := none }) (by kernel_rfl) rfl (fun K9 hK9 => ?_)
                    go_simp
                    refine hK9.out _ _ (vac (by kernel_rfl)) ?_
                    clear hK9 K9
                    (try simp only [Act.put, List.setIfInBounds_toArray, List.set_cons_zero, List.set_cons_succ])
                    refine wpAnyT_done (by kernel_rfl) ?_ _
                    clear KP e2
                    generalize q2.drewN n2 = w11 at *
                    obtain ⟨yv, n3, e3, i3⟩ := mul2 dv wv w11
                    obtain ⟨sv, n4, e4, i4⟩ := add2 g.l.me yv (w11.drewN n3)
                    rw [World.drewN_drewN] at e4
                    have i5 : Is (Ieee.double.mul (subB o.l.me g.l.me) (divB (nfB o.l.n) (nfB (g.l.n + o.l.n)))) yv := ⟨i3.1, by rw [i3.2, mul_same i1.c i2.c]; rfl⟩
                    have hCa := fun u => refCanon_any u sv i4.lt
                    have hme : canonB sv = addB g.l.me (mulB (subB o.l.me g.l.me) (divB (nfB o.l.n) (nfB (g.l.n + o.l.n)))) := i4.add i5
                    obtain ⟨me2, hme2⟩ : ∃ m, Hid (addB g.l.me (mulB (subB o.l.me g.l.me) (divB (nfB o.l.n) (nfB (g.l.n + o.l.n)))) = m) := ⟨_, rfl⟩
                    rw [hme, hme2.out] at hCa
                    rw [hme2.out] at HL'
                    clear i1 i2 i3 i4 i5 hme
                    have MT3 := KP2.out.below (below_drewN (Below.refl _ _) (n3 + n4))
                    obtain ⟨y0, y1, y2, y3, y4, y5, y6⟩ := MT3.at_.cells
                    simp only at y2 y3 y4 y5 y6
                    obtain ⟨z0, z1, z2, z3, z4, z5, z6⟩ := KP2.out.at_.cells
                    simp only at z2 z3 z4 z5 z6
                    have f6 := MT3.at_.frozen 6
                    have MT := hide (MT3.s6 me2)
                    simp only at MT
                    clear MT3 KP2
                    go_upto_region 29 with (go_at_call 37; refine (hCa _).mono ?_; rintro e w' ⟨rfl, hw⟩; rw [hw]; clear hw w')
                    clear y0 y1 y2 y3 y4 y5 y6 z0 z1 z2 z3 z4 z5 z6 f6 e3 e4
                    generalize (w11.drewN (n3 + n4)).setCell ⟨b, 6, none⟩ (.float .f64 me2) = w12 at *
                    have KP : Hid (Mt w w12.drew b (⟨g.bs, mixL g.cs o.cs j, ⟨g.l.n, g.l.na + o.l.na, g.l.lo, g.l.hi, me2⟩⟩ : G) (.slice xo i xc) (.slice (some ⟨cb, 0, none⟩) j ca) pb o.l) := MT.out.below (Below.refl _ _).drew
                    clear MT
                    refine wp_region_T (fun q => At 66 q b (⟨g.bs, mixL g.cs o.cs j, ⟨g.l.n, g.l.na + o.l.na, g.l.lo, g.l.hi, me2⟩⟩ : G) (.slice xo i xc) (.slice (some ⟨cb, 0, none⟩) j ca) ∧ Lx q pb o.l) 12 (by kernel_rfl) ?_
                    generalize w12.drew = q3 at *
                    refine wpAnyT_take (i := 0) (oi := { dst := some 180, op := Op.move (Operand.tmp 0), type := 31, pos := "ref.go:112", after := #[], guard := none }) (v := .pointer (some ⟨b, 0, none⟩)) [9, 10, 11, 12] rfl (by kernel_rfl) (by kernel_rfl) (by kernel_rfl) (by kernel_rfl) (fun _ _ _ h => h) (Or.inl ⟨by rfl, ?_⟩) ⟨KP.out.at_, KP.out.lx⟩ ?_
                    · intro wq hSw
                      obtain ⟨y0, y1, y2, y3, y4, y5, y6⟩ := hSw.1.cells
                      obtain ⟨z0, z1, z2, z3, z4⟩ := hSw.2.cells
                      simp only at y2 y3 y4 y5 y6
                      go_simp
                    (try simp only [Act.put, List.setIfInBounds_toArray, List.set_cons_zero, List.set_cons_succ])
                    refine wpAnyT_take (i := 1) (oi := { dst := some 181, op := Op.move (Operand.tmp 0), type := 31, pos := "ref.go:112", after := #[], guard := none }) (v := .pointer (some ⟨b, 0, none⟩)) [2, 3, 4, 5, 8, 12] rfl (by kernel_rfl) (by kernel_rfl) (by kernel_rfl) (by kernel_rfl) (fun _ _ _ h => h) (Or.inl ⟨by rfl, ?_⟩) ⟨KP.out.at_, KP.out.lx⟩ ?_
                    · intro wq hSw
                      obtain ⟨y0, y1, y2, y3, y4, y5, y6⟩ := hSw.1.cells
                      obtain ⟨z0, z1, z2, z3, z4⟩ := hSw.2.cells
                      simp only at y2 y3 y4 y5 y6
                      go_simp
                    (try simp only [Act.put, List.setIfInBounds_toArray, List.set_cons_zero, List.set_cons_succ])
                    refine wpAnyT_take (i := 2) (oi := { dst := some 182, op := Op.nilCheck (Operand.tmp 181), type := 0, pos := "ref.go:112", after := #[{ on := 1, ground := Ground.data }], guard := none }) (v := .pointer (some ⟨b, 0, none⟩)) [3, 4, 5, 8, 12] rfl (by kernel_rfl) (by kernel_rfl) (by kernel_rfl) (by kernel_rfl) (fun _ _ _ h => h) (Or.inl ⟨by rfl, ?_⟩) ⟨KP.out.at_, KP.out.lx⟩ ?_
                    · intro wq hSw
                      obtain ⟨y0, y1, y2, y3, y4, y5, y6⟩ := hSw.1.cells
                      obtain ⟨z0, z1, z2, z3, z4⟩ := hSw.2.cells
                      simp only at y2 y3 y4 y5 y6
                      go_simp
                    (try simp only [Act.put, List.setIfInBounds_toArray, List.set_cons_zero, List.set_cons_succ])
                    refine wpAnyT_take (i := 3) (oi := { dst := some 183, op := Op.fieldAddr 66 (Operand.tmp 182) 2, type := 0, pos := "ref.go:112", after := #[{ on := 2, ground := Ground.data }], guard := none }) (v := .pointer (some ⟨b, 2, none⟩)) [4, 5, 8, 12] rfl (by kernel_rfl) (by kernel_rfl) (by kernel_rfl) (by kernel_rfl) (fun _ _ _ h => h) (Or.inl ⟨by rfl, ?_⟩) ⟨KP.out.at_, KP.out.lx⟩ ?_
                    · intro wq hSw
                      obtain ⟨y0, y1, y2, y3, y4, y5, y6⟩ := hSw.1.cells
                      obtain ⟨z0, z1, z2, z3, z4⟩ := hSw.2.cells
                      simp only at y2 y3 y4 y5 y6
                      go_simp
                    (try simp only [Act.put, List.setIfInBounds_toArray, List.set_cons_zero, List.set_cons_succ])
                    refine wpAnyT_take (i := 4) (oi := { dst := some 184, op := Op.fieldAddr 44 (Operand.tmp 183) 0, type := 0, pos := "ref.go:112", after := #[{ on := 3, ground := Ground.data }], guard := none }) (v := .pointer (some ⟨b, 2, none⟩)) [5, 8, 12] rfl (by kernel_rfl) (by kernel_rfl) (by kernel_rfl) (by kernel_rfl) (fun _ _ _ h => h) (Or.inl ⟨by rfl, ?_⟩) ⟨KP.out.at_, KP.out.lx⟩ ?_
                    · intro wq hSw
                      obtain ⟨y0, y1, y2, y3, y4, y5, y6⟩ := hSw.1.cells
                      obtain ⟨z0, z1, z2, z3, z4⟩ := hSw.2.cells
                      simp only at y2 y3 y4 y5 y6
                      go_simp
                    (try simp only [Act.put, List.setIfInBounds_toArray, List.set_cons_zero, List.set_cons_succ])
                    refine wpAnyT_take (i := 5) (oi := { dst := some 185, op := Op.load 2 (Operand.tmp 184), type := 2, pos := "ref.go:112", after := #[{ on := 4, ground := Ground.data }], guard := none }) (v := .int .i64 g.l.n) [8, 12] rfl (by kernel_rfl) (by kernel_rfl) (by kernel_rfl) (by kernel_rfl) (fun _ _ _ h => h) (Or.inl ⟨by rfl, ?_⟩) ⟨KP.out.at_, KP.out.lx⟩ ?_
                    · intro wq hSw
                      obtain ⟨y0, y1, y2, y3, y4, y5, y6⟩ := hSw.1.cells
                      obtain ⟨z0, z1, z2, z3, z4⟩ := hSw.2.cells
                      simp only at y2 y3 y4 y5 y6
                      go_simp
                    (try simp only [Act.put, List.setIfInBounds_toArray, List.set_cons_zero, List.set_cons_succ])
                    refine wpAnyT_take (i := 6) (oi := { dst := some 186, op := Op.fieldAddr 44 (Operand.tmp 6) 0, type := 0, pos := "ref.go:112", after := #[], guard := none }) (v := .pointer (some ⟨pb, 0, none⟩)) [7, 8, 12] rfl (by kernel_rfl) (by kernel_rfl) (by kernel_rfl) (by kernel_rfl) (fun _ _ _ h => h) (Or.inl ⟨by rfl, ?_⟩) ⟨KP.out.at_, KP.out.lx⟩ ?_
                    · intro wq hSw
                      obtain ⟨y0, y1, y2, y3, y4, y5, y6⟩ := hSw.1.cells
                      obtain ⟨z0, z1, z2, z3, z4⟩ := hSw.2.cells
                      simp only at y2 y3 y4 y5 y6
                      go_simp
                    (try simp only [Act.put, List.setIfInBounds_toArray, List.set_cons_zero, List.set_cons_succ])
                    refine wpAnyT_take (i := 7) (oi := { dst := some 187, op := Op.load 2 (Operand.tmp 186), type := 2, pos := "ref.go:112", after := #[{ on := 6, ground := Ground.data }], guard := none }) (v := .int .i64 o.l.n) [8, 12] rfl (by kernel_rfl) (by kernel_rfl) (by kernel_rfl) (by kernel_rfl) (fun _ _ _ h => h) (Or.inl ⟨by rfl, ?_⟩) ⟨KP.out.at_, KP.out.lx⟩ ?_
                    · intro wq hSw
                      obtain ⟨y0, y1, y2, y3, y4, y5, y6⟩ := hSw.1.cells
                      obtain ⟨z0, z1, z2, z3, z4⟩ := hSw.2.cells
                      simp only at y2 y3 y4 y5 y6
                      go_simp
                    (try simp only [Act.put, List.setIfInBounds_toArray, List.set_cons_zero, List.set_cons_succ])
                    refine wpAnyT_take (i := 8) (oi := { dst := some 188, op := Op.binOp BinOp.add 2 (Operand.tmp 185) (Operand.tmp 187) 2, type := 2, pos := "ref.go:112", after := #[{ on := 5, ground := Ground.data }, { on := 7, ground := Ground.data }], guard := none }) (v := .int .i64 (g.l.n + o.l.n)) [12] rfl (by kernel_rfl) (by kernel_rfl) (by kernel_rfl) (by kernel_rfl) (fun _ _ _ h => h) (Or.inl ⟨by rfl, ?_⟩) ⟨KP.out.at_, KP.out.lx⟩ ?_
                    · intro wq hSw
                      obtain ⟨y0, y1, y2, y3, y4, y5, y6⟩ := hSw.1.cells
                      obtain ⟨z0, z1, z2, z3, z4⟩ := hSw.2.cells
                      simp only at y2 y3 y4 y5 y6
                      go_simp
                    (try simp only [Act.put, List.setIfInBounds_toArray, List.set_cons_zero, List.set_cons_succ])
                    refine wpAnyT_one (i := 9) (o := { dst := some 189, op := Op.nilCheck (Operand.tmp 180), type := 0, pos := "ref.go:112", after := #[{ on := 0, ground := Ground.data }, { on := 0, ground := Ground.phase }, { on := 1, ground := Ground.phase }, { on := 2, ground := Ground.phase }, { on := 3, ground := Ground.phase }, { on := 4, ground := Ground.phase }, { on := 5, ground := Ground.phase }, { on := 6, ground := Ground.phase }, { on := 7, ground := Ground.phase }, { on := 8, ground := Ground.phase }], guard := none }) (by kernel_rfl) rfl (fun K9 hK9 => ?_)
                    go_simp
                    refine hK9.out _ _ (fun _ => ⟨KP.out.at_, KP.out.lx⟩) ?_
                    clear hK9 K9
                    (try simp only [Act.put, List.setIfInBounds_toArray, List.set_cons_zero, List.set_cons_succ])
                    refine wpAnyT_one (i := 10) (o := { dst := some 190, op := Op.fieldAddr 66 (Operand.tmp 189) 2, type := 0, pos := "ref.go:112", after := #[{ on := 9, ground := Ground.data }, { on := 0, ground := Ground.phase }, { on := 1, ground := Ground.phase }, { on := 2, ground := Ground.phase }, { on := 3, ground := Ground.phase }, { on := 4, ground := Ground.phase }, { on := 5, ground := Ground.phase }, { on := 6, ground := Ground.phase }, { on := 7, ground := Ground.phase }, { on := 8, ground := Ground.phase }], guard := none }) (by kernel_rfl) rfl (fun K9 hK9 => ?_)
                    go_simp
                    refine hK9.out _ _ (fun _ => ⟨KP.out.at_, KP.out.lx⟩) ?_
                    clear hK9 K9
                    (try simp only [Act.put, List.setIfInBounds_toArray, List.set_cons_zero, List.set_cons_succ])
                    refine wpAnyT_one (i := 11) (o := { dst := some 191, op := Op.fieldAddr 44 (Operand.tmp 190) 0, type := 0, pos := "ref.go:112", after := #[{ on := 10, ground := Ground.data }, { on := 0, ground := Ground.phase }, { on := 1, ground := Ground.phase }, { on := 2, ground := Ground.phase }, { on := 3, ground := Ground.phase }, { on := 4, ground := Ground.phase }, { on := 5, ground := Ground.phase }, { on := 6, ground := Ground.phase }, { on := 7, ground := Ground.phase }, { on := 8, ground := Ground.phase }], guard := none }) (by kernel_rfl) rfl (fun K9 hK9 => ?_)
                    go_simp
                    refine hK9.out _ _ (fun _ => ⟨KP.out.at_, KP.out.lx⟩) ?_
                    clear hK9 K9
                    (try simp only [Act.put, List.setIfInBounds_toArray, List.set_cons_zero, List.set_cons_succ])
                    obtain ⟨y0, y1, y2, y3, y4, y5, y6⟩ := KP.out.at_.cells
                    simp only at y2 y3 y4 y5 y6
                    have f2 := KP.out.at_.frozen 2
                    have MT := hide (KP.out.s2 (g.l.n + o.l.n))
                    simp only at MT
                    refine wpAnyT_one (i := 12) (o := { dst := none, op := Op.store 2 (Operand.tmp 191) (Operand.tmp 188), type := 0, pos := "ref.go:112", after := #[{ on := 11, ground := Ground.data }, { on := 8, ground := Ground.data }, { on := 0, ground := Ground.phase }, { on := 1, ground := Ground.phase }, { on := 2, ground := Ground.phase }, { on := 3, ground := Ground.phase }, { on := 4, ground := Ground.phase }, { on := 5, ground := Ground.phase }, { on := 6, ground := Ground.phase }, { on := 7, ground := Ground.phase }, { on := 8, ground := Ground.phase }], guard := none }) (by kernel_rfl) rfl (fun K9 hK9 => ?_)
                    go_simp
                    refine hK9.out _ _ (vac (by kernel_rfl)) ?_
                    clear hK9 K9
                    (try simp only [Act.put, List.setIfInBounds_toArray, List.set_cons_zero, List.set_cons_succ])
                    refine wpAnyT_done (by kernel_rfl) ?_ _
                    clear y0 y1 y2 y3 y4 y5 y6 f2 KP
                    go_wp2_with fail
                    go_ret
                    have ft := MT.out
                    rw [MIX.out] at ft
                    have e9 : mgF g o = ⟨g.bs, addL g.cs o.cs, ⟨g.l.n + o.l.n, g.l.na + o.l.na, g.l.lo, g.l.hi, me2⟩⟩ := by unfold mgF; rw [HL'.out]
                    rw [e9]
                    exact .inl ⟨SAME.out, rfl, ft.at_, ft.but⟩
          · have hjl : j < K := by omega
            have i1 : (j : Int) < (K : Int) := by omega
            have i2 : (0 : Int) ≤ (j : Int) := by omega
            obtain ⟨k1, k2⟩ := HOK.out.cs _ (getI_mem (show j < g.cs.length by rw [hK.out]; exact hjl))
            obtain ⟨k3, k4⟩ := HOK2.out.cs _ (getI_mem (show j < o.cs.length by rw [hoK]; exact hjl))
            have hcell : Hid (∀ q, At 66 q b ⟨g.bs, mixL g.cs o.cs j, g.l⟩ (.slice xo i xc) (.slice (some ⟨cb, 0, none⟩) K ca) → q.cell? ⟨cb, j, none⟩ = some (.int .i64 (g.cs.getD j 0))) := hide fun q hq => by
              have := hq.cell j (by simp only; rw [mix_len _ _ (by rw [hK.out, hoK]), hK.out]; exact hjl)
              simp only at this
              rwa [mix_get _ _ (by rw [hK.out, hoK]) j (by rw [hK.out]; exact hjl)] at this
            have hcop := hide (fun q (hq : Mr w q b g (.slice xo i xc) cb K ca xb o.cs pb o.l j) => hq.cp j hjl)
            have hnext := hide (fun q (hq : Mr w q b g (.slice xo i xc) cb K ca xb o.cs pb o.l j) => hq.step hK.out hoK hjl)
            obtain ⟨gv, hgv⟩ : ∃ gv, Hid (g.cs.getD j 0 = gv) := ⟨_, rfl⟩
            obtain ⟨ov, hov⟩ : ∃ ov, Hid (o.cs.getD j 0 = ov) := ⟨_, rfl⟩
            rw [hgv.out] at k1 k2 hcell hnext
            rw [hov.out] at k3 k4 hcop hnext
            have kw : IntKind.i64.wrap (gv + ov) = gv + ov := by simp [IntKind.wrap, IntKind.bits, IntKind.signed]; omega
            go_upto_region 13 with fail
            have KP : Hid (Mr w wr.drew b g (.slice xo i xc) cb K ca xb o.cs pb o.l j) := hG.out.drew
            clear hG
            refine wp_region_T (fun q => Mr w q b g (.slice xo i xc) cb K ca xb o.cs pb o.l j) 18 (by kernel_rfl) ?_
            generalize wr.drew = q at *
            refine wpAnyT_take (i := 0) (oi := { dst := some 63, op := Op.move (Operand.tmp 0), type := 31, pos := "ref.go:91", after := #[], guard := none }) (v := .pointer (some ⟨b, 0, none⟩)) [1, 2, 3, 17, 18] rfl (by kernel_rfl) (by kernel_rfl) (by kernel_rfl) (by kernel_rfl) (fun _ _ _ h => h) (Or.inl ⟨by rfl, ?_⟩) KP.out ?_
            · intro wq hSw
              obtain ⟨y0, y1, y2, y3, y4, y5, y6⟩ := hSw.at_.cells
              have y7 := hcell.out _ hSw.at_
              have y8 := hcop.out _ hSw
              go_simp
            (try simp only [Act.put, List.setIfInBounds_toArray, List.set_cons_zero, List.set_cons_succ])
            refine wpAnyT_take (i := 1) (oi := { dst := some 64, op := Op.nilCheck (Operand.tmp 63), type := 0, pos := "ref.go:91", after := #[{ on := 0, ground := Ground.data }], guard := none }) (v := .pointer (some ⟨b, 0, none⟩)) [2, 3, 17, 18] rfl (by kernel_rfl) (by kernel_rfl) (by kernel_rfl) (by kernel_rfl) (fun _ _ _ h => h) (Or.inl ⟨by rfl, ?_⟩) KP.out ?_
            · intro wq hSw
              obtain ⟨y0, y1, y2, y3, y4, y5, y6⟩ := hSw.at_.cells
              have y7 := hcell.out _ hSw.at_
              have y8 := hcop.out _ hSw
              go_simp
            (try simp only [Act.put, List.setIfInBounds_toArray, List.set_cons_zero, List.set_cons_succ])
            refine wpAnyT_take (i := 2) (oi := { dst := some 65, op := Op.fieldAddr 66 (Operand.tmp 64) 1, type := 0, pos := "ref.go:91", after := #[{ on := 1, ground := Ground.data }], guard := none }) (v := .pointer (some ⟨b, 1, none⟩)) [3, 17, 18] rfl (by kernel_rfl) (by kernel_rfl) (by kernel_rfl) (by kernel_rfl) (fun _ _ _ h => h) (Or.inl ⟨by rfl, ?_⟩) KP.out ?_
            · intro wq hSw
              obtain ⟨y0, y1, y2, y3, y4, y5, y6⟩ := hSw.at_.cells
              have y7 := hcell.out _ hSw.at_
              have y8 := hcop.out _ hSw
              go_simp
            (try simp only [Act.put, List.setIfInBounds_toArray, List.set_cons_zero, List.set_cons_succ])
            refine wpAnyT_take (i := 3) (oi := { dst := some 66, op := Op.load 41 (Operand.tmp 65), type := 41, pos := "ref.go:91", after := #[{ on := 2, ground := Ground.data }], guard := none }) (v := .slice (some ⟨cb, 0, none⟩) K ca) [17, 18] rfl (by kernel_rfl) (by kernel_rfl) (by kernel_rfl) (by kernel_rfl) (fun _ _ _ h => h) (Or.inl ⟨by rfl, ?_⟩) KP.out ?_
            · intro wq hSw
              obtain ⟨y0, y1, y2, y3, y4, y5, y6⟩ := hSw.at_.cells
              have y7 := hcell.out _ hSw.at_
              have y8 := hcop.out _ hSw
              go_simp
            (try simp only [Act.put, List.setIfInBounds_toArray, List.set_cons_zero, List.set_cons_succ])
            refine wpAnyT_take (i := 4) (oi := { dst := some 67, op := Op.move (Operand.tmp 8), type := 3, pos := "ref.go:91", after := #[], guard := none }) (v := .int .i64 (j : Int)) [17, 18] rfl (by kernel_rfl) (by kernel_rfl) (by kernel_rfl) (by kernel_rfl) (fun _ _ _ h => h) (Or.inl ⟨by rfl, ?_⟩) KP.out ?_
            · intro wq hSw
              obtain ⟨y0, y1, y2, y3, y4, y5, y6⟩ := hSw.at_.cells
              have y7 := hcell.out _ hSw.at_
              have y8 := hcop.out _ hSw
              go_simp
            (try simp only [Act.put, List.setIfInBounds_toArray, List.set_cons_zero, List.set_cons_succ])
            refine wpAnyT_take (i := 5) (oi := { dst := some 68, op := Op.move (Operand.tmp 0), type := 31, pos := "ref.go:91", after := #[], guard := none }) (v := .pointer (some ⟨b, 0, none⟩)) [6, 7, 8, 10, 11, 16, 18] rfl (by kernel_rfl) (by kernel_rfl) (by kernel_rfl) (by kernel_rfl) (fun _ _ _ h => h) (Or.inl ⟨by rfl, ?_⟩) KP.out ?_
            · intro wq hSw
              obtain ⟨y0, y1, y2, y3, y4, y5, y6⟩ := hSw.at_.cells
              have y7 := hcell.out _ hSw.at_
              have y8 := hcop.out _ hSw
              go_simp
            (try simp only [Act.put, List.setIfInBounds_toArray, List.set_cons_zero, List.set_cons_succ])
            refine wpAnyT_take (i := 6) (oi := { dst := some 69, op := Op.nilCheck (Operand.tmp 68), type := 0, pos := "ref.go:91", after := #[{ on := 5, ground := Ground.data }], guard := none }) (v := .pointer (some ⟨b, 0, none⟩)) [7, 8, 10, 11, 16, 18] rfl (by kernel_rfl) (by kernel_rfl) (by kernel_rfl) (by kernel_rfl) (fun _ _ _ h => h) (Or.inl ⟨by rfl, ?_⟩) KP.out ?_
            · intro wq hSw
              obtain ⟨y0, y1, y2, y3, y4, y5, y6⟩ := hSw.at_.cells
              have y7 := hcell.out _ hSw.at_
              have y8 := hcop.out _ hSw
              go_simp
            (try simp only [Act.put, List.setIfInBounds_toArray, List.set_cons_zero, List.set_cons_succ])
            refine wpAnyT_take (i := 7) (oi := { dst := some 70, op := Op.fieldAddr 66 (Operand.tmp 69) 1, type := 0, pos := "ref.go:91", after := #[{ on := 6, ground := Ground.data }], guard := none }) (v := .pointer (some ⟨b, 1, none⟩)) [8, 10, 11, 16, 18] rfl (by kernel_rfl) (by kernel_rfl) (by kernel_rfl) (by kernel_rfl) (fun _ _ _ h => h) (Or.inl ⟨by rfl, ?_⟩) KP.out ?_
            · intro wq hSw
              obtain ⟨y0, y1, y2, y3, y4, y5, y6⟩ := hSw.at_.cells
              have y7 := hcell.out _ hSw.at_
              have y8 := hcop.out _ hSw
              go_simp
            (try simp only [Act.put, List.setIfInBounds_toArray, List.set_cons_zero, List.set_cons_succ])
            refine wpAnyT_take (i := 8) (oi := { dst := some 71, op := Op.load 41 (Operand.tmp 70), type := 41, pos := "ref.go:91", after := #[{ on := 7, ground := Ground.data }], guard := none }) (v := .slice (some ⟨cb, 0, none⟩) K ca) [10, 11, 16, 18] rfl (by kernel_rfl) (by kernel_rfl) (by kernel_rfl) (by kernel_rfl) (fun _ _ _ h => h) (Or.inl ⟨by rfl, ?_⟩) KP.out ?_
            · intro wq hSw
              obtain ⟨y0, y1, y2, y3, y4, y5, y6⟩ := hSw.at_.cells
              have y7 := hcell.out _ hSw.at_
              have y8 := hcop.out _ hSw
              go_simp
            (try simp only [Act.put, List.setIfInBounds_toArray, List.set_cons_zero, List.set_cons_succ])
            refine wpAnyT_take (i := 9) (oi := { dst := some 72, op := Op.move (Operand.tmp 8), type := 3, pos := "ref.go:91", after := #[], guard := none }) (v := .int .i64 (j : Int)) [10, 11, 16, 18] rfl (by kernel_rfl) (by kernel_rfl) (by kernel_rfl) (by kernel_rfl) (fun _ _ _ h => h) (Or.inl ⟨by rfl, ?_⟩) KP.out ?_
            · intro wq hSw
              obtain ⟨y0, y1, y2, y3, y4, y5, y6⟩ := hSw.at_.cells
              have y7 := hcell.out _ hSw.at_
              have y8 := hcop.out _ hSw
              go_simp
            (try simp only [Act.put, List.setIfInBounds_toArray, List.set_cons_zero, List.set_cons_succ])
            refine wpAnyT_take (i := 10) (oi := { dst := some 73, op := Op.indexAddr 41 (Operand.tmp 71) (Operand.tmp 72), type := 0, pos := "ref.go:91", after := #[{ on := 8, ground := Ground.data }, { on := 9, ground := Ground.data }], guard := none }) (v := .pointer (some ⟨cb, j, none⟩)) [11, 16, 18] rfl (by kernel_rfl) (by kernel_rfl) (by kernel_rfl) (by kernel_rfl) (fun _ _ _ h => h) (Or.inl ⟨by rfl, ?_⟩) KP.out ?_
            · intro wq hSw
              obtain ⟨y0, y1, y2, y3, y4, y5, y6⟩ := hSw.at_.cells
              have y7 := hcell.out _ hSw.at_
              have y8 := hcop.out _ hSw
              go_simp
            (try simp only [Act.put, List.setIfInBounds_toArray, List.set_cons_zero, List.set_cons_succ])
            refine wpAnyT_take (i := 11) (oi := { dst := some 74, op := Op.load 2 (Operand.tmp 73), type := 2, pos := "ref.go:91", after := #[{ on := 10, ground := Ground.data }], guard := none }) (v := .int .i64 gv) [16, 18] rfl (by kernel_rfl) (by kernel_rfl) (by kernel_rfl) (by kernel_rfl) (fun _ _ _ h => h) (Or.inl ⟨by rfl, ?_⟩) KP.out ?_
            · intro wq hSw
              obtain ⟨y0, y1, y2, y3, y4, y5, y6⟩ := hSw.at_.cells
              have y7 := hcell.out _ hSw.at_
              have y8 := hcop.out _ hSw
              go_simp
            (try simp only [Act.put, List.setIfInBounds_toArray, List.set_cons_zero, List.set_cons_succ])
            refine wpAnyT_take (i := 12) (oi := { dst := some 75, op := Op.move (Operand.tmp 7), type := 41, pos := "ref.go:91", after := #[], guard := none }) (v := .slice (some ⟨xb, 0, none⟩) K xca) [14, 15, 16, 18] rfl (by kernel_rfl) (by kernel_rfl) (by kernel_rfl) (by kernel_rfl) (fun _ _ _ h => h) (Or.inl ⟨by rfl, ?_⟩) KP.out ?_
            · intro wq hSw
              obtain ⟨y0, y1, y2, y3, y4, y5, y6⟩ := hSw.at_.cells
              have y7 := hcell.out _ hSw.at_
              have y8 := hcop.out _ hSw
              go_simp
            (try simp only [Act.put, List.setIfInBounds_toArray, List.set_cons_zero, List.set_cons_succ])
            refine wpAnyT_take (i := 13) (oi := { dst := some 76, op := Op.move (Operand.tmp 8), type := 3, pos := "ref.go:91", after := #[], guard := none }) (v := .int .i64 (j : Int)) [14, 15, 16, 18] rfl (by kernel_rfl) (by kernel_rfl) (by kernel_rfl) (by kernel_rfl) (fun _ _ _ h => h) (Or.inl ⟨by rfl, ?_⟩) KP.out ?_
            · intro wq hSw
              obtain ⟨y0, y1, y2, y3, y4, y5, y6⟩ := hSw.at_.cells
              have y7 := hcell.out _ hSw.at_
              have y8 := hcop.out _ hSw
              go_simp
            (try simp only [Act.put, List.setIfInBounds_toArray, List.set_cons_zero, List.set_cons_succ])
            refine wpAnyT_take (i := 14) (oi := { dst := some 77, op := Op.indexAddr 41 (Operand.tmp 75) (Operand.tmp 76), type := 0, pos := "ref.go:91", after := #[{ on := 12, ground := Ground.data }, { on := 13, ground := Ground.data }], guard := none }) (v := .pointer (some ⟨xb, j, none⟩)) [15, 16, 18] rfl (by kernel_rfl) (by kernel_rfl) (by kernel_rfl) (by kernel_rfl) (fun _ _ _ h => h) (Or.inl ⟨by rfl, ?_⟩) KP.out ?_
            · intro wq hSw
              obtain ⟨y0, y1, y2, y3, y4, y5, y6⟩ := hSw.at_.cells
              have y7 := hcell.out _ hSw.at_
              have y8 := hcop.out _ hSw
              go_simp
            (try simp only [Act.put, List.setIfInBounds_toArray, List.set_cons_zero, List.set_cons_succ])
            refine wpAnyT_take (i := 15) (oi := { dst := some 78, op := Op.load 2 (Operand.tmp 77), type := 2, pos := "ref.go:91", after := #[{ on := 14, ground := Ground.data }], guard := none }) (v := .int .i64 ov) [16, 18] rfl (by kernel_rfl) (by kernel_rfl) (by kernel_rfl) (by kernel_rfl) (fun _ _ _ h => h) (Or.inl ⟨by rfl, ?_⟩) KP.out ?_
            · intro wq hSw
              obtain ⟨y0, y1, y2, y3, y4, y5, y6⟩ := hSw.at_.cells
              have y7 := hcell.out _ hSw.at_
              have y8 := hcop.out _ hSw
              go_simp
            (try simp only [Act.put, List.setIfInBounds_toArray, List.set_cons_zero, List.set_cons_succ])
            refine wpAnyT_take (i := 16) (oi := { dst := some 79, op := Op.binOp BinOp.add 2 (Operand.tmp 74) (Operand.tmp 78) 2, type := 2, pos := "ref.go:91", after := #[{ on := 11, ground := Ground.data }, { on := 15, ground := Ground.data }], guard := none }) (v := .int .i64 (gv + ov)) [18] rfl (by kernel_rfl) (by kernel_rfl) (by kernel_rfl) (by kernel_rfl) (fun _ _ _ h => h) (Or.inl ⟨by rfl, ?_⟩) KP.out ?_
            · intro wq hSw
              obtain ⟨y0, y1, y2, y3, y4, y5, y6⟩ := hSw.at_.cells
              have y7 := hcell.out _ hSw.at_
              have y8 := hcop.out _ hSw
              go_simp
            (try simp only [Act.put, List.setIfInBounds_toArray, List.set_cons_zero, List.set_cons_succ])
            refine wpAnyT_one (i := 17) (o := { dst := some 80, op := Op.indexAddr 41 (Operand.tmp 66) (Operand.tmp 67), type := 0, pos := "ref.go:91", after := #[{ on := 3, ground := Ground.data }, { on := 4, ground := Ground.data }, { on := 0, ground := Ground.phase }, { on := 1, ground := Ground.phase }, { on := 2, ground := Ground.phase }, { on := 3, ground := Ground.phase }, { on := 4, ground := Ground.phase }, { on := 5, ground := Ground.phase }, { on := 6, ground := Ground.phase }, { on := 7, ground := Ground.phase }, { on := 8, ground := Ground.phase }, { on := 9, ground := Ground.phase }, { on := 10, ground := Ground.phase }, { on := 11, ground := Ground.phase }, { on := 12, ground := Ground.phase }, { on := 13, ground := Ground.phase }, { on := 14, ground := Ground.phase }, { on := 15, ground := Ground.phase }, { on := 16, ground := Ground.phase }], guard := none }) (by kernel_rfl) rfl (fun K9 hK9 => ?_)
            go_simp
            refine hK9.out _ _ (fun _ => KP.out) ?_
            clear hK9 K9
            (try simp only [Act.put, List.setIfInBounds_toArray, List.set_cons_zero, List.set_cons_succ])
            have y7 := hcell.out _ KP.out.at_
            have y8 := KP.out.at_.cfrozen j
            have G6 := hide (hnext.out _ KP.out)
            refine wpAnyT_one (i := 18) (o := { dst := none, op := Op.store 2 (Operand.tmp 80) (Operand.tmp 79), type := 0, pos := "ref.go:91", after := #[{ on := 17, ground := Ground.data }, { on := 16, ground := Ground.data }, { on := 0, ground := Ground.phase }, { on := 1, ground := Ground.phase }, { on := 2, ground := Ground.phase }, { on := 3, ground := Ground.phase }, { on := 4, ground := Ground.phase }, { on := 5, ground := Ground.phase }, { on := 6, ground := Ground.phase }, { on := 7, ground := Ground.phase }, { on := 8, ground := Ground.phase }, { on := 9, ground := Ground.phase }, { on := 10, ground := Ground.phase }, { on := 11, ground := Ground.phase }, { on := 12, ground := Ground.phase }, { on := 13, ground := Ground.phase }, { on := 14, ground := Ground.phase }, { on := 15, ground := Ground.phase }, { on := 16, ground := Ground.phase }], guard := none }) (by kernel_rfl) rfl (fun K9 hK9 => ?_)
            go_simp
            refine hK9.out _ _ (vac (by kernel_rfl)) ?_
            clear hK9 K9
            (try simp only [Act.put, List.setIfInBounds_toArray, List.set_cons_zero, List.set_cons_succ])
            refine wpAnyT_done (by kernel_rfl) ?_ _
            clear y7 y8 KP hcell hcop hnext
            generalize q.setCell ⟨cb, j, none⟩ (.int .i64 (gv + ov)) = w6 at *
            go_wp2_with fail
            go_roundw
            case rel => exact ⟨j + 1, by omega, by go_num, G6.out⟩
            case measure => simp [intOf]; omega
      · have hil : i < N := by omega
        obtain ⟨bb, rfl, hcx0⟩ := HXR.out i hil
        obtain ⟨bb', rfl, hcy0⟩ := HZR.out i hil
        have hcx := (hBe.out.cell (lt_of_cell hcx0)).trans hcx0
        have hcy := (hBe.out.cell (lt_of_cell hcy0)).trans hcy0
        have hx := HB.out i hil
        have hy := HB2.out i hil
        clear hcx0 hcy0
        have i1 : (i : Int) < (N : Int) := by omega
        have i2 : (0 : Int) ≤ (i : Int) := by omega
        obtain ⟨x, hxx⟩ : ∃ x, Hid (g.bs.getD i 0 = x) := ⟨_, rfl⟩
        obtain ⟨y, hyy⟩ : ∃ y, Hid (o.bs.getD i 0 = y) := ⟨_, rfl⟩
        rw [hxx.out] at hcx hx
        rw [hyy.out] at hcy hy
        have hS := fun u => refSame_any u x y hx hy
        have hD : Hid (∀ k, Below w.heap.size w (wr.drewN k)) := hide (fun k => below_drewN hBe.out k)
        by_cases hk : keyB x = keyB y
        · rw [decide_eq_true hk] at hS
          have hn : Hid (keyB (g.bs.getD i 0) = keyB (o.bs.getD i 0)) := hide (by rw [hxx.out, hyy.out]; exact hk)
          go_upto_region 6 with fail
          go_quiet ((go_at_call 43; exact Calls.quiet_of_same (hS _)))
          go_wp2_with fail
          go_roundw
          case rel => exact ⟨i + 1, by omega, by go_num, fun j hj => by
            by_cases e : j = i
            · rw [e]; exact hn.out
            · exact hf.out j (by omega), hD.out _⟩
          case measure => simp [intOf]; omega
        · rw [decide_eq_false hk] at hS
          have hn : Hid (¬ sameL g.bs o.bs) := hide fun h => hk (by have := h.2 i (by rw [hN.out]; exact hil); rwa [hxx.out, hyy.out] at this)
          go_upto_region 6 with fail
          go_quiet ((go_at_call 43; exact Calls.quiet_of_same (hS _)))
          go_wp2_with fail
          go_ret
          exact .inr ⟨hn.out, rfl, hD.out _⟩
  · have hn : Hid (¬ sameL g.bs o.bs) := hide fun h => hlm h.1
    have k : ((g.bs.length : Int) == (o.bs.length : Int)) = false := by simp; omega
    have k' : ¬ g.bs.length = o.bs.length := hlm
    clear h h2 ok ok2 nz nz2
    go_enter Try.func16, Try.ntmps16
    go_upto_region 1 with fail
    go_quiet (fail)
    go_wp2_with fail
    go_ret
    exact .inr ⟨hn.out, rfl, below_drewN (Below.refl _ _) _⟩
end Go.Proofs.Ytjkdhckhokkefaa.Gg

