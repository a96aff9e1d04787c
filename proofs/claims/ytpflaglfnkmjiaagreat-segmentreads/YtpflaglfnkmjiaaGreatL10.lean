/-
  SegmentReads: the walk.
-/
import Derived.Test.YtpflaglfnkmjiaaGreatL09
import Derived.Deep.LoopGhost
import Derived.Test.YtpflaglfnkmjiaaGreatL01
import Derived.Deep.Strs
import Derived.Deep.Slices
set_option maxRecDepth 100000
set_option maxHeartbeats 40000000
set_option linter.unusedVariables false
namespace Go.Proofs.YtpflaglfnkmjiaaGreat.Sg
open Go.RowKit Go.Maps Go.Sort Go.Shelf Go.Proofs.YtpflaglfnkmjiaaGreat.Nm Go.Proofs.YtpflaglfnkmjiaaGreat.Dk
theorem wpList_append_runR {w : World} {ops : Array Oper} {rest : List Oper} {o : Oper} {a : Act} {Q : Exit → Act → World → Prop} (hgd : o.guard = none) (s x : Operand) {vs vx v' : Value} {w' : World}
    (ho : o.op = .call { callee := .builtin .append, args := #[s, x], argTypes := #[72, 72] }) (hs : a.eval s = vs) (hx : a.eval x = vx)
    (hr : (Builtin.append_ #[72, 72] o.type #[vs, vx]).run Tryz.prog w = .ok v' w') (h : wpList Tryz.prog ops Q rest (a.put o.dst v') w') : wpList Tryz.prog ops Q (o :: rest) a w := by
 refine wpList_plain hgd fun K hK => ?_
 exact Lib.wp_append_run _ s x 72 72 ho vs vx hs hx v' w' hr (hK _ _ h)
theorem Sls.app {w : World} {u v : List Value} {l m : List (List UInt8)} (h : Sls w u l) (k : Sls w v m) : Sls w (u ++ v) (l ++ m) := by
 refine ⟨by rw [List.length_append, List.length_append, h.1, k.1], fun i h1 h2 => ?_⟩
 by_cases hi : i < u.length
 ·have hi2 : i < l.length := by rw [← h.1]; exact hi
  rw [List.getElem_append_left hi, List.getElem_append_left hi2]
  exact h.2 i hi hi2
 ·have hi2 : ¬ i < l.length := by rw [← h.1]; exact hi
  rw [List.getElem_append_right (by omega), List.getElem_append_right (by omega)]
  have e := h.1
  simp only [e]
  exact k.2 _ _ _
theorem reads_walk (w : World) (nm bs : Int) (seed : Crc.R) (n0 : -9223372036854775808 ≤ nm) (n1 : nm ≤ 9223372036854775807) (b0 : -9223372036854775808 ≤ bs) (b1 : bs ≤ 9223372036854775807) (vL : Value) (vs : List Value) (lots : List (List (List UInt8))) (hr : Row w vL vs) (hlt : Lots w vs lots) (hrch : ∀ x ∈ lots, x.length ≤ 140737488351232) :
    Calls Tryz.prog 5 #[.agg #[.int .i64 nm, .int .i64 bs, .int .u32 (seed.toNat : Int)], vL] w fun e w' => e = .returned (.bool true) ∧ Below w.heap.size w w' := by
 have B0 := box_below w (.cells #[.int .i64 nm, .int .i64 bs, .int .u32 (seed.toNat : Int)] 38)
 have N0 := heap_alloc_new w (.cells #[.int .i64 nm, .int .i64 bs, .int .u32 (seed.toNat : Int)] 38)
 have HR := hide (Below.row B0 hr)
 have HL := hide (hlt.below B0)
 replace hrch := hide hrch
 obtain ⟨ao, ca, rfl, _, h2, h3, _⟩ := hr
 have hN : Hid (vs.length = lots.length) := hlt.1
 obtain ⟨N, hlN⟩ : ∃ N, Hid (lots.length = N) := ⟨_, rfl⟩
 rw [hN.out, hlN.out] at h2 HR ⊢
 have hle : N ≤ 9223372036854775807 := by unfold maxLen at h3; omega
 clear hlt h2 h3
 obtain ⟨w0, hw0⟩ : ∃ w0, Hid (w.alloc (.cells #[.int .i64 nm, .int .i64 bs, .int .u32 (seed.toNat : Int)] 38) = w0) := ⟨_, rfl⟩
 obtain ⟨g0, hg0⟩ : ∃ g0, Hid (w.heap.size = g0) := ⟨_, rfl⟩
 rw [hw0.out] at B0 N0 HR HL
 rw [hg0.out] at N0
 replace B0 := hide B0
 replace N0 := hide N0
 have hB := hide (begun13_any w0)
 have hD : Hid (∀ q, _) := fun q => new_dsk q 4194304 (by decide) (by decide)
 go_enter Tryz.func5, Tryz.ntmps5
 go_upto_region 1 with fail
 rw [hw0.out, hg0.out]
 go_upto_region 3 with (first
  | (go_at_call 6; refine hB.out.mono ?_; rintro e w1 ⟨rfl, B1⟩; have N1 := (B1.block _ (heap_lt N0.out)).trans N0.out; replace B1 := hide B1)
  | fail)
 obtain ⟨x0, x1, x2⟩ := tri N1
 replace N1 := hide N1
 have F1 := hide (keepF B0.out B1.out)
 by_cases hn : nm < 1
 ·go_wp2_with fail
  go_ret
  exact ⟨rfl, F1.out⟩
 by_cases hb : bs < 1
 ·go_wp2_with fail
  go_ret
  exact ⟨rfl, F1.out⟩
 by_cases hb2 : 1152921504606846976 < bs
 ·go_wp2_with fail
  go_ret
  exact ⟨rfl, F1.out⟩
 by_cases h30 : (30 : Int) < (N : Int)
 ·go_wp2_with fail
  go_ret
  exact ⟨rfl, F1.out⟩
 go_upto_region 6 with (first
  | (go_at_call 7; refine (hD.out _).mono ?_; rintro e w2 ⟨b, O2, rfl, D2, B2, L2⟩; have E2 := hide (bs2 B1.out B2); have L2' : Hid (∀ k, O2 k → w0.heap.size ≤ k) := fun k hk => Nat.le_trans B1.out.size (L2 k hk); have N2 := (B2.block _ (heap_lt N1.out)).trans N1.out; replace D2 := hide D2; clear B2 L2)
  | fail)
 clear x0 x1 x2
 obtain ⟨x0, x1, x2⟩ := tri N2
 replace N2 := hide N2
 have hC : Hid (Calls Tryz.prog 13 #[.pointer (some ⟨b, 0, none⟩), .string ⟨#[115, 101, 103, 45, 48, 48, 48, 48, 48, 48, 48, 48, 48, 48, 48, 48, 48, 48, 48, 49, 46, 108, 111, 103]⟩, .agg #[.int .i64 nm, .int .i64 bs, .int .u32 (seed.toNat : Int)]] w2 fun e w' => ∃ p sb, e = .returned (.tuple #[.pointer (some ⟨sb, 0, none⟩), .int .i64 0]) ∧ p ∉ (DS.new 4194304).ps ∧ CS w0 w' sb (newSG b fileB nm bs seed (whF nm bs seed).2.1) (creF (DS.new 4194304) fileB nm bs seed p).1) :=
  cs_create D2.out E2.out L2'.out fileB nm bs seed (by decide) (by decide) (by decide) n0 n1 b0 b1 (fun p => (RJ.new nm bs seed (by omega) (by omega) (by omega) b p).1)
 go_upto_region 9 with (first
  | (go_at_call 13; refine hC.out.mono ?_; rintro e w3 ⟨p, sb, rfl, _, C3⟩; replace C3 := hide C3)
  | fail)
 have J3 : Hid (∃ s S, RJ s S b nm bs seed [] 0 ∧ CS w0 w3 sb s S) := hide ⟨_, _, (RJ.new nm bs seed (by omega) (by omega) (by omega) b p).2, C3.out⟩
 clear hC D2 E2 L2' B1 C3 x0 x1 x2 N1 N2 F1
 go_wp2_with fail
 go_loopg [8, 9] N (fun kx v8 v9 wr => ∃ (i : Nat) (us : List Value) (ds : List (List UInt8)) (s : SG) (S : DS), i ≤ N ∧ N - i ≤ kx ∧ v9 = .int .i64 (i : Int) ∧ Hid (LJ w0 wr sb s S bs us v8) ∧ Hid (RJ s S b nm bs seed ds i) ∧ Hid (Sls w0 us ds))
 case atStart =>
  obtain ⟨s, S, j, c⟩ := J3.out
  exact ⟨0, [], [], s, S, Nat.zero_le _, Nat.le_refl _, rfl, LJ.new c bs, j, ⟨rfl, fun i h => by simp at h⟩⟩
 case round =>
  clear J3
  obtain ⟨i, us, ds, s, S, hi, hkx, rfl, hJ, hRJ, hS⟩ := hrel
  obtain ⟨aa, ac, rfl⟩ := hJ.out.al.form
  have hbe := hide hJ.out.be
  have hFw : Hid (Below w.heap.size w wr) := hide (keepF B0.out hbe.out)
  by_cases hlt : ¬ i < N
  ·have hlt' : ¬ (i : Int) < (N : Int) := by omega
   have hi30 : i ≤ 30 := by omega
   have hul : Hid (us.length = ds.length) := hide hS.out.1
   have hO := hide (hRJ.out.opens hJ.out.cs hi30 (by omega) n1 (by omega) (by omega))
   have hus : ds.length ≤ 100000 := by
    have e1 := hRJ.out.sz
    have e2 := smS_len ds
    omega
   obtain ⟨U, hU⟩ : ∃ U, Hid (ds.length = U) := ⟨_, rfl⟩
   obtain ⟨V, hV⟩ : ∃ V, Hid (V = us.length) := ⟨_, rfl⟩
   rw [← hV.out]
   have hVU : Hid (V = U) := hide (by rw [hV.out, hul.out, hU.out])
   rw [hU.out] at hO hus
   have h3 : IntKind.i64.wrap (U : Int) = (U : Int) := by rw [IntKind.wrap_i64]; omega
   rw [hVU.out]
   go_upto_region 28 with (first
    | (go_at_call 18; refine hO.out.mono ?_; rintro e w3 ⟨tb, z1, z2, z3, t, rfl, C1, C2, hlook, okt, tbs, tfl, hbo, hrd⟩; clear C1)
    | fail)
   clear hO
   have X4 := box_below w3 (.cells #[.int .i64 (U : Int), .int .i64 z1, .int .i64 z2, .int .u32 z3, .int .i64 1] 62)
   have N4 := heap_alloc_new w3 (.cells #[.int .i64 (U : Int), .int .i64 z1, .int .i64 z2, .int .u32 z3, .int .i64 1] 62)
   have J4 := hide (hJ.out.below (keepF hbo X4))
   replace C2 := hide (C2.below X4)
   obtain ⟨w4, hw4⟩ : ∃ w4, Hid (w3.alloc (.cells #[.int .i64 (U : Int), .int .i64 z1, .int .i64 z2, .int .u32 z3, .int .i64 1] 62) = w4) := ⟨_, rfl⟩
   obtain ⟨g4, hg4⟩ : ∃ g4, Hid (w3.heap.size = g4) := ⟨_, rfl⟩
   rw [hw4.out] at N4 C2 J4
   rw [hg4.out] at N4
   rw [hw4.out, hg4.out]
   have hL : ∀ q : World, (binOp .neq 77 (.agg s.look) (.agg s.look)).run Tryz.prog q = .ok (.bool false) q := fun q => looksSame q _ _ _ _ _ _ _ _
   have hK1 : Hid (∀ q, Below w4.heap.size w4 q → Calls Tryz.prog 22 #[.pointer (some ⟨tb, 0, none⟩)] q fun e w' => e = .returned (.agg s.look) ∧ Below q.heap.size q w') := hide fun q hq => by
    have := cs_look (C2.out.below hq)
    rw [hlook] at this
    exact this
   have hK2 : Hid (∀ q, Below w4.heap.size w4 q → Calls Tryz.prog 22 #[.pointer (some ⟨sb, 0, none⟩)] q fun e w' => e = .returned (.agg s.look) ∧ Below q.heap.size q w') := hide fun q hq => cs_look (J4.out.cs.below hq)
   obtain ⟨lk, hlk⟩ : ∃ lk, Hid (s.look = lk) := ⟨_, rfl⟩
   rw [hlk.out] at hL hK1 hK2
   have s0 : w4.cell? ⟨g4, 0, none⟩ = some (.int .i64 (U : Int)) := by rw [cell_of N4]; rfl
   have s4 : w4.cell? ⟨g4, 4, none⟩ = some (.int .i64 1) := by rw [cell_of N4]; rfl
   have ok : Hid (SOk s ∧ SOk t ∧ 1 ≤ s.base ∧ 1 ≤ t.base ∧ s.file.size ≤ maxLen ∧ t.file.size ≤ maxLen) := hide (by
    obtain ⟨F, p, cl⟩ := hRJ.out.cl
    exact ⟨cl.co.ok, okt, by rw [hRJ.out.bs]; omega, by rw [tbs]; omega, by rw [hRJ.out.fl]; exact fileB_len.1, by rw [tfl]; exact fileB_len.1⟩)
   have hrs : Hid (∀ k : Nat, k < U → rdS s S (bs + (k : Int)) = ((bs + (k : Int), ds.getD k []), 0)) := hide fun k hk => by
    have := hRJ.out.read (lsn := bs + (k : Int)) (by omega) (by have := hU.out; omega)
    rw [this, show (bs + (k : Int) - bs).toNat = k by omega]
   have hrt : Hid (∀ k : Nat, k < U → rdS t S (bs + (k : Int)) = ((bs + (k : Int), ds.getD k []), 0)) := hide fun k hk => by
    have := hrd (bs + (k : Int)) (by omega) (by have := hU.out; omega)
    rw [this, show (bs + (k : Int) - bs).toNat = k by omega]
   have hFw4 : Hid (Below w.heap.size w w4) := hide (keepF B0.out J4.out.be)
   clear X4 hw4 hg4 N4 hlook okt tbs tfl hrd hlk hbo
   go_upto_region 30 with (first
    | (have d1 := b5; go_at_call 22; refine (hK2.out _ b5.out).mono ?_; rintro e w6 ⟨rfl, b6⟩; replace b6 := hide (keepF b5.out b6))
    | (go_at_call 22; refine (hK1.out _ (Below.refl _ _)).mono ?_; rintro e w5 ⟨rfl, b5⟩; replace b5 := hide b5)
    | fail)
   clear hK1 hK2 hL s0 s4 b5
   go_wp2_with fail
   go_loopg [17] U (fun kx v17 wq => ∃ k : Nat, k ≤ U ∧ U - k ≤ kx ∧ v17 = .int .i64 (k : Int) ∧ Hid (Below w4.heap.size w4 wq))
   case atStart => exact ⟨0, Nat.zero_le _, Nat.le_refl _, rfl, b6⟩
   case round =>
    obtain ⟨k, hk, hkx, rfl, hB⟩ := hrel
    clear b6
    have hFq : Hid (Below w.heap.size w wr) := hide (keepF hFw4.out hB.out)
    have k0 : (0 : Int) ≤ (k : Int) := by omega
    by_cases hlk : ¬ k < U
    ·have hlk' : ¬ (k : Int) < (U : Int) := by omega
     go_wp2_with fail
     go_ret
     exact ⟨rfl, hFq.out⟩
    have hlk' : (k : Int) < (U : Int) := by omega
    have hku : k < us.length := by rw [hul.out, hU.out]; omega
    obtain ⟨g, cap, hv, c0, c1⟩ := J4.out.al.cells hku
    simp only [Value.slice.injEq] at hv
    obtain ⟨ha, _, hc⟩ := hv
    subst ha hc
    have hsl : Sl w0 us[k] (ds.getD k []) := by
     have hk2 : k < ds.length := by rw [hU.out]; omega
     have := hS.out.2 k hku hk2
     simpa [List.getD, hk2] using this
    have hr1 := hrs.out k (by omega)
    have hr2 := hrt.out k (by omega)
    generalize us[k] = uv at c1 hsl
    generalize ds.getD k [] = D at hsl hr1 hr2
    obtain ⟨M, hM⟩ : ∃ M, Hid (D.length = M) := ⟨_, rfl⟩
    obtain ⟨ua, uc, rfl⟩ := Sl.form hsl rfl
    have hb1 : -9223372036854775808 ≤ bs + (k : Int) ∧ bs + (k : Int) ≤ 9223372036854775807 := by omega
    have hR1 : Hid (∀ q, Below w4.heap.size w4 q → Calls Tryz.prog 19 #[.pointer (some ⟨sb, 0, none⟩), .int .i64 (bs + (k : Int))] q fun e w' => ∃ va vc, e = .returned (.tuple #[.agg #[.int .i64 (bs + (k : Int)), .slice va M vc], .int .i64 0]) ∧ Sl w' (.slice va M vc) D ∧ Below q.heap.size q w') := hide fun q hq => by
     have := cs_read (J4.out.cs.below hq) ok.out.1 (bs + (k : Int)) hb1.1 hb1.2 ok.out.2.2.1 ok.out.2.2.2.2.1
     rw [hr1] at this
     refine this.mono ?_
     rintro e w' ⟨vd, he, ho, hb⟩
     obtain ⟨va, vc, hv⟩ := Sl.form ho.sl rfl
     rw [hM.out] at hv
     subst hv
     exact ⟨va, vc, he, ho.sl, hb⟩
    have hR2 : Hid (∀ q, Below w4.heap.size w4 q → Calls Tryz.prog 19 #[.pointer (some ⟨tb, 0, none⟩), .int .i64 (bs + (k : Int))] q fun e w' => ∃ va vc, e = .returned (.tuple #[.agg #[.int .i64 (bs + (k : Int)), .slice va M vc], .int .i64 0]) ∧ Sl w' (.slice va M vc) D ∧ Below q.heap.size q w') := hide fun q hq => by
     have := cs_read (C2.out.below hq) ok.out.2.1 (bs + (k : Int)) hb1.1 hb1.2 ok.out.2.2.2.1 ok.out.2.2.2.2.2
     rw [hr2] at this
     refine this.mono ?_
     rintro e w' ⟨vd, he, ho, hb⟩
     obtain ⟨va, vc, hv⟩ := Sl.form ho.sl rfl
     rw [hM.out] at hv
     subst hv
     exact ⟨va, vc, he, ho.sl, hb⟩
    rw [hM.out] at c1
    have d0 := (hB.out.cell (lt_of_cell c0)).trans c0
    replace c0 := hide c0
    replace c1 := hide c1
    clear hr1 hr2
    go_upto_region 34 with (first
     | (go_at_call 19; refine (hR1.out _ hB.out).mono ?_; rintro e w7 ⟨va, vc, rfl, o7, b7⟩; replace o7 := hide o7; replace b7 := hide b7)
     | fail)
    have X8 := box_below w7 (.cells #[.int .i64 (bs + (k : Int)), .slice va M vc] 66)
    have N8 := heap_alloc_new w7 (.cells #[.int .i64 (bs + (k : Int)), .slice va M vc] 66)
    have K8 := hide (keepF hB.out (keepF b7.out X8))
    have L8 := hide (Below.sl X8 o7.out)
    obtain ⟨w8, hw8⟩ : ∃ w8, Hid (w7.alloc (.cells #[.int .i64 (bs + (k : Int)), .slice va M vc] 66) = w8) := ⟨_, rfl⟩
    obtain ⟨g8, hg8⟩ : ∃ g8, Hid (w7.heap.size = g8) := ⟨_, rfl⟩
    rw [hw8.out] at N8 K8 L8
    rw [hg8.out] at N8
    rw [hw8.out, hg8.out]
    clear X8 hw8 hg8 o7 b7 d0
    have d0 := (K8.out.cell (lt_of_cell c0.out)).trans c0.out
    go_upto_region 35 with (first
     | (go_at_call 19; refine (hR2.out _ K8.out).mono ?_; rintro e w9 ⟨xa, xc, rfl, o9, b9⟩; replace o9 := hide o9; replace b9 := hide b9)
     | fail)
    have X10 := box_below w9 (.cells #[.int .i64 (bs + (k : Int)), .slice xa M xc] 66)
    have N10 := heap_alloc_new w9 (.cells #[.int .i64 (bs + (k : Int)), .slice xa M xc] 66)
    have K10 := hide (keepF K8.out (keepF b9.out X10))
    have L10 := hide (Below.sl X10 o9.out)
    have L8b := hide (Below.sl (keepF b9.out X10) L8.out)
    have M8 := ((keepF b9.out X10).block _ (heap_lt N8)).trans N8
    obtain ⟨w10, hw10⟩ : ∃ w10, Hid (w9.alloc (.cells #[.int .i64 (bs + (k : Int)), .slice xa M xc] 66) = w10) := ⟨_, rfl⟩
    obtain ⟨g10, hg10⟩ : ∃ g10, Hid (w9.heap.size = g10) := ⟨_, rfl⟩
    rw [hw10.out] at N10 K10 L10 L8b M8
    rw [hg10.out] at N10
    rw [hw10.out, hg10.out]
    clear X10 hw10 hg10 o9 b9 d0 N8 L8
    have KS : Hid (∀ q : World, Below w10.heap.size w10 q → Below w10.heap.size w10 q ∧ q.cell? ⟨g8, 0, none⟩ = some (.int .i64 (bs + (k : Int))) ∧ q.cell? ⟨g8, 1, none⟩ = some (.slice va M vc) ∧ q.cell? ⟨g10, 0, none⟩ = some (.int .i64 (bs + (k : Int))) ∧ q.cell? ⟨g10, 1, none⟩ = some (.slice xa M xc) ∧ q.cell? ⟨g, k * 2, none⟩ = some (.int .i64 (bs + (k : Int))) ∧ q.cell? ⟨g, k * 2 + 1, none⟩ = some (.slice ua M uc)) := hide fun q hq => by
     have e8 := (hq.block _ (heap_lt M8)).trans M8
     have e10 := (hq.block _ (heap_lt N10)).trans N10
     have hq4 := keepF K10.out hq
     refine ⟨hq, by rw [cell_of e8]; rfl, by rw [cell_of e8]; rfl, by rw [cell_of e10]; rfl, by rw [cell_of e10]; rfl, (hq4.cell (lt_of_cell c0.out)).trans c0.out, (hq4.cell (lt_of_cell c1.out)).trans c1.out⟩
    have hU10 := hide (Below.sl (keepF J4.out.be K10.out) hsl)
    rw [hM.out] at hU10
    have KQ : Hid (∀ (q : World) (a : Option Addr) (c : Nat), Below w10.heap.size w10 q → ((a = va ∧ c = vc) ∨ (a = xa ∧ c = xc)) → Calls Tryz.prog 20 #[.agg #[.int .i64 (bs + (k : Int)), .slice a M c], .agg #[.int .i64 (bs + (k : Int)), .slice ua M uc]] q fun e w' => e = .returned (.bool true) ∧ Below q.heap.size q w') := hide fun q a c hq hx => by
     have h1 : Sl q (.slice a M c) D := by
      rcases hx with ⟨rfl, rfl⟩ | ⟨rfl, rfl⟩
      ·exact Below.sl hq L8b.out
      ·exact Below.sl hq L10.out
     have := eq6_any q (bs + (k : Int)) (bs + (k : Int)) _ _ D D h1 (Below.sl hq hU10.out)
     simpa using this
    clear M8 N10 L8b L10 hU10 hR1 hR2 hsl c0 c1
    go_cut [215] from 192 to 214 (fun y wx => y = .bool false ∧ Hid (Below w10.heap.size w10 wx))
    case first =>
     have hS0 := KS.out w10.drew (Below.refl _ _).drew
     go_region_held3 (fun q => Below w10.heap.size w10 q ∧ q.cell? ⟨g8, 0, none⟩ = some (.int .i64 (bs + (k : Int))) ∧ q.cell? ⟨g8, 1, none⟩ = some (.slice va M vc) ∧ q.cell? ⟨g10, 0, none⟩ = some (.int .i64 (bs + (k : Int))) ∧ q.cell? ⟨g10, 1, none⟩ = some (.slice xa M xc) ∧ q.cell? ⟨g, k * 2, none⟩ = some (.int .i64 (bs + (k : Int))) ∧ q.cell? ⟨g, k * 2 + 1, none⟩ = some (.slice ua M uc))
      (first | exact hS0 | assumption | exact KS.out _ KP2 | exact KS.out _ KP | fail)
      (first
       | (have d1 := KP; go_at_call 20; refine (KQ.out _ _ _ KP (by first | exact Or.inl ⟨rfl, rfl⟩ | exact Or.inr ⟨rfl, rfl⟩)).mono ?_; rintro ee u2 ⟨rfl, B10⟩
          have KP2 : Below w10.heap.size w10 u2 := keepF KP B10)
       | (go_at_call 20; refine (KQ.out _ _ _ (And.left (by assumption)) (by first | exact Or.inl ⟨rfl, rfl⟩ | exact Or.inr ⟨rfl, rfl⟩)).mono ?_; rintro ee u1 ⟨rfl, B9⟩
          have KP : Below w10.heap.size w10 u1 := keepF (Below.refl _ _).drew B9)
       | fail)
     all_goals
      go_wp2_with fail
      go_meet
      case rel => exact ⟨rfl, KP2⟩
    case rest =>
     obtain ⟨rfl, b11⟩ := hcut
     go_wp2_with fail
     go_roundg (U - (k + 1))
     case measure => omega
     case rel => exact ⟨k + 1, by omega, Nat.le_refl _, by go_num, hide (keepF K10.out b11.out)⟩
  have hlt' : (i : Int) < (N : Int) := by omega
  have i0 : (0 : Int) ≤ (i : Int) := by omega
  have hv1 : i < vs.length := by rw [hN.out, hlN.out]; omega
  have hv2 : i < lots.length := by rw [hlN.out]; omega
  obtain ⟨ws, r0, s0⟩ := HL.out.2 i hv1 hv2
  have hrl := hrch.out _ (List.getElem_mem hv2)
  have hvi : vs[i]? = some vs[i] := List.getElem?_eq_getElem hv1
  generalize vs[i] = vi at *
  generalize lots[i] = li at *
  replace r0 := hide r0
  replace s0 := hide s0
  obtain ⟨ta, tc, hvf⟩ : ∃ a c, vi = .slice a ws.length c := by
   obtain ⟨a, c, e, _⟩ := r0.out
   exact ⟨a, c, e⟩
  subst hvf
  obtain ⟨TN, hTN⟩ : ∃ n, Hid (ws.length = n) := ⟨_, rfl⟩
  rw [hTN.out] at r0 hvi
  obtain ⟨rb, off, rfl, d00⟩ := row_at HR.out hvi
  have d0 := (hbe.out.cell (lt_of_cell d00)).trans d00
  replace d00 := hide d00
  have hSm : Hid (∀ q, Below w0.heap.size w0 q → Calls Tryz.prog 12 #[.slice ta TN tc] q fun e w' => e = .returned (.bool (decide (smN li li.length ≤ 65536))) ∧ w' = q) := hide fun q hq => small_any _ _ _ (Below.row hq r0.out) (Below.sls hq s0.out)
  by_cases hsm : ¬ smN li li.length ≤ 65536
  ·have kd : decide (smN li li.length ≤ 65536) = false := by simpa using hsm
   rw [kd] at hSm
   clear hsm kd
   go_wp2_with (first
    | (go_at_call 12; refine (hSm.out _ hbe.out).mono ?_; rintro e w5 ⟨rfl, e5⟩; rw [e5]; clear e5 w5)
    | fail)
   go_ret
   exact ⟨rfl, hFw.out⟩
  have hsm2 : smN li li.length ≤ 65536 := by omega
  have hsd := hide (small_of hrl hsm2)
  have hCt : Hid (∀ q, CS w0 q sb s S → Calls Tryz.prog 21 #[.pointer (some ⟨b, 0, none⟩)] q fun e w' => e = .returned (.agg #[.int .i64 S.c0, .int .i64 S.c1, .int .i64 S.c2, .int .i64 S.c3, .int .i64 S.c4, .int .i64 S.c5, .int .i64 S.c6, .int .i64 S.c7, .int .i64 S.c8]) ∧ Below q.heap.size q w') := hide fun q hq => by
   have := cs_count hq
   rw [hRJ.out.b] at this
   exact this
  have kd : decide (smN li li.length ≤ 65536) = true := by simpa using hsm2
  rw [kd] at hSm
  clear hsm hsm2 kd
  go_upto_region 15 with (first
   | (go_at_call 12; refine (hSm.out _ hbe.out).mono ?_; rintro e w5 ⟨rfl, e5⟩; rw [e5]; clear e5 w5)
   | fail)
  go_upto_region 16 with (first
   | (go_at_call 21; refine (hCt.out _ hJ.out.cs).mono ?_; rintro e w6 ⟨rfl, b6⟩; replace b6 := hide b6)
   | fail)
  have X7 := box_below w6 (.cells #[.int .i64 S.c0, .int .i64 S.c1, .int .i64 S.c2, .int .i64 S.c3, .int .i64 S.c4, .int .i64 S.c5, .int .i64 S.c6, .int .i64 S.c7, .int .i64 S.c8] 74)
  have N7 := heap_alloc_new w6 (.cells #[.int .i64 S.c0, .int .i64 S.c1, .int .i64 S.c2, .int .i64 S.c3, .int .i64 S.c4, .int .i64 S.c5, .int .i64 S.c6, .int .i64 S.c7, .int .i64 S.c8] 74)
  have E7 := hide (keepF b6.out X7)
  have g6 : Hid (wr.heap.size ≤ w6.heap.size) := hide b6.out.size
  obtain ⟨w7, hw7⟩ : ∃ w7, Hid (w6.alloc (.cells #[.int .i64 S.c0, .int .i64 S.c1, .int .i64 S.c2, .int .i64 S.c3, .int .i64 S.c4, .int .i64 S.c5, .int .i64 S.c6, .int .i64 S.c7, .int .i64 S.c8] 74) = w7) := ⟨_, rfl⟩
  obtain ⟨g7, hg7⟩ : ∃ g7, Hid (w6.heap.size = g7) := ⟨_, rfl⟩
  rw [hw7.out] at X7 N7 E7
  rw [hg7.out] at N7 g6
  rw [hw7.out, hg7.out]
  replace N7 := hide N7
  have d7 := (E7.out.cell (lt_of_cell d0)).trans d0
  have hi30 : i < 30 := by omega
  have hP := hide (hJ.out.put E7.out hRJ.out hi30 hb hb2 _ _ li (Below.row (keepF hbe.out E7.out) r0.out) (Below.sls (keepF hbe.out E7.out) s0.out) hsd.out)
  clear d0 X7 hw7 hg7
  go_upto_region 17 with (first
   | (go_at_call 15; refine hP.out.mono ?_; rintro e w8 ⟨m, f, rfl, hk8, hcase⟩)
   | fail)
  have N8 := hide ((hk8 g7 g6.out (heap_lt N7.out)).trans N7.out)
  clear hP hk8 d7
  rcases hcase with ⟨a1, a2, J8⟩ | ⟨a1, a2, a3, s', S', J8, R8, k1, k7⟩
  ·subst a2
   have kf : (f != 0) = true := by simpa using a1
   replace a1 := hide a1
   replace J8 := hide J8
   go_upto_region 18 with (first
    | (go_at_call 21; refine (hCt.out _ J8.out.cs).mono ?_; rintro e w9 ⟨rfl, b9⟩; replace b9 := hide b9)
    | fail)
   have X10 := box_below w9 (.cells #[.int .i64 S.c0, .int .i64 S.c1, .int .i64 S.c2, .int .i64 S.c3, .int .i64 S.c4, .int .i64 S.c5, .int .i64 S.c6, .int .i64 S.c7, .int .i64 S.c8] 74)
   have N10 := heap_alloc_new w9 (.cells #[.int .i64 S.c0, .int .i64 S.c1, .int .i64 S.c2, .int .i64 S.c3, .int .i64 S.c4, .int .i64 S.c5, .int .i64 S.c6, .int .i64 S.c7, .int .i64 S.c8] 74)
   have J10 := hide (J8.out.below (keepF b9.out X10))
   have M10 := (X10.block _ (heap_lt ((b9.out.block _ (heap_lt N8.out)).trans N8.out))).trans ((b9.out.block _ (heap_lt N8.out)).trans N8.out)
   obtain ⟨w10, hw10⟩ : ∃ w10, Hid (w9.alloc (.cells #[.int .i64 S.c0, .int .i64 S.c1, .int .i64 S.c2, .int .i64 S.c3, .int .i64 S.c4, .int .i64 S.c5, .int .i64 S.c6, .int .i64 S.c7, .int .i64 S.c8] 74) = w10) := ⟨_, rfl⟩
   obtain ⟨g10, hg10⟩ : ∃ g10, Hid (w9.heap.size = g10) := ⟨_, rfl⟩
   rw [hw10.out] at N10 M10 J10
   rw [hg10.out] at N10
   rw [hw10.out, hg10.out]
   clear X10 hw10 hg10
   have y0 : w10.cell? ⟨g7, 0, none⟩ = some (.int .i64 S.c0) := by rw [cell_of M10]; rfl
   have z0 : w10.cell? ⟨g10, 0, none⟩ = some (.int .i64 S.c0) := by rw [cell_of N10]; rfl
   have y1 : w10.cell? ⟨g7, 1, none⟩ = some (.int .i64 S.c1) := by rw [cell_of M10]; rfl
   have z1 : w10.cell? ⟨g10, 1, none⟩ = some (.int .i64 S.c1) := by rw [cell_of N10]; rfl
   have y2 : w10.cell? ⟨g7, 2, none⟩ = some (.int .i64 S.c2) := by rw [cell_of M10]; rfl
   have z2 : w10.cell? ⟨g10, 2, none⟩ = some (.int .i64 S.c2) := by rw [cell_of N10]; rfl
   have y3 : w10.cell? ⟨g7, 3, none⟩ = some (.int .i64 S.c3) := by rw [cell_of M10]; rfl
   have z3 : w10.cell? ⟨g10, 3, none⟩ = some (.int .i64 S.c3) := by rw [cell_of N10]; rfl
   have y4 : w10.cell? ⟨g7, 4, none⟩ = some (.int .i64 S.c4) := by rw [cell_of M10]; rfl
   have z4 : w10.cell? ⟨g10, 4, none⟩ = some (.int .i64 S.c4) := by rw [cell_of N10]; rfl
   have y5 : w10.cell? ⟨g7, 5, none⟩ = some (.int .i64 S.c5) := by rw [cell_of M10]; rfl
   have z5 : w10.cell? ⟨g10, 5, none⟩ = some (.int .i64 S.c5) := by rw [cell_of N10]; rfl
   have y6 : w10.cell? ⟨g7, 6, none⟩ = some (.int .i64 S.c6) := by rw [cell_of M10]; rfl
   have z6 : w10.cell? ⟨g10, 6, none⟩ = some (.int .i64 S.c6) := by rw [cell_of N10]; rfl
   have y7 : w10.cell? ⟨g7, 7, none⟩ = some (.int .i64 S.c7) := by rw [cell_of M10]; rfl
   have z7 : w10.cell? ⟨g10, 7, none⟩ = some (.int .i64 S.c7) := by rw [cell_of N10]; rfl
   have y8 : w10.cell? ⟨g7, 8, none⟩ = some (.int .i64 S.c8) := by rw [cell_of M10]; rfl
   have z8 : w10.cell? ⟨g10, 8, none⟩ = some (.int .i64 S.c8) := by rw [cell_of N10]; rfl
   clear M10 N10
   have kn : ∀ q : World, _ := fun q => countsSame q S.c0 S.c1 S.c2 S.c3 S.c4 S.c5 S.c6 S.c7 S.c8
   go_wp2_with fail
   go_roundg (N - (i + 1))
   case measure => omega
   case rel => exact ⟨i + 1, us, ds, s, S, by omega, Nat.le_refl _, by go_num, J10.out, hRJ.out.up, hS.out⟩
  ·subst a1 a2
   have hul : Hid (us.length = ds.length) := hide hS.out.1
   rw [← hul.out]
   replace k1 := hide k1
   replace k7 := hide k7
   replace J8 := hide J8
   replace R8 := hide R8
   have hCt2 : Hid (∀ q, CS w0 q sb s' S' → Calls Tryz.prog 21 #[.pointer (some ⟨b, 0, none⟩)] q fun e w' => e = .returned (.agg #[.int .i64 S'.c0, .int .i64 S'.c1, .int .i64 S'.c2, .int .i64 S'.c3, .int .i64 S'.c4, .int .i64 S'.c5, .int .i64 S'.c6, .int .i64 S'.c7, .int .i64 S'.c8]) ∧ Below q.heap.size q w') := hide fun q hq => by
    have := cs_count hq
    rw [R8.out.b] at this
    exact this
   go_upto_region 18 with (first
    | (go_at_call 21; refine (hCt2.out _ J8.out.cs).mono ?_; rintro e w9 ⟨rfl, b9⟩; replace b9 := hide b9)
    | fail)
   have X10 := box_below w9 (.cells #[.int .i64 S'.c0, .int .i64 S'.c1, .int .i64 S'.c2, .int .i64 S'.c3, .int .i64 S'.c4, .int .i64 S'.c5, .int .i64 S'.c6, .int .i64 S'.c7, .int .i64 S'.c8] 74)
   have N10 := heap_alloc_new w9 (.cells #[.int .i64 S'.c0, .int .i64 S'.c1, .int .i64 S'.c2, .int .i64 S'.c3, .int .i64 S'.c4, .int .i64 S'.c5, .int .i64 S'.c6, .int .i64 S'.c7, .int .i64 S'.c8] 74)
   have J10 := hide (J8.out.below (keepF b9.out X10))
   have M10 := (X10.block _ (heap_lt ((b9.out.block _ (heap_lt N8.out)).trans N8.out))).trans ((b9.out.block _ (heap_lt N8.out)).trans N8.out)
   obtain ⟨w10, hw10⟩ : ∃ w10, Hid (w9.alloc (.cells #[.int .i64 S'.c0, .int .i64 S'.c1, .int .i64 S'.c2, .int .i64 S'.c3, .int .i64 S'.c4, .int .i64 S'.c5, .int .i64 S'.c6, .int .i64 S'.c7, .int .i64 S'.c8] 74) = w10) := ⟨_, rfl⟩
   obtain ⟨g10, hg10⟩ : ∃ g10, Hid (w9.heap.size = g10) := ⟨_, rfl⟩
   rw [hw10.out] at N10 M10 J10
   rw [hg10.out] at N10
   rw [hw10.out, hg10.out]
   clear X10 hw10 hg10
   have y0 : w10.cell? ⟨g7, 0, none⟩ = some (.int .i64 S.c0) := by rw [cell_of M10]; rfl
   have z0 : w10.cell? ⟨g10, 0, none⟩ = some (.int .i64 S'.c0) := by rw [cell_of N10]; rfl
   have y1 : w10.cell? ⟨g7, 1, none⟩ = some (.int .i64 S.c1) := by rw [cell_of M10]; rfl
   have z1 : w10.cell? ⟨g10, 1, none⟩ = some (.int .i64 S'.c1) := by rw [cell_of N10]; rfl
   have y2 : w10.cell? ⟨g7, 2, none⟩ = some (.int .i64 S.c2) := by rw [cell_of M10]; rfl
   have z2 : w10.cell? ⟨g10, 2, none⟩ = some (.int .i64 S'.c2) := by rw [cell_of N10]; rfl
   have y3 : w10.cell? ⟨g7, 3, none⟩ = some (.int .i64 S.c3) := by rw [cell_of M10]; rfl
   have z3 : w10.cell? ⟨g10, 3, none⟩ = some (.int .i64 S'.c3) := by rw [cell_of N10]; rfl
   have y4 : w10.cell? ⟨g7, 4, none⟩ = some (.int .i64 S.c4) := by rw [cell_of M10]; rfl
   have z4 : w10.cell? ⟨g10, 4, none⟩ = some (.int .i64 S'.c4) := by rw [cell_of N10]; rfl
   have y5 : w10.cell? ⟨g7, 5, none⟩ = some (.int .i64 S.c5) := by rw [cell_of M10]; rfl
   have z5 : w10.cell? ⟨g10, 5, none⟩ = some (.int .i64 S'.c5) := by rw [cell_of N10]; rfl
   have y6 : w10.cell? ⟨g7, 6, none⟩ = some (.int .i64 S.c6) := by rw [cell_of M10]; rfl
   have z6 : w10.cell? ⟨g10, 6, none⟩ = some (.int .i64 S'.c6) := by rw [cell_of N10]; rfl
   have y7 : w10.cell? ⟨g7, 7, none⟩ = some (.int .i64 S.c7) := by rw [cell_of M10]; rfl
   have z7 : w10.cell? ⟨g10, 7, none⟩ = some (.int .i64 S'.c7) := by rw [cell_of N10]; rfl
   have y8 : w10.cell? ⟨g7, 8, none⟩ = some (.int .i64 S.c8) := by rw [cell_of M10]; rfl
   have z8 : w10.cell? ⟨g10, 8, none⟩ = some (.int .i64 S'.c8) := by rw [cell_of N10]; rfl
   clear M10 N10
   rw [k1.out] at z1
   rw [k7.out] at z7
   have q1 := hRJ.out.c1
   have q7 := hRJ.out.c7
   have v1 : IntKind.i64.wrap (S.c1 + 1) = S.c1 + 1 := by rw [IntKind.wrap_i64]; omega
   have v7 : IntKind.i64.wrap (S.c7 + 1) = S.c7 + 1 := by rw [IntKind.wrap_i64]; omega
   have hus : us.length ≤ 100000 := by
    have e1 := hRJ.out.sz
    have e2 := smS_len ds
    have e3 := hul.out
    omega
   have vb : IntKind.i64.wrap (bs + (us.length : Int)) = bs + (us.length : Int) := by rw [IntKind.wrap_i64]; omega
   have x1 : w10.cell? ⟨g0, 1, none⟩ = some (.int .i64 bs) := by
    rw [cell_of ((J10.out.be.block _ (heap_lt N0.out)).trans N0.out)]; rfl
   go_upto_region 24 with fail
   have hTl : TN = li.length := by rw [← hTN.out]; exact s0.out.1
   have hTs : TN ≤ 10000 := by
    have := smS_len li
    omega
   replace hTl := hide hTl
   clear y0 z0 y1 z1 y2 z2 y3 z3 y4 z4 y5 z5 y6 z6 y7 z7 y8 z8 v1 v7 vb x1 q1 q7 hCt hCt2 hsd hSm N8 b9 k1 k7 hvi
   go_loopg [8, 14] TN (fun ky v8 v14 wq => ∃ k : Nat, k ≤ TN ∧ TN - k ≤ ky ∧ v14 = .int .i64 (k : Int) ∧ Hid (LJ w0 wq sb s' S' bs (us ++ ws.take k) v8))
   case atStart => exact ⟨0, Nat.zero_le _, Nat.le_refl _, rfl, hide (by simpa using J10.out)⟩
   case round =>
    clear J10
    obtain ⟨k, hk, hky, rfl, hK⟩ := hrel
    have hlen : (us ++ ws.take k).length = us.length + k := by
     rw [List.length_append, List.length_take, hTN.out]
     omega
    obtain ⟨ab, ad, rfl⟩ := hK.out.al.form
    obtain ⟨NN, hNN⟩ : ∃ n, Hid ((us ++ ws.take k).length = n) := ⟨_, rfl⟩
    rw [hNN.out] at hK hlen ⊢
    replace hlen := hide hlen
    have hbk := hide hK.out.be
    have d1 := (hbk.out.cell (lt_of_cell d00.out)).trans d00.out
    have k0 : (0 : Int) ≤ (k : Int) := by omega
    by_cases hlk : ¬ k < TN
    ·have hkT : k = TN := by omega
     have hlk' : ¬ (k : Int) < (TN : Int) := by omega
     have hSS := hide (Sls.app hS.out s0.out)
     have hall : Hid (LJ w0 _ sb s' S' bs (us ++ ws) (.slice ab NN ad)) := hide (by
      have := hK.out
      rw [hkT, ← hTN.out, List.take_length] at this
      exact this)
     go_wp2_with fail
     go_roundg (N - (i + 1))
     case measure => omega
     case rel => exact ⟨i + 1, us ++ ws, ds ++ li, s', S', by omega, Nat.le_refl _, by go_num, hall.out, R8.out, hSS.out⟩
    have hlk' : (k : Int) < (TN : Int) := by omega
    have hws : ws[k]? = some (ws[k]'(by rw [hTN.out]; omega)) := List.getElem?_eq_getElem _
    obtain ⟨ea, ec, hev, _⟩ := sls_at s0.out (i := k) (by rw [← hTl.out]; omega)
    obtain ⟨rb2, off2, rfl, e00⟩ := row_at r0.out hev
    have e1 := (hbk.out.cell (lt_of_cell e00)).trans e00
    obtain ⟨M, hM⟩ : ∃ M, Hid ((li.getD k []).length = M) := ⟨_, rfl⟩
    rw [hM.out] at hev e00 e1
    have hnxt : Hid (us ++ ws.take (k + 1) = us ++ ws.take k ++ [.slice ea M ec]) := hide (by
     rw [List.take_add_one, hev, List.append_assoc]
     rfl)
    have vk : IntKind.i64.wrap (bs + (us.length : Int) + (k : Int)) = bs + (us.length : Int) + (k : Int) := by rw [IntKind.wrap_i64]; omega
    have X11 := box_below wr (.cells #[.int .i64 (bs + (us.length : Int) + (k : Int)), .slice ea M ec] 66)
    have N11 := heap_alloc_new wr (.cells #[.int .i64 (bs + (us.length : Int) + (k : Int)), .slice ea M ec] 66)
    have K11 := hK.out.below X11
    have hLen : (us ++ ws.take k).length = us.length + k := by rw [hNN.out, hlen.out]
    obtain ⟨v', w', hrun, hA, hG, hat⟩ := run_appA ea M ec wr.heap.size K11.al (by rw [cell_of N11, hLen]; show some (Value.int .i64 _) = _; congr 2; omega) (by rw [cell_of N11]; rfl) (by rw [hLen]; omega) K11.be.size 72
    have K12 : Hid (LJ w0 w' sb s' S' bs (us ++ ws.take (k + 1)) v') := hide (by rw [hnxt.out]; exact K11.app hA hG hat)
    replace hrun := hide hrun
    clear X11 N11 K11 hA hG hat hLen hws hev e00
    go_wp2_with (at_builtin; refine wpList_append_runR rfl (.tmp 121) (.tmp 133) rfl rfl rfl hrun.out ?_)
    go_roundg (TN - (k + 1))
    case measure => omega
    case rel => exact ⟨k + 1, by omega, Nat.le_refl _, by go_num, K12⟩
end Go.Proofs.YtpflaglfnkmjiaaGreat.Sg
namespace Go.Proofs.YtpflaglfnkmjiaaGreat
open Go.ChangeShapes Go.WideShapes Go.ChangeAt Go.RowKit Go.Deep
set_option maxRecDepth 100000
theorem cellsHead : Tryz.prog.cellsOf 38 = 3 := by kernel_rfl
theorem cellsI64 : Tryz.prog.cellsOf 2 = 1 := by kernel_rfl
theorem cellsU32 : Tryz.prog.cellsOf 36 = 1 := by kernel_rfl
theorem open_head {H : Type} {enc : TypeId × Value → H} {w : World} {base : Nat} {spare : Nat → Bool} {held : Bool} {fuel : Nat} {cs : List Value} {y : DataW H × List MemPlace}
    (h : DataW.trod enc Tryz.prog w base spare held fuel 38 cs = some y) :
    ∃ (nm bs : Int) (s : BitVec 32), cs = [.int .i64 nm, .int .i64 bs, .int .u32 (s.toNat : Int)] ∧ -9223372036854775808 ≤ nm ∧ nm ≤ 9223372036854775807 ∧ -9223372036854775808 ≤ bs ∧ bs ≤ 9223372036854775807 := by
 obtain ⟨y0, y1, y2, n, _, hlen, h0, h1, h2⟩ := trod_struct3 Tryz.underlying38 h
 rw [cellsHead] at hlen
 obtain ⟨c0, c1, c2, rfl⟩ : ∃ c0 c1 c2, cs = [c0, c1, c2] := by
  match cs, hlen with
  | [c0, c1, c2], _ => exact ⟨c0, c1, c2, rfl⟩
 simp only [cellsI64, cellsU32] at h0 h1 h2
 obtain ⟨a0, e0, _, w0⟩ := DataW.trod_int Tryz.underlying2 h0
 obtain ⟨a1, e1, _, w1⟩ := DataW.trod_int Tryz.underlying2 h1
 obtain ⟨a2, e2, _, w2⟩ := DataW.trod_int Tryz.underlying36 h2
 simp at e0 e1 e2
 subst e0 e1 e2
 obtain ⟨s, rfl⟩ := u32_bv w2
 exact ⟨a0, a1, s, rfl, (i64_bounds w0).1, (i64_bounds w0).2, (i64_bounds w1).1, (i64_bounds w1).2⟩
end Go.Proofs.YtpflaglfnkmjiaaGreat
