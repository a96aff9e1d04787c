/-
  The walk of ScanFront.
-/
import Derived.Test.YtnglinhnpimlmaaJh
import Derived.Test.YtnglinhnpimlmaaRws
import Derived.Deep.CutRange
import Derived.BigQuiet
namespace Go.Proofs.Ytnglinhnpimlmaa
open Go.RowKit Go.Shelf
set_option maxRecDepth 100000
set_option linter.unusedVariables false

theorem wpList_append_bytes_g {P : Program} {w : World} {ops : Array Oper} {rest : List Oper} {o : Oper} {a : Act} {Q : Exit → Act → World → Prop} (hgd : o.guard = none) (s x : Operand) (t : TypeId)
    (ho : o.op = .call { callee := .builtin .append, args := #[s, x], argTypes := #[t, t] })
    (base : Nat) (e : TypeId) (hinf : (P.info? e).map (fun i => (i.zero, i.size, i.bytes)) = some (some (.int .u8 0), 1, 1)) (ht : P.underlying t = some (.slice e))
    (v vx : Value) (l m : List UInt8) (hs : a.eval s = v) (hown : w.ownsRow base e 1 v l.length (bvals l)) (hx : a.eval x = vx) (hsl : Sl w vx m)
    (hbytes : l.length + m.length ≤ 140737488355328) (hbase : base ≤ w.heap.size)
    (h : ∀ v' w', w'.ownsRow base e 1 v' (l ++ m).length (bvals (l ++ m)) → w.grownBy w' v.ownBlock → wpList P ops Q rest (a.put o.dst v') w') : wpList P ops Q (o :: rest) a w := by
  obtain ⟨i0, hi, hz0, hz1, hz2⟩ := info_parts hinf
  obtain ⟨ao, cap, rfl, h2, h3, h4, h5⟩ := hsl
  cases ao with
  | none =>
    obtain ⟨rfl, rfl⟩ := h2 rfl
    refine wpList_append_own_none hgd s x t ho base e i0 1 ht hi v l.length (bvals l) hs hown hx ?_
    exact h v w (by simpa using hown) ⟨rfl, rfl, rfl, Nat.le_refl _, fun _ _ _ => rfl⟩
  | some ad =>
    have hcells : ∀ j u, (bvals m)[j]? = some u → w.cell? (ad.add j) = some u := by
      intro j u hu
      have hj : j < m.length := by
        have := (List.getElem?_eq_some_iff.1 hu).1
        simpa [bvals] using this
      obtain ⟨b, off, e1, hc⟩ := h5 j hj
      simp only [Option.some.injEq] at e1
      subst e1
      rw [bvals_get hj] at hu
      simp only [Option.some.injEq] at hu
      subst hu
      have ea : (⟨b, off, none⟩ : Addr).add j = ⟨b, off + j, none⟩ := by
        unfold Addr.add; split <;> simp_all
      rw [ea]; exact hc
    refine wpList_append_own w hgd s x t ho base e i0 (.int .u8 0) 1 1 ht hi hz0 hz1 hz2 rfl (by decide) v l.length (bvals l) hs hown ad m.length cap (bvals m) hx (by simp [bvals]) hcells ?_ (by unfold maxLen; omega) (by omega) hbase ?_
    · intro u hu
      simp only [bvals, List.mem_map] at hu
      obtain ⟨c, _, rfl⟩ := hu
      rfl
    · intro v' w' ho' hg _
      refine h v' w' ?_ hg
      rw [List.length_append, bvals_append]
      exact ho'

theorem Try.infoInt : (Try.prog.info? 3).map (fun i => (i.zero, i.size, i.bytes)) = some (some (.int .i64 0), 1, 8) := by kernel_rfl
/-- Where the frames end. -/
def endV (s : Crc.R) (b : Nat) (ls : List (List UInt8)) (j : Nat) : Value := .int .i64 (((chn s b (ls.take j)).1.length : Nat) : Int)
def endVs (s : Crc.R) (b : Nat) (ls : List (List UInt8)) (i : Nat) : List Value := (List.range (i + 1)).map (endV s b ls)
theorem endVs_succ (s : Crc.R) (b : Nat) (ls : List (List UInt8)) (i : Nat) : endVs s b ls i ++ [endV s b ls (i + 1)] = endVs s b ls (i + 1) := by
  unfold endVs; rw [List.range_succ (n := i + 1), List.map_append]; rfl
theorem endVs_get (s : Crc.R) (b : Nat) (ls : List (List UInt8)) (i j : Nat) (h : j ≤ i) : (endVs s b ls i)[j]? = some (endV s b ls j) := by
  unfold endVs; rw [List.getElem?_map, List.getElem?_range (by omega)]; rfl
/-- A row of one cell each, read. -/
theorem owns_cell {w : World} {base e n : Nat} {ao : Option Addr} {ca : Nat} {xs : List Value} (h : w.ownsRow base e 1 (.slice ao n ca) n xs) (hn : 0 < n) : ∃ g, ao = some ⟨g, 0, none⟩ ∧ n ≤ ca ∧ ca ≤ maxLen ∧ ∀ j u, j < n → xs[j]? = some u → w.cell? ⟨g, j, none⟩ = some u := by
  obtain ⟨h1, h2⟩ := h
  rcases h2 with ⟨e1, rfl⟩ | ⟨g, cap, cur, e1, hg, hh, hnc, hcm, hcs, ht⟩
  · omega
  · simp only [Value.slice.injEq] at e1
    obtain ⟨rfl, _, rfl⟩ := e1
    refine ⟨g, rfl, hnc, hcm, fun j u hj hu => ?_⟩
    have e2 : cur[j]? = some u := by
      rw [← ht, List.getElem?_take_of_lt (by omega)] at hu
      simpa using hu
    simp [World.cell?, hh, e2]
theorem chn_le (s : Crc.R) (b : Nat) (ls : List (List UInt8)) (n : Nat) (hn : ls.length ≤ n) (h : ∀ d ∈ ls, d.length ≤ 4096) : (chn s b ls).1.length ≤ 4112 * n := Nat.le_trans (chn_len ls s b h) (Nat.mul_le_mul_left _ hn)

set_option maxHeartbeats 8000000 in
theorem sfront_walk (w : World) (z : Value) (vs : List Value) (ls : List (List UInt8)) (base : Int) (seed : Crc.R) (y : Value) (R : List UInt8) (cut : Int)
    (hz : Row w z vs) (hs : Sls w vs ls) (g0 : -9223372036854775808 ≤ base) (g1 : base ≤ 9223372036854775807) (hy : Sl w y R) (g2 : -9223372036854775808 ≤ cut) (g3 : cut ≤ 9223372036854775807) :
    Calls Try.prog 4 #[z, .int .i64 base, .int .u32 (seed.toNat : Int), y, .int .i64 cut] w fun e w' => e = .returned (.bool true) ∧ Below w.heap.size w w' := by
  obtain ⟨a2, c2, rfl, _, n1, n2, ga⟩ := hz
  obtain ⟨n, hn⟩ : ∃ n, Hid (vs.length = n) := ⟨_, rfl⟩
  have hv : n ≤ 9223372036854775807 := by rw [← hn.out]; unfold maxLen at n2; omega
  rw [hn.out]
  replace ga : Hid (At w a2 vs) := ga
  replace hs : Hid (Sls w vs ls) := hs
  have hnl : Hid (ls.length = n) := by show _ = _; rw [← hs.out.1]; exact hn.out
  have HY := hide hy
  obtain ⟨ya, yc, rfl, hyr⟩ := hy
  clear hyr
  obtain ⟨rn, hrn⟩ : ∃ rn, Hid (R.length = rn) := ⟨_, rfl⟩
  rw [hrn.out] at HY ⊢
  have G1 := hide g1
  have G3 := hide g3
  have G0 := hide g0
  have G2 := hide g2
  clear n1 n2 g0 g1 g2 g3
  have hbg := hide (begun7_any w)
  go_enter Try.func4, Try.ntmps4
  go_upto_region 3 with (go_at_call 6; refine hbg.out.mono ?_; rintro e w1 ⟨rfl, hb1⟩)
  have B1 := hide hb1
  clear hb1 hbg
  by_cases q1 : base < 1
  · go_wp2_with fail
    go_ret
    exact ⟨rfl, B1.out⟩
  by_cases q2 : base > 4611686018427387904
  · go_wp2_with fail
    go_ret
    exact ⟨rfl, B1.out⟩
  by_cases q3 : (n : Int) > 100
  · go_wp2_with fail
    go_ret
    exact ⟨rfl, B1.out⟩
  by_cases q4 : (rn : Int) > 32768
  · go_wp2_with fail
    go_ret
    exact ⟨rfl, B1.out⟩
  obtain ⟨bn, rfl⟩ : ∃ bn : Nat, base = (bn : Int) := ⟨base.toNat, by omega⟩
  have Q1 : Hid (1 ≤ bn) := by show _ ≤ _; omega
  have Q2 : Hid (bn ≤ 4611686018427387904) := by show _ ≤ _; omega
  have Q3 : Hid (n ≤ 100) := by show _ ≤ _; omega
  have Q4 : Hid (rn ≤ 32768) := by show _ ≤ _; omega
  go_upto_region 8 with fail
  clear q1 q2 q3 q4
  have E0 : Hid ((w1.alloc (.cells #[.int .i64 0] 3)).ownsRow w1.heap.size 3 1 (.slice (some ⟨w1.heap.size, 0, none⟩) 1 1) 1 (endVs seed bn ls 0)) := ⟨rfl, .inr ⟨w1.heap.size, 1, #[.int .i64 0], rfl, Nat.le_refl _, heap_alloc_new _ _, Nat.le_refl _, by unfold maxLen; omega, rfl, rfl⟩⟩
  have B2 : Hid (Below w1.heap.size w1 (w1.alloc (.cells #[.int .i64 0] 3))) := box_below _ _
  revert E0 B2
  generalize w1.alloc (.cells #[.int .i64 0] 3) = w2
  intro E0 B2
  obtain ⟨i0, hi, hz0, hz1, hz2⟩ := info_parts Try.infoInt
  go_wp2_with fail
  go_loopw [11, 12, 13, 14] (fun vb ve vq vi wr => ∃ (i : Nat) (Lc : List UInt8) (S : Crc.R), vi = .int .i64 (i : Int) ∧ vq = .int .u32 (S.toNat : Int) ∧ i ≤ n ∧ Hid (chn seed bn (ls.take i) = (Lc, S)) ∧ Hid (∀ d ∈ ls.take i, d.length ≤ 4096) ∧ Hid (wr.ownsRow w1.heap.size 5 1 vb Lc.length (bvals Lc)) ∧ Hid (wr.ownsRow w1.heap.size 3 1 ve (i + 1) (endVs seed bn ls i)) ∧ Hid (Below w1.heap.size w1 wr)) (fun _ _ _ i _ => n - (intOf i).toNat)
  case atStart => exact ⟨0, [], seed, rfl, rfl, Nat.zero_le _, rfl, fun d hd => by simp at hd, World.ownsRow_nil _ _ _ _, E0.out, B2.out⟩
  case round =>
    clear E0 B2
    obtain ⟨i, Lc, S, rfl, rfl, hin, hch, h4, hob, hoe, hB1⟩ := hrel
    have hB := hide (keepF B1.out hB1.out)
    by_cases hlt : i < n
    · have i1 : (i : Int) < (n : Int) := by omega
      have ip : (0 : Int) ≤ (i : Int) := by omega
      have hkv : i < vs.length := by rw [hn.out]; omega
      have hkl : i < ls.length := by rw [hnl.out]; omega
      have hSk := hs.out.2 i hkv hkl
      obtain ⟨x1, o1, rfl, d1⟩ := ga.out i hkv
      have l1 := lt_of_cell d1
      obtain ⟨ll, hll⟩ : ∃ ll, Hid (ls[i] = ll) := ⟨ls[i], hide rfl⟩
      rw [hll.out] at hSk
      generalize vs[i] = vv at *
      have HSk := hide hSk
      obtain ⟨N, hN⟩ : ∃ N, Hid (ll.length = N) := ⟨_, rfl⟩
      obtain ⟨va, vc, rfl⟩ := hSk.form hN.out
      have KC : Hid (∀ q : World, Below w.heap.size w q → q.cell? ⟨x1, o1 + i, none⟩ = some (.slice va N vc)) := fun q hq => (hq.cell l1).trans d1
      have hbi : (bn : Int) + (i : Int) ≤ 9223372036854775807 := by have := Q2.out; have := Q3.out; omega
      obtain ⟨B, T, E, hF⟩ : ∃ B T E, Hid (wrF S ((bn + i : Nat) : Int) ll = (B, T, E)) := ⟨_, _, _, rfl⟩
      have hwr : Hid (Calls Try.prog 18 #[.int .u32 (S.toNat : Int), .int .i64 ((bn : Int) + (i : Int)), .slice va N vc] wr fun e w' => ∃ v', e = .returned (.tuple #[v', .int .u32 (T.toNat : Int), .int .i64 E]) ∧ w'.ownsRow wr.heap.size 5 1 v' B.length (bvals B) ∧ Below wr.heap.size wr w') := by
        have := write_any wr S ((bn + i : Nat) : Int) _ ll (by omega) (by have := Q2.out; have := Q3.out; omega) (Below.sl hB.out HSk.out)
        rw [hF.out, Int.natCast_add] at this
        exact this
      have k1 := KC.out wr hB.out
      clear d1 l1 hSk
      go_upto_region 12 with (go_at_call 18; refine hwr.out.mono ?_; rintro e w5 ⟨v5, rfl, O5, B5⟩)
      have hB5 := hide (keepF hB1.out B5)
      have o5 := hide (Sl.of_owns O5)
      have hob5 := hide (ownsRow_below hob.out B5)
      have hoe5 := hide (ownsRow_below hoe.out B5)
      have k5 := KC.out w5 (keepF B1.out hB5.out)
      clear O5 B5 k1 hwr hob hoe
      by_cases h46 : N ≤ 4096
      · have hwo := wrF_ok (seed := S) (lsn := ((bn + i : Nat) : Int)) (d := ll) (by have := Q1.out; omega) (by have := Q2.out; have := Q3.out; omega) (by rw [hN.out]; exact h46)
        rw [hF.out, Int.toNat_natCast] at hwo
        simp only [Prod.mk.injEq] at hwo
        obtain ⟨hB1', hT1, rfl⟩ := hwo
        have hch2 : Hid (chn seed bn (ls.take (i + 1)) = (Lc ++ B, T)) := by
          show _ = _
          rw [chn_snoc seed bn ls i hkl, hch.out, hll.out, hB1', hT1]
        have h42 : Hid (∀ d ∈ ls.take (i + 1), d.length ≤ 4096) := fun d hd => by
          rw [List.take_succ_eq_append_getElem hkl, hll.out, List.mem_append, List.mem_singleton] at hd
          rcases hd with hd | rfl
          · exact h4.out d hd
          · rw [hN.out]; exact h46
        have hLB : Hid ((Lc ++ B).length ≤ 415312) := by
          show _ ≤ _
          have h1 := chn_le seed bn (ls.take (i + 1)) 101 (by have := Q3.out; simp; omega) h42.out
          rw [hch2.out] at h1
          exact h1
        have hEV : Hid (endV seed bn ls (i + 1) = .int .i64 (((Lc ++ B).length : Nat) : Int)) := by show _ = _; rw [endV, hch2.out]
        obtain ⟨M2, hM2⟩ : ∃ M, Hid ((Lc ++ B).length = M) := ⟨_, rfl⟩
        have z5 := hide hB5.out.size
        have hLB2 : Hid (Lc.length + B.length ≤ 140737488355328) := by have := hLB.out; rw [List.length_append] at this; show _ ≤ _; omega
        clear hB1' hT1 h46
        go_wp2_with (at_builtin; refine wpList_append_bytes_g rfl (.tmp 69) (.tmp 70) 22 rfl w1.heap.size 5 Try.infoU8 Try.underlying22 _ _ Lc B rfl hob5.out rfl o5.out hLB2.out z5.out ?_)
        intro v6 w6 ho6 g6
        rw [← List.length_append, hM2.out] at ho6
        rw [hM2.out] at hLB hEV
        obtain ⟨ao6, ca6, rfl⟩ := owns_form ho6
        have hB6 := hide (hB5.out.grown g6 z5.out fun k hk => (hob5.out.lt k hk).1)
        have hoe6 : Hid (w6.ownsRow w1.heap.size 3 1 u12 (i + 1) (endVs seed bn ls i)) := hoe5.out.kept g6 (by
          cases hk : u12.ownBlock with
          | none => exact .inl rfl
          | some k => exact .inr fun e => owns_two hoe5.out hob5.out (by decide) k hk e.symm)
        have hsz6 := hide hB6.out.size
        replace ho6 := hide ho6
        have hi7 : i + 2 ≤ 102 := by have := Q3.out; omega
        clear g6 hob5 hoe5 hB5 k5 z5
        go_wp2_with (at_builtin; refine wpList_append_own _ rfl (.tmp 72) (.tmp 75) 53 rfl w1.heap.size 3 i0 (.int .i64 0) 1 8 Try.underlying53 hi hz0 hz1 hz2 rfl (by decide) _ (i + 1) (endVs seed bn ls i) rfl (hoe6.out.alloc _) ⟨w6.heap.size, 0, none⟩ 1 1 [.int .i64 (M2 : Int)] rfl rfl (cell_one_new _ _ _) (by simp [Value.oneCell']) (by unfold maxLen; omega) (by omega) (by have := hsz6.out; simp; omega) ?_)
        intro v7 w7 ho7 g7 _
        have hB7 : Hid (Below w1.heap.size w1 w7) := (hB6.out.alloc hsz6.out _).grown g7 (by have := hsz6.out; simp; omega) fun k hk => (hoe6.out.lt k hk).1
        have hob7 : Hid (w7.ownsRow w1.heap.size 5 1 (.slice ao6 M2 ca6) M2 (bvals (Lc ++ B))) := (ho6.out.alloc _).kept g7 (by
          cases hk : (Value.slice ao6 M2 ca6).ownBlock with
          | none => exact .inl rfl
          | some k => exact .inr fun e => owns_two ho6.out hoe6.out (by decide) k hk e.symm)
        have hoe7 : Hid (w7.ownsRow w1.heap.size 3 1 v7 (i + 1 + 1) (endVs seed bn ls (i + 1))) := by
          show World.ownsRow _ _ _ _ _ _ _
          rw [← endVs_succ, hEV.out]; exact ho7
        clear ho7 g7
        go_wp2_with fail
        go_roundw
        case rel => exact ⟨i + 1, Lc ++ B, T, by go_num, rfl, by omega, hch2, h42, by rw [hM2.out]; exact hob7.out, hoe7, hB7⟩
        case measure => simp [intOf]; omega
      · have hwo : wrF S ((bn + i : Nat) : Int) ll = ([], 0#32, 3) := by rw [wrF, if_neg (by simp [inB]; have := Q1.out; have := Q2.out; have := Q3.out; omega), if_pos (by rw [hN.out]; omega)]
        rw [hF.out] at hwo
        simp only [Prod.mk.injEq] at hwo
        obtain ⟨rfl, rfl, rfl⟩ := hwo
        have hgt : (4096 : Int) < (N : Int) := by omega
        clear h46
        go_wp2_with fail
        go_ret
        exact ⟨rfl, keepF B1.out hB5.out⟩
    · have hi' : i = n := by omega
      subst hi'
      have htk : ls.take i = ls := List.take_of_length_le (by rw [hnl.out]; exact Nat.le_refl _)
      rw [htk] at hch h4
      obtain ⟨M, hM⟩ : ∃ M, Hid (Lc.length = M) := ⟨_, rfl⟩
      rw [hM.out] at hob
      obtain ⟨ab, cb, rfl⟩ := owns_form hob.out
      obtain ⟨ae, ce, rfl⟩ := owns_form hoe.out
      have hMle : Hid (M ≤ 411200) := by
        have h1 := chn_le seed bn ls 100 (by rw [hnl.out]; exact Q3.out) h4.out
        rw [hch.out] at h1
        show _ ≤ _
        rw [← hM.out]; exact h1
      have hslb := hide (Sl.of_owns2 hob.out hM.out)
      have hsly := hide (Below.sl hB.out HY.out)
      have hnil : ¬ ((i : Int) < (i : Int)) := by omega
      have tn : ((bn : Int)).toNat = bn := Int.toNat_natCast bn
      have hcap : Hid (cb ≤ 9223372036854775807 ∧ M ≤ cb) := by
        show _ ∧ _
        obtain ⟨_, p⟩ := id hob.out
        rcases p with ⟨e, r⟩ | ⟨g, cap, cur, e, _, _, r1, r2, _⟩
        · simp only [Value.slice.injEq] at e; omega
        · simp only [Value.slice.injEq] at e; unfold maxLen at r2; omega
      -- the scan of all
      obtain ⟨K1, hK1⟩ := exK (Lc ++ R) ⟨0, 0, bn, seed⟩ (Nat.zero_le _)
      have hcs := chain_st seed bn ls R Q1.out (by have := Q2.out; have := Q3.out; rw [hnl.out]; omega) h4.out
      rw [hch.out] at hcs
      have hg1 := (hcs ls.length (Nat.le_refl _))
      rw [List.take_length, hch.out] at hg1
      simp only at hg1
      have hKn : i ≤ K1 := by have := isK_ge hK1 hg1.1; rwa [hnl.out] at this
      have hKe := st_mono hK1.1 (isK_ge hK1 hg1.1)
      rw [hg1.2] at hKe
      simp only at hKe
      obtain ⟨a1, a2', a3, a4⟩ := good_e hK1.1 (Nat.zero_le _)
      have a5 := st_n hK1.1 (by show bn ≤ _; have := Q2.out; omega)
      obtain ⟨X, hX⟩ : ∃ X, St (Lc ++ R) ⟨0, 0, bn, seed⟩ K1 = X := ⟨_, rfl⟩
      rw [hX] at hKe a1 a2' a3 a4 a5
      obtain ⟨xc, xe, xn, xs⟩ := X
      simp only at hKe a1 a2' a3 a4 a5
      obtain ⟨Y1, hY1⟩ : ∃ Y, Hid (whyS (Lc ++ R) ⟨xc, xe, xn, xs⟩ = Y) := ⟨_, rfl⟩
      obtain ⟨XN, hXN⟩ : ∃ XN : Int, Hid ((bn : Int) + (K1 : Int) = XN) := ⟨_, rfl⟩
      have O1 : Hid (∀ (q : World) (v : Value), Sl q v (Lc ++ R) → Calls Try.prog 9 #[v, .int .i64 (bn : Int), .int .u32 (seed.toNat : Int)] q fun ee w' => ee = .returned (.agg #[.int .i64 (K1 : Int), .int .i64 (xe : Int), .int .i64 XN, .int .u32 (xs.toNat : Int), .int .i64 Y1]) ∧ Below q.heap.size q w') := fun q v hq => by
        have := over_any q v (Lc ++ R) bn seed _ (.inr ⟨by have := Q1.out; omega, K1, by rw [tn]; exact hK1, rfl⟩) (by omega) (by have := Q2.out; omega) hq
        rw [tn, lastc_map, hX, hY1.out, scc] at this
        simp only at this
        rw [show xc = K1 by omega, show xn = bn + K1 by omega, Int.natCast_add, hXN.out] at this
        exact this
      have z1 : ¬ ((K1 : Int) < (i : Int)) := by omega
      have z2 : ¬ ((xe : Int) < (M : Int)) := by have := hM.out; omega
      have z3 : (bn : Int) + (K1 : Int) ≤ 9223372036854775807 := by omega
      replace z1 := hide z1
      replace z2 := hide z2
      replace z3 := hide z3
      -- the scan of the frames alone
      obtain ⟨f1, f2, f3⟩ := chain_isK seed bn ls Q1.out (by have := Q2.out; have := Q3.out; rw [hnl.out]; omega) h4.out
      rw [hch.out] at f1 f2 f3
      simp only at f1 f2 f3
      have O2 : Hid (∀ (q : World) (v : Value), Sl q v Lc → Calls Try.prog 9 #[v, .int .i64 (bn : Int), .int .u32 (seed.toNat : Int)] q fun ee w' => ee = .returned (.agg #[.int .i64 (i : Int), .int .i64 (M : Int), .int .i64 ((bn : Int) + (i : Int)), .int .u32 (S.toNat : Int), .int .i64 1]) ∧ Below q.heap.size q w') := fun q v hq => by
        have := over_any q v Lc bn seed _ (.inr ⟨by have := Q1.out; omega, ls.length, by rw [tn]; exact f1, rfl⟩) (by omega) (by have := Q2.out; omega) hq
        rw [tn, lastc_map, f3, f2, scc] at this
        simp only at this
        rw [hnl.out, hM.out, Int.natCast_add] at this
        exact this
      clear hK1 hcs hg1 hKn hKe a1 a2' a3 a4 a5 hX f1 f2 f3 hnil tn
      have e17 : Hid (([] : List UInt8).length + Lc.length ≤ 140737488355328) := by have := hMle.out; show _ ≤ _; rw [hM.out]; simp; omega
      have e18 : Hid (Lc.length + R.length ≤ 140737488355328) := by have := hMle.out; have := Q4.out; show _ ≤ _; rw [hM.out, hrn.out]; omega
      go_wp2_with (first
        | (at_builtin; refine wpList_append_bytes rfl (.tmp 79) (.tmp 80) 22 rfl wr.heap.size 5 Try.infoU8 Try.underlying22 _ _ Lc R rfl ho8.out rfl (Below.sl b8.out hsly.out) e18.out b8.out.size ?_; intro v9 w9 ho9 b9; obtain ⟨ao9, ca9, rfl⟩ := owns_form ho9; replace ho9 := hide ho9; replace b9 := hide b9)
        | (at_builtin; refine wpList_append_bytes rfl (.const (.slice none 0 0)) (.tmp 78) 22 rfl wr.heap.size 5 Try.infoU8 Try.underlying22 _ _ [] Lc rfl (World.ownsRow_nil _ _ _ _) rfl hslb.out e17.out (Nat.le_refl _) ?_; intro v8 w8 ho8 b8; rw [List.nil_append] at ho8; replace ho8 := hide ho8; replace b8 := hide b8)
        | fail)
      have hs9 : Sl w9 (.slice ao9 (Lc.length + R.length) ca9) (Lc ++ R) := by have := Sl.of_owns ho9.out; rwa [List.length_append] at this
      refine (O1.out w9 _ hs9).mono ?_
      rintro ee w10 ⟨rfl, b10⟩
      have b10' : Hid (Below wr.heap.size wr w10) := keepF (b8.out.trans b9.out) b10
      clear ho9 b9 ho8 b8 b10 O1
      go_upto_region 18 with fail
      have b11 := hide (b10'.out.alloc b10'.out.size (.cells #[.int .i64 (K1 : Int), .int .i64 (xe : Int), .int .i64 XN, .int .u32 (xs.toNat : Int), .int .i64 Y1] 28))
      have h11 : Hid ((w10.alloc (.cells #[.int .i64 (K1 : Int), .int .i64 (xe : Int), .int .i64 XN, .int .u32 (xs.toNat : Int), .int .i64 Y1] 28)).heap[w10.heap.size]? = some (.cells #[.int .i64 (K1 : Int), .int .i64 (xe : Int), .int .i64 XN, .int .u32 (xs.toNat : Int), .int .i64 Y1] 28 (0, 0))) := heap_alloc_new _ _
      revert b11 h11
      generalize w10.alloc (.cells #[.int .i64 (K1 : Int), .int .i64 (xe : Int), .int .i64 XN, .int .u32 (xs.toNat : Int), .int .i64 Y1] 28) = w11
      intro b11 h11
      generalize w10.heap.size = ob at *
      obtain ⟨k0, k1, k2, -⟩ := five h11.out
      have x3 : XN ≤ 9223372036854775807 := by rw [← hXN.out]; exact z3.out
      have x4 : 0 ≤ XN := by rw [← hXN.out]; omega
      have y1 := z1.out
      have y2 := z2.out
      have y3 := hXN.out
      clear h11 hs9
      go_upto_region 20 with fail
      clear k0 k1 k2 x3 x4 y1 y2 y3
      go_upto_region 21 with (go_at_call 9; refine (O2.out w11 _ (Below.sl b11.out hslb.out)).mono ?_; rintro ee w12 ⟨rfl, b12⟩)
      have b13 := hide ((keepF b11.out b12).alloc (keepF b11.out b12).size (.cells #[.int .i64 (i : Int), .int .i64 (M : Int), .int .i64 ((bn : Int) + (i : Int)), .int .u32 (S.toNat : Int), .int .i64 1] 28))
      have h13 : Hid ((w12.alloc (.cells #[.int .i64 (i : Int), .int .i64 (M : Int), .int .i64 ((bn : Int) + (i : Int)), .int .u32 (S.toNat : Int), .int .i64 1] 28)).heap[w12.heap.size]? = some (.cells #[.int .i64 (i : Int), .int .i64 (M : Int), .int .i64 ((bn : Int) + (i : Int)), .int .u32 (S.toNat : Int), .int .i64 1] 28 (0, 0))) := heap_alloc_new _ _
      revert b13 h13
      generalize w12.alloc (.cells #[.int .i64 (i : Int), .int .i64 (M : Int), .int .i64 ((bn : Int) + (i : Int)), .int .u32 (S.toNat : Int), .int .i64 1] 28) = w13
      intro b13 h13
      generalize w12.heap.size = pb at *
      clear b10' b11 b12 O2
      obtain ⟨k0, k1, -, k3, k4, -⟩ := five h13.out
      have B13 := hide (keepF hB.out b13.out)
      go_upto_region 23 with fail
      clear k0 k1 k3 k4 h13
      by_cases q5 : cut < 0
      · go_wp2_with fail
        go_ret
        exact ⟨rfl, B13.out⟩
      obtain ⟨cu, rfl⟩ : ∃ cu : Nat, cut = (cu : Int) := ⟨cut.toNat, by omega⟩
      by_cases q6 : (cu : Int) > (M : Int)
      · go_wp2_with fail
        go_ret
        exact ⟨rfl, B13.out⟩
      have hoe13 := hide (ownsRow_below hoe.out b13.out)
      obtain ⟨ge, rfl, ce1, ce2, hce⟩ := owns_cell hoe13.out (by omega)
      have CE : Hid (∀ j, j ≤ i → w13.cell? ⟨ge, j, none⟩ = some (endV seed bn ls j)) := fun j hj => hce j _ (by omega) (endVs_get seed bn ls i j hj)
      have hE0 : Hid ((chn seed bn (ls.take 0)).1.length ≤ cu) := by show _ ≤ _; simp [chn]
      have ce3 : Hid (ce ≤ 9223372036854775807) := by unfold maxLen at ce2; exact ce2
      have ce1' := hide ce1
      clear hce ce1 ce2 hoe13
      go_wp2_with fail
      go_loopw [20] (fun vn wz => ∃ j : Nat, vn = .int .i64 (j : Int) ∧ j ≤ i ∧ Hid (wz = w13) ∧ Hid ((chn seed bn (ls.take j)).1.length ≤ cu)) (fun vn _ => i - (intOf vn).toNat)
      case atStart => exact ⟨0, rfl, Nat.zero_le _, hide rfl, hE0⟩
      case round =>
        clear hE0
        obtain ⟨j, rfl, hj, hwz, hje⟩ := hrel
        have hwz' := hwz.out.symm
        subst hwz'
        clear hwz
        by_cases hj1 : j < i
        · have k1 := CE.out (j + 1) (by omega)
          unfold endV at k1
          obtain ⟨M1, hM1⟩ : ∃ M1, Hid ((chn seed bn (ls.take (j + 1))).1.length = M1) := ⟨_, rfl⟩
          rw [hM1.out] at k1
          by_cases hc1 : M1 ≤ cu
          · have l1 : (j : Int) + 1 < (i : Int) + 1 := by omega
            have l2 : (M1 : Int) ≤ (cu : Int) := by omega
            have hje2 : Hid ((chn seed bn (ls.take (j + 1))).1.length ≤ cu) := by show _ ≤ _; rw [hM1.out]; exact hc1
            go_wp2_with fail
            go_roundw
            case rel => exact ⟨j + 1, by go_num, by omega, hide trivial, hje2⟩
            case measure => simp [intOf]; omega
          · have l1 : (j : Int) + 1 < (i : Int) + 1 := by omega
            have l2 : ¬ (M1 : Int) ≤ (cu : Int) := by omega
            have hx : ∀ h : j < ls.length, cu < (chn seed bn (ls.take (j + 1))).1.length := fun _ => by rw [hM1.out]; omega
            have hcl : cu ≤ Lc.length := by rw [hM.out]; omega
            obtain ⟨f1, f2, f3⟩ := cut_isK seed bn ls Q1.out (by have := Q2.out; have := Q3.out; rw [hnl.out]; omega) h4.out cu j (by rw [hnl.out]; exact hj) hje.out hx (by rw [hch.out]; exact hcl)
            rw [hch.out] at f1 f2 f3
            have k2 := CE.out j hj
            unfold endV at k2
            obtain ⟨ej, sj, hes⟩ : ∃ ej sj, Hid ((chn seed bn (ls.take j)).1.length = ej ∧ (chn seed bn (ls.take j)).2 = sj) := ⟨_, _, rfl, rfl⟩
            rw [hes.out.1] at k2 f2 f3
            rw [hes.out.2] at f2
            obtain ⟨Yc, hYc⟩ : ∃ Y, Hid (whyS (Lc.take cu) (St (Lc.take cu) ⟨0, 0, bn, seed⟩ j) = Y) := ⟨_, rfl⟩
            rw [hYc.out] at f3
            have O3 : Hid (∀ (q : World), Sl q (.slice ab M cb) Lc → Calls Try.prog 9 #[.slice ab cu cb, .int .i64 (bn : Int), .int .u32 (seed.toNat : Int)] q fun ee w' => ee = .returned (.agg #[.int .i64 (j : Int), .int .i64 (ej : Int), .int .i64 ((bn : Int) + (j : Int)), .int .u32 (sj.toNat : Int), .int .i64 Yc]) ∧ Below q.heap.size q w') := fun q hq => by
              have := over_any q (.slice ab cu cb) (Lc.take cu) bn seed _ (.inr ⟨by have := Q1.out; omega, j, by rw [Int.toNat_natCast]; exact f1, rfl⟩) (by omega) (by have := Q2.out; omega) (sl_take cu hcl hq hM.out)
              rw [Int.toNat_natCast, lastc_map, hYc.out, f2, scc] at this
              simp only at this
              rw [Int.natCast_add] at this
              exact this
            obtain ⟨XB, hb1, hb2⟩ : ∃ XB : Bool, (Yc == 1) = XB ∧ ((cu : Int) == (ej : Int)) = XB := by
              by_cases h : Yc = 1
              · exact ⟨true, by simp [h], by have := f3.1 h; simp; omega⟩
              · exact ⟨false, by simpa using h, by simp; exact fun e => h (f3.2 (by omega))⟩
            have hsl13 := hide (Below.sl b13.out hslb.out)
            have hc3 : cu ≤ cb := by have := hcap.out.2; omega
            have hc4 := hcap.out.1
            have hj0 : (j : Int) < (i : Int) + 1 := by omega
            clear f1 f2 f3 hje hx hcl
            go_upto_region 28 with fail
            go_upto_region 29 with (go_at_call 9; refine (O3.out w13 hsl13.out).mono ?_; rintro ee w14 ⟨rfl, b14⟩)
            clear hc3 hc4
            have b15 := hide (b14.alloc b14.size (.cells #[.int .i64 (j : Int), .int .i64 (ej : Int), .int .i64 ((bn : Int) + (j : Int)), .int .u32 (sj.toNat : Int), .int .i64 Yc] 28))
            have h15 : Hid ((w14.alloc (.cells #[.int .i64 (j : Int), .int .i64 (ej : Int), .int .i64 ((bn : Int) + (j : Int)), .int .u32 (sj.toNat : Int), .int .i64 Yc] 28)).heap[w14.heap.size]? = some (.cells #[.int .i64 (j : Int), .int .i64 (ej : Int), .int .i64 ((bn : Int) + (j : Int)), .int .u32 (sj.toNat : Int), .int .i64 Yc] 28 (0, 0))) := heap_alloc_new _ _
            revert b15 h15
            generalize w14.alloc (.cells #[.int .i64 (j : Int), .int .i64 (ej : Int), .int .i64 ((bn : Int) + (j : Int)), .int .u32 (sj.toNat : Int), .int .i64 Yc] 28) = w15
            intro b15 h15
            generalize w14.heap.size = qb at *
            obtain ⟨p0, p1, -, -, p4, -⟩ := five h15.out
            have k3 : w15.cell? ⟨ge, j, none⟩ = some (.int .i64 (ej : Int)) := (b15.out.cell (lt_of_cell k2)).trans k2
            have B15 := hide (keepF B13.out b15.out)
            clear k2 b14 b15 h15 hsl13 O3
            go_wp2_with fail
            go_quiet (fail)
            go_wp2_with fail
            go_ret
            exact ⟨rfl, keepF B15.out (Qt.below ⟨_, rfl⟩ _)⟩
        · have l1 : ¬ (j : Int) + 1 < (i : Int) + 1 := by omega
          have hjs : (j : Int) + 1 ≤ 9223372036854775807 := by have := Q3.out; omega
          have hx : ∀ h : j < ls.length, cu < (chn seed bn (ls.take (j + 1))).1.length := fun h => absurd h (by rw [hnl.out]; exact hj1)
          have hcl : cu ≤ Lc.length := by rw [hM.out]; omega
          obtain ⟨f1, f2, f3⟩ := cut_isK seed bn ls Q1.out (by have := Q2.out; have := Q3.out; rw [hnl.out]; omega) h4.out cu j (by rw [hnl.out]; exact hj) hje.out hx (by rw [hch.out]; exact hcl)
          rw [hch.out] at f1 f2 f3
          have k2 := CE.out j hj
          unfold endV at k2
          obtain ⟨ej, sj, hes⟩ : ∃ ej sj, Hid ((chn seed bn (ls.take j)).1.length = ej ∧ (chn seed bn (ls.take j)).2 = sj) := ⟨_, _, rfl, rfl⟩
          rw [hes.out.1] at k2 f2 f3
          rw [hes.out.2] at f2
          obtain ⟨Yc, hYc⟩ : ∃ Y, Hid (whyS (Lc.take cu) (St (Lc.take cu) ⟨0, 0, bn, seed⟩ j) = Y) := ⟨_, rfl⟩
          rw [hYc.out] at f3
          have O3 : Hid (∀ (q : World), Sl q (.slice ab M cb) Lc → Calls Try.prog 9 #[.slice ab cu cb, .int .i64 (bn : Int), .int .u32 (seed.toNat : Int)] q fun ee w' => ee = .returned (.agg #[.int .i64 (j : Int), .int .i64 (ej : Int), .int .i64 ((bn : Int) + (j : Int)), .int .u32 (sj.toNat : Int), .int .i64 Yc]) ∧ Below q.heap.size q w') := fun q hq => by
            have := over_any q (.slice ab cu cb) (Lc.take cu) bn seed _ (.inr ⟨by have := Q1.out; omega, j, by rw [Int.toNat_natCast]; exact f1, rfl⟩) (by omega) (by have := Q2.out; omega) (sl_take cu hcl hq hM.out)
            rw [Int.toNat_natCast, lastc_map, hYc.out, f2, scc] at this
            simp only at this
            rw [Int.natCast_add] at this
            exact this
          obtain ⟨XB, hb1, hb2⟩ : ∃ XB : Bool, (Yc == 1) = XB ∧ ((cu : Int) == (ej : Int)) = XB := by
            by_cases h : Yc = 1
            · exact ⟨true, by simp [h], by have := f3.1 h; simp; omega⟩
            · exact ⟨false, by simpa using h, by simp; exact fun e => h (f3.2 (by omega))⟩
          have hsl13 := hide (Below.sl b13.out hslb.out)
          have hc3 : cu ≤ cb := by have := hcap.out.2; omega
          have hc4 := hcap.out.1
          have hj0 : (j : Int) < (i : Int) + 1 := by omega
          clear f1 f2 f3 hje hx hcl
          go_upto_region 28 with fail
          go_upto_region 29 with (go_at_call 9; refine (O3.out w13 hsl13.out).mono ?_; rintro ee w14 ⟨rfl, b14⟩)
          clear hc3 hc4
          have b15 := hide (b14.alloc b14.size (.cells #[.int .i64 (j : Int), .int .i64 (ej : Int), .int .i64 ((bn : Int) + (j : Int)), .int .u32 (sj.toNat : Int), .int .i64 Yc] 28))
          have h15 : Hid ((w14.alloc (.cells #[.int .i64 (j : Int), .int .i64 (ej : Int), .int .i64 ((bn : Int) + (j : Int)), .int .u32 (sj.toNat : Int), .int .i64 Yc] 28)).heap[w14.heap.size]? = some (.cells #[.int .i64 (j : Int), .int .i64 (ej : Int), .int .i64 ((bn : Int) + (j : Int)), .int .u32 (sj.toNat : Int), .int .i64 Yc] 28 (0, 0))) := heap_alloc_new _ _
          revert b15 h15
          generalize w14.alloc (.cells #[.int .i64 (j : Int), .int .i64 (ej : Int), .int .i64 ((bn : Int) + (j : Int)), .int .u32 (sj.toNat : Int), .int .i64 Yc] 28) = w15
          intro b15 h15
          generalize w14.heap.size = qb at *
          obtain ⟨p0, p1, -, -, p4, -⟩ := five h15.out
          have k3 : w15.cell? ⟨ge, j, none⟩ = some (.int .i64 (ej : Int)) := (b15.out.cell (lt_of_cell k2)).trans k2
          have B15 := hide (keepF B13.out b15.out)
          clear k2 b14 b15 h15 hsl13 O3
          go_wp2_with fail
          go_quiet (fail)
          go_wp2_with fail
          go_ret
          exact ⟨rfl, keepF B15.out (Qt.below ⟨_, rfl⟩ _)⟩

end Go.Proofs.Ytnglinhnpimlmaa
