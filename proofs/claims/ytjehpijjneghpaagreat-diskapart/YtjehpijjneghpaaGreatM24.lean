/-
  The document's disk: Create.
-/
import Derived.Test.YtjehpijjneghpaaGreatM23
namespace Go.Proofs.YtjehpijjneghpaaGreat.Re
open Go.RowKit Go.Maps Go.Sort Go.Shelf Go.Proofs.YtjehpijjneghpaaGreat.Nm Go.Proofs.YtjehpijjneghpaaGreat.Dk
set_option linter.unusedVariables false
def RB.create (R : RB) (s : ByteArray) : RB × Int :=
  if refN R.down R.dir s false ≠ 0 then (R, refN R.down R.dir s false)
  else if ¬ findN R.dir s.data.toList < 0 then (R, 7)
  else if R.dir.length = 256 then (R, 9)
  else if R.flt.2.1 ≠ 0 then (R.beg 0, toldN R.flt.2.1)
  else ((R.beg 0).file.chg ⟨s, (R.F.length : Int), ⟨#[]⟩⟩, 0)
theorem Rgo.then {w w1 w' : World} {b : Nat} {V V1 : RV} {R' : RB} (h : Rgo w1 w' b V1 R') (hx : ∀ x k, blk b V1 x = some k → blk b V x = some k ∨ w.heap.size ≤ k) (hb : But (fun k => ∃ x, blk b V x = some k) w w1) : Rgo w w' b V R' := by
  obtain ⟨⟨V', hm, hv⟩, ht⟩ := h
  refine ⟨⟨V', hm, fun x k hk => ?_⟩, ?_⟩
  · rcases hv x k hk with q | q
    · exact hx x k q
    · exact .inr (Nat.le_trans hb.size q)
  · exact but_trans_new hb ht (fun i ⟨x, hi⟩ => (hx x i hi).imp (fun q => ⟨x, q⟩) id)
set_option maxRecDepth 100000 in
set_option maxHeartbeats 1000000 in
theorem create_rm {w : World} {b : Nat} {R : RB} {V : RV} (h : RM w b R V) (ho : R.ok) (hc : R.c7 ≤ 1000000000) (hl : (R.dir.length : Int) ≤ 1000000000) (hpl : (R.pe.length : Int) ≤ 1000000000) (hfl : (R.F.length : Int) ≤ 1000000000) (s : ByteArray) (hs : s.size ≤ maxLen) :
    Calls Tryz.prog 44 #[.pointer (some ⟨b, 0, none⟩), .string s] w fun e w' => e = .returned (.int .i64 (R.create s).2) ∧ Rgo w w' b V (R.create s).1 := by
  have hR := refused_rm h s hs false
  have hFi := find_ref w V.vD R.dir s h.dd.tr
  have hB := begins_rm h ho hc 0 (by omega)
  have M0 := hide (Rgo.refl h)
  have c2 : w.cell? ⟨b, 2, none⟩ = some V.vD := (h.cell 2).trans rfl
  have hvd : ∃ da dc, V.vD = .slice da R.dir.length dc ∧ R.dir.length ≤ dc ∧ dc ≤ 9223372036854775807 := by
    rcases h.dd.form with ⟨e, e2⟩ | ⟨g, cap, e, q1, q2⟩
    · exact ⟨none, 0, by rw [e, e2]; rfl, by rw [e2]; exact Nat.le_refl _, by omega⟩
    · exact ⟨_, _, e, q1, q2⟩
  obtain ⟨da, dc, hvd, dl1, dl2⟩ := hvd
  rw [hvd] at c2 hFi
  obtain ⟨X, hX⟩ : ∃ X, Hid (R.create s = X) := ⟨_, rfl⟩
  rw [hX.out]
  obtain ⟨dn, hdn⟩ : ∃ dn, Hid (R.dir.length = dn) := ⟨_, rfl⟩
  rw [hdn.out] at c2 hFi dl1
  by_cases h0 : refN R.down R.dir s false = 0
  · rw [h0] at hR
    by_cases h7 : findN R.dir s.data.toList < 0
    · by_cases h9 : R.dir.length = 256
      · have e1 : Hid (X = (R, 9)) := by show _ = _; rw [← hX.out]; unfold RB.create; rw [if_neg (by rw [h0]; simp), if_neg (by simpa using h7), if_pos h9]
        rw [hdn.out] at h9
        subst h9
        generalize findN R.dir s.data.toList = fn at *
        have h7b : ¬ (fn ≥ 0) := by omega
        clear h hB ho hc
        go_enter Tryz.func44, Tryz.ntmps44
        go_wp2_with (first
          | (go_at_call 95; refine hR.mono ?_; rintro e w1 ⟨rfl, e1'⟩; subst w1)
          | (go_at_call 96; refine hFi.mono ?_; rintro e w1 ⟨rfl, e1'⟩; subst w1))
        go_ret
        rw [e1.out]
        exact ⟨rfl, M0.out⟩
      · have e0 : R.create s = (if R.flt.2.1 ≠ 0 then (R.beg 0, toldN R.flt.2.1) else ((R.beg 0).file.chg ⟨s, (R.F.length : Int), ⟨#[]⟩⟩, 0)) := by unfold RB.create; rw [if_neg (by rw [h0]; simp), if_neg (by simpa using h7), if_neg h9]
        rw [hdn.out] at h9
        have h9b : ¬ ((dn : Int) = 256) := by omega
        generalize findN R.dir s.data.toList = fn at *
        have h7b : ¬ (fn ≥ 0) := by omega
        obtain ⟨F, hF⟩ : ∃ F : Ft, Hid (R.flt = F) := ⟨R.flt, rfl⟩
        rw [hF.out] at hB e0
        obtain ⟨fa, fk, fp⟩ := F
        obtain ⟨_, be2, _, be4, _⟩ := beg_same R 0
        have be1 := (beg_same R 0).1
        have hCh : Hid (∀ q V1, RM q b (R.beg 0).file V1 → Calls Tryz.prog 99 #[.pointer (some ⟨b, 0, none⟩), .agg #[.string s, .int .i64 (R.F.length : Int), .string ⟨#[]⟩]] q fun e w' => e = .returned (.tuple #[]) ∧ Rgo q w' b V1 ((R.beg 0).file.chg ⟨s, (R.F.length : Int), ⟨#[]⟩⟩)) := fun q V1 hq =>
          change_rm hq ⟨s, (R.F.length : Int), ⟨#[]⟩⟩ (by show ((R.beg 0).dir.length : Int) ≤ _; rw [be2]; exact hl) (by show ((R.beg 0).pe.length : Int) ≤ _; rw [be4]; exact hpl) (by show (-9223372036854775808 : Int) ≤ (R.F.length : Int); omega) (by show (R.F.length : Int) ≤ 9223372036854775807; omega)
        clear h ho hc
        unfold fv at hB
        dsimp only at hB e0
        by_cases hk : fk = 0
        · have e1 : Hid (X = ((R.beg 0).file.chg ⟨s, (R.F.length : Int), ⟨#[]⟩⟩, 0)) := by show _ = _; rw [← hX.out, e0, if_neg (by simpa using hk)]
          subst hk
          clear e0
          go_enter Tryz.func44, Tryz.ntmps44
          go_upto_region 9 with (first
            | (go_at_call 95; refine hR.mono ?_; rintro e w1 ⟨rfl, e1'⟩; subst w1)
            | (go_at_call 96; refine hFi.mono ?_; rintro e w1 ⟨rfl, e1'⟩; subst w1)
            | (go_at_call 97; refine hB.mono ?_; rintro e w1 ⟨rfl, M1, b1⟩; replace M1 := hide M1; replace b1 := hide b1))
          have z1 := heap_alloc_new w1 (.cells #[.int .i64 fa, .int .i64 0, .int .i64 fp] 118)
          have BX := hide (box_below w1 (.cells #[.int .i64 fa, .int .i64 0, .int .i64 fp] 118))
          obtain ⟨Y, hY⟩ : ∃ Y, Hid (w1.alloc (.cells #[.int .i64 fa, .int .i64 0, .int .i64 fp] 118) = Y) := ⟨_, rfl⟩
          rw [hY.out] at z1 BX ⊢
          have y1 : Y.cell? ⟨w1.heap.size, 1, none⟩ = some (.int .i64 0) := by simp [World.cell?, z1]
          have MY := hide (M1.out.below BX.out)
          have bY : Hid (But (fun k => k = b) w Y) := b1.out.trans (But.of_below BX.out _)
          clear z1
          go_upto_region 11 with fail
          have hff := MY.out.ff
          rw [be1] at hff
          have hvf : ∃ pa pc, V.vF = .slice pa R.F.length pc ∧ R.F.length ≤ pc ∧ pc ≤ 9223372036854775807 := by
            rcases hff.2 with ⟨e, e2⟩ | ⟨g, cap, cur, e, _, _, a, q, _⟩
            · exact ⟨none, 0, by rw [e, e2], by omega, by omega⟩
            · exact ⟨_, _, e, a, by unfold maxLen at q; omega⟩
          obtain ⟨pa, pc, hvf, pl1, pl2⟩ := hvf
          have y4 : Y.cell? ⟨b, 1, none⟩ = some (.slice pa R.F.length pc) := (MY.out.cell 1).trans (by rw [← hvf]; rfl)
          have z2 := heap_alloc_new Y (.cells #[.slice none 0 0, .slice none 0 0, .int .i64 0] 138)
          have BZ := box_below Y (.cells #[.slice none 0 0, .slice none 0 0, .int .i64 0] 138)
          obtain ⟨v4, w4, r4, Q4, G4, at4⟩ := run_appF Y.heap.size (owns_belowN hff BZ) (by simp only [World.cell?, z2]; rfl) (by simp only [World.cell?, z2]; rfl) (by simp only [World.cell?, z2]; rfl) (by omega) 99
          have B4 : But (fun k => V.vF.ownBlock = some k) Y w4 := (But.of_below BZ _).trans (But.of_grownBy G4 fun k e => e)
          have hvb : V.vF.ownBlock ≠ some b := MY.out.ds 0 1 (by omega) b rfl
          have hbx4 : w4.heap[b]? = some (.cells ((R.beg 0).cs V) TRD (0, 0)) := (B4.block b (heap_lt MY.out.box) hvb).trans MY.out.box
          have hv4 : ∃ sa sc, v4 = .slice sa (R.F.length + 1) sc ∧ R.F.length + 1 ≤ sc ∧ sc ≤ 9223372036854775807 := by
            rcases Q4.2 with ⟨e, e2⟩ | ⟨g, cap, cur, e, _, _, a, q, _⟩
            · omega
            · exact ⟨_, _, e, a, by unfold maxLen at q; omega⟩
          obtain ⟨sa, sc, rfl, sl1, sl2⟩ := hv4
          have t1 : w4.cell? ⟨b, 1, none⟩ = some (.slice pa R.F.length pc) := by simp [World.cell?, hbx4, RB.cs, hvf]
          have t2 : w4.frozen? ⟨b, 1, none⟩ = false := by simp [World.frozen?, hbx4]
          have k5 := heap_setCell_same w4 b 1 _ _ (.slice sa (R.F.length + 1) sc) hbx4
          have g5 := But.of_grownBy (X := fun k => k = b) (grown_setCell w4 b 1 (.slice sa (R.F.length + 1) sc)) fun k e => by cases e; rfl
          obtain ⟨A1, A2, A3⟩ := RM.addfile MY.out B4 (by rw [be1]; exact Q4) (at4.imp id fun e k hk => by rw [e] at hk; simp at hk; omega) g5 k5
          have t3 : (w4.setCell ⟨b, 1, none⟩ (.slice sa (R.F.length + 1) sc)).cell? ⟨b, 1, none⟩ = some (.slice sa (R.F.length + 1) sc) := by simp [World.cell?, k5, RB.cs]
          have hC2 := hCh.out _ _ A1
          rw [hvf] at r4
          replace r4 := hide r4
          replace A1 := hide A1
          replace A2 := hide A2
          replace A3 := hide A3
          obtain ⟨nF, hnF⟩ : ∃ nF, Hid (R.F.length = nF) := ⟨_, rfl⟩
          rw [hnF.out] at y4 r4 t1 t3 hC2 A2 A3 sl1 pl1 hfl e1
          clear hff z2 BZ Q4 G4 at4 B4 hbx4 k5 g5
          go_wp2_with (first
            | (at_builtin; refine Lib.wpList_append_run _ rfl (.tmp 42) (.tmp 44) 99 99 rfl _ _ rfl rfl _ _ r4.out ?_)
            | (go_at_call 99; refine hC2.mono ?_; rintro e w2 ⟨rfl, G2⟩; replace G2 := hide G2))
          go_ret
          rw [e1.out]
          exact ⟨rfl, (G2.out.then A2.out A3.out).behind bY.out⟩
        · have e1 : Hid (X = (R.beg 0, toldN fk)) := by show _ = _; rw [← hX.out, e0, if_pos hk]
          have hTo2 : Hid (∀ q, Calls Tryz.prog 98 #[.int .i64 fk] q fun e w' => e = .returned (.int .i64 (toldN fk)) ∧ w' = q) := fun q => told_ref q fk
          obtain ⟨tk, htk⟩ : ∃ tk, Hid (toldN fk = tk) := ⟨_, rfl⟩
          rw [htk.out] at hTo2
          have q0 : (fk != 0) = true := by simpa using hk
          clear e0
          go_enter Tryz.func44, Tryz.ntmps44
          go_upto_region 9 with (first
            | (go_at_call 95; refine hR.mono ?_; rintro e w1 ⟨rfl, e1'⟩; subst w1)
            | (go_at_call 96; refine hFi.mono ?_; rintro e w1 ⟨rfl, e1'⟩; subst w1)
            | (go_at_call 97; refine hB.mono ?_; rintro e w1 ⟨rfl, M1, b1⟩; replace M1 := hide M1; replace b1 := hide b1))
          have z1 := heap_alloc_new w1 (.cells #[.int .i64 fa, .int .i64 fk, .int .i64 fp] 118)
          have BX := hide (box_below w1 (.cells #[.int .i64 fa, .int .i64 fk, .int .i64 fp] 118))
          obtain ⟨Y, hY⟩ : ∃ Y, Hid (w1.alloc (.cells #[.int .i64 fa, .int .i64 fk, .int .i64 fp] 118) = Y) := ⟨_, rfl⟩
          rw [hY.out] at z1 BX ⊢
          have y1 : Y.cell? ⟨w1.heap.size, 1, none⟩ = some (.int .i64 fk) := by simp [World.cell?, z1]
          have MY := hide (M1.out.below BX.out)
          have bY : Hid (But (fun k => k = b) w Y) := b1.out.trans (But.of_below BX.out _)
          clear z1
          go_wp2_with (go_at_call 98; refine (hTo2.out _).mono ?_; rintro e w2 ⟨rfl, e2⟩; subst w2)
          go_ret
          rw [e1.out]
          exact ⟨by rw [← htk.out]; rfl, Rgo.same MY.out bY.out⟩
    · have e1 : Hid (X = (R, 7)) := by show _ = _; rw [← hX.out]; unfold RB.create; rw [if_neg (by rw [h0]; simp), if_pos (by simpa using h7)]
      generalize findN R.dir s.data.toList = fn at *
      have h7b : fn ≥ 0 := by omega
      clear h hB ho hc
      go_enter Tryz.func44, Tryz.ntmps44
      go_wp2_with (first
        | (go_at_call 95; refine hR.mono ?_; rintro e w1 ⟨rfl, e1'⟩; subst w1)
        | (go_at_call 96; refine hFi.mono ?_; rintro e w1 ⟨rfl, e1'⟩; subst w1))
      go_ret
      rw [e1.out]
      exact ⟨rfl, M0.out⟩
  · have e1 : Hid (X = (R, refN R.down R.dir s false)) := by show _ = _; rw [← hX.out]; unfold RB.create; rw [if_pos h0]
    clear h ho hc hB
    generalize refN R.down R.dir s false = rn at *
    go_enter Tryz.func44, Tryz.ntmps44
    go_wp2_with (go_at_call 95; refine hR.mono ?_; rintro e w1 ⟨rfl, e1'⟩; subst w1)
    go_ret
    rw [e1.out]
    exact ⟨rfl, M0.out⟩
theorem infoFa : (Tryz.prog.info? 118).map (fun i => (i.zero, i.size, i.bytes)) = some (some (.agg #[.int .i64 0, .int .i64 0, .int .i64 0]), 3, 24) := by kernel_rfl
theorem run_appA {w : World} {vx : Value} {fs : List Ft} (hm : Fts w vx fs) (hnl : ∀ n c, vx = .slice none n c → n = 0 ∧ c = 0) (hl : (fs.length : Int) ≤ 1000000000) (ty : TypeId) :
    ∃ v' w', (Builtin.append_ #[31, 31] ty #[.slice none 0 0, vx]).run Tryz.prog w = .ok v' w' ∧ w'.ownsRow w.heap.size 118 3 v' fs.length (acells fs) ∧ w.grownBy w' none := by
  obtain ⟨i0, hi, hz0, hz1, hz2⟩ := info_parts infoFa
  obtain ⟨ao, cap, rfl, h1, h2, h3⟩ := hm
  have h0 : w.ownsRow w.heap.size 118 3 (.slice none 0 0) 0 [] := World.ownsRow_nil _ _ _ _
  cases ao with
  | none =>
    obtain ⟨e1, rfl⟩ := hnl _ _ rfl
    have : fs = [] := List.length_eq_zero_iff.1 e1
    subst this
    refine ⟨_, w, ?_, h0, ⟨rfl, rfl, rfl, Nat.le_refl _, fun _ _ _ => rfl⟩⟩
    exact run_append_owned_none (P := Tryz.prog) (w := w) w.heap.size 31 ty 118 i0 3 Tryz.underlying31 hi (.slice none 0 0) 0 [] h0
  | some ad =>
    have hcells : ∀ j u, (acells fs)[j]? = some u → w.cell? (ad.add j) = some u := by
      intro j u hu
      have hj : j < fs.length * 3 := by
        have := (List.getElem?_eq_some_iff.1 hu).1
        rw [acells_len] at this
        exact this
      obtain ⟨b, off, e1, c0, c1, c2⟩ := h3 (j / 3) (by omega)
      obtain ⟨t0, t1, t2⟩ := acells_at fs (j / 3) (by omega)
      simp only [Option.some.injEq] at e1
      subst e1
      rw [addr_add]
      have hm : j % 3 = 0 ∨ j % 3 = 1 ∨ j % 3 = 2 := by omega
      rcases hm with q | q | q
      · rw [show j = j / 3 * 3 by omega] at hu ⊢
        rw [t0] at hu
        simp only [Option.some.injEq] at hu
        subst hu
        exact c0
      · rw [show j = j / 3 * 3 + 1 by omega] at hu ⊢
        rw [t1] at hu
        simp only [Option.some.injEq] at hu
        subst hu
        rw [← Nat.add_assoc]
        exact c1
      · rw [show j = j / 3 * 3 + 2 by omega] at hu ⊢
        rw [t2] at hu
        simp only [Option.some.injEq] at hu
        subst hu
        rw [← Nat.add_assoc]
        exact c2
    obtain ⟨v', w', hr, ho, hg, _, hat⟩ := run_append_own_at (P := Tryz.prog) w w.heap.size 31 ty 118 i0 (.agg #[.int .i64 0, .int .i64 0, .int .i64 0]) 3 24 Tryz.underlying31 hi hz0 hz1 hz2 rfl (by decide) (.slice none 0 0) 0 [] h0 ad fs.length cap (acells fs) (acells_len fs) hcells (by
      intro u hu
      simp only [acells, List.mem_flatten, List.mem_map] at hu
      obtain ⟨c, ⟨e, _, rfl⟩, hc⟩ := hu
      simp at hc
      rcases hc with rfl | rfl | rfl <;> rfl) (by unfold maxLen; omega) (by omega) (Nat.le_refl _)
    rw [Nat.zero_add, List.nil_append] at ho
    exact ⟨v', w', hr, ho, hg⟩
def RB.armed (R : RB) (fs : List Ft) : RB := { R with fs := fs, si := 0 }
theorem armed_cs (R : RB) (V : RV) (fs : List Ft) (v : Value) : ((R.cs V).setIfInBounds 5 v).setIfInBounds 6 (.int .i64 0) = (R.armed fs).cs { V with vA := v } := by simp [RB.cs, RB.armed]
theorem blk_a (b : Nat) (V : RV) (v : Value) (x : Nat) (h5 : x ≠ 5) : blk b { V with vA := v } x = blk b V x := by
  match x with
  | 0 => rfl
  | 1 => rfl
  | 2 => rfl
  | 3 => rfl
  | 4 => rfl
  | 5 => exact absurd rfl h5
  | n + 6 => rfl
theorem RM.arm {w0 w w' : World} {b : Nat} {R : RB} {V : RV} {v : Value} {fs : List Ft} (h0 : RM w0 b R V) (hw : Below w0.heap.size w0 w) (hv : w.ownsRow w0.heap.size 118 3 v fs.length (acells fs)) (hb : But (fun k => k = b) w w') (hbox : w'.heap[b]? = some (.cells (((R.cs V).setIfInBounds 5 v).setIfInBounds 6 (.int .i64 0)) TRD (0, 0))) : Rgo w0 w' b V (R.armed fs) := by
  have h := h0.below hw
  have nx : ∀ x, x ≠ 0 → ∀ k, blk b V x = some k → ¬ k = b := fun x hx k hk c => h.ds 0 x (Ne.symm hx) b rfl (by rw [hk, c])
  have hbl : b < w0.heap.size := heap_lt h0.box
  have hvb : ∀ k, v.ownBlock = some k → ¬ k = b := fun k hk c => by have := (World.ownsRow.lt hv k hk).1; omega
  have hsz := hb.size
  refine ⟨⟨{ V with vA := v }, ?_, ?_⟩, ?_⟩
  · refine ⟨by rw [← armed_cs]; exact hbox, h.dd.but hb (nx 2 (by omega)), h.oo.but hb (nx 3 (by omega)), h.pp.but hb (nx 4 (by omega)), ?_, ownsRow_but h.ff hb (nx 1 (by omega)), h.ln, fun i hi => ?_, ?_, ?_⟩
    · have := ownsRow_but hv hb hvb
      exact ⟨this.1, this.2.imp id fun ⟨g, cap, cur, e, hg, r⟩ => ⟨g, cap, cur, e, Nat.zero_le _, r⟩⟩
    · have hi' : i < R.F.length := hi
      have hl' : i < V.T.length := by rw [h.ln]; exact hi'
      obtain ⟨a, q⟩ := h.nn i hi'
      exact ⟨Oc.but a hb (fun k hk => nx (2 * i + 6) (by omega) k (by rw [blk_N b V hl']; exact hk)), Oc.but q hb (fun k hk => nx (2 * i + 7) (by omega) k (by rw [blk_L b V hl']; exact hk))⟩
    · refine h0.ds.step (H := w0.heap.size) h0.lt (fun x => ?_) (fun x y hxy k hk h1 h2 => ?_)
      · by_cases h5 : x = 5
        · subst h5; exact .inr fun k hk => (World.ownsRow.lt hv k hk).1
        · exact .inl (blk_a b V v x h5)
      · have old : ∀ z, z ≠ 5 → blk b { V with vA := v } z ≠ some k := fun z z2 hz => by
          rw [blk_a b V v z z2] at hz
          have := h0.lt z k hz
          omega
        by_cases x2 : x = 5
        · exact old y (fun e => hxy (by rw [x2, e])) h2
        · exact old x x2 h1
    · intro x k hk
      by_cases h5 : x = 5
      · subst h5; have := (World.ownsRow.lt hv k hk).2; omega
      · rw [blk_a b V v x h5] at hk
        have := h.lt x k hk
        omega
  · intro x k hk
    by_cases h5 : x = 5
    · subst h5; exact .inr (World.ownsRow.lt hv k hk).1
    · rw [blk_a b V v x h5] at hk
      exact .inl hk
  · exact (But.of_below hw _).trans (hb.mono fun k _ e => ⟨0, by rw [e]; rfl⟩)
set_option maxRecDepth 100000 in
set_option maxHeartbeats 1000000 in
theorem arm_rm {w : World} {b : Nat} {R : RB} {V : RV} (h : RM w b R V) (v : Value) (fs : List Ft) (hv : Fts w v fs) (hnl : ∀ n c, v = .slice none n c → n = 0 ∧ c = 0) :
    Calls Tryz.prog 60 #[.pointer (some ⟨b, 0, none⟩), v] w fun e w' => ∃ R' er, e = .returned (.int .i64 er) ∧ Hid (Rgo w w' b V R' ∧ ((fs.length ≤ 64 ∧ MayL fs fs.length → R' = R.armed fs ∧ er = 0) ∧ (¬ (fs.length ≤ 64 ∧ MayL fs fs.length) → R' = R ∧ er = 1))) := by
  have HM := hide h
  by_cases hy : fs.length ≤ 64 ∧ MayL fs fs.length
  · have hM : Calls Tryz.prog 103 #[v] w fun e w' => e = .returned (.bool true) ∧ Hid (Below w.heap.size w w') := by
      refine (may_ref w v fs hv).mono ?_
      rintro e w' ⟨⟨Rb, h1, h2⟩, h3⟩
      rw [h2.2 hy] at h1
      exact ⟨h1, h3⟩
    have KR : Hid (∀ q, Below w.heap.size w q → ∃ v' w', (Builtin.append_ #[31, 31] 31 #[.slice none 0 0, v]).run Tryz.prog q = .ok v' w' ∧ q.ownsRow 0 118 3 (.slice none 0 0) 0 [] ∧ w'.ownsRow q.heap.size 118 3 v' fs.length (acells fs) ∧ q.grownBy w' none) := fun q hq => by
      obtain ⟨v', w', r1, r2, r3⟩ := run_appA (hv.below hq) hnl (by have := hy.1; omega) 31
      exact ⟨v', w', r1, World.ownsRow_nil _ _ _ _, r2, r3⟩
    have hvs : ∃ a n c, v = .slice a n c := by obtain ⟨a, c, e, _⟩ := hv; exact ⟨_, _, _, e⟩
    obtain ⟨va, vn, vc, rfl⟩ := hvs
    replace hy := hide hy
    clear h hv hnl
    go_enter Tryz.func60, Tryz.ntmps60
    go_upto_region 3 with (go_at_call 103; refine hM.mono ?_; rintro e w1 ⟨rfl, b1⟩)
    have M1 := hide (HM.out.below b1.out)
    obtain ⟨v3, w3, r3, _, Q3, G3⟩ := KR.out w1 b1.out
    have X3 : Hid (Below w1.heap.size w1 w3) := (Below.refl _ _).grown G3 (Nat.le_refl _) (fun k hk => by simp at hk)
    have hbx3 : Hid (w3.heap[b]? = some (.cells (R.cs V) TRD (0, 0))) := (X3.out.block b (heap_lt M1.out.box)).trans M1.out.box
    have hv3 : ∃ sa sn sc, v3 = .slice sa sn sc := by rcases Q3.2 with ⟨e, _⟩ | ⟨g, cap, cur, e, _⟩ <;> exact ⟨_, _, _, e⟩
    obtain ⟨sa, sn, sc, rfl⟩ := hv3
    replace Q3 := hide Q3
    replace r3 := hide r3
    have t1 : w3.cell? ⟨b, 5, none⟩ = some V.vA := by simp [World.cell?, hbx3.out, RB.cs]
    have t2 : w3.frozen? ⟨b, 5, none⟩ = false := by simp [World.frozen?, hbx3.out]
    have k4 := hide (heap_setCell_same w3 b 5 _ _ (.slice sa sn sc) hbx3.out)
    have t3 : (w3.setCell ⟨b, 5, none⟩ (.slice sa sn sc)).cell? ⟨b, 6, none⟩ = some (.int .i64 R.si) := by simp [World.cell?, k4.out, RB.cs]
    have t4 : (w3.setCell ⟨b, 5, none⟩ (.slice sa sn sc)).frozen? ⟨b, 6, none⟩ = false := by simp [World.frozen?, k4.out]
    have k5 := heap_setCell_same _ b 6 _ _ (.int .i64 0) k4.out
    have g3 := But.of_grownBy (X := fun k => k = b) (grown_setCell w3 b 5 (.slice sa sn sc)) fun k e => by cases e; rfl
    have g4 := But.of_grownBy (X := fun k => k = b) (grown_setCell (w3.setCell ⟨b, 5, none⟩ (.slice sa sn sc)) b 6 (.int .i64 0)) fun k e => by cases e; rfl
    have fin := hide ((RM.arm M1.out X3.out Q3.out (g3.trans g4) k5).behind (But.of_below b1.out _))
    clear G3 k5 g3 g4
    go_wp2_with (at_builtin; refine Lib.wpList_append_run _ rfl (.const (.slice none 0 0)) (.tmp 9) 31 31 rfl _ _ rfl rfl _ _ r3.out ?_)
    go_ret
    exact ⟨_, _, rfl, fin.out, fun _ => ⟨rfl, rfl⟩, fun c => absurd hy.out c⟩
  · have hM : Calls Tryz.prog 103 #[v] w fun e w' => e = .returned (.bool false) ∧ Hid (Below w.heap.size w w') := by
      refine (may_ref w v fs hv).mono ?_
      rintro e w' ⟨⟨Rb, h1, h2⟩, h3⟩
      cases Rb with
      | true => exact absurd (h2.1 rfl) hy
      | false => exact ⟨h1, h3⟩
    replace hy := hide hy
    clear h hv hnl
    go_enter Tryz.func60, Tryz.ntmps60
    go_wp2_with (go_at_call 103; refine hM.mono ?_; rintro e w1 ⟨rfl, b1⟩)
    go_ret
    exact ⟨R, 1, rfl, Rgo.same (HM.out.below b1.out) (But.of_below b1.out _), fun c => absurd c hy.out, fun _ => ⟨rfl, rfl⟩⟩
theorem fcells_at : ∀ (F : List (List UInt8 × List UInt8 × Int)) (T : List (Value × Value)), T.length = F.length → ∀ i (h : i < F.length) (h' : i < T.length), (fcells F T)[i * 3]? = some T[i].1 ∧ (fcells F T)[i * 3 + 1]? = some T[i].2 ∧ (fcells F T)[i * 3 + 2]? = some (.int .i64 F[i].2.2) := by
  intro F
  induction F with
  | nil => intro T _ i h; simp at h
  | cons e r ih =>
    intro T hT i h h'
    cases T with
    | nil => simp at h'
    | cons t q =>
      have : fcells (e :: r) (t :: q) = [t.1, t.2, .int .i64 e.2.2] ++ fcells r q := by simp [fcells]
      rw [this]
      cases i with
      | zero => exact ⟨rfl, rfl, rfl⟩
      | succ i =>
        obtain ⟨a, b, c⟩ := ih q (by simpa using hT) i (by simpa using h) (by simpa using h')
        rw [show (i + 1) * 3 = i * 3 + 1 + 1 + 1 by omega]
        simp only [List.cons_append, List.nil_append, List.getElem?_cons_succ, List.getElem_cons_succ]
        exact ⟨a, b, c⟩
theorem RM.at {w : World} {b : Nat} {R : RB} {V : RV} (h : RM w b R V) {i : Nat} (hi : i < R.F.length) : ∃ g cap, V.vF = .slice (some ⟨g, 0, none⟩) R.F.length cap ∧ R.F.length ≤ cap ∧ cap ≤ 9223372036854775807 ∧ ∃ hl : i < V.T.length, w.cell? ⟨g, i * 3, none⟩ = some V.T[i].1 ∧ w.cell? ⟨g, i * 3 + 1, none⟩ = some V.T[i].2 ∧ w.cell? ⟨g, i * 3 + 2, none⟩ = some (.int .i64 R.F[i].2.2) := by
  have hl : i < V.T.length := by rw [h.ln]; exact hi
  obtain ⟨t0, t1, t2⟩ := fcells_at R.F V.T h.ln i hi hl
  have hff := h.ff
  rcases hff.2 with ⟨e, e2⟩ | ⟨g, cap, cur, e, _, _, a, q, _⟩
  · omega
  · have h0 := hff
    rw [e] at h0
    have q0 := World.ownsRow.cells h0 (g := g) rfl (i * 3) _ t0
    have q1 := World.ownsRow.cells h0 (g := g) rfl (i * 3 + 1) _ t1
    have q2 := World.ownsRow.cells h0 (g := g) rfl (i * 3 + 2) _ t2
    rw [addr_add, Nat.zero_add] at q0 q1 q2
    exact ⟨g, cap, e, a, by unfold maxLen at q; omega, hl, q0, q1, q2⟩
def RB.lenOf (R : RB) (p : Nat) : Nat := match R.F[p]? with | some f => f.1.length | none => 0
def RB.sum (R : RB) (k : Nat) : Nat := ((R.dir.take k).map fun e => R.lenOf e.2).sum
def RB.room (R : RB) : Int := max (R.most - (R.sum R.dir.length : Int)) 0
set_option maxRecDepth 100000 in
set_option maxHeartbeats 1000000 in
theorem room_rm {w : World} {b : Nat} {R : RB} {V : RV} (h : RM w b R V) (hg : ∀ e ∈ R.dir, e.2 < R.F.length) (m0 : 0 ≤ R.most) (m1 : R.most ≤ 16777216) (hz : ((R.sum R.dir.length : Nat) : Int) ≤ 9000000000000000) :
    Calls Tryz.prog 100 #[.pointer (some ⟨b, 0, none⟩)] w fun e w' => e = .returned (.int .i64 R.room) ∧ Below w.heap.size w w' := by
  have c0 : w.cell? ⟨b, 0, none⟩ = some (.int .i64 R.most) := (h.cell 0).trans rfl
  have c1 : w.cell? ⟨b, 1, none⟩ = some V.vF := (h.cell 1).trans rfl
  have c2 : w.cell? ⟨b, 2, none⟩ = some V.vD := (h.cell 2).trans rfl
  obtain ⟨da, dc, hvd, dl1, dl2, q3⟩ := h.dd.tr
  rw [hvd] at c2
  obtain ⟨N, hN⟩ : ∃ N, Hid (R.dir.length = N) := ⟨_, rfl⟩
  rw [hN.out] at c2 dl1
  replace q3 := hide q3
  obtain ⟨X, hX⟩ : ∃ X, Hid (R.room = X) := ⟨_, rfl⟩
  rw [hX.out]
  have HM := hide h
  replace hg := hide hg
  replace hz := hide hz
  have hmono : Hid (∀ k, k ≤ N → (R.sum k : Int) ≤ 9000000000000000) := fun k hk => by
    have h1 := hz.out
    have : R.sum k ≤ R.sum R.dir.length := by
      unfold RB.sum
      rw [List.take_length]
      conv => rhs; rw [← List.take_append_drop k R.dir, List.map_append, List.sum_append]
      omega
    omega
  have hvf : ∃ fa fn fc, V.vF = .slice fa fn fc := by rcases h.ff.2 with ⟨e, _⟩ | ⟨g, cap, cur, e, _⟩ <;> exact ⟨_, _, _, e⟩
  obtain ⟨fa, fn, fc, hvf⟩ := hvf
  rw [hvf] at c1
  have KC : Hid (∀ q, Below w.heap.size w q → q.cell? ⟨b, 1, none⟩ = some (.slice fa fn fc) ∧ q.cell? ⟨b, 2, none⟩ = some (.slice da N dc)) := fun q hq => ⟨by rw [hq.cell (lt_of_cell c1)]; exact c1, by rw [hq.cell (lt_of_cell c2)]; exact c2⟩
  clear h
  go_enter Tryz.func100, Tryz.ntmps100
  go_wp2_with fail
  go_loopw [3, 4] (fun v3 v4 wr => ∃ (k : Nat) (x : Int), v4 = .int .i64 k ∧ k ≤ N ∧ v3 = .int .i64 x ∧ Hid (x = R.most - (R.sum k : Int)) ∧ Hid (Below w.heap.size w wr)) (fun _ v4 _ => N - (intOf v4).toNat)
  case atStart => exact ⟨0, R.most, rfl, Nat.zero_le _, rfl, by show _ = _; simp [RB.sum], Below.refl _ _⟩
  case round =>
    obtain ⟨k, x, rfl, hk, rfl, ex, hW⟩ := hrel
    clear c1 c2
    obtain ⟨c1, c2⟩ := KC.out wr hW.out
    by_cases hlt : k < N
    · have i1 : (k : Int) < (N : Int) := by omega
      have hkl : k < R.dir.length := by rw [hN.out]; exact hlt
      obtain ⟨gb, off, rfl, y0, y1⟩ := q3.out k hkl
      rw [← hW.out.cell (p := ⟨gb, off + k * 2 + 1, none⟩) (lt_of_cell y1)] at y1
      have hp := hg.out R.dir[k] (List.getElem_mem hkl)
      have MR := HM.out.below hW.out
      obtain ⟨g, cap, evf, fl1, fl2, hl, z0, _, _⟩ := MR.at hp
      rw [hvf] at evf
      simp only [Value.slice.injEq] at evf
      obtain ⟨rfl, rfl, rfl⟩ := evf
      have hs1 : Hid (R.sum (k + 1) = R.sum k + R.lenOf R.dir[k].2) := by show _ = _; unfold RB.sum; rw [List.take_succ_eq_append_getElem hkl, List.map_append, List.sum_append]; simp
      have hlo : R.lenOf R.dir[k].2 = R.F[R.dir[k].2].1.length := by unfold RB.lenOf; rw [List.getElem?_eq_getElem hp]
      obtain ⟨ta, tc, et, tl1, tl2⟩ := (MR.nn _ hp).1.form
      have hm1 := hmono.out (k + 1) hlt
      rw [et, ← hlo] at z0
      rw [← hlo] at tl1
      clear y0
      generalize hpp : R.dir[k].2 = p at *
      have ip : (p : Int) < (R.F.length : Int) := by omega
      obtain ⟨tl, htl⟩ : ∃ tl, Hid (R.lenOf p = tl) := ⟨_, rfl⟩
      rw [htl.out] at z0 tl1 hs1
      have hxb : -9000000000000000 ≤ x - (tl : Int) ∧ x - (tl : Int) ≤ 16777216 := by have h1 := ex.out; have h2 := hs1.out; omega
      obtain ⟨hx1, hx2⟩ := hxb
      have hnx : Hid (x - (tl : Int) = R.most - (R.sum (k + 1) : Int)) := by show _ = _; have h1 := ex.out; have h2 := hs1.out; omega
      clear MR et hlo hm1 hpp
      go_wp2_with fail
      go_quiet (fail)
      have B3 : Hid (Below w.heap.size w (wr.drewN nq)) := hW.out.trans ((Qt.below ⟨nq, rfl⟩ _).mono hW.out.size)
      generalize wr.drewN nq = wy at *
      go_wp2_with fail
      go_roundw
      case rel => exact ⟨k + 1, x - (tl : Int), by go_num, by omega, by go_num, hnx, B3⟩
      case measure => simp [intOf]; omega
    · have i1 : ¬ ((k : Int) < (N : Int)) := by omega
      obtain rfl : k = N := by omega
      have hfin : Hid (X = max x 0) := by show _ = _; rw [← hX.out, RB.room, hN.out, ex.out]
      go_wp2_with fail
      all_goals
        go_ret
        refine ⟨?_, hW.out⟩
        rw [hfin.out]
        show Ending.returned (Value.int .i64 _) = _
        first | rfl | (congr 2; omega)
def RB.pOf (R : RB) (s : ByteArray) : Nat := (findN R.dir s.data.toList).toNat
def RB.size (R : RB) (s : ByteArray) : Int × Int := if refN R.down R.dir s true ≠ 0 then (0, refN R.down R.dir s true) else ((R.lenOf (R.pOf s) : Int), 0)
theorem refN_there {R : RB} {s : ByteArray} (hg : ∀ e ∈ R.dir, e.2 < R.F.length) (h : refN R.down R.dir s true = 0) : findN R.dir s.data.toList = (R.pOf s : Int) ∧ R.pOf s < R.F.length ∧ Dk.get R.dir s.data.toList = some (R.pOf s) := by
  unfold refN at h
  split at h
  · cases h
  · split at h
    · split at h
      · cases h
      · rename_i q
        simp only [Bool.true_and] at q
        cases hp : Dk.get R.dir s.data.toList with
        | none => rw [hp] at q; simp at q
        | some p =>
          have e : findN R.dir s.data.toList = (p : Int) := by unfold findN; rw [hp]
          have e2 : R.pOf s = p := by unfold RB.pOf; rw [e]; exact Int.toNat_natCast p
          rw [e2]
          exact ⟨e, hg _ (get_mem hp), rfl⟩
    · cases h
set_option maxRecDepth 100000 in
set_option maxHeartbeats 1000000 in
theorem size_rm {w : World} {b : Nat} {R : RB} {V : RV} (h : RM w b R V) (hg : ∀ e ∈ R.dir, e.2 < R.F.length) (s : ByteArray) (hs : s.size ≤ maxLen) :
    Calls Tryz.prog 57 #[.pointer (some ⟨b, 0, none⟩), .string s] w fun e w' => e = .returned (.tuple #[.int .i64 (R.size s).1, .int .i64 (R.size s).2]) ∧ Below w.heap.size w w' := by
  have hR := refused_rm h s hs true
  obtain ⟨X, hX⟩ : ∃ X, Hid (R.size s = X) := ⟨_, rfl⟩
  rw [hX.out]
  by_cases h0 : refN R.down R.dir s true = 0
  · rw [h0] at hR
    obtain ⟨hf, hp, _⟩ := refN_there hg h0
    have hFi : Hid (∀ q, RM q b R V → Calls Tryz.prog 96 #[V.vD, .string s] q fun e w' => e = .returned (.int .i64 (R.pOf s : Int)) ∧ w' = q) := fun q hq => by
      have := find_ref q V.vD R.dir s hq.dd.tr
      rw [hf] at this
      exact this
    have c1 : w.cell? ⟨b, 1, none⟩ = some V.vF := (h.cell 1).trans rfl
    have c2 : w.cell? ⟨b, 2, none⟩ = some V.vD := (h.cell 2).trans rfl
    have hvd : ∃ da dn dc, V.vD = .slice da dn dc := by rcases h.dd.form with ⟨e, _⟩ | ⟨g, cap, e, _⟩ <;> exact ⟨_, _, _, e⟩
    obtain ⟨da, dn, dc, hvd⟩ := hvd
    obtain ⟨g, cap, hvf, fl1, fl2, hl, z0, _, _⟩ := h.at hp
    obtain ⟨ta, tc, et, tl1, tl2⟩ := (h.nn _ hp).1.form
    have hlo : R.lenOf (R.pOf s) = R.F[R.pOf s].1.length := by unfold RB.lenOf; rw [List.getElem?_eq_getElem hp]
    rw [et, ← hlo] at z0
    rw [← hlo] at tl1
    rw [hvf] at c1
    rw [hvd] at c2 hFi
    have e1 : Hid (X = ((R.lenOf (R.pOf s) : Int), 0)) := by show _ = _; rw [← hX.out]; unfold RB.size; rw [if_neg (by rw [h0]; simp)]
    obtain ⟨p, hpp⟩ : ∃ p, Hid (R.pOf s = p) := ⟨_, rfl⟩
    obtain ⟨tl, htl⟩ : ∃ tl, Hid (R.lenOf p = tl) := ⟨_, rfl⟩
    rw [hpp.out] at z0 tl1 e1 hFi hp
    rw [htl.out] at z0 tl1 e1
    have ip : (p : Int) < (R.F.length : Int) := by omega
    have HM := hide h
    clear h hg et hlo hf
    go_enter Tryz.func57, Tryz.ntmps57
    go_wp2_with (go_at_call 95; refine hR.mono ?_; rintro e w1 ⟨rfl, e1'⟩; subst w1)
    go_quiet ((go_at_call 96; exact Calls.quiet_of_same (hFi.out _ (HM.out.below (Qt.below ⟨_, rfl⟩ _)))))
    go_wp2_with fail
    go_ret2
    rw [e1.out]
    exact ⟨rfl, Qt.below ⟨nq, rfl⟩ _⟩
  · have e1 : Hid (X = (0, refN R.down R.dir s true)) := by show _ = _; rw [← hX.out]; unfold RB.size; rw [if_pos h0]
    clear h hg
    generalize refN R.down R.dir s true = rn at *
    go_enter Tryz.func57, Tryz.ntmps57
    go_wp2_with (go_at_call 95; refine hR.mono ?_; rintro e w1 ⟨rfl, e1'⟩; subst w1)
    go_ret2
    rw [e1.out]
    exact ⟨rfl, Below.refl _ _⟩
def RB.byOf (R : RB) (p : Nat) : List UInt8 := match R.F[p]? with | some f => f.1 | none => []
theorem byOf_len (R : RB) (p : Nat) : (R.byOf p).length = R.lenOf p := by unfold RB.byOf RB.lenOf; cases R.F[p]? <;> rfl
set_option maxRecDepth 100000 in
set_option maxHeartbeats 1000000 in
theorem read_rm_ok {w : World} {b : Nat} {R : RB} {V : RV} (h : RM w b R V) (hg : ∀ e ∈ R.dir, e.2 < R.F.length) (s : ByteArray) (hs : s.size ≤ maxLen) (o n : Nat) (h0 : refN R.down R.dir s true = 0) (hon : o + n ≤ R.lenOf (R.pOf s)) (hz : (R.lenOf (R.pOf s) : Int) ≤ 1000000000) :
    Calls Tryz.prog 56 #[.pointer (some ⟨b, 0, none⟩), .string s, .int .i64 (o : Int), .int .i64 (n : Int)] w fun e w' => ∃ v, e = .returned (.tuple #[v, .int .i64 0]) ∧ Ob w.heap.size w' v (((R.byOf (R.pOf s)).drop o).take n) ∧ Below w.heap.size w w' := by
  have hR := refused_rm h s hs true
  rw [h0] at hR
  obtain ⟨hf, hp, _⟩ := refN_there hg h0
  have hFi : Hid (∀ q, RM q b R V → Calls Tryz.prog 96 #[V.vD, .string s] q fun e w' => e = .returned (.int .i64 (R.pOf s : Int)) ∧ w' = q) := fun q hq => by
    have := find_ref q V.vD R.dir s hq.dd.tr
    rw [hf] at this
    exact this
  have c1 : w.cell? ⟨b, 1, none⟩ = some V.vF := (h.cell 1).trans rfl
  have c2 : w.cell? ⟨b, 2, none⟩ = some V.vD := (h.cell 2).trans rfl
  have hvd : ∃ da dn dc, V.vD = .slice da dn dc := by rcases h.dd.form with ⟨e, _⟩ | ⟨g, cap, e, _⟩ <;> exact ⟨_, _, _, e⟩
  obtain ⟨da, dn, dc, hvd⟩ := hvd
  obtain ⟨g, cap, hvf, fl1, fl2, hl, z0, _, _⟩ := h.at hp
  have hby : R.byOf (R.pOf s) = R.F[R.pOf s].1 := by unfold RB.byOf; rw [List.getElem?_eq_getElem hp]
  have hOb := (h.nn _ hp).1
  rw [← hby] at hOb
  obtain ⟨ta, tc, et, tl1, tl2⟩ := hOb.form
  rw [et] at z0 hOb
  obtain ⟨vs, hS, VS⟩ := run_sub hOb.sl o n (by rw [byOf_len]; exact hon)
  have KR : Hid (∀ q, Below w.heap.size w q → ∃ v' w', (Builtin.append_ #[30, 30] 30 #[.slice none 0 0, vs]).run Tryz.prog q = .ok v' w' ∧ Ob q.heap.size w' v' (((R.byOf (R.pOf s)).drop o).take n) ∧ Below q.heap.size q w') := fun q hq => by
    obtain ⟨v1, w1, r1, Q1, G1, _⟩ := run_app (Ob.nil q.heap.size q) (Below.sl hq VS) (by have := byOf_len R (R.pOf s); simp; omega) (Nat.le_refl _) 30
    rw [List.nil_append] at Q1
    exact ⟨v1, w1, r1, Q1, (Below.refl _ _).grown G1 (Nat.le_refl _) (fun k hk => by simp [Value.ownBlock] at hk)⟩
  generalize ((R.byOf (R.pOf s)).drop o).take n = L at *
  rw [byOf_len] at z0 tl1 hS
  rw [hvf] at c1
  rw [hvd] at c2 hFi
  obtain ⟨p, hpp⟩ : ∃ p, Hid (R.pOf s = p) := ⟨_, rfl⟩
  obtain ⟨N, htl⟩ : ∃ N, Hid (R.lenOf p = N) := ⟨_, rfl⟩
  rw [hpp.out] at z0 tl1 hFi hp hS hon hz
  rw [htl.out] at z0 tl1 hS hon hz
  have ip : (p : Int) < (R.F.length : Int) := by omega
  have HM := hide h
  have i1 : ¬ ((o : Int) < 0) := by omega
  have i2 : ¬ ((o : Int) > (N : Int)) := by omega
  have i3 : ¬ ((n : Int) < 0) := by omega
  have i4 : ¬ ((n : Int) > (N : Int) - (o : Int)) := by omega
  have e1 : IntKind.i64.wrap ((N : Int) - (o : Int)) = (N : Int) - (o : Int) := by rw [IntKind.wrap_i64]; omega
  have e2 : IntKind.i64.wrap ((o : Int) + (n : Int)) = (o : Int) + (n : Int) := by rw [IntKind.wrap_i64]; omega
  replace hon := hide hon
  clear h hg et hby hf hOb VS
  go_enter Tryz.func56, Tryz.ntmps56
  go_wp2_with (go_at_call 95; refine hR.mono ?_; rintro e w1 ⟨rfl, e1'⟩; subst w1)
  go_quiet ((go_at_call 96; exact Calls.quiet_of_same (hFi.out _ (HM.out.below (Qt.below ⟨_, rfl⟩ _)))))
  have B3 : Hid (Below w.heap.size w (w.drewN nq)) := Qt.below ⟨nq, rfl⟩ _
  obtain ⟨v4, w4, r4, Q4, b4⟩ := KR.out _ B3.out
  replace r4 := hide r4
  replace Q4 := hide Q4
  replace b4 := hide b4
  generalize w.drewN nq = wy at *
  go_wp2_with (at_builtin; refine Lib.wpList_append_run _ rfl (.const (.slice none 0 0)) (.tmp 56) 30 30 rfl _ _ rfl rfl _ _ r4.out ?_)
  go_ret2
  exact ⟨v4, rfl, Q4.out.low B3.out.size, B3.out.trans (b4.out.mono B3.out.size)⟩
theorem read_rm_no {w : World} {b : Nat} {R : RB} {V : RV} (h : RM w b R V) (s : ByteArray) (hs : s.size ≤ maxLen) (o n : Int) (h0 : refN R.down R.dir s true ≠ 0) :
    Calls Tryz.prog 56 #[.pointer (some ⟨b, 0, none⟩), .string s, .int .i64 o, .int .i64 n] w fun e w' => e = .returned (.tuple #[.slice none 0 0, .int .i64 (refN R.down R.dir s true)]) ∧ w' = w := by
  have hR := refused_rm h s hs true
  clear h
  generalize refN R.down R.dir s true = rn at *
  go_enter Tryz.func56, Tryz.ntmps56
  go_wp2_with (go_at_call 95; refine hR.mono ?_; rintro e w1 ⟨rfl, e1'⟩; subst w1)
  go_ret2
  exact ⟨rfl, rfl⟩
set_option maxRecDepth 100000 in
set_option maxHeartbeats 1000000 in
theorem read_rm_out {w : World} {b : Nat} {R : RB} {V : RV} (h : RM w b R V) (hg : ∀ e ∈ R.dir, e.2 < R.F.length) (s : ByteArray) (hs : s.size ≤ maxLen) (o n : Int) (g0 : -9223372036854775808 ≤ n) (g1 : n ≤ 9223372036854775807) (h0 : refN R.down R.dir s true = 0) (hon : ¬ (0 ≤ o ∧ 0 ≤ n ∧ o + n ≤ (R.lenOf (R.pOf s) : Int))) (hz : (R.lenOf (R.pOf s) : Int) ≤ 1000000000) :
    Calls Tryz.prog 56 #[.pointer (some ⟨b, 0, none⟩), .string s, .int .i64 o, .int .i64 n] w fun e w' => e = .returned (.tuple #[.slice none 0 0, .int .i64 8]) ∧ Below w.heap.size w w' := by
  have hR := refused_rm h s hs true
  rw [h0] at hR
  obtain ⟨hf, hp, _⟩ := refN_there hg h0
  have hFi : Hid (∀ q, RM q b R V → Calls Tryz.prog 96 #[V.vD, .string s] q fun e w' => e = .returned (.int .i64 (R.pOf s : Int)) ∧ w' = q) := fun q hq => by
    have := find_ref q V.vD R.dir s hq.dd.tr
    rw [hf] at this
    exact this
  have c1 : w.cell? ⟨b, 1, none⟩ = some V.vF := (h.cell 1).trans rfl
  have c2 : w.cell? ⟨b, 2, none⟩ = some V.vD := (h.cell 2).trans rfl
  have hvd : ∃ da dn dc, V.vD = .slice da dn dc := by rcases h.dd.form with ⟨e, _⟩ | ⟨g, cap, e, _⟩ <;> exact ⟨_, _, _, e⟩
  obtain ⟨da, dn, dc, hvd⟩ := hvd
  obtain ⟨g, cap, hvf, fl1, fl2, hl, z0, _, _⟩ := h.at hp
  have hby : R.byOf (R.pOf s) = R.F[R.pOf s].1 := by unfold RB.byOf; rw [List.getElem?_eq_getElem hp]
  have hOb := (h.nn _ hp).1
  rw [← hby] at hOb
  obtain ⟨ta, tc, et, tl1, tl2⟩ := hOb.form
  rw [et] at z0
  rw [byOf_len] at z0 tl1
  rw [hvf] at c1
  rw [hvd] at c2 hFi
  obtain ⟨p, hpp⟩ : ∃ p, Hid (R.pOf s = p) := ⟨_, rfl⟩
  obtain ⟨N, htl⟩ : ∃ N, Hid (R.lenOf p = N) := ⟨_, rfl⟩
  rw [hpp.out] at z0 tl1 hFi hp hon hz
  rw [htl.out] at z0 tl1 hon hz
  have ip : (p : Int) < (R.F.length : Int) := by omega
  have HM := hide h
  clear h hg et hby hf hOb
  by_cases a1 : o < 0
  · clear hon
    go_enter Tryz.func56, Tryz.ntmps56
    go_wp2_with (go_at_call 95; refine hR.mono ?_; rintro e w1 ⟨rfl, e1'⟩; subst w1)
    go_quiet ((go_at_call 96; exact Calls.quiet_of_same (hFi.out _ (HM.out.below (Qt.below ⟨_, rfl⟩ _)))))
    go_wp2_with fail
    go_ret2
    exact ⟨rfl, Qt.below ⟨nq, rfl⟩ _⟩
  by_cases a2 : n < 0
  · clear hon
    go_enter Tryz.func56, Tryz.ntmps56
    go_wp2_with (go_at_call 95; refine hR.mono ?_; rintro e w1 ⟨rfl, e1'⟩; subst w1)
    go_quiet ((go_at_call 96; exact Calls.quiet_of_same (hFi.out _ (HM.out.below (Qt.below ⟨_, rfl⟩ _)))))
    go_wp2_with fail
    go_ret2
    exact ⟨rfl, Qt.below ⟨nq, rfl⟩ _⟩
  by_cases a3 : o > (N : Int)
  · clear hon
    go_enter Tryz.func56, Tryz.ntmps56
    go_wp2_with (go_at_call 95; refine hR.mono ?_; rintro e w1 ⟨rfl, e1'⟩; subst w1)
    go_quiet ((go_at_call 96; exact Calls.quiet_of_same (hFi.out _ (HM.out.below (Qt.below ⟨_, rfl⟩ _)))))
    go_wp2_with fail
    go_ret2
    exact ⟨rfl, Qt.below ⟨nq, rfl⟩ _⟩
  · have a4 : n > (N : Int) - o := by omega
    have e1 : IntKind.i64.wrap ((N : Int) - o) = (N : Int) - o := by rw [IntKind.wrap_i64]; omega
    clear hon
    go_enter Tryz.func56, Tryz.ntmps56
    go_wp2_with (go_at_call 95; refine hR.mono ?_; rintro e w1 ⟨rfl, e1'⟩; subst w1)
    go_quiet ((go_at_call 96; exact Calls.quiet_of_same (hFi.out _ (HM.out.below (Qt.below ⟨_, rfl⟩ _)))))
    go_wp2_with fail
    go_ret2
    exact ⟨rfl, Qt.below ⟨nq, rfl⟩ _⟩
end Go.Proofs.YtjehpijjneghpaaGreat.Re
