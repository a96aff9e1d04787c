/-
  The document's disk: Rename.
-/
import Derived.Test.YtjehpijjneghpaaGreatM22
namespace Go.Proofs.YtjehpijjneghpaaGreat.Re
open Go.RowKit Go.Maps Go.Sort Go.Shelf Go.Proofs.YtjehpijjneghpaaGreat.Nm Go.Proofs.YtjehpijjneghpaaGreat.Dk
set_option linter.unusedVariables false
def RB.ref2 (R : RB) (f t : ByteArray) : Int := if refN R.down R.dir f false ≠ 0 then refN R.down R.dir f false else if refN R.down R.dir t false ≠ 0 then refN R.down R.dir t false else refN R.down R.dir f true
def RB.rename (R : RB) (f t : ByteArray) : RB × Int :=
  if R.ref2 f t ≠ 0 then (R, R.ref2 f t)
  else if strN R.flt.2.1 ≠ 0 then (R.beg 4, strN R.flt.2.1)
  else if f = t then (R.beg 4, 0)
  else ((R.beg 4).chg ⟨t, findN R.dir f.data.toList, f⟩, 0)
theorem same_str (s : ByteArray) : (s.toList == s.toList) = true := by simp
theorem other_str {s t : ByteArray} (h : s ≠ t) : (s.toList == t.toList) = false := by
  rw [ByteArray.toList_eq, ByteArray.toList_eq]
  have : s.data.toList ≠ t.data.toList := fun e => h (ByteArray.ext (Array.toList_inj.1 e))
  simpa using this
set_option maxRecDepth 100000 in
set_option maxHeartbeats 600000 in
theorem rename_no {w : World} {b : Nat} {R : RB} {V : RV} (h : RM w b R V) (f t : ByteArray) (hf : f.size ≤ maxLen) (ht : t.size ≤ maxLen) (h0 : R.ref2 f t ≠ 0) :
    Calls Tryz.prog 52 #[.pointer (some ⟨b, 0, none⟩), .string f, .string t] w fun e w' => e = .returned (.int .i64 (R.ref2 f t)) ∧ w' = w := by
  have hR1 := refused_rm h f hf false
  have hR2 := refused_rm h t ht false
  have hR3 := refused_rm h f hf true
  unfold RB.ref2 at h0 ⊢
  generalize refN R.down R.dir f false = n1 at *
  generalize refN R.down R.dir t false = n2 at *
  generalize refN R.down R.dir f true = n3 at *
  by_cases a1 : n1 = 0
  · subst a1
    rw [if_neg (by simp)] at h0 ⊢
    by_cases a2 : n2 = 0
    · subst a2
      rw [if_neg (by simp)] at h0 ⊢
      go_enter Tryz.func52, Tryz.ntmps52
      go_upto_region 3 with (go_at_call 95; refine hR1.mono ?_; rintro e w1 ⟨rfl, e1'⟩; subst w1)
      go_upto_region 5 with (go_at_call 95; refine hR2.mono ?_; rintro e w1 ⟨rfl, e1'⟩; subst w1)
      go_wp2_with (go_at_call 95; refine hR3.mono ?_; rintro e w1 ⟨rfl, e1'⟩; subst w1)
      go_ret
      exact ⟨rfl, rfl⟩
    · rw [if_pos a2]
      go_enter Tryz.func52, Tryz.ntmps52
      go_upto_region 3 with (go_at_call 95; refine hR1.mono ?_; rintro e w1 ⟨rfl, e1'⟩; subst w1)
      go_wp2_with (go_at_call 95; refine hR2.mono ?_; rintro e w1 ⟨rfl, e1'⟩; subst w1)
      go_ret
      exact ⟨rfl, rfl⟩
  · rw [if_pos a1]
    go_enter Tryz.func52, Tryz.ntmps52
    go_wp2_with (go_at_call 95; refine hR1.mono ?_; rintro e w1 ⟨rfl, e1'⟩; subst w1)
    go_ret
    exact ⟨rfl, rfl⟩
theorem ref2_zero {R : RB} {f t : ByteArray} (h : R.ref2 f t = 0) : refN R.down R.dir f false = 0 ∧ refN R.down R.dir t false = 0 ∧ refN R.down R.dir f true = 0 := by
  unfold RB.ref2 at h
  split at h
  · rename_i q; exact absurd h q
  · split at h
    · rename_i q; exact absurd h q
    · rename_i q1 q2; exact ⟨by simpa using q1, by simpa using q2, h⟩
set_option maxRecDepth 100000 in
set_option maxHeartbeats 1000000 in
theorem rename_rm {w : World} {b : Nat} {R : RB} {V : RV} (h : RM w b R V) (ho : R.ok) (hc : R.c7 ≤ 1000000000) (hl : (R.dir.length : Int) ≤ 1000000000) (hpl : (R.pe.length : Int) ≤ 1000000000) (hfi : ∀ n, findN R.dir n ≤ 9223372036854775807) (f t : ByteArray) (hf : f.size ≤ maxLen) (ht : t.size ≤ maxLen) :
    Calls Tryz.prog 52 #[.pointer (some ⟨b, 0, none⟩), .string f, .string t] w fun e w' => e = .returned (.int .i64 (R.rename f t).2) ∧ Rgo w w' b V (R.rename f t).1 := by
  obtain ⟨X, hX⟩ : ∃ X, Hid (R.rename f t = X) := ⟨_, rfl⟩
  rw [hX.out]
  by_cases h0 : R.ref2 f t = 0
  · obtain ⟨z1, z2, z3⟩ := ref2_zero h0
    have hR1 := refused_rm h f hf false
    have hR2 := refused_rm h t ht false
    have hR3 := refused_rm h f hf true
    rw [z1] at hR1
    rw [z2] at hR2
    rw [z3] at hR3
    have hB := begins_rm h ho hc 4 (by omega)
    obtain ⟨F, hF⟩ : ∃ F : Ft, Hid (R.flt = F) := ⟨R.flt, rfl⟩
    rw [hF.out] at hB
    obtain ⟨fa, fk, fp⟩ := F
    have hvd : ∃ da dn dc, V.vD = .slice da dn dc := by rcases h.dd.form with ⟨e, _⟩ | ⟨g, cap, e, _⟩ <;> exact ⟨_, _, _, e⟩
    obtain ⟨da, dn, dc, hvd⟩ := hvd
    have hnf : -1 ≤ findN R.dir f.data.toList := by unfold findN; split <;> omega
    have hFi : Hid (∀ q, RM q b (R.beg 4) V → Calls Tryz.prog 96 #[V.vD, .string f] q fun e w' => e = .returned (.int .i64 (findN R.dir f.data.toList)) ∧ w' = q) := fun q hq => by
      have := find_ref q V.vD (R.beg 4).dir f hq.dd.tr
      rw [(beg_same R 4).2.1] at this
      exact this
    have hCh : Hid (∀ q, RM q b (R.beg 4) V → Calls Tryz.prog 99 #[.pointer (some ⟨b, 0, none⟩), .agg #[.string t, .int .i64 (findN R.dir f.data.toList), .string f]] q fun e w' => e = .returned (.tuple #[]) ∧ Rgo q w' b V ((R.beg 4).chg ⟨t, findN R.dir f.data.toList, f⟩)) := fun q hq => by
      obtain ⟨_, e2, _, e4, _⟩ := beg_same R 4
      exact change_rm hq ⟨t, findN R.dir f.data.toList, f⟩ (by rw [e2]; exact hl) (by rw [e4]; exact hpl) (by show (-9223372036854775808 : Int) ≤ findN R.dir f.data.toList; omega) (hfi _)
    rw [hvd] at hFi
    clear h ho hc
    unfold fv at hB
    dsimp only at hB
    by_cases hk : fk = 0 ∨ fk = 2
    · have e0 : R.rename f t = (if f = t then (R.beg 4, 0) else ((R.beg 4).chg ⟨t, findN R.dir f.data.toList, f⟩, 0)) := by unfold RB.rename; rw [if_neg (by rw [h0]; simp), hF.out, if_neg (by unfold strN; rw [if_pos hk]; simp)]
      by_cases hft : f = t
      · have e1 : Hid (X = (R.beg 4, 0)) := by show _ = _; rw [← hX.out, e0, if_pos hft]
        subst hft
        have qs := same_str f
        clear e0
        rcases hk with rfl | rfl
        · go_enter Tryz.func52, Tryz.ntmps52
          go_upto_region 3 with (go_at_call 95; refine hR1.mono ?_; rintro e w1 ⟨rfl, e1'⟩; subst w1)
          go_upto_region 5 with (go_at_call 95; refine hR2.mono ?_; rintro e w1 ⟨rfl, e1'⟩; subst w1)
          go_upto_region 8 with (go_at_call 95; refine hR3.mono ?_; rintro e w1 ⟨rfl, e1'⟩; subst w1)
          go_upto_region 9 with (go_at_call 97; refine hB.mono ?_; rintro e w1 ⟨rfl, M1, b1⟩; replace M1 := hide M1; replace b1 := hide b1)
          have z1 := heap_alloc_new w1 (.cells #[.int .i64 fa, .int .i64 0, .int .i64 fp] 118)
          have BX := hide (box_below w1 (.cells #[.int .i64 fa, .int .i64 0, .int .i64 fp] 118))
          obtain ⟨Y, hY⟩ : ∃ Y, Hid (w1.alloc (.cells #[.int .i64 fa, .int .i64 0, .int .i64 fp] 118) = Y) := ⟨_, rfl⟩
          rw [hY.out] at z1 BX ⊢
          have y1 : Y.cell? ⟨w1.heap.size, 1, none⟩ = some (.int .i64 0) := by simp [World.cell?, z1]
          have MY := hide (M1.out.below BX.out)
          have y2 : Y.cell? ⟨b, 2, none⟩ = some V.vD := (MY.out.cell 2).trans rfl
          have bY : Hid (But (fun k => k = b) w Y) := b1.out.trans (But.of_below BX.out _)
          clear z1
          go_wp2_with fail
          go_ret
          rw [e1.out]
          exact ⟨rfl, Rgo.same MY.out bY.out⟩
        · go_enter Tryz.func52, Tryz.ntmps52
          go_upto_region 3 with (go_at_call 95; refine hR1.mono ?_; rintro e w1 ⟨rfl, e1'⟩; subst w1)
          go_upto_region 5 with (go_at_call 95; refine hR2.mono ?_; rintro e w1 ⟨rfl, e1'⟩; subst w1)
          go_upto_region 8 with (go_at_call 95; refine hR3.mono ?_; rintro e w1 ⟨rfl, e1'⟩; subst w1)
          go_upto_region 9 with (go_at_call 97; refine hB.mono ?_; rintro e w1 ⟨rfl, M1, b1⟩; replace M1 := hide M1; replace b1 := hide b1)
          have z1 := heap_alloc_new w1 (.cells #[.int .i64 fa, .int .i64 2, .int .i64 fp] 118)
          have BX := hide (box_below w1 (.cells #[.int .i64 fa, .int .i64 2, .int .i64 fp] 118))
          obtain ⟨Y, hY⟩ : ∃ Y, Hid (w1.alloc (.cells #[.int .i64 fa, .int .i64 2, .int .i64 fp] 118) = Y) := ⟨_, rfl⟩
          rw [hY.out] at z1 BX ⊢
          have y1 : Y.cell? ⟨w1.heap.size, 1, none⟩ = some (.int .i64 2) := by simp [World.cell?, z1]
          have MY := hide (M1.out.below BX.out)
          have y2 : Y.cell? ⟨b, 2, none⟩ = some V.vD := (MY.out.cell 2).trans rfl
          have bY : Hid (But (fun k => k = b) w Y) := b1.out.trans (But.of_below BX.out _)
          clear z1
          go_wp2_with fail
          go_ret
          rw [e1.out]
          exact ⟨rfl, Rgo.same MY.out bY.out⟩
      · have e1 : Hid (X = ((R.beg 4).chg ⟨t, findN R.dir f.data.toList, f⟩, 0)) := by show _ = _; rw [← hX.out, e0, if_neg hft]
        have qs := other_str hft
        clear e0
        generalize findN R.dir f.data.toList = fn at *
        rcases hk with rfl | rfl
        · go_enter Tryz.func52, Tryz.ntmps52
          go_upto_region 3 with (go_at_call 95; refine hR1.mono ?_; rintro e w1 ⟨rfl, e1'⟩; subst w1)
          go_upto_region 5 with (go_at_call 95; refine hR2.mono ?_; rintro e w1 ⟨rfl, e1'⟩; subst w1)
          go_upto_region 8 with (go_at_call 95; refine hR3.mono ?_; rintro e w1 ⟨rfl, e1'⟩; subst w1)
          go_upto_region 9 with (go_at_call 97; refine hB.mono ?_; rintro e w1 ⟨rfl, M1, b1⟩; replace M1 := hide M1; replace b1 := hide b1)
          have z1 := heap_alloc_new w1 (.cells #[.int .i64 fa, .int .i64 0, .int .i64 fp] 118)
          have BX := hide (box_below w1 (.cells #[.int .i64 fa, .int .i64 0, .int .i64 fp] 118))
          obtain ⟨Y, hY⟩ : ∃ Y, Hid (w1.alloc (.cells #[.int .i64 fa, .int .i64 0, .int .i64 fp] 118) = Y) := ⟨_, rfl⟩
          rw [hY.out] at z1 BX ⊢
          have y1 : Y.cell? ⟨w1.heap.size, 1, none⟩ = some (.int .i64 0) := by simp [World.cell?, z1]
          have MY := hide (M1.out.below BX.out)
          have y2 : Y.cell? ⟨b, 2, none⟩ = some V.vD := (MY.out.cell 2).trans rfl
          have bY : Hid (But (fun k => k = b) w Y) := b1.out.trans (But.of_below BX.out _)
          clear z1
          rw [hvd] at y2
          go_wp2_with (first
            | (go_at_call 96; refine (hFi.out _ MY.out).mono ?_; rintro e w2 ⟨rfl, e2⟩; subst w2)
            | (go_at_call 99; refine (hCh.out _ MY.out).mono ?_; rintro e w2 ⟨rfl, G2⟩; replace G2 := hide G2))
          go_ret
          rw [e1.out]
          exact ⟨rfl, G2.out.behind bY.out⟩
        · go_enter Tryz.func52, Tryz.ntmps52
          go_upto_region 3 with (go_at_call 95; refine hR1.mono ?_; rintro e w1 ⟨rfl, e1'⟩; subst w1)
          go_upto_region 5 with (go_at_call 95; refine hR2.mono ?_; rintro e w1 ⟨rfl, e1'⟩; subst w1)
          go_upto_region 8 with (go_at_call 95; refine hR3.mono ?_; rintro e w1 ⟨rfl, e1'⟩; subst w1)
          go_upto_region 9 with (go_at_call 97; refine hB.mono ?_; rintro e w1 ⟨rfl, M1, b1⟩; replace M1 := hide M1; replace b1 := hide b1)
          have z1 := heap_alloc_new w1 (.cells #[.int .i64 fa, .int .i64 2, .int .i64 fp] 118)
          have BX := hide (box_below w1 (.cells #[.int .i64 fa, .int .i64 2, .int .i64 fp] 118))
          obtain ⟨Y, hY⟩ : ∃ Y, Hid (w1.alloc (.cells #[.int .i64 fa, .int .i64 2, .int .i64 fp] 118) = Y) := ⟨_, rfl⟩
          rw [hY.out] at z1 BX ⊢
          have y1 : Y.cell? ⟨w1.heap.size, 1, none⟩ = some (.int .i64 2) := by simp [World.cell?, z1]
          have MY := hide (M1.out.below BX.out)
          have y2 : Y.cell? ⟨b, 2, none⟩ = some V.vD := (MY.out.cell 2).trans rfl
          have bY : Hid (But (fun k => k = b) w Y) := b1.out.trans (But.of_below BX.out _)
          clear z1
          rw [hvd] at y2
          go_wp2_with (first
            | (go_at_call 96; refine (hFi.out _ MY.out).mono ?_; rintro e w2 ⟨rfl, e2⟩; subst w2)
            | (go_at_call 99; refine (hCh.out _ MY.out).mono ?_; rintro e w2 ⟨rfl, G2⟩; replace G2 := hide G2))
          go_ret
          rw [e1.out]
          exact ⟨rfl, G2.out.behind bY.out⟩
    · have hk0 : ¬ fk = 0 := fun c => hk (.inl c)
      have hk2 : ¬ fk = 2 := fun c => hk (.inr c)
      have e1 : Hid (X = (R.beg 4, toldN fk)) := by
        show _ = _
        have hst : strN fk = toldN fk := by unfold strN; rw [if_neg hk]
        rw [← hX.out]; unfold RB.rename; rw [if_neg (by rw [h0]; simp), hF.out, if_pos (by show strN fk ≠ 0; rw [hst]; exact toldN_ne fk)]
        show (R.beg 4, strN fk) = _
        rw [hst]
      have hTo2 : Hid (∀ q, Calls Tryz.prog 98 #[.int .i64 fk] q fun e w' => e = .returned (.int .i64 (toldN fk)) ∧ w' = q) := fun q => told_ref q fk
      obtain ⟨tk, htk⟩ : ∃ tk, Hid (toldN fk = tk) := ⟨_, rfl⟩
      rw [htk.out] at hTo2
      have q0 : (fk != 0) = true := by simpa using hk0
      have q2 : (fk != 2) = true := by simpa using hk2
      clear hk
      · go_enter Tryz.func52, Tryz.ntmps52
        go_upto_region 3 with (go_at_call 95; refine hR1.mono ?_; rintro e w1 ⟨rfl, e1'⟩; subst w1)
        go_upto_region 5 with (go_at_call 95; refine hR2.mono ?_; rintro e w1 ⟨rfl, e1'⟩; subst w1)
        go_upto_region 8 with (go_at_call 95; refine hR3.mono ?_; rintro e w1 ⟨rfl, e1'⟩; subst w1)
        go_upto_region 9 with (go_at_call 97; refine hB.mono ?_; rintro e w1 ⟨rfl, M1, b1⟩; replace M1 := hide M1; replace b1 := hide b1)
        have z1 := heap_alloc_new w1 (.cells #[.int .i64 fa, .int .i64 fk, .int .i64 fp] 118)
        have BX := hide (box_below w1 (.cells #[.int .i64 fa, .int .i64 fk, .int .i64 fp] 118))
        obtain ⟨Y, hY⟩ : ∃ Y, Hid (w1.alloc (.cells #[.int .i64 fa, .int .i64 fk, .int .i64 fp] 118) = Y) := ⟨_, rfl⟩
        rw [hY.out] at z1 BX ⊢
        have y1 : Y.cell? ⟨w1.heap.size, 1, none⟩ = some (.int .i64 fk) := by simp [World.cell?, z1]
        have MY := hide (M1.out.below BX.out)
        have y2 : Y.cell? ⟨b, 2, none⟩ = some V.vD := (MY.out.cell 2).trans rfl
        have bY : Hid (But (fun k => k = b) w Y) := b1.out.trans (But.of_below BX.out _)
        clear z1
        go_wp2_with (go_at_call 98; refine (hTo2.out _).mono ?_; rintro e w2 ⟨rfl, e2⟩; subst w2)
        go_ret
        rw [e1.out]
        exact ⟨by rw [← htk.out]; rfl, Rgo.same MY.out bY.out⟩
  · have e1 : X = (R, R.ref2 f t) := by rw [← hX.out]; unfold RB.rename; rw [if_pos h0]
    rw [e1]
    refine (rename_no h f t hf ht h0).mono ?_
    rintro e w' ⟨rfl, rfl⟩
    exact ⟨rfl, Rgo.refl h⟩
def RB.kept (R : RB) : RB := { R with old := R.dir, pe := [] }
def RB.syncDir (R : RB) : RB × Int :=
  if R.down then (R, 22)
  else if strN R.flt.2.1 ≠ 0 then (R.beg 6, strN R.flt.2.1)
  else ((R.beg 6).kept, 0)
theorem kept_cs (R : RB) (V : RV) (v : Value) : ((R.cs V).setIfInBounds 3 v).setIfInBounds 4 (.slice none 0 0) = R.kept.cs { V with vO := v, vP := .slice none 0 0 } := by simp [RB.cs, RB.kept]
theorem blk_op (b : Nat) (V : RV) (vO vP : Value) (x : Nat) (h2 : x ≠ 3) (h4 : x ≠ 4) : blk b { V with vO := vO, vP := vP } x = blk b V x := by
  match x with
  | 0 => rfl
  | 1 => rfl
  | 2 => rfl
  | 3 => exact absurd rfl h2
  | 4 => exact absurd rfl h4
  | 5 => rfl
  | n + 6 => rfl
theorem RM.keep {w0 w w' : World} {b : Nat} {R : RB} {V : RV} {v : Value} (h0 : RM w0 b R V) (hw : Below w0.heap.size w0 w) (hv : En w0.heap.size w v R.dir) (hb : But (fun k => k = b) w w') (hbox : w'.heap[b]? = some (.cells (((R.cs V).setIfInBounds 3 v).setIfInBounds 4 (.slice none 0 0)) TRD (0, 0))) : Rgo w0 w' b V R.kept := by
  have h := h0.below hw
  have nx : ∀ x, x ≠ 0 → ∀ k, blk b V x = some k → ¬ k = b := fun x hx k hk c => h.ds 0 x (Ne.symm hx) b rfl (by rw [hk, c])
  have hbl : b < w0.heap.size := heap_lt h0.box
  have hvb : ∀ k, v.ownBlock = some k → ¬ k = b := fun k hk c => by have := (hv.lt k hk).1; omega
  have hsz := hb.size
  refine ⟨⟨{ V with vO := v, vP := .slice none 0 0 }, ?_, ?_⟩, ?_⟩
  · refine ⟨by rw [← kept_cs]; exact hbox, h.dd.but hb (nx 2 (by omega)), owns_lower2 (hv.but hb hvb) (Nat.zero_le _), World.ownsRow_nil _ _ _ _, ownsRow_but h.aa hb (nx 5 (by omega)), ownsRow_but h.ff hb (nx 1 (by omega)), h.ln, fun i hi => ?_, ?_, ?_⟩
    · have hi' : i < R.F.length := hi
      have hl' : i < V.T.length := by rw [h.ln]; exact hi'
      obtain ⟨a, q⟩ := h.nn i hi'
      exact ⟨Oc.but a hb (fun k hk => nx (2 * i + 6) (by omega) k (by rw [blk_N b V hl']; exact hk)), Oc.but q hb (fun k hk => nx (2 * i + 7) (by omega) k (by rw [blk_L b V hl']; exact hk))⟩
    · refine h0.ds.step (H := w0.heap.size) h0.lt (fun x => ?_) (fun x y hxy k hk h1 h2 => ?_)
      · by_cases h2 : x = 3
        · subst h2; exact .inr fun k hk => (hv.lt k hk).1
        · by_cases h4 : x = 4
          · subst h4; exact .inr fun k hk => by simp [blk, Value.ownBlock] at hk
          · exact .inl (blk_op b V v _ x h2 h4)
      · have old : ∀ z, z ≠ 3 → blk b { V with vO := v, vP := .slice none 0 0 } z ≠ some k := fun z z2 hz => by
          by_cases z4 : z = 4
          · subst z4; simp [blk, Value.ownBlock] at hz
          · rw [blk_op b V v _ z z2 z4] at hz
            have := h0.lt z k hz
            omega
        by_cases x2 : x = 3
        · exact old y (fun e => hxy (by rw [x2, e])) h2
        · exact old x x2 h1
    · intro x k hk
      by_cases h2 : x = 3
      · subst h2; have := (hv.lt k hk).2; omega
      · by_cases h4 : x = 4
        · subst h4; simp [blk, Value.ownBlock] at hk
        · rw [blk_op b V v _ x h2 h4] at hk
          have := h.lt x k hk
          omega
  · intro x k hk
    by_cases h2 : x = 3
    · subst h2; exact .inr (hv.lt k hk).1
    · by_cases h4 : x = 4
      · subst h4; simp [blk, Value.ownBlock] at hk
      · rw [blk_op b V v _ x h2 h4] at hk
        exact .inl hk
  · exact (But.of_below hw _).trans (hb.mono fun k _ e => ⟨0, by rw [e]; rfl⟩)
set_option maxRecDepth 100000 in
set_option maxHeartbeats 1000000 in
theorem syncDir_rm {w : World} {b : Nat} {R : RB} {V : RV} (h : RM w b R V) (ho : R.ok) (hc : R.c7 ≤ 1000000000) (hl : (R.dir.length : Int) ≤ 1000000000) :
    Calls Tryz.prog 55 #[.pointer (some ⟨b, 0, none⟩)] w fun e w' => e = .returned (.int .i64 R.syncDir.2) ∧ Rgo w w' b V R.syncDir.1 := by
  obtain ⟨X, hX⟩ : ∃ X, Hid (R.syncDir = X) := ⟨_, rfl⟩
  rw [hX.out]
  have d16 : w.cell? ⟨b, 16, none⟩ = some (.bool R.down) := (h.cell 16).trans rfl
  have hB := begins_rm h ho hc 6 (by omega)
  have M0 := hide (Rgo.refl h)
  cases hd : R.down with
  | true =>
    rw [hd] at d16
    have e1 : Hid (X = (R, 22)) := by show _ = _; rw [← hX.out]; unfold RB.syncDir; rw [hd]; rfl
    clear h hB
    go_enter Tryz.func55, Tryz.ntmps55
    go_wp2_with fail
    go_ret
    rw [e1.out]
    exact ⟨rfl, M0.out⟩
  | false =>
    rw [hd] at d16
    obtain ⟨F, hF⟩ : ∃ F : Ft, Hid (R.flt = F) := ⟨R.flt, rfl⟩
    rw [hF.out] at hB
    obtain ⟨fa, fk, fp⟩ := F
    have hvd : ∃ da dn dc, V.vD = .slice da dn dc := by rcases h.dd.form with ⟨e, _⟩ | ⟨g, cap, e, _⟩ <;> exact ⟨_, _, _, e⟩
    obtain ⟨da, dn, dc, hvd⟩ := hvd
    clear h ho hc
    unfold fv at hB
    dsimp only at hB
    by_cases hk : fk = 0 ∨ fk = 2
    · have e1 : Hid (X = ((R.beg 6).kept, 0)) := by show _ = _; rw [← hX.out]; unfold RB.syncDir; rw [hd, if_neg (by simp), hF.out, if_neg (by unfold strN; rw [if_pos hk]; simp)]
      rcases hk with rfl | rfl
      · go_enter Tryz.func55, Tryz.ntmps55
        go_upto_region 4 with (go_at_call 97; refine hB.mono ?_; rintro e w1 ⟨rfl, M1, b1⟩; replace M1 := hide M1; replace b1 := hide b1)
        have z1 := heap_alloc_new w1 (.cells #[.int .i64 fa, .int .i64 0, .int .i64 fp] 118)
        have BX := hide (box_below w1 (.cells #[.int .i64 fa, .int .i64 0, .int .i64 fp] 118))
        obtain ⟨Y, hY⟩ : ∃ Y, Hid (w1.alloc (.cells #[.int .i64 fa, .int .i64 0, .int .i64 fp] 118) = Y) := ⟨_, rfl⟩
        rw [hY.out] at z1 BX ⊢
        have y1 : Y.cell? ⟨w1.heap.size, 1, none⟩ = some (.int .i64 0) := by simp [World.cell?, z1]
        have MY := hide (M1.out.below BX.out)
        have y2 : Y.cell? ⟨b, 2, none⟩ = some V.vD := (MY.out.cell 2).trans rfl
        have bY : Hid (But (fun k => k = b) w Y) := b1.out.trans (But.of_below BX.out _)
        clear z1
        have hEr := MY.out.dd.er
        rw [hvd] at y2 hEr
        obtain ⟨v3, w3, r3, Q3, G3⟩ := run_appE (En.nil Y.heap.size Y) hEr (by rw [(beg_same R 6).2.1]; simp; omega) (Nat.le_refl _) 100
        rw [List.nil_append] at Q3
        have X3 : Hid (Below Y.heap.size Y w3) := (Below.refl _ _).grown G3 (Nat.le_refl _) (fun k hk => by simp [Value.ownBlock] at hk)
        have hbx3 : Hid (w3.heap[b]? = some (.cells ((R.beg 6).cs V) TRD (0, 0))) := (X3.out.block b (heap_lt MY.out.box)).trans MY.out.box
        have hv3 : ∃ sa sn sc, v3 = .slice sa sn sc := by rcases Q3.form with ⟨e, _⟩ | ⟨g, cap, e, _⟩ <;> exact ⟨_, _, _, e⟩
        obtain ⟨sa, sn, sc, rfl⟩ := hv3
        replace Q3 := hide Q3
        replace r3 := hide r3
        have t1 : w3.cell? ⟨b, 3, none⟩ = some V.vO := by simp [World.cell?, hbx3.out, RB.cs]
        have t2 : w3.frozen? ⟨b, 3, none⟩ = false := by simp [World.frozen?, hbx3.out]
        have k4 := hide (heap_setCell_same w3 b 3 _ _ (.slice sa sn sc) hbx3.out)
        have t3 : (w3.setCell ⟨b, 3, none⟩ (.slice sa sn sc)).cell? ⟨b, 4, none⟩ = some V.vP := by simp [World.cell?, k4.out, RB.cs]
        have t4 : (w3.setCell ⟨b, 3, none⟩ (.slice sa sn sc)).frozen? ⟨b, 4, none⟩ = false := by simp [World.frozen?, k4.out]
        have k5 := heap_setCell_same _ b 4 _ _ (.slice none 0 0) k4.out
        have g3 := But.of_grownBy (X := fun k => k = b) (grown_setCell w3 b 3 (.slice sa sn sc)) fun k e => by cases e; rfl
        have g4 := But.of_grownBy (X := fun k => k = b) (grown_setCell (w3.setCell ⟨b, 3, none⟩ (.slice sa sn sc)) b 4 (.slice none 0 0)) fun k e => by cases e; rfl
        have fin := hide ((RM.keep MY.out X3.out Q3.out (g3.trans g4) k5).behind bY.out)
        clear hEr G3 k5 g3 g4
        go_wp2_with (at_builtin; refine Lib.wpList_append_run _ rfl (.const (.slice none 0 0)) (.tmp 29) 100 100 rfl _ _ rfl rfl _ _ r3.out ?_)
        go_ret
        rw [e1.out]
        exact ⟨rfl, fin.out⟩
      · go_enter Tryz.func55, Tryz.ntmps55
        go_upto_region 4 with (go_at_call 97; refine hB.mono ?_; rintro e w1 ⟨rfl, M1, b1⟩; replace M1 := hide M1; replace b1 := hide b1)
        have z1 := heap_alloc_new w1 (.cells #[.int .i64 fa, .int .i64 2, .int .i64 fp] 118)
        have BX := hide (box_below w1 (.cells #[.int .i64 fa, .int .i64 2, .int .i64 fp] 118))
        obtain ⟨Y, hY⟩ : ∃ Y, Hid (w1.alloc (.cells #[.int .i64 fa, .int .i64 2, .int .i64 fp] 118) = Y) := ⟨_, rfl⟩
        rw [hY.out] at z1 BX ⊢
        have y1 : Y.cell? ⟨w1.heap.size, 1, none⟩ = some (.int .i64 2) := by simp [World.cell?, z1]
        have MY := hide (M1.out.below BX.out)
        have y2 : Y.cell? ⟨b, 2, none⟩ = some V.vD := (MY.out.cell 2).trans rfl
        have bY : Hid (But (fun k => k = b) w Y) := b1.out.trans (But.of_below BX.out _)
        clear z1
        have hEr := MY.out.dd.er
        rw [hvd] at y2 hEr
        obtain ⟨v3, w3, r3, Q3, G3⟩ := run_appE (En.nil Y.heap.size Y) hEr (by rw [(beg_same R 6).2.1]; simp; omega) (Nat.le_refl _) 100
        rw [List.nil_append] at Q3
        have X3 : Hid (Below Y.heap.size Y w3) := (Below.refl _ _).grown G3 (Nat.le_refl _) (fun k hk => by simp [Value.ownBlock] at hk)
        have hbx3 : Hid (w3.heap[b]? = some (.cells ((R.beg 6).cs V) TRD (0, 0))) := (X3.out.block b (heap_lt MY.out.box)).trans MY.out.box
        have hv3 : ∃ sa sn sc, v3 = .slice sa sn sc := by rcases Q3.form with ⟨e, _⟩ | ⟨g, cap, e, _⟩ <;> exact ⟨_, _, _, e⟩
        obtain ⟨sa, sn, sc, rfl⟩ := hv3
        replace Q3 := hide Q3
        replace r3 := hide r3
        have t1 : w3.cell? ⟨b, 3, none⟩ = some V.vO := by simp [World.cell?, hbx3.out, RB.cs]
        have t2 : w3.frozen? ⟨b, 3, none⟩ = false := by simp [World.frozen?, hbx3.out]
        have k4 := hide (heap_setCell_same w3 b 3 _ _ (.slice sa sn sc) hbx3.out)
        have t3 : (w3.setCell ⟨b, 3, none⟩ (.slice sa sn sc)).cell? ⟨b, 4, none⟩ = some V.vP := by simp [World.cell?, k4.out, RB.cs]
        have t4 : (w3.setCell ⟨b, 3, none⟩ (.slice sa sn sc)).frozen? ⟨b, 4, none⟩ = false := by simp [World.frozen?, k4.out]
        have k5 := heap_setCell_same _ b 4 _ _ (.slice none 0 0) k4.out
        have g3 := But.of_grownBy (X := fun k => k = b) (grown_setCell w3 b 3 (.slice sa sn sc)) fun k e => by cases e; rfl
        have g4 := But.of_grownBy (X := fun k => k = b) (grown_setCell (w3.setCell ⟨b, 3, none⟩ (.slice sa sn sc)) b 4 (.slice none 0 0)) fun k e => by cases e; rfl
        have fin := hide ((RM.keep MY.out X3.out Q3.out (g3.trans g4) k5).behind bY.out)
        clear hEr G3 k5 g3 g4
        go_wp2_with (at_builtin; refine Lib.wpList_append_run _ rfl (.const (.slice none 0 0)) (.tmp 29) 100 100 rfl _ _ rfl rfl _ _ r3.out ?_)
        go_ret
        rw [e1.out]
        exact ⟨rfl, fin.out⟩
    · have hk0 : ¬ fk = 0 := fun c => hk (.inl c)
      have hk2 : ¬ fk = 2 := fun c => hk (.inr c)
      have e1 : Hid (X = (R.beg 6, toldN fk)) := by
        show _ = _
        have hst : strN fk = toldN fk := by unfold strN; rw [if_neg hk]
        rw [← hX.out]; unfold RB.syncDir; rw [hd, if_neg (by simp), hF.out, if_pos (by show strN fk ≠ 0; rw [hst]; exact toldN_ne fk)]
        show (R.beg 6, strN fk) = _
        rw [hst]
      have hTo2 : Hid (∀ q, Calls Tryz.prog 98 #[.int .i64 fk] q fun e w' => e = .returned (.int .i64 (toldN fk)) ∧ w' = q) := fun q => told_ref q fk
      obtain ⟨tk, htk⟩ : ∃ tk, Hid (toldN fk = tk) := ⟨_, rfl⟩
      rw [htk.out] at hTo2
      have q0 : (fk != 0) = true := by simpa using hk0
      have q2 : (fk != 2) = true := by simpa using hk2
      clear hk
      go_enter Tryz.func55, Tryz.ntmps55
      go_upto_region 4 with (go_at_call 97; refine hB.mono ?_; rintro e w1 ⟨rfl, M1, b1⟩; replace M1 := hide M1; replace b1 := hide b1)
      have z1 := heap_alloc_new w1 (.cells #[.int .i64 fa, .int .i64 fk, .int .i64 fp] 118)
      have BX := hide (box_below w1 (.cells #[.int .i64 fa, .int .i64 fk, .int .i64 fp] 118))
      obtain ⟨Y, hY⟩ : ∃ Y, Hid (w1.alloc (.cells #[.int .i64 fa, .int .i64 fk, .int .i64 fp] 118) = Y) := ⟨_, rfl⟩
      rw [hY.out] at z1 BX ⊢
      have y1 : Y.cell? ⟨w1.heap.size, 1, none⟩ = some (.int .i64 fk) := by simp [World.cell?, z1]
      have MY := hide (M1.out.below BX.out)
      have bY : Hid (But (fun k => k = b) w Y) := b1.out.trans (But.of_below BX.out _)
      clear z1
      go_wp2_with (go_at_call 98; refine (hTo2.out _).mono ?_; rintro e w2 ⟨rfl, e2⟩; subst w2)
      go_ret
      rw [e1.out]
      exact ⟨by rw [← htk.out]; rfl, Rgo.same MY.out bY.out⟩
abbrev nlS : Value := .slice none 0 0
def RB.file (R : RB) : RB := { R with F := R.F ++ [([], [], 0)] }
def RV.file (V : RV) (v : Value) : RV := { V with vF := v, T := V.T ++ [(nlS, nlS)] }
theorem file_cs (R : RB) (V : RV) (v : Value) : (R.cs V).setIfInBounds 1 v = R.file.cs (V.file v) := by simp [RB.cs, RB.file, RV.file]
theorem blk_file (b : Nat) (V : RV) (v : Value) (x : Nat) (h1 : x ≠ 1) : blk b (V.file v) x = blk b V x := by
  match x with
  | 0 => rfl
  | 1 => exact absurd rfl h1
  | 2 => rfl
  | 3 => rfl
  | 4 => rfl
  | 5 => rfl
  | n + 6 =>
    have key : ∀ i, (V.T ++ [(nlS, nlS)])[i]? = V.T[i]? ∨ ((V.T ++ [(nlS, nlS)])[i]? = some (nlS, nlS) ∧ V.T[i]? = none) := fun i => by
      by_cases h : i < V.T.length
      · exact .inl (List.getElem?_append_left h)
      · by_cases e : i = V.T.length
        · right
          rw [e]
          exact ⟨by rw [List.getElem?_append_right (Nat.le_refl _), Nat.sub_self]; rfl, List.getElem?_eq_none (Nat.le_refl _)⟩
        · left; rw [List.getElem?_eq_none (by rw [List.length_append]; show V.T.length + 1 ≤ i; omega), List.getElem?_eq_none (by omega)]
    show (if n % 2 = 0 then ((V.T ++ [(nlS, nlS)])[n / 2]?).bind (fun t => t.1.ownBlock) else ((V.T ++ [(nlS, nlS)])[n / 2]?).bind (fun t => t.2.ownBlock)) = (if n % 2 = 0 then (V.T[n / 2]?).bind (fun t => t.1.ownBlock) else (V.T[n / 2]?).bind (fun t => t.2.ownBlock))
    rcases key (n / 2) with e | ⟨e, e'⟩
    · rw [e]
    · rw [e, e']; split <;> rfl
theorem infoFi : (Tryz.prog.info? 138).map (fun i => (i.zero, i.size, i.bytes)) = some (some (.agg #[.slice none 0 0, .slice none 0 0, .int .i64 0]), 3, 56) := by kernel_rfl
theorem fcells_file (F : List (List UInt8 × List UInt8 × Int)) (T : List (Value × Value)) (h : T.length = F.length) : fcells (F ++ [([], [], 0)]) (T ++ [(nlS, nlS)]) = fcells F T ++ [nlS, nlS, .int .i64 0] := by
  unfold fcells
  rw [List.zip_append h.symm, List.map_append, List.flatten_append]
  rfl
theorem run_appF {w : World} {v : Value} {n : Nat} {xs : List Value} (g : Nat) (h : w.ownsRow 0 138 3 v n xs) (h0 : w.cell? ⟨g, 0, none⟩ = some nlS) (h1 : w.cell? ⟨g, 1, none⟩ = some nlS) (h2 : w.cell? ⟨g, 2, none⟩ = some (.int .i64 0)) (hl : (n : Int) ≤ 2000000000) (ty : TypeId) :
    ∃ v' w', (Builtin.append_ #[99, 99] ty #[v, .slice (some ⟨g, 0, none⟩) 1 1]).run Tryz.prog w = .ok v' w' ∧ w'.ownsRow 0 138 3 v' (n + 1) (xs ++ [nlS, nlS, .int .i64 0]) ∧ w.grownBy w' v.ownBlock ∧ (v'.ownBlock = v.ownBlock ∨ v'.ownBlock = some w.heap.size) := by
  obtain ⟨i0, hi, hz0, hz1, hz2⟩ := info_parts infoFi
  have hcells : ∀ j u, ([nlS, nlS, .int .i64 0] : List Value)[j]? = some u → w.cell? ((⟨g, 0, none⟩ : Addr).add j) = some u := by
    intro j u hu
    rw [addr_add]
    match j with
    | 0 => simp at hu; subst hu; exact h0
    | 1 => simp at hu; subst hu; exact h1
    | 2 => simp at hu; subst hu; exact h2
    | j + 3 => simp at hu
  obtain ⟨v', w', hr, ho, hg, _, hat⟩ := run_append_own_at (P := Tryz.prog) w 0 99 ty 138 i0 (.agg #[.slice none 0 0, .slice none 0 0, .int .i64 0]) 3 56 Tryz.underlying99 hi hz0 hz1 hz2 rfl (by decide) v n xs h ⟨g, 0, none⟩ 1 1 [nlS, nlS, .int .i64 0] rfl hcells (by
      intro u hu
      simp at hu
      rcases hu with rfl | rfl <;> rfl) (by unfold maxLen; omega) (by omega) (Nat.zero_le _)
  exact ⟨v', w', hr, ho, hg, hat⟩
theorem RM.addfile {w0 w w' : World} {b : Nat} {R : RB} {V : RV} {v : Value} (h0 : RM w0 b R V) (hw : But (fun k => V.vF.ownBlock = some k) w0 w) (hv : w.ownsRow 0 138 3 v (R.F.length + 1) (fcells R.F V.T ++ [nlS, nlS, .int .i64 0])) (hn : v.ownBlock = V.vF.ownBlock ∨ ∀ k, v.ownBlock = some k → w0.heap.size ≤ k) (hb : But (fun k => k = b) w w') (hbox : w'.heap[b]? = some (.cells ((R.cs V).setIfInBounds 1 v) TRD (0, 0))) : RM w' b R.file (V.file v) ∧ (∀ x k, blk b (V.file v) x = some k → blk b V x = some k ∨ w0.heap.size ≤ k) ∧ But (fun k => ∃ x, blk b V x = some k) w0 w' := by
  have hall : But (fun k => k = b ∨ V.vF.ownBlock = some k) w0 w' := (hw.mono fun k _ e => .inr e).trans (hb.mono fun k _ e => .inl e)
  have nx : ∀ x, x ≠ 0 → x ≠ 1 → ∀ k, blk b V x = some k → ¬ (k = b ∨ V.vF.ownBlock = some k) := fun x hx h1 k hk c => by
    rcases c with c | c
    · exact h0.ds 0 x (Ne.symm hx) b rfl (by rw [hk, c])
    · exact h0.ds x 1 h1 k hk c
  have hbl : b < w0.heap.size := heap_lt h0.box
  have hvb : ∀ k, v.ownBlock = some k → ¬ k = b := fun k hk c => by
    rcases hn with e | e
    · exact h0.ds 0 1 (by omega) b rfl (by show V.vF.ownBlock = _; rw [← e, hk, c])
    · have := e k hk; omega
  refine ⟨⟨by rw [← file_cs]; exact hbox, h0.dd.but hall (nx 2 (by omega) (by omega)), h0.oo.but hall (nx 3 (by omega) (by omega)), h0.pp.but hall (nx 4 (by omega) (by omega)), ownsRow_but h0.aa hall (nx 5 (by omega) (by omega)), ?_, by simp [RB.file, RV.file, h0.ln], fun i hi => ?_, ?_, ?_⟩, ?_, ?_⟩
  · have := ownsRow_but hv hb hvb
    rw [← fcells_file R.F V.T h0.ln] at this
    show w'.ownsRow 0 _ 3 v (R.F ++ [([], [], 0)]).length (fcells (R.F ++ [([], [], 0)]) (V.T ++ [(nlS, nlS)]))
    rw [List.length_append]
    exact this
  · by_cases hlt : i < R.F.length
    · have hl' : i < V.T.length := by rw [h0.ln]; exact hlt
      obtain ⟨a, q⟩ := h0.nn i hlt
      have e1 : ((V.file v).T[i]'(by simp [RV.file]; omega)) = V.T[i] := List.getElem_append_left hl'
      have e2 : (R.file.F[i]'hi) = R.F[i] := List.getElem_append_left hlt
      rw [e1, e2]
      exact ⟨Oc.but a hall (fun k hk => nx (2 * i + 6) (by omega) (by omega) k (by rw [blk_N b V hl']; exact hk)), Oc.but q hall (fun k hk => nx (2 * i + 7) (by omega) (by omega) k (by rw [blk_L b V hl']; exact hk))⟩
    · have hi2 : i < R.F.length + 1 := by simpa [RB.file] using hi
      have hie : i = R.F.length := by omega
      have e1 : ((V.file v).T[i]'(by simp [RV.file, h0.ln]; omega)) = (nlS, nlS) := by simp [RV.file, hie, ← h0.ln]
      have e2 : (R.file.F[i]'hi) = ([], [], 0) := by simp [RB.file, hie]
      rw [e1, e2]
      exact ⟨Oc.of (Ob.nil _ _), Oc.of (Ob.nil _ _)⟩
  · refine h0.ds.step (H := w0.heap.size) h0.lt (fun x => ?_) (fun x y hxy k hk h1 h2 => ?_)
    · by_cases hx : x = 1
      · subst hx; exact hn
      · exact .inl (blk_file b V v x hx)
    · have old : ∀ z, z ≠ 1 → blk b (V.file v) z ≠ some k := fun z z2 hz => by
        rw [blk_file b V v z z2] at hz
        have := h0.lt z k hz
        omega
      by_cases x2 : x = 1
      · exact old y (fun e => hxy (by rw [x2, e])) h2
      · exact old x x2 h1
  · intro x k hk
    by_cases hx : x = 1
    · subst hx
      have := (World.ownsRow.lt hv k hk).2
      have := hb.size
      omega
    · rw [blk_file b V v x hx] at hk
      have := h0.lt x k hk
      have := hall.size
      omega
  · intro x k hk
    by_cases hx : x = 1
    · subst hx
      rcases hn with e | e
      · exact .inl (e.symm.trans hk)
      · exact .inr (e k hk)
    · rw [blk_file b V v x hx] at hk
      exact .inl hk
  · exact hall.mono fun k _ c => by
      rcases c with c | c
      · exact ⟨0, by rw [c]; rfl⟩
      · exact ⟨1, c⟩
end Go.Proofs.YtjehpijjneghpaaGreat.Re
