/-
  The document's disk: SyncDir.
-/
import Derived.Test.YtjehpijjneghpaaGreatK21
namespace Go.Proofs.YtjehpijjneghpaaGreat.Re
open Go.RowKit Go.Maps Go.Sort Go.Shelf Go.Proofs.YtjehpijjneghpaaGreat.Nm Go.Proofs.YtjehpijjneghpaaGreat.Dk
set_option linter.unusedVariables false
def RB.kept (R : RB) : RB := { R with old := R.dir, pe := [] }
def RB.syncDir (R : RB) : RB × Int :=
  if R.down then (R, 22)
  else if strN R.flt.2.1 ≠ 0 then (R.beg 6, strN R.flt.2.1)
  else ((R.beg 6).kept, 0)
theorem kept_cs (R : RB) (V : RV) (v : Value) : ((R.cs V).setIfInBounds 3 v).setIfInBounds 4 (.slice none 0 0) = R.kept.cs { V with vO := v, vP := .slice none 0 0 } := by simp [RB.cs, RB.kept]
theorem blk_op (b : Nat) (V : RV) (vO vP : Value) (x : Nat) (h2 : x ≠ 3) (h4 : x ≠ 4) : blk b { V with vO := vO, vP := vP } x = blk b V x := by
  match x with
  | 0 => rfl
  | 1 => rfl
  | 2 => rfl
  | 3 => exact absurd rfl h2
  | 4 => exact absurd rfl h4
  | 5 => rfl
  | n + 6 => rfl
theorem RM.keep {w0 w w' : World} {b : Nat} {R : RB} {V : RV} {v : Value} (h0 : RM w0 b R V) (hw : Below w0.heap.size w0 w) (hv : En w0.heap.size w v R.dir) (hb : But (fun k => k = b) w w') (hbox : w'.heap[b]? = some (.cells (((R.cs V).setIfInBounds 3 v).setIfInBounds 4 (.slice none 0 0)) TRD (0, 0))) : Rgo w0 w' b V R.kept := by
  have h := h0.below hw
  have nx : ∀ x, x ≠ 0 → ∀ k, blk b V x = some k → ¬ k = b := fun x hx k hk c => h.ds 0 x (Ne.symm hx) b rfl (by rw [hk, c])
  have hbl : b < w0.heap.size := heap_lt h0.box
  have hvb : ∀ k, v.ownBlock = some k → ¬ k = b := fun k hk c => by have := (hv.lt k hk).1; omega
  have hsz := hb.size
  refine ⟨⟨{ V with vO := v, vP := .slice none 0 0 }, ?_, ?_⟩, ?_⟩
  · refine ⟨by rw [← kept_cs]; exact hbox, h.dd.but hb (nx 2 (by omega)), owns_lower2 (hv.but hb hvb) (Nat.zero_le _), World.ownsRow_nil _ _ _ _, ownsRow_but h.aa hb (nx 5 (by omega)), ownsRow_but h.ff hb (nx 1 (by omega)), h.ln, fun i hi => ?_, ?_, ?_⟩
    · have hi' : i < R.F.length := hi
      have hl' : i < V.T.length := by rw [h.ln]; exact hi'
      obtain ⟨a, q⟩ := h.nn i hi'
      exact ⟨Oc.but a hb (fun k hk => nx (2 * i + 6) (by omega) k (by rw [blk_N b V hl']; exact hk)), Oc.but q hb (fun k hk => nx (2 * i + 7) (by omega) k (by rw [blk_L b V hl']; exact hk))⟩
    · refine h0.ds.step (H := w0.heap.size) h0.lt (fun x => ?_) (fun x y hxy k hk h1 h2 => ?_)
      · by_cases h2 : x = 3
        · subst h2; exact .inr fun k hk => (hv.lt k hk).1
        · by_cases h4 : x = 4
          · subst h4; exact .inr fun k hk => by simp [blk, Value.ownBlock] at hk
          · exact .inl (blk_op b V v _ x h2 h4)
      · have old : ∀ z, z ≠ 3 → blk b { V with vO := v, vP := .slice none 0 0 } z ≠ some k := fun z z2 hz => by
          by_cases z4 : z = 4
          · subst z4; simp [blk, Value.ownBlock] at hz
          · rw [blk_op b V v _ z z2 z4] at hz
            have := h0.lt z k hz
            omega
        by_cases x2 : x = 3
        · exact old y (fun e => hxy (by rw [x2, e])) h2
        · exact old x x2 h1
    · intro x k hk
      by_cases h2 : x = 3
      · subst h2; have := (hv.lt k hk).2; omega
      · by_cases h4 : x = 4
        · subst h4; simp [blk, Value.ownBlock] at hk
        · rw [blk_op b V v _ x h2 h4] at hk
          have := h.lt x k hk
          omega
  · intro x k hk
    by_cases h2 : x = 3
    · subst h2; exact .inr (hv.lt k hk).1
    · by_cases h4 : x = 4
      · subst h4; simp [blk, Value.ownBlock] at hk
      · rw [blk_op b V v _ x h2 h4] at hk
        exact .inl hk
  · exact (But.of_below hw _).trans (hb.mono fun k _ e => ⟨0, by rw [e]; rfl⟩)
set_option maxRecDepth 100000 in
set_option maxHeartbeats 1000000 in
theorem syncDir_rm {w : World} {b : Nat} {R : RB} {V : RV} (h : RM w b R V) (ho : R.ok) (hc : R.c7 ≤ 1000000000) (hl : (R.dir.length : Int) ≤ 1000000000) :
    Calls Tryz.prog 55 #[.pointer (some ⟨b, 0, none⟩)] w fun e w' => e = .returned (.int .i64 R.syncDir.2) ∧ Rgo w w' b V R.syncDir.1 := by
  obtain ⟨X, hX⟩ : ∃ X, Hid (R.syncDir = X) := ⟨_, rfl⟩
  rw [hX.out]
  have d16 : w.cell? ⟨b, 16, none⟩ = some (.bool R.down) := (h.cell 16).trans rfl
  have hB := begins_rm h ho hc 6 (by omega)
  have M0 := hide (Rgo.refl h)
  cases hd : R.down with
  | true =>
    rw [hd] at d16
    have e1 : Hid (X = (R, 22)) := by show _ = _; rw [← hX.out]; unfold RB.syncDir; rw [hd]; rfl
    clear h hB
    go_enter Tryz.func55, Tryz.ntmps55
    go_wp2_with fail
    go_ret
    rw [e1.out]
    exact ⟨rfl, M0.out⟩
  | false =>
    rw [hd] at d16
    obtain ⟨F, hF⟩ : ∃ F : Ft, Hid (R.flt = F) := ⟨R.flt, rfl⟩
    rw [hF.out] at hB
    obtain ⟨fa, fk, fp⟩ := F
    have hvd : ∃ da dn dc, V.vD = .slice da dn dc := by rcases h.dd.form with ⟨e, _⟩ | ⟨g, cap, e, _⟩ <;> exact ⟨_, _, _, e⟩
    obtain ⟨da, dn, dc, hvd⟩ := hvd
    clear h ho hc
    unfold fv at hB
    dsimp only at hB
    by_cases hk : fk = 0 ∨ fk = 2
    · have e1 : Hid (X = ((R.beg 6).kept, 0)) := by show _ = _; rw [← hX.out]; unfold RB.syncDir; rw [hd, if_neg (by simp), hF.out, if_neg (by unfold strN; rw [if_pos hk]; simp)]
      rcases hk with rfl | rfl
      · go_enter Tryz.func55, Tryz.ntmps55
        go_upto_region 4 with (go_at_call 97; refine hB.mono ?_; rintro e w1 ⟨rfl, M1, b1⟩; replace M1 := hide M1; replace b1 := hide b1)
        have z1 := heap_alloc_new w1 (.cells #[.int .i64 fa, .int .i64 0, .int .i64 fp] 118)
        have BX := hide (box_below w1 (.cells #[.int .i64 fa, .int .i64 0, .int .i64 fp] 118))
        obtain ⟨Y, hY⟩ : ∃ Y, Hid (w1.alloc (.cells #[.int .i64 fa, .int .i64 0, .int .i64 fp] 118) = Y) := ⟨_, rfl⟩
        rw [hY.out] at z1 BX ⊢
        have y1 : Y.cell? ⟨w1.heap.size, 1, none⟩ = some (.int .i64 0) := by simp [World.cell?, z1]
        have MY := hide (M1.out.below BX.out)
        have y2 : Y.cell? ⟨b, 2, none⟩ = some V.vD := (MY.out.cell 2).trans rfl
        have bY : Hid (But (fun k => k = b) w Y) := b1.out.trans (But.of_below BX.out _)
        clear z1
        have hEr := MY.out.dd.er
        rw [hvd] at y2 hEr
        obtain ⟨v3, w3, r3, Q3, G3⟩ := run_appE (En.nil Y.heap.size Y) hEr (by rw [(beg_same R 6).2.1]; simp; omega) (Nat.le_refl _) 100
        rw [List.nil_append] at Q3
        have X3 : Hid (Below Y.heap.size Y w3) := (Below.refl _ _).grown G3 (Nat.le_refl _) (fun k hk => by simp [Value.ownBlock] at hk)
        have hbx3 : Hid (w3.heap[b]? = some (.cells ((R.beg 6).cs V) TRD (0, 0))) := (X3.out.block b (heap_lt MY.out.box)).trans MY.out.box
        have hv3 : ∃ sa sn sc, v3 = .slice sa sn sc := by rcases Q3.form with ⟨e, _⟩ | ⟨g, cap, e, _⟩ <;> exact ⟨_, _, _, e⟩
        obtain ⟨sa, sn, sc, rfl⟩ := hv3
        replace Q3 := hide Q3
        replace r3 := hide r3
        have t1 : w3.cell? ⟨b, 3, none⟩ = some V.vO := by simp [World.cell?, hbx3.out, RB.cs]
        have t2 : w3.frozen? ⟨b, 3, none⟩ = false := by simp [World.frozen?, hbx3.out]
        have k4 := hide (heap_setCell_same w3 b 3 _ _ (.slice sa sn sc) hbx3.out)
        have t3 : (w3.setCell ⟨b, 3, none⟩ (.slice sa sn sc)).cell? ⟨b, 4, none⟩ = some V.vP := by simp [World.cell?, k4.out, RB.cs]
        have t4 : (w3.setCell ⟨b, 3, none⟩ (.slice sa sn sc)).frozen? ⟨b, 4, none⟩ = false := by simp [World.frozen?, k4.out]
        have k5 := heap_setCell_same _ b 4 _ _ (.slice none 0 0) k4.out
        have g3 := But.of_grownBy (X := fun k => k = b) (grown_setCell w3 b 3 (.slice sa sn sc)) fun k e => by cases e; rfl
        have g4 := But.of_grownBy (X := fun k => k = b) (grown_setCell (w3.setCell ⟨b, 3, none⟩ (.slice sa sn sc)) b 4 (.slice none 0 0)) fun k e => by cases e; rfl
        have fin := hide ((RM.keep MY.out X3.out Q3.out (g3.trans g4) k5).behind bY.out)
        clear hEr G3 k5 g3 g4
        go_wp2_with (at_builtin; refine Lib.wpList_append_run _ rfl (.const (.slice none 0 0)) (.tmp 29) 100 100 rfl _ _ rfl rfl _ _ r3.out ?_)
        go_ret
        rw [e1.out]
        exact ⟨rfl, fin.out⟩
      · go_enter Tryz.func55, Tryz.ntmps55
        go_upto_region 4 with (go_at_call 97; refine hB.mono ?_; rintro e w1 ⟨rfl, M1, b1⟩; replace M1 := hide M1; replace b1 := hide b1)
        have z1 := heap_alloc_new w1 (.cells #[.int .i64 fa, .int .i64 2, .int .i64 fp] 118)
        have BX := hide (box_below w1 (.cells #[.int .i64 fa, .int .i64 2, .int .i64 fp] 118))
        obtain ⟨Y, hY⟩ : ∃ Y, Hid (w1.alloc (.cells #[.int .i64 fa, .int .i64 2, .int .i64 fp] 118) = Y) := ⟨_, rfl⟩
        rw [hY.out] at z1 BX ⊢
        have y1 : Y.cell? ⟨w1.heap.size, 1, none⟩ = some (.int .i64 2) := by simp [World.cell?, z1]
        have MY := hide (M1.out.below BX.out)
        have y2 : Y.cell? ⟨b, 2, none⟩ = some V.vD := (MY.out.cell 2).trans rfl
        have bY : Hid (But (fun k => k = b) w Y) := b1.out.trans (But.of_below BX.out _)
        clear z1
        have hEr := MY.out.dd.er
        rw [hvd] at y2 hEr
        obtain ⟨v3, w3, r3, Q3, G3⟩ := run_appE (En.nil Y.heap.size Y) hEr (by rw [(beg_same R 6).2.1]; simp; omega) (Nat.le_refl _) 100
        rw [List.nil_append] at Q3
        have X3 : Hid (Below Y.heap.size Y w3) := (Below.refl _ _).grown G3 (Nat.le_refl _) (fun k hk => by simp [Value.ownBlock] at hk)
        have hbx3 : Hid (w3.heap[b]? = some (.cells ((R.beg 6).cs V) TRD (0, 0))) := (X3.out.block b (heap_lt MY.out.box)).trans MY.out.box
        have hv3 : ∃ sa sn sc, v3 = .slice sa sn sc := by rcases Q3.form with ⟨e, _⟩ | ⟨g, cap, e, _⟩ <;> exact ⟨_, _, _, e⟩
        obtain ⟨sa, sn, sc, rfl⟩ := hv3
        replace Q3 := hide Q3
        replace r3 := hide r3
        have t1 : w3.cell? ⟨b, 3, none⟩ = some V.vO := by simp [World.cell?, hbx3.out, RB.cs]
        have t2 : w3.frozen? ⟨b, 3, none⟩ = false := by simp [World.frozen?, hbx3.out]
        have k4 := hide (heap_setCell_same w3 b 3 _ _ (.slice sa sn sc) hbx3.out)
        have t3 : (w3.setCell ⟨b, 3, none⟩ (.slice sa sn sc)).cell? ⟨b, 4, none⟩ = some V.vP := by simp [World.cell?, k4.out, RB.cs]
        have t4 : (w3.setCell ⟨b, 3, none⟩ (.slice sa sn sc)).frozen? ⟨b, 4, none⟩ = false := by simp [World.frozen?, k4.out]
        have k5 := heap_setCell_same _ b 4 _ _ (.slice none 0 0) k4.out
        have g3 := But.of_grownBy (X := fun k => k = b) (grown_setCell w3 b 3 (.slice sa sn sc)) fun k e => by cases e; rfl
        have g4 := But.of_grownBy (X := fun k => k = b) (grown_setCell (w3.setCell ⟨b, 3, none⟩ (.slice sa sn sc)) b 4 (.slice none 0 0)) fun k e => by cases e; rfl
        have fin := hide ((RM.keep MY.out X3.out Q3.out (g3.trans g4) k5).behind bY.out)
        clear hEr G3 k5 g3 g4
        go_wp2_with (at_builtin; refine Lib.wpList_append_run _ rfl (.const (.slice none 0 0)) (.tmp 29) 100 100 rfl _ _ rfl rfl _ _ r3.out ?_)
        go_ret
        rw [e1.out]
        exact ⟨rfl, fin.out⟩
    · have hk0 : ¬ fk = 0 := fun c => hk (.inl c)
      have hk2 : ¬ fk = 2 := fun c => hk (.inr c)
      have e1 : Hid (X = (R.beg 6, toldN fk)) := by
        show _ = _
        have hst : strN fk = toldN fk := by unfold strN; rw [if_neg hk]
        rw [← hX.out]; unfold RB.syncDir; rw [hd, if_neg (by simp), hF.out, if_pos (by show strN fk ≠ 0; rw [hst]; exact toldN_ne fk)]
        show (R.beg 6, strN fk) = _
        rw [hst]
      have hTo2 : Hid (∀ q, Calls Tryz.prog 98 #[.int .i64 fk] q fun e w' => e = .returned (.int .i64 (toldN fk)) ∧ w' = q) := fun q => told_ref q fk
      obtain ⟨tk, htk⟩ : ∃ tk, Hid (toldN fk = tk) := ⟨_, rfl⟩
      rw [htk.out] at hTo2
      have q0 : (fk != 0) = true := by simpa using hk0
      have q2 : (fk != 2) = true := by simpa using hk2
      clear hk
      go_enter Tryz.func55, Tryz.ntmps55
      go_upto_region 4 with (go_at_call 97; refine hB.mono ?_; rintro e w1 ⟨rfl, M1, b1⟩; replace M1 := hide M1; replace b1 := hide b1)
      have z1 := heap_alloc_new w1 (.cells #[.int .i64 fa, .int .i64 fk, .int .i64 fp] 118)
      have BX := hide (box_below w1 (.cells #[.int .i64 fa, .int .i64 fk, .int .i64 fp] 118))
      obtain ⟨Y, hY⟩ : ∃ Y, Hid (w1.alloc (.cells #[.int .i64 fa, .int .i64 fk, .int .i64 fp] 118) = Y) := ⟨_, rfl⟩
      rw [hY.out] at z1 BX ⊢
      have y1 : Y.cell? ⟨w1.heap.size, 1, none⟩ = some (.int .i64 fk) := by simp [World.cell?, z1]
      have MY := hide (M1.out.below BX.out)
      have bY : Hid (But (fun k => k = b) w Y) := b1.out.trans (But.of_below BX.out _)
      clear z1
      go_wp2_with (go_at_call 98; refine (hTo2.out _).mono ?_; rintro e w2 ⟨rfl, e2⟩; subst w2)
      go_ret
      rw [e1.out]
      exact ⟨by rw [← htk.out]; rfl, Rgo.same MY.out bY.out⟩
end Go.Proofs.YtjehpijjneghpaaGreat.Re
namespace Go.Proofs.YtjehpijjneghpaaGreat.Re
open Go.RowKit Go.Maps Go.Sort Go.Shelf Go.Proofs.YtjehpijjneghpaaGreat.Nm Go.Proofs.YtjehpijjneghpaaGreat.Dk
set_option linter.unusedVariables false
abbrev nlS : Value := .slice none 0 0
def RB.file (R : RB) : RB := { R with F := R.F ++ [([], [], 0)] }
def RV.file (V : RV) (v : Value) : RV := { V with vF := v, T := V.T ++ [(nlS, nlS)] }
theorem file_cs (R : RB) (V : RV) (v : Value) : (R.cs V).setIfInBounds 1 v = R.file.cs (V.file v) := by simp [RB.cs, RB.file, RV.file]
theorem blk_file (b : Nat) (V : RV) (v : Value) (x : Nat) (h1 : x ≠ 1) : blk b (V.file v) x = blk b V x := by
  match x with
  | 0 => rfl
  | 1 => exact absurd rfl h1
  | 2 => rfl
  | 3 => rfl
  | 4 => rfl
  | 5 => rfl
  | n + 6 =>
    have key : ∀ i, (V.T ++ [(nlS, nlS)])[i]? = V.T[i]? ∨ ((V.T ++ [(nlS, nlS)])[i]? = some (nlS, nlS) ∧ V.T[i]? = none) := fun i => by
      by_cases h : i < V.T.length
      · exact .inl (List.getElem?_append_left h)
      · by_cases e : i = V.T.length
        · right
          rw [e]
          exact ⟨by rw [List.getElem?_append_right (Nat.le_refl _), Nat.sub_self]; rfl, List.getElem?_eq_none (Nat.le_refl _)⟩
        · left; rw [List.getElem?_eq_none (by rw [List.length_append]; show V.T.length + 1 ≤ i; omega), List.getElem?_eq_none (by omega)]
    show (if n % 2 = 0 then ((V.T ++ [(nlS, nlS)])[n / 2]?).bind (fun t => t.1.ownBlock) else ((V.T ++ [(nlS, nlS)])[n / 2]?).bind (fun t => t.2.ownBlock)) = (if n % 2 = 0 then (V.T[n / 2]?).bind (fun t => t.1.ownBlock) else (V.T[n / 2]?).bind (fun t => t.2.ownBlock))
    rcases key (n / 2) with e | ⟨e, e'⟩
    · rw [e]
    · rw [e, e']; split <;> rfl
theorem infoFi : (Tryz.prog.info? 138).map (fun i => (i.zero, i.size, i.bytes)) = some (some (.agg #[.slice none 0 0, .slice none 0 0, .int .i64 0]), 3, 56) := by kernel_rfl
theorem fcells_file (F : List (List UInt8 × List UInt8 × Int)) (T : List (Value × Value)) (h : T.length = F.length) : fcells (F ++ [([], [], 0)]) (T ++ [(nlS, nlS)]) = fcells F T ++ [nlS, nlS, .int .i64 0] := by
  unfold fcells
  rw [List.zip_append h.symm, List.map_append, List.flatten_append]
  rfl
theorem run_appF {w : World} {v : Value} {n : Nat} {xs : List Value} (g : Nat) (h : w.ownsRow 0 138 3 v n xs) (h0 : w.cell? ⟨g, 0, none⟩ = some nlS) (h1 : w.cell? ⟨g, 1, none⟩ = some nlS) (h2 : w.cell? ⟨g, 2, none⟩ = some (.int .i64 0)) (hl : (n : Int) ≤ 2000000000) (ty : TypeId) :
    ∃ v' w', (Builtin.append_ #[99, 99] ty #[v, .slice (some ⟨g, 0, none⟩) 1 1]).run Tryz.prog w = .ok v' w' ∧ w'.ownsRow 0 138 3 v' (n + 1) (xs ++ [nlS, nlS, .int .i64 0]) ∧ w.grownBy w' v.ownBlock ∧ (v'.ownBlock = v.ownBlock ∨ v'.ownBlock = some w.heap.size) := by
  obtain ⟨i0, hi, hz0, hz1, hz2⟩ := info_parts infoFi
  have hcells : ∀ j u, ([nlS, nlS, .int .i64 0] : List Value)[j]? = some u → w.cell? ((⟨g, 0, none⟩ : Addr).add j) = some u := by
    intro j u hu
    rw [addr_add]
    match j with
    | 0 => simp at hu; subst hu; exact h0
    | 1 => simp at hu; subst hu; exact h1
    | 2 => simp at hu; subst hu; exact h2
    | j + 3 => simp at hu
  obtain ⟨v', w', hr, ho, hg, _, hat⟩ := run_append_own_at (P := Tryz.prog) w 0 99 ty 138 i0 (.agg #[.slice none 0 0, .slice none 0 0, .int .i64 0]) 3 56 Tryz.underlying99 hi hz0 hz1 hz2 rfl (by decide) v n xs h ⟨g, 0, none⟩ 1 1 [nlS, nlS, .int .i64 0] rfl hcells (by
      intro u hu
      simp at hu
      rcases hu with rfl | rfl <;> rfl) (by unfold maxLen; omega) (by omega) (Nat.zero_le _)
  exact ⟨v', w', hr, ho, hg, hat⟩
theorem RM.addfile {w0 w w' : World} {b : Nat} {R : RB} {V : RV} {v : Value} (h0 : RM w0 b R V) (hw : But (fun k => V.vF.ownBlock = some k) w0 w) (hv : w.ownsRow 0 138 3 v (R.F.length + 1) (fcells R.F V.T ++ [nlS, nlS, .int .i64 0])) (hn : v.ownBlock = V.vF.ownBlock ∨ ∀ k, v.ownBlock = some k → w0.heap.size ≤ k) (hb : But (fun k => k = b) w w') (hbox : w'.heap[b]? = some (.cells ((R.cs V).setIfInBounds 1 v) TRD (0, 0))) : RM w' b R.file (V.file v) ∧ (∀ x k, blk b (V.file v) x = some k → blk b V x = some k ∨ w0.heap.size ≤ k) ∧ But (fun k => ∃ x, blk b V x = some k) w0 w' := by
  have hall : But (fun k => k = b ∨ V.vF.ownBlock = some k) w0 w' := (hw.mono fun k _ e => .inr e).trans (hb.mono fun k _ e => .inl e)
  have nx : ∀ x, x ≠ 0 → x ≠ 1 → ∀ k, blk b V x = some k → ¬ (k = b ∨ V.vF.ownBlock = some k) := fun x hx h1 k hk c => by
    rcases c with c | c
    · exact h0.ds 0 x (Ne.symm hx) b rfl (by rw [hk, c])
    · exact h0.ds x 1 h1 k hk c
  have hbl : b < w0.heap.size := heap_lt h0.box
  have hvb : ∀ k, v.ownBlock = some k → ¬ k = b := fun k hk c => by
    rcases hn with e | e
    · exact h0.ds 0 1 (by omega) b rfl (by show V.vF.ownBlock = _; rw [← e, hk, c])
    · have := e k hk; omega
  refine ⟨⟨by rw [← file_cs]; exact hbox, h0.dd.but hall (nx 2 (by omega) (by omega)), h0.oo.but hall (nx 3 (by omega) (by omega)), h0.pp.but hall (nx 4 (by omega) (by omega)), ownsRow_but h0.aa hall (nx 5 (by omega) (by omega)), ?_, by simp [RB.file, RV.file, h0.ln], fun i hi => ?_, ?_, ?_⟩, ?_, ?_⟩
  · have := ownsRow_but hv hb hvb
    rw [← fcells_file R.F V.T h0.ln] at this
    show w'.ownsRow 0 _ 3 v (R.F ++ [([], [], 0)]).length (fcells (R.F ++ [([], [], 0)]) (V.T ++ [(nlS, nlS)]))
    rw [List.length_append]
    exact this
  · by_cases hlt : i < R.F.length
    · have hl' : i < V.T.length := by rw [h0.ln]; exact hlt
      obtain ⟨a, q⟩ := h0.nn i hlt
      have e1 : ((V.file v).T[i]'(by simp [RV.file]; omega)) = V.T[i] := List.getElem_append_left hl'
      have e2 : (R.file.F[i]'hi) = R.F[i] := List.getElem_append_left hlt
      rw [e1, e2]
      exact ⟨Oc.but a hall (fun k hk => nx (2 * i + 6) (by omega) (by omega) k (by rw [blk_N b V hl']; exact hk)), Oc.but q hall (fun k hk => nx (2 * i + 7) (by omega) (by omega) k (by rw [blk_L b V hl']; exact hk))⟩
    · have hi2 : i < R.F.length + 1 := by simpa [RB.file] using hi
      have hie : i = R.F.length := by omega
      have e1 : ((V.file v).T[i]'(by simp [RV.file, h0.ln]; omega)) = (nlS, nlS) := by simp [RV.file, hie, ← h0.ln]
      have e2 : (R.file.F[i]'hi) = ([], [], 0) := by simp [RB.file, hie]
      rw [e1, e2]
      exact ⟨Oc.of (Ob.nil _ _), Oc.of (Ob.nil _ _)⟩
  · refine h0.ds.step (H := w0.heap.size) h0.lt (fun x => ?_) (fun x y hxy k hk h1 h2 => ?_)
    · by_cases hx : x = 1
      · subst hx; exact hn
      · exact .inl (blk_file b V v x hx)
    · have old : ∀ z, z ≠ 1 → blk b (V.file v) z ≠ some k := fun z z2 hz => by
        rw [blk_file b V v z z2] at hz
        have := h0.lt z k hz
        omega
      by_cases x2 : x = 1
      · exact old y (fun e => hxy (by rw [x2, e])) h2
      · exact old x x2 h1
  · intro x k hk
    by_cases hx : x = 1
    · subst hx
      have := (World.ownsRow.lt hv k hk).2
      have := hb.size
      omega
    · rw [blk_file b V v x hx] at hk
      have := h0.lt x k hk
      have := hall.size
      omega
  · intro x k hk
    by_cases hx : x = 1
    · subst hx
      rcases hn with e | e
      · exact .inl (e.symm.trans hk)
      · exact .inr (e k hk)
    · rw [blk_file b V v x hx] at hk
      exact .inl hk
  · exact hall.mono fun k _ c => by
      rcases c with c | c
      · exact ⟨0, by rw [c]; rfl⟩
      · exact ⟨1, c⟩
end Go.Proofs.YtjehpijjneghpaaGreat.Re
namespace Go.Proofs.YtjehpijjneghpaaGreat.Re
open Go.RowKit Go.Maps Go.Sort Go.Shelf Go.Proofs.YtjehpijjneghpaaGreat.Nm Go.Proofs.YtjehpijjneghpaaGreat.Dk
set_option linter.unusedVariables false
def RB.create (R : RB) (s : ByteArray) : RB × Int :=
  if refN R.down R.dir s false ≠ 0 then (R, refN R.down R.dir s false)
  else if ¬ findN R.dir s.data.toList < 0 then (R, 7)
  else if R.dir.length = 256 then (R, 9)
  else if R.flt.2.1 ≠ 0 then (R.beg 0, toldN R.flt.2.1)
  else ((R.beg 0).file.chg ⟨s, (R.F.length : Int), ⟨#[]⟩⟩, 0)
theorem Rgo.then {w w1 w' : World} {b : Nat} {V V1 : RV} {R' : RB} (h : Rgo w1 w' b V1 R') (hx : ∀ x k, blk b V1 x = some k → blk b V x = some k ∨ w.heap.size ≤ k) (hb : But (fun k => ∃ x, blk b V x = some k) w w1) : Rgo w w' b V R' := by
  obtain ⟨⟨V', hm, hv⟩, ht⟩ := h
  refine ⟨⟨V', hm, fun x k hk => ?_⟩, ?_⟩
  · rcases hv x k hk with q | q
    · exact hx x k q
    · exact .inr (Nat.le_trans hb.size q)
  · exact but_trans_new hb ht (fun i ⟨x, hi⟩ => (hx x i hi).imp (fun q => ⟨x, q⟩) id)
set_option maxRecDepth 100000 in
set_option maxHeartbeats 1000000 in
theorem create_rm {w : World} {b : Nat} {R : RB} {V : RV} (h : RM w b R V) (ho : R.ok) (hc : R.c7 ≤ 1000000000) (hl : (R.dir.length : Int) ≤ 1000000000) (hpl : (R.pe.length : Int) ≤ 1000000000) (hfl : (R.F.length : Int) ≤ 1000000000) (s : ByteArray) (hs : s.size ≤ maxLen) :
    Calls Tryz.prog 44 #[.pointer (some ⟨b, 0, none⟩), .string s] w fun e w' => e = .returned (.int .i64 (R.create s).2) ∧ Rgo w w' b V (R.create s).1 := by
  have hR := refused_rm h s hs false
  have hFi := find_ref w V.vD R.dir s h.dd.tr
  have hB := begins_rm h ho hc 0 (by omega)
  have M0 := hide (Rgo.refl h)
  have c2 : w.cell? ⟨b, 2, none⟩ = some V.vD := (h.cell 2).trans rfl
  have hvd : ∃ da dc, V.vD = .slice da R.dir.length dc ∧ R.dir.length ≤ dc ∧ dc ≤ 9223372036854775807 := by
    rcases h.dd.form with ⟨e, e2⟩ | ⟨g, cap, e, q1, q2⟩
    · exact ⟨none, 0, by rw [e, e2]; rfl, by rw [e2]; exact Nat.le_refl _, by omega⟩
    · exact ⟨_, _, e, q1, q2⟩
  obtain ⟨da, dc, hvd, dl1, dl2⟩ := hvd
  rw [hvd] at c2 hFi
  obtain ⟨X, hX⟩ : ∃ X, Hid (R.create s = X) := ⟨_, rfl⟩
  rw [hX.out]
  obtain ⟨dn, hdn⟩ : ∃ dn, Hid (R.dir.length = dn) := ⟨_, rfl⟩
  rw [hdn.out] at c2 hFi dl1
  by_cases h0 : refN R.down R.dir s false = 0
  · rw [h0] at hR
    by_cases h7 : findN R.dir s.data.toList < 0
    · by_cases h9 : R.dir.length = 256
      · have e1 : Hid (X = (R, 9)) := by show _ = _; rw [← hX.out]; unfold RB.create; rw [if_neg (by rw [h0]; simp), if_neg (by simpa using h7), if_pos h9]
        rw [hdn.out] at h9
        subst h9
        generalize findN R.dir s.data.toList = fn at *
        have h7b : ¬ (fn ≥ 0) := by omega
        clear h hB ho hc
        go_enter Tryz.func44, Tryz.ntmps44
        go_wp2_with (first
          | (go_at_call 95; refine hR.mono ?_; rintro e w1 ⟨rfl, e1'⟩; subst w1)
          | (go_at_call 96; refine hFi.mono ?_; rintro e w1 ⟨rfl, e1'⟩; subst w1))
        go_ret
        rw [e1.out]
        exact ⟨rfl, M0.out⟩
      · have e0 : R.create s = (if R.flt.2.1 ≠ 0 then (R.beg 0, toldN R.flt.2.1) else ((R.beg 0).file.chg ⟨s, (R.F.length : Int), ⟨#[]⟩⟩, 0)) := by unfold RB.create; rw [if_neg (by rw [h0]; simp), if_neg (by simpa using h7), if_neg h9]
        rw [hdn.out] at h9
        have h9b : ¬ ((dn : Int) = 256) := by omega
        generalize findN R.dir s.data.toList = fn at *
        have h7b : ¬ (fn ≥ 0) := by omega
        obtain ⟨F, hF⟩ : ∃ F : Ft, Hid (R.flt = F) := ⟨R.flt, rfl⟩
        rw [hF.out] at hB e0
        obtain ⟨fa, fk, fp⟩ := F
        obtain ⟨_, be2, _, be4, _⟩ := beg_same R 0
        have be1 := (beg_same R 0).1
        have hCh : Hid (∀ q V1, RM q b (R.beg 0).file V1 → Calls Tryz.prog 99 #[.pointer (some ⟨b, 0, none⟩), .agg #[.string s, .int .i64 (R.F.length : Int), .string ⟨#[]⟩]] q fun e w' => e = .returned (.tuple #[]) ∧ Rgo q w' b V1 ((R.beg 0).file.chg ⟨s, (R.F.length : Int), ⟨#[]⟩⟩)) := fun q V1 hq =>
          change_rm hq ⟨s, (R.F.length : Int), ⟨#[]⟩⟩ (by show ((R.beg 0).dir.length : Int) ≤ _; rw [be2]; exact hl) (by show ((R.beg 0).pe.length : Int) ≤ _; rw [be4]; exact hpl) (by show (-9223372036854775808 : Int) ≤ (R.F.length : Int); omega) (by show (R.F.length : Int) ≤ 9223372036854775807; omega)
        clear h ho hc
        unfold fv at hB
        dsimp only at hB e0
        by_cases hk : fk = 0
        · have e1 : Hid (X = ((R.beg 0).file.chg ⟨s, (R.F.length : Int), ⟨#[]⟩⟩, 0)) := by show _ = _; rw [← hX.out, e0, if_neg (by simpa using hk)]
          subst hk
          clear e0
          go_enter Tryz.func44, Tryz.ntmps44
          go_upto_region 9 with (first
            | (go_at_call 95; refine hR.mono ?_; rintro e w1 ⟨rfl, e1'⟩; subst w1)
            | (go_at_call 96; refine hFi.mono ?_; rintro e w1 ⟨rfl, e1'⟩; subst w1)
            | (go_at_call 97; refine hB.mono ?_; rintro e w1 ⟨rfl, M1, b1⟩; replace M1 := hide M1; replace b1 := hide b1))
          have z1 := heap_alloc_new w1 (.cells #[.int .i64 fa, .int .i64 0, .int .i64 fp] 118)
          have BX := hide (box_below w1 (.cells #[.int .i64 fa, .int .i64 0, .int .i64 fp] 118))
          obtain ⟨Y, hY⟩ : ∃ Y, Hid (w1.alloc (.cells #[.int .i64 fa, .int .i64 0, .int .i64 fp] 118) = Y) := ⟨_, rfl⟩
          rw [hY.out] at z1 BX ⊢
          have y1 : Y.cell? ⟨w1.heap.size, 1, none⟩ = some (.int .i64 0) := by simp [World.cell?, z1]
          have MY := hide (M1.out.below BX.out)
          have bY : Hid (But (fun k => k = b) w Y) := b1.out.trans (But.of_below BX.out _)
          clear z1
          go_upto_region 11 with fail
          have hff := MY.out.ff
          rw [be1] at hff
          have hvf : ∃ pa pc, V.vF = .slice pa R.F.length pc ∧ R.F.length ≤ pc ∧ pc ≤ 9223372036854775807 := by
            rcases hff.2 with ⟨e, e2⟩ | ⟨g, cap, cur, e, _, _, a, q, _⟩
            · exact ⟨none, 0, by rw [e, e2], by omega, by omega⟩
            · exact ⟨_, _, e, a, by unfold maxLen at q; omega⟩
          obtain ⟨pa, pc, hvf, pl1, pl2⟩ := hvf
          have y4 : Y.cell? ⟨b, 1, none⟩ = some (.slice pa R.F.length pc) := (MY.out.cell 1).trans (by rw [← hvf]; rfl)
          have z2 := heap_alloc_new Y (.cells #[.slice none 0 0, .slice none 0 0, .int .i64 0] 138)
          have BZ := box_below Y (.cells #[.slice none 0 0, .slice none 0 0, .int .i64 0] 138)
          obtain ⟨v4, w4, r4, Q4, G4, at4⟩ := run_appF Y.heap.size (owns_belowN hff BZ) (by simp only [World.cell?, z2]; rfl) (by simp only [World.cell?, z2]; rfl) (by simp only [World.cell?, z2]; rfl) (by omega) 99
          have B4 : But (fun k => V.vF.ownBlock = some k) Y w4 := (But.of_below BZ _).trans (But.of_grownBy G4 fun k e => e)
          have hvb : V.vF.ownBlock ≠ some b := MY.out.ds 0 1 (by omega) b rfl
          have hbx4 : w4.heap[b]? = some (.cells ((R.beg 0).cs V) TRD (0, 0)) := (B4.block b (heap_lt MY.out.box) hvb).trans MY.out.box
          have hv4 : ∃ sa sc, v4 = .slice sa (R.F.length + 1) sc ∧ R.F.length + 1 ≤ sc ∧ sc ≤ 9223372036854775807 := by
            rcases Q4.2 with ⟨e, e2⟩ | ⟨g, cap, cur, e, _, _, a, q, _⟩
            · omega
            · exact ⟨_, _, e, a, by unfold maxLen at q; omega⟩
          obtain ⟨sa, sc, rfl, sl1, sl2⟩ := hv4
          have t1 : w4.cell? ⟨b, 1, none⟩ = some (.slice pa R.F.length pc) := by simp [World.cell?, hbx4, RB.cs, hvf]
          have t2 : w4.frozen? ⟨b, 1, none⟩ = false := by simp [World.frozen?, hbx4]
          have k5 := heap_setCell_same w4 b 1 _ _ (.slice sa (R.F.length + 1) sc) hbx4
          have g5 := But.of_grownBy (X := fun k => k = b) (grown_setCell w4 b 1 (.slice sa (R.F.length + 1) sc)) fun k e => by cases e; rfl
          obtain ⟨A1, A2, A3⟩ := RM.addfile MY.out B4 (by rw [be1]; exact Q4) (at4.imp id fun e k hk => by rw [e] at hk; simp at hk; omega) g5 k5
          have t3 : (w4.setCell ⟨b, 1, none⟩ (.slice sa (R.F.length + 1) sc)).cell? ⟨b, 1, none⟩ = some (.slice sa (R.F.length + 1) sc) := by simp [World.cell?, k5, RB.cs]
          have hC2 := hCh.out _ _ A1
          rw [hvf] at r4
          replace r4 := hide r4
          replace A1 := hide A1
          replace A2 := hide A2
          replace A3 := hide A3
          obtain ⟨nF, hnF⟩ : ∃ nF, Hid (R.F.length = nF) := ⟨_, rfl⟩
          rw [hnF.out] at y4 r4 t1 t3 hC2 A2 A3 sl1 pl1 hfl e1
          clear hff z2 BZ Q4 G4 at4 B4 hbx4 k5 g5
          go_wp2_with (first
            | (at_builtin; refine Lib.wpList_append_run _ rfl (.tmp 42) (.tmp 44) 99 99 rfl _ _ rfl rfl _ _ r4.out ?_)
            | (go_at_call 99; refine hC2.mono ?_; rintro e w2 ⟨rfl, G2⟩; replace G2 := hide G2))
          go_ret
          rw [e1.out]
          exact ⟨rfl, (G2.out.then A2.out A3.out).behind bY.out⟩
        · have e1 : Hid (X = (R.beg 0, toldN fk)) := by show _ = _; rw [← hX.out, e0, if_pos hk]
          have hTo2 : Hid (∀ q, Calls Tryz.prog 98 #[.int .i64 fk] q fun e w' => e = .returned (.int .i64 (toldN fk)) ∧ w' = q) := fun q => told_ref q fk
          obtain ⟨tk, htk⟩ : ∃ tk, Hid (toldN fk = tk) := ⟨_, rfl⟩
          rw [htk.out] at hTo2
          have q0 : (fk != 0) = true := by simpa using hk
          clear e0
          go_enter Tryz.func44, Tryz.ntmps44
          go_upto_region 9 with (first
            | (go_at_call 95; refine hR.mono ?_; rintro e w1 ⟨rfl, e1'⟩; subst w1)
            | (go_at_call 96; refine hFi.mono ?_; rintro e w1 ⟨rfl, e1'⟩; subst w1)
            | (go_at_call 97; refine hB.mono ?_; rintro e w1 ⟨rfl, M1, b1⟩; replace M1 := hide M1; replace b1 := hide b1))
          have z1 := heap_alloc_new w1 (.cells #[.int .i64 fa, .int .i64 fk, .int .i64 fp] 118)
          have BX := hide (box_below w1 (.cells #[.int .i64 fa, .int .i64 fk, .int .i64 fp] 118))
          obtain ⟨Y, hY⟩ : ∃ Y, Hid (w1.alloc (.cells #[.int .i64 fa, .int .i64 fk, .int .i64 fp] 118) = Y) := ⟨_, rfl⟩
          rw [hY.out] at z1 BX ⊢
          have y1 : Y.cell? ⟨w1.heap.size, 1, none⟩ = some (.int .i64 fk) := by simp [World.cell?, z1]
          have MY := hide (M1.out.below BX.out)
          have bY : Hid (But (fun k => k = b) w Y) := b1.out.trans (But.of_below BX.out _)
          clear z1
          go_wp2_with (go_at_call 98; refine (hTo2.out _).mono ?_; rintro e w2 ⟨rfl, e2⟩; subst w2)
          go_ret
          rw [e1.out]
          exact ⟨by rw [← htk.out]; rfl, Rgo.same MY.out bY.out⟩
    · have e1 : Hid (X = (R, 7)) := by show _ = _; rw [← hX.out]; unfold RB.create; rw [if_neg (by rw [h0]; simp), if_pos (by simpa using h7)]
      generalize findN R.dir s.data.toList = fn at *
      have h7b : fn ≥ 0 := by omega
      clear h hB ho hc
      go_enter Tryz.func44, Tryz.ntmps44
      go_wp2_with (first
        | (go_at_call 95; refine hR.mono ?_; rintro e w1 ⟨rfl, e1'⟩; subst w1)
        | (go_at_call 96; refine hFi.mono ?_; rintro e w1 ⟨rfl, e1'⟩; subst w1))
      go_ret
      rw [e1.out]
      exact ⟨rfl, M0.out⟩
  · have e1 : Hid (X = (R, refN R.down R.dir s false)) := by show _ = _; rw [← hX.out]; unfold RB.create; rw [if_pos h0]
    clear h ho hc hB
    generalize refN R.down R.dir s false = rn at *
    go_enter Tryz.func44, Tryz.ntmps44
    go_wp2_with (go_at_call 95; refine hR.mono ?_; rintro e w1 ⟨rfl, e1'⟩; subst w1)
    go_ret
    rw [e1.out]
    exact ⟨rfl, M0.out⟩
end Go.Proofs.YtjehpijjneghpaaGreat.Re
namespace Go.Proofs.YtjehpijjneghpaaGreat.Re
open Go.RowKit Go.Maps Go.Sort Go.Shelf Go.Proofs.YtjehpijjneghpaaGreat.Nm Go.Proofs.YtjehpijjneghpaaGreat.Dk
set_option linter.unusedVariables false
theorem infoFa : (Tryz.prog.info? 118).map (fun i => (i.zero, i.size, i.bytes)) = some (some (.agg #[.int .i64 0, .int .i64 0, .int .i64 0]), 3, 24) := by kernel_rfl
theorem run_appA {w : World} {vx : Value} {fs : List Ft} (hm : Fts w vx fs) (hnl : ∀ n c, vx = .slice none n c → n = 0 ∧ c = 0) (hl : (fs.length : Int) ≤ 1000000000) (ty : TypeId) :
    ∃ v' w', (Builtin.append_ #[31, 31] ty #[.slice none 0 0, vx]).run Tryz.prog w = .ok v' w' ∧ w'.ownsRow w.heap.size 118 3 v' fs.length (acells fs) ∧ w.grownBy w' none := by
  obtain ⟨i0, hi, hz0, hz1, hz2⟩ := info_parts infoFa
  obtain ⟨ao, cap, rfl, h1, h2, h3⟩ := hm
  have h0 : w.ownsRow w.heap.size 118 3 (.slice none 0 0) 0 [] := World.ownsRow_nil _ _ _ _
  cases ao with
  | none =>
    obtain ⟨e1, rfl⟩ := hnl _ _ rfl
    have : fs = [] := List.length_eq_zero_iff.1 e1
    subst this
    refine ⟨_, w, ?_, h0, ⟨rfl, rfl, rfl, Nat.le_refl _, fun _ _ _ => rfl⟩⟩
    exact run_append_owned_none (P := Tryz.prog) (w := w) w.heap.size 31 ty 118 i0 3 Tryz.underlying31 hi (.slice none 0 0) 0 [] h0
  | some ad =>
    have hcells : ∀ j u, (acells fs)[j]? = some u → w.cell? (ad.add j) = some u := by
      intro j u hu
      have hj : j < fs.length * 3 := by
        have := (List.getElem?_eq_some_iff.1 hu).1
        rw [acells_len] at this
        exact this
      obtain ⟨b, off, e1, c0, c1, c2⟩ := h3 (j / 3) (by omega)
      obtain ⟨t0, t1, t2⟩ := acells_at fs (j / 3) (by omega)
      simp only [Option.some.injEq] at e1
      subst e1
      rw [addr_add]
      have hm : j % 3 = 0 ∨ j % 3 = 1 ∨ j % 3 = 2 := by omega
      rcases hm with q | q | q
      · rw [show j = j / 3 * 3 by omega] at hu ⊢
        rw [t0] at hu
        simp only [Option.some.injEq] at hu
        subst hu
        exact c0
      · rw [show j = j / 3 * 3 + 1 by omega] at hu ⊢
        rw [t1] at hu
        simp only [Option.some.injEq] at hu
        subst hu
        rw [← Nat.add_assoc]
        exact c1
      · rw [show j = j / 3 * 3 + 2 by omega] at hu ⊢
        rw [t2] at hu
        simp only [Option.some.injEq] at hu
        subst hu
        rw [← Nat.add_assoc]
        exact c2
    obtain ⟨v', w', hr, ho, hg, _, hat⟩ := run_append_own_at (P := Tryz.prog) w w.heap.size 31 ty 118 i0 (.agg #[.int .i64 0, .int .i64 0, .int .i64 0]) 3 24 Tryz.underlying31 hi hz0 hz1 hz2 rfl (by decide) (.slice none 0 0) 0 [] h0 ad fs.length cap (acells fs) (acells_len fs) hcells (by
      intro u hu
      simp only [acells, List.mem_flatten, List.mem_map] at hu
      obtain ⟨c, ⟨e, _, rfl⟩, hc⟩ := hu
      simp at hc
      rcases hc with rfl | rfl | rfl <;> rfl) (by unfold maxLen; omega) (by omega) (Nat.le_refl _)
    rw [Nat.zero_add, List.nil_append] at ho
    exact ⟨v', w', hr, ho, hg⟩
def RB.armed (R : RB) (fs : List Ft) : RB := { R with fs := fs, si := 0 }
theorem armed_cs (R : RB) (V : RV) (fs : List Ft) (v : Value) : ((R.cs V).setIfInBounds 5 v).setIfInBounds 6 (.int .i64 0) = (R.armed fs).cs { V with vA := v } := by simp [RB.cs, RB.armed]
theorem blk_a (b : Nat) (V : RV) (v : Value) (x : Nat) (h5 : x ≠ 5) : blk b { V with vA := v } x = blk b V x := by
  match x with
  | 0 => rfl
  | 1 => rfl
  | 2 => rfl
  | 3 => rfl
  | 4 => rfl
  | 5 => exact absurd rfl h5
  | n + 6 => rfl
theorem RM.arm {w0 w w' : World} {b : Nat} {R : RB} {V : RV} {v : Value} {fs : List Ft} (h0 : RM w0 b R V) (hw : Below w0.heap.size w0 w) (hv : w.ownsRow w0.heap.size 118 3 v fs.length (acells fs)) (hb : But (fun k => k = b) w w') (hbox : w'.heap[b]? = some (.cells (((R.cs V).setIfInBounds 5 v).setIfInBounds 6 (.int .i64 0)) TRD (0, 0))) : Rgo w0 w' b V (R.armed fs) := by
  have h := h0.below hw
  have nx : ∀ x, x ≠ 0 → ∀ k, blk b V x = some k → ¬ k = b := fun x hx k hk c => h.ds 0 x (Ne.symm hx) b rfl (by rw [hk, c])
  have hbl : b < w0.heap.size := heap_lt h0.box
  have hvb : ∀ k, v.ownBlock = some k → ¬ k = b := fun k hk c => by have := (World.ownsRow.lt hv k hk).1; omega
  have hsz := hb.size
  refine ⟨⟨{ V with vA := v }, ?_, ?_⟩, ?_⟩
  · refine ⟨by rw [← armed_cs]; exact hbox, h.dd.but hb (nx 2 (by omega)), h.oo.but hb (nx 3 (by omega)), h.pp.but hb (nx 4 (by omega)), ?_, ownsRow_but h.ff hb (nx 1 (by omega)), h.ln, fun i hi => ?_, ?_, ?_⟩
    · have := ownsRow_but hv hb hvb
      exact ⟨this.1, this.2.imp id fun ⟨g, cap, cur, e, hg, r⟩ => ⟨g, cap, cur, e, Nat.zero_le _, r⟩⟩
    · have hi' : i < R.F.length := hi
      have hl' : i < V.T.length := by rw [h.ln]; exact hi'
      obtain ⟨a, q⟩ := h.nn i hi'
      exact ⟨Oc.but a hb (fun k hk => nx (2 * i + 6) (by omega) k (by rw [blk_N b V hl']; exact hk)), Oc.but q hb (fun k hk => nx (2 * i + 7) (by omega) k (by rw [blk_L b V hl']; exact hk))⟩
    · refine h0.ds.step (H := w0.heap.size) h0.lt (fun x => ?_) (fun x y hxy k hk h1 h2 => ?_)
      · by_cases h5 : x = 5
        · subst h5; exact .inr fun k hk => (World.ownsRow.lt hv k hk).1
        · exact .inl (blk_a b V v x h5)
      · have old : ∀ z, z ≠ 5 → blk b { V with vA := v } z ≠ some k := fun z z2 hz => by
          rw [blk_a b V v z z2] at hz
          have := h0.lt z k hz
          omega
        by_cases x2 : x = 5
        · exact old y (fun e => hxy (by rw [x2, e])) h2
        · exact old x x2 h1
    · intro x k hk
      by_cases h5 : x = 5
      · subst h5; have := (World.ownsRow.lt hv k hk).2; omega
      · rw [blk_a b V v x h5] at hk
        have := h.lt x k hk
        omega
  · intro x k hk
    by_cases h5 : x = 5
    · subst h5; exact .inr (World.ownsRow.lt hv k hk).1
    · rw [blk_a b V v x h5] at hk
      exact .inl hk
  · exact (But.of_below hw _).trans (hb.mono fun k _ e => ⟨0, by rw [e]; rfl⟩)
set_option maxRecDepth 100000 in
set_option maxHeartbeats 1000000 in
theorem arm_rm {w : World} {b : Nat} {R : RB} {V : RV} (h : RM w b R V) (v : Value) (fs : List Ft) (hv : Fts w v fs) (hnl : ∀ n c, v = .slice none n c → n = 0 ∧ c = 0) :
    Calls Tryz.prog 60 #[.pointer (some ⟨b, 0, none⟩), v] w fun e w' => ∃ R' er, e = .returned (.int .i64 er) ∧ Hid (Rgo w w' b V R' ∧ ((fs.length ≤ 64 ∧ MayL fs fs.length → R' = R.armed fs ∧ er = 0) ∧ (¬ (fs.length ≤ 64 ∧ MayL fs fs.length) → R' = R ∧ er = 1))) := by
  have HM := hide h
  by_cases hy : fs.length ≤ 64 ∧ MayL fs fs.length
  · have hM : Calls Tryz.prog 103 #[v] w fun e w' => e = .returned (.bool true) ∧ Hid (Below w.heap.size w w') := by
      refine (may_ref w v fs hv).mono ?_
      rintro e w' ⟨⟨Rb, h1, h2⟩, h3⟩
      rw [h2.2 hy] at h1
      exact ⟨h1, h3⟩
    have KR : Hid (∀ q, Below w.heap.size w q → ∃ v' w', (Builtin.append_ #[31, 31] 31 #[.slice none 0 0, v]).run Tryz.prog q = .ok v' w' ∧ q.ownsRow 0 118 3 (.slice none 0 0) 0 [] ∧ w'.ownsRow q.heap.size 118 3 v' fs.length (acells fs) ∧ q.grownBy w' none) := fun q hq => by
      obtain ⟨v', w', r1, r2, r3⟩ := run_appA (hv.below hq) hnl (by have := hy.1; omega) 31
      exact ⟨v', w', r1, World.ownsRow_nil _ _ _ _, r2, r3⟩
    have hvs : ∃ a n c, v = .slice a n c := by obtain ⟨a, c, e, _⟩ := hv; exact ⟨_, _, _, e⟩
    obtain ⟨va, vn, vc, rfl⟩ := hvs
    replace hy := hide hy
    clear h hv hnl
    go_enter Tryz.func60, Tryz.ntmps60
    go_upto_region 3 with (go_at_call 103; refine hM.mono ?_; rintro e w1 ⟨rfl, b1⟩)
    have M1 := hide (HM.out.below b1.out)
    obtain ⟨v3, w3, r3, _, Q3, G3⟩ := KR.out w1 b1.out
    have X3 : Hid (Below w1.heap.size w1 w3) := (Below.refl _ _).grown G3 (Nat.le_refl _) (fun k hk => by simp at hk)
    have hbx3 : Hid (w3.heap[b]? = some (.cells (R.cs V) TRD (0, 0))) := (X3.out.block b (heap_lt M1.out.box)).trans M1.out.box
    have hv3 : ∃ sa sn sc, v3 = .slice sa sn sc := by rcases Q3.2 with ⟨e, _⟩ | ⟨g, cap, cur, e, _⟩ <;> exact ⟨_, _, _, e⟩
    obtain ⟨sa, sn, sc, rfl⟩ := hv3
    replace Q3 := hide Q3
    replace r3 := hide r3
    have t1 : w3.cell? ⟨b, 5, none⟩ = some V.vA := by simp [World.cell?, hbx3.out, RB.cs]
    have t2 : w3.frozen? ⟨b, 5, none⟩ = false := by simp [World.frozen?, hbx3.out]
    have k4 := hide (heap_setCell_same w3 b 5 _ _ (.slice sa sn sc) hbx3.out)
    have t3 : (w3.setCell ⟨b, 5, none⟩ (.slice sa sn sc)).cell? ⟨b, 6, none⟩ = some (.int .i64 R.si) := by simp [World.cell?, k4.out, RB.cs]
    have t4 : (w3.setCell ⟨b, 5, none⟩ (.slice sa sn sc)).frozen? ⟨b, 6, none⟩ = false := by simp [World.frozen?, k4.out]
    have k5 := heap_setCell_same _ b 6 _ _ (.int .i64 0) k4.out
    have g3 := But.of_grownBy (X := fun k => k = b) (grown_setCell w3 b 5 (.slice sa sn sc)) fun k e => by cases e; rfl
    have g4 := But.of_grownBy (X := fun k => k = b) (grown_setCell (w3.setCell ⟨b, 5, none⟩ (.slice sa sn sc)) b 6 (.int .i64 0)) fun k e => by cases e; rfl
    have fin := hide ((RM.arm M1.out X3.out Q3.out (g3.trans g4) k5).behind (But.of_below b1.out _))
    clear G3 k5 g3 g4
    go_wp2_with (at_builtin; refine Lib.wpList_append_run _ rfl (.const (.slice none 0 0)) (.tmp 9) 31 31 rfl _ _ rfl rfl _ _ r3.out ?_)
    go_ret
    exact ⟨_, _, rfl, fin.out, fun _ => ⟨rfl, rfl⟩, fun c => absurd hy.out c⟩
  · have hM : Calls Tryz.prog 103 #[v] w fun e w' => e = .returned (.bool false) ∧ Hid (Below w.heap.size w w') := by
      refine (may_ref w v fs hv).mono ?_
      rintro e w' ⟨⟨Rb, h1, h2⟩, h3⟩
      cases Rb with
      | true => exact absurd (h2.1 rfl) hy
      | false => exact ⟨h1, h3⟩
    replace hy := hide hy
    clear h hv hnl
    go_enter Tryz.func60, Tryz.ntmps60
    go_wp2_with (go_at_call 103; refine hM.mono ?_; rintro e w1 ⟨rfl, b1⟩)
    go_ret
    exact ⟨R, 1, rfl, Rgo.same (HM.out.below b1.out) (But.of_below b1.out _), fun c => absurd c hy.out, fun _ => ⟨rfl, rfl⟩⟩
end Go.Proofs.YtjehpijjneghpaaGreat.Re
