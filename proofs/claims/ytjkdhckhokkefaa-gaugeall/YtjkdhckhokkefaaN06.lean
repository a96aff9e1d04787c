/-
  cells, Look, same: what the law asks of both gauges.
-/
import Derived.Test.YtjkdhckhokkefaaN04
import Derived.Test.YtjkdhckhokkefaaN05
namespace Go.Proofs.Ytjkdhckhokkefaa.Gg
open Go.RowKit Rl
set_option linter.unusedVariables false
set_option maxRecDepth 100000
/-- Whole numbers in memory, as they are read. -/
theorem row_ints {w : World} {v : Value} {l : List Int} (h : Row w v (ivals l)) : ∃ ao ca, v = .slice ao l.length ca ∧ ca ≤ 9223372036854775807 ∧ l.length ≤ ca ∧ ∀ i, i < l.length → ∃ bb off, ao = some ⟨bb, off, none⟩ ∧ w.cell? ⟨bb, off + i, none⟩ = some (.int .i64 (l.getD i 0)) := by
  obtain ⟨ao, ca, rfl, _, h2, h3, h4⟩ := h
  have hl : (ivals l).length = l.length := by simp [ivals]
  rw [hl] at h2 ⊢
  refine ⟨ao, ca, rfl, by unfold maxLen at h3; omega, h2, fun i hi => ?_⟩
  obtain ⟨bb, off, e, hc⟩ := h4 i (by omega)
  refine ⟨bb, off, e, ?_⟩
  rw [hc]
  simp [ivals, hi]
theorem lcells_any (w : World) (v v' : Value) (l : List Int) (h : Row w v (ivals l)) (h' : Row w v' (ivals l)) : Calls Try.prog 17 #[v, v'] w fun e w' => e = .returned (.bool true) ∧ Below w.heap.size w w' := by
  obtain ⟨ao, ca, rfl, q1, q2, hr⟩ := row_ints h
  obtain ⟨ao', ca', rfl, q1', q2', hr'⟩ := row_ints h'
  have HR := hide hr
  have HR' := hide hr'
  obtain ⟨N, hN⟩ : ∃ N, Hid (l.length = N) := ⟨_, rfl⟩
  rw [hN.out] at HR HR' q2 q2' ⊢
  have hN63 : N ≤ 9223372036854775807 := by omega
  clear h h' hr hr'
  go_enter Try.func17, Try.ntmps17
  go_wp2_with fail
  go_loopw [5] (fun v5 wr => ∃ i : Nat, i ≤ N ∧ v5 = .int .i64 (i : Int) ∧ Hid (Below w.heap.size w wr)) (fun v _ => N - (intOf v).toNat)
  case atStart => exact ⟨0, by omega, rfl, Below.refl _ _⟩
  case round =>
    obtain ⟨i, hi, rfl, hB⟩ := hrel
    by_cases hin : i = N
    · subst hin
      go_wp2
      go_ret
      exact ⟨rfl, hB.out⟩
    · have hil : i < N := by omega
      obtain ⟨bb, off, rfl, hx0⟩ := HR.out i hil
      obtain ⟨bb', off', rfl, hy0⟩ := HR'.out i hil
      have hx := (hB.out.cell (lt_of_cell hx0)).trans hx0
      have hy := (hB.out.cell (lt_of_cell hy0)).trans hy0
      have i1 : (i : Int) < (N : Int) := by omega
      have i2 : (0 : Int) ≤ (i : Int) := by omega
      clear hx0 hy0
      generalize l.getD i 0 = x at *
      have hD : Hid (∀ k, Below w.heap.size w (wr.drewN k)) := hide (fun k => below_drewN hB.out k)
      go_upto_region 6 with fail
      go_quiet (fail)
      go_wp2_with fail
      go_roundw
      case rel => exact ⟨i + 1, by omega, by go_num, hD.out _⟩
      case measure => simp [intOf]; omega
theorem llook_any (w : World) (l : L) : Calls Try.prog 38 #[l.val, l.val] w fun e w' => e = .returned (.bool true) ∧ Below w.heap.size w w' := by
  obtain ⟨an, ana, alo, ahi, ame⟩ := l
  unfold L.val
  simp only
  have B1 := box_below w (.cells #[.int .i64 an, .int .i64 ana, .float .f64 alo, .float .f64 ahi, .float .f64 ame] 44)
  have X1 := Lx.new w ⟨an, ana, alo, ahi, ame⟩
  simp only at X1
  obtain ⟨w1, hw1⟩ : ∃ w1, Hid (w.alloc (.cells #[.int .i64 an, .int .i64 ana, .float .f64 alo, .float .f64 ahi, .float .f64 ame] 44) = w1) := ⟨_, rfl⟩
  have B2 := box_below w1 (.cells #[.int .i64 an, .int .i64 ana, .float .f64 alo, .float .f64 ahi, .float .f64 ame] 44)
  have X2 := Lx.new w1 ⟨an, ana, alo, ahi, ame⟩
  simp only at X2
  rw [hw1.out] at X1 B1
  have hz : w1.heap.size = w.heap.size + 1 := by rw [← hw1.out]; simp
  rw [hz] at X2
  have X1' := X1.below B2
  obtain ⟨w2, hw2⟩ : ∃ w2, Hid (w1.alloc (.cells #[.int .i64 an, .int .i64 ana, .float .f64 alo, .float .f64 ahi, .float .f64 ame] 44) = w2) := ⟨_, rfl⟩
  rw [hw2.out] at X2 B2 X1'
  have B3 : Hid (Below w.heap.size w w2) := keepF B1 B2
  clear B1 B2 X1
  obtain ⟨a0, a1, a2, a3, a4⟩ := X1'.cells
  obtain ⟨b0, b1, b2, b3, b4⟩ := X2.cells
  simp only at a0 a1 a2 a3 a4 b0 b1 b2 b3 b4
  clear X1' X2
  have hb : ∀ (u : World) (x : Nat), Calls Try.prog 20 #[.float .f64 x, .float .f64 x] u fun e w' => e = .returned (.bool true) ∧ w' = u := fun u x => by have := bits_any u x x; rwa [decide_eq_true rfl] at this
  go_enter Try.func38, Try.ntmps38
  go_upto_region 1 with fail
  rw [hw1.out, hw2.out]
  go_wp2_with (go_at_call 20; refine (hb _ _).mono ?_; rintro e w' ⟨rfl, hw⟩; rw [hw]; clear hw w')
  go_ret
  exact ⟨rfl, B3.out⟩
end Go.Proofs.Ytjkdhckhokkefaa.Gg

/-
  same: do both tell the same? (gen_GrF.py)
-/
namespace Go.Proofs.Ytjkdhckhokkefaa.Gg
open Go.RowKit Rl
open Ix (wp_region_T wpAnyT wpAnyT_take wpAnyT_one wpAnyT_done vac)
set_option linter.unusedVariables false
set_option maxRecDepth 100000
theorem row_flts {w : World} {v : Value} {l : List Nat} (h : Row w v (fvals l)) : ∃ ao ca, v = .slice ao l.length ca ∧ ca ≤ 9223372036854775807 ∧ l.length ≤ ca ∧ ∀ i, i < l.length → ∃ bb off, ao = some ⟨bb, off, none⟩ ∧ w.cell? ⟨bb, off + i, none⟩ = some (.float .f64 (l.getD i 0)) := by
  obtain ⟨ao, ca, rfl, _, h2, h3, h4⟩ := h
  have hl : (fvals l).length = l.length := by simp [fvals]
  rw [hl] at h2 ⊢
  refine ⟨ao, ca, rfl, by unfold maxLen at h3; omega, h2, fun i hi => ?_⟩
  obtain ⟨bb, off, e, hc⟩ := h4 i (by omega)
  refine ⟨bb, off, e, ?_⟩
  rw [hc]
  simp [fvals, hi]
/-- What stands in same: both gauges, the list told first. -/
def Ss (q : World) (b : Nat) (g : G) (va vc : Value) (rb : Nat) (ra rc : Value) (vl : Value) : Prop := At 64 q b g va vc ∧ At 66 q rb g ra rc ∧ Row q vl (ivals g.cs)
theorem Ss.below {q q' : World} {b : Nat} {g : G} {va vc : Value} {rb : Nat} {ra rc vl : Value} (h : Ss q b g va vc rb ra rc vl) (hb : Below q.heap.size q q') : Ss q' b g va vc rb ra rc vl := ⟨h.1.below hb, h.2.1.below hb, Below.row hb h.2.2⟩
set_option maxHeartbeats 2000000 in
theorem same_walk (w : World) (b : Nat) (g : G) (va vc : Value) (rb : Nat) (ra rc : Value) (M : Int) (v : Value) (qs : List Nat) (h : At 64 w b g va vc) (h2 : At 66 w rb g ra rc) (ok : Ok M g) (hM : M ≤ 1000000000) (hq : Row w v (fvals qs)) (hqb : Bs qs) :
    Calls Try.prog 14 #[.pointer (some ⟨b, 0, none⟩), .pointer (some ⟨rb, 0, none⟩), v] w fun e w' => e = .returned (.bool true) ∧ Below w.heap.size w w' := by
  have hcl : 0 < g.cs.length := by rw [ok.cl]; omega
  have HA := hide h
  have HA2 := hide h2
  have HQ := hide hq
  have HOK := hide ok
  have hK65 : g.cs.length ≤ 65 := by rw [ok.cl]; have := ok.len; omega
  obtain ⟨ao, ca, rfl, q1, q2, hrd⟩ := row_flts hq
  have HRD := hide hrd
  have HQB := hide (fun j (hj : j < qs.length) => hqb _ (getD_mem hj))
  obtain ⟨n, hn⟩ : ∃ n, Hid (qs.length = n) := ⟨_, rfl⟩
  rw [hn.out] at HQ HRD HQB q2 ⊢
  have hn63 : n ≤ 9223372036854775807 := by omega
  obtain ⟨ro, rn, rcc, hrcf⟩ := owns_form h2.rc
  subst hrcf
  clear h h2 ok hq hqb hrd
  go_enter Try.func14, Try.ntmps14
  go_wp2_with fail
  go_at_call 18
  refine (cells_any _ b g va vc M HA.out HOK.out).mono ?_
  rintro e w1 ⟨vl, rfl, il, b1⟩
  have IL := hide il
  have B1 := hide b1
  clear il b1
  go_wp2_with fail
  go_at_call 18
  refine (cells_any _ b g va vc M (HA.out.below B1.out) HOK.out).mono ?_
  rintro e w2 ⟨vg, rfl, ig, b2⟩
  have IG := hide ig
  have B2 := hide b2
  clear ig b2
  go_upto_region 2 with fail
  have KP : Hid (Ss w2.drew b g va vc rb ra (.slice ro rn rcc) vl) := hide (Ss.below (q := w2) ⟨(HA.out.below B1.out).below B2.out, (HA2.out.below B1.out).below B2.out, Row.of_owns (owns_below IL.out B2.out)⟩ (Below.refl _ _).drew)
  have KB : Hid (Below w2.heap.size w2 w2.drew) := hide (Below.refl _ _).drew
  refine wp_region_T (fun q => Ss q b g va vc rb ra (.slice ro rn rcc) vl) 15 (by kernel_rfl) ?_
  generalize w2.drew = q at *
  refine wpAnyT_take (i := 0) (oi := { dst := some 20, op := Op.move (Operand.tmp 7), type := 41, pos := "law.go:48", after := #[], guard := none }) (v := vl) [5, 6, 14, 15] rfl (by kernel_rfl) (by kernel_rfl) (by kernel_rfl) (by kernel_rfl) (fun _ _ _ h => h) (Or.inl ⟨by rfl, ?_⟩) KP.out ?_
  · intro wq hSw
    obtain ⟨y0, y1, y2, y3, y4, y5, y6⟩ := hSw.2.1.cells
    go_simp
  (try simp only [Act.put, List.setIfInBounds_toArray, List.set_cons_zero, List.set_cons_succ])
  refine wpAnyT_take (i := 1) (oi := { dst := some 21, op := Op.move (Operand.tmp 1), type := 31, pos := "law.go:48", after := #[], guard := none }) (v := .pointer (some ⟨rb, 0, none⟩)) [2, 3, 4, 5, 6, 14, 15] rfl (by kernel_rfl) (by kernel_rfl) (by kernel_rfl) (by kernel_rfl) (fun _ _ _ h => h) (Or.inl ⟨by rfl, ?_⟩) KP.out ?_
  · intro wq hSw
    obtain ⟨y0, y1, y2, y3, y4, y5, y6⟩ := hSw.2.1.cells
    go_simp
  (try simp only [Act.put, List.setIfInBounds_toArray, List.set_cons_zero, List.set_cons_succ])
  refine wpAnyT_take (i := 2) (oi := { dst := some 22, op := Op.nilCheck (Operand.tmp 21), type := 0, pos := "law.go:48", after := #[{ on := 1, ground := Ground.data }], guard := none }) (v := .pointer (some ⟨rb, 0, none⟩)) [3, 4, 5, 6, 14, 15] rfl (by kernel_rfl) (by kernel_rfl) (by kernel_rfl) (by kernel_rfl) (fun _ _ _ h => h) (Or.inl ⟨by rfl, ?_⟩) KP.out ?_
  · intro wq hSw
    obtain ⟨y0, y1, y2, y3, y4, y5, y6⟩ := hSw.2.1.cells
    go_simp
  (try simp only [Act.put, List.setIfInBounds_toArray, List.set_cons_zero, List.set_cons_succ])
  refine wpAnyT_take (i := 3) (oi := { dst := some 23, op := Op.fieldAddr 66 (Operand.tmp 22) 1, type := 0, pos := "law.go:48", after := #[{ on := 2, ground := Ground.data }], guard := none }) (v := .pointer (some ⟨rb, 1, none⟩)) [4, 5, 6, 14, 15] rfl (by kernel_rfl) (by kernel_rfl) (by kernel_rfl) (by kernel_rfl) (fun _ _ _ h => h) (Or.inl ⟨by rfl, ?_⟩) KP.out ?_
  · intro wq hSw
    obtain ⟨y0, y1, y2, y3, y4, y5, y6⟩ := hSw.2.1.cells
    go_simp
  (try simp only [Act.put, List.setIfInBounds_toArray, List.set_cons_zero, List.set_cons_succ])
  refine wpAnyT_take (i := 4) (oi := { dst := some 24, op := Op.load 41 (Operand.tmp 23), type := 41, pos := "law.go:48", after := #[{ on := 3, ground := Ground.data }], guard := none }) (v := .slice ro rn rcc) [5, 6, 14, 15] rfl (by kernel_rfl) (by kernel_rfl) (by kernel_rfl) (by kernel_rfl) (fun _ _ _ h => h) (Or.inl ⟨by rfl, ?_⟩) KP.out ?_
  · intro wq hSw
    obtain ⟨y0, y1, y2, y3, y4, y5, y6⟩ := hSw.2.1.cells
    go_simp
  (try simp only [Act.put, List.setIfInBounds_toArray, List.set_cons_zero, List.set_cons_succ])
  refine wpAnyT_one (i := 5) (o := { dst := some 25, op := Op.call { callee := Callee.value (Operand.func 17), args := #[Operand.tmp 20, Operand.tmp 24], argTypes := #[41, 41] }, type := 4, pos := "law.go:48", after := #[{ on := 0, ground := Ground.data }, { on := 4, ground := Ground.data }], guard := none }) (by kernel_rfl) rfl (fun K hK => ?_)
  go_simp
  go_at_call 17
  refine (lcells_any _ _ _ g.cs KP.out.2.2 (Row.of_owns KP.out.2.1.rc)).mono ?_
  rintro e qa ⟨rfl, bq⟩
  replace KP := hide (KP.out.below bq)
  replace KB := hide (keepF KB.out bq)
  clear bq
  (try go_simp)
  refine hK.out _ _ (fun _ => KP.out) ?_
  clear hK K
  (try simp only [Act.put, List.setIfInBounds_toArray, List.set_cons_zero, List.set_cons_succ])
  refine wpAnyT_one (i := 6) (o := { dst := some 26, op := Op.move (Operand.tmp 25), type := 4, pos := "law.go:48", after := #[{ on := 5, ground := Ground.data }, { on := 5, ground := Ground.chain }], guard := none }) (by kernel_rfl) rfl (fun K hK => ?_)
  go_simp
  refine hK.out _ _ (fun _ => KP.out) ?_
  clear hK K
  (try simp only [Act.put, List.setIfInBounds_toArray, List.set_cons_zero, List.set_cons_succ])
  refine wpAnyT_take (i := 7) (oi := { dst := some 27, op := Op.move (Operand.tmp 0), type := 27, pos := "law.go:48", after := #[{ on := 6, ground := Ground.guard }], guard := some (6, true) }) (v := .pointer (some ⟨b, 0, none⟩)) [8, 13, 14, 15] rfl (by kernel_rfl) (by kernel_rfl) (by kernel_rfl) (by kernel_rfl) (fun _ _ _ h => h) (Or.inl ⟨by rfl, ?_⟩) KP.out ?_
  · intro wq hSw
    obtain ⟨y0, y1, y2, y3, y4, y5, y6⟩ := hSw.2.1.cells
    go_simp
  (try simp only [Act.put, List.setIfInBounds_toArray, List.set_cons_zero, List.set_cons_succ])
  refine wpAnyT_take (i := 9) (oi := { dst := some 29, op := Op.move (Operand.tmp 1), type := 31, pos := "law.go:48", after := #[{ on := 6, ground := Ground.guard }], guard := some (6, true) }) (v := .pointer (some ⟨rb, 0, none⟩)) [10, 11, 12, 13, 14, 15] rfl (by kernel_rfl) (by kernel_rfl) (by kernel_rfl) (by kernel_rfl) (fun _ _ _ h => h) (Or.inl ⟨by rfl, ?_⟩) KP.out ?_
  · intro wq hSw
    obtain ⟨y0, y1, y2, y3, y4, y5, y6⟩ := hSw.2.1.cells
    go_simp
  (try simp only [Act.put, List.setIfInBounds_toArray, List.set_cons_zero, List.set_cons_succ])
  refine wpAnyT_take (i := 10) (oi := { dst := some 30, op := Op.nilCheck (Operand.tmp 29), type := 0, pos := "law.go:48", after := #[{ on := 9, ground := Ground.data }, { on := 6, ground := Ground.guard }], guard := some (6, true) }) (v := .pointer (some ⟨rb, 0, none⟩)) [11, 12, 13, 14, 15] rfl (by kernel_rfl) (by kernel_rfl) (by kernel_rfl) (by kernel_rfl) (fun _ _ _ h => h) (Or.inl ⟨by rfl, ?_⟩) KP.out ?_
  · intro wq hSw
    obtain ⟨y0, y1, y2, y3, y4, y5, y6⟩ := hSw.2.1.cells
    go_simp
  (try simp only [Act.put, List.setIfInBounds_toArray, List.set_cons_zero, List.set_cons_succ])
  refine wpAnyT_take (i := 11) (oi := { dst := some 31, op := Op.fieldAddr 66 (Operand.tmp 30) 2, type := 0, pos := "law.go:48", after := #[{ on := 10, ground := Ground.data }, { on := 6, ground := Ground.guard }], guard := some (6, true) }) (v := .pointer (some ⟨rb, 2, none⟩)) [12, 13, 14, 15] rfl (by kernel_rfl) (by kernel_rfl) (by kernel_rfl) (by kernel_rfl) (fun _ _ _ h => h) (Or.inl ⟨by rfl, ?_⟩) KP.out ?_
  · intro wq hSw
    obtain ⟨y0, y1, y2, y3, y4, y5, y6⟩ := hSw.2.1.cells
    go_simp
  (try simp only [Act.put, List.setIfInBounds_toArray, List.set_cons_zero, List.set_cons_succ])
  refine wpAnyT_take (i := 12) (oi := { dst := some 32, op := Op.load 44 (Operand.tmp 31), type := 44, pos := "law.go:48", after := #[{ on := 11, ground := Ground.data }, { on := 6, ground := Ground.guard }], guard := some (6, true) }) (v := .agg #[.int .i64 g.l.n, .int .i64 g.l.na, .float .f64 g.l.lo, .float .f64 g.l.hi, .float .f64 g.l.me]) [13, 14, 15] rfl (by kernel_rfl) (by kernel_rfl) (by kernel_rfl) (by kernel_rfl) (fun _ _ _ h => h) (Or.inl ⟨by rfl, ?_⟩) KP.out ?_
  · intro wq hSw
    obtain ⟨y0, y1, y2, y3, y4, y5, y6⟩ := hSw.2.1.cells
    go_simp
  (try simp only [Act.put, List.setIfInBounds_toArray, List.set_cons_zero, List.set_cons_succ])
  refine wpAnyT_one (i := 8) (o := { dst := some 28, op := Op.call { callee := Callee.value (Operand.func 19), args := #[Operand.tmp 27], argTypes := #[27] }, type := 44, pos := "law.go:48", after := #[{ on := 7, ground := Ground.data }, { on := 6, ground := Ground.chain }, { on := 6, ground := Ground.guard }], guard := some (6, true) }) (by kernel_rfl) rfl (fun K hK => ?_)
  go_simp
  go_at_call 19
  refine (look_any _ b g va vc M KP.out.1 HOK.out).mono ?_
  rintro e qb ⟨rfl, bq⟩
  replace KP := hide (KP.out.below bq)
  replace KB := hide (keepF KB.out bq)
  clear bq
  (try go_simp)
  refine hK.out _ _ (fun _ => KP.out) ?_
  clear hK K
  (try simp only [Act.put, List.setIfInBounds_toArray, List.set_cons_zero, List.set_cons_succ])
  refine wpAnyT_one (i := 13) (o := { dst := some 33, op := Op.call { callee := Callee.value (Operand.func 38), args := #[Operand.tmp 28, Operand.tmp 32], argTypes := #[44, 44] }, type := 4, pos := "law.go:48", after := #[{ on := 8, ground := Ground.data }, { on := 12, ground := Ground.data }, { on := 8, ground := Ground.chain }, { on := 6, ground := Ground.guard }], guard := some (6, true) }) (by kernel_rfl) rfl (fun K hK => ?_)
  go_simp
  go_at_call 38
  refine (llook_any _ g.l).mono ?_
  rintro e qc ⟨rfl, bq⟩
  replace KP := hide (KP.out.below bq)
  replace KB := hide (keepF KB.out bq)
  clear bq
  (try go_simp)
  refine hK.out _ _ (fun _ => KP.out) ?_
  clear hK K
  (try simp only [Act.put, List.setIfInBounds_toArray, List.set_cons_zero, List.set_cons_succ])
  refine wpAnyT_one (i := 14) (o := { dst := some 34, op := Op.pick (Operand.tmp 26) (Operand.tmp 33) (Operand.const (Value.bool false)), type := 4, pos := "law.go:48", after := #[{ on := 6, ground := Ground.data }, { on := 13, ground := Ground.data }], guard := none }) (by kernel_rfl) rfl (fun K hK => ?_)
  go_simp
  refine hK.out _ _ (fun _ => KP.out) ?_
  clear hK K
  (try simp only [Act.put, List.setIfInBounds_toArray, List.set_cons_zero, List.set_cons_succ])
  refine wpAnyT_one (i := 15) (o := { dst := some 9, op := Op.assign (Operand.tmp 34), type := 4, pos := "law.go:48", after := #[{ on := 14, ground := Ground.data }, { on := 13, ground := Ground.chain }, { on := 0, ground := Ground.phase }, { on := 1, ground := Ground.phase }, { on := 2, ground := Ground.phase }, { on := 3, ground := Ground.phase }, { on := 4, ground := Ground.phase }, { on := 5, ground := Ground.phase }, { on := 6, ground := Ground.phase }, { on := 7, ground := Ground.phase }, { on := 8, ground := Ground.phase }, { on := 9, ground := Ground.phase }, { on := 10, ground := Ground.phase }, { on := 11, ground := Ground.phase }, { on := 12, ground := Ground.phase }, { on := 13, ground := Ground.phase }, { on := 14, ground := Ground.phase }], guard := none }) (by kernel_rfl) rfl (fun K hK => ?_)
  go_simp
  refine hK.out _ _ (vac (by kernel_rfl)) ?_
  clear hK K
  (try simp only [Act.put, List.setIfInBounds_toArray, List.set_cons_zero, List.set_cons_succ])
  refine wpAnyT_done (by kernel_rfl) ?_ _
  generalize qc = w3 at *
  have BW : Hid (Below w.heap.size w w3) := hide (keepF (keepF B1.out B2.out) KB.out)
  have ILw : Hid (Iw w.heap.size w3 vl g.cs) := hide (owns_below (owns_below IL.out B2.out) KB.out)
  have IGw : Hid (Iw w1.heap.size w3 vg g.cs) := hide (owns_below IG.out KB.out)
  obtain ⟨lb, lca, rfl, l1, l2⟩ := Iw.form ILw.out hcl
  have hlb : Hid (w.heap.size ≤ lb ∧ lb < w1.heap.size) := hide ⟨(World.ownsRow.lt ILw.out lb rfl).1, (World.ownsRow.lt IL.out lb rfl).2⟩
  obtain ⟨K, hK⟩ : ∃ K, Hid (g.cs.length = K) := ⟨_, rfl⟩
  rw [hK.out] at ILw l2 hK65 hcl ⊢
  obtain ⟨gb, gca, rfl, t1, t2⟩ := Iw.form IGw.out (by rw [hK.out]; exact hcl)
  rw [hK.out] at IGw t2 ⊢
  clear IL IG B1 B2 KB
  go_wp2_with fail
  go_loopw [10] (fun v10 wr => ∃ j : Nat, j ≤ K ∧ v10 = .int .i64 (j : Int) ∧ Hid (∃ L', L'.length = K ∧ Iw w.heap.size wr (.slice (some ⟨lb, 0, none⟩) K lca) L') ∧ Hid (But (fun k => k = lb) w3 wr)) (fun v _ => K - (intOf v).toNat)
  case atStart => exact ⟨0, by omega, rfl, ⟨g.cs, hK.out, ILw.out⟩, But.refl _ _⟩
  case round =>
    obtain ⟨j, hj, rfl, hL, hBt⟩ := hrel
    by_cases hjn : j = K
    · subst hjn
      have BB : Hid (Below w.heap.size w wr) := hide (BW.out.trans (hBt.out.below BW.out.size fun k hk => by rw [hk]; exact hlb.out.1))
      have IGr : Hid (Iw w1.heap.size wr (.slice (some ⟨gb, 0, none⟩) j gca) g.cs) := hide (owns_but IGw.out hBt.out fun k hk e => by
        have a := (World.ownsRow.lt IGw.out k hk).1
        have c := hlb.out.2
        omega)
      have hQt := hide (fun x hx => quantile_any wr b g va vc M x (HA.out.below BB.out) HOK.out hM hx)
      have hQr := hide (fun x hx => rquantile_any wr rb g ra (.slice ro rn rcc) M x (HA2.out.below BB.out) HOK.out hM hx)
      have hbt : ∀ (u : World) (x : Nat), Calls Try.prog 20 #[.float .f64 x, .float .f64 x] u fun e w' => e = .returned (.bool true) ∧ w' = u := fun u x => by have := bits_any u x x; rwa [decide_eq_true rfl] at this
      have A2r := hide (HA2.out.below BB.out)
      obtain ⟨y0, y1, y2, y3, y4, y5, y6⟩ := A2r.out.cells
      clear hL hBt ILw IGw BW
      generalize wr = w4 at *
      go_wp2_with fail
      go_loopw [9, 11] (fun v9 v11 wr => ∃ j : Nat, j ≤ n ∧ v11 = .int .i64 (j : Int) ∧ v9 = .bool true ∧ wr = w4) (fun _ v _ => n - (intOf v).toNat)
      case atStart => exact ⟨0, by omega, rfl, rfl, rfl⟩
      case round =>
        obtain ⟨i, hi, rfl, rfl, hwr⟩ := hrel
        subst hwr
        by_cases hin : i = n
        · subst hin
          go_wp2_with fail
          go_at_call 17
          refine (lcells_any _ _ _ g.cs (Row.of_owns IGr.out) (Row.of_owns A2r.out.rc)).mono ?_
          rintro e w5 ⟨rfl, b5⟩
          have FB := hide (keepF BB.out b5)
          clear b5 y0 y1 y2 y3 y4 y5 y6
          go_wp2_with fail
          go_ret
          exact ⟨rfl, FB.out⟩
        · have hil : i < n := by omega
          obtain ⟨bb, off, rfl, hx0⟩ := HRD.out i hil
          have hx := (BB.out.cell (lt_of_cell hx0)).trans hx0
          have hxl := HQB.out i hil
          clear hx0
          obtain ⟨x, hxx⟩ : ∃ x, Hid (qs.getD i 0 = x) := ⟨_, rfl⟩
          rw [hxx.out] at hx hxl
          have hq1 := hide (hQt.out x hxl)
          have hq2 := hide (hQr.out x hxl)
          generalize qtF g x = y at *
          obtain ⟨z1, z2⟩ := y
          have i1 : (i : Int) < (n : Int) := by omega
          have i2 : (0 : Int) ≤ (i : Int) := by omega
          go_wp2_with (first | (go_at_call 22; refine hq1.out.mono ?_; rintro e w' ⟨rfl, hw⟩; rw [hw]; clear hw w') | (go_at_call 39; refine hq2.out.mono ?_; rintro e w' ⟨rfl, hw⟩; rw [hw]; clear hw w') | (go_at_call 20; refine (hbt _ _).mono ?_; rintro e w' ⟨rfl, hw⟩; rw [hw]; clear hw w'))
          go_roundw
          case rel => exact ⟨i + 1, by omega, by go_num, by first | rfl | simp, by trivial⟩
          case measure => simp [intOf]; omega
    · have hjl : j < K := by omega
      obtain ⟨L', e1, e2⟩ := hL.out
      obtain ⟨b', ca', cur, e, _, _, _, hh, hc⟩ := Iw.at e2 (by omega)
      simp at e
      obtain ⟨rfl, _, _⟩ := e
      have hcell := hc j (by omega)
      have hfr : wr.frozen? ⟨lb, j, none⟩ = false := by simp [World.frozen?, hh]
      have F1 := hide (e2.set j (-1))
      have F2 : Hid (But (fun k => k = lb) w3 (wr.setCell ⟨lb, j, none⟩ (.int .i64 (-1)))) := hide (hBt.out.trans (but_cell _ _ _ _ rfl))
      have HL := hide e1
      have i1 : (j : Int) < (K : Int) := by omega
      have i2 : (0 : Int) ≤ (j : Int) := by omega
      clear hc hh e1 e2 hL hBt
      generalize L'.getD j 0 = xx at *
      go_wp2_with fail
      go_roundw
      case rel => exact ⟨j + 1, by omega, by go_num, ⟨L'.set j (-1), by rw [List.length_set]; exact HL.out, F1.out⟩, F2.out⟩
      case measure => simp [intOf]; omega
end Go.Proofs.Ytjkdhckhokkefaa.Gg

/-
  Several gauges in memory, apart from each other.
-/
namespace Go.Proofs.Ytjkdhckhokkefaa.Gg
open Go.RowKit Rl
set_option linter.unusedVariables false
set_option maxRecDepth 100000
structure E where
  T : TypeId
  b : Nat
  vb : Value
  vc : Value
def E.own (e : E) : Nat → Prop := Own e.b e.vb e.vc
def E.at_ (e : E) (w : World) (g : G) : Prop := At e.T w e.b g e.vb e.vc
def E.tur (e : E) : Nat → Prop := Tur e.b e.vc
theorem E.tur_own {e : E} {k : Nat} (h : e.tur k) : e.own k := by
  rcases h with h | h
  · exact .inl h
  · exact .inr (.inr h)
/-- Gauges apart from each other, all of memory that was not there in W. -/
structure Ens (W w : World) (l : List (E × G)) : Prop where
  all : ∀ p ∈ l, p.1.at_ w p.2
  low : ∀ p ∈ l, ∀ k, p.1.own k → W.heap.size ≤ k
  dis : (l.map Prod.fst).Pairwise (fun e f => ∀ k, e.own k → ¬ f.own k)
  bel : Below W.heap.size W w
theorem Ens.below {W w w' : World} {l : List (E × G)} (h : Ens W w l) (hb : Below w.heap.size w w') : Ens W w' l :=
  ⟨fun p hp => (h.all p hp).below hb, h.low, h.dis, keepF h.bel hb⟩
theorem Ens.nil {W w : World} (h : Below W.heap.size W w) : Ens W w [] := ⟨fun p hp => by simp at hp, fun p hp => by simp at hp, List.Pairwise.nil, h⟩
/-- One of them turned. -/
theorem Ens.turn {W w w' : World} (l1 : List (E × G)) {l2 : List (E × G)} {e : E} {g g' : G} (h : Ens W w (l1 ++ (e, g) :: l2)) (hb : But e.tur w w') (ha : e.at_ w' g') : Ens W w' (l1 ++ (e, g') :: l2) := by
  have hd := h.dis
  rw [List.map_append, List.map_cons, List.pairwise_append] at hd
  obtain ⟨d1, d2, d3⟩ := hd
  rw [List.pairwise_cons] at d2
  refine ⟨fun p hp => ?_, fun p hp => ?_, ?_, ?_⟩
  · rw [List.mem_append, List.mem_cons] at hp
    rcases hp with hp | rfl | hp
    · refine (h.all p (by simp [hp])).but hb fun k hk ht => ?_
      exact d3 p.1 (List.mem_map_of_mem hp) e (by simp) k hk (E.tur_own ht)
    · exact ha
    · refine (h.all p (by simp [hp])).but hb fun k hk ht => ?_
      exact d2.1 p.1 (List.mem_map_of_mem hp) k (E.tur_own ht) hk
  · rw [List.mem_append, List.mem_cons] at hp
    rcases hp with hp | rfl | hp
    · exact h.low p (by simp [hp])
    · exact h.low (e, g) (by simp)
    · exact h.low p (by simp [hp])
  · have := h.dis
    rw [List.map_append, List.map_cons] at this ⊢
    exact this
  · exact h.bel.trans (hb.below h.bel.size fun k hk => h.low (e, g) (by simp) k (E.tur_own hk))
/-- One more, of new memory. -/
theorem Ens.add {W w w' : World} {l : List (E × G)} {e : E} {g : G} (h : Ens W w l) (hb : Below w.heap.size w w') (ha : e.at_ w' g) (hn : ∀ k, e.own k → w.heap.size ≤ k) : Ens W w' (l ++ [(e, g)]) := by
  refine ⟨fun p hp => ?_, fun p hp k hk => ?_, ?_, keepF h.bel hb⟩
  · rw [List.mem_append, List.mem_singleton] at hp
    rcases hp with hp | rfl
    · exact (h.all p hp).below hb
    · exact ha
  · rw [List.mem_append, List.mem_singleton] at hp
    rcases hp with hp | rfl
    · exact h.low p hp k hk
    · exact Nat.le_trans h.bel.size (hn k hk)
  · rw [List.map_append, List.pairwise_append]
    refine ⟨h.dis, by simp, fun a ha' b hb' k hk hk' => ?_⟩
    simp at hb'
    subst hb'
    obtain ⟨p, hp, rfl⟩ := List.mem_map.1 ha'
    have h1 := (h.all p hp).lt k hk
    have h2 := hn k hk'
    omega
/-- Told one number after the other. -/
def pG (g : G) (xs : List Nat) (i : Nat) : G := (xs.take i).foldl putF g
theorem pG_zero (g : G) (xs : List Nat) : pG g xs 0 = g := rfl
theorem pG_succ (g : G) (xs : List Nat) {i : Nat} (hi : i < xs.length) : pG g xs (i + 1) = putF (pG g xs i) (xs.getD i 0) := by
  unfold pG
  rw [List.take_succ_eq_append_getElem hi, List.foldl_append]
  simp [hi]
theorem pG_ok {g : G} {M : Int} (h : Ok M g) {xs : List Nat} (hb : Bs xs) (i : Nat) (hi : i ≤ xs.length) : Ok (M + (i : Int)) (pG g xs i) := by
  induction i with
  | zero => rw [pG_zero]; exact h.mono (by omega)
  | succ i ih =>
    rw [pG_succ g xs (by omega)]
    exact ((ih (by omega)).put _ (hb _ (getD_mem (by omega)))).mono (by omega)
theorem pG_nz {g : G} {M : Int} (h : Ok M g) (hz : Nz g.l) {xs : List Nat} (hb : Bs xs) (i : Nat) (hi : i ≤ xs.length) : Nz (pG g xs i).l := by
  induction i with
  | zero => exact hz
  | succ i ih =>
    rw [pG_succ g xs (by omega)]
    have o := pG_ok h hb i (by omega)
    exact (ih (by omega)).put o.n.1 o.lo _
theorem put_bs (g : G) (x : Nat) : (putF g x).bs = g.bs := by unfold putF; split <;> rfl
theorem pG_bs (g : G) (xs : List Nat) (i : Nat) (hi : i ≤ xs.length) : (pG g xs i).bs = g.bs := by
  induction i with
  | zero => rfl
  | succ i ih => rw [pG_succ g xs (by omega), put_bs, ih (by omega)]
theorem wpList_append_runF {w : World} {ops : Array Oper} {rest : List Oper} {o : Oper} {a : Act} {Q : Exit → Act → World → Prop} (hgd : o.guard = none) (s x : Operand) {vs vx v' : Value} {w' : World}
    (ho : o.op = .call { callee := .builtin .append, args := #[s, x], argTypes := #[24, 24] }) (hs : a.eval s = vs) (hx : a.eval x = vx)
    (hr : (Builtin.append_ #[24, 24] o.type #[vs, vx]).run Try.prog w = .ok v' w') (h : wpList Try.prog ops Q rest (a.put o.dst v') w') : wpList Try.prog ops Q (o :: rest) a w := by
  refine wpList_plain hgd fun K hK => ?_
  exact Lib.wp_append_run _ s x 24 24 ho vs vx hs hx v' w' hr (hK _ _ h)
/-- One float more, onto one's own. -/
theorem run_oneF {B : Nat} {w : World} {v : Value} {l : List Nat} (x : Nat) (gg : Nat) (h : Fw B w v l) (h0 : w.cell? ⟨gg, 0, none⟩ = some (.float .f64 x)) (hl : l.length ≤ 1000000) (hB : B ≤ w.heap.size) (ty : TypeId) :
    ∃ v' w', (Builtin.append_ #[24, 24] ty #[v, .slice (some ⟨gg, 0, none⟩) 1 1]).run Try.prog w = .ok v' w' ∧ Fw B w' v' (l ++ [x]) ∧ w.grownBy w' v.ownBlock := by
  obtain ⟨i0, hi, hz0, hz1, hz2⟩ := info_parts Try.infoF64
  obtain ⟨v', w', hr, ho, hg, _, hat⟩ := run_append_own_at (P := Try.prog) w B 24 ty 26 i0 (.float .f64 0) 1 8 Try.underlying24 hi hz0 hz1 hz2 rfl (by decide) v l.length (fvals l) h ⟨gg, 0, none⟩ 1 1 [.float .f64 x] rfl (by
      intro j u hu
      rw [addr_add]
      match j with
      | 0 => simp at hu; subst hu; exact h0
      | j + 1 => simp at hu) (by
      intro u hu
      simp at hu
      subst hu
      rfl) (by unfold maxLen; omega) (by omega) hB
  refine ⟨v', w', hr, ?_, hg⟩
  unfold Fw
  rw [List.length_append, show fvals (l ++ [x]) = fvals l ++ [.float .f64 x] by simp [fvals]]
  exact ho
/-- A front of one's own list. -/
theorem Fw.front {B : Nat} {w : World} {b n ca : Nat} {l : List Nat} {x : Nat} (h : Fw B w (.slice (some ⟨b, 0, none⟩) n ca) (l ++ [x])) : Fw B w (.slice (some ⟨b, 0, none⟩) l.length ca) l := by
  rcases h.2 with ⟨e, _⟩ | ⟨g', cap, cur, e, hg, hh, a, b', c, d⟩
  · simp at e
  · simp at e
    obtain ⟨rfl, _, rfl⟩ := e
    simp at a
    refine ⟨by simp [fvals], .inr ⟨b, ca, cur, rfl, hg, hh, by omega, b', c, ?_⟩⟩
    have : cur.toList.take (l.length * 1) = (cur.toList.take ((l ++ [x]).length * 1)).take (l.length * 1) := by rw [List.take_take]; congr 1; simp
    rw [this, d]
    simp [fvals]
/-- One of them written over. -/
theorem Fw.set {B : Nat} {w : World} {b n ca : Nat} {l : List Nat} (h : Fw B w (.slice (some ⟨b, 0, none⟩) n ca) l) (k : Nat) (x : Nat) : Fw B (w.setCell ⟨b, k, none⟩ (.float .f64 x)) (.slice (some ⟨b, 0, none⟩) n ca) (l.set k x) := by
  rcases h.2 with ⟨e, _⟩ | ⟨g', cap, cur, e, hg, hh, a, b', c, d⟩
  · simp at e
  · simp at e
    obtain ⟨rfl, rfl, rfl⟩ := e
    have h1 : (w.setCell ⟨b, k, none⟩ (.float .f64 x)).heap[b]? = some (.cells (cur.setIfInBounds k (.float .f64 x)) 26 (0, 0)) := by rw [heap_setCell_same w b k _ _ _ hh]
    refine ⟨by simp [fvals], .inr ⟨b, ca, _, by rw [List.length_set], hg, h1, by rw [List.length_set]; exact a, b', by simpa using c, ?_⟩⟩
    rw [List.length_set, show fvals (l.set k x) = (fvals l).set k (.float .f64 x) by simp [fvals, List.map_set], ← d]
    simp [List.take_set]
theorem sameL_refl (l : List Nat) : sameL l l := ⟨rfl, fun _ _ => rfl⟩
end Go.Proofs.Ytjkdhckhokkefaa.Gg

/-
  Four gauges side by side: the program's and the document's, twice.
-/
namespace Go.Proofs.Ytjkdhckhokkefaa.Gg
open Go.RowKit Rl
set_option linter.unusedVariables false
set_option maxRecDepth 100000
def eP (b : Nat) (vb vc : Value) : E := ⟨64, b, vb, vc⟩
def eR (b : Nat) (vb vc : Value) : E := ⟨66, b, vb, vc⟩
theorem Ens.but {W w w' : World} {l : List (E × G)} {X : Nat → Prop} (h : Ens W w l) (hb : But X w w') (hx : ∀ p ∈ l, ∀ k, p.1.own k → ¬ X k) (hl : ∀ k, X k → W.heap.size ≤ k) : Ens W w' l :=
  ⟨fun p hp => (h.all p hp).but hb (hx p hp), h.low, h.dis, h.bel.trans (hb.below h.bel.size hl)⟩
theorem Ens.perm {W w : World} {l l' : List (E × G)} (h : Ens W w l) (hp : l.Perm l') : Ens W w l' := by
  refine ⟨fun p hp' => h.all p (hp.mem_iff.2 hp'), fun p hp' => h.low p (hp.mem_iff.2 hp'), ?_, h.bel⟩
  exact (List.Perm.pairwise_iff (fun {a b} (r : ∀ k, a.own k → ¬ b.own k) k hb ha => r k ha hb) (hp.map Prod.fst)).1 h.dis
/-- Where the four lie. -/
structure Pl where
  b1 : Nat
  a1 : Value
  c1 : Value
  b2 : Nat
  a2 : Value
  c2 : Value
  b3 : Nat
  a3 : Value
  c3 : Value
  b4 : Nat
  a4 : Value
  c4 : Value
def Q4 (W w : World) (p : Pl) (G1 G2 G3 G4 : G) (lx : List (E × G)) : Prop := Ens W w ([(eP p.b1 p.a1 p.c1, G1), (eR p.b2 p.a2 p.c2, G2), (eP p.b3 p.a3 p.c3, G3), (eR p.b4 p.a4 p.c4, G4)] ++ lx)
variable {W w w' : World} {p : Pl} {G1 G2 G3 G4 g' : G} {lx : List (E × G)}
theorem Q4.bel (h : Q4 W w p G1 G2 G3 G4 lx) : Below W.heap.size W w := Ens.bel h
theorem Q4.below (h : Q4 W w p G1 G2 G3 G4 lx) (hb : Below w.heap.size w w') : Q4 W w' p G1 G2 G3 G4 lx := Ens.below h hb
theorem Q4.a1 (h : Q4 W w p G1 G2 G3 G4 lx) : At 64 w p.b1 G1 p.a1 p.c1 := Ens.all h (eP p.b1 p.a1 p.c1, G1) (by simp)
theorem Q4.a2 (h : Q4 W w p G1 G2 G3 G4 lx) : At 66 w p.b2 G2 p.a2 p.c2 := Ens.all h (eR p.b2 p.a2 p.c2, G2) (by simp)
theorem Q4.a3 (h : Q4 W w p G1 G2 G3 G4 lx) : At 64 w p.b3 G3 p.a3 p.c3 := Ens.all h (eP p.b3 p.a3 p.c3, G3) (by simp)
theorem Q4.a4 (h : Q4 W w p G1 G2 G3 G4 lx) : At 66 w p.b4 G4 p.a4 p.c4 := Ens.all h (eR p.b4 p.a4 p.c4, G4) (by simp)
theorem Q4.t1 (h : Q4 W w p G1 G2 G3 G4 lx) (ha : At 64 w' p.b1 g' p.a1 p.c1) (hb : But (Tur p.b1 p.c1) w w') : Q4 W w' p g' G2 G3 G4 lx := Ens.turn [] (e := eP p.b1 p.a1 p.c1) (g := G1) h hb ha
theorem Q4.t2 (h : Q4 W w p G1 G2 G3 G4 lx) (ha : At 66 w' p.b2 g' p.a2 p.c2) (hb : But (Tur p.b2 p.c2) w w') : Q4 W w' p G1 g' G3 G4 lx := Ens.turn [(eP p.b1 p.a1 p.c1, G1)] (e := eR p.b2 p.a2 p.c2) (g := G2) h hb ha
theorem Q4.t3 (h : Q4 W w p G1 G2 G3 G4 lx) (ha : At 64 w' p.b3 g' p.a3 p.c3) (hb : But (Tur p.b3 p.c3) w w') : Q4 W w' p G1 G2 g' G4 lx := Ens.turn [(eP p.b1 p.a1 p.c1, G1), (eR p.b2 p.a2 p.c2, G2)] (e := eP p.b3 p.a3 p.c3) (g := G3) h hb ha
theorem Q4.t4 (h : Q4 W w p G1 G2 G3 G4 lx) (ha : At 66 w' p.b4 g' p.a4 p.c4) (hb : But (Tur p.b4 p.c4) w w') : Q4 W w' p G1 G2 G3 g' lx := Ens.turn [(eP p.b1 p.a1 p.c1, G1), (eR p.b2 p.a2 p.c2, G2), (eP p.b3 p.a3 p.c3, G3)] (e := eR p.b4 p.a4 p.c4) (g := G4) h hb ha
/-- What New answers: its error's number. -/
def codeN (l : List Nat) : Int := if 64 < l.length then 9 else if (List.range l.length).all (okAt l) then 0 else 1
theorem code_rises {l : List Nat} : (List.range l.length).all (okAt l) = true ↔ Rises l := by
  rw [List.all_eq_true]
  exact ⟨fun h i hi => h i (List.mem_range.2 hi), fun h i hi => h i (List.mem_range.1 hi)⟩
theorem code_many {l : List Nat} (h : 64 < l.length) : codeN l = 9 := by unfold codeN; rw [if_pos h]
theorem code_bad {l : List Nat} (h : l.length ≤ 64) (hr : ¬ Rises l) : codeN l = 1 := by
  unfold codeN
  rw [if_neg (by omega), if_neg (fun c => hr (code_rises.1 c))]
theorem code_ok {l : List Nat} (h : l.length ≤ 64) (hr : Rises l) : codeN l = 0 := by
  unfold codeN
  rw [if_neg (by omega), if_pos (code_rises.2 hr)]
theorem code_inv {l : List Nat} (h : codeN l = 0) : l.length ≤ 64 ∧ Rises l := by
  by_cases h1 : 64 < l.length
  · rw [code_many h1] at h; omega
  · by_cases h2 : Rises l
    · exact ⟨by omega, h2⟩
    · rw [code_bad (by omega) h2] at h; omega
theorem new_code (w : World) (v : Value) (l : List Nat) (hx : Row w v (fvals l)) (hb : Bs l) :
    Calls Try.prog 10 #[v] w fun e w' => ∃ po, e = .returned (.tuple #[.pointer po, .int .i64 (codeN l)]) ∧ Below w.heap.size w w' ∧ (codeN l ≠ 0 → po = none) ∧ (codeN l = 0 → ∃ b vb vc, po = some ⟨b, 0, none⟩ ∧ (eP b vb vc).at_ w' (g0 l) ∧ ∀ k, (eP b vb vc).own k → w.heap.size ≤ k) := by
  refine (new_any w v l hx hb).mono ?_
  rintro e w' ⟨b0, ⟨h1, rfl⟩ | ⟨h1, h2, rfl⟩ | ⟨h1, h2, b, vb, vc, rfl, a, o⟩⟩
  · exact ⟨none, by rw [code_many h1], b0, fun _ => rfl, fun c => by rw [code_many h1] at c; omega⟩
  · exact ⟨none, by rw [code_bad h1 h2], b0, fun _ => rfl, fun c => by rw [code_bad h1 h2] at c; omega⟩
  · exact ⟨_, by rw [code_ok h1 h2], b0, fun c => absurd (code_ok h1 h2) c, fun _ => ⟨b, vb, vc, rfl, a, o⟩⟩
theorem rnew_code (w : World) (v : Value) (l : List Nat) (hx : Row w v (fvals l)) (hb : Bs l) :
    Calls Try.prog 11 #[v] w fun e w' => ∃ po, e = .returned (.tuple #[.pointer po, .int .i64 (codeN l)]) ∧ Below w.heap.size w w' ∧ (codeN l ≠ 0 → po = none) ∧ (codeN l = 0 → ∃ b vb vc, po = some ⟨b, 0, none⟩ ∧ (eR b vb vc).at_ w' (g0 l) ∧ ∀ k, (eR b vb vc).own k → w.heap.size ≤ k) := by
  refine (rnew_any w v l hx hb).mono ?_
  rintro e w' ⟨b0, ⟨h1, rfl⟩ | ⟨h1, h2, rfl⟩ | ⟨h1, h2, b, vb, vc, rfl, a, o⟩⟩
  · exact ⟨none, by rw [code_many h1], b0, fun _ => rfl, fun c => by rw [code_many h1] at c; omega⟩
  · exact ⟨none, by rw [code_bad h1 h2], b0, fun _ => rfl, fun c => by rw [code_bad h1 h2] at c; omega⟩
  · exact ⟨_, by rw [code_ok h1 h2], b0, fun c => absurd (code_ok h1 h2) c, fun _ => ⟨b, vb, vc, rfl, a, o⟩⟩
end Go.Proofs.Ytjkdhckhokkefaa.Gg

/-
  GaugeAll: its walk. (gen_GrI.py)
-/
namespace Go.Proofs.Ytjkdhckhokkefaa.Gg
open Go.RowKit Rl
set_option linter.unusedVariables false
set_option maxRecDepth 100000
theorem form_u {w : World} {v : Value} {us : List Nat} (h : Row w v (uvals us)) : ∃ ao ca, v = .slice ao us.length ca := by
  obtain ⟨ao, ca, rfl, _⟩ := h
  exact ⟨ao, ca, by simp [uvals]⟩
theorem tur_own {b : Nat} {vb vc : Value} {k : Nat} (h : Tur b vc k) : Own b vb vc k := by
  rcases h with h | h
  · exact .inl h
  · exact .inr (.inr h)
theorem perm4 {α : Type} (a b c d : α) (l m : List α) : ([a, b] ++ l ++ m ++ [c] ++ [d]).Perm ([a, b, c, d] ++ (l ++ m)) := by
  have e : [a, b] ++ l ++ m ++ [c] ++ [d] = [a, b] ++ ((l ++ m) ++ [c, d]) := by simp
  rw [e]
  exact List.Perm.append_left [a, b] (List.perm_append_comm (l₁ := l ++ m) (l₂ := [c, d]))
/-- One more, where it was made. -/
theorem Ens.maybe {W w w' : World} {l : List (E × G)} {g : G} {c : Int} {po : Option Addr} {mk : Nat → Value → Value → E} (hb : ∀ b vb vc, (mk b vb vc).b = b) (h : Ens W w l) (hB : Below w.heap.size w w') (hn : c = 0 → ∃ b vb vc, po = some ⟨b, 0, none⟩ ∧ (mk b vb vc).at_ w' g ∧ ∀ k, (mk b vb vc).own k → w.heap.size ≤ k) : ∃ lx, Ens W w' (l ++ lx) ∧ (c = 0 → ∃ b vb vc, po = some ⟨b, 0, none⟩ ∧ lx = [(mk b vb vc, g)]) := by
  by_cases h0 : c = 0
  · obtain ⟨b, vb, vc, e, a, o⟩ := hn h0
    exact ⟨[(mk b vb vc, g)], h.add hB a o, fun _ => ⟨b, vb, vc, e, rfl⟩⟩
  · exact ⟨[], by rw [List.append_nil]; exact h.below hB, fun c => absurd c h0⟩
set_option maxHeartbeats 8000000 in
theorem all_walk (W : World) (v0 v1 v2 v3 v4 : Value) (bo xs mo ot qs : List Nat) (r0 : Row W v0 (uvals bo)) (r1 : Row W v1 (uvals xs)) (r2 : Row W v2 (uvals mo)) (r3 : Row W v3 (uvals ot)) (r4 : Row W v4 (uvals qs)) (hb0 : Bs bo) (hb1 : Bs xs) (hb2 : Bs mo) (hb3 : Bs ot) (hb4 : Bs qs)
    (z0 : bo.length * 8 ≤ 140737488355328) (z1 : xs.length * 8 ≤ 140737488355328) (z2 : mo.length * 8 ≤ 140737488355328) (z3 : ot.length * 8 ≤ 140737488355328) (z4 : qs.length * 8 ≤ 140737488355328) :
    Calls Try.prog 3 #[v0, v1, v2, v3, v4] W fun e w' => e = .returned (.bool true) ∧ Below W.heap.size W w' := by
  have R0 := hide r0
  have R1 := hide r1
  have R2 := hide r2
  have R3 := hide r3
  have R4 := hide r4
  have HB0 := hide hb0
  have HB1 := hide hb1
  have HB2 := hide hb2
  have HB3 := hide hb3
  have HB4 := hide hb4
  obtain ⟨o0, q0, rfl⟩ := form_u r0
  obtain ⟨o1, q1, rfl⟩ := form_u r1
  obtain ⟨o2, q2, rfl⟩ := form_u r2
  obtain ⟨o3, q3, rfl⟩ := form_u r3
  obtain ⟨o4, q4, rfl⟩ := form_u r4
  obtain ⟨n0, hn0⟩ : ∃ n, Hid (bo.length = n) := ⟨_, rfl⟩
  obtain ⟨n1, hn1⟩ : ∃ n, Hid (xs.length = n) := ⟨_, rfl⟩
  obtain ⟨n2, hn2⟩ : ∃ n, Hid (mo.length = n) := ⟨_, rfl⟩
  obtain ⟨n3, hn3⟩ : ∃ n, Hid (ot.length = n) := ⟨_, rfl⟩
  obtain ⟨n4, hn4⟩ : ∃ n, Hid (qs.length = n) := ⟨_, rfl⟩
  rw [hn0.out] at R0 ⊢
  rw [hn1.out] at R1 ⊢
  rw [hn2.out] at R2 ⊢
  rw [hn3.out] at R3 ⊢
  rw [hn4.out] at R4 ⊢
  clear r0 r1 r2 r3 r4 hb0 hb1 hb2 hb3 hb4
  have sf : ∀ (W : World) (a : Addr) (x : Nat), (store a (.float .f64 x)).run Try.prog W = stored Try.prog W a (.float .f64 x) .plain := fun W a x => run_store _ W a _ _ rfl
  go_enter Try.func3, Try.ntmps3
  go_wp2_with fail
  go_at_call 8
  refine (begun_any _).mono ?_
  rintro e w1 ⟨rfl, b1⟩
  have BW := hide b1
  clear b1
  by_cases h1 : 300 < n1
  · have k1 : (300 : Int) < (n1 : Int) := by omega
    go_wp2_with fail
    go_ret
    exact ⟨rfl, BW.out⟩
  have k1 : ¬ (300 : Int) < (n1 : Int) := by omega
  by_cases h2 : 300 < n2
  · have k2 : (300 : Int) < (n2 : Int) := by omega
    go_wp2_with fail
    go_ret
    exact ⟨rfl, BW.out⟩
  have k2 : ¬ (300 : Int) < (n2 : Int) := by omega
  by_cases h3 : 30 < n4
  · have k3 : (30 : Int) < (n4 : Int) := by omega
    go_wp2_with fail
    go_ret
    exact ⟨rfl, BW.out⟩
  have k3 : ¬ (30 : Int) < (n4 : Int) := by omega
  by_cases h4 : 100 < n0
  · have k4 : (100 : Int) < (n0 : Int) := by omega
    go_wp2_with fail
    go_ret
    exact ⟨rfl, BW.out⟩
  have k4 : ¬ (100 : Int) < (n0 : Int) := by omega
  go_upto_region 5 with fail
  go_wp2_with fail
  go_at_call 9
  refine (of_any _ _ bo (Below.row BW.out R0.out) z0).mono ?_
  rintro e w2 ⟨vb, rfl, fb, bb⟩
  replace fb : Hid (Fw w1.heap.size w2 vb bo) := hide fb
  replace BW := hide (keepF BW.out bb)
  have hsz2 : Hid (W.heap.size ≤ w2.heap.size) := hide BW.out.size
  clear bb
  obtain ⟨ao, bca, rfl, y1, y2, y3⟩ := row_flts (Row.of_owns fb.out)
  obtain ⟨v50, w3, hr1, f3, b3⟩ := run_dupF (Row.of_owns fb.out) (by rw [hn0.out]; omega) 24
  have B4 := box_below w3 (.cells #[.float .f64 4619567317775286272] 26)
  have N4 := heap_alloc_new w3 (.cells #[.float .f64 4619567317775286272] 26)
  obtain ⟨v52, w5, hr2, f5, g5⟩ := run_oneF 4619567317775286272 w3.heap.size (owns_below f3 B4) (by rw [cell_of N4]; rfl) (by rw [hn0.out]; omega) (Nat.le_trans b3.size B4.size) 24
  have B5 : Hid (Below w2.heap.size w2 w5) := hide (Below.grown (keepF b3 B4) g5 (Nat.le_trans b3.size B4.size) (fun k hk => (World.ownsRow.lt f3 k hk).1))
  obtain ⟨hb, hca, rfl, t1, t2, t3, _⟩ := Fw.at f5 (by simp)
  have FF := hide (Fw.front f5)
  have hhb : Hid (w2.heap.size ≤ hb ∧ hb < w5.heap.size) := hide (World.ownsRow.lt f5 hb rfl)
  have hle : n0 + 1 ≤ hca := by simpa [hn0.out] using t2
  have hlen5 : (bo ++ [4619567317775286272]).length = n0 + 1 := by simp [hn0.out]
  rw [hlen5] at hr2
  rw [hn0.out] at hr1 FF fb y2 ⊢
  have hr1' := hide hr1
  have hr2' := hide hr2
  have i0 : (0 : Int) ≤ (n0 : Int) := by omega
  have i00 : (n0 : Int) ≤ (hca : Int) := by omega
  have i01 : n0 ≤ hca := by omega
  clear hr1 hr2 f3 b3 B4 N4 f5 g5 t2 t3 hlen5 y3
  go_upto_region 7 with (at_builtin; first | refine wpList_append_runF rfl (.const (.slice none 0 0)) (.tmp 49) rfl rfl rfl hr1'.out ?_ | refine wpList_append_runF rfl (.tmp 50) (.tmp 51) rfl rfl rfl hr2'.out ?_)
  clear hr1' hr2'
  have BW5 := hide (keepF BW.out B5.out)
  have fb5 : Hid (Fw w1.heap.size w5 (.slice ao n0 bca) bo) := hide (owns_below fb.out B5.out)
  have hvb : Hid (∀ k, (Value.slice ao n0 bca).ownBlock = some k → k < w2.heap.size) := hide fun k hk => (World.ownsRow.lt fb.out k hk).2
  clear fb BW
  go_wp2_with fail
  go_at_call 10
  refine (new_code _ _ bo (Row.of_owns FF.out) HB0.out).mono ?_
  rintro e w6 ⟨po1, rfl, b6, P6, N6⟩
  have B6 := hide b6
  have fb6 : Hid (Fw w1.heap.size w6 (.slice ao n0 bca) bo) := hide (owns_below fb5.out b6)
  replace P6 := hide P6
  replace N6 := hide N6
  clear b6 fb5
  go_wp2_with fail
  go_at_call 11
  refine (rnew_code _ _ bo (Row.of_owns fb6.out) HB0.out).mono ?_
  rintro e w7 ⟨pr1, rfl, b7, P7, N7⟩
  have B7 := hide b7
  have fb7 : Hid (Fw w1.heap.size w7 (.slice ao n0 bca) bo) := hide (owns_below fb6.out b7)
  replace P7 := hide P7
  replace N7 := hide N7
  clear b7 fb6
  by_cases hc0 : codeN bo = 0
  rotate_left
  · have hcz : (codeN bo == 0) = false := by simp [hc0]
    obtain rfl := P6.out hc0
    have FIN := hide (keepF (keepF BW5.out B6.out) B7.out)
    generalize codeN bo = cbo at *
    go_wp2_with fail
    go_ret
    exact ⟨rfl, FIN.out⟩
  obtain ⟨b1, a1, c1, rfl, A1, O1⟩ := N6.out hc0
  obtain ⟨b2, a2, c2, rfl, A2, O2⟩ := N7.out hc0
  have EN0 : Hid (Ens W w7 [(eP b1 a1 c1, g0 bo), (eR b2 a2 c2, g0 bo)]) := hide (((Ens.nil BW5.out).add B6.out A1 O1).add B7.out A2 O2)
  have hap : Hid (∀ k, (eP b1 a1 c1).own k ∨ (eR b2 a2 c2).own k → k ≠ hb) := hide fun k hk e => by
    have h5 := hhb.out.2
    rcases hk with hk | hk
    · have := O1 k hk; omega
    · have := O2 k hk; have := B6.out.size; omega
  have FF7 : Hid (Fw w2.heap.size w7 (.slice (some ⟨hb, 0, none⟩) n0 hca) bo) := hide (owns_below (owns_below FF.out B6.out) B7.out)
  have OK0 : Hid (Ok 0 (g0 bo)) := hide (Ok.new (code_inv hc0).1 HB0.out (code_inv hc0).2)
  rw [hc0]
  clear P6 N6 P7 N7 A1 A2 O1 O2 B6 B7 FF B5
  go_wp2_with fail
  go_loopw [17] (fun v17 wr => ∃ j : Nat, j ≤ n0 ∧ v17 = .int .i64 (j : Int) ∧ Hid (∃ L', L'.length = n0 ∧ Fw w2.heap.size wr (.slice (some ⟨hb, 0, none⟩) n0 hca) L') ∧ Hid (But (fun k => k = hb) w7 wr)) (fun v _ => n0 - (intOf v).toNat)
  case atStart => exact ⟨0, by omega, rfl, ⟨bo, hn0.out, FF7.out⟩, But.refl _ _⟩
  case round =>
    obtain ⟨j, hj, rfl, hL, hBt⟩ := hrel
    by_cases hjn : j = n0
    rotate_left
    · have hjl : j < n0 := by omega
      obtain ⟨L', e1, e2⟩ := hL.out
      obtain ⟨b', ca', e, _, _, _, hc⟩ := Fw.at e2 (by omega)
      simp at e
      obtain ⟨rfl, _, _⟩ := e
      have hcell := hc j (by omega)
      have hfr : wr.frozen? ⟨hb, j, none⟩ = false := by
        rcases e2.2 with ⟨e, _⟩ | ⟨g', cap, cur, e, hg, hh, _⟩
        · simp at e
        · simp at e
          obtain ⟨rfl, _, _⟩ := e
          simp [World.frozen?, hh]
      have F1 := hide (Fw.set e2 j 4613937818241073152)
      have F2 : Hid (But (fun k => k = hb) w7 (wr.setCell ⟨hb, j, none⟩ (.float .f64 4613937818241073152))) := hide (hBt.out.trans (but_cell _ _ _ _ rfl))
      have HL := hide e1
      have j1 : (j : Int) < (n0 : Int) := by omega
      have j2 : (0 : Int) ≤ (j : Int) := by omega
      clear hc e1 e2 hL hBt
      generalize L'.getD j 0 = xx at *
      go_wp2_with fail
      go_roundw
      case rel => exact ⟨j + 1, by omega, by go_num, ⟨L'.set j 4613937818241073152, by rw [List.length_set]; exact HL.out, F1.out⟩, F2.out⟩
      case measure => simp [intOf]; omega
    subst hjn
    have EN8 : Hid (Ens W wr [(eP b1 a1 c1, g0 bo), (eR b2 a2 c2, g0 bo)]) := hide (EN0.out.but hBt.out (fun p hp k hk => by
      simp at hp
      rcases hp with rfl | rfl
      · exact hap.out k (.inl hk)
      · exact hap.out k (.inr hk)) (fun k hk => by have := hhb.out.1; have := hsz2.out; omega))
    have fb8 : Hid (Fw w1.heap.size wr (.slice ao j bca) bo) := hide (owns_but fb7.out hBt.out fun k hk e => by have := hvb.out k hk; have := hhb.out.1; omega)
    clear hL hBt EN0 fb7 FF7 hap hvb hhb
    generalize wr = w8 at *
    go_upto_region 15 with fail
    go_wp2_with fail
    go_at_call 9
    refine (of_any _ _ ot (Below.row EN8.out.bel R3.out) z3).mono ?_
    rintro e w9 ⟨v9, rfl, f9, b9⟩
    replace f9 : Hid (Fw w8.heap.size w9 v9 ot) := hide f9
    have EN9 := hide (EN8.out.below b9)
    have fb9 : Hid (Fw w1.heap.size w9 (.slice ao j bca) bo) := hide (owns_below fb8.out b9)
    clear b9 EN8 fb8
    go_wp2_with fail
    go_at_call 10
    refine (new_code _ _ ot (Row.of_owns f9.out) HB3.out).mono ?_
    rintro e w10 ⟨po, rfl, b10, P10, N10⟩
    obtain ⟨lx1, EN10, hlx1⟩ := Ens.maybe (mk := eP) (fun _ _ _ => rfl) EN9.out b10 N10
    have fb10 : Hid (Fw w1.heap.size w10 (.slice ao j bca) bo) := hide (owns_below fb9.out b10)
    replace EN10 := hide EN10
    replace hlx1 := hide hlx1
    clear b10 P10 N10 EN9 fb9 f9
    go_upto_region 16 with fail
    go_wp2_with fail
    go_at_call 9
    refine (of_any _ _ ot (Below.row EN10.out.bel R3.out) z3).mono ?_
    rintro e w11 ⟨v11, rfl, f11, b11⟩
    replace f11 : Hid (Fw w10.heap.size w11 v11 ot) := hide f11
    have EN11 := hide (EN10.out.below b11)
    have fb11 : Hid (Fw w1.heap.size w11 (.slice ao j bca) bo) := hide (owns_below fb10.out b11)
    clear b11 EN10 fb10
    go_wp2_with fail
    go_at_call 11
    refine (rnew_code _ _ ot (Row.of_owns f11.out) HB3.out).mono ?_
    rintro e w12 ⟨pp, rfl, b12, P12, N12⟩
    obtain ⟨lx2, EN12, hlx2⟩ := Ens.maybe (mk := eR) (fun _ _ _ => rfl) EN11.out b12 N12
    have fb12 : Hid (Fw w1.heap.size w12 (.slice ao j bca) bo) := hide (owns_below fb11.out b12)
    replace EN12 := hide EN12
    replace hlx2 := hide hlx2
    clear b12 P12 N12 EN11 fb11 f11
    go_wp2_with fail
    go_at_call 10
    refine (new_code _ _ bo (Row.of_owns fb12.out) HB0.out).mono ?_
    rintro e w13 ⟨po3, rfl, b13, P13, N13⟩
    obtain ⟨b3, a3, c3, rfl, A3, O3⟩ := N13 hc0
    have EN13 := hide (EN12.out.add b13 A3 O3)
    have fb13 : Hid (Fw w1.heap.size w13 (.slice ao j bca) bo) := hide (owns_below fb12.out b13)
    clear b13 P13 N13 EN12 fb12 A3 O3
    go_wp2_with fail
    go_at_call 11
    refine (rnew_code _ _ bo (Row.of_owns fb13.out) HB0.out).mono ?_
    rintro e w14 ⟨po4, rfl, b14, P14, N14⟩
    obtain ⟨b4, a4, c4, rfl, A4, O4⟩ := N14 hc0
    have EN14 := hide (EN13.out.add b14 A4 O4)
    have QQ0 : Hid (Q4 W w14 (⟨b1, a1, c1, b2, a2, c2, b3, a3, c3, b4, a4, c4⟩ : Pl) (g0 bo) (g0 bo) (g0 bo) (g0 bo) (lx1 ++ lx2)) := hide (EN14.out.perm (perm4 _ _ _ _ lx1 lx2))
    have HLX0 : Hid (codeN ot = 0 → ∃ (eo ep : Nat × Value × Value), lx1 ++ lx2 = [(eP eo.1 eo.2.1 eo.2.2, g0 ot), (eR ep.1 ep.2.1 ep.2.2, g0 ot)] ∧ po = some ⟨eo.1, 0, none⟩ ∧ pp = some ⟨ep.1, 0, none⟩) := hide fun h0 => by
      obtain ⟨x1, x2, x3, e1, e2⟩ := hlx1.out h0
      obtain ⟨y1, y2, y3, e3, e4⟩ := hlx2.out h0
      exact ⟨(x1, x2, x3), (y1, y2, y3), by rw [e2, e4]; rfl, e1, e3⟩
    clear b14 P14 N14 EN13 fb13 A4 O4 EN14 hlx1 hlx2
    obtain ⟨lx, hlxx⟩ : ∃ lx, Hid (lx1 ++ lx2 = lx) := ⟨_, rfl⟩
    rw [hlxx.out] at QQ0 HLX0
    have QQ := QQ0
    have HLX := HLX0
    clear QQ0 HLX0 hlxx
    rw [hc0]
    have hcoo : (codeN ot == codeN ot) = true := by simp
    go_wp2_with fail
    go_loopw [24] (fun vi wr => ∃ i : Nat, i ≤ n1 ∧ vi = .int .i64 (i : Int) ∧ Hid (Q4 W wr (⟨b1, a1, c1, b2, a2, c2, b3, a3, c3, b4, a4, c4⟩ : Pl) (pG (g0 bo) xs i) (pG (g0 bo) xs i) (g0 bo) (g0 bo) lx)) (fun v _ => n1 - (intOf v).toNat)
    case atStart => exact ⟨0, by omega, rfl, QQ.out⟩
    case round =>
      clear QQ
      obtain ⟨i, hi, rfl, hQ⟩ := hrel
      by_cases hin : i = n1
      · have hin' := hin.symm
        clear hin
        subst hin'
        have QQ := hQ
        clear hQ
        go_wp2_with fail
        go_loopw [25] (fun vi wr => ∃ i : Nat, i ≤ n2 ∧ vi = .int .i64 (i : Int) ∧ Hid (Q4 W wr (⟨b1, a1, c1, b2, a2, c2, b3, a3, c3, b4, a4, c4⟩ : Pl) (pG (g0 bo) xs n1) (pG (g0 bo) xs n1) (pG (g0 bo) mo i) (pG (g0 bo) mo i) lx)) (fun v _ => n2 - (intOf v).toNat)
        case atStart => exact ⟨0, by omega, rfl, QQ.out⟩
        case round =>
          clear QQ
          obtain ⟨i, hi, rfl, hQ⟩ := hrel
          by_cases hin : i = n2
          · have hin' := hin.symm
            clear hin
            subst hin'
            have QQ := hQ
            clear hQ
            have OK1 := hide ((pG_ok OK0.out HB1.out n1 (by have := hn1.out; omega)).mono (show (0 : Int) + (n1 : Int) ≤ 300 by omega))
            have OK2 := hide ((pG_ok OK0.out HB2.out n2 (by have := hn2.out; omega)).mono (show (0 : Int) + (n2 : Int) ≤ 300 by omega))
            have NZ1 := hide (pG_nz OK0.out (nz0 bo) HB1.out n1 (by have := hn1.out; omega))
            have NZ2 := hide (pG_nz OK0.out (nz0 bo) HB2.out n2 (by have := hn2.out; omega))
            have BS1 : Hid ((pG (g0 bo) xs n1).bs = bo) := hide (pG_bs _ _ _ (by have := hn1.out; omega))
            have BS2 : Hid ((pG (g0 bo) mo n2).bs = bo) := hide (pG_bs _ _ _ (by have := hn2.out; omega))
            obtain ⟨GA, hGA⟩ : ∃ GA, Hid (pG (g0 bo) xs n1 = GA) := ⟨_, rfl⟩
            obtain ⟨GB, hGB⟩ : ∃ GB, Hid (pG (g0 bo) mo n2 = GB) := ⟨_, rfl⟩
            rw [hGA.out] at OK1 NZ1 BS1 QQ
            rw [hGB.out] at OK2 NZ2 BS2 QQ
            go_upto_region 31 with fail
            go_wp2_with fail
            go_at_call 9
            refine (of_any _ _ qs (Below.row QQ.out.bel R4.out) z4).mono ?_
            rintro e wy ⟨vq, rfl, FQ, by_⟩
            replace FQ : Hid (Fw _ wy vq qs) := hide FQ
            have FQ1 : Hid (∀ k, vq.ownBlock = some k → ¬ Tur b1 c1 k) := hide fun k hk ht => by
              have a := (World.ownsRow.lt FQ.out k hk).1
              have c := QQ.out.a1.lt k (tur_own ht)
              omega
            have FQ2 : Hid (∀ k, vq.ownBlock = some k → ¬ Tur b2 c2 k) := hide fun k hk ht => by
              have a := (World.ownsRow.lt FQ.out k hk).1
              have c := QQ.out.a2.lt k (tur_own ht)
              omega
            replace QQ := hide (QQ.out.below by_)
            clear by_
            go_wp2_with fail
            go_at_call 14
            refine (same_walk _ b1 GA a1 c1 b2 a2 c2 300 _ qs QQ.out.a1 QQ.out.a2 OK1.out (by omega) (Row.of_owns FQ.out) HB4.out).mono ?_
            rintro e ww ⟨rfl, bw⟩
            replace QQ := hide (QQ.out.below bw)
            replace FQ := hide (owns_below FQ.out bw)
            clear bw
            generalize ww = wz at *
            go_wp2_with fail
            go_at_call 14
            refine (same_walk _ b3 GB a3 c3 b4 a4 c4 300 _ qs QQ.out.a3 QQ.out.a4 OK2.out (by omega) (Row.of_owns FQ.out) HB4.out).mono ?_
            rintro e ww ⟨rfl, bw⟩
            replace QQ := hide (QQ.out.below bw)
            replace FQ := hide (owns_below FQ.out bw)
            clear bw
            generalize ww = wz at *
            by_cases hot : codeN ot = 0
            · obtain ⟨eo, ep, hlx, hpo, hpp⟩ := HLX.out hot
              have OKo : Hid (Ok 300 (g0 ot)) := hide ((Ok.new (code_inv hot).1 HB3.out (code_inv hot).2).mono (by omega))
              obtain ⟨eob, eoa, eoc⟩ := eo
              obtain ⟨epb, epa, epc⟩ := ep
              simp only at hpo hpp hlx
              subst hpo
              subst hpp
              subst hlx
              have Ao := hide (fun u (h : Q4 W u (⟨b1, a1, c1, b2, a2, c2, b3, a3, c3, b4, a4, c4⟩ : Pl) GA GA GB GB [(eP eob eoa eoc, g0 ot), (eR epb epa epc, g0 ot)]) => (Ens.all h (eP eob eoa eoc, g0 ot) (by simp) : At 64 u eob (g0 ot) eoa eoc))
              have Ap := hide (fun u G' (h : Q4 W u (⟨b1, a1, c1, b2, a2, c2, b3, a3, c3, b4, a4, c4⟩ : Pl) G' GA GB GB [(eP eob eoa eoc, g0 ot), (eR epb epa epc, g0 ot)]) => (Ens.all h (eR epb epa epc, g0 ot) (by simp) : At 66 u epb (g0 ot) epa epc))
              rw [hot]
              go_wp2_with fail
              go_at_call 15
              refine (merge_any _ b1 GA a1 c1 eob (g0 ot) eoa eoc 300 QQ.out.a1 (Ao.out _ QQ.out) OK1.out OKo.out (by omega)).mono ?_
              rintro e wm (⟨hsa, rfl, Am, Bm⟩ | ⟨hno, rfl, bm⟩)
              · replace FQ := hide (owns_but FQ.out Bm FQ1.out)
                replace QQ := hide (QQ.out.t1 Am Bm)
                clear Am Bm
                go_wp2_with fail
                go_at_call 16
                refine (rmerge_any _ b2 GA a2 c2 epb (g0 ot) epa epc 300 QQ.out.a2 (Ap.out _ _ QQ.out) OK1.out OKo.out NZ1.out (nz0 ot) (by omega)).mono ?_
                rintro e wn (⟨_, rfl, Am, Bm⟩ | ⟨hno, _, _⟩)
                rotate_left
                · exact absurd hsa hno
                replace FQ := hide (owns_but FQ.out Bm FQ2.out)
                replace QQ := hide (QQ.out.t2 Am Bm)
                clear Am Bm
                have okA : Hid (Ok 600 (mgF GA (g0 ot))) := hide ((OK1.out.merge OKo.out hsa.1).mono (by omega))
                have nzA : Hid (Nz (mgF GA (g0 ot)).l) := hide (NZ1.out.merge (nz0 ot) OK1.out.n.1 OKo.out.n.1 OK1.out.lo)
                have bsA : Hid ((mgF GA (g0 ot)).bs = bo) := hide BS1.out
                have okB : Hid (Ok 600 GB) := hide (OK2.out.mono (by omega))
                have nzB := NZ2
                have bsB := BS2
                clear Ao Ap hsa
                obtain ⟨GA', hGA'⟩ : ∃ GA', Hid (mgF GA (g0 ot) = GA') := ⟨_, rfl⟩
                rw [hGA'.out] at QQ okA nzA bsA
                clear OK1 OK2 NZ1 NZ2 BS1 BS2 hGA hGA' hGB
                clear OKo
                generalize GA' = GA at *
                have sAB : Hid (sameL GA.bs GB.bs) := hide (by rw [bsA.out, bsB.out]; exact sameL_refl _)
                go_wp2_with fail
                go_at_call 15
                refine (merge_any _ b1 GA a1 c1 b3 GB a3 c3 600 QQ.out.a1 QQ.out.a3 okA.out okB.out (by omega)).mono ?_
                rintro e wm (⟨_, rfl, Am, Bm⟩ | ⟨hno, _, _⟩)
                rotate_left
                · exact absurd sAB.out hno
                replace FQ := hide (owns_but FQ.out Bm FQ1.out)
                replace QQ := hide (QQ.out.t1 Am Bm)
                clear Am Bm
                go_wp2_with fail
                go_at_call 16
                refine (rmerge_any _ b2 GA a2 c2 b4 GB a4 c4 600 QQ.out.a2 QQ.out.a4 okA.out okB.out nzA.out nzB.out (by omega)).mono ?_
                rintro e wn (⟨_, rfl, Am, Bm⟩ | ⟨hno, _, _⟩)
                rotate_left
                · exact absurd sAB.out hno
                replace FQ := hide (owns_but FQ.out Bm FQ2.out)
                replace QQ := hide (QQ.out.t2 Am Bm)
                clear Am Bm
                have okC : Hid (Ok 1200 (mgF GA GB)) := hide ((okA.out.merge okB.out sAB.out.1).mono (by omega))
                have nzC : Hid (Nz (mgF GA GB).l) := hide (nzA.out.merge nzB.out okA.out.n.1 okB.out.n.1 okA.out.lo)
                obtain ⟨GC, hGC⟩ : ∃ GC, Hid (mgF GA GB = GC) := ⟨_, rfl⟩
                rw [hGC.out] at QQ okC nzC
                go_wp2_with fail
                go_at_call 14
                refine (same_walk _ b1 GC a1 c1 b2 a2 c2 1200 _ qs QQ.out.a1 QQ.out.a2 okC.out (by omega) (Row.of_owns FQ.out) HB4.out).mono ?_
                rintro e ww ⟨rfl, bw⟩
                replace QQ := hide (QQ.out.below bw)
                replace FQ := hide (owns_below FQ.out bw)
                clear bw
                generalize ww = wz at *
                go_wp2_with fail
                go_at_call 14
                refine (same_walk _ b3 GB a3 c3 b4 a4 c4 600 _ qs QQ.out.a3 QQ.out.a4 okB.out (by omega) (Row.of_owns FQ.out) HB4.out).mono ?_
                rintro e ww ⟨rfl, bw⟩
                replace QQ := hide (QQ.out.below bw)
                replace FQ := hide (owns_below FQ.out bw)
                clear bw
                generalize ww = wz at *
                go_wp2_with fail
                go_at_call 15
                refine (merge_any _ b1 GC a1 c1 b1 GC a1 c1 1200 QQ.out.a1 QQ.out.a1 okC.out okC.out (by omega)).mono ?_
                rintro e wo (⟨_, rfl, Am, Bm⟩ | ⟨hno, _, _⟩)
                rotate_left
                · exact absurd (sameL_refl _) hno
                replace FQ := hide (owns_but FQ.out Bm FQ1.out)
                replace QQ := hide (QQ.out.t1 Am Bm)
                clear Am Bm
                go_wp2_with fail
                go_at_call 16
                refine (rmerge_any _ b2 GC a2 c2 b2 GC a2 c2 1200 QQ.out.a2 QQ.out.a2 okC.out okC.out nzC.out nzC.out (by omega)).mono ?_
                rintro e wp (⟨_, rfl, Am, Bm⟩ | ⟨hno, _, _⟩)
                rotate_left
                · exact absurd (sameL_refl _) hno
                replace FQ := hide (owns_but FQ.out Bm FQ2.out)
                replace QQ := hide (QQ.out.t2 Am Bm)
                clear Am Bm
                have okD : Hid (Ok 2400 (mgF GC GC)) := hide ((okC.out.merge okC.out rfl).mono (by omega))
                obtain ⟨GD, hGD⟩ : ∃ GD, Hid (mgF GC GC = GD) := ⟨_, rfl⟩
                rw [hGD.out] at QQ okD
                go_wp2_with fail
                go_at_call 14
                refine (same_walk _ b1 GD a1 c1 b2 a2 c2 2400 _ qs QQ.out.a1 QQ.out.a2 okD.out (by omega) (Row.of_owns FQ.out) HB4.out).mono ?_
                rintro e ww ⟨rfl, bw⟩
                replace QQ := hide (QQ.out.below bw)
                replace FQ := hide (owns_below FQ.out bw)
                clear bw
                generalize ww = wz at *
                go_wp2_with fail
                go_at_call 15
                refine (merge_none _ b1 GD a1 c1 2400 QQ.out.a1 okD.out).mono ?_
                rintro e wq ⟨rfl, bw⟩
                replace QQ := hide (QQ.out.below bw)
                replace FQ := hide (owns_below FQ.out bw)
                clear bw
                go_wp2_with fail
                go_at_call 14
                refine (same_walk _ b1 GD a1 c1 b2 a2 c2 2400 _ qs QQ.out.a1 QQ.out.a2 okD.out (by omega) (Row.of_owns FQ.out) HB4.out).mono ?_
                rintro e ww ⟨rfl, bw⟩
                replace QQ := hide (QQ.out.below bw)
                replace FQ := hide (owns_below FQ.out bw)
                clear bw
                generalize ww = wz at *
                have FIN := hide QQ.out.bel
                go_wp2_with fail
                go_ret
                exact ⟨rfl, FIN.out⟩
              · replace FQ := hide (owns_below FQ.out bm)
                replace QQ := hide (QQ.out.below bm)
                clear bm
                go_wp2_with fail
                go_at_call 16
                refine (rmerge_any _ b2 GA a2 c2 epb (g0 ot) epa epc 300 QQ.out.a2 (Ap.out _ _ QQ.out) OK1.out OKo.out NZ1.out (nz0 ot) (by omega)).mono ?_
                rintro e wn (⟨hsa, _, _, _⟩ | ⟨_, rfl, bm⟩)
                · exact absurd hsa hno
                replace FQ := hide (owns_below FQ.out bm)
                replace QQ := hide (QQ.out.below bm)
                clear bm
                have okA : Hid (Ok 600 GA) := hide (OK1.out.mono (by omega))
                have nzA := NZ1
                have bsA := BS1
                have okB : Hid (Ok 600 GB) := hide (OK2.out.mono (by omega))
                have nzB := NZ2
                have bsB := BS2
                clear Ao Ap hno
                have sAB : Hid (sameL GA.bs GB.bs) := hide (by rw [bsA.out, bsB.out]; exact sameL_refl _)
                go_wp2_with fail
                go_at_call 15
                refine (merge_any _ b1 GA a1 c1 b3 GB a3 c3 600 QQ.out.a1 QQ.out.a3 okA.out okB.out (by omega)).mono ?_
                rintro e wm (⟨_, rfl, Am, Bm⟩ | ⟨hno, _, _⟩)
                rotate_left
                · exact absurd sAB.out hno
                replace FQ := hide (owns_but FQ.out Bm FQ1.out)
                replace QQ := hide (QQ.out.t1 Am Bm)
                clear Am Bm
                go_wp2_with fail
                go_at_call 16
                refine (rmerge_any _ b2 GA a2 c2 b4 GB a4 c4 600 QQ.out.a2 QQ.out.a4 okA.out okB.out nzA.out nzB.out (by omega)).mono ?_
                rintro e wn (⟨_, rfl, Am, Bm⟩ | ⟨hno, _, _⟩)
                rotate_left
                · exact absurd sAB.out hno
                replace FQ := hide (owns_but FQ.out Bm FQ2.out)
                replace QQ := hide (QQ.out.t2 Am Bm)
                clear Am Bm
                have okC : Hid (Ok 1200 (mgF GA GB)) := hide ((okA.out.merge okB.out sAB.out.1).mono (by omega))
                have nzC : Hid (Nz (mgF GA GB).l) := hide (nzA.out.merge nzB.out okA.out.n.1 okB.out.n.1 okA.out.lo)
                obtain ⟨GC, hGC⟩ : ∃ GC, Hid (mgF GA GB = GC) := ⟨_, rfl⟩
                rw [hGC.out] at QQ okC nzC
                go_wp2_with fail
                go_at_call 14
                refine (same_walk _ b1 GC a1 c1 b2 a2 c2 1200 _ qs QQ.out.a1 QQ.out.a2 okC.out (by omega) (Row.of_owns FQ.out) HB4.out).mono ?_
                rintro e ww ⟨rfl, bw⟩
                replace QQ := hide (QQ.out.below bw)
                replace FQ := hide (owns_below FQ.out bw)
                clear bw
                generalize ww = wz at *
                go_wp2_with fail
                go_at_call 14
                refine (same_walk _ b3 GB a3 c3 b4 a4 c4 600 _ qs QQ.out.a3 QQ.out.a4 okB.out (by omega) (Row.of_owns FQ.out) HB4.out).mono ?_
                rintro e ww ⟨rfl, bw⟩
                replace QQ := hide (QQ.out.below bw)
                replace FQ := hide (owns_below FQ.out bw)
                clear bw
                generalize ww = wz at *
                go_wp2_with fail
                go_at_call 15
                refine (merge_any _ b1 GC a1 c1 b1 GC a1 c1 1200 QQ.out.a1 QQ.out.a1 okC.out okC.out (by omega)).mono ?_
                rintro e wo (⟨_, rfl, Am, Bm⟩ | ⟨hno, _, _⟩)
                rotate_left
                · exact absurd (sameL_refl _) hno
                replace FQ := hide (owns_but FQ.out Bm FQ1.out)
                replace QQ := hide (QQ.out.t1 Am Bm)
                clear Am Bm
                go_wp2_with fail
                go_at_call 16
                refine (rmerge_any _ b2 GC a2 c2 b2 GC a2 c2 1200 QQ.out.a2 QQ.out.a2 okC.out okC.out nzC.out nzC.out (by omega)).mono ?_
                rintro e wp (⟨_, rfl, Am, Bm⟩ | ⟨hno, _, _⟩)
                rotate_left
                · exact absurd (sameL_refl _) hno
                replace FQ := hide (owns_but FQ.out Bm FQ2.out)
                replace QQ := hide (QQ.out.t2 Am Bm)
                clear Am Bm
                have okD : Hid (Ok 2400 (mgF GC GC)) := hide ((okC.out.merge okC.out rfl).mono (by omega))
                obtain ⟨GD, hGD⟩ : ∃ GD, Hid (mgF GC GC = GD) := ⟨_, rfl⟩
                rw [hGD.out] at QQ okD
                go_wp2_with fail
                go_at_call 14
                refine (same_walk _ b1 GD a1 c1 b2 a2 c2 2400 _ qs QQ.out.a1 QQ.out.a2 okD.out (by omega) (Row.of_owns FQ.out) HB4.out).mono ?_
                rintro e ww ⟨rfl, bw⟩
                replace QQ := hide (QQ.out.below bw)
                replace FQ := hide (owns_below FQ.out bw)
                clear bw
                generalize ww = wz at *
                go_wp2_with fail
                go_at_call 15
                refine (merge_none _ b1 GD a1 c1 2400 QQ.out.a1 okD.out).mono ?_
                rintro e wq ⟨rfl, bw⟩
                replace QQ := hide (QQ.out.below bw)
                replace FQ := hide (owns_below FQ.out bw)
                clear bw
                go_wp2_with fail
                go_at_call 14
                refine (same_walk _ b1 GD a1 c1 b2 a2 c2 2400 _ qs QQ.out.a1 QQ.out.a2 okD.out (by omega) (Row.of_owns FQ.out) HB4.out).mono ?_
                rintro e ww ⟨rfl, bw⟩
                replace QQ := hide (QQ.out.below bw)
                replace FQ := hide (owns_below FQ.out bw)
                clear bw
                generalize ww = wz at *
                have FIN := hide QQ.out.bel
                go_wp2_with fail
                go_ret
                exact ⟨rfl, FIN.out⟩
            · have hoz : (codeN ot == 0) = false := by simp [hot]
              have okA : Hid (Ok 600 GA) := hide (OK1.out.mono (by omega))
              have nzA := NZ1
              have bsA := BS1
              have okB : Hid (Ok 600 GB) := hide (OK2.out.mono (by omega))
              have nzB := NZ2
              have bsB := BS2
              generalize codeN ot = cot at *
              have sAB : Hid (sameL GA.bs GB.bs) := hide (by rw [bsA.out, bsB.out]; exact sameL_refl _)
              go_wp2_with fail
              go_at_call 15
              refine (merge_any _ b1 GA a1 c1 b3 GB a3 c3 600 QQ.out.a1 QQ.out.a3 okA.out okB.out (by omega)).mono ?_
              rintro e wm (⟨_, rfl, Am, Bm⟩ | ⟨hno, _, _⟩)
              rotate_left
              · exact absurd sAB.out hno
              replace FQ := hide (owns_but FQ.out Bm FQ1.out)
              replace QQ := hide (QQ.out.t1 Am Bm)
              clear Am Bm
              go_wp2_with fail
              go_at_call 16
              refine (rmerge_any _ b2 GA a2 c2 b4 GB a4 c4 600 QQ.out.a2 QQ.out.a4 okA.out okB.out nzA.out nzB.out (by omega)).mono ?_
              rintro e wn (⟨_, rfl, Am, Bm⟩ | ⟨hno, _, _⟩)
              rotate_left
              · exact absurd sAB.out hno
              replace FQ := hide (owns_but FQ.out Bm FQ2.out)
              replace QQ := hide (QQ.out.t2 Am Bm)
              clear Am Bm
              have okC : Hid (Ok 1200 (mgF GA GB)) := hide ((okA.out.merge okB.out sAB.out.1).mono (by omega))
              have nzC : Hid (Nz (mgF GA GB).l) := hide (nzA.out.merge nzB.out okA.out.n.1 okB.out.n.1 okA.out.lo)
              obtain ⟨GC, hGC⟩ : ∃ GC, Hid (mgF GA GB = GC) := ⟨_, rfl⟩
              rw [hGC.out] at QQ okC nzC
              go_wp2_with fail
              go_at_call 14
              refine (same_walk _ b1 GC a1 c1 b2 a2 c2 1200 _ qs QQ.out.a1 QQ.out.a2 okC.out (by omega) (Row.of_owns FQ.out) HB4.out).mono ?_
              rintro e ww ⟨rfl, bw⟩
              replace QQ := hide (QQ.out.below bw)
              replace FQ := hide (owns_below FQ.out bw)
              clear bw
              generalize ww = wz at *
              go_wp2_with fail
              go_at_call 14
              refine (same_walk _ b3 GB a3 c3 b4 a4 c4 600 _ qs QQ.out.a3 QQ.out.a4 okB.out (by omega) (Row.of_owns FQ.out) HB4.out).mono ?_
              rintro e ww ⟨rfl, bw⟩
              replace QQ := hide (QQ.out.below bw)
              replace FQ := hide (owns_below FQ.out bw)
              clear bw
              generalize ww = wz at *
              go_wp2_with fail
              go_at_call 15
              refine (merge_any _ b1 GC a1 c1 b1 GC a1 c1 1200 QQ.out.a1 QQ.out.a1 okC.out okC.out (by omega)).mono ?_
              rintro e wo (⟨_, rfl, Am, Bm⟩ | ⟨hno, _, _⟩)
              rotate_left
              · exact absurd (sameL_refl _) hno
              replace FQ := hide (owns_but FQ.out Bm FQ1.out)
              replace QQ := hide (QQ.out.t1 Am Bm)
              clear Am Bm
              go_wp2_with fail
              go_at_call 16
              refine (rmerge_any _ b2 GC a2 c2 b2 GC a2 c2 1200 QQ.out.a2 QQ.out.a2 okC.out okC.out nzC.out nzC.out (by omega)).mono ?_
              rintro e wp (⟨_, rfl, Am, Bm⟩ | ⟨hno, _, _⟩)
              rotate_left
              · exact absurd (sameL_refl _) hno
              replace FQ := hide (owns_but FQ.out Bm FQ2.out)
              replace QQ := hide (QQ.out.t2 Am Bm)
              clear Am Bm
              have okD : Hid (Ok 2400 (mgF GC GC)) := hide ((okC.out.merge okC.out rfl).mono (by omega))
              obtain ⟨GD, hGD⟩ : ∃ GD, Hid (mgF GC GC = GD) := ⟨_, rfl⟩
              rw [hGD.out] at QQ okD
              go_wp2_with fail
              go_at_call 14
              refine (same_walk _ b1 GD a1 c1 b2 a2 c2 2400 _ qs QQ.out.a1 QQ.out.a2 okD.out (by omega) (Row.of_owns FQ.out) HB4.out).mono ?_
              rintro e ww ⟨rfl, bw⟩
              replace QQ := hide (QQ.out.below bw)
              replace FQ := hide (owns_below FQ.out bw)
              clear bw
              generalize ww = wz at *
              go_wp2_with fail
              go_at_call 15
              refine (merge_none _ b1 GD a1 c1 2400 QQ.out.a1 okD.out).mono ?_
              rintro e wq ⟨rfl, bw⟩
              replace QQ := hide (QQ.out.below bw)
              replace FQ := hide (owns_below FQ.out bw)
              clear bw
              go_wp2_with fail
              go_at_call 14
              refine (same_walk _ b1 GD a1 c1 b2 a2 c2 2400 _ qs QQ.out.a1 QQ.out.a2 okD.out (by omega) (Row.of_owns FQ.out) HB4.out).mono ?_
              rintro e ww ⟨rfl, bw⟩
              replace QQ := hide (QQ.out.below bw)
              replace FQ := hide (owns_below FQ.out bw)
              clear bw
              generalize ww = wz at *
              have FIN := hide QQ.out.bel
              go_wp2_with fail
              go_ret
              exact ⟨rfl, FIN.out⟩
          · have hil : i < n2 := by omega
            have hil' : i < mo.length := by rw [hn2.out]; exact hil
            have i1 : (i : Int) < (n2 : Int) := by omega
            have i2 : (0 : Int) ≤ (i : Int) := by omega
            have okI := hide ((pG_ok OK0.out HB2.out i (by omega)).mono (show (0 : Int) + (i : Int) ≤ 300 by omega))
            have nzI := hide (pG_nz OK0.out (nz0 bo) HB2.out i (by omega))
            have hsu := hide (pG_succ (g0 bo) mo hil')
            have hxl := hide (HB2.out _ (getD_mem hil'))
            obtain ⟨x, hxx⟩ : ∃ x, Hid (mo.getD i 0 = x) := ⟨_, rfl⟩
            rw [hxx.out] at hxl hsu
            have hil2 := hide hil'
            clear hil'
            go_wp2_with fail
            go_at_call 9
            refine (of_any _ _ mo (Below.row hQ.out.bel R2.out) z2).mono ?_
            rintro e wa ⟨va, rfl, fa, ba⟩
            replace fa : Hid (Fw _ wa va mo) := hide fa
            obtain ⟨xb, xca, rfl, x1, x2, x3, x4⟩ := Fw.at fa.out (by have := hil2.out; omega)
            have hx := x4 i hil2.out
            rw [hxx.out] at hx
            have Qa := hide (hQ.out.below ba)
            rw [hn2.out] at x2 ⊢
            clear hQ ba x4 fa
            go_wp2_with fail
            go_at_call 12
            refine (put_any _ b3 _ a3 c3 300 x Qa.out.a3 okI.out (by omega) hxl.out).mono ?_
            rintro e wb ⟨rfl, Ab, Bb⟩
            have Qb := hide (Qa.out.t3 Ab Bb)
            clear Qa Ab Bb hx x3
            go_wp2_with fail
            go_at_call 9
            refine (of_any _ _ mo (Below.row Qb.out.bel R2.out) z2).mono ?_
            rintro e wc ⟨vd, rfl, fc, bc⟩
            replace fc : Hid (Fw _ wc vd mo) := hide fc
            obtain ⟨yb, yca, rfl, x5, x6, x7, x8⟩ := Fw.at fc.out (by have := hil2.out; omega)
            have hy := x8 i hil2.out
            rw [hxx.out] at hy
            have Qc := hide (Qb.out.below bc)
            rw [hn2.out] at x6 ⊢
            clear Qb bc x8 fc
            go_wp2_with fail
            go_at_call 13
            refine (rput_any _ b4 _ a4 c4 300 x Qc.out.a4 okI.out nzI.out.1 (by omega) hxl.out).mono ?_
            rintro e wd ⟨rfl, Ad, Bd⟩
            have Qd := hide (Qc.out.t4 Ad Bd)
            rw [← hsu.out] at Qd
            clear Qc Ad Bd hy x7
            go_wp2_with fail
            go_roundw
            case rel => exact ⟨i + 1, by omega, by go_num, Qd.out⟩
            case measure => simp [intOf]; omega
      · have hil : i < n1 := by omega
        have hil' : i < xs.length := by rw [hn1.out]; exact hil
        have i1 : (i : Int) < (n1 : Int) := by omega
        have i2 : (0 : Int) ≤ (i : Int) := by omega
        have okI := hide ((pG_ok OK0.out HB1.out i (by omega)).mono (show (0 : Int) + (i : Int) ≤ 300 by omega))
        have nzI := hide (pG_nz OK0.out (nz0 bo) HB1.out i (by omega))
        have hsu := hide (pG_succ (g0 bo) xs hil')
        have hxl := hide (HB1.out _ (getD_mem hil'))
        obtain ⟨x, hxx⟩ : ∃ x, Hid (xs.getD i 0 = x) := ⟨_, rfl⟩
        rw [hxx.out] at hxl hsu
        have hil2 := hide hil'
        clear hil'
        go_wp2_with fail
        go_at_call 9
        refine (of_any _ _ xs (Below.row hQ.out.bel R1.out) z1).mono ?_
        rintro e wa ⟨va, rfl, fa, ba⟩
        replace fa : Hid (Fw _ wa va xs) := hide fa
        obtain ⟨xb, xca, rfl, x1, x2, x3, x4⟩ := Fw.at fa.out (by have := hil2.out; omega)
        have hx := x4 i hil2.out
        rw [hxx.out] at hx
        have Qa := hide (hQ.out.below ba)
        rw [hn1.out] at x2 ⊢
        clear hQ ba x4 fa
        go_wp2_with fail
        go_at_call 12
        refine (put_any _ b1 _ a1 c1 300 x Qa.out.a1 okI.out (by omega) hxl.out).mono ?_
        rintro e wb ⟨rfl, Ab, Bb⟩
        have Qb := hide (Qa.out.t1 Ab Bb)
        clear Qa Ab Bb hx x3
        go_wp2_with fail
        go_at_call 9
        refine (of_any _ _ xs (Below.row Qb.out.bel R1.out) z1).mono ?_
        rintro e wc ⟨vd, rfl, fc, bc⟩
        replace fc : Hid (Fw _ wc vd xs) := hide fc
        obtain ⟨yb, yca, rfl, x5, x6, x7, x8⟩ := Fw.at fc.out (by have := hil2.out; omega)
        have hy := x8 i hil2.out
        rw [hxx.out] at hy
        have Qc := hide (Qb.out.below bc)
        rw [hn1.out] at x6 ⊢
        clear Qb bc x8 fc
        go_wp2_with fail
        go_at_call 13
        refine (rput_any _ b2 _ a2 c2 300 x Qc.out.a2 okI.out nzI.out.1 (by omega) hxl.out).mono ?_
        rintro e wd ⟨rfl, Ad, Bd⟩
        have Qd := hide (Qc.out.t2 Ad Bd)
        rw [← hsu.out] at Qd
        clear Qc Ad Bd hy x7
        go_wp2_with fail
        go_roundw
        case rel => exact ⟨i + 1, by omega, by go_num, Qd.out⟩
        case measure => simp [intOf]; omega
end Go.Proofs.Ytjkdhckhokkefaa.Gg
namespace Go.Proofs.Ytjkdhckhokkefaa.Gg
open Go.RowKit Rl
theorem all_law (W : World) (v0 v1 v2 v3 v4 : Value) (l0 l1 l2 l3 l4 : List Int) (r0 : Row W v0 (l0.map (Value.int .u64))) (r1 : Row W v1 (l1.map (Value.int .u64))) (r2 : Row W v2 (l2.map (Value.int .u64))) (r3 : Row W v3 (l3.map (Value.int .u64))) (r4 : Row W v4 (l4.map (Value.int .u64)))
    (f0 : ∀ n ∈ l0, (Lit.int .u64 n).wf = true) (f1 : ∀ n ∈ l1, (Lit.int .u64 n).wf = true) (f2 : ∀ n ∈ l2, (Lit.int .u64 n).wf = true) (f3 : ∀ n ∈ l3, (Lit.int .u64 n).wf = true) (f4 : ∀ n ∈ l4, (Lit.int .u64 n).wf = true)
    (z0 : l0.length * 8 ≤ 140737488355328) (z1 : l1.length * 8 ≤ 140737488355328) (z2 : l2.length * 8 ≤ 140737488355328) (z3 : l3.length * 8 ≤ 140737488355328) (z4 : l4.length * 8 ≤ 140737488355328) :
    Calls Try.prog 3 #[v0, v1, v2, v3, v4] W fun e w' => e = .returned (.bool true) ∧ Below W.heap.size W w' := by
  obtain ⟨u0, b0, e0, g0⟩ := nats_of l0 f0
  obtain ⟨u1, b1, e1, g1⟩ := nats_of l1 f1
  obtain ⟨u2, b2, e2, g2⟩ := nats_of l2 f2
  obtain ⟨u3, b3, e3, g3⟩ := nats_of l3 f3
  obtain ⟨u4, b4, e4, g4⟩ := nats_of l4 f4
  rw [e0] at r0
  rw [e1] at r1
  rw [e2] at r2
  rw [e3] at r3
  rw [e4] at r4
  exact all_walk W v0 v1 v2 v3 v4 u0 u1 u2 u3 u4 r0 r1 r2 r3 r4 b0 b1 b2 b3 b4 (by omega) (by omega) (by omega) (by omega) (by omega)
end Go.Proofs.Ytjkdhckhokkefaa.Gg

