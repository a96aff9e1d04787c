/-
  A catalog's twin, a mark behind: flumelaw10.twin, kept.
-/
import Derived.Test.YtdhjlongdfgejaaCrya
import Derived.Laws.OwnMore
import Derived.Test.YtdhjlongdfgejaaIxX
import Derived.Deep.RegionHeld3
namespace Go.Proofs.Ytdhjlongdfgejaa.Ct
open Go.RowKit

open Ix (wp_region_T wpAnyT wpAnyT_take wpAnyT_one wpAnyT_done vac)
/-- Two may come up. -/
theorem wpAnyT_two {P : Program} {ops : Array Oper} {Q : Exit → Act → World → Prop} {md : Region.Mode} {S : World → Prop} {d : Nat} {i j : Nat} {oi oj : Oper} {fuel : Nat} {listed : Array Bool} {a : Act} {w : World} (hr : Region.ready md ops listed = [i, j]) (hoi : ops[i]? = some oi) (hoj : ops[j]? = some oj)
    (hI : ∀ K' : Act → World → Prop, Shut (∀ a w, ((listed.setIfInBounds i true).getD d false = false → S w) → wpAnyT P md ops Q S d fuel (listed.setIfInBounds i true) a w → K' a w) → if Region.wanted oi (yielded ops a.tmps) = true then Oper.wp P oi a w K' Q else K' (a.put oi.dst undef) w)
    (hJ : ∀ K' : Act → World → Prop, Shut (∀ a w, ((listed.setIfInBounds j true).getD d false = false → S w) → wpAnyT P md ops Q S d fuel (listed.setIfInBounds j true) a w → K' a w) → if Region.wanted oj (yielded ops a.tmps) = true then Oper.wp P oj a w K' Q else K' (a.put oj.dst undef) w) :
    wpAnyT P md ops Q S d (fuel + 1) listed a w := by
  refine ⟨fun h0 => (by rw [h0] at hr; cases hr), fun k hk => ?_⟩
  rw [hr] at hk
  simp only [List.mem_cons, List.not_mem_nil, or_false] at hk
  rcases hk with rfl | rfl
  · exact wpOp_step hoi (fun K' hK => hI K' (fun a w hS hW => hK a w ⟨hS, hW⟩))
  · exact wpOp_step hoj (fun K' hK => hJ K' (fun a w hS hW => hK a w ⟨hS, hW⟩))
def mk7 : Sg := ⟨-7, 0, 0, 0, 0⟩
/-- append(nil, segments...) as a step of a region that draws. -/
theorem step_copy_segs {w : World} {ops : Array Oper} {o : Oper} {a : Act} {K : Act → World → Prop} {Q : Exit → Act → World → Prop} {E : Prop} (hgd : o.guard = none) (x : Operand)
    (ho : o.op = .call { callee := .builtin .append, args := #[.const (.slice none 0 0), x], argTypes := #[27, 27] })
    (B : Nat) (vx : Value) (l : List Sg) (hx : a.eval x = vx) (hsl : Sgs w vx l) (hl : l.length ≤ 100) (hbase : B ≤ w.heap.size)
    (h : ∀ v' w', Own B w' v' l → w.grownBy w' none → K (a.put o.dst v') w') :
    if Region.wanted o (yielded ops a.tmps) = true then Oper.wp Try.prog o a w K Q else E := by
  have hw : Region.wanted o (yielded ops a.tmps) = true := by simp [Region.wanted, hgd]
  rw [if_pos hw]
  obtain ⟨i0, hi, hz0, hz1, hz2⟩ := info_parts infoSeg
  obtain ⟨ao, ca, rfl, q1, q2⟩ := hsl.form
  cases ao with
  | none =>
    obtain ⟨_, ao', ca', e, h2, _⟩ := hsl
    simp only [Value.slice.injEq] at e
    obtain ⟨rfl, _, rfl⟩ := e
    obtain ⟨rfl, rfl⟩ := h2 rfl
    have hrun := run_append_owned_none (P := Try.prog) (w := w) B 27 o.type 53 i0 5 Try.underlying27 hi (.slice none 0 0) 0 [] (World.ownsRow_nil _ _ _ _)
    simp only [List.length_nil] at hx
    have hc : a.eval (.const (.slice none 0 0)) = .slice none 0 0 := rfl
    unfold Oper.wp
    simp [execOp, ho, resolve, invoke, builtin, hc, hx, hrun, Result.andThen]
    exact h _ _ (Own.nil _ _) (World.grownBy.refl _ _)
  | some ad =>
    obtain ⟨v', w', hr, h2, h3, _, _⟩ := run_append_own_at (P := Try.prog) w B 27 o.type 53 i0 (.agg #[.int .i64 0, .int .i64 0, .int .u32 0, .int .i64 0, .int .i64 0]) 5 40 Try.underlying27 hi hz0 hz1 hz2 rfl (by decide) (.slice none 0 0) 0 [] (World.ownsRow_nil _ _ _ _) ad l.length ca (scells l) (scells_len l) hsl.news (scells_one l) (by unfold maxLen; omega) (by omega) hbase
    have hc : a.eval (.const (.slice none 0 0)) = .slice none 0 0 := rfl
    unfold Oper.wp execOp
    simp only [ho, resolve, invoke, builtin, Sem.run_bind, Sem.run_pure, Result.andThen_ok, List.map_toArray, List.map_cons, List.map_nil, hc, hx, hr]
    rw [List.nil_append, Nat.zero_add] at h2
    exact h v' w' ⟨hsl.1, h2⟩ h3
/-- A twin: the segments l in memory of its own, the mark behind. -/
def Tw (B : Nat) (w : World) (v : Value) (l : List Sg) : Prop := ∃ tb cap, v = .slice (some ⟨tb, 0, none⟩) l.length cap ∧ Own B w (.slice (some ⟨tb, 0, none⟩) (l.length + 1) cap) (l ++ [mk7])
theorem Tw.but {X : Nat → Prop} {B : Nat} {w w' : World} {v : Value} {l : List Sg} (h : Tw B w v l) (hb : But X w w') (hx : ∀ k, v.ownBlock = some k → ¬ X k) : Tw B w' v l := by
  obtain ⟨tb, cap, rfl, h⟩ := h
  exact ⟨tb, cap, rfl, h.but hb fun k hk => hx k hk⟩
theorem Tw.below {B : Nat} {w w' : World} {v : Value} {l : List Sg} (h : Tw B w v l) (hb : Below w.heap.size w w') : Tw B w' v l := h.but (But.of_below hb fun _ => False) fun _ _ c => c
theorem Tw.sgs {B : Nat} {w : World} {v : Value} {l : List Sg} (h : Tw B w v l) : Sgs w v l := by
  obtain ⟨tb, cap, rfl, h⟩ := h
  have := h.sgs.take l.length (by simp)
  rw [List.take_left] at this
  exact this
theorem Tw.lt {B : Nat} {w : World} {v : Value} {l : List Sg} (h : Tw B w v l) : ∀ k, v.ownBlock = some k → B ≤ k ∧ k < w.heap.size := by
  obtain ⟨tb, cap, rfl, h⟩ := h
  exact fun k hk => h.lt k hk
set_option maxRecDepth 20000 in
set_option maxHeartbeats 4000000 in
theorem twin_any (w : World) (g fi : Int) (v : Value) (l : List Sg) (hv : Sgs w v l) (hl : l.length ≤ 80) :
    Calls Try.prog 8 #[.agg #[.int .i64 g, .int .i64 fi, v]] w fun e w' => ∃ v', e = .returned (.agg #[.int .i64 g, .int .i64 fi, v']) ∧ Tw w.heap.size w' v' l ∧ Below w.heap.size w w' := by
  obtain ⟨N, hN⟩ : ∃ N, Hid (l.length = N) := ⟨_, rfl⟩
  obtain ⟨ao, ca, rfl, q1, q2⟩ := hv.form
  rw [hN.out] at hv q1 hl ⊢
  have hB0 := hide (box_below w (.cells #[.int .i64 g, .int .i64 fi, .slice ao N ca] 29))
  have hB := hide (keepF hB0.out (box_below _ (.cells #[.int .i64 0, .int .i64 0, .slice none 0 0] 29)))
  have hb1 : Hid (((w.alloc (.cells #[.int .i64 g, .int .i64 fi, .slice ao N ca] 29)).alloc (.cells #[.int .i64 0, .int .i64 0, .slice none 0 0] 29)).heap[w.heap.size]? = some (.cells #[.int .i64 g, .int .i64 fi, .slice ao N ca] 29 (0, 0))) := by
    show _ = _
    rw [(box_below _ _).block w.heap.size (by simp), heap_alloc_new]
  have hb2 : Hid (((w.alloc (.cells #[.int .i64 g, .int .i64 fi, .slice ao N ca] 29)).alloc (.cells #[.int .i64 0, .int .i64 0, .slice none 0 0] 29)).heap[w.heap.size + 1]? = some (.cells #[.int .i64 0, .int .i64 0, .slice none 0 0] 29 (0, 0))) := by
    show _ = _
    have := heap_alloc_new (w.alloc (.cells #[.int .i64 g, .int .i64 fi, .slice ao N ca] 29)) (.cells #[.int .i64 0, .int .i64 0, .slice none 0 0] 29)
    simpa using this
  have V1 := hide (hv.below hB.out)
  obtain ⟨i0, hi, hz0, hz1, hz2⟩ := info_parts infoSeg
  clear hv hB0
  go_enter Try.func8, Try.ntmps8
  go_upto_region 1 with fail
  generalize ((w.alloc (.cells #[.int .i64 g, .int .i64 fi, .slice ao N ca] 29)).alloc (.cells #[.int .i64 0, .int .i64 0, .slice none 0 0] 29)) = w1 at *
  obtain ⟨c0, c1, c2⟩ := three_cells hb1.out
  obtain ⟨f0, f1, f2⟩ := three_frozen hb1.out
  have hbl1 : w.heap.size < w1.heap.size := heap_lt hb1.out
  have HA : Hid (AIn (l ++ [mk7])) := fun x hx => by
    rcases List.mem_append.1 hx with h | h
    · exact V1.out.1 x h
    · simp only [List.mem_singleton] at h; subst h; exact ⟨by decide, by decide, by decide, by decide, by decide, by decide, by decide, by decide, by decide⟩
  have hsc : Hid (scells (l ++ [mk7]) = scells l ++ [.int .i64 (-7), .int .i64 0, .int .u32 0, .int .i64 0, .int .i64 0]) := by show _ = _; rw [scells_append]; rfl
  have KP : Hid (Below w1.heap.size w1 w1.drew) := (Below.refl _ _).drew
  have KC : Hid (∀ q, Below w1.heap.size w1 q → q.cell? ⟨w.heap.size, 2, none⟩ = some (.slice ao N ca)) := fun q hq => (three_cells (show q.heap[w.heap.size]? = _ by rw [hq.block _ (heap_lt hb1.out)]; exact hb1.out)).2.2
  have GR : Hid (∀ q u : World, q.grownBy u none → Below q.heap.size q u) := fun q u h => (Below.refl _ _).grown h (Nat.le_refl _) (fun k hk => by simp at hk)
  refine wp_region_T (fun q => Below w1.heap.size w1 q) 11 (by kernel_rfl) ?_
  clear c0 c1 c2 f0 f1 f2
  generalize w1.drew = q at *
  refine wpAnyT_take (i := 0) (oi := { dst := some 3, op := Op.fieldAddr 29 (Operand.tmp 1) 2, type := 0, pos := "law.go:23", after := #[], guard := none }) (v := .pointer (some ⟨w.heap.size, 2, none⟩)) [11] rfl (by kernel_rfl) (by kernel_rfl) (by kernel_rfl) (by kernel_rfl) (fun _ _ _ h => h) (Or.inl ⟨by rfl, ?_⟩) KP.out ?_
  · intro wq hSw
    have y2 := KC.out wq hSw
    go_simp
  (try simp only [Act.put, List.setIfInBounds_toArray, List.set_cons_zero, List.set_cons_succ])
  refine wpAnyT_take (i := 1) (oi := { dst := some 4, op := Op.load 27 (Operand.tmp 3), type := 27, pos := "law.go:23", after := #[{ on := 0, ground := Ground.data }], guard := none }) (v := .slice ao N ca) [11] rfl (by kernel_rfl) (by kernel_rfl) (by kernel_rfl) (by kernel_rfl) (fun _ _ _ h => h) (Or.inl ⟨by rfl, ?_⟩) KP.out ?_
  · intro wq hSw
    have y2 := KC.out wq hSw
    go_simp
  (try simp only [Act.put, List.setIfInBounds_toArray, List.set_cons_zero, List.set_cons_succ])
  refine wpAnyT_take (i := 3) (oi := { dst := some 6, op := Op.build 53 #[(0, Operand.const (Value.int IntKind.i64 (-7)))], type := 53, pos := "law.go:23", after := #[], guard := none }) (v := .agg #[.int .i64 (-7), .int .i64 0, .int .u32 0, .int .i64 0, .int .i64 0]) [11] rfl (by kernel_rfl) (by kernel_rfl) (by kernel_rfl) (by kernel_rfl) (fun _ _ _ h => h) (Or.inl ⟨by rfl, ?_⟩) KP.out ?_
  · intro wq hSw
    have y2 := KC.out wq hSw
    go_simp
  (try simp only [Act.put, List.setIfInBounds_toArray, List.set_cons_zero, List.set_cons_succ])
  refine wpAnyT_take (i := 6) (oi := { dst := some 9, op := Op.fieldAddr 29 (Operand.tmp 1) 2, type := 0, pos := "law.go:23", after := #[], guard := none }) (v := .pointer (some ⟨w.heap.size, 2, none⟩)) [11] rfl (by kernel_rfl) (by kernel_rfl) (by kernel_rfl) (by kernel_rfl) (fun _ _ _ h => h) (Or.inl ⟨by rfl, ?_⟩) KP.out ?_
  · intro wq hSw
    have y2 := KC.out wq hSw
    go_simp
  (try simp only [Act.put, List.setIfInBounds_toArray, List.set_cons_zero, List.set_cons_succ])
  refine wpAnyT_take (i := 7) (oi := { dst := some 10, op := Op.load 27 (Operand.tmp 9), type := 27, pos := "law.go:23", after := #[{ on := 6, ground := Ground.data }], guard := none }) (v := .slice ao N ca) [11] rfl (by kernel_rfl) (by kernel_rfl) (by kernel_rfl) (by kernel_rfl) (fun _ _ _ h => h) (Or.inl ⟨by rfl, ?_⟩) KP.out ?_
  · intro wq hSw
    have y2 := KC.out wq hSw
    go_simp
  (try simp only [Act.put, List.setIfInBounds_toArray, List.set_cons_zero, List.set_cons_succ])
  refine wpAnyT_take (i := 8) (oi := { dst := some 11, op := Op.call { callee := Callee.builtin Builtin.len, args := #[Operand.tmp 10], argTypes := #[27] }, type := 3, pos := "law.go:23", after := #[{ on := 7, ground := Ground.data }], guard := none }) (v := .int .i64 (N : Int)) [11] rfl (by kernel_rfl) (by kernel_rfl) (by kernel_rfl) (by kernel_rfl) (fun _ _ _ h => h) (Or.inl ⟨by rfl, ?_⟩) KP.out ?_
  · intro wq hSw
    have y2 := KC.out wq hSw
    go_simp
  (try simp only [Act.put, List.setIfInBounds_toArray, List.set_cons_zero, List.set_cons_succ])
  refine wpAnyT_two (i := 2) (j := 4) (oi := { dst := some 5, op := Op.call { callee := Callee.builtin Builtin.append, args := #[Operand.const (Value.slice none 0 0), Operand.tmp 4], argTypes := #[27, 27] }, type := 27, pos := "law.go:23", after := #[{ on := 1, ground := Ground.data }], guard := none }) (oj := { dst := some 7, op := Op.buildSlice 27 1 #[(0, Operand.tmp 6)], type := 27, pos := "law.go:23", after := #[{ on := 3, ground := Ground.data }], guard := none }) (by kernel_rfl) rfl rfl (fun K hK => ?_) (fun K hK => ?_)
  · refine step_copy_segs rfl (.tmp 4) rfl w1.heap.size (.slice ao N ca) l (by simp [Act.eval]) (V1.out.below KP.out) (by rw [hN.out]; omega) KP.out.size ?_
    intro v5 w5 O5 g5
    have KP5 := hide (keepF KP.out (GR.out _ _ g5))
    obtain ⟨ao5, ca5, ex, _, _⟩ := O5.form
    rw [hN.out] at ex
    subst ex
    refine hK.out _ _ (fun _ => KP5.out) ?_
    clear hK K g5
    (try simp only [Act.put, List.setIfInBounds_toArray, List.set_cons_zero, List.set_cons_succ])
    refine wpAnyT_one (i := 4) (o := { dst := some 7, op := Op.buildSlice 27 1 #[(0, Operand.tmp 6)], type := 27, pos := "law.go:23", after := #[{ on := 3, ground := Ground.data }], guard := none }) (by kernel_rfl) rfl (fun K hK => ?_)
    go_simp
    have KPa := hide (keepF KP5.out (box_below w5 (.cells #[.int .i64 (-7), .int .i64 0, .int .u32 0, .int .i64 0, .int .i64 0] 53)))
    have NB := hide (heap_alloc_new w5 (.cells #[.int .i64 (-7), .int .i64 0, .int .u32 0, .int .i64 0, .int .i64 0] 53))
    have O6 := hide ((O5.below (box_below w5 (.cells #[.int .i64 (-7), .int .i64 0, .int .u32 0, .int .i64 0, .int .i64 0] 53))).low (B' := w.heap.size) hB.out.size).2
    rw [hN.out] at O6
    have BLO : Hid (∀ k, Value.ownBlock (.slice ao5 N ca5) = some k → w1.heap.size ≤ k) := fun k hk => (O5.lt k hk).1
    refine hK.out _ _ (fun _ => KPa.out) ?_
    clear hK K O5
    (try simp only [Act.put, List.setIfInBounds_toArray, List.set_cons_zero, List.set_cons_succ])
    generalize hv5 : Value.slice ao5 N ca5 = v5 at *
    obtain ⟨q6, hq6⟩ : ∃ q6, w5.alloc (.cells #[.int .i64 (-7), .int .i64 0, .int .u32 0, .int .i64 0, .int .i64 0] 53) = q6 := ⟨_, rfl⟩
    rw [hq6] at KPa NB O6 ⊢
    refine wpAnyT_one (i := 5) (o := { dst := some 8, op := Op.call { callee := Callee.builtin Builtin.append, args := #[Operand.tmp 5, Operand.tmp 7], argTypes := #[27, 27] }, type := 27, pos := "law.go:23", after := #[{ on := 2, ground := Ground.data }, { on := 4, ground := Ground.data }, { on := 2, ground := Ground.chain }], guard := none }) (by kernel_rfl) rfl (fun K hK => ?_)
    refine step_append_lies _ rfl (.tmp 5) (.tmp 7) 27 rfl w.heap.size 53 i0 (.agg #[.int .i64 0, .int .i64 0, .int .u32 0, .int .i64 0, .int .i64 0]) 5 40 Try.underlying27 hi hz0 hz1 hz2 rfl (by decide) v5 N (scells l) (by simp [Act.eval]) O6.out ⟨w5.heap.size, 0, none⟩ 1 1 [.int .i64 (-7), .int .i64 0, .int .u32 0, .int .i64 0, .int .i64 0] (by simp [Act.eval]) rfl (five_new NB.out) (by simp [Value.oneCell']) (by decide) (by unfold maxLen; omega) (by omega) (keepF hB.out KPa.out).size q6.heap.size rfl ?_
    intro g2 cap2 w8 ho8 hg8 hat hlt8
    have KP8 : Hid (Below w1.heap.size w1 w8) := Below.grown KPa.out hg8 KPa.out.size (fun k hk => BLO.out k hk)
    clear hg8 hat hlt8 BLO
    have TW8 : Hid (Own w.heap.size w8 (.slice (some ⟨g2, 0, none⟩) (N + 1) cap2) (l ++ [mk7])) := ⟨HA.out, by rw [List.length_append, hN.out, hsc.out]; exact ho8⟩
    have hcap : N + 1 ≤ cap2 ∧ cap2 ≤ 9223372036854775807 := by obtain ⟨_, _, e, a1, a2⟩ := TW8.out.form; simp only [Value.slice.injEq] at e; obtain ⟨_, e2, rfl⟩ := e; exact ⟨by rw [e2]; exact a1, a2⟩
    have hcap1 : (N : Int) ≤ (cap2 : Int) := by omega
    have hcap2 : (0 : Int) ≤ (N : Int) := by omega
    refine hK.out _ _ (fun _ => KP8.out) ?_
    clear hK K ho8
    (try simp only [Act.put, List.setIfInBounds_toArray, List.set_cons_zero, List.set_cons_succ])
    refine wpAnyT_take (i := 9) (oi := { dst := some 12, op := Op.slice 27 (Operand.tmp 8) none (some (Operand.tmp 11)) none, type := 27, pos := "law.go:23", after := #[{ on := 5, ground := Ground.data }, { on := 8, ground := Ground.data }], guard := none }) (v := .slice (some ⟨g2, 0, none⟩) N cap2) [11] rfl (by kernel_rfl) (by kernel_rfl) (by kernel_rfl) (by kernel_rfl) (fun _ _ _ h => h) (Or.inl ⟨by rfl, ?_⟩) KP8.out ?_
    · intro wq hSw
      go_simp
    (try simp only [Act.put, List.setIfInBounds_toArray, List.set_cons_zero, List.set_cons_succ])
    refine wpAnyT_take (i := 10) (oi := { dst := some 13, op := Op.fieldAddr 29 (Operand.tmp 1) 2, type := 0, pos := "law.go:23", after := #[{ on := 0, ground := Ground.phase }, { on := 1, ground := Ground.phase }, { on := 2, ground := Ground.phase }, { on := 3, ground := Ground.phase }, { on := 4, ground := Ground.phase }, { on := 5, ground := Ground.phase }, { on := 6, ground := Ground.phase }, { on := 7, ground := Ground.phase }, { on := 8, ground := Ground.phase }, { on := 9, ground := Ground.phase }], guard := none }) (v := .pointer (some ⟨w.heap.size, 2, none⟩)) [11] rfl (by kernel_rfl) (by kernel_rfl) (by kernel_rfl) (by kernel_rfl) (fun _ _ _ h => h) (Or.inl ⟨by rfl, ?_⟩) KP8.out ?_
    · intro wq hSw
      go_simp
    (try simp only [Act.put, List.setIfInBounds_toArray, List.set_cons_zero, List.set_cons_succ])
    have e1 : Hid (w8.heap[w.heap.size]? = some (.cells #[.int .i64 g, .int .i64 fi, .slice ao N ca] 29 (0, 0))) := by show _ = _; rw [KP8.out.block _ (heap_lt hb1.out)]; exact hb1.out
    have e2 : Hid (w8.heap[w.heap.size + 1]? = some (.cells #[.int .i64 0, .int .i64 0, .slice none 0 0] 29 (0, 0))) := by show _ = _; rw [KP8.out.block _ (heap_lt hb2.out)]; exact hb2.out
    have c2 := (three_cells e1.out).2.2
    have f2 := (three_frozen e1.out).2.2
    refine wpAnyT_one (i := 11) (o := { dst := none, op := Op.store 27 (Operand.tmp 13) (Operand.tmp 12), type := 0, pos := "law.go:23", after := #[{ on := 10, ground := Ground.data }, { on := 9, ground := Ground.data }, { on := 5, ground := Ground.chain }, { on := 0, ground := Ground.phase }, { on := 1, ground := Ground.phase }, { on := 2, ground := Ground.phase }, { on := 3, ground := Ground.phase }, { on := 4, ground := Ground.phase }, { on := 5, ground := Ground.phase }, { on := 6, ground := Ground.phase }, { on := 7, ground := Ground.phase }, { on := 8, ground := Ground.phase }, { on := 9, ground := Ground.phase }], guard := none }) (by kernel_rfl) rfl (fun K hK => ?_)
    go_simp
    have B9 := hide (keepF hB.out KP8.out)
    have e3 : Hid ((w8.setCell ⟨w.heap.size, 2, none⟩ (.slice (some ⟨g2, 0, none⟩) N cap2)).heap[w.heap.size]? = some (.cells #[.int .i64 g, .int .i64 fi, .slice (some ⟨g2, 0, none⟩) N cap2] 29 (0, 0))) := by show _ = _; rw [heap_setCell_same _ _ _ _ _ _ e1.out]; simp
    have e4 : Hid ((w8.setCell ⟨w.heap.size, 2, none⟩ (.slice (some ⟨g2, 0, none⟩) N cap2)).heap[w.heap.size + 1]? = some (.cells #[.int .i64 0, .int .i64 0, .slice none 0 0] 29 (0, 0))) := by show _ = _; rw [heap_setCell_other _ _ _ _ (by show w.heap.size + 1 ≠ w.heap.size; omega)]; exact e2.out
    have O3 : Hid (Own w.heap.size (w8.setCell ⟨w.heap.size, 2, none⟩ (.slice (some ⟨g2, 0, none⟩) N cap2)) (.slice (some ⟨g2, 0, none⟩) (N + 1) cap2) (l ++ [mk7])) := ⟨TW8.out.1, ownsRow_setCell_other TW8.out.2 (TW8.out.no e1.out (by decide)) _⟩
    have B3 := hide (B9.out.setCell (p := ⟨w.heap.size, 2, none⟩) (Nat.le_refl _) (.slice (some ⟨g2, 0, none⟩) N cap2))
    have BS := hide (KP8.out)
    refine hK.out _ _ (vac (by kernel_rfl)) ?_
    clear hK K c2 f2
    refine wpAnyT_done (by kernel_rfl) ?_ _
    generalize w8.setCell ⟨w.heap.size, 2, none⟩ (.slice (some ⟨g2, 0, none⟩) N cap2) = w3 at *
    clear e1 e2 TW8 B9
    obtain ⟨c0, c1, c2⟩ := three_cells e3.out
    obtain ⟨d0, d1, d2⟩ := three_cells e4.out
    obtain ⟨f0, f1, f2⟩ := three_frozen e4.out
    have F := hide (three_cells (put3_heap e4.out (.int .i64 g) (.int .i64 fi) (.slice (some ⟨g2, 0, none⟩) N cap2)))
    have BF := hide (put3_below B3.out (Nat.le_succ _) (.int .i64 g) (.int .i64 fi) (.slice (some ⟨g2, 0, none⟩) N cap2))
    have OF := hide (O3.out.put3 e4.out (by decide) (.int .i64 g) (.int .i64 fi) (.slice (some ⟨g2, 0, none⟩) N cap2))
    go_wp2_with fail
    show bodyPost _ _ _ _ _ (put3 w3 (w.heap.size + 1) (.int .i64 g) (.int .i64 fi) (.slice (some ⟨g2, 0, none⟩) N cap2))
    generalize put3 w3 (w.heap.size + 1) (.int .i64 g) (.int .i64 fi) (.slice (some ⟨g2, 0, none⟩) N cap2) = w5' at *
    obtain ⟨k0, k1, k2⟩ := F.out
    refine bodyPost_ret (by simp [results, Try.results8, go_sem, k0, k1, k2]; rfl) rfl ?_
    exact ⟨_, rfl, ⟨g2, cap2, by rw [hN.out], by rw [hN.out]; exact OF.out⟩, BF.out⟩
  go_simp
  have KPb := hide (keepF KP.out (box_below q (.cells #[.int .i64 (-7), .int .i64 0, .int .u32 0, .int .i64 0, .int .i64 0] 53)))
  have NB0 := hide (heap_alloc_new q (.cells #[.int .i64 (-7), .int .i64 0, .int .u32 0, .int .i64 0, .int .i64 0] 53))
  refine hK.out _ _ (fun _ => KPb.out) ?_
  clear hK K
  (try simp only [Act.put, List.setIfInBounds_toArray, List.set_cons_zero, List.set_cons_succ])
  generalize q.alloc (.cells #[.int .i64 (-7), .int .i64 0, .int .u32 0, .int .i64 0, .int .i64 0] 53) = q5 at *
  generalize q.heap.size = eb at *
  refine wpAnyT_one (i := 2) (o := { dst := some 5, op := Op.call { callee := Callee.builtin Builtin.append, args := #[Operand.const (Value.slice none 0 0), Operand.tmp 4], argTypes := #[27, 27] }, type := 27, pos := "law.go:23", after := #[{ on := 1, ground := Ground.data }], guard := none }) (by kernel_rfl) rfl (fun K hK => ?_)
  refine step_copy_segs rfl (.tmp 4) rfl w1.heap.size (.slice ao N ca) l (by simp [Act.eval]) (V1.out.below KPb.out) (by rw [hN.out]; omega) KPb.out.size ?_
  intro v5 w5 O5 g5
  have KPa := hide (keepF KPb.out (GR.out _ _ g5))
  have NB : Hid (w5.heap[eb]? = some (.cells #[.int .i64 (-7), .int .i64 0, .int .u32 0, .int .i64 0, .int .i64 0] 53 (0, 0))) := by show _ = _; rw [(GR.out _ _ g5).block _ (heap_lt NB0.out)]; exact NB0.out
  have O6 := hide (O5.low (B' := w.heap.size) hB.out.size).2
  rw [hN.out] at O6
  have BLO : Hid (∀ k, v5.ownBlock = some k → w1.heap.size ≤ k) := fun k hk => (O5.lt k hk).1
  refine hK.out _ _ (fun _ => KPa.out) ?_
  clear hK K g5 O5
  (try simp only [Act.put, List.setIfInBounds_toArray, List.set_cons_zero, List.set_cons_succ])
  refine wpAnyT_one (i := 5) (o := { dst := some 8, op := Op.call { callee := Callee.builtin Builtin.append, args := #[Operand.tmp 5, Operand.tmp 7], argTypes := #[27, 27] }, type := 27, pos := "law.go:23", after := #[{ on := 2, ground := Ground.data }, { on := 4, ground := Ground.data }, { on := 2, ground := Ground.chain }], guard := none }) (by kernel_rfl) rfl (fun K hK => ?_)
  refine step_append_lies _ rfl (.tmp 5) (.tmp 7) 27 rfl w.heap.size 53 i0 (.agg #[.int .i64 0, .int .i64 0, .int .u32 0, .int .i64 0, .int .i64 0]) 5 40 Try.underlying27 hi hz0 hz1 hz2 rfl (by decide) v5 N (scells l) (by simp [Act.eval]) O6.out ⟨eb, 0, none⟩ 1 1 [.int .i64 (-7), .int .i64 0, .int .u32 0, .int .i64 0, .int .i64 0] (by simp [Act.eval]) rfl (five_new NB.out) (by simp [Value.oneCell']) (by decide) (by unfold maxLen; omega) (by omega) (keepF hB.out KPa.out).size w5.heap.size rfl ?_
  intro g2 cap2 w8 ho8 hg8 hat hlt8
  have KP8 : Hid (Below w1.heap.size w1 w8) := Below.grown KPa.out hg8 KPa.out.size (fun k hk => BLO.out k hk)
  clear hg8 hat hlt8 BLO
  have TW8 : Hid (Own w.heap.size w8 (.slice (some ⟨g2, 0, none⟩) (N + 1) cap2) (l ++ [mk7])) := ⟨HA.out, by rw [List.length_append, hN.out, hsc.out]; exact ho8⟩
  have hcap : N + 1 ≤ cap2 ∧ cap2 ≤ 9223372036854775807 := by obtain ⟨_, _, e, a1, a2⟩ := TW8.out.form; simp only [Value.slice.injEq] at e; obtain ⟨_, e2, rfl⟩ := e; exact ⟨by rw [e2]; exact a1, a2⟩
  have hcap1 : (N : Int) ≤ (cap2 : Int) := by omega
  have hcap2 : (0 : Int) ≤ (N : Int) := by omega
  refine hK.out _ _ (fun _ => KP8.out) ?_
  clear hK K ho8
  (try simp only [Act.put, List.setIfInBounds_toArray, List.set_cons_zero, List.set_cons_succ])
  refine wpAnyT_take (i := 9) (oi := { dst := some 12, op := Op.slice 27 (Operand.tmp 8) none (some (Operand.tmp 11)) none, type := 27, pos := "law.go:23", after := #[{ on := 5, ground := Ground.data }, { on := 8, ground := Ground.data }], guard := none }) (v := .slice (some ⟨g2, 0, none⟩) N cap2) [11] rfl (by kernel_rfl) (by kernel_rfl) (by kernel_rfl) (by kernel_rfl) (fun _ _ _ h => h) (Or.inl ⟨by rfl, ?_⟩) KP8.out ?_
  · intro wq hSw
    go_simp
  (try simp only [Act.put, List.setIfInBounds_toArray, List.set_cons_zero, List.set_cons_succ])
  refine wpAnyT_take (i := 10) (oi := { dst := some 13, op := Op.fieldAddr 29 (Operand.tmp 1) 2, type := 0, pos := "law.go:23", after := #[{ on := 0, ground := Ground.phase }, { on := 1, ground := Ground.phase }, { on := 2, ground := Ground.phase }, { on := 3, ground := Ground.phase }, { on := 4, ground := Ground.phase }, { on := 5, ground := Ground.phase }, { on := 6, ground := Ground.phase }, { on := 7, ground := Ground.phase }, { on := 8, ground := Ground.phase }, { on := 9, ground := Ground.phase }], guard := none }) (v := .pointer (some ⟨w.heap.size, 2, none⟩)) [11] rfl (by kernel_rfl) (by kernel_rfl) (by kernel_rfl) (by kernel_rfl) (fun _ _ _ h => h) (Or.inl ⟨by rfl, ?_⟩) KP8.out ?_
  · intro wq hSw
    go_simp
  (try simp only [Act.put, List.setIfInBounds_toArray, List.set_cons_zero, List.set_cons_succ])
  have e1 : Hid (w8.heap[w.heap.size]? = some (.cells #[.int .i64 g, .int .i64 fi, .slice ao N ca] 29 (0, 0))) := by show _ = _; rw [KP8.out.block _ (heap_lt hb1.out)]; exact hb1.out
  have e2 : Hid (w8.heap[w.heap.size + 1]? = some (.cells #[.int .i64 0, .int .i64 0, .slice none 0 0] 29 (0, 0))) := by show _ = _; rw [KP8.out.block _ (heap_lt hb2.out)]; exact hb2.out
  have c2 := (three_cells e1.out).2.2
  have f2 := (three_frozen e1.out).2.2
  refine wpAnyT_one (i := 11) (o := { dst := none, op := Op.store 27 (Operand.tmp 13) (Operand.tmp 12), type := 0, pos := "law.go:23", after := #[{ on := 10, ground := Ground.data }, { on := 9, ground := Ground.data }, { on := 5, ground := Ground.chain }, { on := 0, ground := Ground.phase }, { on := 1, ground := Ground.phase }, { on := 2, ground := Ground.phase }, { on := 3, ground := Ground.phase }, { on := 4, ground := Ground.phase }, { on := 5, ground := Ground.phase }, { on := 6, ground := Ground.phase }, { on := 7, ground := Ground.phase }, { on := 8, ground := Ground.phase }, { on := 9, ground := Ground.phase }], guard := none }) (by kernel_rfl) rfl (fun K hK => ?_)
  go_simp
  have B9 := hide (keepF hB.out KP8.out)
  have e3 : Hid ((w8.setCell ⟨w.heap.size, 2, none⟩ (.slice (some ⟨g2, 0, none⟩) N cap2)).heap[w.heap.size]? = some (.cells #[.int .i64 g, .int .i64 fi, .slice (some ⟨g2, 0, none⟩) N cap2] 29 (0, 0))) := by show _ = _; rw [heap_setCell_same _ _ _ _ _ _ e1.out]; simp
  have e4 : Hid ((w8.setCell ⟨w.heap.size, 2, none⟩ (.slice (some ⟨g2, 0, none⟩) N cap2)).heap[w.heap.size + 1]? = some (.cells #[.int .i64 0, .int .i64 0, .slice none 0 0] 29 (0, 0))) := by show _ = _; rw [heap_setCell_other _ _ _ _ (by show w.heap.size + 1 ≠ w.heap.size; omega)]; exact e2.out
  have O3 : Hid (Own w.heap.size (w8.setCell ⟨w.heap.size, 2, none⟩ (.slice (some ⟨g2, 0, none⟩) N cap2)) (.slice (some ⟨g2, 0, none⟩) (N + 1) cap2) (l ++ [mk7])) := ⟨TW8.out.1, ownsRow_setCell_other TW8.out.2 (TW8.out.no e1.out (by decide)) _⟩
  have B3 := hide (B9.out.setCell (p := ⟨w.heap.size, 2, none⟩) (Nat.le_refl _) (.slice (some ⟨g2, 0, none⟩) N cap2))
  have BS := hide (KP8.out)
  refine hK.out _ _ (vac (by kernel_rfl)) ?_
  clear hK K c2 f2
  refine wpAnyT_done (by kernel_rfl) ?_ _
  generalize w8.setCell ⟨w.heap.size, 2, none⟩ (.slice (some ⟨g2, 0, none⟩) N cap2) = w3 at *
  clear e1 e2 TW8 B9
  obtain ⟨c0, c1, c2⟩ := three_cells e3.out
  obtain ⟨d0, d1, d2⟩ := three_cells e4.out
  obtain ⟨f0, f1, f2⟩ := three_frozen e4.out
  have F := hide (three_cells (put3_heap e4.out (.int .i64 g) (.int .i64 fi) (.slice (some ⟨g2, 0, none⟩) N cap2)))
  have BF := hide (put3_below B3.out (Nat.le_succ _) (.int .i64 g) (.int .i64 fi) (.slice (some ⟨g2, 0, none⟩) N cap2))
  have OF := hide (O3.out.put3 e4.out (by decide) (.int .i64 g) (.int .i64 fi) (.slice (some ⟨g2, 0, none⟩) N cap2))
  go_wp2_with fail
  show bodyPost _ _ _ _ _ (put3 w3 (w.heap.size + 1) (.int .i64 g) (.int .i64 fi) (.slice (some ⟨g2, 0, none⟩) N cap2))
  generalize put3 w3 (w.heap.size + 1) (.int .i64 g) (.int .i64 fi) (.slice (some ⟨g2, 0, none⟩) N cap2) = w5' at *
  obtain ⟨k0, k1, k2⟩ := F.out
  refine bodyPost_ret (by simp [results, Try.results8, go_sem, k0, k1, k2]; rfl) rfl ?_
  exact ⟨_, rfl, ⟨g2, cap2, by rw [hN.out], by rw [hN.out]; exact OF.out⟩, BF.out⟩
#print axioms twin_any
end Go.Proofs.Ytdhjlongdfgejaa.Ct

/-
  kept, Room, spoil of the tenth layer's statements.
-/
namespace Go.Proofs.Ytdhjlongdfgejaa.Ct
open Go.RowKit

set_option maxRecDepth 20000 in
set_option maxHeartbeats 4000000 in
theorem kept_any (w : World) (B : Nat) (g fi : Int) (vt v : Value) (l : List Sg) (ht : Tw B w vt l) (hv : Sgs w v l) (hl : l.length ≤ 80) :
    Calls Try.prog 21 #[.agg #[.int .i64 g, .int .i64 fi, vt], .agg #[.int .i64 g, .int .i64 fi, v]] w fun e w' => e = .returned (.bool true) ∧ Below w.heap.size w w' := by
  obtain ⟨N, hN⟩ : ∃ N, Hid (l.length = N) := ⟨_, rfl⟩
  have HT := hide ht
  have HV := hide hv
  obtain ⟨tb, cap, rfl, ho⟩ := ht
  obtain ⟨ao, ca, rfl, q1, q2⟩ := hv.form
  have hcap : l.length + 1 ≤ cap ∧ cap ≤ 9223372036854775807 := by obtain ⟨_, _, e, a1, a2⟩ := ho.form; simp only [Value.slice.injEq] at e; obtain ⟨_, e2, rfl⟩ := e; exact ⟨by simpa using a1, a2⟩
  have hmk : Hid (w.cell? ⟨tb, l.length * 5, none⟩ = some (.int .i64 (-7))) := by
    obtain ⟨pb, po, pc, pe, _, _, ph⟩ := ho.sgs.at (by simp)
    simp only [Value.slice.injEq, Option.some.injEq, Addr.mk.injEq] at pe
    obtain ⟨⟨rfl, rfl, _⟩, _, rfl⟩ := pe
    have a := (ph l.length (by simp)).1
    have e : sg (l ++ [mk7]) l.length = mk7 := by unfold sg; rw [List.getD_eq_getElem?_getD, List.getElem?_append_right (Nat.le_refl _), Nat.sub_self]; rfl
    rw [e, Nat.zero_add] at a
    exact a
  rw [hN.out] at hmk hcap hl HT HV q1 ⊢
  obtain ⟨hcap1, hcap2⟩ := hcap
  clear ho hv
  have X0 := hide (box_below w (.cells #[.int .i64 g, .int .i64 fi, .slice (some ⟨tb, 0, none⟩) N cap] 29))
  have X1 := hide (box_below (w.alloc (.cells #[.int .i64 g, .int .i64 fi, .slice (some ⟨tb, 0, none⟩) N cap] 29)) (.cells #[.int .i64 g, .int .i64 fi, .slice ao N ca] 29))
  have BB := hide (keepF X0.out X1.out)
  have Z1 : Hid (((w.alloc (.cells #[.int .i64 g, .int .i64 fi, .slice (some ⟨tb, 0, none⟩) N cap] 29)).alloc (.cells #[.int .i64 g, .int .i64 fi, .slice ao N ca] 29)).heap[w.heap.size]? = some (.cells #[.int .i64 g, .int .i64 fi, .slice (some ⟨tb, 0, none⟩) N cap] 29 (0, 0))) := by
    show _ = _
    rw [X1.out.block w.heap.size (by simp), heap_alloc_new]
  have Z2 : Hid (((w.alloc (.cells #[.int .i64 g, .int .i64 fi, .slice (some ⟨tb, 0, none⟩) N cap] 29)).alloc (.cells #[.int .i64 g, .int .i64 fi, .slice ao N ca] 29)).heap[w.heap.size + 1]? = some (.cells #[.int .i64 g, .int .i64 fi, .slice ao N ca] 29 (0, 0))) := by
    show _ = _
    have := heap_alloc_new (w.alloc (.cells #[.int .i64 g, .int .i64 fi, .slice (some ⟨tb, 0, none⟩) N cap] 29)) (.cells #[.int .i64 g, .int .i64 fi, .slice ao N ca] 29)
    simpa using this
  have T1 := hide (HT.out.sgs.below BB.out)
  have V1 := hide (HV.out.below BB.out)
  have M1 : Hid (((w.alloc (.cells #[.int .i64 g, .int .i64 fi, .slice (some ⟨tb, 0, none⟩) N cap] 29)).alloc (.cells #[.int .i64 g, .int .i64 fi, .slice ao N ca] 29)).cell? ⟨tb, N * 5, none⟩ = some (.int .i64 (-7))) := by show _ = _; rw [BB.out.cell (lt_of_cell hmk.out)]; exact hmk.out
  go_enter Try.func21, Try.ntmps21
  go_upto_region 1 with fail
  generalize ((w.alloc (.cells #[.int .i64 g, .int .i64 fi, .slice (some ⟨tb, 0, none⟩) N cap] 29)).alloc (.cells #[.int .i64 g, .int .i64 fi, .slice ao N ca] 29)) = w1 at *
  clear X0 X1 hmk HT HV
  have KC : Hid (∀ q, Below w1.heap.size w1 q → (q.cell? ⟨w.heap.size, 0, none⟩ = some (.int .i64 g) ∧ q.cell? ⟨w.heap.size, 1, none⟩ = some (.int .i64 fi) ∧ q.cell? ⟨w.heap.size, 2, none⟩ = some (.slice (some ⟨tb, 0, none⟩) N cap)) ∧ (q.cell? ⟨w.heap.size + 1, 0, none⟩ = some (.int .i64 g) ∧ q.cell? ⟨w.heap.size + 1, 1, none⟩ = some (.int .i64 fi) ∧ q.cell? ⟨w.heap.size + 1, 2, none⟩ = some (.slice ao N ca)) ∧ q.cell? ⟨tb, N * 5, none⟩ = some (.int .i64 (-7))) := fun q hq =>
    ⟨three_cells (by rw [hq.block _ (heap_lt Z1.out)]; exact Z1.out), three_cells (by rw [hq.block _ (heap_lt Z2.out)]; exact Z2.out), by rw [hq.cell (lt_of_cell M1.out)]; exact M1.out⟩
  have hS0 := KC.out w1.drew (Below.refl _ _).drew
  have wN : IntKind.i64.wrap ((N : Int) + 1) = (N : Int) + 1 := by rw [IntKind.wrap_i64]; omega
  have iN1 : (N : Int) + 1 ≤ (cap : Int) := by omega
  have iN2 : (N : Int) < (N : Int) + 1 := by omega
  have iN0 : (0 : Int) ≤ (N : Int) := by omega
  have iN3 : (0 : Int) ≤ (N : Int) + 1 := by omega
  have CE : Hid (∀ q, Below w1.heap.size w1 q → Calls Try.prog 20 #[.agg #[.int .i64 g, .int .i64 fi, .slice (some ⟨tb, 0, none⟩) N cap], .agg #[.int .i64 g, .int .i64 fi, .slice ao N ca]] q fun e w' => e = .returned (.bool true) ∧ Below q.heap.size q w') := fun q hq => eq_same q g fi _ _ l (T1.out.below hq) (V1.out.below hq)
  go_region_held3 (fun q => (q.cell? ⟨w.heap.size, 0, none⟩ = some (.int .i64 g) ∧ q.cell? ⟨w.heap.size, 1, none⟩ = some (.int .i64 fi) ∧ q.cell? ⟨w.heap.size, 2, none⟩ = some (.slice (some ⟨tb, 0, none⟩) N cap)) ∧ (q.cell? ⟨w.heap.size + 1, 0, none⟩ = some (.int .i64 g) ∧ q.cell? ⟨w.heap.size + 1, 1, none⟩ = some (.int .i64 fi) ∧ q.cell? ⟨w.heap.size + 1, 2, none⟩ = some (.slice ao N ca)) ∧ q.cell? ⟨tb, N * 5, none⟩ = some (.int .i64 (-7)))
    (first | exact hS0 | assumption | exact KC.out _ KP | fail)
    (first
      | (go_at_call 20; refine (CE.out _ (Below.refl _ w1).drew).mono ?_; rintro e u1 ⟨rfl, B1⟩; have KP := keepF (Below.refl _ w1).drew B1)
      | fail)
  all_goals
    go_wp2_with fail
    go_ret
    exact ⟨rfl, keepF BB.out KP⟩
#print axioms kept_any
theorem room_any (w : World) (n c : Nat) (hn : n ≤ 1000000) : Calls Try.prog 41 #[.int .i64 (n : Int), .int .i64 (c : Int)] w fun e w' => e = .returned (.int .i64 ((min c (n + 5000) : Nat) : Int)) ∧ w' = w := by
  have em : Hid (((min c (n + 5000) : Nat) : Int) = min (c : Int) ((n : Int) + 5000)) := by show _ = _; omega
  rw [em.out]
  go_enter Try.func41, Try.ntmps41
  go_wp2
  go_ret
  exact ⟨rfl, rfl⟩
#print axioms room_any
def mk9 : Sg := ⟨-9, 0, 0, 0, 0⟩
theorem mk9_in : SIn mk9 := ⟨by decide, by decide, by decide, by decide, by decide, by decide, by decide, by decide, by decide⟩
/-- Five cells of a block, one behind the other. -/
def put5at (w : World) (b off : Nat) (a0 a1 a2 a3 a4 : Value) : World := ((((w.setCell ⟨b, off, none⟩ a0).setCell ⟨b, off + 1, none⟩ a1).setCell ⟨b, off + 2, none⟩ a2).setCell ⟨b, off + 3, none⟩ a3).setCell ⟨b, off + 4, none⟩ a4
/-- A list of one's own that is written over, on its way. -/
structure Sp (w u : World) (v0 : Value) (cb : Nat) (g fi : Int) (v : Value) (l : List Sg) : Prop where
  own : Own 0 u v l
  bx : u.heap[cb]? = some (.cells #[.int .i64 g, .int .i64 fi, v] 29 (0, 0))
  but : But (fun k => v0.ownBlock = some k) w u
  at0 : ∀ k, v.ownBlock = some k → v0.ownBlock = some k ∨ w.heap.size ≤ k
  cb1 : w.heap.size ≤ cb
theorem Own.stored5 {B : Nat} {w : World} {b n ca : Nat} {l : List Sg} (h : Own B w (.slice (some ⟨b, 0, none⟩) n ca) l) (hn : l.length = n) (i : Nat) (hi : i < n) :
    Own B (put5at w b (i * 5) (.int .i64 (-9)) (.int .i64 0) (.int .u32 0) (.int .i64 0) (.int .i64 0)) (.slice (some ⟨b, 0, none⟩) n ca) (l.set i mk9) := by
  have h2 := h.2
  rw [hn] at h2
  have a0 := (World.ownsRow.stored h2 (i * 5) (.int .i64 (-9))).1
  have a1 := (World.ownsRow.stored a0 (i * 5 + 1) (.int .i64 0)).1
  have a2 := (World.ownsRow.stored a1 (i * 5 + 2) (.int .u32 0)).1
  have a3 := (World.ownsRow.stored a2 (i * 5 + 3) (.int .i64 0)).1
  have a4 := (World.ownsRow.stored a3 (i * 5 + 4) (.int .i64 0)).1
  refine ⟨fun x hx => ?_, ?_⟩
  · rcases List.mem_or_eq_of_mem_set hx with hx | rfl
    · exact h.1 x hx
    · exact mk9_in
  · rw [List.length_set, hn]
    have e : scells (l.set i mk9) = (((((scells l).set (i * 5) (.int .i64 (-9))).set (i * 5 + 1) (.int .i64 0)).set (i * 5 + 2) (.int .u32 0)).set (i * 5 + 3) (.int .i64 0)).set (i * 5 + 4) (.int .i64 0) := by
      have hil : i < l.length := by omega
      have e1 : l = l.take i ++ ([l[i]] ++ l.drop (i + 1)) := by simp
      have e2 : l.set i mk9 = l.take i ++ ([mk9] ++ l.drop (i + 1)) := by
        rw [List.set_eq_take_append_cons_drop, if_pos hil]; simp
      have hT : (scells (l.take i)).length = i * 5 := by rw [scells_len, List.length_take, Nat.min_eq_left (by omega)]
      rw [e2]
      conv => rhs; rw [e1]
      rw [scells_append, scells_append, scells_append, scells_append]
      generalize scells (l.take i) = T at *
      have hs : scells [l[i]] = scell l[i] := by simp [scells]
      have hm : scells [mk9] = scell mk9 := by simp [scells]
      rw [hs, hm]
      rw [List.set_append_right _ _ (by omega), List.set_append_right _ _ (by omega), List.set_append_right _ _ (by omega), List.set_append_right _ _ (by omega), List.set_append_right _ _ (by omega), hT]
      simp only [Nat.sub_self, Nat.add_sub_cancel_left]
      rfl
    rw [e]
    exact a4
theorem put5at_but (w : World) (b off : Nat) (a0 a1 a2 a3 a4 : Value) : But (fun k => k = b) w (put5at w b off a0 a1 a2 a3 a4) := by
  have st : ∀ (u : World) (j : Nat) (x : Value), But (fun k => k = b) w u → But (fun k => k = b) w (u.setCell ⟨b, j, none⟩ x) := fun u j x h => h.trans (But.of_grownBy (grown_setCell u b j x) fun k e => by cases e; rfl)
  exact st _ _ _ (st _ _ _ (st _ _ _ (st _ _ _ (st _ _ _ (But.refl _ _)))))
theorem Sp.set {w u : World} {v0 : Value} {cb b n ca : Nat} {g fi : Int} {l : List Sg} (h : Sp w u v0 cb g fi (.slice (some ⟨b, 0, none⟩) n ca) l) (hn : l.length = n) (i : Nat) (hi : i < n) :
    Sp w (put5at u b (i * 5) (.int .i64 (-9)) (.int .i64 0) (.int .u32 0) (.int .i64 0) (.int .i64 0)) v0 cb g fi (.slice (some ⟨b, 0, none⟩) n ca) (l.set i mk9) := by
  have hb := put5at_but u b (i * 5) (.int .i64 (-9)) (.int .i64 0) (.int .u32 0) (.int .i64 0) (.int .i64 0)
  have hne : cb ≠ b := fun e => h.own.no h.bx (by decide) (by rw [e]; rfl)
  refine ⟨h.own.stored5 hn i hi, hb.at h.bx hne, ?_, h.at0, h.cb1⟩
  refine butStep (Y := fun k => k = b) h.but hb fun j hj e => ?_
  subst e
  rcases h.at0 j rfl with e | e
  · exact e
  · omega
theorem Sp.box {w u : World} {v0 : Value} {cb : Nat} {g fi : Int} {v : Value} {l : List Sg} (h : Sp w u v0 cb g fi v l) {u' : World} (hb : Below u.heap.size u u') : Sp w u' v0 cb g fi v l :=
  ⟨h.own.below hb, by rw [hb.block _ (heap_lt h.bx)]; exact h.bx, butStep (Y := fun _ => False) h.but (But.of_below hb _) (fun j _ e => e.elim), h.at0, h.cb1⟩
theorem Sp.app {w u u' : World} {v0 : Value} {cb : Nat} {g fi : Int} {v v' : Value} {l l' : List Sg} (h : Sp w u v0 cb g fi v l) (ho : Own 0 u' v' l') (hg : u.grownBy u' v.ownBlock) (hat : v'.ownBlock = v.ownBlock ∨ v'.ownBlock = some u.heap.size) :
    u'.heap[cb]? = some (.cells #[.int .i64 g, .int .i64 fi, v] 29 (0, 0)) ∧ Sp w (u'.setCell ⟨cb, 2, none⟩ v') v0 cb g fi v' l' := by
  have hb : But (fun k => v.ownBlock = some k) u u' := But.of_grownBy hg fun k e => e
  have e1 := hb.at h.bx (h.own.no h.bx (by decide))
  have hs := h.but.size
  have b2 : But (fun k => v0.ownBlock = some k) w u' := butStep h.but hb fun j hj e => by
    rcases h.at0 j e with a | a
    · exact a
    · omega
  refine ⟨e1, ⟨ho.1, ownsRow_setCell_other ho.2 (ho.no e1 (by decide)) _⟩, ?_, ?_, ?_, h.cb1⟩
  · rw [heap_setCell_same _ _ _ _ _ _ e1]; simp
  · exact butStep (Y := fun k => k = cb) b2 (But.of_grownBy (grown_setCell u' cb 2 _) fun k e => by cases e; rfl) fun j hj e => by have := h.cb1; omega
  · intro k hk
    rcases hat with e | e
    · exact h.at0 k (by rw [← e]; exact hk)
    · rw [hk] at e
      simp only [Option.some.injEq] at e
      exact .inr (by omega)
set_option maxRecDepth 20000 in
set_option maxHeartbeats 4000000 in
theorem spoil_any (w : World) (B : Nat) (g fi : Int) (v : Value) (l : List Sg) (ho : Own B w v l) (hl : l.length ≤ 100) :
    Calls Try.prog 22 #[.agg #[.int .i64 g, .int .i64 fi, v]] w fun e w' => e = .returned (.tuple #[]) ∧ But (fun k => v.ownBlock = some k) w w' := by
  obtain ⟨N, hN⟩ : ∃ N, Hid (l.length = N) := ⟨_, rfl⟩
  obtain ⟨ao, ca, rfl, q1, q2⟩ := ho.form
  rw [hN.out] at ho q1 hl ⊢
  have X0 := hide (box_below w (.cells #[.int .i64 g, .int .i64 fi, .slice ao N ca] 29))
  have S0 : Hid (Sp w (w.alloc (.cells #[.int .i64 g, .int .i64 fi, .slice ao N ca] 29)) (.slice ao N ca) w.heap.size g fi (.slice ao N ca) l) := ⟨(ho.low (Nat.zero_le _)).below X0.out, heap_alloc_new _ _, But.of_below X0.out _, fun k hk => .inl hk, Nat.le_refl _⟩
  go_enter Try.func22, Try.ntmps22
  go_upto_region 1 with fail
  generalize w.alloc (.cells #[.int .i64 g, .int .i64 fi, .slice ao N ca] 29) = w1 at *
  clear X0 ho
  go_wp2_with fail
  go_loopg [2] N (fun kx vi wr => ∃ i : Nat, i ≤ N ∧ N - i ≤ kx ∧ vi = .int .i64 (i : Int) ∧ ∃ l', Hid (l'.length = N) ∧ Hid (Sp w wr (.slice ao N ca) w.heap.size g fi (.slice ao N ca) l'))
  case atStart => exact ⟨0, Nat.zero_le _, Nat.le_refl _, rfl, l, hN.out, S0.out⟩
  case round =>
    obtain ⟨i, hi, hkx, rfl, l', hl', hS⟩ := hrel
    clear S0
    obtain ⟨c0, c1, c2⟩ := three_cells hS.out.bx
    by_cases hlt : i < N
    · have hlt' : (i : Int) < (N : Int) := by omega
      obtain ⟨b, rfl⟩ : ∃ b, ao = some ⟨b, 0, none⟩ := by
        rcases hS.out.own.2.2 with ⟨e, _⟩ | ⟨g', cap', cur, h', _⟩
        · simp at e; omega
        · simp only [Value.slice.injEq] at h'
          exact ⟨g', h'.1⟩
      have S1 := hide (hS.out.set hl'.out i hlt)
      obtain ⟨pb, po, pc, pe, _, _, ph⟩ := hS.out.own.sgs.at (by rw [hl'.out]; omega)
      simp only [Value.slice.injEq, Option.some.injEq, Addr.mk.injEq] at pe
      obtain ⟨⟨rfl, rfl, _⟩, _, rfl⟩ := pe
      obtain ⟨k0, k1, k2, k3, k4⟩ := ph i (by rw [hl'.out]; omega)
      rw [Nat.zero_add] at k0 k1 k2 k3 k4
      have hf := fun j => World.ownsRow.frozenAt (by have := hS.out.own.2; rw [hl'.out] at this; exact this) (g := b) j
      have f0 := hf (i * 5)
      have f1 := hf (i * 5 + 1)
      have f2 := hf (i * 5 + 2)
      have f3 := hf (i * 5 + 3)
      have f4 := hf (i * 5 + 4)
      clear hf ph
      go_wp2_with fail
      go_roundg (N - (i + 1))
      case measure => omega
      case rel => exact ⟨i + 1, by omega, Nat.le_refl _, by go_num, l'.set i mk9, by show _ = _; rw [List.length_set]; exact hl'.out, S1.out⟩
    · obtain rfl : i = N := by omega
      have hng : ¬ ((i : Int) < (i : Int)) := by omega
      go_wp2_with fail
      refine (room_any wr i ca (by omega)).mono ?_
      rintro e w2 ⟨rfl, hw2⟩
      subst hw2
      obtain ⟨R, hR⟩ : ∃ R, Hid (min ca (i + 5000) = R) := ⟨_, rfl⟩
      rw [hR.out]
      have hR1 : R ≤ i + 5000 ∧ i ≤ R := by rw [← hR.out]; omega
      obtain ⟨i0, hi0, hz0, hz1, hz2⟩ := info_parts infoSeg
      have HS : Hid (∃ (vv : Value) (ll : List Sg), ll.length ≤ R ∧ R - ll.length ≤ R ∧ Sp w w2 (.slice ao i ca) w.heap.size g fi vv ll) := ⟨_, l', by rw [hl'.out]; exact hR1.2, Nat.sub_le _ _, hS.out⟩
      clear c0 c1 c2
      go_wp2_with fail
      go_loopg [] R (fun kx wr => Hid (∃ (vv : Value) (ll : List Sg), ll.length ≤ R ∧ R - ll.length ≤ kx ∧ Sp w wr (.slice ao i ca) w.heap.size g fi vv ll))
      case atStart => exact HS
      case round =>
        have hx := hrel.out
        obtain ⟨vv, ll, h1, h2, hSp⟩ := hx
        replace hSp := hide hSp
        clear hrel HS hS
        obtain ⟨M, hM⟩ : ∃ M, Hid (ll.length = M) := ⟨_, rfl⟩
        obtain ⟨aov, cav, ex, _, _⟩ := hSp.out.own.form
        rw [hM.out] at ex h1 h2
        subst ex
        obtain ⟨c0, c1, c2⟩ := three_cells hSp.out.bx
        by_cases hlt2 : M < R
        · have hlt3 : (M : Int) < (R : Int) := by omega
          have NB := hide (heap_alloc_new wr (.cells #[.int .i64 (-9), .int .i64 0, .int .u32 0, .int .i64 0, .int .i64 0] 53))
          have SN := hide (hSp.out.box (box_below wr (.cells #[.int .i64 (-9), .int .i64 0, .int .u32 0, .int .i64 0, .int .i64 0] 53)))
          have hown := hide SN.out.own.2
          rw [hM.out] at hown
          have hmm : M + 1 ≤ 6000 := by omega
          have hsc : Hid (scells (ll ++ [mk9]) = scells ll ++ [.int .i64 (-9), .int .i64 0, .int .u32 0, .int .i64 0, .int .i64 0]) := by show _ = _; rw [scells_append]; rfl
          have hin : Hid (AIn (ll ++ [mk9])) := fun x hx => by
            rcases List.mem_append.1 hx with h | h
            · exact hSp.out.own.1 x h
            · simp only [List.mem_singleton] at h; subst h; exact mk9_in
          have hln : Hid ((ll ++ [mk9]).length = M + 1) := by show _ = _; rw [List.length_append, hM.out]; rfl
          go_wp2_with (at_builtin; refine wpList_append_own_at _ rfl (.tmp 29) (.tmp 31) 27 rfl 0 53 i0 (.agg #[.int .i64 0, .int .i64 0, .int .u32 0, .int .i64 0, .int .i64 0]) 5 40 Try.underlying27 hi0 hz0 hz1 hz2 rfl (by decide) (.slice aov M cav) M (scells ll) rfl hown.out ⟨wr.heap.size, 0, none⟩ 1 1 [.int .i64 (-9), .int .i64 0, .int .u32 0, .int .i64 0, .int .i64 0] (by first | rfl | simp [Act.eval]) rfl (five_new NB.out) (by simp [Value.oneCell']) (by unfold maxLen; omega) (by omega) (Nat.zero_le _) ?_; intro vx wx ho6 hg6 _ hat6; have V2 : Own 0 wx vx (ll ++ [mk9]) := ⟨hin.out, by rw [hln.out, hsc.out]; exact ho6⟩; obtain ⟨F1, F2⟩ := SN.out.app V2 hg6 hat6; obtain ⟨aox, cax, ex, _, _⟩ := V2.form; rw [hln.out] at ex; subst ex; obtain ⟨m0, m1, m2⟩ := three_cells F1; obtain ⟨n0, n1, n2⟩ := three_frozen F1; replace F2 := hide F2; clear ho6 hg6 hat6 V2 F1)
          clear m0 m1 m2 n0 n1 n2 NB SN hown
          generalize wx.setCell ⟨w.heap.size, 2, none⟩ (.slice aox (M + 1) cax) = wy at *
          go_roundg (R - (M + 1))
          case measure => omega
          case rel => exact ⟨_, _, by rw [hln.out]; omega, by rw [hln.out]; exact Nat.le_refl _, F2.out⟩
        · have hlt3 : ¬ (M : Int) < (R : Int) := by omega
          go_wp2_with fail
          go_end0
          exact ⟨rfl, hSp.out.but⟩
#print axioms spoil_any
end Go.Proofs.Ytdhjlongdfgejaa.Ct

