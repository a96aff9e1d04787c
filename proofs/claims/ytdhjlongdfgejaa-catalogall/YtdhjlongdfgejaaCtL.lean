/-
  What stands between the mark and the sum, read: the program's.
-/
import Derived.Test.YtdhjlongdfgejaaCtK
namespace Go.Proofs.Ytdhjlongdfgejaa.Ct
open Go.RowKit

/-- The catalog that is being read, in block cb: the world u, out of w. -/
structure Rc (w u : World) (rb cb zb : Nat) (l : List UInt8) (s : Stt) (g f : Int) (v : Value) (li : List Sg) : Prop where
  rs : RS u rb l s
  cg : u.heap[cb]? = some (.cells #[.int .i64 g, .int .i64 f, v] 29 (0, 0))
  zg : u.heap[zb]? = some (.cells #[.int .i64 0, .int .i64 0, .slice none 0 0] 29 (0, 0))
  own : Own w.heap.size u v li
  but : But (fun k => k = rb) w u
  r1 : rb < w.heap.size
  s1 : w.heap.size ≤ zb
  s2 : zb < cb
theorem Rc.but' {w u u' : World} {rb cb zb : Nat} {l : List UInt8} {s s' : Stt} {g f : Int} {v : Value} {li : List Sg} (h : Rc w u rb cb zb l s g f v li) (hr : RS u' rb l s') (hg : But (fun k => k = rb) u u') : Rc w u' rb cb zb l s' g f v li := by
  have := h.r1
  have := h.s1
  have := h.s2
  refine ⟨hr, hg.at h.cg (by omega), hg.at h.zg (by omega), h.own.but hg (fun k hk e => by have := (h.own.lt k hk).1; omega), butStep h.but hg fun j _ e => e, h.r1, h.s1, h.s2⟩
theorem Rc.call {w u u' : World} {rb cb zb : Nat} {l : List UInt8} {s s' : Stt} {g f : Int} {v : Value} {li : List Sg} (h : Rc w u rb cb zb l s g f v li) (hr : RS u' rb l s') (hg : u.grownBy u' (some rb)) : Rc w u' rb cb zb l s' g f v li :=
  h.but' hr (But.of_grownBy hg fun k e => by cases e; rfl)
theorem Rc.below {w u u' : World} {rb cb zb : Nat} {l : List UInt8} {s : Stt} {g f : Int} {v : Value} {li : List Sg} (h : Rc w u rb cb zb l s g f v li) (hb : Below u.heap.size u u') : Rc w u' rb cb zb l s g f v li :=
  h.but' (h.rs.below hb) (But.of_below hb _)
theorem Rc.cells {w u : World} {rb cb zb : Nat} {l : List UInt8} {s : Stt} {g f : Int} {v : Value} {li : List Sg} (h : Rc w u rb cb zb l s g f v li) : (u.cell? ⟨cb, 0, none⟩ = some (.int .i64 g) ∧ u.cell? ⟨cb, 1, none⟩ = some (.int .i64 f) ∧ u.cell? ⟨cb, 2, none⟩ = some v) ∧ u.frozen? ⟨cb, 0, none⟩ = false ∧ u.frozen? ⟨cb, 1, none⟩ = false ∧ u.frozen? ⟨cb, 2, none⟩ = false := ⟨three_cells h.cg, three_frozen h.cg⟩
theorem Rc.set0 {w u : World} {rb cb zb : Nat} {l : List UInt8} {s : Stt} {g f : Int} {v : Value} {li : List Sg} (h : Rc w u rb cb zb l s g f v li) (x : Int) : Rc w (u.setCell ⟨cb, 0, none⟩ (.int .i64 x)) rb cb zb l s x f v li := by
  have := h.r1
  have := h.s1
  have := h.s2
  refine ⟨h.rs.sets h.cg (by decide) (by omega) _, ?_, ?_, ⟨h.own.1, ownsRow_setCell_other h.own.2 (h.own.no h.cg (by decide)) _⟩, butStep (Y := fun k => k = cb) h.but (But.of_grownBy (grown_setCell u cb 0 _) fun k e => by cases e; rfl) fun j hj e => by omega, h.r1, h.s1, h.s2⟩
  · rw [heap_setCell_same _ _ _ _ _ _ h.cg]; simp
  · rw [heap_setCell_other _ _ _ _ (by show zb ≠ cb; omega)]; exact h.zg
theorem Rc.set1 {w u : World} {rb cb zb : Nat} {l : List UInt8} {s : Stt} {g f : Int} {v : Value} {li : List Sg} (h : Rc w u rb cb zb l s g f v li) (x : Int) : Rc w (u.setCell ⟨cb, 1, none⟩ (.int .i64 x)) rb cb zb l s g x v li := by
  have := h.r1
  have := h.s1
  have := h.s2
  refine ⟨h.rs.sets h.cg (by decide) (by omega) _, ?_, ?_, ⟨h.own.1, ownsRow_setCell_other h.own.2 (h.own.no h.cg (by decide)) _⟩, butStep (Y := fun k => k = cb) h.but (But.of_grownBy (grown_setCell u cb 1 _) fun k e => by cases e; rfl) fun j hj e => by omega, h.r1, h.s1, h.s2⟩
  · rw [heap_setCell_same _ _ _ _ _ _ h.cg]; simp
  · rw [heap_setCell_other _ _ _ _ (by show zb ≠ cb; omega)]; exact h.zg
theorem Rc.put {w u : World} {rb cb zb : Nat} {l : List UInt8} {s : Stt} {g f : Int} {v : Value} {li : List Sg} (h : Rc w u rb cb zb l s g f v li) (a0 a1 a2 : Value) : But (fun k => k = rb) w (put3 u zb a0 a1 a2) := by
  have st : ∀ (u : World) (j : Nat) (x : Value), But (fun k => k = rb) w u → But (fun k => k = rb) w (u.setCell ⟨zb, j, none⟩ x) := fun u j x hb => butStep (Y := fun k => k = zb) hb (But.of_grownBy (grown_setCell u zb j x) fun k e => by cases e; rfl) fun k hk e => by have := h.s1; omega
  exact st _ _ _ (st _ _ _ (st _ _ _ h.but))
/-- One segment more is written behind the list. -/
theorem Rc.app {w u u' : World} {rb cb zb : Nat} {l : List UInt8} {s : Stt} {g f : Int} {v v' : Value} {li li' : List Sg} (h : Rc w u rb cb zb l s g f v li) (ho : Own w.heap.size u' v' li') (hg : u.grownBy u' v.ownBlock) : Rc w (u'.setCell ⟨cb, 2, none⟩ v') rb cb zb l s g f v' li' := by
  have := h.r1
  have := h.s1
  have := h.s2
  have e1 : u'.heap[cb]? = some (.cells #[.int .i64 g, .int .i64 f, v] 29 (0, 0)) := by rw [hg.block cb (heap_lt h.cg) (fun e => h.own.no h.cg (by decide) e.symm)]; exact h.cg
  have e2 : u'.heap[zb]? = some (.cells #[.int .i64 0, .int .i64 0, .slice none 0 0] 29 (0, 0)) := by rw [hg.block zb (heap_lt h.zg) (fun e => h.own.no h.zg (by decide) e.symm)]; exact h.zg
  have hr : RS u' rb l s := by
    obtain ⟨k, ⟨y, h1, h2, h3⟩, e⟩ := h.rs
    refine ⟨k, ⟨y, ?_, ?_, h3⟩, e⟩
    · rw [hg.block rb (heap_lt h1) (fun e => h.own.no h1 (by decide) e.symm)]; exact h1
    · refine ⟨h2.1, ?_⟩
      rcases h2.2 with h2 | ⟨gg, cap, cur, rfl, hg2, hh, r⟩
      · exact .inl h2
      · exact .inr ⟨gg, cap, cur, rfl, hg2, by rw [hg.block gg (heap_lt hh) (fun e => h.own.no hh (by decide) e.symm)]; exact hh, r⟩
  have hb : But (fun k => k = rb) w u' := butStep (Y := fun k => v.ownBlock = some k) h.but (But.of_grownBy hg fun k e => e) fun j hj e => by have := (h.own.lt j e).1; omega
  refine ⟨hr.sets e1 (by decide) (by omega) _, ?_, ?_, ⟨ho.1, ownsRow_setCell_other ho.2 (ho.no e1 (by decide)) _⟩, butStep (Y := fun k => k = cb) hb (But.of_grownBy (grown_setCell u' cb 2 _) fun k e => by cases e; rfl) fun j hj e => by omega, h.r1, h.s1, h.s2⟩
  · rw [heap_setCell_same _ _ _ _ _ _ e1]; simp
  · rw [heap_setCell_other _ _ _ _ (by show zb ≠ cb; omega)]; exact e2
theorem five_new {w : World} {b : Nat} {a0 a1 a2 a3 a4 : Value} {T : TypeId} (h : w.heap[b]? = some (.cells #[a0, a1, a2, a3, a4] T (0, 0))) : ∀ j u, ([a0, a1, a2, a3, a4] : List Value)[j]? = some u → w.cell? ((⟨b, 0, none⟩ : Addr).add j) = some u := by
  intro j u hu
  rw [addr_add, Nat.zero_add]
  simp only [World.cell?, h]
  simpa using hu
set_option maxRecDepth 20000 in
set_option maxHeartbeats 2000000 in
theorem between_any (w : World) (rb : Nat) (l : List UInt8) (h : RS w rb l (l, 0)) :
    Calls Try.prog 44 #[.pointer (some ⟨rb, 0, none⟩)] w fun e w' => ∃ v', e = .returned (.tuple #[.agg #[.int .i64 (betwF l).2.1, .int .i64 (betwF l).2.2.1, v'], .int .i64 (betwF l).1]) ∧ Own w.heap.size w' v' (betwF l).2.2.2 ∧ But (fun k => k = rb) w w' := by
  have G0 : Hid (Rc w ((w.alloc (.cells #[.int .i64 0, .int .i64 0, .slice none 0 0] 29)).alloc (.cells #[.int .i64 0, .int .i64 0, .slice none 0 0] 29)) rb (w.heap.size + 1) w.heap.size l (l, 0) 0 0 (.slice none 0 0) []) := by
    have e := heap_alloc_new (w.alloc (.cells #[.int .i64 0, .int .i64 0, .slice none 0 0] 29)) (.cells #[.int .i64 0, .int .i64 0, .slice none 0 0] 29)
    rw [show (w.alloc (.cells #[.int .i64 0, .int .i64 0, .slice none 0 0] 29)).heap.size = w.heap.size + 1 by simp] at e
    exact ⟨(h.below (box_below _ _)).below (box_below _ _), e, by rw [(box_below _ _).block w.heap.size (by simp), heap_alloc_new], Own.nil _ _, (But.alloc _ _ _).trans (But.alloc _ _ _), h.lt, Nat.le_refl _, Nat.lt_succ_self _⟩
  clear h
  obtain ⟨g, hg⟩ : ∃ g, Hid (nV (l, 0) = g) := ⟨_, rfl⟩
  obtain ⟨f, hf⟩ : ∃ f, Hid (nV (nS (l, 0)) = f) := ⟨_, rfl⟩
  obtain ⟨c, hc⟩ : ∃ c, Hid (cnt (l, 0) = c) := ⟨_, rfl⟩
  obtain ⟨s3, hs3⟩ : ∃ s3, Hid (cntS (l, 0) = s3) := ⟨_, rfl⟩
  have hc64 : c ≤ 64 := by rw [← hc.out]; exact vV_le 64 _
  have hE : Hid (betwF l = @ite _ ((segsS c s3).2 = 2) (Classical.propDecidable _) (2, 0, 0, []) (@ite _ ((segsS c s3).2 ≠ 0 ∨ (segsS c s3).1 ≠ [] ∨ ¬ May (g : Int) (f : Int) (segsV c s3)) (Classical.propDecidable _) (4, 0, 0, []) (0, (g : Int), (f : Int), segsV c s3))) := by
    show _ = _
    unfold betwF
    rw [hg.out, hf.out, hc.out, hs3.out]
    by_cases a : (segsS c s3).2 = 2
    · rw [if_pos a, if_pos a]
    · rw [if_neg a, if_neg a]
      by_cases b : (segsS c s3).2 ≠ 0 ∨ (segsS c s3).1 ≠ [] ∨ ¬ May (g : Int) (f : Int) (segsV c s3)
      · rw [if_pos b, if_pos b]
      · rw [if_neg b, if_neg b]
  go_enter Try.func44, Try.ntmps44
  go_wp2_with fail
  generalize hq : ((w.alloc (.cells #[.int .i64 0, .int .i64 0, .slice none 0 0] 29)).alloc (.cells #[.int .i64 0, .int .i64 0, .slice none 0 0] 29)) = w1 at *
  clear hq
  refine (readNumber_any w1 rb l (l, 0) G0.out.rs).mono ?_
  rintro e w2 ⟨rfl, R2, g2⟩
  rw [hg.out]
  have G1 := hide (G0.out.call R2 g2)
  obtain ⟨⟨c0, c1, c2⟩, f0, f1, f2⟩ := G1.out.cells
  have S1 := hide (G1.out.set0 (g : Int))
  clear R2 g2 G0
  go_wp2_with fail
  generalize hq : w2.setCell ⟨w.heap.size + 1, 0, none⟩ (.int .i64 (g : Int)) = w3 at *
  clear c0 c1 c2 f0 f1 f2 G1 hq
  refine (readNumber_any w3 rb l (nS (l, 0)) S1.out.rs).mono ?_
  rintro e w4 ⟨rfl, R2, g2⟩
  rw [hf.out]
  have G1 := hide (S1.out.call R2 g2)
  obtain ⟨⟨c0, c1, c2⟩, f0, f1, f2⟩ := G1.out.cells
  have S2 := hide (G1.out.set1 (f : Int))
  clear R2 g2 S1
  go_wp2_with fail
  generalize hq : w4.setCell ⟨w.heap.size + 1, 1, none⟩ (.int .i64 (f : Int)) = w5 at *
  clear c0 c1 c2 f0 f1 f2 G1 hq
  have CALL := hide (rvar_any w5 rb l (nS (nS (l, 0))) 64 (by omega) S2.out.rs)
  rw [show vV 64 (nS (nS (l, 0))) = c from hc.out, show vS 64 (nS (nS (l, 0))) = s3 from hs3.out] at CALL
  refine CALL.out.mono ?_
  rintro e w6 ⟨rfl, R2, g2⟩
  have G3 := hide (S2.out.call R2 g2)
  clear R2 g2 S2 CALL
  go_wp2_with fail
  obtain ⟨i0, hi, hz0, hz1, hz2⟩ := info_parts infoSeg
  go_loopw [15] (fun vi wr => ∃ i : Nat, i ≤ c ∧ vi = .int .u64 (i : Int) ∧ ∃ v, Hid (Rc w wr rb (w.heap.size + 1) w.heap.size l (segsS i s3) (g : Int) (f : Int) v (segsV i s3))) (fun vi _ => c - (intOf vi).toNat)
  case atStart => exact ⟨0, Nat.zero_le _, rfl, _, G3⟩
  case round =>
    obtain ⟨i, hic, rfl, v, RC0⟩ := hrel
    have hil : Hid ((segsV i s3).length = i) := segsV_len i s3
    obtain ⟨aov, cav, rfl, hq1, hq2⟩ := RC0.out.own.form
    rw [hil.out] at hq1 RC0
    by_cases hlt : i < c
    · have hlt' : (i : Int) < (c : Int) := by omega
      have hsv0 := segs_snoc i s3
      obtain ⟨t, ht⟩ : ∃ t, Hid (segV (segsS i s3) = t) := ⟨_, rfl⟩
      have hsv : Hid (segsV (i + 1) s3 = segsV i s3 ++ [t]) := by show _ = _; rw [← ht.out]; exact hsv0.1
      have hss : Hid (segsS (i + 1) s3 = segS (segsS i s3)) := hsv0.2
      obtain ⟨nm, ba, se, en, sz⟩ := t
      clear hsv0 hq1 hq2
      go_upto_region 6 with fail
      refine wp_region_held_drew (S := fun _ => True) (by kernel_rfl) trivial (fun hHeld => ?_)
      clear hHeld
      replace RC0 : Hid (Rc w wr.drew rb (w.heap.size + 1) w.heap.size l (segsS i s3) (g : Int) (f : Int) (.slice aov i cav) (segsV i s3)) := RC0.out.below (Below.refl _ _).drew
      generalize wr.drew = q0 at *
      refine wpAnyH_take (i := 0) (oi := { dst := some 17, op := Op.fieldAddr 29 (Operand.tmp 4) 2, type := 0, pos := "codec.go:57", after := #[], guard := none }) (v := .pointer (some ⟨w.heap.size + 1, 2, none⟩)) rfl (by kernel_rfl) (by kernel_rfl) (by kernel_rfl) (fun _ _ _ h => h) (Or.inl ⟨by rfl, ?_⟩) trivial ?_
      · intro wq hSw
        go_simp
      (try simp only [Act.put, List.setIfInBounds_toArray, List.set_cons_zero, List.set_cons_succ])
      refine wpAnyH_take (i := 2) (oi := { dst := some 19, op := Op.move (Operand.tmp 0), type := 70, pos := "codec.go:57", after := #[], guard := none }) (v := .pointer (some ⟨rb, 0, none⟩)) rfl (by kernel_rfl) (by kernel_rfl) (by kernel_rfl) (fun _ _ _ h => h) (Or.inl ⟨by rfl, ?_⟩) trivial ?_
      · intro wq hSw
        go_simp
      (try simp only [Act.put, List.setIfInBounds_toArray, List.set_cons_zero, List.set_cons_succ])
      refine wpAnyH_ready (rs := [1, 3]) (by kernel_rfl) (by simp) ?_
      refine AllReadyH.cons (o := { dst := some 18, op := Op.load 27 (Operand.tmp 17), type := 27, pos := "codec.go:57", after := #[{ on := 0, ground := Ground.data }], guard := none }) rfl (fun K hK => ?_) ?_
      · have cc := RC0.out.cells.1.2.2
        go_simp
        refine hK.out _ _ trivial (fun hHeld => ?_)
        clear hK K hHeld cc
        (try simp only [Act.put, List.setIfInBounds_toArray, List.set_cons_zero, List.set_cons_succ])
        refine wpAnyH_ready (rs := [3]) (by kernel_rfl) (by simp) ?_
        refine AllReadyH.cons (o := { dst := some 20, op := Op.call { callee := Callee.value (Operand.func 61), args := #[Operand.tmp 19], argTypes := #[70] }, type := 53, pos := "codec.go:57", after := #[{ on := 2, ground := Ground.data }], guard := none }) rfl (fun K hK => ?_) ?_
        · go_simp
          refine (readSeg_any q0 rb l (segsS i s3) RC0.out.rs).mono ?_
          rintro e q2 ⟨rfl, R2, g2⟩
          rw [ht.out] at *
          have RC2 := hide (RC0.out.but' R2 g2)
          refine hK.out _ _ trivial (fun hHeld => ?_)
          clear hK K hHeld R2 g2
          refine wpAnyH_ready (rs := [4]) (by kernel_rfl) (by simp) ?_
          refine AllReadyH.cons (o := { dst := some 21, op := Op.buildSlice 27 1 #[(0, Operand.tmp 20)], type := 27, pos := "codec.go:57", after := #[{ on := 3, ground := Ground.data }], guard := none }) rfl (fun K hK => ?_) ?_
          · go_simp
            have RC3 := hide (RC2.out.below (box_below q2 (.cells #[.int .i64 nm, .int .i64 ba, .int .u32 (se : Int), .int .i64 en, .int .i64 sz] 53)))
            have SB := hide (heap_alloc_new q2 (.cells #[.int .i64 nm, .int .i64 ba, .int .u32 (se : Int), .int .i64 en, .int .i64 sz] 53))
            refine hK.out _ _ trivial (fun hHeld => ?_)
            clear hK K hHeld
            (try simp only [Act.put, List.setIfInBounds_toArray, List.set_cons_zero, List.set_cons_succ])
            generalize q2.alloc (.cells #[.int .i64 nm, .int .i64 ba, .int .u32 (se : Int), .int .i64 en, .int .i64 sz] 53) = q3 at *
            generalize q2.heap.size = sb at *
            refine wpAnyH_ready (rs := [5]) (by kernel_rfl) (by simp) ?_
            refine AllReadyH.cons (o := { dst := some 22, op := Op.call { callee := Callee.builtin Builtin.append, args := #[Operand.tmp 18, Operand.tmp 21], argTypes := #[27, 27] }, type := 27, pos := "codec.go:57", after := #[{ on := 1, ground := Ground.data }, { on := 4, ground := Ground.data }, { on := 3, ground := Ground.chain }], guard := none }) rfl (fun K hK => ?_) ?_
            · refine step_append_lies _ rfl (.tmp 18) (.tmp 21) 27 rfl w.heap.size 53 i0 (.agg #[.int .i64 0, .int .i64 0, .int .u32 0, .int .i64 0, .int .i64 0]) 5 40 Try.underlying27 hi hz0 hz1 hz2 rfl (by decide) (.slice aov i cav) i (scells (segsV i s3)) (by simp [Act.eval]) (by have := RC3.out.own.2; rw [hil.out] at this; exact this) ⟨sb, 0, none⟩ 1 1 [.int .i64 nm, .int .i64 ba, .int .u32 (se : Int), .int .i64 en, .int .i64 sz] (by simp [Act.eval]) rfl (five_new SB.out) (by simp [Value.oneCell']) (by decide) (by unfold maxLen; omega) (by omega) (Nat.le_trans RC3.out.but.size (Nat.le_refl _)) q3.heap.size rfl ?_
              intro g2 cap2 q4 ho hgr hat hlt2
              have V2 : Own w.heap.size q4 (.slice (some ⟨g2, 0, none⟩) (i + 1) cap2) (segsV (i + 1) s3) := ⟨segsV_in _ _, by rw [segsV_len, hsv.out, scells_append]; exact ho⟩
              have RD := hide (RC3.out.app V2 hgr)
              have e1 : q4.heap[w.heap.size + 1]? = some (.cells #[.int .i64 (g : Int), .int .i64 (f : Int), .slice aov i cav] 29 (0, 0)) := by rw [hgr.block _ (heap_lt RC3.out.cg) (fun e => RC3.out.own.no RC3.out.cg (by decide) e.symm)]; exact RC3.out.cg
              have y2 := (three_cells e1).2.2
              have x2 := (three_frozen e1).2.2
              refine hK.out _ _ trivial (fun hHeld => ?_)
              clear hK K hHeld ho hgr hat hlt2 V2 e1
              (try simp only [Act.put, List.setIfInBounds_toArray, List.set_cons_zero, List.set_cons_succ])
              refine wpAnyH_take (i := 6) (oi := { dst := some 23, op := Op.fieldAddr 29 (Operand.tmp 4) 2, type := 0, pos := "codec.go:57", after := #[{ on := 0, ground := Ground.phase }, { on := 1, ground := Ground.phase }, { on := 2, ground := Ground.phase }, { on := 3, ground := Ground.phase }, { on := 4, ground := Ground.phase }, { on := 5, ground := Ground.phase }], guard := none }) (v := .pointer (some ⟨w.heap.size + 1, 2, none⟩)) rfl (by kernel_rfl) (by kernel_rfl) (by kernel_rfl) (fun _ _ _ h => h) (Or.inl ⟨by rfl, ?_⟩) trivial ?_
              · intro wq hSw
                go_simp
              (try simp only [Act.put, List.setIfInBounds_toArray, List.set_cons_zero, List.set_cons_succ])
              refine wpAnyH_ready (rs := [7]) (by kernel_rfl) (by simp) ?_
              refine AllReadyH.cons (o := { dst := none, op := Op.store 27 (Operand.tmp 23) (Operand.tmp 22), type := 0, pos := "codec.go:57", after := #[{ on := 6, ground := Ground.data }, { on := 5, ground := Ground.data }, { on := 5, ground := Ground.chain }, { on := 0, ground := Ground.phase }, { on := 1, ground := Ground.phase }, { on := 2, ground := Ground.phase }, { on := 3, ground := Ground.phase }, { on := 4, ground := Ground.phase }, { on := 5, ground := Ground.phase }], guard := none }) rfl (fun K hK => ?_) ?_
              · go_simp
                refine hK.out _ _ trivial (fun hHeld => ?_)
                clear hK K hHeld y2 x2
                refine wpAnyH_done (by kernel_rfl) ?_ _
                rw [← hss.out] at RD
                go_wp2_with fail
                go_roundw
                case rel => exact ⟨i + 1, by omega, by go_num, (.slice (some ⟨g2, 0, none⟩) (i + 1) cap2), RD⟩
                case measure => simp [intOf]; omega
              exact AllReadyH.nil
            exact AllReadyH.nil
          exact AllReadyH.nil
        exact AllReadyH.nil
      refine AllReadyH.cons (o := { dst := some 20, op := Op.call { callee := Callee.value (Operand.func 61), args := #[Operand.tmp 19], argTypes := #[70] }, type := 53, pos := "codec.go:57", after := #[{ on := 2, ground := Ground.data }], guard := none }) rfl (fun K hK => ?_) ?_
      · go_simp
        refine (readSeg_any q0 rb l (segsS i s3) RC0.out.rs).mono ?_
        rintro e q6 ⟨rfl, R2, g2⟩
        rw [ht.out] at *
        have RC6 := hide (RC0.out.but' R2 g2)
        refine hK.out _ _ trivial (fun hHeld => ?_)
        clear hK K hHeld R2 g2
        refine wpAnyH_ready (rs := [1, 4]) (by kernel_rfl) (by simp) ?_
        refine AllReadyH.cons (o := { dst := some 18, op := Op.load 27 (Operand.tmp 17), type := 27, pos := "codec.go:57", after := #[{ on := 0, ground := Ground.data }], guard := none }) rfl (fun K hK => ?_) ?_
        · have cc := RC6.out.cells.1.2.2
          go_simp
          refine hK.out _ _ trivial (fun hHeld => ?_)
          clear hK K hHeld cc
          (try simp only [Act.put, List.setIfInBounds_toArray, List.set_cons_zero, List.set_cons_succ])
          refine wpAnyH_ready (rs := [4]) (by kernel_rfl) (by simp) ?_
          refine AllReadyH.cons (o := { dst := some 21, op := Op.buildSlice 27 1 #[(0, Operand.tmp 20)], type := 27, pos := "codec.go:57", after := #[{ on := 3, ground := Ground.data }], guard := none }) rfl (fun K hK => ?_) ?_
          · go_simp
            have RC8 := hide (RC6.out.below (box_below q6 (.cells #[.int .i64 nm, .int .i64 ba, .int .u32 (se : Int), .int .i64 en, .int .i64 sz] 53)))
            have SB := hide (heap_alloc_new q6 (.cells #[.int .i64 nm, .int .i64 ba, .int .u32 (se : Int), .int .i64 en, .int .i64 sz] 53))
            refine hK.out _ _ trivial (fun hHeld => ?_)
            clear hK K hHeld
            (try simp only [Act.put, List.setIfInBounds_toArray, List.set_cons_zero, List.set_cons_succ])
            generalize q6.alloc (.cells #[.int .i64 nm, .int .i64 ba, .int .u32 (se : Int), .int .i64 en, .int .i64 sz] 53) = q8 at *
            generalize q6.heap.size = sb at *
            refine wpAnyH_ready (rs := [5]) (by kernel_rfl) (by simp) ?_
            refine AllReadyH.cons (o := { dst := some 22, op := Op.call { callee := Callee.builtin Builtin.append, args := #[Operand.tmp 18, Operand.tmp 21], argTypes := #[27, 27] }, type := 27, pos := "codec.go:57", after := #[{ on := 1, ground := Ground.data }, { on := 4, ground := Ground.data }, { on := 3, ground := Ground.chain }], guard := none }) rfl (fun K hK => ?_) ?_
            · refine step_append_lies _ rfl (.tmp 18) (.tmp 21) 27 rfl w.heap.size 53 i0 (.agg #[.int .i64 0, .int .i64 0, .int .u32 0, .int .i64 0, .int .i64 0]) 5 40 Try.underlying27 hi hz0 hz1 hz2 rfl (by decide) (.slice aov i cav) i (scells (segsV i s3)) (by simp [Act.eval]) (by have := RC8.out.own.2; rw [hil.out] at this; exact this) ⟨sb, 0, none⟩ 1 1 [.int .i64 nm, .int .i64 ba, .int .u32 (se : Int), .int .i64 en, .int .i64 sz] (by simp [Act.eval]) rfl (five_new SB.out) (by simp [Value.oneCell']) (by decide) (by unfold maxLen; omega) (by omega) (Nat.le_trans RC8.out.but.size (Nat.le_refl _)) q8.heap.size rfl ?_
              intro g2 cap2 q9 ho hgr hat hlt2
              have V2 : Own w.heap.size q9 (.slice (some ⟨g2, 0, none⟩) (i + 1) cap2) (segsV (i + 1) s3) := ⟨segsV_in _ _, by rw [segsV_len, hsv.out, scells_append]; exact ho⟩
              have RD := hide (RC8.out.app V2 hgr)
              have e1 : q9.heap[w.heap.size + 1]? = some (.cells #[.int .i64 (g : Int), .int .i64 (f : Int), .slice aov i cav] 29 (0, 0)) := by rw [hgr.block _ (heap_lt RC8.out.cg) (fun e => RC8.out.own.no RC8.out.cg (by decide) e.symm)]; exact RC8.out.cg
              have y2 := (three_cells e1).2.2
              have x2 := (three_frozen e1).2.2
              refine hK.out _ _ trivial (fun hHeld => ?_)
              clear hK K hHeld ho hgr hat hlt2 V2 e1
              (try simp only [Act.put, List.setIfInBounds_toArray, List.set_cons_zero, List.set_cons_succ])
              refine wpAnyH_take (i := 6) (oi := { dst := some 23, op := Op.fieldAddr 29 (Operand.tmp 4) 2, type := 0, pos := "codec.go:57", after := #[{ on := 0, ground := Ground.phase }, { on := 1, ground := Ground.phase }, { on := 2, ground := Ground.phase }, { on := 3, ground := Ground.phase }, { on := 4, ground := Ground.phase }, { on := 5, ground := Ground.phase }], guard := none }) (v := .pointer (some ⟨w.heap.size + 1, 2, none⟩)) rfl (by kernel_rfl) (by kernel_rfl) (by kernel_rfl) (fun _ _ _ h => h) (Or.inl ⟨by rfl, ?_⟩) trivial ?_
              · intro wq hSw
                go_simp
              (try simp only [Act.put, List.setIfInBounds_toArray, List.set_cons_zero, List.set_cons_succ])
              refine wpAnyH_ready (rs := [7]) (by kernel_rfl) (by simp) ?_
              refine AllReadyH.cons (o := { dst := none, op := Op.store 27 (Operand.tmp 23) (Operand.tmp 22), type := 0, pos := "codec.go:57", after := #[{ on := 6, ground := Ground.data }, { on := 5, ground := Ground.data }, { on := 5, ground := Ground.chain }, { on := 0, ground := Ground.phase }, { on := 1, ground := Ground.phase }, { on := 2, ground := Ground.phase }, { on := 3, ground := Ground.phase }, { on := 4, ground := Ground.phase }, { on := 5, ground := Ground.phase }], guard := none }) rfl (fun K hK => ?_) ?_
              · go_simp
                refine hK.out _ _ trivial (fun hHeld => ?_)
                clear hK K hHeld y2 x2
                refine wpAnyH_done (by kernel_rfl) ?_ _
                rw [← hss.out] at RD
                go_wp2_with fail
                go_roundw
                case rel => exact ⟨i + 1, by omega, by go_num, (.slice (some ⟨g2, 0, none⟩) (i + 1) cap2), RD⟩
                case measure => simp [intOf]; omega
              exact AllReadyH.nil
            exact AllReadyH.nil
          exact AllReadyH.nil
        refine AllReadyH.cons (o := { dst := some 21, op := Op.buildSlice 27 1 #[(0, Operand.tmp 20)], type := 27, pos := "codec.go:57", after := #[{ on := 3, ground := Ground.data }], guard := none }) rfl (fun K hK => ?_) ?_
        · go_simp
          have RC11 := hide (RC6.out.below (box_below q6 (.cells #[.int .i64 nm, .int .i64 ba, .int .u32 (se : Int), .int .i64 en, .int .i64 sz] 53)))
          have SB := hide (heap_alloc_new q6 (.cells #[.int .i64 nm, .int .i64 ba, .int .u32 (se : Int), .int .i64 en, .int .i64 sz] 53))
          refine hK.out _ _ trivial (fun hHeld => ?_)
          clear hK K hHeld
          (try simp only [Act.put, List.setIfInBounds_toArray, List.set_cons_zero, List.set_cons_succ])
          generalize q6.alloc (.cells #[.int .i64 nm, .int .i64 ba, .int .u32 (se : Int), .int .i64 en, .int .i64 sz] 53) = q11 at *
          generalize q6.heap.size = sb at *
          refine wpAnyH_ready (rs := [1]) (by kernel_rfl) (by simp) ?_
          refine AllReadyH.cons (o := { dst := some 18, op := Op.load 27 (Operand.tmp 17), type := 27, pos := "codec.go:57", after := #[{ on := 0, ground := Ground.data }], guard := none }) rfl (fun K hK => ?_) ?_
          · have cc := RC11.out.cells.1.2.2
            go_simp
            refine hK.out _ _ trivial (fun hHeld => ?_)
            clear hK K hHeld cc
            (try simp only [Act.put, List.setIfInBounds_toArray, List.set_cons_zero, List.set_cons_succ])
            refine wpAnyH_ready (rs := [5]) (by kernel_rfl) (by simp) ?_
            refine AllReadyH.cons (o := { dst := some 22, op := Op.call { callee := Callee.builtin Builtin.append, args := #[Operand.tmp 18, Operand.tmp 21], argTypes := #[27, 27] }, type := 27, pos := "codec.go:57", after := #[{ on := 1, ground := Ground.data }, { on := 4, ground := Ground.data }, { on := 3, ground := Ground.chain }], guard := none }) rfl (fun K hK => ?_) ?_
            · refine step_append_lies _ rfl (.tmp 18) (.tmp 21) 27 rfl w.heap.size 53 i0 (.agg #[.int .i64 0, .int .i64 0, .int .u32 0, .int .i64 0, .int .i64 0]) 5 40 Try.underlying27 hi hz0 hz1 hz2 rfl (by decide) (.slice aov i cav) i (scells (segsV i s3)) (by simp [Act.eval]) (by have := RC11.out.own.2; rw [hil.out] at this; exact this) ⟨sb, 0, none⟩ 1 1 [.int .i64 nm, .int .i64 ba, .int .u32 (se : Int), .int .i64 en, .int .i64 sz] (by simp [Act.eval]) rfl (five_new SB.out) (by simp [Value.oneCell']) (by decide) (by unfold maxLen; omega) (by omega) (Nat.le_trans RC11.out.but.size (Nat.le_refl _)) q11.heap.size rfl ?_
              intro g2 cap2 q13 ho hgr hat hlt2
              have V2 : Own w.heap.size q13 (.slice (some ⟨g2, 0, none⟩) (i + 1) cap2) (segsV (i + 1) s3) := ⟨segsV_in _ _, by rw [segsV_len, hsv.out, scells_append]; exact ho⟩
              have RD := hide (RC11.out.app V2 hgr)
              have e1 : q13.heap[w.heap.size + 1]? = some (.cells #[.int .i64 (g : Int), .int .i64 (f : Int), .slice aov i cav] 29 (0, 0)) := by rw [hgr.block _ (heap_lt RC11.out.cg) (fun e => RC11.out.own.no RC11.out.cg (by decide) e.symm)]; exact RC11.out.cg
              have y2 := (three_cells e1).2.2
              have x2 := (three_frozen e1).2.2
              refine hK.out _ _ trivial (fun hHeld => ?_)
              clear hK K hHeld ho hgr hat hlt2 V2 e1
              (try simp only [Act.put, List.setIfInBounds_toArray, List.set_cons_zero, List.set_cons_succ])
              refine wpAnyH_take (i := 6) (oi := { dst := some 23, op := Op.fieldAddr 29 (Operand.tmp 4) 2, type := 0, pos := "codec.go:57", after := #[{ on := 0, ground := Ground.phase }, { on := 1, ground := Ground.phase }, { on := 2, ground := Ground.phase }, { on := 3, ground := Ground.phase }, { on := 4, ground := Ground.phase }, { on := 5, ground := Ground.phase }], guard := none }) (v := .pointer (some ⟨w.heap.size + 1, 2, none⟩)) rfl (by kernel_rfl) (by kernel_rfl) (by kernel_rfl) (fun _ _ _ h => h) (Or.inl ⟨by rfl, ?_⟩) trivial ?_
              · intro wq hSw
                go_simp
              (try simp only [Act.put, List.setIfInBounds_toArray, List.set_cons_zero, List.set_cons_succ])
              refine wpAnyH_ready (rs := [7]) (by kernel_rfl) (by simp) ?_
              refine AllReadyH.cons (o := { dst := none, op := Op.store 27 (Operand.tmp 23) (Operand.tmp 22), type := 0, pos := "codec.go:57", after := #[{ on := 6, ground := Ground.data }, { on := 5, ground := Ground.data }, { on := 5, ground := Ground.chain }, { on := 0, ground := Ground.phase }, { on := 1, ground := Ground.phase }, { on := 2, ground := Ground.phase }, { on := 3, ground := Ground.phase }, { on := 4, ground := Ground.phase }, { on := 5, ground := Ground.phase }], guard := none }) rfl (fun K hK => ?_) ?_
              · go_simp
                refine hK.out _ _ trivial (fun hHeld => ?_)
                clear hK K hHeld y2 x2
                refine wpAnyH_done (by kernel_rfl) ?_ _
                rw [← hss.out] at RD
                go_wp2_with fail
                go_roundw
                case rel => exact ⟨i + 1, by omega, by go_num, (.slice (some ⟨g2, 0, none⟩) (i + 1) cap2), RD⟩
                case measure => simp [intOf]; omega
              exact AllReadyH.nil
            exact AllReadyH.nil
          exact AllReadyH.nil
        exact AllReadyH.nil
      exact AllReadyH.nil
    · obtain rfl : i = c := by omega
      obtain ⟨k, RD, hdk⟩ := RC0.out.rs
      have hkl : k ≤ l.length := by obtain ⟨_, _, _, h, _⟩ := RD; exact h
      have hll : l.length ≤ 140737488355328 := by obtain ⟨_, _, _, _, h⟩ := RD; exact h
      have CALL := hide (err_any wr rb l k (segsS i s3).2 RD)
      have CALL2 := hide (fun (u : World) (hr : RdrAt u rb l k (segsS i s3).2) => left_any u rb l k (segsS i s3).2 hr)
      obtain ⟨LL, hLL⟩ : ∃ LL, Hid (l.length = LL) := ⟨_, rfl⟩
      rw [hLL.out] at CALL2 hkl hll
      have RD' : Hid (∀ u, Qt wr u → RdrAt u rb l k (segsS i s3).2) := fun u hu => RD.below (hu.below _)
      have hdl : Hid ((segsS i s3).1.length = LL - k) := by show _ = _; rw [← hdk, List.length_drop, hLL.out]
      replace hdk := hide hdk
      clear RD hdk
      generalize segsS i s3 = s at *
      obtain ⟨r, er⟩ := s
      dsimp only at hE hdl CALL CALL2 RD'
      go_wp2_with fail
      refine CALL.out.mono ?_
      rintro e w7 ⟨rfl, q7⟩
      have RC7 := hide (RC0.out.below (q7.below _))
      replace RD' := hide (RD'.out w7 q7)
      clear q7 CALL RC0
      generalize segsV i s3 = li at *
      by_cases h2 : er = 2
      · subst h2
        rw [if_pos rfl] at hE
        obtain ⟨d0, d1, d2⟩ := three_cells RC7.out.zg
        obtain ⟨f0, f1, f2⟩ := three_frozen RC7.out.zg
        have F := hide (three_cells (put3_heap RC7.out.zg (.int .i64 0) (.int .i64 0) (.slice none 0 0)))
        have BF := hide (RC7.out.put (.int .i64 0) (.int .i64 0) (.slice none 0 0))
        go_wp2_with fail
        show bodyPost _ _ _ _ _ (put3 w7 w.heap.size (.int .i64 0) (.int .i64 0) (.slice none 0 0))
        generalize put3 w7 w.heap.size (.int .i64 0) (.int .i64 0) (.slice none 0 0) = w9 at *
        obtain ⟨k0, k1, k2⟩ := F.out
        refine bodyPost_ret (by simp [results, Try.results44, go_sem, k0, k1, k2]; rfl) rfl ?_
        rw [hE.out]
        exact ⟨_, rfl, Own.nil _ _, BF.out⟩
      rw [if_neg h2] at hE
      have h2' : (er == 2) = false := by simpa using h2
      by_cases h0 : er = 0
      · subst h0
        go_upto_region 11 with fail
        go_wp2_with fail
        refine (CALL2.out w7 RD'.out).mono ?_
        rintro e w8 ⟨rfl, q8⟩
        have RC8 := hide (RC7.out.below (q8.below _))
        clear q8 RC7 RD' CALL2
        by_cases hr : r = []
        · subst hr
          have hz : (LL : Int) - (k : Int) = 0 := by have := hdl.out; simp at this; omega
          have hz' : ¬ (0 : Int) < (LL : Int) - (k : Int) := by omega
          obtain ⟨⟨c0, c1, c2⟩, _⟩ := RC8.out.cells
          have CALL := hide (may_any w8 (g : Int) (f : Int) _ li RC8.out.own.sgs)
          by_cases hm : May (g : Int) (f : Int) li
          · rw [mayB_t hm] at CALL
            rw [if_neg (by simp [hm])] at hE
            go_wp2_with fail
            refine CALL.out.mono ?_
            rintro e w9 ⟨rfl, b9⟩
            have RC9 := hide (RC8.out.below b9)
            clear b9 CALL RC8 c0 c1 c2
            obtain ⟨⟨c0, c1, c2⟩, _⟩ := RC9.out.cells
            obtain ⟨d0, d1, d2⟩ := three_cells RC9.out.zg
            obtain ⟨f0, f1, f2⟩ := three_frozen RC9.out.zg
            have F := hide (three_cells (put3_heap RC9.out.zg (.int .i64 (g : Int)) (.int .i64 (f : Int)) (.slice aov i cav)))
            have BF := hide (RC9.out.put (.int .i64 (g : Int)) (.int .i64 (f : Int)) (.slice aov i cav))
            have OF := hide (RC9.out.own.put3 RC9.out.zg (by decide) (.int .i64 (g : Int)) (.int .i64 (f : Int)) (.slice aov i cav))
            go_wp2_with fail
            show bodyPost _ _ _ _ _ (put3 w9 w.heap.size (.int .i64 (g : Int)) (.int .i64 (f : Int)) (.slice aov i cav))
            generalize put3 w9 w.heap.size (.int .i64 (g : Int)) (.int .i64 (f : Int)) (.slice aov i cav) = w10 at *
            obtain ⟨k0, k1, k2⟩ := F.out
            refine bodyPost_ret (by simp [results, Try.results44, go_sem, k0, k1, k2]; rfl) rfl ?_
            rw [hE.out]
            exact ⟨_, rfl, OF.out, BF.out⟩
          · rw [mayB_f hm] at CALL
            rw [if_pos (.inr (.inr hm))] at hE
            go_wp2_with fail
            refine CALL.out.mono ?_
            rintro e w9 ⟨rfl, b9⟩
            have RC9 := hide (RC8.out.below b9)
            clear b9 CALL RC8 c0 c1 c2
            obtain ⟨d0, d1, d2⟩ := three_cells RC9.out.zg
            obtain ⟨f0, f1, f2⟩ := three_frozen RC9.out.zg
            have F := hide (three_cells (put3_heap RC9.out.zg (.int .i64 0) (.int .i64 0) (.slice none 0 0)))
            have BF := hide (RC9.out.put (.int .i64 0) (.int .i64 0) (.slice none 0 0))
            go_wp2_with fail
            show bodyPost _ _ _ _ _ (put3 w9 w.heap.size (.int .i64 0) (.int .i64 0) (.slice none 0 0))
            generalize put3 w9 w.heap.size (.int .i64 0) (.int .i64 0) (.slice none 0 0) = w9 at *
            obtain ⟨k0, k1, k2⟩ := F.out
            refine bodyPost_ret (by simp [results, Try.results44, go_sem, k0, k1, k2]; rfl) rfl ?_
            rw [hE.out]
            exact ⟨_, rfl, Own.nil _ _, BF.out⟩
        · rw [if_pos (.inr (.inl hr))] at hE
          have hz' : (0 : Int) < (LL : Int) - (k : Int) := by have := hdl.out; have := List.length_pos_iff.2 hr; omega
          have hz2 : (k : Int) < (LL : Int) := by omega
          clear hr
          replace hkl := hide hkl
          obtain ⟨d0, d1, d2⟩ := three_cells RC8.out.zg
          obtain ⟨f0, f1, f2⟩ := three_frozen RC8.out.zg
          have F := hide (three_cells (put3_heap RC8.out.zg (.int .i64 0) (.int .i64 0) (.slice none 0 0)))
          have BF := hide (RC8.out.put (.int .i64 0) (.int .i64 0) (.slice none 0 0))
          go_wp2_with fail
          show bodyPost _ _ _ _ _ (put3 w8 w.heap.size (.int .i64 0) (.int .i64 0) (.slice none 0 0))
          generalize put3 w8 w.heap.size (.int .i64 0) (.int .i64 0) (.slice none 0 0) = w9 at *
          obtain ⟨k0, k1, k2⟩ := F.out
          refine bodyPost_ret (by simp [results, Try.results44, go_sem, k0, k1, k2]; rfl) rfl ?_
          rw [hE.out]
          exact ⟨_, rfl, Own.nil _ _, BF.out⟩
      · rw [if_pos (.inl h0)] at hE
        have h0' : (er != 0) = true := by simpa using h0
        obtain ⟨d0, d1, d2⟩ := three_cells RC7.out.zg
        obtain ⟨f0, f1, f2⟩ := three_frozen RC7.out.zg
        have F := hide (three_cells (put3_heap RC7.out.zg (.int .i64 0) (.int .i64 0) (.slice none 0 0)))
        have BF := hide (RC7.out.put (.int .i64 0) (.int .i64 0) (.slice none 0 0))
        go_wp2_with fail
        show bodyPost _ _ _ _ _ (put3 w7 w.heap.size (.int .i64 0) (.int .i64 0) (.slice none 0 0))
        generalize put3 w7 w.heap.size (.int .i64 0) (.int .i64 0) (.slice none 0 0) = w9 at *
        obtain ⟨k0, k1, k2⟩ := F.out
        refine bodyPost_ret (by simp [results, Try.results44, go_sem, k0, k1, k2]; rfl) rfl ?_
        rw [hE.out]
        exact ⟨_, rfl, Own.nil _ _, BF.out⟩
#print axioms between_any
end Go.Proofs.Ytdhjlongdfgejaa.Ct
