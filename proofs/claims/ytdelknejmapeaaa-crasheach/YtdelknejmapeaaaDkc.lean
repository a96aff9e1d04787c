/-
  Bytes of one's own: append as an equation, Clone; a file in memory: tail, spoil.
-/
import Derived.Test.YtdelknejmapeaaaDkR
import Derived.Test.YtdelknejmapeaaaFa
import Derived.Maps.AppendAt
import Derived.Laws.AppendOwnNone
import Derived.Lib.SliceRun
import Derived.Laws.Strings
namespace Go.Proofs.Ytdelknejmapeaaa.Dk
open Go.RowKit Go.Maps Go.Proofs.Ytdelknejmapeaaa.Nm

/-- The list v of one's own holds the bytes l. -/
def Ob (B : Nat) (w : World) (v : Value) (l : List UInt8) : Prop := w.ownsRow B 5 1 v l.length (bvals l)
theorem Ob.nil (B : Nat) (w : World) : Ob B w (.slice none 0 0) [] := World.ownsRow_nil _ _ _ _
theorem infoB : (Try.prog.info? 5).map (fun i => (i.zero, i.size, i.bytes)) = some (some (.int .u8 0), 1, 1) := by kernel_rfl
theorem Ob.sl {B : Nat} {w : World} {v : Value} {l : List UInt8} (h : Ob B w v l) : Sl w v l := Sl.of_owns h
theorem Ob.low {B C : Nat} {w : World} {v : Value} {l : List UInt8} (h : Ob B w v l) (hb : C ≤ B) : Ob C w v l := by
  refine ⟨h.1, ?_⟩
  rcases h.2 with h | ⟨g, cap, cur, rfl, hg, r⟩
  · exact .inl h
  · exact .inr ⟨g, cap, cur, rfl, Nat.le_trans hb hg, r⟩
theorem Ob.but {B : Nat} {X : Nat → Prop} {A C : World} {v : Value} {l : List UInt8} (h : Ob B A v l) (hb : But X A C) (hx : ∀ k, v.ownBlock = some k → ¬ X k) : Ob B C v l := by
  refine ⟨h.1, ?_⟩
  rcases h.2 with h | ⟨g, cap, cur, rfl, hg, hh, r⟩
  · exact .inl h
  · exact .inr ⟨g, cap, cur, rfl, hg, hb.at hh (hx g rfl), r⟩
theorem Ob.below {B : Nat} {w w' : World} {v : Value} {l : List UInt8} (h : Ob B w v l) (hb : Below w.heap.size w w') : Ob B w' v l := h.but (But.of_below hb fun _ => False) fun _ _ c => c
theorem Ob.no {B : Nat} {w : World} {v : Value} {l : List UInt8} {b : Nat} {cs : Array Value} {T : TypeId} {fz : Nat × Nat} (h : Ob B w v l) (hb : w.heap[b]? = some (.cells cs T fz)) (hT : T ≠ 5) : v.ownBlock ≠ some b := fun e1 => by
  rcases h.2 with ⟨rfl, _⟩ | ⟨g, cap, cur, rfl, hg, hh, r⟩
  · simp [Value.ownBlock] at e1
  · simp [Value.ownBlock] at e1
    subst e1
    rw [hb] at hh
    simp at hh
    exact hT hh.2.1
theorem Ob.lt {B : Nat} {w : World} {v : Value} {l : List UInt8} (h : Ob B w v l) : ∀ k, v.ownBlock = some k → B ≤ k ∧ k < w.heap.size := fun k hk => World.ownsRow.lt h k hk
theorem Ob.form {B : Nat} {w : World} {v : Value} {l : List UInt8} (h : Ob B w v l) : ∃ ao ca, v = .slice ao l.length ca ∧ l.length ≤ ca ∧ ca ≤ 9223372036854775807 := by
  obtain ⟨ao, cap, e, _, h3, h4, _⟩ := h.sl
  exact ⟨ao, cap, e, h3, by unfold maxLen at h4; omega⟩
/-- append(v, vx...), as an equation. -/
theorem run_app {B : Nat} {w : World} {v vx : Value} {l m : List UInt8} (h : Ob B w v l) (hm : Sl w vx m) (hl : l.length + m.length ≤ 140737488355328) (hB : B ≤ w.heap.size) (ty : TypeId) :
    ∃ v' w', (Builtin.append_ #[22, 22] ty #[v, vx]).run Try.prog w = .ok v' w' ∧ Ob B w' v' (l ++ m) ∧ w.grownBy w' v.ownBlock ∧ (v'.ownBlock = v.ownBlock ∨ v'.ownBlock = some w.heap.size) := by
  obtain ⟨i0, hi, hz0, hz1, hz2⟩ := info_parts infoB
  obtain ⟨ao, cap, rfl, h2, h3, h4, h5⟩ := hm
  cases ao with
  | none =>
    obtain ⟨rfl, rfl⟩ := h2 rfl
    refine ⟨v, w, ?_, by simpa using h, ⟨rfl, rfl, rfl, Nat.le_refl _, fun _ _ _ => rfl⟩, .inl rfl⟩
    exact run_append_owned_none (P := Try.prog) (w := w) B 22 ty 5 i0 1 Try.underlying22 hi v l.length (bvals l) h
  | some ad =>
    have hcells : ∀ j u, (bvals m)[j]? = some u → w.cell? (ad.add j) = some u := by
      intro j u hu
      have hj : j < m.length := by
        have := (List.getElem?_eq_some_iff.1 hu).1
        simpa [bvals] using this
      obtain ⟨b, off, e1, hc⟩ := h5 j hj
      simp only [Option.some.injEq] at e1
      subst e1
      rw [bvals_get hj] at hu
      simp only [Option.some.injEq] at hu
      subst hu
      rw [addr_add]; exact hc
    obtain ⟨v', w', hr, ho, hg, _, hat⟩ := run_append_own_at (P := Try.prog) w B 22 ty 5 i0 (.int .u8 0) 1 1 Try.underlying22 hi hz0 hz1 hz2 rfl (by decide) v l.length (bvals l) h ad m.length cap (bvals m) (by simp [bvals]) hcells (by
      intro u hu
      simp only [bvals, List.mem_map] at hu
      obtain ⟨c, _, rfl⟩ := hu
      rfl) (by unfold maxLen; omega) (by omega) hB
    refine ⟨v', w', hr, ?_, hg, hat⟩
    unfold Ob
    rw [List.length_append, bvals_append]
    exact ho
theorem eqlS (w : World) (a : Option Addr) (n c n' c' : Nat) : (binOp .eql 22 (.slice a n c) (.slice none n' c')).run Try.prog w = .ok (.bool a.isNone) w := Lib.run_eql_slice_nil w _ _ a n c n' c' Try.underlying22
theorem clone_bytes (w : World) (v : Value) (l : List UInt8) (hv : Sl w v l) (hl : l.length ≤ 140737488355328) :
    Calls Try.prog 33 #[v] w fun e w' => ∃ v', e = .returned v' ∧ Ob w.heap.size w' v' l ∧ Below w.heap.size w w' := by
  have qT := eqlS
  have V := hide hv
  obtain ⟨ao, cap, rfl, h2, _⟩ := hv
  cases ao with
  | none =>
    obtain ⟨rfl, rfl⟩ := h2 rfl
    clear h2 V
    go_enter Try.func33, Try.ntmps33
    go_wp2_with fail
    go_ret
    exact ⟨_, rfl, Ob.nil _ _, Below.refl _ _⟩
  | some ad =>
    clear h2
    have hB := hide ((Below.refl _ w).alloc (Nat.le_refl _) (.cells #[] 5))
    have O1 : Ob w.heap.size (w.alloc (.cells #[] 5)) (.slice (some ⟨w.heap.size, 0, none⟩) 0 0) [] := owns_zero (Nat.le_refl _) (heap_alloc_new w _) rfl (Nat.zero_le _)
    obtain ⟨v', w', hr, O2, hg, _⟩ := run_app (ty := 22) O1 (Below.sl hB.out V.out) (by simpa using hl) (by simp)
    have K : Hid (Ob w.heap.size w' v' l ∧ Below w.heap.size w w') := ⟨by simpa using O2, hB.out.grown hg (by simp) (fun k hk => by simp [Value.ownBlock] at hk; omega)⟩
    clear O1 O2 hg
    go_enter Try.func33, Try.ntmps33
    go_wp2_with (at_builtin; refine Lib.wpList_append_run _ rfl (.tmp 5) (.tmp 6) 22 22 rfl _ _ rfl rfl _ _ hr ?_)
    go_ret
    exact ⟨_, rfl, K.out⟩
#print axioms clone_bytes
end Go.Proofs.Ytdelknejmapeaaa.Dk

/-
  A file in memory: tail, spoil, saved.
-/
namespace Go.Proofs.Ytdelknejmapeaaa.Dk
open Go.RowKit Go.Maps Go.Proofs.Ytdelknejmapeaaa.Nm

/-- A file: its bytes, those that last, how many of the tail's first are marked. -/
structure Fl where
  by_ : List UInt8
  la : List UInt8
  sp : Nat
def TFl : TypeId := 81
structure FlAt (w : World) (p : Nat) (f : Fl) (vb vl : Value) : Prop where
  box : w.heap[p]? = some (.cells #[vb, vl, .int .i64 (f.sp : Int)] TFl (0, 0))
  b : Ob 0 w vb f.by_
  l : Ob 0 w vl f.la
  ne : ∀ k, vb.ownBlock = some k → vl.ownBlock ≠ some k
  le : f.la.length ≤ f.by_.length
  sp : f.sp ≤ f.by_.length - f.la.length
  sz : f.by_.length ≤ 1099511627776
def FOwn (p : Nat) (vb vl : Value) (k : Nat) : Prop := k = p ∨ vb.ownBlock = some k ∨ vl.ownBlock = some k
theorem FlAt.but {X : Nat → Prop} {A B : World} {p : Nat} {f : Fl} {vb vl : Value} (h : FlAt A p f vb vl) (hb : But X A B) (hx : ∀ k, FOwn p vb vl k → ¬ X k) : FlAt B p f vb vl :=
  ⟨hb.at h.box (hx p (.inl rfl)), h.b.but hb fun k hk => hx k (.inr (.inl hk)), h.l.but hb fun k hk => hx k (.inr (.inr hk)), h.ne, h.le, h.sp, h.sz⟩
theorem FlAt.below {A B : World} {p : Nat} {f : Fl} {vb vl : Value} (h : FlAt A p f vb vl) (hb : Below A.heap.size A B) : FlAt B p f vb vl := h.but (But.of_below hb fun _ => False) fun _ _ c => c
theorem FlAt.lt {w : World} {p : Nat} {f : Fl} {vb vl : Value} (h : FlAt w p f vb vl) : ∀ k, FOwn p vb vl k → k < w.heap.size := by
  rintro k (rfl | e | e)
  · exact heap_lt h.box
  · exact (h.b.lt k e).2
  · exact (h.l.lt k e).2
theorem FlAt.new {w : World} {p : Nat} (h : w.heap[p]? = some (.cells #[.slice none 0 0, .slice none 0 0, .int .i64 0] 81 (0, 0))) : FlAt w p ⟨[], [], 0⟩ (.slice none 0 0) (.slice none 0 0) :=
  ⟨h, Ob.nil _ _, Ob.nil _ _, fun k hk => by simp [Value.ownBlock] at hk, Nat.le_refl _, Nat.zero_le _, Nat.zero_le _⟩
theorem tail_any (w : World) (p : Nat) (f : Fl) (vb vl : Value) (h : FlAt w p f vb vl) : Calls Try.prog 49 #[.pointer (some ⟨p, 0, none⟩)] w fun e w' => e = .returned (.int .i64 ((f.by_.length - f.la.length : Nat) : Int)) ∧ ∃ n, w' = w.drewN n := by
  obtain ⟨x0, x1, _⟩ := cells3 h.box
  obtain ⟨ao, ca, rfl, _, _⟩ := h.b.form
  obtain ⟨ao2, ca2, rfl, _, _⟩ := h.l.form
  have hle := h.le
  have hsz := h.sz
  clear h
  generalize f.by_.length = n at *
  generalize f.la.length = m at *
  have e1 : ((n - m : Nat) : Int) = (n : Int) - (m : Int) := by omega
  have e2 : IntKind.i64.wrap ((n : Int) - (m : Int)) = (n : Int) - (m : Int) := by rw [IntKind.wrap_i64]; omega
  rw [e1]
  clear e1
  go_enter Try.func49, Try.ntmps49
  go_upto_region 1 with fail
  go_quiet (fail)
  go_wp2_with fail
  go_ret
  exact ⟨rfl, _, rfl⟩
#print axioms tail_any
end Go.Proofs.Ytdelknejmapeaaa.Dk

/-
  clear of one's own bytes; saved.
-/
namespace Go.Proofs.Ytdelknejmapeaaa.Dk
open Go.RowKit Go.Maps Go.Proofs.Ytdelknejmapeaaa.Nm

theorem Ob.zeros {B g cap : Nat} : ∀ (k o : Nat) (w : World) (L : List UInt8), Ob B w (.slice (some ⟨g, 0, none⟩) L.length cap) L → o + k ≤ L.length →
    Ob B (w.setCells g o (List.replicate k (.int .u8 0))) (.slice (some ⟨g, 0, none⟩) L.length cap) (L.take o ++ List.replicate k 0 ++ L.drop (o + k)) ∧ w.grownBy (w.setCells g o (List.replicate k (.int .u8 0))) (some g) := by
  intro k
  induction k with
  | zero =>
    intro o w L h ho
    have e0 : w.setCells g o (List.replicate 0 (.int .u8 0)) = w := by cases o <;> rfl
    refine ⟨?_, by rw [e0]; exact ⟨rfl, rfl, rfl, Nat.le_refl _, fun _ _ _ => rfl⟩⟩
    have e : w.setCells g o (List.replicate 0 (.int .u8 0)) = w := by cases o <;> rfl
    rw [e]
    simpa using h
  | succ k ih =>
    intro o w L h ho
    obtain ⟨s1, g1⟩ := World.ownsRow.stored h o (.int .u8 0)
    have hL : (L.set o 0).length = L.length := by simp
    have s2 : Ob B (w.setCell ⟨g, o, none⟩ (.int .u8 0)) (.slice (some ⟨g, 0, none⟩) (L.set o 0).length cap) (L.set o 0) := by
      unfold Ob
      rw [hL, show bvals (L.set o 0) = (bvals L).set o (.int .u8 0) by unfold bvals; rw [List.map_set]; rfl]
      exact s1
    obtain ⟨i1, i2⟩ := ih (o + 1) _ (L.set o 0) s2 (by rw [hL]; omega)
    rw [hL] at i1
    refine ⟨?_, ?_⟩
    · have e : (L.set o 0).take (o + 1) ++ List.replicate k 0 ++ (L.set o 0).drop (o + 1 + k) = L.take o ++ List.replicate (k + 1) 0 ++ L.drop (o + (k + 1)) := by
        rw [List.take_succ_eq_append_getElem (by rw [hL]; omega), List.getElem_set_self, List.take_set_of_le (Nat.le_refl _), List.drop_set_of_lt (by omega), List.replicate_succ, show o + 1 + k = o + (k + 1) by omega]
        simp
      rw [e] at i1
      exact i1
    · refine ⟨i2.os.trans g1.os, i2.tape.trans g1.tape, i2.output.trans g1.output, Nat.le_trans g1.size i2.size, fun j hj hn => ?_⟩
      rw [show w.setCells g o (List.replicate (k + 1) (.int .u8 0)) = (w.setCell ⟨g, o, none⟩ (.int .u8 0)).setCells g (o + 1) (List.replicate k (.int .u8 0)) from rfl, i2.block j (Nat.lt_of_lt_of_le hj g1.size) hn]
      exact g1.block j hj hn
theorem zeroU8 (w : World) : (zeroValue 5).run Try.prog w = .ok (.int .u8 0) w := by kernel_rfl
/-- clear(v[:k]), as an equation. -/
theorem run_clear {B : Nat} {w : World} {ao : Option Addr} {n ca k : Nat} {L : List UInt8} (h : Ob B w (.slice ao n ca) L) (hn : n = L.length) (hk : k ≤ L.length) (ty : TypeId) :
    ∃ w', (Builtin.clear_ #[22] ty #[.slice ao k ca]).run Try.prog w = .ok (.tuple #[]) w' ∧ Ob B w' (.slice ao n ca) (List.replicate k 0 ++ L.drop k) ∧ w.grownBy w' (Value.slice ao n ca).ownBlock := by
  by_cases k0 : k = 0
  · subst k0
    refine ⟨w, ?_, by simpa using h, ⟨rfl, rfl, rfl, Nat.le_refl _, fun _ _ _ => rfl⟩⟩
    cases ao <;> simp [Builtin.clear_, run_underlying Try.underlying22]
  · subst hn
    rcases h.2 with ⟨e, e2⟩ | ⟨g, cap, cur, e, hg, hh, r⟩
    · omega
    · simp only [Value.slice.injEq] at e
      obtain ⟨rfl, _, rfl⟩ := e
      obtain ⟨r1, _, r2, _⟩ := r
      have hc : ∀ j, j < k → (w.cell? ⟨g, 0 + j, none⟩).isSome = true := by
        intro j hj
        simp [World.cell?, hh]
        omega
      have hf : ∀ j, j < k → w.frozen? ⟨g, 0 + j, none⟩ = false := fun j _ => World.ownsRow.frozenAt h _
      have hr := Lib.run_clear_slice (P := Try.prog) w 22 5 ty (.int .u8 0) Try.underlying22 zeroU8 rfl rfl g 0 k ca (by omega) hc hf
      obtain ⟨z1, z2⟩ := Ob.zeros k 0 w L h (by omega)
      exact ⟨_, hr, by simpa using z1, z2⟩
#print axioms run_clear
/-- The first n bytes of the tail as they come to last. -/
def svd (f : Fl) (n : Nat) : List UInt8 := List.replicate (min f.sp n) 0 ++ ((f.by_.drop f.la.length).take n).drop (min f.sp n)
theorem svd_len (f : Fl) (n : Nat) (h : f.la.length + n ≤ f.by_.length) : (svd f n).length = n := by
  unfold svd
  simp
  omega
/-- v[a : a + n], as an equation. -/
theorem run_sub {w : World} {v : Value} {l : List UInt8} (h : Sl w v l) (a n : Nat) (hn : a + n ≤ l.length) :
    ∃ v', (∀ q : World, (Instr.slice 22 v (some (.int .i64 (a : Int))) (some (.int .i64 ((a : Int) + (n : Int)))) none).run Try.prog q = .ok v' q) ∧ Sl w v' ((l.drop a).take n) := by
  obtain ⟨ao, ca, rfl, h2, h3, h4, h5⟩ := h
  refine ⟨.slice (if ca = a then ao else ao.map (·.add (a * 1))) n (ca - a), fun q => ?_, ?_⟩
  · have e1 : (0 : Int) ≤ (a : Int) + (n : Int) ∧ (a : Int) + (n : Int) ≤ (ca : Int) := by omega
    have e2 : ((a : Int) + (n : Int)).toNat = a + n := by omega
    have e3 : (a : Int) ≤ ((a + n : Nat) : Int) := by omega
    have e4 : (sizeOf 5).run Try.prog q = .ok 1 q := by kernel_rfl
    simp [Instr.slice, run_underlying Try.underlying22, Instr.sliceBounds, Instr.sliceBound, asIntOf, e1, e2, e4, Result.andThen]
  · have hlen : ((l.drop a).take n).length = n := by simp; omega
    refine ⟨_, _, by rw [hlen], ?_, by rw [hlen]; omega, by omega, ?_⟩
    · intro e
      cases ao with
      | none => obtain ⟨rfl, rfl⟩ := h2 rfl; simp
      | some ad => split at e <;> simp at e
    · intro i hi
      rw [hlen] at hi
      obtain ⟨b, off, e, hc⟩ := h5 (a + i) (by omega)
      subst e
      have hne : ca ≠ a := by omega
      refine ⟨b, off + a, by simp [hne, addr_add], ?_⟩
      rw [show off + a + i = off + (a + i) by omega, hc]
      simp
#print axioms run_sub
set_option maxRecDepth 100000 in
theorem saved_any (w : World) (p n : Nat) (f : Fl) (vb vl : Value) (h : FlAt w p f vb vl) (hn : f.la.length + n ≤ f.by_.length) :
    Calls Try.prog 59 #[.pointer (some ⟨p, 0, none⟩), .int .i64 (n : Int)] w fun e w' => ∃ v, e = .returned v ∧ Ob w.heap.size w' v (svd f n) ∧ Below w.heap.size w w' := by
  obtain ⟨x0, x1, x2⟩ := cells3 h.box
  have hsz := h.sz
  have hB := hide h.box
  obtain ⟨vs, hS, VS⟩ := run_sub h.b.sl f.la.length n hn
  have hlen : ((f.by_.drop f.la.length).take n).length = n := by simp; omega
  have hC := clone_bytes w vs _ VS (by rw [hlen]; omega)
  obtain ⟨k, hk⟩ : ∃ k, Hid (min f.sp n = k) := ⟨_, rfl⟩
  have hE : Hid (svd f n = List.replicate k 0 ++ ((f.by_.drop f.la.length).take n).drop k) := by show _ = _; rw [← hk.out]; rfl
  rw [hE.out]
  have hk2 : k ≤ n ∧ k ≤ f.sp := by have := hk.out; omega
  have hkm : (f.sp ≤ n ∧ k = f.sp) ∨ (n < f.sp ∧ k = n) := by have := hk.out; omega
  generalize (f.by_.drop f.la.length).take n = L at *
  obtain ⟨ao2, ca2, rfl, _, _⟩ := h.l.form
  have w1' : IntKind.i64.wrap ((f.la.length : Int) + (n : Int)) = (f.la.length : Int) + (n : Int) := by rw [IntKind.wrap_i64]; omega
  have hsp : f.sp ≤ 1099511627776 := by have := h.sp; omega
  have hF : Hid (∀ q, Below w.heap.size w q → q.cell? ⟨p, 2, none⟩ = some (.int .i64 (f.sp : Int))) := fun q hq => by rw [hq.cell (p := ⟨p, 2, none⟩) (lt_of_cell x2)]; exact x2
  clear h hE VS
  generalize f.la.length = a at *
  generalize f.sp = sp at *
  generalize f.by_.length = N at *
  go_enter Try.func59, Try.ntmps59
  go_upto_region 3 with (go_at_call 33; refine hC.mono ?_; rintro e w1 ⟨v1, rfl, O1, B1⟩; replace O1 := hide O1; replace B1 := hide B1)
  obtain ⟨ao1, ca1, rfl, c1, c2⟩ := O1.out.form
  obtain ⟨w2, hR, O2, G2⟩ := run_clear (k := k) O1.out rfl (by omega) 0
  have y2 := hF.out w1 B1.out
  have K : Hid (Ob w.heap.size w2 (.slice ao1 L.length ca1) (List.replicate k 0 ++ L.drop k) ∧ Below w.heap.size w w2) := ⟨O2, B1.out.grown G2 B1.out.size (fun j hj => (O1.out.lt j hj).1)⟩
  rw [hlen] at K c1
  rw [hlen]
  clear O1 O2 G2 hC hS x0 x1 x2 hk2 hk
  replace hlen := hide hlen
  replace hn := hide hn
  have hmin : min (sp : Int) (n : Int) = (k : Int) := by omega
  have i2 : (k : Int) ≤ (ca1 : Int) := by omega
  clear hkm
  go_wp2_with fail
  go_ret
  exact ⟨_, rfl, K.out⟩
#print axioms saved_any
end Go.Proofs.Ytdelknejmapeaaa.Dk

/-
  What the power's going leaves of a file, by data; three lists in a row.
-/
namespace Go.Proofs.Ytdelknejmapeaaa.Dk
open Go.RowKit Go.Maps Go.Proofs.Ytdelknejmapeaaa.Nm

def jnk (f : Fl) (N : Int) (J : List UInt8) : Nat := min J.length (min (f.by_.length - f.la.length - wthn N (f.by_.length - f.la.length)) 512)
/-- What the power's going leaves of a file: n bytes of the tail, and junk. -/
def crF (f : Fl) (N : Int) (J : List UInt8) : List UInt8 := f.la ++ (svd f (wthn N (f.by_.length - f.la.length)) ++ J.take (jnk f N J))
theorem Row.three {w : World} {o : TypeId} (a b c : Value) : Row (w.alloc (.cells #[a, b, c] o)) (.slice (some ⟨w.heap.size, 0, none⟩) 3 3) [a, b, c] := by
  refine ⟨some ⟨w.heap.size, 0, none⟩, 3, rfl, fun e => by simp at e, Nat.le_refl _, by decide, fun i hi => ?_⟩
  have hi2 : i = 0 ∨ i = 1 ∨ i = 2 := by simp at hi; omega
  refine ⟨_, _, rfl, ?_⟩
  rw [Nat.zero_add]
  unfold World.cell?
  simp only [heap_alloc_new]
  rcases hi2 with rfl | rfl | rfl <;> rfl
theorem sls3 {w : World} {a b c : Value} {x y z : List UInt8} (ha : Sl w a x) (hb : Sl w b y) (hc : Sl w c z) : Sls w [a, b, c] [x, y, z] := by
  refine ⟨rfl, fun i h1 h2 => ?_⟩
  have hi2 : i = 0 ∨ i = 1 ∨ i = 2 := by simp at h1; omega
  rcases hi2 with rfl | rfl | rfl
  · exact ha
  · exact hb
  · exact hc
theorem _root_.Go.Proofs.Ytdelknejmapeaaa.Sl.below4 {w w' : World} {v : Value} {l : List UInt8} (h : Sl w v l) (hb : Below w.heap.size w w') : Sl w' v l := Below.sl hb h
theorem sl_take {w : World} {a : Option Addr} {n c j : Nat} {l : List UInt8} (h : Sl w (.slice a n c) l) (hj : j ≤ l.length) : Sl w (.slice a j c) (l.take j) := by
  obtain ⟨ao, ca, e, h2, h3, h4, h5⟩ := h
  simp only [Value.slice.injEq] at e
  obtain ⟨rfl, _, rfl⟩ := e
  have hl : (l.take j).length = j := by simp; omega
  refine ⟨a, c, by rw [hl], fun e => ?_, by rw [hl]; omega, h4, fun i hi => ?_⟩
  · obtain ⟨rfl, rfl⟩ := h2 e
    simp
  · rw [hl] at hi
    obtain ⟨b, off, e, hc⟩ := h5 i (by omega)
    exact ⟨b, off, e, by rw [hc]; simp⟩
end Go.Proofs.Ytdelknejmapeaaa.Dk

/-
  spoil.
-/
namespace Go.Proofs.Ytdelknejmapeaaa.Dk
open Go.RowKit Go.Maps Go.Proofs.Ytdelknejmapeaaa.Nm

theorem FlAt.setSp {w : World} {p : Nat} {f : Fl} {vb vl : Value} (h : FlAt w p f vb vl) (n : Nat) (hn : n ≤ f.by_.length - f.la.length) : FlAt (w.setCell ⟨p, 2, none⟩ (.int .i64 (n : Int))) p ⟨f.by_, f.la, n⟩ vb vl := by
  have g := But.of_grownBy (X := fun k => k = p) (grown_setCell w p 2 (.int .i64 (n : Int))) fun k e => by cases e; rfl
  refine ⟨?_, h.b.but g (fun k hk e => h.b.no h.box (by decide) (by rw [← e]; exact hk)), h.l.but g (fun k hk e => h.l.no h.box (by decide) (by rw [← e]; exact hk)), h.ne, h.le, hn, h.sz⟩
  have := heap_setCell_same w p 2 _ _ (.int .i64 (n : Int)) h.box
  simpa using this
theorem spoil_any (w : World) (p : Nat) (f : Fl) (vb vl : Value) (h : FlAt w p f vb vl) :
    Calls Try.prog 42 #[.pointer (some ⟨p, 0, none⟩)] w fun e w' => e = .returned (.tuple #[]) ∧ FlAt w' p ⟨f.by_, f.la, f.by_.length - f.la.length⟩ vb vl ∧ But (fun k => k = p) w w' := by
  have hT := tail_any w p f vb vl h
  have H := hide h
  clear h
  go_enter Try.func42, Try.ntmps42
  go_wp2_with (go_at_call 49; refine hT.mono ?_; rintro e w1 ⟨rfl, nq, rfl⟩; have x2 := (cells3 (H.out.below (Qt.below ⟨nq, rfl⟩ _)).box).2.2; have x3 := (frozen3 (H.out.below (Qt.below ⟨nq, rfl⟩ _)).box).2.2)
  go_end0
  have H1 : FlAt (w.drewN nq) p f vb vl := H.out.below (Qt.below ⟨nq, rfl⟩ _)
  refine ⟨rfl, H1.setSp _ (Nat.le_refl _), ?_⟩
  exact (But.of_below (Qt.below ⟨nq, rfl⟩ _) _).trans (But.of_grownBy (grown_setCell (w.drewN nq) p 2 _) fun k e => by cases e; rfl)
#print axioms spoil_any
end Go.Proofs.Ytdelknejmapeaaa.Dk

/-
  Size, Read.
-/
namespace Go.Proofs.Ytdelknejmapeaaa.Dk
open Go.RowKit Go.Maps Go.Proofs.Ytdelknejmapeaaa.Nm

theorem Dk.find {w : World} {b : Nat} {x : Dc} {f g : Nat} {l l2 : Dr} {P : List Ch} {al : Ar} (h : Dk w b x f g l l2 P al) (s : ByteArray) (hs : s.size ≤ maxLen) :
    Calls Try.prog 29 #[.pointer (some ⟨b, 0, none⟩), .string s] w fun e w' => e = .returned (.tuple #[(findF (some x) l s).1, .int .i64 (findF (some x) l s).2]) ∧ Below w.heap.size w w' :=
  find_any w _ (some x) l s h.dp hs (fun y m e1 e2 => by cases e1; rw [h.fm] at e2; cases e2; exact h.mf)
theorem findF_no {x : Option Dc} {l : Dr} {s : ByteArray} (h : (findF x l s).2 ≠ 0) : (findF x l s).1 = .pointer none := by
  revert h
  unfold findF
  split
  · split
    · intro h; exact absurd rfl h
    · intro _; rfl
  · intro _; rfl
theorem findF_ok {x : Option Dc} {l : Dr} {s : ByteArray} {p : Nat} (hr : refF x [s] = 0) (hg : get l s.data.toList = some p) : findF x l s = (.pointer (some ⟨p, 0, none⟩), 0) := by simp [findF, hr, hg]
theorem size_no {w : World} {b : Nat} {x : Dc} {f g : Nat} {l l2 : Dr} {P : List Ch} {al : Ar} (h : Dk w b x f g l l2 P al) (s : ByteArray) (hs : s.size ≤ maxLen) (hn : (findF (some x) l s).2 ≠ 0) :
    Calls Try.prog 8 #[.pointer (some ⟨b, 0, none⟩), .string s] w fun e w' => e = .returned (.tuple #[.int .i64 0, .int .i64 (findF (some x) l s).2]) ∧ Below w.heap.size w w' := by
  have hF := h.find s hs
  rw [findF_no hn] at hF
  generalize (findF (some x) l s).2 = r at *
  have hn' : (r != 0) = true := by simpa using hn
  clear h hn
  go_enter Try.func8, Try.ntmps8
  go_wp2_with (go_at_call 29; refine hF.mono ?_; rintro e w1 ⟨rfl, B1⟩; replace B1 := hide B1)
  go_ret2
  exact ⟨rfl, B1.out⟩
theorem size_ok {w : World} {b p : Nat} {x : Dc} {f g : Nat} {l l2 : Dr} {P : List Ch} {al : Ar} {t : Fl} {vb vl : Value} (h : Dk w b x f g l l2 P al) (s : ByteArray) (hs : s.size ≤ maxLen) (hr : refF (some x) [s] = 0) (hg : get l s.data.toList = some p) (hf : FlAt w p t vb vl) :
    Calls Try.prog 8 #[.pointer (some ⟨b, 0, none⟩), .string s] w fun e w' => e = .returned (.tuple #[.int .i64 (t.by_.length : Int), .int .i64 0]) ∧ Below w.heap.size w w' := by
  have hF := h.find s hs
  rw [findF_ok hr hg] at hF
  have c0 := (cells3 hf.box).1
  obtain ⟨ao, ca, rfl, _, _⟩ := hf.b.form
  clear h hf hr hg
  go_enter Try.func8, Try.ntmps8
  go_wp2_with (go_at_call 29; refine hF.mono ?_; rintro e w1 ⟨rfl, B1⟩; have d0 := (B1.cell (p := ⟨p, 0, none⟩) (lt_of_cell c0)).trans c0; replace B1 := hide B1)
  go_ret2
  exact ⟨rfl, B1.out⟩
#print axioms size_no
#print axioms size_ok
theorem read_no {w : World} {b : Nat} {x : Dc} {f g : Nat} {l l2 : Dr} {P : List Ch} {al : Ar} (h : Dk w b x f g l l2 P al) (s : ByteArray) (hs : s.size ≤ maxLen) (o n : Int) (hn : (findF (some x) l s).2 ≠ 0) :
    Calls Try.prog 7 #[.pointer (some ⟨b, 0, none⟩), .string s, .int .i64 o, .int .i64 n] w fun e w' => e = .returned (.tuple #[.slice none 0 0, .int .i64 (findF (some x) l s).2]) ∧ Below w.heap.size w w' := by
  have hF := h.find s hs
  rw [findF_no hn] at hF
  generalize (findF (some x) l s).2 = r at *
  have hn' : (r != 0) = true := by simpa using hn
  clear h hn
  go_enter Try.func7, Try.ntmps7
  go_wp2_with (go_at_call 29; refine hF.mono ?_; rintro e w1 ⟨rfl, B1⟩; replace B1 := hide B1)
  go_ret2
  exact ⟨rfl, B1.out⟩
theorem read_ok {w : World} {b p : Nat} {x : Dc} {f g : Nat} {l l2 : Dr} {P : List Ch} {al : Ar} {t : Fl} {vb vl : Value} (h : Dk w b x f g l l2 P al) (s : ByteArray) (hs : s.size ≤ maxLen) (o n : Nat) (hr : refF (some x) [s] = 0) (hg : get l s.data.toList = some p) (hf : FlAt w p t vb vl) (hon : o + n ≤ t.by_.length) :
    Calls Try.prog 7 #[.pointer (some ⟨b, 0, none⟩), .string s, .int .i64 (o : Int), .int .i64 (n : Int)] w fun e w' => ∃ v, e = .returned (.tuple #[v, .int .i64 0]) ∧ Ob w.heap.size w' v ((t.by_.drop o).take n) ∧ Below w.heap.size w w' := by
  have hF := h.find s hs
  rw [findF_ok hr hg] at hF
  have c0 := (cells3 hf.box).1
  obtain ⟨vs, hS, VS⟩ := run_sub hf.b.sl o n hon
  have hlen : ((t.by_.drop o).take n).length ≤ 140737488355328 := by have := hf.sz; simp; omega
  obtain ⟨ao, ca, rfl, _, _⟩ := hf.b.form
  have hsz := hf.sz
  have hC : Hid (∀ q, Below w.heap.size w q → Calls Try.prog 33 #[vs] q fun e w' => ∃ v', e = .returned v' ∧ Ob q.heap.size w' v' ((t.by_.drop o).take n) ∧ Below q.heap.size q w') := fun q hq => clone_bytes q vs _ (Below.sl hq VS) hlen
  clear h hf hr hg VS hlen
  generalize (t.by_.drop o).take n = L at *
  generalize t.by_.length = N at *
  have i1 : ¬ ((o : Int) < 0) := by omega
  have i2 : ¬ ((o : Int) > (N : Int)) := by omega
  have i3 : ¬ ((n : Int) < 0) := by omega
  have i4 : ¬ ((n : Int) > (N : Int) - (o : Int)) := by omega
  have e1 : IntKind.i64.wrap ((N : Int) - (o : Int)) = (N : Int) - (o : Int) := by rw [IntKind.wrap_i64]; omega
  have e2 : IntKind.i64.wrap ((o : Int) + (n : Int)) = (o : Int) + (n : Int) := by rw [IntKind.wrap_i64]; omega
  replace hon := hide hon
  go_enter Try.func7, Try.ntmps7
  go_wp2_with (first
    | (go_at_call 29; refine hF.mono ?_; rintro e w1 ⟨rfl, B1⟩; have d0 := (B1.cell (p := ⟨p, 0, none⟩) (lt_of_cell c0)).trans c0; replace B1 := hide B1)
    | (go_at_call 33; refine (hC.out _ B1.out).mono ?_; rintro e w2 ⟨v2, rfl, O2, B2⟩; replace O2 := hide O2; replace B2 := hide B2))
  go_ret2
  exact ⟨v2, rfl, O2.out.low B1.out.size, B1.out.trans (B2.out.mono B1.out.size)⟩
#print axioms read_no
#print axioms read_ok
end Go.Proofs.Ytdelknejmapeaaa.Dk

/-
  Remove.
-/
namespace Go.Proofs.Ytdelknejmapeaaa.Dk
open Go.RowKit Go.Maps Go.Proofs.Ytdelknejmapeaaa.Nm

/-- How Remove ends. -/
inductive Removed (w w' : World) (b : Nat) (x : Dc) (f g : Nat) (l l2 : Dr) (P : List Ch) (al : Ar) (s : ByteArray) : Int → Prop where
  | no (r : Int) (hr : (findF (some x) l s).2 = r) (h0 : r ≠ 0) (hd : Dk w' b x f g l l2 P al) (st : Stp w w' b x x) : Removed w w' b x f g l l2 P al s r
  | struck (e : Int) (hr : (findF (some x) l s).2 = 0) (he : strR (nextF x al).2.1 = e) (h0 : e ≠ 0) (hd : Dk w' b (strX (nextF x al).2.1 (inc x 5)) f g l l2 P (adel al (x.c7 + 1))) (st : Stp w w' b x (strX (nextF x al).2.1 (inc x 5))) : Removed w w' b x f g l l2 P al s e
  | done (hr : (findF (some x) l s).2 = 0) (he : strR (nextF x al).2.1 = 0) (pd : Value)
      (hd : Dk w' b { strX (nextF x al).2.1 (inc x 5) with pd := pd } f g (ddel l s.data.toList) l2 (P ++ [.rm s]) (adel al (x.c7 + 1))) (st : Stp w w' b x { strX (nextF x al).2.1 (inc x 5) with pd := pd }) : Removed w w' b x f g l l2 P al s 0
set_option maxRecDepth 100000 in
set_option maxHeartbeats 1000000 in
theorem remove_any (w : World) (b : Nat) (x : Dc) (f g : Nat) (l l2 : Dr) (P : List Ch) (al : Ar) (s : ByteArray) (hs : s.size ≤ 140737488355328) (h : Dk w b x f g l l2 P al) (hc : x.c7 < 4611686018427387904) (hk : (nextF x al).2.1 ≠ 4) (hP : P.length < 1000000000) (hl : l.length < 1000000000) :
    Calls Try.prog 15 #[.pointer (some ⟨b, 0, none⟩), .string s] w fun e w' => ∃ r, e = .returned (.int .i64 r) ∧ Removed w w' b x f g l l2 P al s r := by
  have hs2 : s.size ≤ maxLen := by unfold maxLen; omega
  have hF := h.find s hs2
  obtain ⟨v, hv⟩ : ∃ v, Hid ((findF (some x) l s).1 = v) := ⟨_, rfl⟩
  obtain ⟨r, hR⟩ : ∃ r, Hid ((findF (some x) l s).2 = r) := ⟨_, rfl⟩
  rw [hv.out, hR.out] at hF
  have H := hide h
  by_cases r0 : r = 0
  · subst r0
    have hb : Hid (∀ q, Dk q b x f g l l2 P al → _) := fun q hq => begin_any q b x f g l l2 P al 5 (by omega) hq hc
    rw [show (aget al (x.c7 + 1)).getD zf = nextF x al from rfl] at hb
    have hS : Hid (∀ u, Dk u b (inc x 5) f g l l2 P (adel al (x.c7 + 1)) → _) := fun u hu => dk_strikeR u b (inc x 5) f g l l2 P (adel al (x.c7 + 1)) (nextF x al) hu hk
    obtain ⟨t, ht⟩ : ∃ t, Hid (nextF x al = t) := ⟨_, rfl⟩
    rw [ht.out] at hS hb hk
    obtain ⟨e0, he⟩ : ∃ e0, Hid (strR t.2.1 = e0) := ⟨_, rfl⟩
    rw [he.out] at hS
    obtain ⟨y, hX⟩ : ∃ y, Hid (strX t.2.1 (inc x 5) = y) := ⟨_, rfl⟩
    rw [hX.out] at hS
    by_cases s0 : e0 = 0
    · subst s0
      have hC := hide (clone_str s)
      have hT : Hid (∀ u, Dk u b y f g l l2 P (adel al (x.c7 + 1)) → _) := fun u hu => dk_change u b y f g l l2 P _ (.rm s) hu hs2 trivial (by unfold maxLen; omega) hP
      clear h hk
      go_enter Try.func15, Try.ntmps15
      go_wp2_with (first
        | (go_at_call 29; refine hF.mono ?_; rintro e w1 ⟨rfl, B1⟩; replace B1 := hide B1; have D1 := hide (H.out.below B1.out))
        | (go_at_call 30; refine (hb.out _ D1.out).mono ?_; rintro e w2 ⟨rfl, D2, B2⟩; replace D2 := hide D2; replace B2 := hide B2)
        | (go_at_call 43; refine (hS.out _ D2.out).mono ?_; rintro e w3 ⟨rfl, D3, B3⟩; replace D3 := hide D3; replace B3 := hide B3)
        | (go_at_call 41; refine (hC.out w3 (by omega)).mono ?_; rintro e w4 ⟨rfl, B4⟩; replace B4 := hide B4; have D4 := hide (D3.out.below B4.out))
        | (go_at_call 40; refine (hT.out _ D4.out).mono ?_; rintro e w6 ⟨rfl, pd, D6, B6, O6⟩; replace D6 := hide D6; replace B6 := hide B6; replace O6 := hide O6))
      go_ret
      have T3 : Stp w2 w3 b (inc x 5) y := by rw [← hX.out]; exact Stp.strX B3.out
      refine ⟨0, rfl, .done hR.out (by rw [ht.out, he.out]) pd ?_ ?_⟩
      · rw [ht.out, hX.out]; exact D6.out
      · rw [ht.out, hX.out]; exact ((((Stp.of_below B1.out).trans (Stp.inc B2.out)).trans T3).trans (Stp.of_below B4.out)).trans (Stp.change B6.out O6.out)
    · have s0' : (e0 != 0) = true := by simpa using s0
      replace s0 := hide s0
      clear h hk
      go_enter Try.func15, Try.ntmps15
      go_wp2_with (first
        | (go_at_call 29; refine hF.mono ?_; rintro e w1 ⟨rfl, B1⟩; replace B1 := hide B1; have D1 := hide (H.out.below B1.out))
        | (go_at_call 30; refine (hb.out _ D1.out).mono ?_; rintro e w2 ⟨rfl, D2, B2⟩; replace D2 := hide D2; replace B2 := hide B2)
        | (go_at_call 43; refine (hS.out _ D2.out).mono ?_; rintro e w3 ⟨rfl, D3, B3⟩; replace D3 := hide D3; replace B3 := hide B3))
      go_ret
      have T3 : Stp w2 w3 b (inc x 5) y := by rw [← hX.out]; exact Stp.strX B3.out
      refine ⟨e0, rfl, .struck e0 hR.out (by rw [ht.out, he.out]) s0.out ?_ ?_⟩
      · rw [ht.out, hX.out]; exact D3.out
      · rw [ht.out, hX.out]; exact ((Stp.of_below B1.out).trans (Stp.inc B2.out)).trans T3
  · have r0' : (r != 0) = true := by simpa using r0
    replace r0 := hide r0
    clear h hk
    go_enter Try.func15, Try.ntmps15
    go_wp2_with (go_at_call 29; refine hF.mono ?_; rintro e w1 ⟨rfl, B1⟩; replace B1 := hide B1)
    go_ret
    exact ⟨r, rfl, .no r hR.out r0.out (H.out.below B1.out) (Stp.of_below B1.out)⟩
#print axioms remove_any
end Go.Proofs.Ytdelknejmapeaaa.Dk

/-
  Rename.
-/
namespace Go.Proofs.Ytdelknejmapeaaa.Dk
open Go.RowKit Go.Maps Go.Proofs.Ytdelknejmapeaaa.Nm

theorem row2 (w : World) (s t : ByteArray) (T : TypeId) : Row (w.alloc (.cells #[.string s, .string t] T)) (.slice (some ⟨w.heap.size, 0, none⟩) 2 2) ([s, t].map Value.string) := by
  refine ⟨_, 2, rfl, fun e => by simp at e, Nat.le_refl _, by decide, fun i hi => ?_⟩
  have hi2 : i = 0 ∨ i = 1 := by simp at hi; omega
  refine ⟨_, _, rfl, ?_⟩
  rw [Nat.zero_add]
  unfold World.cell?
  simp only [heap_alloc_new]
  rcases hi2 with rfl | rfl <;> rfl
/-- How Rename ends. -/
inductive Renamed (w w' : World) (b : Nat) (x : Dc) (f g : Nat) (l l2 : Dr) (P : List Ch) (al : Ar) (s t : ByteArray) : Int → Prop where
  | no (r : Int) (hr : refF (some x) [s, t] = r) (h0 : r ≠ 0) (hd : Dk w' b x f g l l2 P al) (st : Stp w w' b x x) : Renamed w w' b x f g l l2 P al s t r
  | none (r : Int) (hr : refF (some x) [s, t] = 0) (hf : (findF (some x) l s).2 = r) (h0 : r ≠ 0) (hd : Dk w' b x f g l l2 P al) (st : Stp w w' b x x) : Renamed w w' b x f g l l2 P al s t r
  | struck (e : Int) (hr : refF (some x) [s, t] = 0) (hf : (findF (some x) l s).2 = 0) (he : strR (nextF x al).2.1 = e) (h0 : e ≠ 0) (hd : Dk w' b (strX (nextF x al).2.1 (inc x 4)) f g l l2 P (adel al (x.c7 + 1))) (st : Stp w w' b x (strX (nextF x al).2.1 (inc x 4))) : Renamed w w' b x f g l l2 P al s t e
  | same (hr : refF (some x) [s, t] = 0) (hf : (findF (some x) l s).2 = 0) (he : strR (nextF x al).2.1 = 0) (hst : s = t) (hd : Dk w' b (strX (nextF x al).2.1 (inc x 4)) f g l l2 P (adel al (x.c7 + 1))) (st : Stp w w' b x (strX (nextF x al).2.1 (inc x 4))) : Renamed w w' b x f g l l2 P al s t 0
  | done (hr : refF (some x) [s, t] = 0) (hf : (findF (some x) l s).2 = 0) (he : strR (nextF x al).2.1 = 0) (hst : s ≠ t) (pd : Value)
      (hd : Dk w' b { strX (nextF x al).2.1 (inc x 4) with pd := pd } f g ((Ch.rn s t).run l) l2 (P ++ [.rn s t]) (adel al (x.c7 + 1))) (st : Stp w w' b x { strX (nextF x al).2.1 (inc x 4) with pd := pd }) : Renamed w w' b x f g l l2 P al s t 0
theorem find_isSome {x : Option Dc} {l : Dr} {s : ByteArray} (h : (findF x l s).2 = 0) : (get l s.data.toList).isSome = true := by
  revert h
  unfold findF
  split
  · cases get l s.data.toList with
    | none => intro h; simp at h
    | some p => intro _; rfl
  · rename_i h0
    intro h
    exact absurd h h0
set_option maxRecDepth 100000 in
set_option maxHeartbeats 1000000 in
theorem rename_any (w : World) (b : Nat) (x : Dc) (f g : Nat) (l l2 : Dr) (P : List Ch) (al : Ar) (s t : ByteArray) (hs : s.size ≤ 140737488355328) (ht0 : t.size ≤ 140737488355328) (h : Dk w b x f g l l2 P al) (hc : x.c7 < 4611686018427387904) (hk : (nextF x al).2.1 ≠ 4) (hP : P.length < 1000000000) (hl : l.length < 1000000000) :
    Calls Try.prog 14 #[.pointer (some ⟨b, 0, none⟩), .string s, .string t] w fun e w' => ∃ r, e = .returned (.int .i64 r) ∧ Renamed w w' b x f g l l2 P al s t r := by
  have hs2 : s.size ≤ maxLen := by unfold maxLen; omega
  have ht2 : t.size ≤ maxLen := by unfold maxLen; omega
  have hB := hide ((Below.refl _ w).alloc (Nat.le_refl _) (.cells #[.string s, .string t] 9))
  have H1 := hide (h.below hB.out)
  have hr := refuse_any (w.alloc (.cells #[.string s, .string t] 9)) _ _ (some x) [s, t] H1.out.dp (row2 w s t _) (by simp [hs2, ht2])
  have hF := H1.out.find s hs2
  obtain ⟨q, hQ⟩ : ∃ q, Hid (refF (some x) [s, t] = q) := ⟨_, rfl⟩
  rw [hQ.out] at hr
  obtain ⟨v, hv⟩ : ∃ v, Hid ((findF (some x) l s).1 = v) := ⟨_, rfl⟩
  obtain ⟨r, hR⟩ : ∃ r, Hid ((findF (some x) l s).2 = r) := ⟨_, rfl⟩
  rw [hv.out, hR.out] at hF
  generalize hw1 : w.alloc (.cells #[.string s, .string t] 9) = w1 at *
  replace hw1 := hide hw1
  have K1 := hide (Stp.of_below (b := b) (x := x) hB.out)
  by_cases q0 : q = 0
  · subst q0
    by_cases r0 : r = 0
    · subst r0
      have hb : Hid (∀ q, Dk q b x f g l l2 P al → _) := fun q hq => begin_any q b x f g l l2 P al 4 (by omega) hq hc
      rw [show (aget al (x.c7 + 1)).getD zf = nextF x al from rfl] at hb
      have hS : Hid (∀ u, Dk u b (inc x 4) f g l l2 P (adel al (x.c7 + 1)) → _) := fun u hu => dk_strikeR u b (inc x 4) f g l l2 P (adel al (x.c7 + 1)) (nextF x al) hu hk
      obtain ⟨tt, ht⟩ : ∃ tt, Hid (nextF x al = tt) := ⟨_, rfl⟩
      rw [ht.out] at hS hb hk
      obtain ⟨e0, he⟩ : ∃ e0, Hid (strR tt.2.1 = e0) := ⟨_, rfl⟩
      rw [he.out] at hS
      obtain ⟨y, hX⟩ : ∃ y, Hid (strX tt.2.1 (inc x 4) = y) := ⟨_, rfl⟩
      rw [hX.out] at hS
      by_cases s0 : e0 = 0
      · subst s0
        have hC := hide clone_str
        have hcan : Hid ((Ch.rn s t).can l) := find_isSome hR.out
        have hT : Hid (∀ u, Dk u b y f g l l2 P (adel al (x.c7 + 1)) → _) := fun u hu => dk_change u b y f g l l2 P _ (.rn s t) hu ⟨hs2, ht2⟩ hcan.out (by unfold maxLen; omega) hP
        clear h hk
        by_cases st : s = t
        · subst st
          go_enter Try.func14, Try.ntmps14
          go_wp2_with (first
            | (go_at_call 34; rw [hw1.out]; refine hr.mono ?_; rintro e w2 ⟨rfl, e1⟩; subst w2)
            | (go_at_call 29; refine hF.mono ?_; rintro e w2 ⟨rfl, B2⟩; replace B2 := hide B2; have D2 := hide (H1.out.below B2.out))
            | (go_at_call 30; refine (hb.out _ D2.out).mono ?_; rintro e w3 ⟨rfl, D3, B3⟩; replace D3 := hide D3; replace B3 := hide B3)
            | (go_at_call 43; refine (hS.out _ D3.out).mono ?_; rintro e w4 ⟨rfl, D4, B4⟩; replace D4 := hide D4; replace B4 := hide B4))
          go_ret
          have T4 : Stp w3 w4 b (inc x 4) y := by rw [← hX.out]; exact Stp.strX B4.out
          refine ⟨0, rfl, .same hQ.out hR.out (by rw [ht.out, he.out]) rfl ?_ ?_⟩
          · rw [ht.out, hX.out]; exact D4.out
          · rw [ht.out, hX.out]; exact ((K1.out.trans (Stp.of_below B2.out)).trans (Stp.inc B3.out)).trans T4
        · have st' : (s.toList == t.toList) = false := by
            rw [ByteArray.toList_eq, ByteArray.toList_eq, beq_eq_false_iff_ne]
            intro e
            apply st
            cases s with
            | mk a => cases t with
              | mk c => simpa using e
          replace st := hide st
          go_enter Try.func14, Try.ntmps14
          go_wp2_with (first
            | (go_at_call 34; rw [hw1.out]; refine hr.mono ?_; rintro e w2 ⟨rfl, e1⟩; subst w2)
            | (go_at_call 29; refine hF.mono ?_; rintro e w2 ⟨rfl, B2⟩; replace B2 := hide B2; have D2 := hide (H1.out.below B2.out))
            | (go_at_call 30; refine (hb.out _ D2.out).mono ?_; rintro e w3 ⟨rfl, D3, B3⟩; replace D3 := hide D3; replace B3 := hide B3)
            | (go_at_call 43; refine (hS.out _ D3.out).mono ?_; rintro e w4 ⟨rfl, D4, B4⟩; replace D4 := hide D4; replace B4 := hide B4)
            | (go_at_call 41; refine (hC.out s w4 (by omega)).mono ?_; rintro e w5 ⟨rfl, B5⟩; replace B5 := hide B5)
            | (go_at_call 41; refine (hC.out t w5 (by omega)).mono ?_; rintro e w6 ⟨rfl, B6⟩; replace B6 : Hid (Below w4.heap.size w4 w6) := B5.out.trans (B6.mono B5.out.size); have D6 := hide (D4.out.below B6.out))
            | (go_at_call 40; refine (hT.out _ D6.out).mono ?_; rintro e w7 ⟨rfl, pd, D7, B7, O7⟩; replace D7 := hide D7; replace B7 := hide B7; replace O7 := hide O7))
          go_ret
          have T4 : Stp w3 w4 b (inc x 4) y := by rw [← hX.out]; exact Stp.strX B4.out
          refine ⟨0, rfl, .done hQ.out hR.out (by rw [ht.out, he.out]) st.out pd ?_ ?_⟩
          · rw [ht.out, hX.out]; exact D7.out
          · rw [ht.out, hX.out]; exact ((((K1.out.trans (Stp.of_below B2.out)).trans (Stp.inc B3.out)).trans T4).trans (Stp.of_below B6.out)).trans (Stp.change B7.out O7.out)
      · have s0' : (e0 != 0) = true := by simpa using s0
        replace s0 := hide s0
        clear h hk
        go_enter Try.func14, Try.ntmps14
        go_wp2_with (first
          | (go_at_call 34; rw [hw1.out]; refine hr.mono ?_; rintro e w2 ⟨rfl, e1⟩; subst w2)
          | (go_at_call 29; refine hF.mono ?_; rintro e w2 ⟨rfl, B2⟩; replace B2 := hide B2; have D2 := hide (H1.out.below B2.out))
          | (go_at_call 30; refine (hb.out _ D2.out).mono ?_; rintro e w3 ⟨rfl, D3, B3⟩; replace D3 := hide D3; replace B3 := hide B3)
          | (go_at_call 43; refine (hS.out _ D3.out).mono ?_; rintro e w4 ⟨rfl, D4, B4⟩; replace D4 := hide D4; replace B4 := hide B4))
        go_ret
        have T4 : Stp w3 w4 b (inc x 4) y := by rw [← hX.out]; exact Stp.strX B4.out
        refine ⟨e0, rfl, .struck e0 hQ.out hR.out (by rw [ht.out, he.out]) s0.out ?_ ?_⟩
        · rw [ht.out, hX.out]; exact D4.out
        · rw [ht.out, hX.out]; exact ((K1.out.trans (Stp.of_below B2.out)).trans (Stp.inc B3.out)).trans T4
    · have r0' : (r != 0) = true := by simpa using r0
      replace r0 := hide r0
      clear h hk
      go_enter Try.func14, Try.ntmps14
      go_wp2_with (first
        | (go_at_call 34; rw [hw1.out]; refine hr.mono ?_; rintro e w2 ⟨rfl, e1⟩; subst w2)
        | (go_at_call 29; refine hF.mono ?_; rintro e w2 ⟨rfl, B2⟩; replace B2 := hide B2))
      go_ret
      exact ⟨r, rfl, .none r hQ.out hR.out r0.out (H1.out.below B2.out) (K1.out.trans (Stp.of_below B2.out))⟩
  · have q0' : (q != 0) = true := by simpa using q0
    replace q0 := hide q0
    clear h hk hF
    go_enter Try.func14, Try.ntmps14
    go_wp2_with (go_at_call 34; rw [hw1.out]; refine hr.mono ?_; rintro e w2 ⟨rfl, e1⟩; subst w2)
    go_ret
    exact ⟨q, rfl, .no q hQ.out q0.out H1.out K1.out⟩
#print axioms rename_any
end Go.Proofs.Ytdelknejmapeaaa.Dk

