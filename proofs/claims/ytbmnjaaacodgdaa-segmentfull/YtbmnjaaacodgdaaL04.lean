/-
  Bytes of one's own: append as an equation, Clone; a file in memory: tail, spoil.
-/
import Derived.Test.YtbmnjaaacodgdaaL03
import Derived.Test.YtbmnjaaacodgdaaL01
import Derived.Maps.AppendAt
import Derived.Laws.AppendOwnNone
import Derived.Lib.SliceRun
import Derived.Laws.Strings
import Derived.Maps.Range
import Derived.Maps.RangeWalk
import Derived.Maps.Ext
set_option maxRecDepth 100000
set_option maxHeartbeats 40000000
set_option linter.unusedVariables false
namespace Go.Proofs.Ytbmnjaaacodgdaa.Dk
open Go.RowKit Go.Maps Go.Proofs.Ytbmnjaaacodgdaa.Nm
def Ob (B : Nat) (w : World) (v : Value) (l : List UInt8) : Prop := w.ownsRow B 5 1 v l.length (bvals l)
theorem Ob.nil (B : Nat) (w : World) : Ob B w (.slice none 0 0) [] := World.ownsRow_nil _ _ _ _
theorem infoB : (Try.prog.info? 5).map (fun i => (i.zero, i.size, i.bytes)) = some (some (.int .u8 0), 1, 1) := by kernel_rfl
theorem Ob.sl {B : Nat} {w : World} {v : Value} {l : List UInt8} (h : Ob B w v l) : Sl w v l := Sl.of_owns h
theorem Ob.low {B C : Nat} {w : World} {v : Value} {l : List UInt8} (h : Ob B w v l) (hb : C ≤ B) : Ob C w v l := by
 refine ⟨h.1, ?_⟩
 rcases h.2 with h | ⟨g, cap, cur, rfl, hg, r⟩
 ·exact .inl h
 ·exact .inr ⟨g, cap, cur, rfl, Nat.le_trans hb hg, r⟩
theorem Ob.but {B : Nat} {X : Nat → Prop} {A C : World} {v : Value} {l : List UInt8} (h : Ob B A v l) (hb : But X A C) (hx : ∀ k, v.ownBlock = some k → ¬ X k) : Ob B C v l := by
 refine ⟨h.1, ?_⟩
 rcases h.2 with h | ⟨g, cap, cur, rfl, hg, hh, r⟩
 ·exact .inl h
 ·exact .inr ⟨g, cap, cur, rfl, hg, hb.at hh (hx g rfl), r⟩
theorem Ob.below {B : Nat} {w w' : World} {v : Value} {l : List UInt8} (h : Ob B w v l) (hb : Below w.heap.size w w') : Ob B w' v l := h.but (But.of_below hb fun _ => False) fun _ _ c => c
theorem Ob.no {B : Nat} {w : World} {v : Value} {l : List UInt8} {b : Nat} {cs : Array Value} {T : TypeId} {fz : Nat × Nat} (h : Ob B w v l) (hb : w.heap[b]? = some (.cells cs T fz)) (hT : T ≠ 5) : v.ownBlock ≠ some b := fun e1 => by
 rcases h.2 with ⟨rfl, _⟩ | ⟨g, cap, cur, rfl, hg, hh, r⟩
 ·simp [Value.ownBlock] at e1
 ·simp [Value.ownBlock] at e1
  subst e1
  rw [hb] at hh
  simp at hh
  exact hT hh.2.1
theorem Ob.lt {B : Nat} {w : World} {v : Value} {l : List UInt8} (h : Ob B w v l) : ∀ k, v.ownBlock = some k → B ≤ k ∧ k < w.heap.size := fun k hk => World.ownsRow.lt h k hk
theorem Ob.form {B : Nat} {w : World} {v : Value} {l : List UInt8} (h : Ob B w v l) : ∃ ao ca, v = .slice ao l.length ca ∧ l.length ≤ ca ∧ ca ≤ 9223372036854775807 := by
 obtain ⟨ao, cap, e, _, h3, h4, _⟩ := h.sl
 exact ⟨ao, cap, e, h3, by unfold maxLen at h4; omega⟩
theorem run_app {B : Nat} {w : World} {v vx : Value} {l m : List UInt8} (h : Ob B w v l) (hm : Sl w vx m) (hl : l.length + m.length ≤ 140737488355328) (hB : B ≤ w.heap.size) (ty : TypeId) :
    ∃ v' w', (Builtin.append_ #[40, 40] ty #[v, vx]).run Try.prog w = .ok v' w' ∧ Ob B w' v' (l ++ m) ∧ w.grownBy w' v.ownBlock ∧ (v'.ownBlock = v.ownBlock ∨ v'.ownBlock = some w.heap.size) := by
 obtain ⟨i0, hi, hz0, hz1, hz2⟩ := info_parts infoB
 obtain ⟨ao, cap, rfl, h2, h3, h4, h5⟩ := hm
 cases ao with
 | none =>
  obtain ⟨rfl, rfl⟩ := h2 rfl
  refine ⟨v, w, ?_, by simpa using h, ⟨rfl, rfl, rfl, Nat.le_refl _, fun _ _ _ => rfl⟩, .inl rfl⟩
  exact run_append_owned_none (P := Try.prog) (w := w) B 40 ty 5 i0 1 Try.underlying40 hi v l.length (bvals l) h
 | some ad =>
  have hcells : ∀ j u, (bvals m)[j]? = some u → w.cell? (ad.add j) = some u := by
   intro j u hu
   have hj : j < m.length := by
    have := (List.getElem?_eq_some_iff.1 hu).1
    simpa [bvals] using this
   obtain ⟨b, off, e1, hc⟩ := h5 j hj
   simp only [Option.some.injEq] at e1
   subst e1
   rw [bvals_get hj] at hu
   simp only [Option.some.injEq] at hu
   subst hu
   rw [addr_add]; exact hc
  obtain ⟨v', w', hr, ho, hg, _, hat⟩ := run_append_own_at (P := Try.prog) w B 40 ty 5 i0 (.int .u8 0) 1 1 Try.underlying40 hi hz0 hz1 hz2 rfl (by decide) v l.length (bvals l) h ad m.length cap (bvals m) (by simp [bvals]) hcells (by
   intro u hu
   simp only [bvals, List.mem_map] at hu
   obtain ⟨c, _, rfl⟩ := hu
   rfl) (by unfold maxLen; omega) (by omega) hB
  refine ⟨v', w', hr, ?_, hg, hat⟩
  unfold Ob
  rw [List.length_append, bvals_append]
  exact ho
theorem eqlS (w : World) (a : Option Addr) (n c n' c' : Nat) : (binOp .eql 40 (.slice a n c) (.slice none n' c')).run Try.prog w = .ok (.bool a.isNone) w := Lib.run_eql_slice_nil w _ _ a n c n' c' Try.underlying40
theorem clone_bytes (w : World) (v : Value) (l : List UInt8) (hv : Sl w v l) (hl : l.length ≤ 140737488355328) :
    Calls Try.prog 43 #[v] w fun e w' => ∃ v', e = .returned v' ∧ Ob w.heap.size w' v' l ∧ Below w.heap.size w w' := by
 have qT := eqlS
 have V := hide hv
 obtain ⟨ao, cap, rfl, h2, _⟩ := hv
 cases ao with
 | none =>
  obtain ⟨rfl, rfl⟩ := h2 rfl
  clear h2 V
  go_enter Try.func43, Try.ntmps43
  go_wp2_with fail
  go_ret
  exact ⟨_, rfl, Ob.nil _ _, Below.refl _ _⟩
 | some ad =>
  clear h2
  have hB := hide ((Below.refl _ w).alloc (Nat.le_refl _) (.cells #[] 5))
  have O1 : Ob w.heap.size (w.alloc (.cells #[] 5)) (.slice (some ⟨w.heap.size, 0, none⟩) 0 0) [] := owns_zero (Nat.le_refl _) (heap_alloc_new w _) rfl (Nat.zero_le _)
  obtain ⟨v', w', hr, O2, hg, _⟩ := run_app (ty := 40) O1 (Below.sl hB.out V.out) (by simpa using hl) (by simp)
  have K : Hid (Ob w.heap.size w' v' l ∧ Below w.heap.size w w') := ⟨by simpa using O2, hB.out.grown hg (by simp) (fun k hk => by simp [Value.ownBlock] at hk; omega)⟩
  clear O1 O2 hg
  go_enter Try.func43, Try.ntmps43
  go_wp2_with (at_builtin; refine Lib.wpList_append_run _ rfl (.tmp 5) (.tmp 6) 40 40 rfl _ _ rfl rfl _ _ hr ?_)
  go_ret
  exact ⟨_, rfl, K.out⟩
structure Fl where
 by_ : List UInt8
 la : List UInt8
 sp : Nat
def TFl : TypeId := 109
structure FlAt (w : World) (p : Nat) (f : Fl) (vb vl : Value) : Prop where
 box : w.heap[p]? = some (.cells #[vb, vl, .int .i64 (f.sp : Int)] TFl (0, 0))
 b : Ob 0 w vb f.by_
 l : Ob 0 w vl f.la
 ne : ∀ k, vb.ownBlock = some k → vl.ownBlock ≠ some k
 le : f.la.length ≤ f.by_.length
 sp : f.sp ≤ f.by_.length - f.la.length
 sz : f.by_.length ≤ 1099511627776
def FOwn (p : Nat) (vb vl : Value) (k : Nat) : Prop := k = p ∨ vb.ownBlock = some k ∨ vl.ownBlock = some k
theorem FlAt.but {X : Nat → Prop} {A B : World} {p : Nat} {f : Fl} {vb vl : Value} (h : FlAt A p f vb vl) (hb : But X A B) (hx : ∀ k, FOwn p vb vl k → ¬ X k) : FlAt B p f vb vl :=
 ⟨hb.at h.box (hx p (.inl rfl)), h.b.but hb fun k hk => hx k (.inr (.inl hk)), h.l.but hb fun k hk => hx k (.inr (.inr hk)), h.ne, h.le, h.sp, h.sz⟩
theorem FlAt.below {A B : World} {p : Nat} {f : Fl} {vb vl : Value} (h : FlAt A p f vb vl) (hb : Below A.heap.size A B) : FlAt B p f vb vl := h.but (But.of_below hb fun _ => False) fun _ _ c => c
theorem FlAt.lt {w : World} {p : Nat} {f : Fl} {vb vl : Value} (h : FlAt w p f vb vl) : ∀ k, FOwn p vb vl k → k < w.heap.size := by
 rintro k (rfl | e | e)
 ·exact heap_lt h.box
 ·exact (h.b.lt k e).2
 ·exact (h.l.lt k e).2
theorem FlAt.new {w : World} {p : Nat} (h : w.heap[p]? = some (.cells #[.slice none 0 0, .slice none 0 0, .int .i64 0] 109 (0, 0))) : FlAt w p ⟨[], [], 0⟩ (.slice none 0 0) (.slice none 0 0) :=
 ⟨h, Ob.nil _ _, Ob.nil _ _, fun k hk => by simp [Value.ownBlock] at hk, Nat.le_refl _, Nat.zero_le _, Nat.zero_le _⟩
theorem tail_any (w : World) (p : Nat) (f : Fl) (vb vl : Value) (h : FlAt w p f vb vl) : Calls Try.prog 59 #[.pointer (some ⟨p, 0, none⟩)] w fun e w' => e = .returned (.int .i64 ((f.by_.length - f.la.length : Nat) : Int)) ∧ ∃ n, w' = w.drewN n := by
 obtain ⟨x0, x1, _⟩ := cells3 h.box
 obtain ⟨ao, ca, rfl, _, _⟩ := h.b.form
 obtain ⟨ao2, ca2, rfl, _, _⟩ := h.l.form
 have hle := h.le
 have hsz := h.sz
 clear h
 generalize f.by_.length = n at *
 generalize f.la.length = m at *
 have e1 : ((n - m : Nat) : Int) = (n : Int) - (m : Int) := by omega
 have e2 : IntKind.i64.wrap ((n : Int) - (m : Int)) = (n : Int) - (m : Int) := by rw [IntKind.wrap_i64]; omega
 rw [e1]
 clear e1
 go_enter Try.func59, Try.ntmps59
 go_upto_region 1 with fail
 go_quiet (fail)
 go_wp2_with fail
 go_ret
 exact ⟨rfl, _, rfl⟩
theorem Ob.zeros {B g cap : Nat} : ∀ (k o : Nat) (w : World) (L : List UInt8), Ob B w (.slice (some ⟨g, 0, none⟩) L.length cap) L → o + k ≤ L.length →
    Ob B (w.setCells g o (List.replicate k (.int .u8 0))) (.slice (some ⟨g, 0, none⟩) L.length cap) (L.take o ++ List.replicate k 0 ++ L.drop (o + k)) ∧ w.grownBy (w.setCells g o (List.replicate k (.int .u8 0))) (some g) := by
 intro k
 induction k with
 | zero =>
  intro o w L h ho
  have e0 : w.setCells g o (List.replicate 0 (.int .u8 0)) = w := by cases o <;> rfl
  refine ⟨?_, by rw [e0]; exact ⟨rfl, rfl, rfl, Nat.le_refl _, fun _ _ _ => rfl⟩⟩
  have e : w.setCells g o (List.replicate 0 (.int .u8 0)) = w := by cases o <;> rfl
  rw [e]
  simpa using h
 | succ k ih =>
  intro o w L h ho
  obtain ⟨s1, g1⟩ := World.ownsRow.stored h o (.int .u8 0)
  have hL : (L.set o 0).length = L.length := by simp
  have s2 : Ob B (w.setCell ⟨g, o, none⟩ (.int .u8 0)) (.slice (some ⟨g, 0, none⟩) (L.set o 0).length cap) (L.set o 0) := by
   unfold Ob
   rw [hL, show bvals (L.set o 0) = (bvals L).set o (.int .u8 0) by unfold bvals; rw [List.map_set]; rfl]
   exact s1
  obtain ⟨i1, i2⟩ := ih (o + 1) _ (L.set o 0) s2 (by rw [hL]; omega)
  rw [hL] at i1
  refine ⟨?_, ?_⟩
  ·have e : (L.set o 0).take (o + 1) ++ List.replicate k 0 ++ (L.set o 0).drop (o + 1 + k) = L.take o ++ List.replicate (k + 1) 0 ++ L.drop (o + (k + 1)) := by
     rw [List.take_succ_eq_append_getElem (by rw [hL]; omega), List.getElem_set_self, List.take_set_of_le (Nat.le_refl _), List.drop_set_of_lt (by omega), List.replicate_succ, show o + 1 + k = o + (k + 1) by omega]
     simp
   rw [e] at i1
   exact i1
  ·refine ⟨i2.os.trans g1.os, i2.tape.trans g1.tape, i2.output.trans g1.output, Nat.le_trans g1.size i2.size, fun j hj hn => ?_⟩
   rw [show w.setCells g o (List.replicate (k + 1) (.int .u8 0)) = (w.setCell ⟨g, o, none⟩ (.int .u8 0)).setCells g (o + 1) (List.replicate k (.int .u8 0)) from rfl, i2.block j (Nat.lt_of_lt_of_le hj g1.size) hn]
   exact g1.block j hj hn
theorem zeroU8 (w : World) : (zeroValue 5).run Try.prog w = .ok (.int .u8 0) w := by kernel_rfl
theorem run_clear {B : Nat} {w : World} {ao : Option Addr} {n ca k : Nat} {L : List UInt8} (h : Ob B w (.slice ao n ca) L) (hn : n = L.length) (hk : k ≤ L.length) (ty : TypeId) :
    ∃ w', (Builtin.clear_ #[40] ty #[.slice ao k ca]).run Try.prog w = .ok (.tuple #[]) w' ∧ Ob B w' (.slice ao n ca) (List.replicate k 0 ++ L.drop k) ∧ w.grownBy w' (Value.slice ao n ca).ownBlock := by
 by_cases k0 : k = 0
 ·subst k0
  refine ⟨w, ?_, by simpa using h, ⟨rfl, rfl, rfl, Nat.le_refl _, fun _ _ _ => rfl⟩⟩
  cases ao <;> simp [Builtin.clear_, run_underlying Try.underlying40]
 ·subst hn
  rcases h.2 with ⟨e, e2⟩ | ⟨g, cap, cur, e, hg, hh, r⟩
  ·omega
  ·simp only [Value.slice.injEq] at e
   obtain ⟨rfl, _, rfl⟩ := e
   obtain ⟨r1, _, r2, _⟩ := r
   have hc : ∀ j, j < k → (w.cell? ⟨g, 0 + j, none⟩).isSome = true := by
    intro j hj
    simp [World.cell?, hh]
    omega
   have hf : ∀ j, j < k → w.frozen? ⟨g, 0 + j, none⟩ = false := fun j _ => World.ownsRow.frozenAt h _
   have hr := Lib.run_clear_slice (P := Try.prog) w 40 5 ty (.int .u8 0) Try.underlying40 zeroU8 rfl rfl g 0 k ca (by omega) hc hf
   obtain ⟨z1, z2⟩ := Ob.zeros k 0 w L h (by omega)
   exact ⟨_, hr, by simpa using z1, z2⟩
def svd (f : Fl) (n : Nat) : List UInt8 := List.replicate (min f.sp n) 0 ++ ((f.by_.drop f.la.length).take n).drop (min f.sp n)
theorem svd_len (f : Fl) (n : Nat) (h : f.la.length + n ≤ f.by_.length) : (svd f n).length = n := by
 unfold svd
 simp
 omega
theorem run_sub {w : World} {v : Value} {l : List UInt8} (h : Sl w v l) (a n : Nat) (hn : a + n ≤ l.length) :
    ∃ v', (∀ q : World, (Instr.slice 40 v (some (.int .i64 (a : Int))) (some (.int .i64 ((a : Int) + (n : Int)))) none).run Try.prog q = .ok v' q) ∧ Sl w v' ((l.drop a).take n) := by
 obtain ⟨ao, ca, rfl, h2, h3, h4, h5⟩ := h
 refine ⟨.slice (if ca = a then ao else ao.map (·.add (a * 1))) n (ca - a), fun q => ?_, ?_⟩
 ·have e1 : (0 : Int) ≤ (a : Int) + (n : Int) ∧ (a : Int) + (n : Int) ≤ (ca : Int) := by omega
  have e2 : ((a : Int) + (n : Int)).toNat = a + n := by omega
  have e3 : (a : Int) ≤ ((a + n : Nat) : Int) := by omega
  have e4 : (sizeOf 5).run Try.prog q = .ok 1 q := by kernel_rfl
  simp [Instr.slice, run_underlying Try.underlying40, Instr.sliceBounds, Instr.sliceBound, asIntOf, e1, e2, e4, Result.andThen]
 ·have hlen : ((l.drop a).take n).length = n := by simp; omega
  refine ⟨_, _, by rw [hlen], ?_, by rw [hlen]; omega, by omega, ?_⟩
  ·intro e
   cases ao with
   | none => obtain ⟨rfl, rfl⟩ := h2 rfl; simp
   | some ad => split at e <;> simp at e
  ·intro i hi
   rw [hlen] at hi
   obtain ⟨b, off, e, hc⟩ := h5 (a + i) (by omega)
   subst e
   have hne : ca ≠ a := by omega
   refine ⟨b, off + a, by simp [hne, addr_add], ?_⟩
   rw [show off + a + i = off + (a + i) by omega, hc]
   simp
theorem saved_any (w : World) (p n : Nat) (f : Fl) (vb vl : Value) (h : FlAt w p f vb vl) (hn : f.la.length + n ≤ f.by_.length) :
    Calls Try.prog 76 #[.pointer (some ⟨p, 0, none⟩), .int .i64 (n : Int)] w fun e w' => ∃ v, e = .returned v ∧ Ob w.heap.size w' v (svd f n) ∧ Below w.heap.size w w' := by
 obtain ⟨x0, x1, x2⟩ := cells3 h.box
 have hsz := h.sz
 have hB := hide h.box
 obtain ⟨vs, hS, VS⟩ := run_sub h.b.sl f.la.length n hn
 have hlen : ((f.by_.drop f.la.length).take n).length = n := by simp; omega
 have hC := clone_bytes w vs _ VS (by rw [hlen]; omega)
 obtain ⟨k, hk⟩ : ∃ k, Hid (min f.sp n = k) := ⟨_, rfl⟩
 have hE : Hid (svd f n = List.replicate k 0 ++ ((f.by_.drop f.la.length).take n).drop k) := by show _ = _; rw [← hk.out]; rfl
 rw [hE.out]
 have hk2 : k ≤ n ∧ k ≤ f.sp := by have := hk.out; omega
 have hkm : (f.sp ≤ n ∧ k = f.sp) ∨ (n < f.sp ∧ k = n) := by have := hk.out; omega
 generalize (f.by_.drop f.la.length).take n = L at *
 obtain ⟨ao2, ca2, rfl, _, _⟩ := h.l.form
 have w1' : IntKind.i64.wrap ((f.la.length : Int) + (n : Int)) = (f.la.length : Int) + (n : Int) := by rw [IntKind.wrap_i64]; omega
 have hsp : f.sp ≤ 1099511627776 := by have := h.sp; omega
 have hF : Hid (∀ q, Below w.heap.size w q → q.cell? ⟨p, 2, none⟩ = some (.int .i64 (f.sp : Int))) := fun q hq => by rw [hq.cell (p := ⟨p, 2, none⟩) (lt_of_cell x2)]; exact x2
 clear h hE VS
 generalize f.la.length = a at *
 generalize f.sp = sp at *
 generalize f.by_.length = N at *
 go_enter Try.func76, Try.ntmps76
 go_upto_region 3 with (go_at_call 43; refine hC.mono ?_; rintro e w1 ⟨v1, rfl, O1, B1⟩; replace O1 := hide O1; replace B1 := hide B1)
 obtain ⟨ao1, ca1, rfl, c1, c2⟩ := O1.out.form
 obtain ⟨w2, hR, O2, G2⟩ := run_clear (k := k) O1.out rfl (by omega) 0
 have y2 := hF.out w1 B1.out
 have K : Hid (Ob w.heap.size w2 (.slice ao1 L.length ca1) (List.replicate k 0 ++ L.drop k) ∧ Below w.heap.size w w2) := ⟨O2, B1.out.grown G2 B1.out.size (fun j hj => (O1.out.lt j hj).1)⟩
 rw [hlen] at K c1
 rw [hlen]
 clear O1 O2 G2 hC hS x0 x1 x2 hk2 hk
 replace hlen := hide hlen
 replace hn := hide hn
 have hmin : min (sp : Int) (n : Int) = (k : Int) := by omega
 have i2 : (k : Int) ≤ (ca1 : Int) := by omega
 clear hkm
 go_wp2_with fail
 go_ret
 exact ⟨_, rfl, K.out⟩
theorem _root_.Go.Proofs.Ytbmnjaaacodgdaa.Sl.below4 {w w' : World} {v : Value} {l : List UInt8} (h : Sl w v l) (hb : Below w.heap.size w w') : Sl w' v l := Below.sl hb h
theorem sl_take {w : World} {a : Option Addr} {n c j : Nat} {l : List UInt8} (h : Sl w (.slice a n c) l) (hj : j ≤ l.length) : Sl w (.slice a j c) (l.take j) := by
 obtain ⟨ao, ca, e, h2, h3, h4, h5⟩ := h
 simp only [Value.slice.injEq] at e
 obtain ⟨rfl, _, rfl⟩ := e
 have hl : (l.take j).length = j := by simp; omega
 refine ⟨a, c, by rw [hl], fun e => ?_, by rw [hl]; omega, h4, fun i hi => ?_⟩
 ·obtain ⟨rfl, rfl⟩ := h2 e
  simp
 ·rw [hl] at hi
  obtain ⟨b, off, e, hc⟩ := h5 i (by omega)
  exact ⟨b, off, e, by rw [hc]; simp⟩
theorem FlAt.setSp {w : World} {p : Nat} {f : Fl} {vb vl : Value} (h : FlAt w p f vb vl) (n : Nat) (hn : n ≤ f.by_.length - f.la.length) : FlAt (w.setCell ⟨p, 2, none⟩ (.int .i64 (n : Int))) p ⟨f.by_, f.la, n⟩ vb vl := by
 have g := But.of_grownBy (X := fun k => k = p) (grown_setCell w p 2 (.int .i64 (n : Int))) fun k e => by cases e; rfl
 refine ⟨?_, h.b.but g (fun k hk e => h.b.no h.box (by decide) (by rw [← e]; exact hk)), h.l.but g (fun k hk e => h.l.no h.box (by decide) (by rw [← e]; exact hk)), h.ne, h.le, hn, h.sz⟩
 have := heap_setCell_same w p 2 _ _ (.int .i64 (n : Int)) h.box
 simpa using this
theorem spoil_any (w : World) (p : Nat) (f : Fl) (vb vl : Value) (h : FlAt w p f vb vl) :
    Calls Try.prog 52 #[.pointer (some ⟨p, 0, none⟩)] w fun e w' => e = .returned (.tuple #[]) ∧ FlAt w' p ⟨f.by_, f.la, f.by_.length - f.la.length⟩ vb vl ∧ But (fun k => k = p) w w' := by
 have hT := tail_any w p f vb vl h
 have H := hide h
 clear h
 go_enter Try.func52, Try.ntmps52
 go_wp2_with (go_at_call 59; refine hT.mono ?_; rintro e w1 ⟨rfl, nq, rfl⟩; have x2 := (cells3 (H.out.below (Qt.below ⟨nq, rfl⟩ _)).box).2.2; have x3 := (frozen3 (H.out.below (Qt.below ⟨nq, rfl⟩ _)).box).2.2)
 go_end0
 have H1 : FlAt (w.drewN nq) p f vb vl := H.out.below (Qt.below ⟨nq, rfl⟩ _)
 refine ⟨rfl, H1.setSp _ (Nat.le_refl _), ?_⟩
 exact (But.of_below (Qt.below ⟨nq, rfl⟩ _) _).trans (But.of_grownBy (grown_setCell (w.drewN nq) p 2 _) fun k e => by cases e; rfl)
theorem Dk.find {w : World} {b : Nat} {x : Dc} {f g : Nat} {l l2 : Dr} {P : List Ch} {al : Ar} (h : Dk w b x f g l l2 P al) (s : ByteArray) (hs : s.size ≤ maxLen) :
    Calls Try.prog 39 #[.pointer (some ⟨b, 0, none⟩), .string s] w fun e w' => e = .returned (.tuple #[(findF (some x) l s).1, .int .i64 (findF (some x) l s).2]) ∧ Below w.heap.size w w' :=
 find_any w _ (some x) l s h.dp hs (fun y m e1 e2 => by cases e1; rw [h.fm] at e2; cases e2; exact h.mf)
theorem findF_no {x : Option Dc} {l : Dr} {s : ByteArray} (h : (findF x l s).2 ≠ 0) : (findF x l s).1 = .pointer none := by
 revert h
 unfold findF
 split
 ·split
  ·intro h; exact absurd rfl h
  ·intro _; rfl
 ·intro _; rfl
theorem findF_ok {x : Option Dc} {l : Dr} {s : ByteArray} {p : Nat} (hr : refF x [s] = 0) (hg : get l s.data.toList = some p) : findF x l s = (.pointer (some ⟨p, 0, none⟩), 0) := by simp [findF, hr, hg]
theorem size_no {w : World} {b : Nat} {x : Dc} {f g : Nat} {l l2 : Dr} {P : List Ch} {al : Ar} (h : Dk w b x f g l l2 P al) (s : ByteArray) (hs : s.size ≤ maxLen) (hn : (findF (some x) l s).2 ≠ 0) :
    Calls Try.prog 13 #[.pointer (some ⟨b, 0, none⟩), .string s] w fun e w' => e = .returned (.tuple #[.int .i64 0, .int .i64 (findF (some x) l s).2]) ∧ Below w.heap.size w w' := by
 have hF := h.find s hs
 rw [findF_no hn] at hF
 generalize (findF (some x) l s).2 = r at *
 have hn' : (r != 0) = true := by simpa using hn
 clear h hn
 go_enter Try.func13, Try.ntmps13
 go_wp2_with (go_at_call 39; refine hF.mono ?_; rintro e w1 ⟨rfl, B1⟩; replace B1 := hide B1)
 go_ret2
 exact ⟨rfl, B1.out⟩
theorem read_no {w : World} {b : Nat} {x : Dc} {f g : Nat} {l l2 : Dr} {P : List Ch} {al : Ar} (h : Dk w b x f g l l2 P al) (s : ByteArray) (hs : s.size ≤ maxLen) (o n : Int) (hn : (findF (some x) l s).2 ≠ 0) :
    Calls Try.prog 12 #[.pointer (some ⟨b, 0, none⟩), .string s, .int .i64 o, .int .i64 n] w fun e w' => e = .returned (.tuple #[.slice none 0 0, .int .i64 (findF (some x) l s).2]) ∧ Below w.heap.size w w' := by
 have hF := h.find s hs
 rw [findF_no hn] at hF
 generalize (findF (some x) l s).2 = r at *
 have hn' : (r != 0) = true := by simpa using hn
 clear h hn
 go_enter Try.func12, Try.ntmps12
 go_wp2_with (go_at_call 39; refine hF.mono ?_; rintro e w1 ⟨rfl, B1⟩; replace B1 := hide B1)
 go_ret2
 exact ⟨rfl, B1.out⟩
theorem read_ok {w : World} {b p : Nat} {x : Dc} {f g : Nat} {l l2 : Dr} {P : List Ch} {al : Ar} {t : Fl} {vb vl : Value} (h : Dk w b x f g l l2 P al) (s : ByteArray) (hs : s.size ≤ maxLen) (o n : Nat) (hr : refF (some x) [s] = 0) (hg : get l s.data.toList = some p) (hf : FlAt w p t vb vl) (hon : o + n ≤ t.by_.length) :
    Calls Try.prog 12 #[.pointer (some ⟨b, 0, none⟩), .string s, .int .i64 (o : Int), .int .i64 (n : Int)] w fun e w' => ∃ v, e = .returned (.tuple #[v, .int .i64 0]) ∧ Ob w.heap.size w' v ((t.by_.drop o).take n) ∧ Below w.heap.size w w' := by
 have hF := h.find s hs
 rw [findF_ok hr hg] at hF
 have c0 := (cells3 hf.box).1
 obtain ⟨vs, hS, VS⟩ := run_sub hf.b.sl o n hon
 have hlen : ((t.by_.drop o).take n).length ≤ 140737488355328 := by have := hf.sz; simp; omega
 obtain ⟨ao, ca, rfl, _, _⟩ := hf.b.form
 have hsz := hf.sz
 have hC : Hid (∀ q, Below w.heap.size w q → Calls Try.prog 43 #[vs] q fun e w' => ∃ v', e = .returned v' ∧ Ob q.heap.size w' v' ((t.by_.drop o).take n) ∧ Below q.heap.size q w') := fun q hq => clone_bytes q vs _ (Below.sl hq VS) hlen
 clear h hf hr hg VS hlen
 generalize (t.by_.drop o).take n = L at *
 generalize t.by_.length = N at *
 have i1 : ¬ ((o : Int) < 0) := by omega
 have i2 : ¬ ((o : Int) > (N : Int)) := by omega
 have i3 : ¬ ((n : Int) < 0) := by omega
 have i4 : ¬ ((n : Int) > (N : Int) - (o : Int)) := by omega
 have e1 : IntKind.i64.wrap ((N : Int) - (o : Int)) = (N : Int) - (o : Int) := by rw [IntKind.wrap_i64]; omega
 have e2 : IntKind.i64.wrap ((o : Int) + (n : Int)) = (o : Int) + (n : Int) := by rw [IntKind.wrap_i64]; omega
 replace hon := hide hon
 go_enter Try.func12, Try.ntmps12
 go_wp2_with (first
  | (go_at_call 39; refine hF.mono ?_; rintro e w1 ⟨rfl, B1⟩; have d0 := (B1.cell (p := ⟨p, 0, none⟩) (lt_of_cell c0)).trans c0; replace B1 := hide B1)
  | (go_at_call 43; refine (hC.out _ B1.out).mono ?_; rintro e w2 ⟨v2, rfl, O2, B2⟩; replace O2 := hide O2; replace B2 := hide B2))
 go_ret2
 exact ⟨v2, rfl, O2.out.low B1.out.size, B1.out.trans (B2.out.mono B1.out.size)⟩
structure DS where
 most : Int
 up : Bool
 l2 : Dr
 P : List Ch
 al : Ar
 c0 : Int
 c1 : Int
 c2 : Int
 c3 : Int
 c4 : Int
 c5 : Int
 c6 : Int
 c7 : Int
 c8 : Int
 F : Nat → Fl
def DS.dc (S : DS) (f g : Nat) (pd : Value) (am : Option Nat) : Dc := ⟨S.most, S.up, some f, some g, pd, am, S.c0, S.c1, S.c2, S.c3, S.c4, S.c5, S.c6, S.c7, S.c8⟩
def DS.dir (S : DS) : Dr := runs S.l2 S.P
def Ch.ptr : Ch → Option Nat
 | .cr _ p => some p
 | _ => none
def DS.ps (S : DS) : List Nat := S.l2.map (·.2) ++ S.P.filterMap Ch.ptr
structure DS.ok (S : DS) : Prop where
 most : 0 ≤ S.most ∧ S.most ≤ 16777216
 sz : ∀ p ∈ S.ps, (S.F p).by_.length ≤ 16777216
 cnt : ((S.l2.length + S.P.length : Nat) : Int) ≤ S.c7
 calm : ∀ e ∈ S.al, (1 ≤ e.2.2.1 ∧ e.2.2.1 ≤ 3) ∧ 0 ≤ e.2.2.2
 by8 : 0 ≤ S.c8 ∧ S.c8 ≤ 16777216 * S.c7
structure Fs (w : World) (Ow : Nat → Prop) (ps : List Nat) (F : Nat → Fl) (VB VL : Nat → Value) : Prop where
 at_ : ∀ p ∈ ps, FlAt w p (F p) (VB p) (VL p)
 ap : ∀ p ∈ ps, ∀ q ∈ ps, p ≠ q → ∀ k, FOwn p (VB p) (VL p) k → ¬ FOwn q (VB q) (VL q) k
 no : ∀ p ∈ ps, ∀ k, FOwn p (VB p) (VL p) k → ¬ Ow k
structure Sgo (w w' : World) (O O' : Nat → Prop) : Prop where
 but : But O w w'
 own : ∀ k, O' k → O k ∨ w.heap.size ≤ k
theorem Sgo.of_below {w w' : World} {O : Nat → Prop} (h : Below w.heap.size w w') : Sgo w w' O O := ⟨But.of_below h _, fun _ q => .inl q⟩
theorem Sgo.trans {w u w' : World} {O O1 O2 : Nat → Prop} (h : Sgo w u O O1) (k : Sgo u w' O1 O2) : Sgo w w' O O2 := by
 refine ⟨⟨k.but.os.trans h.but.os, k.but.tape.trans h.but.tape, k.but.output.trans h.but.output, Nat.le_trans h.but.size k.but.size, fun i hi hx => ?_⟩, fun i hi => ?_⟩
 ·rw [k.but.block i (Nat.lt_of_lt_of_le hi h.but.size) (fun c => ?_)]
  ·exact h.but.block i hi hx
  ·rcases h.own i c with q | q
   ·exact hx q
   ·omega
 ·rcases k.own i hi with q | q
  ·exact h.own i q
  ·exact .inr (Nat.le_trans h.but.size q)
theorem Sgo.low {w w' : World} {O O' : Nat → Prop} {B : Nat} (h : Sgo w w' O O') (hB : B ≤ w.heap.size) (lo : ∀ k, O k → B ≤ k) : ∀ k, O' k → B ≤ k := fun k hk => by
 rcases h.own k hk with q | q
 ·exact lo k q
 ·omega
theorem Sgo.under {w0 w w' : World} {O O' : Nat → Prop} {B : Nat} (h : Sgo w w' O O') (lo : ∀ k, O k → B ≤ k) (hB : B ≤ w0.heap.size) (hb : Below B w0 w) : Below B w0 w' :=
 ⟨h.but.os.trans hb.os, h.but.tape.trans hb.tape, h.but.output.trans hb.output, Nat.le_trans hb.size h.but.size, fun k hk => (h.but.block k (Nat.lt_of_lt_of_le (Nat.lt_of_lt_of_le hk hB) hb.size) (fun c => by have := lo k c; omega)).trans (hb.block k hk)⟩
theorem Fs.but {X : Nat → Prop} {A B : World} {Ow : Nat → Prop} {ps : List Nat} {F : Nat → Fl} {VB VL : Nat → Value} (h : Fs A Ow ps F VB VL) (hb : But X A B) (hx : ∀ p ∈ ps, ∀ k, FOwn p (VB p) (VL p) k → ¬ X k) : Fs B Ow ps F VB VL :=
 ⟨fun p hp => (h.at_ p hp).but hb (hx p hp), h.ap, h.no⟩
theorem Fs.lt {w : World} {Ow : Nat → Prop} {ps : List Nat} {F : Nat → Fl} {VB VL : Nat → Value} (h : Fs w Ow ps F VB VL) {p : Nat} (hp : p ∈ ps) : ∀ k, FOwn p (VB p) (VL p) k → k < w.heap.size := (h.at_ p hp).lt
theorem Fs.stp {w w' : World} {b : Nat} {x x' : Dc} {ps : List Nat} {F : Nat → Fl} {VB VL : Nat → Value} (h : Fs w (Own b x) ps F VB VL) (st : Stp w w' b x x') : Fs w' (Own b x') ps F VB VL := by
 refine ⟨fun p hp => (h.at_ p hp).but st.but (h.no p hp), h.ap, fun p hp k hk c => ?_⟩
 rcases st.own k c with q | q
 ·exact h.no p hp k hk q
 ·have := h.lt hp k hk
  omega
def upd {α : Type} (F : Nat → α) (p : Nat) (t : α) : Nat → α := fun q => if q = p then t else F q
theorem upd_same {α : Type} (F : Nat → α) (p : Nat) (t : α) : upd F p t p = t := if_pos rfl
theorem upd_ne {α : Type} (F : Nat → α) {p q : Nat} (t : α) (h : q ≠ p) : upd F p t q = F q := if_neg h
theorem Fs.one {w w' : World} {Ow : Nat → Prop} {ps : List Nat} {F : Nat → Fl} {VB VL : Nat → Value} {p : Nat} {t : Fl} {vb vl : Value} (h : Fs w Ow ps F VB VL) (hp : p ∈ ps) (ht : FlAt w' p t vb vl) (hb : But (FOwn p (VB p) (VL p)) w w') (ho : ∀ k, FOwn p vb vl k → FOwn p (VB p) (VL p) k ∨ w.heap.size ≤ k)
    (hO : ∀ k, Ow k → k < w.heap.size) : Fs w' Ow ps (upd F p t) (upd VB p vb) (upd VL p vl) := by
 refine ⟨fun q hq => ?_, fun q hq r hr hne k hk c => ?_, fun q hq k hk c => ?_⟩
 ·by_cases e : q = p
  ·subst e; rw [upd_same, upd_same, upd_same]; exact ht
  ·rw [upd_ne _ _ e, upd_ne _ _ e, upd_ne _ _ e]; exact (h.at_ q hq).but hb (fun k hk c => h.ap q hq p hp e k hk c)
 ·by_cases e : q = p
  ·subst e
   rw [upd_same, upd_same] at hk
   rw [upd_ne _ _ (Ne.symm hne), upd_ne _ _ (Ne.symm hne)] at c
   rcases ho k hk with z | z
   ·exact h.ap q hq r hr hne k z c
   ·have := h.lt hr k c; omega
  ·rw [upd_ne _ _ e, upd_ne _ _ e] at hk
   by_cases e2 : r = p
   ·subst e2
    rw [upd_same, upd_same] at c
    rcases ho k c with z | z
    ·exact h.ap q hq r hr hne k hk z
    ·have := h.lt hq k hk; omega
   ·rw [upd_ne _ _ e2, upd_ne _ _ e2] at c
    exact h.ap q hq r hr hne k hk c
 ·by_cases e : q = p
  ·subst e
   rw [upd_same, upd_same] at hk
   rcases ho k hk with z | z
   ·exact h.no q hq k z c
   ·have := hO k c; omega
  ·rw [upd_ne _ _ e, upd_ne _ _ e] at hk
   exact h.no q hq k hk c
structure Dsk (w : World) (b : Nat) (S : DS) (O : Nat → Prop) (f g : Nat) (pd : Value) (am : Option Nat) (VB VL : Nat → Value) : Prop where
 dk : Dk w b (S.dc f g pd am) f g S.dir S.l2 S.P S.al
 fs : Fs w (Own b (S.dc f g pd am)) S.ps S.F VB VL
 ow : ∀ k, Own b (S.dc f g pd am) k → O k
 of : ∀ p ∈ S.ps, ∀ k, FOwn p (VB p) (VL p) k → O k
 lt : ∀ k, O k → k < w.heap.size
 ok : S.ok
def DskE (w : World) (b : Nat) (S : DS) (O : Nat → Prop) : Prop := ∃ f g pd am VB VL, Dsk w b S O f g pd am VB VL
theorem Dsk.but {X : Nat → Prop} {A B : World} {b : Nat} {S : DS} {O : Nat → Prop} {f g : Nat} {pd : Value} {am : Option Nat} {VB VL : Nat → Value} (h : Dsk A b S O f g pd am VB VL) (hb : But X A B) (hx : ∀ k, O k → ¬ X k) : Dsk B b S O f g pd am VB VL :=
 ⟨h.dk.but hb fun k hk => hx k (h.ow k hk), h.fs.but hb fun p hp k hk => hx k (h.of p hp k hk), h.ow, h.of, fun k hk => Nat.lt_of_lt_of_le (h.lt k hk) hb.size, h.ok⟩
theorem Dsk.below {A B : World} {b : Nat} {S : DS} {O : Nat → Prop} {f g : Nat} {pd : Value} {am : Option Nat} {VB VL : Nat → Value} (h : Dsk A b S O f g pd am VB VL) (hb : Below A.heap.size A B) : Dsk B b S O f g pd am VB VL := h.but (But.of_below hb fun _ => False) fun _ _ c => c
theorem DskE.but {X : Nat → Prop} {A B : World} {b : Nat} {S : DS} {O : Nat → Prop} (h : DskE A b S O) (hb : But X A B) (hx : ∀ k, O k → ¬ X k) : DskE B b S O := by
 obtain ⟨f, g, pd, am, VB, VL, h⟩ := h
 exact ⟨f, g, pd, am, VB, VL, h.but hb hx⟩
theorem DskE.below {A B : World} {b : Nat} {S : DS} {O : Nat → Prop} (h : DskE A b S O) (hb : Below A.heap.size A B) : DskE B b S O := h.but (But.of_below hb fun _ => False) fun _ _ c => c
theorem DskE.lt {w : World} {b : Nat} {S : DS} {O : Nat → Prop} (h : DskE w b S O) : ∀ k, O k → k < w.heap.size := by
 obtain ⟨f, g, pd, am, VB, VL, h⟩ := h
 exact h.lt
theorem ddel_mem {l : Dr} {n : List UInt8} {e : List UInt8 × Nat} (h : e ∈ ddel l n) : e ∈ l := (List.mem_filter.1 h).1
theorem dins_mem {x e : List UInt8 × Nat} {l : Dr} (h : e ∈ dins x l) : e = x ∨ e ∈ l := by
 induction l with
 | nil => simp [dins] at h; exact .inl h
 | cons y r ih =>
  unfold dins at h
  split at h
  ·rcases List.mem_cons.1 h with q | q
   ·exact .inl q
   ·exact .inr q
  ·rcases List.mem_cons.1 h with q | q
   ·exact .inr (by rw [q]; simp)
   ·rcases ih q with z | z
    ·exact .inl z
    ·exact .inr (by simp [z])
theorem dput_mem {l : Dr} {n : List UInt8} {p : Nat} {e : List UInt8 × Nat} (h : e ∈ dput l n p) : e = (n, p) ∨ e ∈ l := by
 rcases dins_mem h with q | q
 ·exact .inl q
 ·exact .inr (ddel_mem q)
theorem get_mem {l : Dr} {n : List UInt8} {p : Nat} (h : get l n = some p) : (n, p) ∈ l := by
 unfold get at h
 cases hf : l.find? fun e => e.1 == n with
 | none => rw [hf] at h; simp at h
 | some e =>
  rw [hf] at h
  simp at h
  have h1 := List.mem_of_find?_eq_some hf
  have h2 := List.find?_some hf
  have : e = (n, p) := by
   obtain ⟨a, c⟩ := e
   simp at h2 h
   rw [h2, h]
  rw [← this]
  exact h1
theorem run_mem {l : Dr} {c : Ch} {p : Nat} (h : p ∈ (c.run l).map (·.2)) : p ∈ l.map (·.2) ∨ c.ptr = some p := by
 rw [List.mem_map] at h
 obtain ⟨e, he, rfl⟩ := h
 cases c with
 | cr n p =>
  rcases dput_mem he with q | q
  ·rw [q]; exact .inr rfl
  ·exact .inl (List.mem_map.2 ⟨e, q, rfl⟩)
 | rm n => exact .inl (List.mem_map.2 ⟨e, ddel_mem he, rfl⟩)
 | rn f t =>
  left
  simp only [Ch.run] at he
  split at he
  ·rename_i p hp
   rcases dput_mem (ddel_mem he) with q | q
   ·rw [q]; exact List.mem_map.2 ⟨_, get_mem hp, rfl⟩
   ·exact List.mem_map.2 ⟨e, q, rfl⟩
  ·exact List.mem_map.2 ⟨e, he, rfl⟩
theorem runs_mem {l : Dr} : ∀ {P : List Ch} {p : Nat}, p ∈ (runs l P).map (·.2) → p ∈ l.map (·.2) ++ P.filterMap Ch.ptr := by
 intro P
 induction P generalizing l with
 | nil => intro p h; simpa [runs] using h
 | cons c r ih =>
  intro p h
  have := ih (l := c.run l) h
  rcases List.mem_append.1 this with q | q
  ·rcases run_mem q with z | z
   ·exact List.mem_append.2 (.inl z)
   ·exact List.mem_append.2 (.inr (List.mem_filterMap.2 ⟨c, by simp, z⟩))
  ·refine List.mem_append.2 (.inr ?_)
   rw [List.mem_filterMap] at q ⊢
   obtain ⟨d, hd, e⟩ := q
   exact ⟨d, by simp [hd], e⟩
theorem DS.mem_dir {S : DS} {n : List UInt8} {p : Nat} (h : get S.dir n = some p) : p ∈ S.ps := runs_mem (List.mem_map.2 ⟨_, get_mem h, rfl⟩)
theorem Dsk.one {w w' : World} {b : Nat} {S : DS} {O : Nat → Prop} {f g : Nat} {pd : Value} {am : Option Nat} {VB VL : Nat → Value} {p : Nat} {t : Fl} {vb vl : Value} (h : Dsk w b S O f g pd am VB VL) (hp : p ∈ S.ps) (ht : FlAt w' p t vb vl) (hb : But (FOwn p (VB p) (VL p)) w w') (ho : ∀ k, FOwn p vb vl k → FOwn p (VB p) (VL p) k ∨ w.heap.size ≤ k)
    (hz : t.by_.length ≤ 16777216) : ∃ O', Dsk w' b { S with F := upd S.F p t } O' f g pd am (upd VB p vb) (upd VL p vl) ∧ Sgo w w' O O' := by
 refine ⟨fun k => O k ∨ (w.heap.size ≤ k ∧ k < w'.heap.size), ⟨?_, ?_, fun k hk => .inl (h.ow k hk), ?_, ?_, ?_⟩, ⟨hb.mono fun k _ c => h.of p hp k c, fun k hk => ?_⟩⟩
 ·exact h.dk.but hb fun k hk c => h.fs.no p hp k c hk
 ·exact h.fs.one hp ht hb ho fun k hk => h.lt k (h.ow k hk)
 ·intro q hq k hk
  by_cases e : q = p
  ·subst e
   rw [upd_same, upd_same] at hk
   rcases ho k hk with z | z
   ·exact .inl (h.of q hp k z)
   ·exact .inr ⟨z, ht.lt k hk⟩
  ·rw [upd_ne _ _ e, upd_ne _ _ e] at hk
   exact .inl (h.of q hq k hk)
 ·rintro k (q | q)
  ·exact Nat.lt_of_lt_of_le (h.lt k q) hb.size
  ·exact q.2
 ·refine ⟨h.ok.most, fun q hq => ?_, h.ok.cnt, h.ok.calm, h.ok.by8⟩
  by_cases e : q = p
  ·subst e; show (upd S.F q t q).by_.length ≤ _; rw [upd_same]; exact hz
  ·show (upd S.F p t q).by_.length ≤ _; rw [upd_ne _ _ e]; exact h.ok.sz q hq
 ·rcases hk with q | q
  ·exact .inl q
  ·exact .inr q.1
def DS.beg (S : DS) : Nat → DS
 | 0 => { S with c0 := S.c0 + 1, c7 := S.c7 + 1, al := adel S.al (S.c7 + 1) }
 | 1 => { S with c1 := S.c1 + 1, c7 := S.c7 + 1, al := adel S.al (S.c7 + 1) }
 | 2 => { S with c2 := S.c2 + 1, c7 := S.c7 + 1, al := adel S.al (S.c7 + 1) }
 | 3 => { S with c3 := S.c3 + 1, c7 := S.c7 + 1, al := adel S.al (S.c7 + 1) }
 | 4 => { S with c4 := S.c4 + 1, c7 := S.c7 + 1, al := adel S.al (S.c7 + 1) }
 | 5 => { S with c5 := S.c5 + 1, c7 := S.c7 + 1, al := adel S.al (S.c7 + 1) }
 | _ => { S with c6 := S.c6 + 1, c7 := S.c7 + 1, al := adel S.al (S.c7 + 1) }
def DS.flt (S : DS) : Ft := (aget S.al (S.c7 + 1)).getD zf
def DS.str (S : DS) (k : Int) : DS := if k = 3 then { S with up := false } else S
theorem beg_dc (S : DS) (f g : Nat) (pd : Value) (am : Option Nat) (j : Nat) : inc (S.dc f g pd am) j = (S.beg j).dc f g pd am := by
 match j with
 | 0 => rfl
 | 1 => rfl
 | 2 => rfl
 | 3 => rfl
 | 4 => rfl
 | 5 => rfl
 | _ + 6 => rfl
theorem beg_rest (S : DS) (j : Nat) : (S.beg j).most = S.most ∧ (S.beg j).up = S.up ∧ (S.beg j).l2 = S.l2 ∧ (S.beg j).P = S.P ∧ (S.beg j).al = adel S.al (S.c7 + 1) ∧ (S.beg j).c7 = S.c7 + 1 ∧ (S.beg j).c8 = S.c8 ∧ (S.beg j).F = S.F := by
 unfold DS.beg
 split <;> exact ⟨rfl, rfl, rfl, rfl, rfl, rfl, rfl, rfl⟩
theorem str_dc (S : DS) (f g : Nat) (pd : Value) (am : Option Nat) (k : Int) : strX k (S.dc f g pd am) = (S.str k).dc f g pd am := by
 unfold strX DS.str
 split <;> rfl
theorem str_rest (S : DS) (k : Int) : (S.str k).most = S.most ∧ (S.str k).l2 = S.l2 ∧ (S.str k).P = S.P ∧ (S.str k).al = S.al ∧ (S.str k).c7 = S.c7 ∧ (S.str k).c8 = S.c8 ∧ (S.str k).F = S.F := by
 unfold DS.str
 split <;> exact ⟨rfl, rfl, rfl, rfl, rfl, rfl, rfl⟩
theorem DS.ok.calm_at {S : DS} (h : S.ok) (n : Int) : (0 ≤ ((aget S.al n).getD zf).2.1 ∧ ((aget S.al n).getD zf).2.1 ≤ 3) ∧ 0 ≤ ((aget S.al n).getD zf).2.2 := by
 unfold aget
 cases hf : S.al.find? fun p => p.1 == n with
 | none => simp [zf]
 | some e =>
  have := h.calm e (List.mem_of_find?_eq_some hf)
  simp
  omega
theorem DS.ok.flt {S : DS} (h : S.ok) : (0 ≤ S.flt.2.1 ∧ S.flt.2.1 ≤ 3) ∧ 0 ≤ S.flt.2.2 := h.calm_at _
theorem DS.ok.flt4 {S : DS} (h : S.ok) : S.flt.2.1 ≠ 4 := by have := h.flt; omega
theorem DS.ok.beg {S : DS} (h : S.ok) (j : Nat) : (S.beg j).ok := by
 obtain ⟨e1, e2, e3, e4, e5, e6, e7, e8⟩ := beg_rest S j
 have e9 : (S.beg j).ps = S.ps := by unfold DS.ps; rw [e3, e4]
 refine ⟨by rw [e1]; exact h.most, by rw [e9, e8]; exact h.sz, ?_, ?_, ?_⟩
 ·rw [e3, e4, e6]; have := h.cnt; omega
 ·rw [e5]; exact fun e he => h.calm e (List.mem_filter.1 he).1
 ·rw [e7, e6]; have := h.by8; omega
theorem DS.ok.str {S : DS} (h : S.ok) (k : Int) : (S.str k).ok := by
 obtain ⟨e1, e3, e4, e5, e6, e7, e8⟩ := str_rest S k
 have e9 : (S.str k).ps = S.ps := by unfold DS.ps; rw [e3, e4]
 exact ⟨by rw [e1]; exact h.most, by rw [e9, e8]; exact h.sz, by rw [e3, e4, e6]; exact h.cnt, by rw [e5]; exact h.calm, by rw [e7, e6]; exact h.by8⟩
theorem Dsk.turn {w w' : World} {b : Nat} {S T : DS} {O : Nat → Prop} {f g : Nat} {pd : Value} {am : Option Nat} {VB VL : Nat → Value} (h : Dsk w b S O f g pd am VB VL) (e3 : T.l2 = S.l2) (e4 : T.P = S.P) (e8 : T.F = S.F) (hok : T.ok) (hd : Dk w' b (T.dc f g pd am) f g S.dir S.l2 S.P T.al) (st : Stp w w' b (S.dc f g pd am) (T.dc f g pd am)) :
    Dsk w' b T O f g pd am VB VL ∧ Sgo w w' O O := by
 have e9 : T.ps = S.ps := by unfold DS.ps; rw [e3, e4]
 have e10 : T.dir = S.dir := by unfold DS.dir; rw [e3, e4]
 refine ⟨⟨by rw [e10, e3, e4]; exact hd, by rw [e9, e8]; exact h.fs.stp st, h.ow, by rw [e9]; exact h.of, fun k hk => Nat.lt_of_lt_of_le (h.lt k hk) st.but.size, hok⟩, ⟨st.but.mono fun k _ c => h.ow k c, fun k hk => .inl hk⟩⟩
theorem dsk_begin {w : World} {b : Nat} {S : DS} {O : Nat → Prop} {f g : Nat} {pd : Value} {am : Option Nat} {VB VL : Nat → Value} (h : Dsk w b S O f g pd am VB VL) (j : Nat) (hj : j < 7) (hc : S.c7 < 1000000000) :
    Calls Try.prog 40 #[.pointer (some ⟨b, 0, none⟩), .pointer (some ⟨b, 6 + j, none⟩)] w fun e w' => e = .returned (fv S.flt) ∧ Dsk w' b (S.beg j) O f g pd am VB VL ∧ Sgo w w' O O := by
 refine (begin_any w b (S.dc f g pd am) f g S.dir S.l2 S.P S.al j hj h.dk (by show S.c7 < _; omega)).mono ?_
 rintro e w' ⟨rfl, hd, hb⟩
 obtain ⟨e1, e2, e3, e4, e5, e6, e7, e8⟩ := beg_rest S j
 refine ⟨rfl, h.turn e3 e4 e8 (h.ok.beg j) (by rw [e5, ← beg_dc]; exact hd) ?_⟩
 rw [← beg_dc]
 exact Stp.inc hb
theorem dsk_strike {w : World} {b : Nat} {S : DS} {O : Nat → Prop} {f g : Nat} {pd : Value} {am : Option Nat} {VB VL : Nat → Value} (h : Dsk w b S O f g pd am VB VL) (t : Ft) (hk : t.2.1 ≠ 4) :
    Calls Try.prog 42 #[.pointer (some ⟨b, 0, none⟩), fv t] w fun e w' => e = .returned (.int .i64 (strF t.2.1)) ∧ Dsk w' b (S.str t.2.1) O f g pd am VB VL ∧ Sgo w w' O O := by
 refine (dk_strike w b _ f g S.dir S.l2 S.P S.al t h.dk hk).mono ?_
 rintro e w' ⟨rfl, hd, hb⟩
 obtain ⟨e1, e3, e4, e5, e6, e7, e8⟩ := str_rest S t.2.1
 refine ⟨rfl, h.turn e3 e4 e8 (h.ok.str _) (by rw [e5, ← str_dc]; exact hd) ?_⟩
 rw [← str_dc]
 exact Stp.strX hb
theorem dsk_strikeR {w : World} {b : Nat} {S : DS} {O : Nat → Prop} {f g : Nat} {pd : Value} {am : Option Nat} {VB VL : Nat → Value} (h : Dsk w b S O f g pd am VB VL) (t : Ft) (hk : t.2.1 ≠ 4) :
    Calls Try.prog 53 #[.pointer (some ⟨b, 0, none⟩), fv t] w fun e w' => e = .returned (.int .i64 (strR t.2.1)) ∧ Dsk w' b (S.str t.2.1) O f g pd am VB VL ∧ Sgo w w' O O := by
 refine (dk_strikeR w b _ f g S.dir S.l2 S.P S.al t h.dk hk).mono ?_
 rintro e w' ⟨rfl, hd, hb⟩
 obtain ⟨e1, e3, e4, e5, e6, e7, e8⟩ := str_rest S t.2.1
 refine ⟨rfl, h.turn e3 e4 e8 (h.ok.str _) (by rw [e5, ← str_dc]; exact hd) ?_⟩
 rw [← str_dc]
 exact Stp.strX hb
def DS.ref (S : DS) (L : List ByteArray) : Int := if S.up then (if L.all (fun s => may s.data.toList) then 0 else 24) else 22
theorem ref_dc (S : DS) (f g : Nat) (pd : Value) (am : Option Nat) (L : List ByteArray) : refF (some (S.dc f g pd am)) L = S.ref L := rfl
def DS.find (S : DS) (s : ByteArray) : Option Nat × Int :=
 if S.ref [s] = 0 then (match get S.dir s.data.toList with | some p => (some p, 0) | none => (none, 6)) else (none, S.ref [s])
theorem find_dc (S : DS) (f g : Nat) (pd : Value) (am : Option Nat) (s : ByteArray) : findF (some (S.dc f g pd am)) S.dir s = (.pointer ((S.find s).1.map fun p => ⟨p, 0, none⟩), (S.find s).2) := by
 unfold findF DS.find
 rw [ref_dc]
 split
 ·cases get S.dir s.data.toList <;> rfl
 ·rfl
theorem find_ok {S : DS} {s : ByteArray} (h : (S.find s).2 = 0) : ∃ p, S.find s = (some p, 0) ∧ get S.dir s.data.toList = some p ∧ S.ref [s] = 0 ∧ p ∈ S.ps := by
 unfold DS.find at h ⊢
 split at h
 ·rename_i h0
  rw [if_pos h0]
  cases hp : get S.dir s.data.toList with
  | some p => exact ⟨p, rfl, rfl, h0, DS.mem_dir hp⟩
  | none => rw [hp] at h; exact absurd h (by decide)
 ·rename_i h0
  exact absurd h h0
theorem find_no {S : DS} {s : ByteArray} (h : (S.find s).2 ≠ 0) : (S.find s).1 = none := by
 unfold DS.find at h ⊢
 split
 ·rename_i h0
  rw [if_pos h0] at h
  cases hp : get S.dir s.data.toList with
  | some p => rw [hp] at h; exact absurd rfl h
  | none => rfl
 ·rfl
theorem dsk_find {w : World} {b : Nat} {S : DS} {O : Nat → Prop} {f g : Nat} {pd : Value} {am : Option Nat} {VB VL : Nat → Value} (h : Dsk w b S O f g pd am VB VL) (s : ByteArray) (hs : s.size ≤ maxLen) :
    Calls Try.prog 39 #[.pointer (some ⟨b, 0, none⟩), .string s] w fun e w' => e = .returned (.tuple #[.pointer ((S.find s).1.map fun p => ⟨p, 0, none⟩), .int .i64 (S.find s).2]) ∧ Below w.heap.size w w' := by
 have := h.dk.find s hs
 rw [find_dc] at this
 exact this
def DS.create (S : DS) (s : ByteArray) (p : Nat) : DS × Int :=
 if S.ref [s] ≠ 0 then (S, S.ref [s])
 else if (get S.dir s.data.toList).isSome then (S, 7)
 else if 256 ≤ S.dir.length then (S, 9)
 else if strF S.flt.2.1 ≠ 0 then ((S.beg 0).str S.flt.2.1, strF S.flt.2.1)
 else ({ (S.beg 0).str S.flt.2.1 with P := S.P ++ [.cr s p], F := upd S.F p ⟨[], [], 0⟩ }, 0)
theorem beg_dir (S : DS) (j : Nat) : (S.beg j).dir = S.dir := by obtain ⟨e1, e2, e3, e4, e5, e6, e7, e8⟩ := beg_rest S j; unfold DS.dir; rw [e3, e4]
theorem beg_ps (S : DS) (j : Nat) : (S.beg j).ps = S.ps := by obtain ⟨e1, e2, e3, e4, e5, e6, e7, e8⟩ := beg_rest S j; unfold DS.ps; rw [e3, e4]
def DS.hit (S : DS) (j : Nat) : DS := (S.beg j).str S.flt.2.1
theorem hit_rest (S : DS) (j : Nat) : (S.hit j).most = S.most ∧ (S.hit j).l2 = S.l2 ∧ (S.hit j).P = S.P ∧ (S.hit j).al = adel S.al (S.c7 + 1) ∧ (S.hit j).c7 = S.c7 + 1 ∧ (S.hit j).c8 = S.c8 ∧ (S.hit j).F = S.F := by
 obtain ⟨a1, a2, a3, a4, a5, a6, a7, a8⟩ := beg_rest S j
 obtain ⟨e1, e3, e4, e5, e6, e7, e8⟩ := str_rest (S.beg j) S.flt.2.1
 exact ⟨e1.trans a1, e3.trans a3, e4.trans a4, e5.trans a5, e6.trans a6, e7.trans a7, e8.trans a8⟩
theorem hit_dc (S : DS) (f g : Nat) (pd : Value) (am : Option Nat) (j : Nat) : strX (nextF (S.dc f g pd am) S.al).2.1 (inc (S.dc f g pd am) j) = (S.hit j).dc f g pd am := by
 rw [beg_dc, str_dc]
 rfl
theorem Dsk.hit {w w' : World} {b : Nat} {S : DS} {O : Nat → Prop} {f g : Nat} {pd : Value} {am : Option Nat} {VB VL : Nat → Value} (h : Dsk w b S O f g pd am VB VL) (j : Nat) (hd : Dk w' b (strX (nextF (S.dc f g pd am) S.al).2.1 (inc (S.dc f g pd am) j)) f g S.dir S.l2 S.P (adel S.al ((S.dc f g pd am).c7 + 1)))
    (st : Stp w w' b (S.dc f g pd am) (strX (nextF (S.dc f g pd am) S.al).2.1 (inc (S.dc f g pd am) j))) : Dsk w' b (S.hit j) O f g pd am VB VL ∧ Sgo w w' O O := by
 obtain ⟨e1, e3, e4, e5, e6, e7, e8⟩ := hit_rest S j
 refine h.turn e3 e4 e8 ((h.ok.beg j).str _) ?_ (by rw [← hit_dc]; exact st)
 rw [← hit_dc, e5]
 exact hd
theorem Dsk.fresh {w : World} {b : Nat} {S : DS} {O : Nat → Prop} {f g : Nat} {pd : Value} {am : Option Nat} {VB VL : Nat → Value} (h : Dsk w b S O f g pd am VB VL) {p : Nat} (hp : w.heap.size ≤ p) : p ∉ S.ps := fun c => by
 have := h.fs.lt c p (.inl rfl)
 omega
theorem Dsk.e {w : World} {b : Nat} {S : DS} {O : Nat → Prop} {f g : Nat} {pd : Value} {am : Option Nat} {VB VL : Nat → Value} (h : Dsk w b S O f g pd am VB VL) : DskE w b S O := ⟨f, g, pd, am, VB, VL, h⟩
theorem ps_snoc (l2 : Dr) (P : List Ch) (s : ByteArray) (p : Nat) : l2.map (·.2) ++ (P ++ [Ch.cr s p]).filterMap Ch.ptr = (l2.map (·.2) ++ P.filterMap Ch.ptr) ++ [p] := by
 rw [List.filterMap_append, ← List.append_assoc]
 rfl
theorem fown_nil {p k : Nat} (h : FOwn p (.slice none 0 0) (.slice none 0 0) k) : k = p := by
 rcases h with q | q | q
 ·exact q
 ·simp [Value.ownBlock] at q
 ·simp [Value.ownBlock] at q
theorem Fs.new {w : World} {Ow : Nat → Prop} {ps : List Nat} {F : Nat → Fl} {VB VL : Nat → Value} {p : Nat} (h : Fs w Ow ps F VB VL) (hp : p ∉ ps) (hf : w.heap[p]? = some (.cells #[.slice none 0 0, .slice none 0 0, .int .i64 0] 109 (0, 0))) (ho : ¬ Ow p) (ha : ∀ q ∈ ps, ¬ FOwn q (VB q) (VL q) p) :
    Fs w Ow (ps ++ [p]) (upd F p ⟨[], [], 0⟩) (upd VB p (.slice none 0 0)) (upd VL p (.slice none 0 0)) := by
 have hne : ∀ q ∈ ps, q ≠ p := fun q hq e => hp (by rw [← e]; exact hq)
 refine ⟨fun q hq => ?_, fun q hq r hr hqr k hk c => ?_, fun q hq k hk c => ?_⟩
 ·rcases List.mem_append.1 hq with z | z
  ·rw [upd_ne _ _ (hne q z), upd_ne _ _ (hne q z), upd_ne _ _ (hne q z)]; exact h.at_ q z
  ·have e := List.mem_singleton.1 z; subst e; rw [upd_same, upd_same, upd_same]; exact FlAt.new hf
 ·rcases List.mem_append.1 hq with z | z
  ·rw [upd_ne _ _ (hne q z), upd_ne _ _ (hne q z)] at hk
   rcases List.mem_append.1 hr with y | y
   ·rw [upd_ne _ _ (hne r y), upd_ne _ _ (hne r y)] at c
    exact h.ap q z r y hqr k hk c
   ·have e := List.mem_singleton.1 y; subst e
    rw [upd_same, upd_same] at c
    have := fown_nil c
    subst this
    exact ha q z hk
  ·have e := List.mem_singleton.1 z; subst e
   rw [upd_same, upd_same] at hk
   have := fown_nil hk
   subst this
   rcases List.mem_append.1 hr with y | y
   ·rw [upd_ne _ _ (hne r y), upd_ne _ _ (hne r y)] at c
    exact ha r y c
   ·exact hqr (List.mem_singleton.1 y).symm
 ·rcases List.mem_append.1 hq with z | z
  ·rw [upd_ne _ _ (hne q z), upd_ne _ _ (hne q z)] at hk
   exact h.no q z k hk c
  ·have e := List.mem_singleton.1 z; subst e
   rw [upd_same, upd_same] at hk
   have := fown_nil hk
   subst this
   exact ho c
def Does (w : World) (b : Nat) (O : Nat → Prop) (R : DS × Int) (e : Ending) (w' : World) : Prop := e = .returned (.int .i64 R.2) ∧ ∃ O', DskE w' b R.1 O' ∧ Sgo w w' O O'
theorem create_dsk {w : World} {b : Nat} {S : DS} {O : Nat → Prop} (h : DskE w b S O) (s : ByteArray) (hs : s.size ≤ 140737488355328) (hc : S.c7 < 1000000000) :
    Calls Try.prog 16 #[.pointer (some ⟨b, 0, none⟩), .string s] w fun e w' => ∃ p, w.heap.size ≤ p ∧ p ∉ S.ps ∧ Does w b O (S.create s p) e w' := by
 obtain ⟨f, g, pd, am, VB, VL, h⟩ := h
 have hcn := h.ok.cnt
 refine (create_any w b (S.dc f g pd am) f g S.dir S.l2 S.P S.al s hs h.dk (by show S.c7 < _; omega) h.ok.flt4 (by omega)).mono ?_
 rintro e w' ⟨r, rfl, hr⟩
 have hf := h.fresh (Nat.le_refl w.heap.size)
 have hn : ∀ hd : Dk w' b (S.dc f g pd am) f g S.dir S.l2 S.P S.al, Stp w w' b (S.dc f g pd am) (S.dc f g pd am) → ∃ O', DskE w' b S O' ∧ Sgo w w' O O' := fun hd st => by
  have := h.turn (T := S) rfl rfl rfl h.ok hd st
  exact ⟨O, this.1.e, this.2⟩
 cases hr with
 | no _ hr h0 hd st =>
  refine ⟨w.heap.size, Nat.le_refl _, hf, ?_⟩
  rw [ref_dc] at hr
  have e : S.create s w.heap.size = (S, r) := by unfold DS.create; rw [hr, if_pos h0]
  rw [e]
  exact ⟨rfl, hn hd st⟩
 | there hr ht hd st =>
  refine ⟨w.heap.size, Nat.le_refl _, hf, ?_⟩
  rw [ref_dc] at hr
  have e : S.create s w.heap.size = (S, 7) := by unfold DS.create; rw [hr, if_neg (by simp), if_pos ht]
  rw [e]
  exact ⟨rfl, hn hd st⟩
 | many hr ht hm hd st =>
  refine ⟨w.heap.size, Nat.le_refl _, hf, ?_⟩
  rw [ref_dc] at hr
  have e : S.create s w.heap.size = (S, 9) := by unfold DS.create; rw [hr, if_neg (by simp), ht, if_neg (by simp), if_pos hm]
  rw [e]
  exact ⟨rfl, hn hd st⟩
 | struck _ hr ht hm he h0 hd st =>
  refine ⟨w.heap.size, Nat.le_refl _, hf, ?_⟩
  rw [ref_dc] at hr
  have he' : strF S.flt.2.1 = r := he
  have e : S.create s w.heap.size = (S.hit 0, r) := by unfold DS.create; rw [hr, if_neg (by simp), ht, if_neg (by simp), if_neg (by omega), he', if_pos h0]; rfl
  rw [e]
  have := h.hit 0 hd st
  exact ⟨rfl, O, this.1.e, this.2⟩
 | done hr ht hm he p pd' hp ho hf2 hd st =>
  have hf3 := h.fresh hp
  refine ⟨p, hp, hf3, ?_⟩
  rw [ref_dc] at hr
  have he' : strF S.flt.2.1 = 0 := he
  have e : S.create s p = ({ S.hit 0 with P := S.P ++ [.cr s p], F := upd S.F p ⟨[], [], 0⟩ }, 0) := by unfold DS.create; rw [hr, if_neg (by simp), ht, if_neg (by simp), if_neg (by omega), he', if_neg (by simp)]; rfl
  rw [e]
  obtain ⟨e1, e3, e4, e5, e6, e7, e8⟩ := hit_rest S 0
  obtain ⟨T, hT⟩ : ∃ T : DS, T = { S.hit 0 with P := S.P ++ [.cr s p], F := upd S.F p ⟨[], [], 0⟩ } := ⟨_, rfl⟩
  rw [← hT]
  rw [hit_dc] at ho hd st
  have hx : ({ (S.hit 0).dc f g pd am with pd := pd' } : Dc) = T.dc f g pd' am := by rw [hT]; rfl
  rw [hx] at ho hd st
  have t3 : T.l2 = S.l2 := by rw [hT]; exact e3
  have t4 : T.P = S.P ++ [.cr s p] := by rw [hT]
  have t5 : T.al = adel S.al (S.c7 + 1) := by rw [hT]; exact e5
  have t6 : T.c7 = S.c7 + 1 := by rw [hT]; exact e6
  have t7 : T.c8 = S.c8 := by rw [hT]; exact e7
  have t8 : T.F = upd S.F p ⟨[], [], 0⟩ := by rw [hT]
  have t1 : T.most = S.most := by rw [hT]; exact e1
  have t9 : T.ps = S.ps ++ [p] := by unfold DS.ps; rw [t3, t4, ps_snoc]
  have t10 : T.dir = dput S.dir s.data.toList p := by unfold DS.dir; rw [t3, t4, runs_snoc]; rfl
  refine ⟨rfl, fun k => O k ∨ (w.heap.size ≤ k ∧ k < w'.heap.size), ⟨f, g, pd', am, upd VB p (.slice none 0 0), upd VL p (.slice none 0 0), ⟨?_, ?_, ?_, ?_, ?_, ?_⟩⟩, ⟨st.but.mono fun k _ c => h.ow k c, ?_⟩⟩
  ·rw [t10, t3, t4, t5]; exact hd
  ·rw [t9, t8]
   refine (h.fs.stp st).new hf3 hf2 ho fun q hq c => ?_
   have := h.fs.lt hq p c
   omega
  ·intro k hk
   rcases st.own k hk with q | q
   ·exact .inl (h.ow k q)
   ·exact .inr ⟨q, hd.lt k hk⟩
  ·rw [t9]
   intro q hq k hk
   rcases List.mem_append.1 hq with z | z
   ·have e : q ≠ p := fun e => hf3 (by rw [← e]; exact z)
    rw [upd_ne _ _ e, upd_ne _ _ e] at hk
    exact .inl (h.of q z k hk)
   ·have e := List.mem_singleton.1 z; subst e
    rw [upd_same, upd_same] at hk
    have := fown_nil hk
    subst this
    exact .inr ⟨hp, heap_lt hf2⟩
  ·rintro k (q | q)
   ·exact Nat.lt_of_lt_of_le (h.lt k q) st.but.size
   ·exact q.2
  ·refine ⟨by rw [t1]; exact h.ok.most, ?_, ?_, ?_, ?_⟩
   ·rw [t9, t8]
    intro q hq
    rcases List.mem_append.1 hq with z | z
    ·rw [upd_ne _ _ (fun e => hf3 (by rw [← e]; exact z))]; exact h.ok.sz q z
    ·have e := List.mem_singleton.1 z; subst e; rw [upd_same]; exact Nat.zero_le _
   ·rw [t3, t4, t6, List.length_append, List.length_singleton]; omega
   ·rw [t5]; exact fun e he => h.ok.calm e (List.mem_filter.1 he).1
   ·rw [t7, t6]; have := h.ok.by8; omega
  ·rintro k (q | q)
   ·exact .inl q
   ·exact .inr q.1
theorem find2 (S : DS) (f g : Nat) (pd : Value) (am : Option Nat) (s : ByteArray) : (findF (some (S.dc f g pd am)) S.dir s).2 = (S.find s).2 := by rw [find_dc]
theorem dir_len {S : DS} (h : S.ok) (hc : S.c7 < 1000000000) : S.dir.length < 1000000000 ∧ S.P.length < 1000000000 ∧ S.l2.length < 1000000000 := by
 have := h.cnt
 have := runs_len S.l2 S.P
 unfold DS.dir
 omega
def DS.size (S : DS) (s : ByteArray) : Int × Int := match S.find s with | (some p, _) => (((S.F p).by_.length : Int), 0) | (none, e) => (0, e)
theorem read_out {w : World} {b p : Nat} {x : Dc} {f g : Nat} {l l2 : Dr} {P : List Ch} {al : Ar} {t : Fl} {vb vl : Value} (h : Dk w b x f g l l2 P al) (s : ByteArray) (hs : s.size ≤ maxLen) (o n : Int) (hr : refF (some x) [s] = 0) (hg : get l s.data.toList = some p) (hf : FlAt w p t vb vl) (hon : ¬ (0 ≤ o ∧ o ≤ (t.by_.length : Int) ∧ 0 ≤ n ∧ n ≤ (t.by_.length : Int) - o)) :
    Calls Try.prog 12 #[.pointer (some ⟨b, 0, none⟩), .string s, .int .i64 o, .int .i64 n] w fun e w' => e = .returned (.tuple #[.slice none 0 0, .int .i64 8]) ∧ Below w.heap.size w w' := by
 have hF := h.find s hs
 rw [findF_ok hr hg] at hF
 have c0 := (cells3 hf.box).1
 obtain ⟨ao, ca, rfl, _, _⟩ := hf.b.form
 have hsz := hf.sz
 clear h hf hr hg
 generalize t.by_.length = N at *
 by_cases i1 : o < 0
 ·clear hon
  go_enter Try.func12, Try.ntmps12
  go_wp2_with (go_at_call 39; refine hF.mono ?_; rintro e w1 ⟨rfl, B1⟩; have d0 := (B1.cell (p := ⟨p, 0, none⟩) (lt_of_cell c0)).trans c0; replace B1 := hide B1)
  go_ret2
  exact ⟨rfl, B1.out⟩
 by_cases i2 : o > (N : Int)
 ·clear hon
  go_enter Try.func12, Try.ntmps12
  go_wp2_with (go_at_call 39; refine hF.mono ?_; rintro e w1 ⟨rfl, B1⟩; have d0 := (B1.cell (p := ⟨p, 0, none⟩) (lt_of_cell c0)).trans c0; replace B1 := hide B1)
  go_ret2
  exact ⟨rfl, B1.out⟩
 by_cases i3 : n < 0
 ·clear hon
  go_enter Try.func12, Try.ntmps12
  go_wp2_with (go_at_call 39; refine hF.mono ?_; rintro e w1 ⟨rfl, B1⟩; have d0 := (B1.cell (p := ⟨p, 0, none⟩) (lt_of_cell c0)).trans c0; replace B1 := hide B1)
  go_ret2
  exact ⟨rfl, B1.out⟩
 have i4 : n > (N : Int) - o := by omega
 have e1 : IntKind.i64.wrap ((N : Int) - o) = (N : Int) - o := by rw [IntKind.wrap_i64]; omega
 clear hon
 go_enter Try.func12, Try.ntmps12
 go_wp2_with (go_at_call 39; refine hF.mono ?_; rintro e w1 ⟨rfl, B1⟩; have d0 := (B1.cell (p := ⟨p, 0, none⟩) (lt_of_cell c0)).trans c0; replace B1 := hide B1)
 go_ret2
 exact ⟨rfl, B1.out⟩
def DS.read (S : DS) (s : ByteArray) (o n : Int) : List UInt8 × Int := match S.find s with
 | (some p, _) => if 0 ≤ o ∧ o ≤ ((S.F p).by_.length : Int) ∧ 0 ≤ n ∧ n ≤ ((S.F p).by_.length : Int) - o then (((S.F p).by_.drop o.toNat).take n.toNat, 0) else ([], 8)
 | (none, e) => ([], e)
theorem read_dsk {w : World} {b : Nat} {S : DS} {O : Nat → Prop} (h : DskE w b S O) (s : ByteArray) (hs : s.size ≤ maxLen) (o n : Int) :
    Calls Try.prog 12 #[.pointer (some ⟨b, 0, none⟩), .string s, .int .i64 o, .int .i64 n] w fun e w' => ∃ v, e = .returned (.tuple #[v, .int .i64 (S.read s o n).2]) ∧ Ob w.heap.size w' v (S.read s o n).1 ∧ Below w.heap.size w w' := by
 obtain ⟨f, g, pd, am, VB, VL, h⟩ := h
 by_cases h0 : (S.find s).2 = 0
 ·obtain ⟨p, e, hg, hr, hp⟩ := find_ok h0
  have e2 : S.read s o n = if 0 ≤ o ∧ o ≤ ((S.F p).by_.length : Int) ∧ 0 ≤ n ∧ n ≤ ((S.F p).by_.length : Int) - o then (((S.F p).by_.drop o.toNat).take n.toNat, 0) else ([], 8) := by unfold DS.read; rw [e]
  rw [e2]
  by_cases c : 0 ≤ o ∧ o ≤ ((S.F p).by_.length : Int) ∧ 0 ≤ n ∧ n ≤ ((S.F p).by_.length : Int) - o
  ·rw [if_pos c]
   have eo : ((o.toNat : Nat) : Int) = o := by omega
   have en : ((n.toNat : Nat) : Int) = n := by omega
   have := read_ok h.dk s hs o.toNat n.toNat (by rw [ref_dc]; exact hr) hg (h.fs.at_ p hp) (by omega)
   rw [eo, en] at this
   exact this
  ·rw [if_neg c]
   refine (read_out h.dk s hs o n (by rw [ref_dc]; exact hr) hg (h.fs.at_ p hp) c).mono ?_
   rintro e w' ⟨rfl, hB⟩
   exact ⟨_, rfl, Ob.nil _ _, hB⟩
 ·have e : S.read s o n = ([], (S.find s).2) := by
    have q := find_no h0
    unfold DS.read
    cases hq : S.find s with
    | mk a c => rw [hq] at q; dsimp only at q; subst q; rfl
  rw [e]
  refine (read_no h.dk s hs o n (by rw [find2]; exact h0)).mono ?_
  rintro e w' ⟨rfl, hB⟩
  rw [find2]
  exact ⟨_, rfl, Ob.nil _ _, hB⟩
def sumL (F : Nat → Fl) (l : Dr) : Nat := (l.map fun e => (F e.2).by_.length).sum
def leftS (F : Nat → Fl) (l : Dr) (left : Lit → Bool) : Nat := (l.map fun e => if left (.string e.1) then (F e.2).by_.length else 0).sum
theorem Mp.keys {w : World} {b : Nat} {l : Dr} (h : Mp w b l) : l.Pairwise (fun p q => p.1 ≠ q.1) := by
 obtain ⟨es, e, hp, _⟩ := World.ownsMap.entries h keyS
 have e2 : l.map dent = es := by
  have : DataW.map (l.map dent) = DataW.map es := e
  simpa using this
 rw [← e2, List.pairwise_map] at hp
 refine hp.imp fun h1 h2 => h1 ?_
 show Lit.string _ = Lit.string _
 rw [h2]
theorem leftS_start (F : Nat → Fl) (l : Dr) : leftS F l (Maps.has (dirD l)) = sumL F l := by
 unfold leftS sumL
 congr 1
 apply List.map_congr_left
 intro e he
 rw [dirD_has]
 have : (get l e.1).isSome = true := by
  unfold get
  rw [Option.isSome_map, List.find?_isSome]
  exact ⟨e, he, by simp⟩
 rw [this]
 rfl
theorem leftS_end (F : Nat → Fl) (l : Dr) {left : Lit → Bool} (h : ∀ kl, left kl = false) : leftS F l left = 0 := by
 unfold leftS
 induction l with
 | nil => rfl
 | cons y r ih =>
  rw [List.map_cons, List.sum_cons, ih, h]
  rfl
theorem sameStr (a k : List UInt8) : (Lit.string a).sameKey (.string k) = (a == k) := rfl
theorem leftS_step (F : Nat → Fl) {l : Dr} {left : Lit → Bool} {k : List UInt8} {p : Nat} (hk : l.Pairwise (fun p q => p.1 ≠ q.1)) (hg : get l k = some p) (hl : left (.string k) = true) :
    leftS F l left = leftS F l (fun z => left z && !z.sameKey (.string k)) + (F p).by_.length := by
 induction l with
 | nil => simp [get] at hg
 | cons y r ih =>
  rw [List.pairwise_cons] at hk
  obtain ⟨h1, h2⟩ := hk
  have u : ∀ q : Lit → Bool, leftS F (y :: r) q = (if q (.string y.1) then (F y.2).by_.length else 0) + leftS F r q := fun q => by simp [leftS]
  rw [u, u]
  by_cases c : y.1 = k
  ·have e : (y.1 == k) = true := by simpa using c
   have hp : y.2 = p := by simpa [get, List.find?_cons, e] using hg
   have hr : leftS F r (fun z => left z && !z.sameKey (.string k)) = leftS F r left := by
    unfold leftS
    congr 1
    apply List.map_congr_left
    intro e he
    have : (e.1 == k) = false := by have := h1 e he; simp; intro q; exact this (by rw [c, q])
    simp only [sameStr, this, Bool.not_false, Bool.and_true]
   rw [hr]
   have z1 : (left (.string y.1) && !(Lit.string y.1).sameKey (.string k)) = false := by rw [sameStr, e]; simp
   have z2 : left (.string y.1) = true := by rw [c]; exact hl
   rw [z1, z2, hp]
   simp
   omega
  ·have e : (y.1 == k) = false := by simpa using c
   have hg2 : get r k = some p := by simpa [get, List.find?_cons, e] using hg
   rw [ih h2 hg2]
   simp only [sameStr, e, Bool.not_false, Bool.and_true]
   omega
theorem sumL_le (F : Nat → Fl) (l : Dr) (h : ∀ e ∈ l, (F e.2).by_.length ≤ 16777216) : sumL F l ≤ l.length * 16777216 := by
 induction l with
 | nil => simp [sumL]
 | cons y r ih =>
  have h1 := h y (by simp)
  have h2 := ih (fun e he => h e (by simp [he]))
  simp only [sumL, List.map_cons, List.sum_cons, List.length_cons] at *
  omega
theorem leftS_le (F : Nat → Fl) (l : Dr) (left : Lit → Bool) : leftS F l left ≤ sumL F l := by
 induction l with
 | nil => simp [sumL, leftS]
 | cons y r ih =>
  simp only [sumL, leftS, List.map_cons, List.sum_cons] at *
  split <;> omega
theorem sumL_one (F : Nat → Fl) {l : Dr} {k : List UInt8} {p : Nat} (h : get l k = some p) : (F p).by_.length ≤ sumL F l := by
 have := get_mem h
 clear h
 induction l with
 | nil => simp at this
 | cons y r ih =>
  simp only [sumL, List.map_cons, List.sum_cons] at *
  rcases List.mem_cons.1 this with q | q
  ·rw [← q]; simp
  ·have := ih q
   omega
theorem keyOf_str_inv {key : Value} {kl : Lit} (h : keyOf Try.prog TS key = some kl) : ∃ s : ByteArray, key = .string s := by
 have e : Try.prog.underlying TS = some .string := Try.underlying9
 cases key <;> simp [keyOf, e, mapKey] at h
 exact ⟨_, rfl⟩
theorem keyOf_str_lit {s : ByteArray} {kl : Lit} (h : keyOf Try.prog TS (.string s) = some kl) : kl = .string s.data.toList ∧ s.size ≤ maxLen := by
 have e : Try.prog.underlying TS = some .string := Try.underlying9
 simp [keyOf, e, mapKey] at h
 exact ⟨h.2.symm, h.1⟩
theorem ptrR_shape {v : Value} {y : DataW Unit × List MemPlace} (h : ptrR v = some y) : ∃ c : Option Nat, v = .pointer (c.map fun b => ⟨b, 0, none⟩) := by
 unfold ptrR at h
 split at h
 ·exact ⟨some _, rfl⟩
 ·exact ⟨none, rfl⟩
 ·simp at h
theorem round_get {l : Dr} {s : ByteArray} {c : Option Nat} {y : DataW Unit × List MemPlace} (hat : ∀ zd, (dirD l).atKey (.string s.data.toList) zd = y.1) (hy : ptrR (.pointer (c.map fun b => ⟨b, 0, none⟩)) = some y) (hh : (get l s.data.toList).isSome = true) : ∃ p, c = some p ∧ get l s.data.toList = some p := by
 obtain ⟨p, hp⟩ := Option.isSome_iff_exists.1 hh
 have := hat .nil
 rw [dirD_at_some hp] at this
 cases c with
 | none => rw [Option.map_none, ptrR_none] at hy; cases hy; cases this
 | some q =>
  rw [Option.map_some, ptrR_some] at hy
  cases hy
  simp at this
  have e : p = q := by omega
  subst e
  exact ⟨_, rfl, hp⟩
open Ix (wp_region_T wpAnyT wpAnyT_take wpAnyT_one wpAnyT_done vac)
theorem step_app {w : World} {ops : Array Oper} {o : Oper} {a : Act} {K : Act → World → Prop} {Q : Exit → Act → World → Prop} {E : Prop} (hgd : o.guard = none) (x y : Operand)
    (ho : o.op = .call { callee := .builtin .append, args := #[x, y], argTypes := #[40, 40] }) (vx vy v' : Value) (w' : World) (hx : a.eval x = vx) (hy : a.eval y = vy) (hr : (Builtin.append_ #[40, 40] o.type #[vx, vy]).run Try.prog w = .ok v' w') (h : K (a.put o.dst v') w') :
    if Region.wanted o (yielded ops a.tmps) = true then Oper.wp Try.prog o a w K Q else E := by
 have hw : Region.wanted o (yielded ops a.tmps) = true := by simp [Region.wanted, hgd]
 rw [if_pos hw]
 unfold Oper.wp execOp
 simp only [ho, resolve, invoke, builtin, Sem.run_bind, Sem.run_pure, Result.andThen_ok, List.map_toArray, List.map_cons, List.map_nil, hx, hy, hr]
 exact h
def syF (f : Fl) : Fl := ⟨f.by_, f.la ++ svd f (f.by_.length - f.la.length), 0⟩
theorem sync_any (w : World) (p : Nat) (f : Fl) (vb vl : Value) (h : FlAt w p f vb vl) :
    Calls Try.prog 54 #[.pointer (some ⟨p, 0, none⟩)] w fun e w' => e = .returned (.tuple #[]) ∧ ∃ vl', FlAt w' p (syF f) vb vl' ∧ But (FOwn p vb vl) w w' ∧ (∀ k, FOwn p vb vl' k → FOwn p vb vl k ∨ w.heap.size ≤ k) := by
 have H := hide h
 obtain ⟨ta, hta⟩ : ∃ ta, Hid (f.by_.length - f.la.length = ta) := ⟨_, rfl⟩
 obtain ⟨al, cl, rfl, q1, q2⟩ := h.l.form
 have hT : Hid (∀ q, Below w.heap.size w q → Calls Try.prog 59 #[.pointer (some ⟨p, 0, none⟩)] q fun e w' => e = .returned (.int .i64 (ta : Int)) ∧ ∃ n, w' = q.drewN n) := fun q hq => by have := tail_any q p f vb _ (h.below hq); rw [hta.out] at this; exact this
 have hS : Hid (∀ q, Below w.heap.size w q → Calls Try.prog 76 #[.pointer (some ⟨p, 0, none⟩), .int .i64 (ta : Int)] q fun e w' => ∃ v, e = .returned v ∧ Ob q.heap.size w' v (svd f ta) ∧ Below q.heap.size q w') := fun q hq => saved_any q p ta f vb _ (h.below hq) (by have := hta.out; have := h.le; omega)
 have hsl : (svd f ta).length = ta := svd_len f ta (by have := hta.out; have := h.le; omega)
 have hz : f.la.length + ta ≤ 1099511627776 := by have := hta.out; have := h.le; have := h.sz; omega
 replace hsl := hide hsl
 have KC : Hid (∀ q : World, q.heap[p]? = some (.cells #[vb, .slice al f.la.length cl, .int .i64 (f.sp : Int)] TFl (0, 0)) → q.cell? ⟨p, 1, none⟩ = some (.slice al f.la.length cl)) := fun q hq => (cells3 hq).2.1
 have KB : Hid (∀ q : World, Below w.heap.size w q → q.heap[p]? = some (.cells #[vb, .slice al f.la.length cl, .int .i64 (f.sp : Int)] TFl (0, 0))) := fun q hq => (hq.block p (heap_lt H.out.box)).trans H.out.box
 clear h
 go_enter Try.func54, Try.ntmps54
 go_upto_region 0 with fail
 have B0 : Hid (Below w.heap.size w w.drew) := (Below.refl _ _).drew
 refine wp_region_T (fun q => q.heap[p]? = some (.cells #[vb, .slice al f.la.length cl, .int .i64 (f.sp : Int)] TFl (0, 0))) 12 (by kernel_rfl) ?_
 generalize w.drew = q at *
 have KP := hide (KB.out _ B0.out)
 refine Ix.tk 0 ⟨some 2, .move (.tmp 0), _, _, _, _⟩ (.pointer (some ⟨p, 0, none⟩)) [12] ?_ KP.out ?_
 ·intro wq hSw
  have y2 := KC.out wq hSw
  go_simp
 (try simp only [zzp, zzb, zzc])
 refine Ix.tk 1 ⟨some 3, .move (.tmp 0), _, _, _, _⟩ (.pointer (some ⟨p, 0, none⟩)) [12] ?_ KP.out ?_
 ·intro wq hSw
  have y2 := KC.out wq hSw
  go_simp
 (try simp only [zzp, zzb, zzc])
 refine Ix.tk 2 ⟨some 4, .nilCheck (.tmp 3), _, _, _, _⟩ (.pointer (some ⟨p, 0, none⟩)) [12] ?_ KP.out ?_
 ·intro wq hSw
  have y2 := KC.out wq hSw
  go_simp
 (try simp only [zzp, zzb, zzc])
 refine Ix.tk 3 ⟨some 5, .fieldAddr 109 (.tmp 4) 1, _, _, _, _⟩ (.pointer (some ⟨p, 1, none⟩)) [12] ?_ KP.out ?_
 ·intro wq hSw
  have y2 := KC.out wq hSw
  go_simp
 (try simp only [zzp, zzb, zzc])
 refine Ix.tk 4 ⟨some 6, .load 40 (.tmp 5), _, _, _, _⟩ (.slice al f.la.length cl) [12] ?_ KP.out ?_
 ·intro wq hSw
  have y2 := KC.out wq hSw
  go_simp
 (try simp only [zzp, zzb, zzc])
 refine Ix.tk 5 ⟨some 7, .move (.tmp 0), _, _, _, _⟩ (.pointer (some ⟨p, 0, none⟩)) [12] ?_ KP.out ?_
 ·intro wq hSw
  have y2 := KC.out wq hSw
  go_simp
 (try simp only [zzp, zzb, zzc])
 refine Ix.tk 6 ⟨some 8, .move (.tmp 0), _, _, _, _⟩ (.pointer (some ⟨p, 0, none⟩)) [12] ?_ KP.out ?_
 ·intro wq hSw
  have y2 := KC.out wq hSw
  go_simp
 (try simp only [zzp, zzb, zzc])
 refine wpAnyT_one (i := 7) (o := ⟨some 9, .call { callee := .value (.func 59), args := #[.tmp 8], argTypes := #[101] }, _, _, _, _⟩) (by kernel_rfl) rfl (fun K hK => ?_)
 go_simp
 go_at_call 59
 refine (hT.out q B0.out).mono ?_
 rintro e w1 ⟨rfl, nq, rfl⟩
 have B1 : Hid (Below w.heap.size w (q.drewN nq)) := B0.out.trans (Qt.below ⟨nq, rfl⟩ _)
 have K1 := hide (KB.out _ B1.out)
 (try go_simp)
 refine hK.out _ _ (fun _ => K1.out) ?_
 clear hK K
 (try simp only [zzp, zzb, zzc])
 generalize q.drewN nq = q1 at *
 refine wpAnyT_one (i := 8) (o := ⟨some 10, .call { callee := .value (.func 76), args := #[.tmp 7, .tmp 9], argTypes := #[101, 3] }, _, _, _, _⟩) (by kernel_rfl) rfl (fun K hK => ?_)
 go_simp
 go_at_call 76
 refine (hS.out q1 B1.out).mono ?_
 rintro e w4 ⟨vs, rfl, O4, B4⟩
 obtain ⟨a4, c4, rfl, _, _⟩ := O4.form
 replace O4 := hide O4
 replace B4 : Hid (Below w.heap.size w w4) := B1.out.trans (B4.mono B1.out.size)
 have K4 := hide (KB.out _ B4.out)
 (try go_simp)
 refine hK.out _ _ (fun _ => K4.out) ?_
 clear hK K
 (try simp only [zzp, zzb, zzc])
 have H4 := hide (H.out.below B4.out)
 obtain ⟨v5, w5, hr, O5, G5, A5⟩ := run_app (B := 0) H4.out.l O4.out.sl (by have := hsl.out; omega) (Nat.zero_le _) 40
 have hL : Hid (f.la ++ svd f ta = (syF f).la) := by show _ = _; unfold syF; rw [hta.out]
 rw [hL.out] at O5
 replace O5 := hide O5
 replace G5 := hide G5
 replace A5 := hide A5
 have K5 : Hid (w5.heap[p]? = some (.cells #[vb, .slice al f.la.length cl, .int .i64 (f.sp : Int)] TFl (0, 0))) := (But.of_grownBy (X := fun k => Value.ownBlock (.slice al f.la.length cl) = some k) G5.out fun k e => e).at K4.out (H4.out.l.no H4.out.box (by decide))
 obtain ⟨a5, c5, e5, _, _⟩ := O5.out.form
 subst e5
 refine wpAnyT_one (i := 9) (o := ⟨some 11, .call { callee := .builtin .append, args := #[.tmp 6, .tmp 10], argTypes := #[40, 40] }, _, _, _, _⟩) (by kernel_rfl) rfl (fun K hK => ?_)
 refine step_app rfl (.tmp 6) (.tmp 10) rfl _ _ _ w5 (by simp [Act.eval]) (by simp [Act.eval]) hr ?_
 refine hK.out _ _ (fun _ => K5.out) ?_
 clear hK K hr
 (try simp only [zzp, zzb, zzc])
 refine Ix.tk 10 ⟨some 12, .nilCheck (.tmp 2), _, _, _, _⟩ (.pointer (some ⟨p, 0, none⟩)) [11,12] ?_ K5.out ?_
 ·intro wq hSw
  have y2 := KC.out wq hSw
  go_simp
 (try simp only [zzp, zzb, zzc])
 refine Ix.tk 11 ⟨some 13, .fieldAddr 109 (.tmp 12) 1, _, _, _, _⟩ (.pointer (some ⟨p, 1, none⟩)) [12] ?_ K5.out ?_
 ·intro wq hSw
  have y2 := KC.out wq hSw
  go_simp
 (try simp only [zzp, zzb, zzc])
 have d1 := (cells3 K5.out).2.1
 have d2 := (frozen3 K5.out).2.1
 refine wpAnyT_one (i := 12) (o := ⟨none, .store 40 (.tmp 13) (.tmp 11), _, _, _, _⟩) (by kernel_rfl) rfl (fun K hK => ?_)
 go_simp
 refine hK.out _ _ (vac (by kernel_rfl)) ?_
 clear hK K d1 d2 KC KB hT hS
 refine wpAnyT_done (by kernel_rfl) ?_ _
 have b7 : Hid ((w5.setCell ⟨p, 1, none⟩ (.slice a5 (syF f).la.length c5)).heap[p]? = some (.cells #[vb, .slice a5 (syF f).la.length c5, .int .i64 (f.sp : Int)] TFl (0, 0))) := by show _ = _; rw [heap_setCell_same _ _ _ _ _ _ K5.out]; simp
 have g7 := hide (But.of_grownBy (X := fun k => k = p) (grown_setCell w5 p 1 (.slice a5 (syF f).la.length c5)) fun k e => by cases e; rfl)
 have x1 := (cells3 b7.out).2.2
 have x2 := (frozen3 b7.out).2.2
 generalize hw7 : (w5.setCell ⟨p, 1, none⟩ (.slice a5 (syF f).la.length c5)) = w7 at *
 replace hw7 := hide hw7
 go_wp2_with fail
 go_end0
 have b8 : (w7.setCell ⟨p, 2, none⟩ (.int .i64 0)).heap[p]? = some (.cells #[vb, .slice a5 (syF f).la.length c5, .int .i64 0] TFl (0, 0)) := by rw [heap_setCell_same _ _ _ _ _ _ b7.out]; simp
 have g8 := g7.out.trans (But.of_grownBy (X := fun k => k = p) (grown_setCell w7 p 2 (.int .i64 0)) fun k e => by cases e; rfl)
 have G5b := But.of_grownBy (X := fun k => Value.ownBlock (.slice al f.la.length cl) = some k) G5.out fun k e => e
 have Ob5 : Ob 0 w5 vb f.by_ := H4.out.b.but G5b (fun k hk c => H4.out.ne k hk c)
 refine ⟨rfl, .slice a5 (syF f).la.length c5, ⟨b8, ?_, ?_, ?_, ?_, Nat.zero_le _, H.out.sz⟩, ?_, ?_⟩
 ·exact Ob5.but g8 (fun k hk e => Ob5.no K5.out (by decide) (by rw [← e]; exact hk))
 ·exact O5.out.but g8 (fun k hk e => O5.out.no K5.out (by decide) (by rw [← e]; exact hk))
 ·intro k hk c
  rcases A5.out with e | e
  ·rw [e] at c
   exact H.out.ne k hk c
  ·rw [e] at c
   have := (H4.out.b.lt k hk).2
   simp at c
   omega
 ·show (syF f).la.length ≤ f.by_.length
  rw [← hL.out, List.length_append, hsl.out]
  have := hta.out
  have := H.out.le
  omega
 ·exact (((But.of_below B4.out _).trans (G5b.mono fun k _ e => .inr (.inr e))).trans (g8.mono fun k _ e => .inl e))
 ·rintro k (q | q | q)
  ·exact .inl (.inl q)
  ·exact .inl (.inr (.inl q))
  ·rcases A5.out with e | e
   ·rw [e] at q
    exact .inl (.inr (.inr q))
   ·rw [e] at q
    have := B4.out.size
    simp at q
    exact .inr (by omega)
def DS.room (S : DS) : Int := max (S.most - (sumL S.F S.dir : Int)) 0
theorem DS.ok.sum {S : DS} (h : S.ok) (hc : S.c7 < 1000000000) : (sumL S.F S.dir : Int) ≤ 16777216000000000 := by
 have h1 := sumL_le S.F S.dir fun e he => h.sz e.2 (runs_mem (List.mem_map.2 ⟨e, he, rfl⟩))
 obtain ⟨d1, _, _⟩ := dir_len h hc
 have : S.dir.length * 16777216 ≤ 1000000000 * 16777216 := Nat.mul_le_mul_right _ (by omega)
 omega
theorem room_any {w : World} {b : Nat} {S : DS} {O : Nat → Prop} {f g : Nat} {pd : Value} {am : Option Nat} {VB VL : Nat → Value} (h : Dsk w b S O f g pd am VB VL) (hc : S.c7 < 1000000000) :
    Calls Try.prog 41 #[.pointer (some ⟨b, 0, none⟩)] w fun e w' => e = .returned (.int .i64 S.room) ∧ Below w.heap.size w w' := by
 have c0 : w.cell? ⟨b, 0, none⟩ = some (.int .i64 S.most) := h.dk.box.cells.1
 have c2 : w.cell? ⟨b, 2, none⟩ = some (.map (some f)) := h.dk.box.cells.2.2.1
 have hown : w.ownsMap Try.prog TS ptrR f S.dir.length (dirD S.dir) := h.dk.mf
 have hsum := h.ok.sum hc
 have hmost := h.ok.most
 have hkeys := hide h.dk.mf.keys
 have hfl := hide h.dk.mf.lt
 have hF : Hid (∀ q p k, Below w.heap.size w q → get S.dir k = some p → ∃ ao ca, q.cell? ⟨p, 0, none⟩ = some (.slice ao (S.F p).by_.length ca)) := fun q p k hq hp => by
  have hf := (h.fs.at_ p (DS.mem_dir hp)).below hq
  obtain ⟨ao, ca, e, _⟩ := hf.b.form
  exact ⟨ao, ca, by rw [← e]; exact (cells3 hf.box).1⟩
 have hroom : Hid (max (S.most - (sumL S.F S.dir : Int)) 0 = S.room) := rfl
 have hss := hide (leftS_start S.F S.dir)
 have hse : Hid (∀ left : Lit → Bool, (∀ kl, left kl = false) → leftS S.F S.dir left = 0) := fun left hl => leftS_end S.F S.dir hl
 have hst : Hid (∀ (left : Lit → Bool) k p, get S.dir k = some p → left (.string k) = true → leftS S.F S.dir left = leftS S.F S.dir (fun z => left z && !z.sameKey (.string k)) + (S.F p).by_.length) := fun left k p hg hl => leftS_step S.F hkeys.out hg hl
 have hsl : Hid (∀ left : Lit → Bool, leftS S.F S.dir left ≤ sumL S.F S.dir) := fun left => leftS_le S.F S.dir left
 have hhas : Hid (∀ k, Maps.has (dirD S.dir) (.string k) = true → (get S.dir k).isSome = true) := fun k hk => by rw [← dirD_has]; exact hk
 have hrg : Hid (∀ (x : ByteArray) (c : Option Nat) (y : DataW Unit × List MemPlace), (∀ zd, (dirD S.dir).atKey (.string x.data.toList) zd = y.1) → ptrR (.pointer (c.map fun b => ⟨b, 0, none⟩)) = some y → (get S.dir x.data.toList).isSome = true → ∃ p, c = some p ∧ get S.dir x.data.toList = some p) := fun x c y h1 h2 h3 => round_get h1 h2 h3
 generalize S.dir = l at *
 generalize hSM : S.most = M at *
 obtain ⟨N, hN⟩ : ∃ N : Nat, sumL S.F l = N := ⟨_, rfl⟩
 rw [hN] at hss hsl hsum hroom
 generalize S.room = R at *
 generalize S.F = F at *
 clear h hN hkeys hSM
 go_enter Try.func41, Try.ntmps41
 go_wp2_with (first
  | (at_range; refine wpList_range_own _ rfl _ TM rfl TS TF keyS undM ptrR f l.length (dirD l) rfl hown ?_; intro w0 hrg0 hg0 hs0)
  | go_in)
 go_frame
 go_loopw [3] (fun v wr => ∃ (left : Lit → Bool) (cnt : Nat), wr.ranges Try.prog TS ptrR f w.heap.size l.length (dirD l) left cnt ∧ v = .int .i64 (M - (N : Int) + (leftS F l left : Int)) ∧ Hid (∀ k, left (.string k) = true → (get l k).isSome = true) ∧ Hid (Below w.heap.size w wr))
  (fun _ wr => wr.rangeLeft f w.heap.size)
 case atStart =>
  refine ⟨_, _, hrg0, ?_, hhas.out, (Below.refl _ w).grown hg0 (Nat.le_refl _) (fun j hj => by cases hj)⟩
  rw [hss.out]
  congr 1
  omega
 case round =>
  obtain ⟨left, cnt, hrgs, rfl, hlk, hnx⟩ := hrel
  go_wp2_with (first
   | (at_next; refine wpList_next_ranges _ rfl _ rfl TS keyS ptrR Value.string (fun c : Option Nat => .pointer (c.map fun b => ⟨b, 0, none⟩)) (fun key kl hk => keyOf_str_inv hk) (fun v y hv => ptrR_shape hv) f w.heap.size l.length _ _ _ rfl hrgs ?_ ?_)
   | go_in)
  ·intro hc0 hl0
   have e0 := hse.out left hl0
   rw [e0]
   generalize hX : M - (N : Int) + ((0 : Nat) : Int) = X
   have hX2 : Hid (max X 0 = R) := by show _ = _; rw [← hroom.out, ← hX]; simp
   clear hX
   go_wp2_with fail
   go_ret
   exact ⟨by rw [← hX2.out]; rfl, hnx.out⟩
  ·intro x c kl ya yb w1 cnt1 hkey hlx hv hat hrg1 hlt hg1 hs1 hen
   obtain ⟨rfl, hxs⟩ := keyOf_str_lit hkey
   obtain ⟨p, rfl, hp⟩ := hrg.out x c (ya, yb) hat hv (hlk.out _ hlx)
   have hst1 := hst.out left _ p hp hlx
   have hB1 := hide (hnx.out.grown hg1 hnx.out.size (fun j hj => by cases hj; exact Nat.le_refl _))
   obtain ⟨ao, ca, hcell⟩ := hF.out w1 p _ hB1.out hp
   have hsl1 := hsl.out left
   have hlk2 : Hid (∀ k, (fun z : Lit => left z && !z.sameKey (.string x.data.toList)) (.string k) = true → (get l k).isSome = true) := fun k hk => hlk.out k (by simp only [Bool.and_eq_true] at hk; exact hk.1)
   obtain ⟨L1, hL1⟩ : ∃ L1 : Nat, Hid (leftS F l (fun z => left z && !z.sameKey (.string x.data.toList)) = L1) := ⟨_, rfl⟩
   rw [hL1.out] at hst1
   obtain ⟨len, hlen⟩ : ∃ len : Nat, (F p).by_.length = len := ⟨_, rfl⟩
   rw [hlen] at hst1 hcell
   rw [hst1]
   obtain ⟨X, hX⟩ : ∃ X : Int, Hid (M - (N : Int) + ((L1 + len : Nat) : Int) = X) := ⟨_, rfl⟩
   have hw : IntKind.i64.wrap (X - (len : Int)) = X - (len : Int) := by have := hX.out; rw [IntKind.wrap_i64]; omega
   rw [hX.out]
   replace hst1 := hide hst1
   replace hsl1 := hide hsl1
   replace hlt := hide hlt
   replace hp := hide hp
   replace hkey := hide hkey
   replace hv := hide hv
   replace hat := hide hat
   replace hrg1 := hide hrg1
   replace hrgs := hide hrgs
   clear hg1 hs1 hlen hlx
   simp only [Option.map_some] at hen
   go_wp2_with fail
   go_roundw
   case rel =>
    refine ⟨_, cnt1, hrg1.out, ?_, hlk2.out, hB1.out⟩
    rw [hL1.out]
    have := hX.out
    congr 1
    omega
   case measure => rw [hrg1.out.left_eq, hrgs.out.left_eq]; exact hlt.out
end Go.Proofs.Ytbmnjaaacodgdaa.Dk
