/-
  clear of one's own bytes; saved.
-/
import Derived.Test.YtjehpijjneghpaaGreatK04
import Derived.Laws.Strings
namespace Go.Proofs.YtjehpijjneghpaaGreat.Dk
open Go.RowKit Go.Maps Go.Proofs.YtjehpijjneghpaaGreat.Nm
theorem Ob.zeros {B g cap : Nat} : ∀ (k o : Nat) (w : World) (L : List UInt8), Ob B w (.slice (some ⟨g, 0, none⟩) L.length cap) L → o + k ≤ L.length →
    Ob B (w.setCells g o (List.replicate k (.int .u8 0))) (.slice (some ⟨g, 0, none⟩) L.length cap) (L.take o ++ List.replicate k 0 ++ L.drop (o + k)) ∧ w.grownBy (w.setCells g o (List.replicate k (.int .u8 0))) (some g) := by
  intro k
  induction k with
  | zero =>
    intro o w L h ho
    have e0 : w.setCells g o (List.replicate 0 (.int .u8 0)) = w := by cases o <;> rfl
    refine ⟨?_, by rw [e0]; exact ⟨rfl, rfl, rfl, Nat.le_refl _, fun _ _ _ => rfl⟩⟩
    have e : w.setCells g o (List.replicate 0 (.int .u8 0)) = w := by cases o <;> rfl
    rw [e]
    simpa using h
  | succ k ih =>
    intro o w L h ho
    obtain ⟨s1, g1⟩ := World.ownsRow.stored h o (.int .u8 0)
    have hL : (L.set o 0).length = L.length := by simp
    have s2 : Ob B (w.setCell ⟨g, o, none⟩ (.int .u8 0)) (.slice (some ⟨g, 0, none⟩) (L.set o 0).length cap) (L.set o 0) := by
      unfold Ob
      rw [hL, show bvals (L.set o 0) = (bvals L).set o (.int .u8 0) by unfold bvals; rw [List.map_set]; rfl]
      exact s1
    obtain ⟨i1, i2⟩ := ih (o + 1) _ (L.set o 0) s2 (by rw [hL]; omega)
    rw [hL] at i1
    refine ⟨?_, ?_⟩
    · have e : (L.set o 0).take (o + 1) ++ List.replicate k 0 ++ (L.set o 0).drop (o + 1 + k) = L.take o ++ List.replicate (k + 1) 0 ++ L.drop (o + (k + 1)) := by
        rw [List.take_succ_eq_append_getElem (by rw [hL]; omega), List.getElem_set_self, List.take_set_of_le (Nat.le_refl _), List.drop_set_of_lt (by omega), List.replicate_succ, show o + 1 + k = o + (k + 1) by omega]
        simp
      rw [e] at i1
      exact i1
    · refine ⟨i2.os.trans g1.os, i2.tape.trans g1.tape, i2.output.trans g1.output, Nat.le_trans g1.size i2.size, fun j hj hn => ?_⟩
      rw [show w.setCells g o (List.replicate (k + 1) (.int .u8 0)) = (w.setCell ⟨g, o, none⟩ (.int .u8 0)).setCells g (o + 1) (List.replicate k (.int .u8 0)) from rfl, i2.block j (Nat.lt_of_lt_of_le hj g1.size) hn]
      exact g1.block j hj hn
theorem zeroU8 (w : World) : (zeroValue 5).run Tryz.prog w = .ok (.int .u8 0) w := by kernel_rfl
theorem run_clear {B : Nat} {w : World} {ao : Option Addr} {n ca k : Nat} {L : List UInt8} (h : Ob B w (.slice ao n ca) L) (hn : n = L.length) (hk : k ≤ L.length) (ty : TypeId) :
    ∃ w', (Builtin.clear_ #[30] ty #[.slice ao k ca]).run Tryz.prog w = .ok (.tuple #[]) w' ∧ Ob B w' (.slice ao n ca) (List.replicate k 0 ++ L.drop k) ∧ w.grownBy w' (Value.slice ao n ca).ownBlock := by
  by_cases k0 : k = 0
  · subst k0
    refine ⟨w, ?_, by simpa using h, ⟨rfl, rfl, rfl, Nat.le_refl _, fun _ _ _ => rfl⟩⟩
    cases ao <;> simp [Builtin.clear_, run_underlying Tryz.underlying30]
  · subst hn
    rcases h.2 with ⟨e, e2⟩ | ⟨g, cap, cur, e, hg, hh, r⟩
    · omega
    · simp only [Value.slice.injEq] at e
      obtain ⟨rfl, _, rfl⟩ := e
      obtain ⟨r1, _, r2, _⟩ := r
      have hc : ∀ j, j < k → (w.cell? ⟨g, 0 + j, none⟩).isSome = true := by
        intro j hj
        simp [World.cell?, hh]
        omega
      have hf : ∀ j, j < k → w.frozen? ⟨g, 0 + j, none⟩ = false := fun j _ => World.ownsRow.frozenAt h _
      have hr := Lib.run_clear_slice (P := Tryz.prog) w 30 5 ty (.int .u8 0) Tryz.underlying30 zeroU8 rfl rfl g 0 k ca (by omega) hc hf
      obtain ⟨z1, z2⟩ := Ob.zeros k 0 w L h (by omega)
      exact ⟨_, hr, by simpa using z1, z2⟩
def svd (f : Fl) (n : Nat) : List UInt8 := List.replicate (min f.sp n) 0 ++ ((f.by_.drop f.la.length).take n).drop (min f.sp n)
theorem svd_len (f : Fl) (n : Nat) (h : f.la.length + n ≤ f.by_.length) : (svd f n).length = n := by
  unfold svd
  simp
  omega
theorem run_sub {w : World} {v : Value} {l : List UInt8} (h : Sl w v l) (a n : Nat) (hn : a + n ≤ l.length) :
    ∃ v', (∀ q : World, (Instr.slice 30 v (some (.int .i64 (a : Int))) (some (.int .i64 ((a : Int) + (n : Int)))) none).run Tryz.prog q = .ok v' q) ∧ Sl w v' ((l.drop a).take n) := by
  obtain ⟨ao, ca, rfl, h2, h3, h4, h5⟩ := h
  refine ⟨.slice (if ca = a then ao else ao.map (·.add (a * 1))) n (ca - a), fun q => ?_, ?_⟩
  · have e1 : (0 : Int) ≤ (a : Int) + (n : Int) ∧ (a : Int) + (n : Int) ≤ (ca : Int) := by omega
    have e2 : ((a : Int) + (n : Int)).toNat = a + n := by omega
    have e3 : (a : Int) ≤ ((a + n : Nat) : Int) := by omega
    have e4 : (sizeOf 5).run Tryz.prog q = .ok 1 q := by kernel_rfl
    simp [Instr.slice, run_underlying Tryz.underlying30, Instr.sliceBounds, Instr.sliceBound, asIntOf, e1, e2, e4, Result.andThen]
  · have hlen : ((l.drop a).take n).length = n := by simp; omega
    refine ⟨_, _, by rw [hlen], ?_, by rw [hlen]; omega, by omega, ?_⟩
    · intro e
      cases ao with
      | none => obtain ⟨rfl, rfl⟩ := h2 rfl; simp
      | some ad => split at e <;> simp at e
    · intro i hi
      rw [hlen] at hi
      obtain ⟨b, off, e, hc⟩ := h5 (a + i) (by omega)
      subst e
      have hne : ca ≠ a := by omega
      refine ⟨b, off + a, by simp [hne, addr_add], ?_⟩
      rw [show off + a + i = off + (a + i) by omega, hc]
      simp
set_option maxRecDepth 100000 in
theorem saved_any (w : World) (p n : Nat) (f : Fl) (vb vl : Value) (h : FlAt w p f vb vl) (hn : f.la.length + n ≤ f.by_.length) :
    Calls Tryz.prog 107 #[.pointer (some ⟨p, 0, none⟩), .int .i64 (n : Int)] w fun e w' => ∃ v, e = .returned v ∧ Ob w.heap.size w' v (svd f n) ∧ Below w.heap.size w w' := by
  obtain ⟨x0, x1, x2⟩ := cells3 h.box
  have hsz := h.sz
  have hB := hide h.box
  obtain ⟨vs, hS, VS⟩ := run_sub h.b.sl f.la.length n hn
  have hlen : ((f.by_.drop f.la.length).take n).length = n := by simp; omega
  have hC := clone_bytes w vs _ VS (by rw [hlen]; omega)
  obtain ⟨k, hk⟩ : ∃ k, Hid (min f.sp n = k) := ⟨_, rfl⟩
  have hE : Hid (svd f n = List.replicate k 0 ++ ((f.by_.drop f.la.length).take n).drop k) := by show _ = _; rw [← hk.out]; rfl
  rw [hE.out]
  have hk2 : k ≤ n ∧ k ≤ f.sp := by have := hk.out; omega
  have hkm : (f.sp ≤ n ∧ k = f.sp) ∨ (n < f.sp ∧ k = n) := by have := hk.out; omega
  generalize (f.by_.drop f.la.length).take n = L at *
  obtain ⟨ao2, ca2, rfl, _, _⟩ := h.l.form
  have w1' : IntKind.i64.wrap ((f.la.length : Int) + (n : Int)) = (f.la.length : Int) + (n : Int) := by rw [IntKind.wrap_i64]; omega
  have hsp : f.sp ≤ 1099511627776 := by have := h.sp; omega
  have hF : Hid (∀ q, Below w.heap.size w q → q.cell? ⟨p, 2, none⟩ = some (.int .i64 (f.sp : Int))) := fun q hq => by rw [hq.cell (p := ⟨p, 2, none⟩) (lt_of_cell x2)]; exact x2
  clear h hE VS
  generalize f.la.length = a at *
  generalize f.sp = sp at *
  generalize f.by_.length = N at *
  go_enter Tryz.func107, Tryz.ntmps107
  go_upto_region 3 with (go_at_call 83; refine hC.mono ?_; rintro e w1 ⟨v1, rfl, O1, B1⟩; replace O1 := hide O1; replace B1 := hide B1)
  obtain ⟨ao1, ca1, rfl, c1, c2⟩ := O1.out.form
  obtain ⟨w2, hR, O2, G2⟩ := run_clear (k := k) O1.out rfl (by omega) 0
  have y2 := hF.out w1 B1.out
  have K : Hid (Ob w.heap.size w2 (.slice ao1 L.length ca1) (List.replicate k 0 ++ L.drop k) ∧ Below w.heap.size w w2) := ⟨O2, B1.out.grown G2 B1.out.size (fun j hj => (O1.out.lt j hj).1)⟩
  rw [hlen] at K c1
  rw [hlen]
  clear O1 O2 G2 hC hS x0 x1 x2 hk2 hk
  replace hlen := hide hlen
  replace hn := hide hn
  have hmin : min (sp : Int) (n : Int) = (k : Int) := by omega
  have i2 : (k : Int) ≤ (ca1 : Int) := by omega
  clear hkm
  go_wp2_with fail
  go_ret
  exact ⟨_, rfl, K.out⟩
end Go.Proofs.YtjehpijjneghpaaGreat.Dk
namespace Go.Proofs.YtjehpijjneghpaaGreat.Dk
open Go.RowKit Go.Maps Go.Proofs.YtjehpijjneghpaaGreat.Nm
def jnk (f : Fl) (N : Int) (J : List UInt8) : Nat := min J.length (min (f.by_.length - f.la.length - wthn N (f.by_.length - f.la.length)) 512)
def crF (f : Fl) (N : Int) (J : List UInt8) : List UInt8 := f.la ++ (svd f (wthn N (f.by_.length - f.la.length)) ++ J.take (jnk f N J))
theorem Row.three {w : World} {o : TypeId} (a b c : Value) : Row (w.alloc (.cells #[a, b, c] o)) (.slice (some ⟨w.heap.size, 0, none⟩) 3 3) [a, b, c] := by
  refine ⟨some ⟨w.heap.size, 0, none⟩, 3, rfl, fun e => by simp at e, Nat.le_refl _, by decide, fun i hi => ?_⟩
  have hi2 : i = 0 ∨ i = 1 ∨ i = 2 := by simp at hi; omega
  refine ⟨_, _, rfl, ?_⟩
  rw [Nat.zero_add]
  unfold World.cell?
  simp only [heap_alloc_new]
  rcases hi2 with rfl | rfl | rfl <;> rfl
theorem sls3 {w : World} {a b c : Value} {x y z : List UInt8} (ha : Sl w a x) (hb : Sl w b y) (hc : Sl w c z) : Sls w [a, b, c] [x, y, z] := by
  refine ⟨rfl, fun i h1 h2 => ?_⟩
  have hi2 : i = 0 ∨ i = 1 ∨ i = 2 := by simp at h1; omega
  rcases hi2 with rfl | rfl | rfl
  · exact ha
  · exact hb
  · exact hc
theorem _root_.Go.Proofs.YtjehpijjneghpaaGreat.Sl.below4 {w w' : World} {v : Value} {l : List UInt8} (h : Sl w v l) (hb : Below w.heap.size w w') : Sl w' v l := Below.sl hb h
theorem sl_take {w : World} {a : Option Addr} {n c j : Nat} {l : List UInt8} (h : Sl w (.slice a n c) l) (hj : j ≤ l.length) : Sl w (.slice a j c) (l.take j) := by
  obtain ⟨ao, ca, e, h2, h3, h4, h5⟩ := h
  simp only [Value.slice.injEq] at e
  obtain ⟨rfl, _, rfl⟩ := e
  have hl : (l.take j).length = j := by simp; omega
  refine ⟨a, c, by rw [hl], fun e => ?_, by rw [hl]; omega, h4, fun i hi => ?_⟩
  · obtain ⟨rfl, rfl⟩ := h2 e
    simp
  · rw [hl] at hi
    obtain ⟨b, off, e, hc⟩ := h5 i (by omega)
    exact ⟨b, off, e, by rw [hc]; simp⟩
end Go.Proofs.YtjehpijjneghpaaGreat.Dk
namespace Go.Proofs.YtjehpijjneghpaaGreat.Dk
open Go.RowKit Go.Maps Go.Proofs.YtjehpijjneghpaaGreat.Nm
theorem FlAt.setSp {w : World} {p : Nat} {f : Fl} {vb vl : Value} (h : FlAt w p f vb vl) (n : Nat) (hn : n ≤ f.by_.length - f.la.length) : FlAt (w.setCell ⟨p, 2, none⟩ (.int .i64 (n : Int))) p ⟨f.by_, f.la, n⟩ vb vl := by
  have g := But.of_grownBy (X := fun k => k = p) (grown_setCell w p 2 (.int .i64 (n : Int))) fun k e => by cases e; rfl
  refine ⟨?_, h.b.but g (fun k hk e => h.b.no h.box (by decide) (by rw [← e]; exact hk)), h.l.but g (fun k hk e => h.l.no h.box (by decide) (by rw [← e]; exact hk)), h.ne, h.le, hn, h.sz⟩
  have := heap_setCell_same w p 2 _ _ (.int .i64 (n : Int)) h.box
  simpa using this
theorem spoil_any (w : World) (p : Nat) (f : Fl) (vb vl : Value) (h : FlAt w p f vb vl) :
    Calls Tryz.prog 77 #[.pointer (some ⟨p, 0, none⟩)] w fun e w' => e = .returned (.tuple #[]) ∧ FlAt w' p ⟨f.by_, f.la, f.by_.length - f.la.length⟩ vb vl ∧ But (fun k => k = p) w w' := by
  have hT := tail_any w p f vb vl h
  have H := hide h
  clear h
  go_enter Tryz.func77, Tryz.ntmps77
  go_wp2_with (go_at_call 85; refine hT.mono ?_; rintro e w1 ⟨rfl, nq, rfl⟩; have x2 := (cells3 (H.out.below (Qt.below ⟨nq, rfl⟩ _)).box).2.2; have x3 := (frozen3 (H.out.below (Qt.below ⟨nq, rfl⟩ _)).box).2.2)
  go_end0
  have H1 : FlAt (w.drewN nq) p f vb vl := H.out.below (Qt.below ⟨nq, rfl⟩ _)
  refine ⟨rfl, H1.setSp _ (Nat.le_refl _), ?_⟩
  exact (But.of_below (Qt.below ⟨nq, rfl⟩ _) _).trans (But.of_grownBy (grown_setCell (w.drewN nq) p 2 _) fun k e => by cases e; rfl)
end Go.Proofs.YtjehpijjneghpaaGreat.Dk
namespace Go.Proofs.YtjehpijjneghpaaGreat.Dk
open Go.RowKit Go.Maps Go.Proofs.YtjehpijjneghpaaGreat.Nm
theorem Dk.find {w : World} {b : Nat} {x : Dc} {f g : Nat} {l l2 : Dr} {P : List Ch} {al : Ar} (h : Dk w b x f g l l2 P al) (s : ByteArray) (hs : s.size ≤ maxLen) :
    Calls Tryz.prog 75 #[.pointer (some ⟨b, 0, none⟩), .string s] w fun e w' => e = .returned (.tuple #[(findF (some x) l s).1, .int .i64 (findF (some x) l s).2]) ∧ Below w.heap.size w w' :=
  find_any w _ (some x) l s h.dp hs (fun y m e1 e2 => by cases e1; rw [h.fm] at e2; cases e2; exact h.mf)
theorem findF_no {x : Option Dc} {l : Dr} {s : ByteArray} (h : (findF x l s).2 ≠ 0) : (findF x l s).1 = .pointer none := by
  revert h
  unfold findF
  split
  · split
    · intro h; exact absurd rfl h
    · intro _; rfl
  · intro _; rfl
theorem findF_ok {x : Option Dc} {l : Dr} {s : ByteArray} {p : Nat} (hr : refF x [s] = 0) (hg : get l s.data.toList = some p) : findF x l s = (.pointer (some ⟨p, 0, none⟩), 0) := by simp [findF, hr, hg]
theorem size_no {w : World} {b : Nat} {x : Dc} {f g : Nat} {l l2 : Dr} {P : List Ch} {al : Ar} (h : Dk w b x f g l l2 P al) (s : ByteArray) (hs : s.size ≤ maxLen) (hn : (findF (some x) l s).2 ≠ 0) :
    Calls Tryz.prog 19 #[.pointer (some ⟨b, 0, none⟩), .string s] w fun e w' => e = .returned (.tuple #[.int .i64 0, .int .i64 (findF (some x) l s).2]) ∧ Below w.heap.size w w' := by
  have hF := h.find s hs
  rw [findF_no hn] at hF
  generalize (findF (some x) l s).2 = r at *
  have hn' : (r != 0) = true := by simpa using hn
  clear h hn
  go_enter Tryz.func19, Tryz.ntmps19
  go_wp2_with (go_at_call 75; refine hF.mono ?_; rintro e w1 ⟨rfl, B1⟩; replace B1 := hide B1)
  go_ret2
  exact ⟨rfl, B1.out⟩
theorem size_ok {w : World} {b p : Nat} {x : Dc} {f g : Nat} {l l2 : Dr} {P : List Ch} {al : Ar} {t : Fl} {vb vl : Value} (h : Dk w b x f g l l2 P al) (s : ByteArray) (hs : s.size ≤ maxLen) (hr : refF (some x) [s] = 0) (hg : get l s.data.toList = some p) (hf : FlAt w p t vb vl) :
    Calls Tryz.prog 19 #[.pointer (some ⟨b, 0, none⟩), .string s] w fun e w' => e = .returned (.tuple #[.int .i64 (t.by_.length : Int), .int .i64 0]) ∧ Below w.heap.size w w' := by
  have hF := h.find s hs
  rw [findF_ok hr hg] at hF
  have c0 := (cells3 hf.box).1
  obtain ⟨ao, ca, rfl, _, _⟩ := hf.b.form
  clear h hf hr hg
  go_enter Tryz.func19, Tryz.ntmps19
  go_wp2_with (go_at_call 75; refine hF.mono ?_; rintro e w1 ⟨rfl, B1⟩; have d0 := (B1.cell (p := ⟨p, 0, none⟩) (lt_of_cell c0)).trans c0; replace B1 := hide B1)
  go_ret2
  exact ⟨rfl, B1.out⟩
theorem read_no {w : World} {b : Nat} {x : Dc} {f g : Nat} {l l2 : Dr} {P : List Ch} {al : Ar} (h : Dk w b x f g l l2 P al) (s : ByteArray) (hs : s.size ≤ maxLen) (o n : Int) (hn : (findF (some x) l s).2 ≠ 0) :
    Calls Tryz.prog 20 #[.pointer (some ⟨b, 0, none⟩), .string s, .int .i64 o, .int .i64 n] w fun e w' => e = .returned (.tuple #[.slice none 0 0, .int .i64 (findF (some x) l s).2]) ∧ Below w.heap.size w w' := by
  have hF := h.find s hs
  rw [findF_no hn] at hF
  generalize (findF (some x) l s).2 = r at *
  have hn' : (r != 0) = true := by simpa using hn
  clear h hn
  go_enter Tryz.func20, Tryz.ntmps20
  go_wp2_with (go_at_call 75; refine hF.mono ?_; rintro e w1 ⟨rfl, B1⟩; replace B1 := hide B1)
  go_ret2
  exact ⟨rfl, B1.out⟩
theorem read_ok {w : World} {b p : Nat} {x : Dc} {f g : Nat} {l l2 : Dr} {P : List Ch} {al : Ar} {t : Fl} {vb vl : Value} (h : Dk w b x f g l l2 P al) (s : ByteArray) (hs : s.size ≤ maxLen) (o n : Nat) (hr : refF (some x) [s] = 0) (hg : get l s.data.toList = some p) (hf : FlAt w p t vb vl) (hon : o + n ≤ t.by_.length) :
    Calls Tryz.prog 20 #[.pointer (some ⟨b, 0, none⟩), .string s, .int .i64 (o : Int), .int .i64 (n : Int)] w fun e w' => ∃ v, e = .returned (.tuple #[v, .int .i64 0]) ∧ Ob w.heap.size w' v ((t.by_.drop o).take n) ∧ Below w.heap.size w w' := by
  have hF := h.find s hs
  rw [findF_ok hr hg] at hF
  have c0 := (cells3 hf.box).1
  obtain ⟨vs, hS, VS⟩ := run_sub hf.b.sl o n hon
  have hlen : ((t.by_.drop o).take n).length ≤ 140737488355328 := by have := hf.sz; simp; omega
  obtain ⟨ao, ca, rfl, _, _⟩ := hf.b.form
  have hsz := hf.sz
  have hC : Hid (∀ q, Below w.heap.size w q → Calls Tryz.prog 83 #[vs] q fun e w' => ∃ v', e = .returned v' ∧ Ob q.heap.size w' v' ((t.by_.drop o).take n) ∧ Below q.heap.size q w') := fun q hq => clone_bytes q vs _ (Below.sl hq VS) hlen
  clear h hf hr hg VS hlen
  generalize (t.by_.drop o).take n = L at *
  generalize t.by_.length = N at *
  have i1 : ¬ ((o : Int) < 0) := by omega
  have i2 : ¬ ((o : Int) > (N : Int)) := by omega
  have i3 : ¬ ((n : Int) < 0) := by omega
  have i4 : ¬ ((n : Int) > (N : Int) - (o : Int)) := by omega
  have e1 : IntKind.i64.wrap ((N : Int) - (o : Int)) = (N : Int) - (o : Int) := by rw [IntKind.wrap_i64]; omega
  have e2 : IntKind.i64.wrap ((o : Int) + (n : Int)) = (o : Int) + (n : Int) := by rw [IntKind.wrap_i64]; omega
  replace hon := hide hon
  go_enter Tryz.func20, Tryz.ntmps20
  go_wp2_with (first
    | (go_at_call 75; refine hF.mono ?_; rintro e w1 ⟨rfl, B1⟩; have d0 := (B1.cell (p := ⟨p, 0, none⟩) (lt_of_cell c0)).trans c0; replace B1 := hide B1)
    | (go_at_call 83; refine (hC.out _ B1.out).mono ?_; rintro e w2 ⟨v2, rfl, O2, B2⟩; replace O2 := hide O2; replace B2 := hide B2))
  go_ret2
  exact ⟨v2, rfl, O2.out.low B1.out.size, B1.out.trans (B2.out.mono B1.out.size)⟩
end Go.Proofs.YtjehpijjneghpaaGreat.Dk
namespace Go.Proofs.YtjehpijjneghpaaGreat.Dk
open Go.RowKit Go.Maps Go.Proofs.YtjehpijjneghpaaGreat.Nm
inductive Removed (w w' : World) (b : Nat) (x : Dc) (f g : Nat) (l l2 : Dr) (P : List Ch) (al : Ar) (s : ByteArray) : Int → Prop where
  | no (r : Int) (hr : (findF (some x) l s).2 = r) (h0 : r ≠ 0) (hd : Dk w' b x f g l l2 P al) (st : Stp w w' b x x) : Removed w w' b x f g l l2 P al s r
  | struck (e : Int) (hr : (findF (some x) l s).2 = 0) (he : strR (nextF x al).2.1 = e) (h0 : e ≠ 0) (hd : Dk w' b (strX (nextF x al).2.1 (inc x 5)) f g l l2 P (adel al (x.c7 + 1))) (st : Stp w w' b x (strX (nextF x al).2.1 (inc x 5))) : Removed w w' b x f g l l2 P al s e
  | done (hr : (findF (some x) l s).2 = 0) (he : strR (nextF x al).2.1 = 0) (pd : Value)
      (hd : Dk w' b { strX (nextF x al).2.1 (inc x 5) with pd := pd } f g (ddel l s.data.toList) l2 (P ++ [.rm s]) (adel al (x.c7 + 1))) (st : Stp w w' b x { strX (nextF x al).2.1 (inc x 5) with pd := pd }) : Removed w w' b x f g l l2 P al s 0
set_option maxRecDepth 100000 in
set_option maxHeartbeats 1000000 in
theorem remove_any (w : World) (b : Nat) (x : Dc) (f g : Nat) (l l2 : Dr) (P : List Ch) (al : Ar) (s : ByteArray) (hs : s.size ≤ 140737488355328) (h : Dk w b x f g l l2 P al) (hc : x.c7 < 4611686018427387904) (hk : (nextF x al).2.1 ≠ 4) (hP : P.length < 1000000000) (hl : l.length < 1000000000) :
    Calls Tryz.prog 53 #[.pointer (some ⟨b, 0, none⟩), .string s] w fun e w' => ∃ r, e = .returned (.int .i64 r) ∧ Removed w w' b x f g l l2 P al s r := by
  have hs2 : s.size ≤ maxLen := by unfold maxLen; omega
  have hF := h.find s hs2
  obtain ⟨v, hv⟩ : ∃ v, Hid ((findF (some x) l s).1 = v) := ⟨_, rfl⟩
  obtain ⟨r, hR⟩ : ∃ r, Hid ((findF (some x) l s).2 = r) := ⟨_, rfl⟩
  rw [hv.out, hR.out] at hF
  have H := hide h
  by_cases r0 : r = 0
  · subst r0
    have hb : Hid (∀ q, Dk q b x f g l l2 P al → _) := fun q hq => begin_any q b x f g l l2 P al 5 (by omega) hq hc
    rw [show (aget al (x.c7 + 1)).getD zf = nextF x al from rfl] at hb
    have hS : Hid (∀ u, Dk u b (inc x 5) f g l l2 P (adel al (x.c7 + 1)) → _) := fun u hu => dk_strikeR u b (inc x 5) f g l l2 P (adel al (x.c7 + 1)) (nextF x al) hu hk
    obtain ⟨t, ht⟩ : ∃ t, Hid (nextF x al = t) := ⟨_, rfl⟩
    rw [ht.out] at hS hb hk
    obtain ⟨e0, he⟩ : ∃ e0, Hid (strR t.2.1 = e0) := ⟨_, rfl⟩
    rw [he.out] at hS
    obtain ⟨y, hX⟩ : ∃ y, Hid (strX t.2.1 (inc x 5) = y) := ⟨_, rfl⟩
    rw [hX.out] at hS
    by_cases s0 : e0 = 0
    · subst s0
      have hC := hide (clone_str s)
      have hT : Hid (∀ u, Dk u b y f g l l2 P (adel al (x.c7 + 1)) → _) := fun u hu => dk_change u b y f g l l2 P _ (.rm s) hu hs2 trivial (by unfold maxLen; omega) hP
      clear h hk
      go_enter Tryz.func53, Tryz.ntmps53
      go_wp2_with (first
        | (go_at_call 75; refine hF.mono ?_; rintro e w1 ⟨rfl, B1⟩; replace B1 := hide B1; have D1 := hide (H.out.below B1.out))
        | (go_at_call 70; refine (hb.out _ D1.out).mono ?_; rintro e w2 ⟨rfl, D2, B2⟩; replace D2 := hide D2; replace B2 := hide B2)
        | (go_at_call 73; refine (hS.out _ D2.out).mono ?_; rintro e w3 ⟨rfl, D3, B3⟩; replace D3 := hide D3; replace B3 := hide B3)
        | (go_at_call 72; refine (hC.out w3 (by omega)).mono ?_; rintro e w4 ⟨rfl, B4⟩; replace B4 := hide B4; have D4 := hide (D3.out.below B4.out))
        | (go_at_call 71; refine (hT.out _ D4.out).mono ?_; rintro e w6 ⟨rfl, pd, D6, B6, O6⟩; replace D6 := hide D6; replace B6 := hide B6; replace O6 := hide O6))
      go_ret
      have T3 : Stp w2 w3 b (inc x 5) y := by rw [← hX.out]; exact Stp.strX B3.out
      refine ⟨0, rfl, .done hR.out (by rw [ht.out, he.out]) pd ?_ ?_⟩
      · rw [ht.out, hX.out]; exact D6.out
      · rw [ht.out, hX.out]; exact ((((Stp.of_below B1.out).trans (Stp.inc B2.out)).trans T3).trans (Stp.of_below B4.out)).trans (Stp.change B6.out O6.out)
    · have s0' : (e0 != 0) = true := by simpa using s0
      replace s0 := hide s0
      clear h hk
      go_enter Tryz.func53, Tryz.ntmps53
      go_wp2_with (first
        | (go_at_call 75; refine hF.mono ?_; rintro e w1 ⟨rfl, B1⟩; replace B1 := hide B1; have D1 := hide (H.out.below B1.out))
        | (go_at_call 70; refine (hb.out _ D1.out).mono ?_; rintro e w2 ⟨rfl, D2, B2⟩; replace D2 := hide D2; replace B2 := hide B2)
        | (go_at_call 73; refine (hS.out _ D2.out).mono ?_; rintro e w3 ⟨rfl, D3, B3⟩; replace D3 := hide D3; replace B3 := hide B3))
      go_ret
      have T3 : Stp w2 w3 b (inc x 5) y := by rw [← hX.out]; exact Stp.strX B3.out
      refine ⟨e0, rfl, .struck e0 hR.out (by rw [ht.out, he.out]) s0.out ?_ ?_⟩
      · rw [ht.out, hX.out]; exact D3.out
      · rw [ht.out, hX.out]; exact ((Stp.of_below B1.out).trans (Stp.inc B2.out)).trans T3
  · have r0' : (r != 0) = true := by simpa using r0
    replace r0 := hide r0
    clear h hk
    go_enter Tryz.func53, Tryz.ntmps53
    go_wp2_with (go_at_call 75; refine hF.mono ?_; rintro e w1 ⟨rfl, B1⟩; replace B1 := hide B1)
    go_ret
    exact ⟨r, rfl, .no r hR.out r0.out (H.out.below B1.out) (Stp.of_below B1.out)⟩
end Go.Proofs.YtjehpijjneghpaaGreat.Dk
namespace Go.Proofs.YtjehpijjneghpaaGreat.Dk
open Go.RowKit Go.Maps Go.Proofs.YtjehpijjneghpaaGreat.Nm
theorem row2 (w : World) (s t : ByteArray) (T : TypeId) : Row (w.alloc (.cells #[.string s, .string t] T)) (.slice (some ⟨w.heap.size, 0, none⟩) 2 2) ([s, t].map Value.string) := by
  refine ⟨_, 2, rfl, fun e => by simp at e, Nat.le_refl _, by decide, fun i hi => ?_⟩
  have hi2 : i = 0 ∨ i = 1 := by simp at hi; omega
  refine ⟨_, _, rfl, ?_⟩
  rw [Nat.zero_add]
  unfold World.cell?
  simp only [heap_alloc_new]
  rcases hi2 with rfl | rfl <;> rfl
inductive Renamed (w w' : World) (b : Nat) (x : Dc) (f g : Nat) (l l2 : Dr) (P : List Ch) (al : Ar) (s t : ByteArray) : Int → Prop where
  | no (r : Int) (hr : refF (some x) [s, t] = r) (h0 : r ≠ 0) (hd : Dk w' b x f g l l2 P al) (st : Stp w w' b x x) : Renamed w w' b x f g l l2 P al s t r
  | none (r : Int) (hr : refF (some x) [s, t] = 0) (hf : (findF (some x) l s).2 = r) (h0 : r ≠ 0) (hd : Dk w' b x f g l l2 P al) (st : Stp w w' b x x) : Renamed w w' b x f g l l2 P al s t r
  | struck (e : Int) (hr : refF (some x) [s, t] = 0) (hf : (findF (some x) l s).2 = 0) (he : strR (nextF x al).2.1 = e) (h0 : e ≠ 0) (hd : Dk w' b (strX (nextF x al).2.1 (inc x 4)) f g l l2 P (adel al (x.c7 + 1))) (st : Stp w w' b x (strX (nextF x al).2.1 (inc x 4))) : Renamed w w' b x f g l l2 P al s t e
  | same (hr : refF (some x) [s, t] = 0) (hf : (findF (some x) l s).2 = 0) (he : strR (nextF x al).2.1 = 0) (hst : s = t) (hd : Dk w' b (strX (nextF x al).2.1 (inc x 4)) f g l l2 P (adel al (x.c7 + 1))) (st : Stp w w' b x (strX (nextF x al).2.1 (inc x 4))) : Renamed w w' b x f g l l2 P al s t 0
  | done (hr : refF (some x) [s, t] = 0) (hf : (findF (some x) l s).2 = 0) (he : strR (nextF x al).2.1 = 0) (hst : s ≠ t) (pd : Value)
      (hd : Dk w' b { strX (nextF x al).2.1 (inc x 4) with pd := pd } f g ((Ch.rn s t).run l) l2 (P ++ [.rn s t]) (adel al (x.c7 + 1))) (st : Stp w w' b x { strX (nextF x al).2.1 (inc x 4) with pd := pd }) : Renamed w w' b x f g l l2 P al s t 0
theorem find_isSome {x : Option Dc} {l : Dr} {s : ByteArray} (h : (findF x l s).2 = 0) : (get l s.data.toList).isSome = true := by
  revert h
  unfold findF
  split
  · cases get l s.data.toList with
    | none => intro h; simp at h
    | some p => intro _; rfl
  · rename_i h0
    intro h
    exact absurd h h0
set_option maxRecDepth 100000 in
set_option maxHeartbeats 1000000 in
theorem rename_any (w : World) (b : Nat) (x : Dc) (f g : Nat) (l l2 : Dr) (P : List Ch) (al : Ar) (s t : ByteArray) (hs : s.size ≤ 140737488355328) (ht0 : t.size ≤ 140737488355328) (h : Dk w b x f g l l2 P al) (hc : x.c7 < 4611686018427387904) (hk : (nextF x al).2.1 ≠ 4) (hP : P.length < 1000000000) (hl : l.length < 1000000000) :
    Calls Tryz.prog 51 #[.pointer (some ⟨b, 0, none⟩), .string s, .string t] w fun e w' => ∃ r, e = .returned (.int .i64 r) ∧ Renamed w w' b x f g l l2 P al s t r := by
  have hs2 : s.size ≤ maxLen := by unfold maxLen; omega
  have ht2 : t.size ≤ maxLen := by unfold maxLen; omega
  have hB := hide ((Below.refl _ w).alloc (Nat.le_refl _) (.cells #[.string s, .string t] 9))
  have H1 := hide (h.below hB.out)
  have hr := refuse_any (w.alloc (.cells #[.string s, .string t] 9)) _ _ (some x) [s, t] H1.out.dp (row2 w s t _) (by simp [hs2, ht2])
  have hF := H1.out.find s hs2
  obtain ⟨q, hQ⟩ : ∃ q, Hid (refF (some x) [s, t] = q) := ⟨_, rfl⟩
  rw [hQ.out] at hr
  obtain ⟨v, hv⟩ : ∃ v, Hid ((findF (some x) l s).1 = v) := ⟨_, rfl⟩
  obtain ⟨r, hR⟩ : ∃ r, Hid ((findF (some x) l s).2 = r) := ⟨_, rfl⟩
  rw [hv.out, hR.out] at hF
  generalize hw1 : w.alloc (.cells #[.string s, .string t] 9) = w1 at *
  replace hw1 := hide hw1
  have K1 := hide (Stp.of_below (b := b) (x := x) hB.out)
  by_cases q0 : q = 0
  · subst q0
    by_cases r0 : r = 0
    · subst r0
      have hb : Hid (∀ q, Dk q b x f g l l2 P al → _) := fun q hq => begin_any q b x f g l l2 P al 4 (by omega) hq hc
      rw [show (aget al (x.c7 + 1)).getD zf = nextF x al from rfl] at hb
      have hS : Hid (∀ u, Dk u b (inc x 4) f g l l2 P (adel al (x.c7 + 1)) → _) := fun u hu => dk_strikeR u b (inc x 4) f g l l2 P (adel al (x.c7 + 1)) (nextF x al) hu hk
      obtain ⟨tt, ht⟩ : ∃ tt, Hid (nextF x al = tt) := ⟨_, rfl⟩
      rw [ht.out] at hS hb hk
      obtain ⟨e0, he⟩ : ∃ e0, Hid (strR tt.2.1 = e0) := ⟨_, rfl⟩
      rw [he.out] at hS
      obtain ⟨y, hX⟩ : ∃ y, Hid (strX tt.2.1 (inc x 4) = y) := ⟨_, rfl⟩
      rw [hX.out] at hS
      by_cases s0 : e0 = 0
      · subst s0
        have hC := hide clone_str
        have hcan : Hid ((Ch.rn s t).can l) := find_isSome hR.out
        have hT : Hid (∀ u, Dk u b y f g l l2 P (adel al (x.c7 + 1)) → _) := fun u hu => dk_change u b y f g l l2 P _ (.rn s t) hu ⟨hs2, ht2⟩ hcan.out (by unfold maxLen; omega) hP
        clear h hk
        by_cases st : s = t
        · subst st
          go_enter Tryz.func51, Tryz.ntmps51
          go_wp2_with (first
            | (go_at_call 68; rw [hw1.out]; refine hr.mono ?_; rintro e w2 ⟨rfl, e1⟩; subst w2)
            | (go_at_call 75; refine hF.mono ?_; rintro e w2 ⟨rfl, B2⟩; replace B2 := hide B2; have D2 := hide (H1.out.below B2.out))
            | (go_at_call 70; refine (hb.out _ D2.out).mono ?_; rintro e w3 ⟨rfl, D3, B3⟩; replace D3 := hide D3; replace B3 := hide B3)
            | (go_at_call 73; refine (hS.out _ D3.out).mono ?_; rintro e w4 ⟨rfl, D4, B4⟩; replace D4 := hide D4; replace B4 := hide B4))
          go_ret
          have T4 : Stp w3 w4 b (inc x 4) y := by rw [← hX.out]; exact Stp.strX B4.out
          refine ⟨0, rfl, .same hQ.out hR.out (by rw [ht.out, he.out]) rfl ?_ ?_⟩
          · rw [ht.out, hX.out]; exact D4.out
          · rw [ht.out, hX.out]; exact ((K1.out.trans (Stp.of_below B2.out)).trans (Stp.inc B3.out)).trans T4
        · have st' : (s.toList == t.toList) = false := by
            rw [ByteArray.toList_eq, ByteArray.toList_eq, beq_eq_false_iff_ne]
            intro e
            apply st
            cases s with
            | mk a => cases t with
              | mk c => simpa using e
          replace st := hide st
          go_enter Tryz.func51, Tryz.ntmps51
          go_wp2_with (first
            | (go_at_call 68; rw [hw1.out]; refine hr.mono ?_; rintro e w2 ⟨rfl, e1⟩; subst w2)
            | (go_at_call 75; refine hF.mono ?_; rintro e w2 ⟨rfl, B2⟩; replace B2 := hide B2; have D2 := hide (H1.out.below B2.out))
            | (go_at_call 70; refine (hb.out _ D2.out).mono ?_; rintro e w3 ⟨rfl, D3, B3⟩; replace D3 := hide D3; replace B3 := hide B3)
            | (go_at_call 73; refine (hS.out _ D3.out).mono ?_; rintro e w4 ⟨rfl, D4, B4⟩; replace D4 := hide D4; replace B4 := hide B4)
            | (go_at_call 72; refine (hC.out s w4 (by omega)).mono ?_; rintro e w5 ⟨rfl, B5⟩; replace B5 := hide B5)
            | (go_at_call 72; refine (hC.out t w5 (by omega)).mono ?_; rintro e w6 ⟨rfl, B6⟩; replace B6 : Hid (Below w4.heap.size w4 w6) := B5.out.trans (B6.mono B5.out.size); have D6 := hide (D4.out.below B6.out))
            | (go_at_call 71; refine (hT.out _ D6.out).mono ?_; rintro e w7 ⟨rfl, pd, D7, B7, O7⟩; replace D7 := hide D7; replace B7 := hide B7; replace O7 := hide O7))
          go_ret
          have T4 : Stp w3 w4 b (inc x 4) y := by rw [← hX.out]; exact Stp.strX B4.out
          refine ⟨0, rfl, .done hQ.out hR.out (by rw [ht.out, he.out]) st.out pd ?_ ?_⟩
          · rw [ht.out, hX.out]; exact D7.out
          · rw [ht.out, hX.out]; exact ((((K1.out.trans (Stp.of_below B2.out)).trans (Stp.inc B3.out)).trans T4).trans (Stp.of_below B6.out)).trans (Stp.change B7.out O7.out)
      · have s0' : (e0 != 0) = true := by simpa using s0
        replace s0 := hide s0
        clear h hk
        go_enter Tryz.func51, Tryz.ntmps51
        go_wp2_with (first
          | (go_at_call 68; rw [hw1.out]; refine hr.mono ?_; rintro e w2 ⟨rfl, e1⟩; subst w2)
          | (go_at_call 75; refine hF.mono ?_; rintro e w2 ⟨rfl, B2⟩; replace B2 := hide B2; have D2 := hide (H1.out.below B2.out))
          | (go_at_call 70; refine (hb.out _ D2.out).mono ?_; rintro e w3 ⟨rfl, D3, B3⟩; replace D3 := hide D3; replace B3 := hide B3)
          | (go_at_call 73; refine (hS.out _ D3.out).mono ?_; rintro e w4 ⟨rfl, D4, B4⟩; replace D4 := hide D4; replace B4 := hide B4))
        go_ret
        have T4 : Stp w3 w4 b (inc x 4) y := by rw [← hX.out]; exact Stp.strX B4.out
        refine ⟨e0, rfl, .struck e0 hQ.out hR.out (by rw [ht.out, he.out]) s0.out ?_ ?_⟩
        · rw [ht.out, hX.out]; exact D4.out
        · rw [ht.out, hX.out]; exact ((K1.out.trans (Stp.of_below B2.out)).trans (Stp.inc B3.out)).trans T4
    · have r0' : (r != 0) = true := by simpa using r0
      replace r0 := hide r0
      clear h hk
      go_enter Tryz.func51, Tryz.ntmps51
      go_wp2_with (first
        | (go_at_call 68; rw [hw1.out]; refine hr.mono ?_; rintro e w2 ⟨rfl, e1⟩; subst w2)
        | (go_at_call 75; refine hF.mono ?_; rintro e w2 ⟨rfl, B2⟩; replace B2 := hide B2))
      go_ret
      exact ⟨r, rfl, .none r hQ.out hR.out r0.out (H1.out.below B2.out) (K1.out.trans (Stp.of_below B2.out))⟩
  · have q0' : (q != 0) = true := by simpa using q0
    replace q0 := hide q0
    clear h hk hF
    go_enter Tryz.func51, Tryz.ntmps51
    go_wp2_with (go_at_call 68; rw [hw1.out]; refine hr.mono ?_; rintro e w2 ⟨rfl, e1⟩; subst w2)
    go_ret
    exact ⟨q, rfl, .no q hQ.out q0.out H1.out K1.out⟩
end Go.Proofs.YtjehpijjneghpaaGreat.Dk
