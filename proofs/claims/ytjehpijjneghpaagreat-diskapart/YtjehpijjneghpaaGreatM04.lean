/-
  begin, strike, strikeRoomless.
-/
import Derived.Test.YtjehpijjneghpaaGreatM03
import Derived.Deep.RegionHeld3
import Derived.Deep.CutRange
import Derived.Deep.RegionLaw
import Derived.BigRegion
import Derived.Handy
import Derived.Laws.Externs
import Derived.Carry
namespace Go.Proofs.YtjehpijjneghpaaGreat.Dk
open Go.RowKit Go.Maps Go.Proofs.YtjehpijjneghpaaGreat.Nm
structure Sb (w u : World) (b rb : Nat) (cs : Array Value) (am : Option Nat) (al : Ar) (f : Ft) : Prop where
  box : u.heap[b]? = some (.cells cs TD (0, 0))
  ans : u.heap[rb]? = some (.cells #[.int .i64 f.1, .int .i64 f.2.1, .int .i64 f.2.2] 118 (0, 0))
  arm : ∀ m, am = some m → Am u m al
  but : But (fun k => k = b ∨ am = some k) w u
  lo : w.heap.size ≤ rb
theorem Sb.ne {w u : World} {b rb : Nat} {cs : Array Value} {am : Option Nat} {al : Ar} {f : Ft} (h : Sb w u b rb cs am al f) : b ≠ rb := by
  intro e
  have h1 := h.box
  rw [e, h.ans] at h1
  simp [TD] at h1
theorem Am.setCell {u : World} {m : Nat} {al : Ar} (h : Am u m al) {b j : Nat} {v : Value} (hb : b ≠ m) : Am (u.setCell ⟨b, j, none⟩ v) m al := h.heap ((grown_setCell u b j v).block m h.lt (by simpa using fun e => hb e.symm))
theorem Am.ne {u : World} {m b : Nat} {al : Ar} {cs : Array Value} {T : TypeId} {z : Nat × Nat} (h : Am u m al) (hb : u.heap[b]? = some (.cells cs T z)) : b ≠ m := by
  rintro rfl
  obtain ⟨es, clock, h, _⟩ := h
  rw [hb] at h
  cases h
theorem Sb.set {w u : World} {b rb : Nat} {cs : Array Value} {am : Option Nat} {al : Ar} {f : Ft} (h : Sb w u b rb cs am al f) (j : Nat) (v : Value) : Sb w (u.setCell ⟨b, j, none⟩ v) b rb (cs.setIfInBounds j v) am al f := by
  have g := grown_setCell u b j v
  refine ⟨heap_setCell_same _ _ _ _ _ _ h.box, ?_, fun m e => ((h.arm m e)).setCell ((h.arm m e).ne h.box), h.but.trans (But.of_grownBy g fun k e => by cases e; exact .inl rfl), h.lo⟩
  rw [g.block rb (heap_lt h.ans) (by simpa using fun e => h.ne e.symm)]
  exact h.ans
theorem Sb.start {w : World} {b : Nat} {cs : Array Value} {am : Option Nat} {al : Ar} (hb : w.heap[b]? = some (.cells cs TD (0, 0))) (hm : ∀ m, am = some m → Am w m al) :
    Sb w (w.alloc (.cells #[.int .i64 0, .int .i64 0, .int .i64 0] 118)) b w.heap.size cs am al zf := by
  have hB := (Below.refl _ w).alloc (Nat.le_refl _) (.cells #[.int .i64 0, .int .i64 0, .int .i64 0] 118)
  exact ⟨(hB.block b (heap_lt hb)).trans hb, heap_alloc_new _ _, fun m e => (hm m e).heap (hB.block m (hm m e).lt), But.of_below hB _, Nat.le_refl _⟩
theorem Sb.more {w u u' : World} {b rb : Nat} {cs : Array Value} {am : Option Nat} {al : Ar} {f : Ft} (h : Sb w u b rb cs am al f) (hB : Below u.heap.size u u') : Sb w u' b rb cs am al f :=
  ⟨(hB.block b (heap_lt h.box)).trans h.box, (hB.block rb (heap_lt h.ans)).trans h.ans, fun m e => (h.arm m e).heap (hB.block m (h.arm m e).lt), h.but.trans (But.of_below hB _), h.lo⟩
theorem Sb.cell {w u : World} {b rb : Nat} {cs : Array Value} {am : Option Nat} {al : Ar} {f : Ft} (h : Sb w u b rb cs am al f) (i : Nat) : u.cell? ⟨b, i, none⟩ = cs[i]? := by simp [World.cell?, h.box]
theorem Sb.frozen {w u : World} {b rb : Nat} {cs : Array Value} {am : Option Nat} {al : Ar} {f : Ft} (h : Sb w u b rb cs am al f) (i : Nat) : u.frozen? ⟨b, i, none⟩ = false := by simp [World.frozen?, h.box]
theorem Sb.put {w u : World} {b rb : Nat} {cs : Array Value} {am : Option Nat} {al : Ar} {g : Ft} (h : Sb w u b rb cs am al g) (f : Ft) :
    Sb w (((u.setCell ⟨rb, 0, none⟩ (.int .i64 f.1)).setCell ⟨rb, 1, none⟩ (.int .i64 f.2.1)).setCell ⟨rb, 2, none⟩ (.int .i64 f.2.2)) b rb cs am al f := by
  have g0 := grown_setCell u rb 0 (.int .i64 f.1)
  have g1 := grown_setCell (u.setCell ⟨rb, 0, none⟩ (.int .i64 f.1)) rb 1 (.int .i64 f.2.1)
  have g2 := grown_setCell ((u.setCell ⟨rb, 0, none⟩ (.int .i64 f.1)).setCell ⟨rb, 1, none⟩ (.int .i64 f.2.1)) rb 2 (.int .i64 f.2.2)
  have B := ((But.of_grownBy (X := fun k => k = rb) g0 fun k e => by cases e; rfl).trans (But.of_grownBy g1 fun k e => by cases e; rfl)).trans (But.of_grownBy g2 fun k e => by cases e; rfl)
  have z0 := heap_setCell_same u rb 0 _ _ (.int .i64 f.1) h.ans
  have z1 := heap_setCell_same _ rb 1 _ _ (.int .i64 f.2.1) z0
  have z2 := heap_setCell_same _ rb 2 _ _ (.int .i64 f.2.2) z1
  refine ⟨B.at h.box h.ne, by simpa using z2, fun m e => (h.arm m e).heap (B.block m (h.arm m e).lt (fun q => (h.arm m e).ne h.ans q.symm)), ?_, h.lo⟩
  have lo := h.lo
  exact ⟨B.os.trans h.but.os, B.tape.trans h.but.tape, B.output.trans h.but.output, Nat.le_trans h.but.size B.size, fun k hk hx => (B.block k (Nat.lt_of_lt_of_le hk h.but.size) (by omega)).trans (h.but.block k hk hx)⟩
theorem cells3 {w : World} {b : Nat} {a0 a1 a2 : Value} {T : TypeId} {z : Nat × Nat} (h : w.heap[b]? = some (.cells #[a0, a1, a2] T z)) : w.cell? ⟨b, 0, none⟩ = some a0 ∧ w.cell? ⟨b, 1, none⟩ = some a1 ∧ w.cell? ⟨b, 2, none⟩ = some a2 := by simp [World.cell?, h]
theorem frozen3 {w : World} {b : Nat} {a0 a1 a2 : Value} {T : TypeId} (h : w.heap[b]? = some (.cells #[a0, a1, a2] T (0, 0))) : w.frozen? ⟨b, 0, none⟩ = false ∧ w.frozen? ⟨b, 1, none⟩ = false ∧ w.frozen? ⟨b, 2, none⟩ = false := by simp [World.frozen?, h]
set_option maxHeartbeats 1000000 in
theorem begin_gen (w : World) (b j : Nat) (cs : Array Value) (c a : Int) (am : Option Nat) (al : Ar) (hb : w.heap[b]? = some (.cells cs TD (0, 0))) (hz : cs.size = 15) (hj : j < 7)
    (h1 : cs[6 + j]? = some (.int .i64 c)) (h2 : cs[13]? = some (.int .i64 a)) (h3 : cs[5]? = some (.map am)) (hm : ∀ m, am = some m → Am w m al) (hn : am = none → al = [])
    (c0 : 0 ≤ c) (c1 : c < 4611686018427387904) (a0 : 0 ≤ a) (a1 : a < 4611686018427387904) :
    Calls Tryz.prog 70 #[.pointer (some ⟨b, 0, none⟩), .pointer (some ⟨b, 6 + j, none⟩)] w fun e w' => e = .returned (fv ((aget al (a + 1)).getD zf)) ∧
      w'.heap[b]? = some (.cells ((cs.setIfInBounds (6 + j) (.int .i64 (c + 1))).setIfInBounds 13 (.int .i64 (a + 1))) TD (0, 0)) ∧ (∀ m, am = some m → Am w' m (adel al (a + 1))) ∧ But (fun k => k = b ∨ am = some k) w w' := by
  obtain ⟨f, hf⟩ : ∃ f, Hid ((aget al (a + 1)).getD zf = f) := ⟨_, rfl⟩
  rw [hf.out]
  have S0 := hide (Sb.start (am := am) hb hm)
  obtain ⟨u0, hu0⟩ : ∃ u0, Hid (w.alloc (.cells #[.int .i64 0, .int .i64 0, .int .i64 0] 118) = u0) := ⟨_, rfl⟩
  rw [hu0.out] at S0
  have k1 : u0.cell? ⟨b, 6 + j, none⟩ = some (.int .i64 c) := (S0.out.cell _).trans h1
  have k2 := S0.out.frozen (6 + j)
  replace hm := hide hm
  replace hb := hide hb
  replace hn := hide hn
  clear h1
  go_enter Tryz.func70, Tryz.ntmps70
  go_upto_region 1 with fail
  rw [hu0.out]
  go_upto_region 2 with fail
  have S1 := hide (S0.out.set (6 + j) (.int .i64 (c + 1)))
  generalize u0.setCell ⟨b, 6 + j, none⟩ (.int .i64 (c + 1)) = u1 at *
  obtain ⟨cs1, hc1⟩ : ∃ cs1, Hid (cs.setIfInBounds (6 + j) (.int .i64 (c + 1)) = cs1) := ⟨_, rfl⟩
  rw [hc1.out] at S1
  have g2 : cs1[13]? = some (.int .i64 a) := by rw [← hc1.out, Array.getElem?_setIfInBounds_ne (by omega)]; exact h2
  have g3 : cs1[5]? = some (.map am) := by rw [← hc1.out, Array.getElem?_setIfInBounds_ne (by omega)]; exact h3
  have g4 : cs1.size = 15 := by rw [← hc1.out]; simpa using hz
  have l1 : u1.cell? ⟨b, 13, none⟩ = some (.int .i64 a) := (S1.out.cell _).trans g2
  have l2 := S1.out.frozen 13
  clear k1 k2 S0 hu0 h2 h3 hz
  go_upto_region 3 with fail
  have S2 := hide (S1.out.set 13 (.int .i64 (a + 1)))
  generalize u1.setCell ⟨b, 13, none⟩ (.int .i64 (a + 1)) = u2 at *
  obtain ⟨cs2, hc2⟩ : ∃ cs2, Hid (cs1.setIfInBounds 13 (.int .i64 (a + 1)) = cs2) := ⟨_, rfl⟩
  rw [hc2.out] at S2
  have g5 : cs2[13]? = some (.int .i64 (a + 1)) := by rw [← hc2.out, Array.getElem?_setIfInBounds_self_of_lt (by omega)]
  have g6 : cs2[5]? = some (.map am) := by rw [← hc2.out, Array.getElem?_setIfInBounds_ne (by omega)]; exact g3
  have m1 : u2.cell? ⟨b, 13, none⟩ = some (.int .i64 (a + 1)) := (S2.out.cell _).trans g5
  have m2 : u2.cell? ⟨b, 5, none⟩ = some (.map am) := (S2.out.cell _).trans g6
  clear l1 l2 S1 g2 g3 g4
  have hG : ∀ q : World, (∀ m, am = some m → Am q m al) → (Instr.lookup 94 (.map am) (.int .i64 (a + 1)) false).run Tryz.prog q = .ok (.agg #[.int .i64 f.1, .int .i64 f.2.1, .int .i64 f.2.2]) q := by
    intro q hq
    cases am with
    | none => have := look_nilA q (n := a + 1) (by omega) (by omega); have hq := hf.out; rw [hn.out rfl] at hq; simp [aget] at hq; rw [← hq]; exact this
    | some m => have := (hq m rfl).look (n := a + 1) (by omega) (by omega); rw [hf.out] at this; exact this
  have L1 := hG u2.drew fun m e => S2.out.arm m e
  have L2 := hG (u2.alloc (.cells #[.int .i64 0, .int .i64 0, .int .i64 0] 118)).drew fun m e => (S2.out.arm m e).heap (by show (u2.alloc _).heap[m]? = _; exact Below.heap_alloc _ _ _ (S2.out.arm m e).lt)
  have n1 : (u2.alloc (.cells #[.int .i64 0, .int .i64 0, .int .i64 0] 118)).cell? ⟨b, 13, none⟩ = some (.int .i64 (a + 1)) := by rw [((Below.refl _ u2).alloc (Nat.le_refl _) _).cell (p := ⟨b, 13, none⟩) (lt_of_cell m1)]; exact m1
  have n2 : (u2.alloc (.cells #[.int .i64 0, .int .i64 0, .int .i64 0] 118)).cell? ⟨b, 5, none⟩ = some (.map am) := by rw [((Below.refl _ u2).alloc (Nat.le_refl _) _).cell (p := ⟨b, 5, none⟩) (lt_of_cell m2)]; exact m2
  replace hG := hide hG
  go_upto_region 3 with fail
  go_region
  all_goals
    have S3 : Hid (Sb w (u2.alloc (.cells #[.int .i64 f.1, .int .i64 f.2.1, .int .i64 f.2.2] 118)).drew b w.heap.size cs2 am al zf) := S2.out.more (((Below.refl _ u2).alloc (Nat.le_refl _) _).drew)
    have F3 : Hid ((u2.alloc (.cells #[.int .i64 f.1, .int .i64 f.2.1, .int .i64 f.2.2] 118)).drew.heap[u2.heap.size]? = some (.cells #[.int .i64 f.1, .int .i64 f.2.1, .int .i64 f.2.2] 118 (0, 0))) := heap_alloc_new u2 _
    have Z3 : Hid (w.heap.size < u2.heap.size) := heap_lt S2.out.ans
    generalize (u2.alloc (.cells #[.int .i64 f.1, .int .i64 f.2.1, .int .i64 f.2.2] 118)).drew = u3 at *
    have m3 : u3.cell? ⟨b, 13, none⟩ = some (.int .i64 (a + 1)) := (S3.out.cell _).trans g5
    have m4 : u3.cell? ⟨b, 5, none⟩ = some (.map am) := (S3.out.cell _).trans g6
    clear L1 L2 n1 n2 m1 m2 hG S2 g5 g6
    obtain ⟨u4, hD, S4, F4⟩ : ∃ u4, (Builtin.delete_ #[94, 2] 0 #[.map am, .int .i64 (a + 1)]).run Tryz.prog u3.drew = .ok (.tuple #[]) u4 ∧ Hid (Sb w u4 b w.heap.size cs2 am (adel al (a + 1)) zf) ∧ Hid (u4.heap[u2.heap.size]? = some (.cells #[.int .i64 f.1, .int .i64 f.2.1, .int .i64 f.2.2] 118 (0, 0))) := by
      cases am with
      | none => exact ⟨u3.drew, drop_nilA u3.drew (by omega) (by omega) 0, by have q := S3.out.more (Below.refl _ u3).drew; rw [hn.out rfl] at q ⊢; exact q, F3.out⟩
      | some m =>
        have hA : Am u3.drew m al := S3.out.arm m rfl
        obtain ⟨u4, hr, h4, ht⟩ := hA.drop (n := a + 1) (by omega) (by omega) 0
        refine ⟨u4, hr, ⟨?_, ?_, fun m' e => by cases e; exact h4, ?_, S3.out.lo⟩, ?_⟩
        · exact (turned_but ht).at (k := b) S3.out.box ((S3.out.arm m rfl).ne S3.out.box)
        · exact (turned_but ht).at (k := w.heap.size) S3.out.ans ((S3.out.arm m rfl).ne S3.out.ans)
        · exact (S3.out.more (Below.refl _ u3).drew).but.trans ((turned_but ht).mono fun k _ e => .inr (by rw [e]))
        · exact (turned_but ht).at (k := u2.heap.size) F3.out ((S3.out.arm m rfl).ne F3.out)
    go_upto_region 4 with fail
    go_region
    obtain ⟨x0, x1, x2⟩ := cells3 F4.out
    obtain ⟨y0, y1, y2⟩ := cells3 S4.out.ans
    obtain ⟨r0, r1, r2⟩ := frozen3 S4.out.ans
    go_wp2_with fail
    have S5 := hide (S4.out.put f)
    generalize ((u4.setCell ⟨w.heap.size, 0, none⟩ (.int .i64 f.1)).setCell ⟨w.heap.size, 1, none⟩ (.int .i64 f.2.1)).setCell ⟨w.heap.size, 2, none⟩ (.int .i64 f.2.2) = u5 at *
    clear x0 x1 x2 y0 y1 y2 r0 r1 r2 S4 F4
    obtain ⟨x0, x1, x2⟩ := cells3 S5.out.ans
    refine bodyPost_ret (v := fv f) (by simp [results, Tryz.results70, go_sem, x0, x1, x2]; try rfl) rfl ?_
    exact ⟨rfl, by rw [hc1.out, hc2.out]; exact S5.out.box, S5.out.arm, S5.out.but⟩
def strF (k : Int) : Int := if k = 1 then 20 else if k = 2 then 21 else if k = 3 then 22 else 0
def strC (k : Int) (cs : Array Value) : Array Value := if k = 3 then cs.setIfInBounds 1 (.bool false) else cs
theorem strike_any (w : World) (b : Nat) (cs : Array Value) (f : Ft) (hb : w.heap[b]? = some (.cells cs TD (0, 0))) (h1 : ∃ u, cs[1]? = some u) (hk : f.2.1 ≠ 4) :
    Calls Tryz.prog 69 #[.pointer (some ⟨b, 0, none⟩), fv f] w fun e w' => e = .returned (.int .i64 (strF f.2.1)) ∧ w'.heap[b]? = some (.cells (strC f.2.1 cs) TD (0, 0)) ∧ But (fun k => k = b) w w' := by
  obtain ⟨a, k, p⟩ := f
  obtain ⟨u, h1⟩ := h1
  dsimp only at hk ⊢
  have hB := hide ((Below.refl _ w).alloc (Nat.le_refl _) (.cells #[.int .i64 a, .int .i64 k, .int .i64 p] 118))
  have hN : Hid ((w.alloc (.cells #[.int .i64 a, .int .i64 k, .int .i64 p] 118)).heap[w.heap.size]? = some (.cells #[.int .i64 a, .int .i64 k, .int .i64 p] 118 (0, 0))) := heap_alloc_new _ _
  obtain ⟨w1, hw1⟩ : ∃ w1, Hid (w.alloc (.cells #[.int .i64 a, .int .i64 k, .int .i64 p] 118) = w1) := ⟨_, rfl⟩
  rw [hw1.out] at hB hN
  have hb1 : w1.heap[b]? = some (.cells cs TD (0, 0)) := (hB.out.block b (heap_lt hb)).trans hb
  obtain ⟨x0, x1, x2⟩ := cells3 hN.out
  have y1 : w1.cell? ⟨b, 1, none⟩ = some u := by simp [World.cell?, hb1, h1]
  have y2 : w1.frozen? ⟨b, 1, none⟩ = false := by simp [World.frozen?, hb1]
  have hG := hide (But.of_grownBy (X := fun k => k = b) (grown_setCell w1 b 1 (.bool false)) fun k e => by cases e; rfl)
  have hC := hide (heap_setCell_same w1 b 1 _ _ (.bool false) hb1)
  replace hb1 := hide hb1
  unfold fv
  dsimp only
  obtain ⟨E, hE⟩ : ∃ E, Hid (strF k = E) := ⟨_, rfl⟩
  obtain ⟨C, hC0⟩ : ∃ C, Hid (strC k cs = C) := ⟨_, rfl⟩
  rw [hE.out, hC0.out]
  clear hb h1
  by_cases k1 : k = 1
  · subst k1
    go_enter Tryz.func69, Tryz.ntmps69
    go_upto_region 1 with fail
    rw [hw1.out]
    go_wp2_with fail
    go_ret
    exact ⟨by rw [← hE.out]; rfl, by rw [← hC0.out]; exact hb1.out, But.of_below hB.out _⟩
  have k1' : (k == 1) = false := by simpa using k1
  by_cases k2 : k = 2
  · subst k2
    go_enter Tryz.func69, Tryz.ntmps69
    go_upto_region 1 with fail
    rw [hw1.out]
    go_wp2_with fail
    go_ret
    exact ⟨by rw [← hE.out]; rfl, by rw [← hC0.out]; exact hb1.out, But.of_below hB.out _⟩
  have k2' : (k == 2) = false := by simpa using k2
  by_cases k3 : k = 3
  · subst k3
    go_enter Tryz.func69, Tryz.ntmps69
    go_upto_region 1 with fail
    rw [hw1.out]
    go_wp2_with fail
    go_ret
    exact ⟨by rw [← hE.out]; rfl, by rw [← hC0.out]; exact hC.out, (But.of_below hB.out _).trans hG.out⟩
  have k3' : (k == 3) = false := by simpa using k3
  have k4' : (k == 4) = false := by simpa using hk
  have e1 : Hid (E = 0) := by show _ = _; rw [← hE.out]; simp [strF, k1, k2, k3]
  have e2 : Hid (C = cs) := by show _ = _; rw [← hC0.out]; simp [strC, k3]
  clear hE hC0
  go_enter Tryz.func69, Tryz.ntmps69
  go_upto_region 1 with fail
  rw [hw1.out]
  go_wp2_with fail
  go_ret
  exact ⟨by rw [e1.out]; rfl, by rw [e2.out]; exact hb1.out, But.of_below hB.out _⟩
def strR (k : Int) : Int := if k = 2 then 0 else strF k
theorem strikeRoomless_any (w : World) (b : Nat) (cs : Array Value) (f : Ft) (hb : w.heap[b]? = some (.cells cs TD (0, 0))) (h1 : ∃ u, cs[1]? = some u) (hk : f.2.1 ≠ 4) :
    Calls Tryz.prog 73 #[.pointer (some ⟨b, 0, none⟩), fv f] w fun e w' => e = .returned (.int .i64 (strR f.2.1)) ∧ w'.heap[b]? = some (.cells (strC f.2.1 cs) TD (0, 0)) ∧ But (fun k => k = b) w w' := by
  have hB := hide ((Below.refl _ w).alloc (Nat.le_refl _) (.cells #[.int .i64 f.1, .int .i64 f.2.1, .int .i64 f.2.2] 118))
  have hN : Hid ((w.alloc (.cells #[.int .i64 f.1, .int .i64 f.2.1, .int .i64 f.2.2] 118)).heap[w.heap.size]? = some (.cells #[.int .i64 f.1, .int .i64 f.2.1, .int .i64 f.2.2] 118 (0, 0))) := heap_alloc_new _ _
  obtain ⟨w1, hw1⟩ : ∃ w1, Hid (w.alloc (.cells #[.int .i64 f.1, .int .i64 f.2.1, .int .i64 f.2.2] 118) = w1) := ⟨_, rfl⟩
  rw [hw1.out] at hB hN
  have hb1 : w1.heap[b]? = some (.cells cs TD (0, 0)) := (hB.out.block b (heap_lt hb)).trans hb
  have hS := strike_any w1 b cs f hb1 h1 hk
  unfold fv at hS ⊢
  obtain ⟨a, k, p⟩ := f
  dsimp only at *
  obtain ⟨x0, x1, x2⟩ := cells3 hN.out
  replace hb1 := hide hb1
  by_cases k2 : k = 2
  · subst k2
    clear hS hb
    go_enter Tryz.func73, Tryz.ntmps73
    go_upto_region 1 with fail
    rw [hw1.out]
    go_wp2_with fail
    go_ret
    exact ⟨rfl, hb1.out, But.of_below hB.out _⟩
  have k2' : (k == 2) = false := by simpa using k2
  obtain ⟨E, hE⟩ : ∃ E, Hid (strF k = E) := ⟨_, rfl⟩
  have hR : Hid (strR k = E) := by show _ = _; rw [← hE.out]; simp [strR, k2]
  rw [hR.out]
  rw [hE.out] at hS
  clear hb
  go_enter Tryz.func73, Tryz.ntmps73
  go_upto_region 1 with fail
  rw [hw1.out]
  go_wp2_with (go_at_call 69; refine hS.mono ?_; rintro e w2 ⟨rfl, hc, hbt⟩; replace hc := hide hc; replace hbt := hide hbt)
  go_ret
  exact ⟨rfl, hc.out, (But.of_below hB.out _).trans hbt.out⟩
theorem eqlM (w : World) (r : Option Nat) : (binOp .eql 92 (.map r) (.map none)).run Tryz.prog w = .ok (.bool r.isNone) w := run_eql_map_nil w _ _ _ r Tryz.underlying92
theorem eqlA (w : World) (r : Option Nat) : (binOp .eql 94 (.map r) (.map none)).run Tryz.prog w = .ok (.bool r.isNone) w := run_eql_map_nil w _ _ _ r Tryz.underlying94
theorem run_clone {r : Nat} {es : Array MapEntry} {clock : Nat} (w : World) (t : TypeId) (hb : w.heap[r]? = some (.map es clock)) :
    (callFunc 115 #[.iface t (.map (some r))]).run Tryz.prog w = .ok (.value (.iface t (.map (some w.heap.size)))) (w.alloc (.map es clock)) := by
  have e : Extern.MapsClone.clone #[.iface t (.map (some r))] = (getObj r >>= fun o => match o with
      | .map entries clock => (newObj (.map entries clock) >>= fun n => pure (.iface t (.map (some n))))
      | _ => stuck "maps.clone: a map expected") := rfl
  rw [run_callFunc_extern Tryz.func115 (by kernel_rfl) (by kernel_rfl) (by kernel_rfl) (e := Extern.MapsClone.clone) (by kernel_rfl), e]
  simp [MapKept.run_getObj_map hb, Result.andThen, go_sem]
theorem run_assertM (w : World) (t xT k e : TypeId) (v : Value) (h : Tryz.prog.underlying t = some (.map k e)) : (Instr.typeAssert (.iface t v) xT t false).run Tryz.prog w = .ok v w := by
  simp [Instr.typeAssert, run_underlying h, go_sem, Result.andThen]
theorem clone_mp (w : World) (m : Nat) (l : Dr) (h : Mp w m l) : Calls Tryz.prog 106 #[.map (some m)] w fun e w' => e = .returned (.map (some w.heap.size)) ∧ Mp w' w.heap.size l ∧ Below w.heap.size w w' := by
  have qT := eqlM
  obtain ⟨es, clock, hb, F, hs, hD⟩ := h
  have hE := run_clone w 92 hb
  have hA := run_assertM (w.alloc (.map es clock)) 92 20 _ _ (.map (some w.heap.size)) Tryz.underlying92
  have hB := hide ((Below.refl _ w).alloc (Nat.le_refl _) (.map es clock))
  have hM : Hid (Mp (w.alloc (.map es clock)) w.heap.size l) := ⟨es, clock, heap_alloc_new _ _, F, hs, hD⟩
  clear hb F hs hD
  go_enter Tryz.func106, Tryz.ntmps106
  go_wp2_with fail
  go_ret
  exact ⟨rfl, hM.out, hB.out⟩
theorem clone_am (w : World) (m : Nat) (l : Ar) (h : Am w m l) : Calls Tryz.prog 93 #[.map (some m)] w fun e w' => e = .returned (.map (some w.heap.size)) ∧ Am w' w.heap.size l ∧ Below w.heap.size w w' := by
  have qT := eqlA
  obtain ⟨es, clock, hb, F, hs, hD⟩ := h
  have hE := run_clone w 94 hb
  have hA := run_assertM (w.alloc (.map es clock)) 94 20 _ _ (.map (some w.heap.size)) Tryz.underlying94
  have hB := hide ((Below.refl _ w).alloc (Nat.le_refl _) (.map es clock))
  have hM : Hid (Am (w.alloc (.map es clock)) w.heap.size l) := ⟨es, clock, heap_alloc_new _ _, F, hs, hD⟩
  clear hb F hs hD
  go_enter Tryz.func93, Tryz.ntmps93
  go_wp2_with fail
  go_ret
  exact ⟨rfl, hM.out, hB.out⟩
theorem clone_nilA (w : World) : Calls Tryz.prog 93 #[.map none] w fun e w' => e = .returned (.map none) ∧ w' = w := by
  have qT := eqlA
  go_enter Tryz.func93, Tryz.ntmps93
  go_wp2_with fail
  go_ret
  exact ⟨rfl, rfl⟩
theorem Mp.ne {u : World} {m b : Nat} {l : Dr} {cs : Array Value} {T : TypeId} {z : Nat × Nat} (h : Mp u m l) (hb : u.heap[b]? = some (.cells cs T z)) : b ≠ m := by
  rintro rfl
  obtain ⟨es, clock, h, _⟩ := h
  rw [hb] at h
  cases h
theorem Mp.but {X : Nat → Prop} {A B : World} {m : Nat} {l : Dr} (h : Mp A m l) (hb : But X A B) (hx : ¬ X m) : Mp B m l := h.heap (hb.block m h.lt hx)
theorem Am.but {X : Nat → Prop} {A B : World} {m : Nat} {l : Ar} (h : Am A m l) (hb : But X A B) (hx : ¬ X m) : Am B m l := h.heap (hb.block m h.lt hx)
def newC (most : Int) (f g : Nat) : Array Value := dcells ⟨most, true, some f, some g, .slice none 0 0, none, 0, 0, 0, 0, 0, 0, 0, 0, 0⟩
theorem new_any (w : World) (most : Int) (h0 : -9223372036854775808 ≤ most) (h1 : most ≤ 9223372036854775807) :
    Calls Tryz.prog 9 #[.int .i64 most] w fun e w' => Below w.heap.size w w' ∧ ((¬ (0 ≤ most ∧ most ≤ 16777216) ∧ e = .returned (.pointer none) ∧ w' = w) ∨
      (0 ≤ most ∧ most ≤ 16777216 ∧ e = .returned (.pointer (some ⟨w.heap.size + 2, 0, none⟩)) ∧ w'.heap[w.heap.size + 2]? = some (.cells (newC most w.heap.size (w.heap.size + 1)) TD (0, 0)) ∧ Mp w' w.heap.size [] ∧ Mp w' (w.heap.size + 1) [])) := by
  by_cases h2 : 0 ≤ most ∧ most ≤ 16777216
  · obtain ⟨g1, g2⟩ := h2
    have hmm := @run_makeMap Tryz.prog
    have n1 : ¬ most < 0 := by omega
    have n2 : ¬ 16777216 < most := by omega
    obtain ⟨u, hu⟩ : ∃ u, Hid (((w.alloc (.map #[] 0)).alloc (.map #[] 0)).alloc (.cells (newC most w.heap.size (w.heap.size + 1)) TD) = u) := ⟨_, rfl⟩
    have hB1 := (Below.refl _ w).alloc (Nat.le_refl _) (.map #[] 0)
    have hB2 := (Below.refl _ (w.alloc (.map #[] 0))).alloc (Nat.le_refl _) (.map #[] 0)
    have hB3 := (Below.refl _ ((w.alloc (.map #[] 0)).alloc (.map #[] 0))).alloc (Nat.le_refl _) (.cells (newC most w.heap.size (w.heap.size + 1)) TD)
    have m1 := Mp.made w
    have m2 := Mp.made (w.alloc (.map #[] 0))
    have n3 := heap_alloc_new ((w.alloc (.map #[] 0)).alloc (.map #[] 0)) (.cells (newC most w.heap.size (w.heap.size + 1)) TD)
    have e1 : (w.alloc (.map #[] 0)).heap.size = w.heap.size + 1 := by simp
    have e2 : ((w.alloc (.map #[] 0)).alloc (.map #[] 0)).heap.size = w.heap.size + 2 := by simp
    rw [e1] at m2
    rw [e2, hu.out] at n3
    have k1 : Mp u w.heap.size [] := by rw [← hu.out]; exact (m1.heap (hB2.block _ (by omega))).heap (hB3.block _ (by omega))
    have k2 : Mp u (w.heap.size + 1) [] := by rw [← hu.out]; exact m2.heap (hB3.block _ (by omega))
    have k3 : Below w.heap.size w u := by rw [← hu.out]; exact (hB1.trans (hB2.mono (by omega))).trans (hB3.mono (by omega))
    have K := hide (And.intro n3 (And.intro k1 (And.intro k2 k3)))
    clear n3 k1 k2 k3 m1 m2 hB1 hB2 hB3 e1 e2
    go_enter Tryz.func9, Tryz.ntmps9
    go_wp2_with fail
    go_ret
    obtain ⟨k0, k1, k2, k3⟩ := K.out
    rw [← hu.out] at k0 k1 k2 k3
    exact ⟨k3, rfl, k0, k1, k2⟩
  · go_enter Tryz.func9, Tryz.ntmps9
    by_cases g1 : most < 0
    · go_wp2_with fail
      go_ret
      exact ⟨Below.refl _ _, by first | exact .inl ⟨h2, rfl, rfl⟩ | exact .inl ⟨rfl, rfl⟩ | exact .inl rfl⟩
    · have g2 : 16777216 < most := by omega
      go_wp2_with fail
      go_ret
      exact ⟨Below.refl _ _, by first | exact .inl ⟨h2, rfl, rfl⟩ | exact .inl ⟨rfl, rfl⟩ | exact .inl rfl⟩
theorem settle_any (w : World) (b m : Nat) (cs : Array Value) (l : Dr) (hb : w.heap[b]? = some (.cells cs TD (0, 0))) (hz : cs.size = 15) (h2 : cs[2]? = some (.map (some m))) (hm : Mp w m l) :
    Calls Tryz.prog 74 #[.pointer (some ⟨b, 0, none⟩)] w fun e w' => e = .returned (.tuple #[]) ∧ ∃ m', w.heap.size ≤ m' ∧ Mp w' m' l ∧
      w'.heap[b]? = some (.cells ((cs.setIfInBounds 3 (.map (some m'))).setIfInBounds 4 (.slice none 0 0)) TD (0, 0)) ∧ But (fun k => k = b) w w' := by
  have c2 : w.cell? ⟨b, 2, none⟩ = some (.map (some m)) := by simp [World.cell?, hb, h2]
  have hC := clone_mp w m l hm
  replace hb := hide hb
  clear hm
  go_enter Tryz.func74, Tryz.ntmps74
  go_wp2_with (go_at_call 106; refine hC.mono ?_; rintro e w1 ⟨rfl, M1, B1⟩; replace M1 := hide M1; replace B1 := hide B1; have b1 : Hid (w1.heap[b]? = some (.cells cs TD (0, 0))) := (B1.out.block b (heap_lt hb.out)).trans hb.out; have d3 : w1.cell? ⟨b, 3, none⟩ = some (cs.getD 3 undef) := (by simp [World.cell?, b1.out, hz]); have f3 : w1.frozen? ⟨b, 3, none⟩ = false := (by simp [World.frozen?, b1.out]); have b2 := hide (heap_setCell_same w1 b 3 _ _ (.map (some w.heap.size)) b1.out); have d4 : (w1.setCell ⟨b, 3, none⟩ (.map (some w.heap.size))).cell? ⟨b, 4, none⟩ = some (cs.getD 4 undef) := (by simp [World.cell?, b2.out, hz]); have f4 : (w1.setCell ⟨b, 3, none⟩ (.map (some w.heap.size))).frozen? ⟨b, 4, none⟩ = false := (by simp [World.frozen?, b2.out]))
  have b3 := hide (heap_setCell_same _ b 4 _ _ (.slice none 0 0) b2.out)
  have g3 := But.of_grownBy (X := fun k => k = b) (grown_setCell w1 b 3 (.map (some w.heap.size))) fun k e => by cases e; rfl
  have g4 := But.of_grownBy (X := fun k => k = b) (grown_setCell (w1.setCell ⟨b, 3, none⟩ (.map (some w.heap.size))) b 4 (.slice none 0 0)) fun k e => by cases e; rfl
  go_end0
  exact ⟨rfl, w.heap.size, Nat.le_refl _, (M1.out.but (g3.trans g4) (fun e => M1.out.ne b1.out e.symm)), b3.out, (But.of_below B1.out _).trans (g3.trans g4)⟩
inductive Ch where
  | cr (n : ByteArray) (p : Nat)
  | rn (f t : ByteArray)
  | rm (n : ByteArray)
def Ch.val : Ch → Value
  | .cr n p => .agg #[.string n, .pointer (some ⟨p, 0, none⟩)]
  | .rn f t => .agg #[.string f, .string t]
  | .rm n => .agg #[.string n]
def Ch.ty : Ch → TypeId
  | .cr _ _ => 126
  | .rn _ _ => 158
  | .rm _ => 160
def Ch.ok : Ch → Prop
  | .cr n _ => n.size ≤ maxLen
  | .rn f t => f.size ≤ maxLen ∧ t.size ≤ maxLen
  | .rm n => n.size ≤ maxLen
def Ch.run (l : Dr) : Ch → Dr
  | .cr n p => dput l n.data.toList p
  | .rn f t => match get l f.data.toList with | some p => ddel (dput l t.data.toList p) f.data.toList | none => l
  | .rm n => ddel l n.data.toList
theorem doC_any (w : World) (m : Nat) (l : Dr) (n : ByteArray) (p : Nat) (hm : Mp w m l) (hn : n.size ≤ maxLen) (hl : l.length < maxLen) :
    Calls Tryz.prog 162 #[.agg #[.string n, .pointer (some ⟨p, 0, none⟩)], .map (some m)] w fun e w' => e = .returned (.tuple #[]) ∧ Mp w' m (dput l n.data.toList p) ∧ But (fun k => k = m) w w' := by
  have hB := hide ((Below.refl _ w).alloc (Nat.le_refl _) (.cells #[.string n, .pointer (some ⟨p, 0, none⟩)] 126))
  have m1 : Mp (w.alloc (.cells #[.string n, .pointer (some ⟨p, 0, none⟩)] 126)) m l := hm.heap (hB.out.block m hm.lt)
  obtain ⟨w2, hU, m2, ht⟩ := m1.store (s := n) (p := p) hn hl
  unfold TM at hU
  have k2 := hide (turned_but ht)
  replace m2 := hide m2
  clear m1 ht hm
  go_enter Tryz.func162, Tryz.ntmps162
  go_wp2_with fail
  go_end0
  exact ⟨rfl, m2.out, (But.of_below hB.out _).trans k2.out⟩
theorem doX_any (w : World) (m : Nat) (l : Dr) (n : ByteArray) (hm : Mp w m l) (hn : n.size ≤ maxLen) :
    Calls Tryz.prog 166 #[.agg #[.string n], .map (some m)] w fun e w' => e = .returned (.tuple #[]) ∧ Mp w' m (ddel l n.data.toList) ∧ But (fun k => k = m) w w' := by
  have hB := hide ((Below.refl _ w).alloc (Nat.le_refl _) (.cells #[.string n] 160))
  have m1 : Mp (w.alloc (.cells #[.string n] 160)) m l := hm.heap (hB.out.block m hm.lt)
  obtain ⟨w2, hU, m2, ht⟩ := m1.drop (s := n) hn 0
  unfold TM TS at hU
  have k2 := hide (turned_but ht)
  replace m2 := hide m2
  clear m1 ht hm
  go_enter Tryz.func166, Tryz.ntmps166
  go_wp2_with fail
  go_end0
  exact ⟨rfl, m2.out, (But.of_below hB.out _).trans k2.out⟩
theorem doN_any (w : World) (m p : Nat) (l : Dr) (f t : ByteArray) (hm : Mp w m l) (hf : f.size ≤ maxLen) (ht : t.size ≤ maxLen) (hl : l.length < maxLen) (hg : get l f.data.toList = some p) :
    Calls Tryz.prog 164 #[.agg #[.string f, .string t], .map (some m)] w fun e w' => e = .returned (.tuple #[]) ∧ Mp w' m (ddel (dput l t.data.toList p) f.data.toList) ∧ But (fun k => k = m) w w' := by
  have hB := hide ((Below.refl _ w).alloc (Nat.le_refl _) (.cells #[.string f, .string t] 158))
  have hN := hide (heap_alloc_new w (.cells #[.string f, .string t] 158))
  obtain ⟨w1, hw1⟩ : ∃ w1, Hid (w.alloc (.cells #[.string f, .string t] 158) = w1) := ⟨_, rfl⟩
  rw [hw1.out] at hB hN
  have m1 : Mp w1 m l := hm.heap (hB.out.block m hm.lt)
  have hL := m1.look hf hg
  obtain ⟨w2, hU, m2, t2⟩ := m1.store (s := t) (p := p) ht hl
  have n2 : w2.heap[w.heap.size]? = some (.cells #[.string f, .string t] 158) := (turned_but t2).at hN.out (m1.ne hN.out)
  obtain ⟨w3, hD, m3, t3⟩ := m2.drop (s := f) hf 0
  have x0 : w1.cell? ⟨w.heap.size, 0, none⟩ = some (.string f) := by simp [World.cell?, hN.out]
  have x1 : w1.cell? ⟨w.heap.size, 1, none⟩ = some (.string t) := by simp [World.cell?, hN.out]
  have y0 : w2.cell? ⟨w.heap.size, 0, none⟩ = some (.string f) := by simp [World.cell?, n2]
  have K := hide (((But.of_below hB.out (fun k => k = m)).trans (turned_but t2)).trans (turned_but t3))
  replace m3 := hide m3
  unfold TM at hL hU hD
  unfold TS at hD
  clear m1 m2 t2 t3 n2 hm hg
  go_enter Tryz.func164, Tryz.ntmps164
  go_upto_region 1 with fail
  rw [hw1.out]
  go_wp2_with fail
  go_end0
  exact ⟨rfl, m3.out, K.out⟩
def Ch.fn : Ch → Nat
  | .cr _ _ => 162
  | .rn _ _ => 164
  | .rm _ => 166
def Ch.can (l : Dr) : Ch → Prop
  | .rn f _ => (get l f.data.toList).isSome = true
  | _ => True
theorem do_any (w : World) (m : Nat) (l : Dr) (c : Ch) (hm : Mp w m l) (hc : c.ok) (hk : c.can l) (hl : l.length < maxLen) :
    Calls Tryz.prog c.fn #[c.val, .map (some m)] w fun e w' => e = .returned (.tuple #[]) ∧ Mp w' m (c.run l) ∧ But (fun k => k = m) w w' := by
  cases c with
  | cr n p => exact doC_any w m l n p hm hc hl
  | rm n => exact doX_any w m l n hm hc
  | rn f t =>
    obtain ⟨p, hp⟩ := Option.isSome_iff_exists.1 (show (get l f.data.toList).isSome = true from hk)
    have := doN_any w m p l f t hm hc.1 hc.2 hl hp
    simp only [Ch.run, hp]
    exact this
def wthn (n : Int) (m : Nat) : Nat := min n.toNat m
theorem within_any (w : World) (n : Int) (m : Nat) (h0 : -9223372036854775808 ≤ n) (h1 : n ≤ 9223372036854775807) (hm : (m : Int) ≤ 9223372036854775807) :
    Calls Tryz.prog 108 #[.int .i64 n, .int .i64 (m : Int)] w fun e w' => e = .returned (.int .i64 (wthn n m : Int)) ∧ w' = w := by
  obtain ⟨E, hE⟩ : ∃ E : Nat, Hid (wthn n m = E) := ⟨_, rfl⟩
  rw [hE.out]
  have hq := hE.out
  unfold wthn at hq
  go_enter Tryz.func108, Tryz.ntmps108
  go_wp2_with fail
  all_goals
    go_ret
    refine ⟨?_, rfl⟩
    show Ending.returned (Value.int .i64 _) = _
    congr 2
    omega
def Ch.iface (c : Ch) : Value := .iface c.ty c.val
def Cans : Dr → List Ch → Prop
  | _, [] => True
  | l, c :: r => c.can l ∧ Cans (c.run l) r
def runs (l : Dr) (P : List Ch) : Dr := P.foldl Ch.run l
theorem runs_snoc (l : Dr) (P : List Ch) (c : Ch) : runs l (P ++ [c]) = c.run (runs l P) := by simp [runs]
theorem cans_at {l : Dr} : ∀ {P : List Ch}, Cans l P → ∀ i (h : i < P.length), (P[i]).can (runs l (P.take i)) := by
  intro P
  induction P generalizing l with
  | nil => intro _ i h; simp at h
  | cons c r ih =>
    intro hP i h
    match i with
    | 0 => exact hP.1
    | i + 1 => simpa [runs] using ih hP.2 i (by simpa using h)
theorem dins_len (x : List UInt8 × Nat) (l : Dr) : (dins x l).length = l.length + 1 := by
  induction l with
  | nil => rfl
  | cons y r ih => unfold dins; split <;> simp [ih]
theorem run_len (l : Dr) (c : Ch) : (c.run l).length ≤ l.length + 1 := by
  have hd : ∀ (l : Dr) n, (ddel l n).length ≤ l.length := fun l n => List.length_filter_le _ _
  have hp : ∀ (l : Dr) n p, (dput l n p).length ≤ l.length + 1 := fun l n p => by have := hd l n; rw [dput, dins_len]; omega
  cases c with
  | cr n p => exact hp _ _ _
  | rm n => exact Nat.le_trans (hd _ _) (by omega)
  | rn f t =>
    show List.length (match get l f.data.toList with | some p => ddel (dput l t.data.toList p) f.data.toList | none => l) ≤ _
    split
    · exact Nat.le_trans (hd _ _) (hp _ _ _)
    · omega
theorem runs_len (l : Dr) (P : List Ch) : (runs l P).length ≤ l.length + P.length := by
  induction P generalizing l with
  | nil => simp [runs]
  | cons c r ih => have := ih (c.run l); have := run_len l c; simp only [runs, List.foldl_cons, List.length_cons] at *; omega
theorem disp_any (c : Ch) : (∀ q, (method 325 c.ty c.val "flume/disk.do").run Tryz.prog q = .ok (c.fn, c.val) q) ∧ (∀ a q, (callFunc c.fn a).run Tryz.prog q = .ok (.enter c.fn a) q) := by
  cases c with
  | cr n p => exact ⟨fun q => by kernel_rfl, fun a q => by kernel_rfl⟩
  | rn f t => exact ⟨fun q => by kernel_rfl, fun a q => by kernel_rfl⟩
  | rm n => exact ⟨fun q => by kernel_rfl, fun a q => by kernel_rfl⟩
theorem Mp.turned {w u u' : World} {m : Nat} (hB : Below w.heap.size w u) (h : But (fun k => k = m) u u') (hm : w.heap.size ≤ m) : Below w.heap.size w u' :=
  ⟨h.os.trans hB.os, h.tape.trans hB.tape, h.output.trans hB.output, Nat.le_trans hB.size h.size, fun k hk => (h.block k (Nat.lt_of_lt_of_le hk hB.size) (by omega)).trans (hB.block k hk)⟩
set_option maxHeartbeats 1000000 in
theorem directory_any (w : World) (b m : Nat) (cs : Array Value) (l : Dr) (P : List Ch) (pd : Value) (n : Int) (hb : w.heap[b]? = some (.cells cs TD (0, 0))) (h3 : cs[3]? = some (.map (some m))) (h4 : cs[4]? = some pd)
    (hm : Mp w m l) (hp : Row w pd (P.map Ch.iface)) (hok : ∀ c ∈ P, c.ok) (hcan : Cans l P) (hlen : l.length + P.length < maxLen) (n0 : -9223372036854775808 ≤ n) (n1 : n ≤ 9223372036854775807) :
    Calls Tryz.prog 80 #[.pointer (some ⟨b, 0, none⟩), .int .i64 n] w fun e w' => e = .returned (.map (some w.heap.size)) ∧ Mp w' w.heap.size (runs l (P.take (wthn n P.length))) ∧ Below w.heap.size w w' := by
  obtain ⟨N, hN⟩ : ∃ N, Hid (P.length = N) := ⟨_, rfl⟩
  rw [hN.out]
  obtain ⟨ao, ca, rfl, ha, p1, p2, p3⟩ := hp
  rw [List.length_map] at *
  rw [hN.out] at p1
  have c3 : w.cell? ⟨b, 3, none⟩ = some (.map (some m)) := by simp [World.cell?, hb, h3]
  have c4 : w.cell? ⟨b, 4, none⟩ = some (.slice ao P.length ca) := by simp [World.cell?, hb, h4]
  rw [hN.out] at c4
  have N1 : (N : Int) ≤ 9223372036854775807 := by unfold maxLen at p2; omega
  have N2 : (ca : Int) ≤ 9223372036854775807 := by unfold maxLen at p2; omega
  have hC := clone_mp w m l hm
  obtain ⟨K, hK⟩ : ∃ K, Hid (wthn n N = K) := ⟨_, rfl⟩
  have K1 : K ≤ N := by rw [← hK.out]; unfold wthn; omega
  have hW := fun q => within_any q n N n0 n1 N1
  rw [hK.out] at hW ⊢
  replace p3 := hide p3
  replace hok := hide hok
  replace hcan := hide hcan
  replace hlen := hide hlen
  replace hW := hide hW
  clear hm hb h3 h4 ha
  go_enter Tryz.func80, Tryz.ntmps80
  go_upto_region 2 with (go_at_call 106; refine hC.mono ?_; rintro e w1 ⟨rfl, M1, B1⟩; replace M1 := hide M1; replace B1 := hide B1)
  have d4 : w1.cell? ⟨b, 4, none⟩ = some (.slice ao N ca) := by rw [B1.out.cell (p := ⟨b, 4, none⟩) (lt_of_cell c4)]; exact c4
  clear hC c3 c4
  go_quiet ((go_at_call 108; exact Calls.quiet_of_same (hW.out _)))
  have Q1 : Hid (Mp (w1.drewN nq) w.heap.size (runs l (P.take 0)) ∧ Below w.heap.size w (w1.drewN nq)) := ⟨M1.out, B1.out.trans (Qt.below ⟨nq, rfl⟩ _)⟩
  generalize w1.drewN nq = w2 at *
  clear d4 M1 B1 hW
  go_wp2_with fail
  go_loopw [26] (fun i wr => ∃ k : Nat, i = .int .i64 k ∧ k ≤ K ∧ Hid (Mp wr w.heap.size (runs l (P.take k)) ∧ Below w.heap.size w wr)) (fun i _ => K - (intOf i).toNat)
  case atStart => exact ⟨0, rfl, Nat.zero_le _, Q1.out⟩
  case round =>
    obtain ⟨k, rfl, hk, hQ⟩ := hrel
    by_cases hlt : k < K
    · have i1 : (k : Int) < (K : Int) := by omega
      have hkl : k < P.length := by rw [hN.out]; omega
      obtain ⟨g, off, rfl, hc⟩ := p3.out k (by rw [List.length_map]; exact hkl)
      have hcell : wr.cell? ⟨g, off + k, none⟩ = some (.iface (P[k]).ty (P[k]).val) := by
        rw [hQ.out.2.cell (p := ⟨g, off + k, none⟩) (lt_of_cell hc), hc, List.getElem_map]; rfl
      obtain ⟨d1, d2⟩ := disp_any P[k]
      have hD := do_any wr w.heap.size (runs l (P.take k)) P[k] hQ.out.1 (hok.out _ (List.getElem_mem hkl)) (cans_at hcan.out k hkl) (by have q1 := runs_len l (P.take k); have q2 := hlen.out; rw [List.length_take] at q1; omega)
      rw [← runs_snoc, ← List.take_succ_eq_append_getElem hkl] at hD
      replace hD := hide hD
      clear hc
      generalize P[k] = c at *
      generalize c.fn = f at *
      generalize c.ty = T at *
      generalize c.val = u at *
      go_wp2_with fail
      refine hD.out.mono ?_
      rintro e w3 ⟨rfl, M3, B3⟩
      have Q3 : Hid (Mp w3 w.heap.size (runs l (P.take (k + 1))) ∧ Below w.heap.size w w3) := ⟨M3, Mp.turned hQ.out.2 B3 (Nat.le_refl _)⟩
      clear M3 B3 hD d1 d2
      go_wp2_with fail
      go_roundw
      case rel => exact ⟨k + 1, by go_num, by omega, Q3.out⟩
      case measure => simp [intOf]; omega
    · obtain rfl : k = K := by omega
      go_wp2_with fail
      go_ret
      exact ⟨rfl, hQ.out⟩
end Go.Proofs.YtjehpijjneghpaaGreat.Dk
