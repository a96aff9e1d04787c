/-
  The document's disk: begins.
-/
import Derived.Test.YtjehpijjneghpaaGreatL04
import Derived.Test.YtjehpijjneghpaaGreatL03
import Derived.Deep.AppendLies
import Derived.Deep.RegionLaw
import Derived.BigRegion
import Derived.Test.YtjehpijjneghpaaGreatL01
set_option maxRecDepth 100000
set_option maxHeartbeats 40000000
set_option linter.unusedVariables false
namespace Go.Proofs.YtjehpijjneghpaaGreat.Re
open Go.RowKit Go.Maps Go.Sort Go.Shelf Go.Proofs.YtjehpijjneghpaaGreat.Nm Go.Proofs.YtjehpijjneghpaaGreat.Dk
def TRD : TypeId := 103
structure Sr (w u : World) (b rb : Nat) (cs : Array Value) (f : Ft) : Prop where
 box : u.heap[b]? = some (.cells cs TRD (0, 0))
 ans : u.heap[rb]? = some (.cells #[.int .i64 f.1, .int .i64 f.2.1, .int .i64 f.2.2] 118 (0, 0))
 but : But (fun k => k = b) w u
 lo : w.heap.size ≤ rb
theorem Sr.ne {w u : World} {b rb : Nat} {cs : Array Value} {f : Ft} (h : Sr w u b rb cs f) : b ≠ rb := by
 intro e
 have h1 := h.box
 rw [e, h.ans] at h1
 simp [TRD] at h1
theorem Sr.set {w u : World} {b rb : Nat} {cs : Array Value} {f : Ft} (h : Sr w u b rb cs f) (j : Nat) (v : Value) : Sr w (u.setCell ⟨b, j, none⟩ v) b rb (cs.setIfInBounds j v) f := by
 have g := grown_setCell u b j v
 refine ⟨heap_setCell_same _ _ _ _ _ _ h.box, ?_, h.but.trans (But.of_grownBy g fun k e => by cases e; rfl), h.lo⟩
 rw [g.block rb (heap_lt h.ans) (by simpa using fun e => h.ne e.symm)]
 exact h.ans
theorem Sr.start {w : World} {b : Nat} {cs : Array Value} (hb : w.heap[b]? = some (.cells cs TRD (0, 0))) : Sr w (w.alloc (.cells #[.int .i64 0, .int .i64 0, .int .i64 0] 118)) b w.heap.size cs zf := by
 have hB := (Below.refl _ w).alloc (Nat.le_refl _) (.cells #[.int .i64 0, .int .i64 0, .int .i64 0] 118)
 exact ⟨(hB.block b (heap_lt hb)).trans hb, heap_alloc_new _ _, But.of_below hB _, Nat.le_refl _⟩
theorem Sr.more {w u u' : World} {b rb : Nat} {cs : Array Value} {f : Ft} (h : Sr w u b rb cs f) (hB : Below u.heap.size u u') : Sr w u' b rb cs f :=
 ⟨(hB.block b (heap_lt h.box)).trans h.box, (hB.block rb (heap_lt h.ans)).trans h.ans, h.but.trans (But.of_below hB _), h.lo⟩
theorem Sr.cell {w u : World} {b rb : Nat} {cs : Array Value} {f : Ft} (h : Sr w u b rb cs f) (i : Nat) : u.cell? ⟨b, i, none⟩ = cs[i]? := by simp [World.cell?, h.box]
theorem Sr.frozen {w u : World} {b rb : Nat} {cs : Array Value} {f : Ft} (h : Sr w u b rb cs f) (i : Nat) : u.frozen? ⟨b, i, none⟩ = false := by simp [World.frozen?, h.box]
theorem Sr.put {w u : World} {b rb : Nat} {cs : Array Value} {g : Ft} (h : Sr w u b rb cs g) (f : Ft) :
    Sr w (((u.setCell ⟨rb, 0, none⟩ (.int .i64 f.1)).setCell ⟨rb, 1, none⟩ (.int .i64 f.2.1)).setCell ⟨rb, 2, none⟩ (.int .i64 f.2.2)) b rb cs f := by
 have g0 := grown_setCell u rb 0 (.int .i64 f.1)
 have g1 := grown_setCell (u.setCell ⟨rb, 0, none⟩ (.int .i64 f.1)) rb 1 (.int .i64 f.2.1)
 have g2 := grown_setCell ((u.setCell ⟨rb, 0, none⟩ (.int .i64 f.1)).setCell ⟨rb, 1, none⟩ (.int .i64 f.2.1)) rb 2 (.int .i64 f.2.2)
 have B := ((But.of_grownBy (X := fun k => k = rb) g0 fun k e => by cases e; rfl).trans (But.of_grownBy g1 fun k e => by cases e; rfl)).trans (But.of_grownBy g2 fun k e => by cases e; rfl)
 have z0 := heap_setCell_same u rb 0 _ _ (.int .i64 f.1) h.ans
 have z1 := heap_setCell_same _ rb 1 _ _ (.int .i64 f.2.1) z0
 have z2 := heap_setCell_same _ rb 2 _ _ (.int .i64 f.2.2) z1
 refine ⟨B.at h.box h.ne, by simpa using z2, ?_, h.lo⟩
 have lo := h.lo
 exact ⟨B.os.trans h.but.os, B.tape.trans h.but.tape, B.output.trans h.but.output, Nat.le_trans h.but.size B.size, fun k hk hx => (B.block k (Nat.lt_of_lt_of_le hk h.but.size) (by omega)).trans (h.but.block k hk hx)⟩
def rfl1 (fs : List Ft) (n : Int) : Ft := (fs.find? fun f => f.1 == n).getD zf
theorem rfl1_at {fs : List Ft} {n : Int} {k : Nat} (hk : k < fs.length) (h : ∀ j (hj : j < fs.length), j < k → (fs[j]).1 ≠ n) (e : (fs[k]).1 = n) : rfl1 fs n = fs[k] := by
 unfold rfl1
 have : fs.find? (fun f => f.1 == n) = some fs[k] := by
  rw [List.find?_eq_some_iff_getElem]
  refine ⟨by simp [e], k, hk, rfl, fun j hj => ?_⟩
  simpa using h j (by omega) hj
 rw [this]
 rfl
theorem rfl1_none {fs : List Ft} {n : Int} (h : ∀ j (hj : j < fs.length), (fs[j]).1 ≠ n) : rfl1 fs n = zf := by
 unfold rfl1
 have : fs.find? (fun f => f.1 == n) = none := by
  rw [List.find?_eq_none]
  intro x hx
  obtain ⟨j, hj, rfl⟩ := List.getElem_of_mem hx
  simpa using h j hj
 rw [this]
 rfl
def begC (cs : Array Value) (j : Nat) (c a s : Int) : Array Value := (((cs.setIfInBounds (7 + j) (.int .i64 (c + 1))).setIfInBounds 14 (.int .i64 (a + 1))).setIfInBounds 6 (.int .i64 (s + 1))).setIfInBounds 17 (.int .i64 0)
def begF (cs : Array Value) (k : Int) : Array Value := if k = 3 then cs.setIfInBounds 16 (.bool true) else cs
theorem fts_but {w w' : World} {b : Nat} {v : Value} {fs : List Ft} (h : Fts w v fs) (hb : But (fun k => k = b) w w') (ho : ∀ g off n c, v = .slice (some ⟨g, off, none⟩) n c → 0 < n → g ≠ b) : Fts w' v fs := by
 obtain ⟨ao, cap, e, h1, h2, h3⟩ := h
 refine ⟨ao, cap, e, h1, h2, fun i hi => ?_⟩
 obtain ⟨g, off, e1, c1, c2, c3⟩ := h3 i hi
 have hg : ¬ g = b := ho g off fs.length cap (by rw [e, e1]) (by omega)
 exact ⟨g, off, e1, cell_but c1 hb hg, cell_but c2 hb hg, cell_but c3 hb hg⟩
theorem begins_ref (w : World) (b j : Nat) (cs : Array Value) (c a s : Int) (vA : Value) (fs : List Ft) (x16 x17 : Value) (hb : w.heap[b]? = some (.cells cs TRD (0, 0))) (hz : cs.size = 18) (hj : j < 7)
    (h1 : cs[7 + j]? = some (.int .i64 c)) (h2 : cs[14]? = some (.int .i64 a)) (h3 : cs[6]? = some (.int .i64 s)) (h4 : cs[5]? = some vA) (h5 : cs[16]? = some x16) (h6 : cs[17]? = some x17)
    (hA : Fts w vA fs) (hAb : ∀ g off n c, vA = .slice (some ⟨g, off, none⟩) n c → 0 < n → g ≠ b) (hK : ∀ f ∈ fs, f.2.1 ≠ 4)
    (c0 : 0 ≤ c) (c1 : c ≤ 4611686018427387904) (a0 : 0 ≤ a) (a1 : a ≤ 4611686018427387904) (s0 : 0 ≤ s) (s1 : s ≤ 4611686018427387904) :
    Calls Tryz.prog 97 #[.pointer (some ⟨b, 0, none⟩), .pointer (some ⟨b, 7 + j, none⟩)] w fun e w' => e = .returned (fv (rfl1 fs (s + 1))) ∧
     w'.heap[b]? = some (.cells (begF (begC cs j c a s) (rfl1 fs (s + 1)).2.1) TRD (0, 0)) ∧ But (fun k => k = b) w w' := by
 obtain ⟨R, hR⟩ : ∃ R, Hid (rfl1 fs (s + 1) = R) := ⟨_, rfl⟩
 rw [hR.out]
 have S0 := hide (Sr.start hb)
 obtain ⟨u0, hu0⟩ : ∃ u0, Hid (w.alloc (.cells #[.int .i64 0, .int .i64 0, .int .i64 0] 118) = u0) := ⟨_, rfl⟩
 rw [hu0.out] at S0
 have k1 : u0.cell? ⟨b, 7 + j, none⟩ = some (.int .i64 c) := (S0.out.cell _).trans h1
 have k2 := S0.out.frozen (7 + j)
 replace hb := hide hb
 replace hA := hide hA
 replace hAb := hide hAb
 replace hK := hide hK
 clear h1
 go_enter Tryz.func97, Tryz.ntmps97
 go_upto_region 1 with fail
 rw [hu0.out]
 go_upto_region 2 with fail
 have S1 := hide (S0.out.set (7 + j) (.int .i64 (c + 1)))
 generalize u0.setCell ⟨b, 7 + j, none⟩ (.int .i64 (c + 1)) = u1 at *
 obtain ⟨cs1, hc1⟩ : ∃ cs1, Hid (cs.setIfInBounds (7 + j) (.int .i64 (c + 1)) = cs1) := ⟨_, rfl⟩
 rw [hc1.out] at S1
 have g2 : cs1[14]? = some (.int .i64 a) := by rw [← hc1.out, Array.getElem?_setIfInBounds_ne (by omega)]; exact h2
 have g3 : cs1[6]? = some (.int .i64 s) := by rw [← hc1.out, Array.getElem?_setIfInBounds_ne (by omega)]; exact h3
 have g5 : cs1[5]? = some vA := by rw [← hc1.out, Array.getElem?_setIfInBounds_ne (by omega)]; exact h4
 have g6 : cs1[16]? = some x16 := by rw [← hc1.out, Array.getElem?_setIfInBounds_ne (by omega)]; exact h5
 have g7 : cs1[17]? = some x17 := by rw [← hc1.out, Array.getElem?_setIfInBounds_ne (by omega)]; exact h6
 have g8 : cs1.size = 18 := by rw [← hc1.out]; simpa using hz
 have l1 : u1.cell? ⟨b, 14, none⟩ = some (.int .i64 a) := (S1.out.cell _).trans g2
 have l2 := S1.out.frozen 14
 clear k1 k2 S0 hu0 h2 h3 h4 h5 h6 hz g2
 go_upto_region 3 with fail
 have S2 := hide (S1.out.set 14 (.int .i64 (a + 1)))
 generalize u1.setCell ⟨b, 14, none⟩ (.int .i64 (a + 1)) = u2 at *
 obtain ⟨cs2, hc2⟩ : ∃ cs2, Hid (cs1.setIfInBounds 14 (.int .i64 (a + 1)) = cs2) := ⟨_, rfl⟩
 rw [hc2.out] at S2
 have e3 : cs2[6]? = some (.int .i64 s) := by rw [← hc2.out, Array.getElem?_setIfInBounds_ne (by omega)]; exact g3
 have e5 : cs2[5]? = some vA := by rw [← hc2.out, Array.getElem?_setIfInBounds_ne (by omega)]; exact g5
 have e6 : cs2[16]? = some x16 := by rw [← hc2.out, Array.getElem?_setIfInBounds_ne (by omega)]; exact g6
 have e7 : cs2[17]? = some x17 := by rw [← hc2.out, Array.getElem?_setIfInBounds_ne (by omega)]; exact g7
 have e8 : cs2.size = 18 := by rw [← hc2.out]; simpa using g8
 have l1 : u2.cell? ⟨b, 6, none⟩ = some (.int .i64 s) := (S2.out.cell _).trans e3
 have l2 := S2.out.frozen 6
 clear S1 g3 g5 g6 g7 g8
 go_upto_region 4 with fail
 have S3 := hide (S2.out.set 6 (.int .i64 (s + 1)))
 generalize u2.setCell ⟨b, 6, none⟩ (.int .i64 (s + 1)) = u3 at *
 obtain ⟨cs3, hc3⟩ : ∃ cs3, Hid (cs2.setIfInBounds 6 (.int .i64 (s + 1)) = cs3) := ⟨_, rfl⟩
 rw [hc3.out] at S3
 have f4 : cs3[6]? = some (.int .i64 (s + 1)) := by rw [← hc3.out, Array.getElem?_setIfInBounds_self_of_lt (by omega)]
 have f5 : cs3[5]? = some vA := by rw [← hc3.out, Array.getElem?_setIfInBounds_ne (by omega)]; exact e5
 have f6 : cs3[16]? = some x16 := by rw [← hc3.out, Array.getElem?_setIfInBounds_ne (by omega)]; exact e6
 have f7 : cs3[17]? = some x17 := by rw [← hc3.out, Array.getElem?_setIfInBounds_ne (by omega)]; exact e7
 have l1 : u3.cell? ⟨b, 17, none⟩ = some x17 := (S3.out.cell _).trans f7
 have l2 := S3.out.frozen 17
 clear S2 e3 e5 e6 e7 e8
 go_upto_region 5 with fail
 have S4 := hide (S3.out.set 17 (.int .i64 0))
 generalize u3.setCell ⟨b, 17, none⟩ (.int .i64 0) = u4 at *
 obtain ⟨cs4, hc4⟩ : ∃ cs4, Hid (cs3.setIfInBounds 17 (.int .i64 0) = cs4) := ⟨_, rfl⟩
 rw [hc4.out] at S4
 have hcs : Hid (begC cs j c a s = cs4) := by show _ = _; unfold begC; rw [hc1.out, hc2.out, hc3.out, hc4.out]
 have d4 : cs4[6]? = some (.int .i64 (s + 1)) := by rw [← hc4.out, Array.getElem?_setIfInBounds_ne (by omega)]; exact f4
 have d5 : cs4[5]? = some vA := by rw [← hc4.out, Array.getElem?_setIfInBounds_ne (by omega)]; exact f5
 have d6 : cs4[16]? = some x16 := by rw [← hc4.out, Array.getElem?_setIfInBounds_ne (by omega)]; exact f6
 clear S3 f4 f5 f6 f7 l1 l2 hc1 hc2 hc3 hc4
 have FT := fts_but hA.out S4.out.but hAb.out
 obtain ⟨ao, cap, rfl, q1, q2, q3⟩ := FT
 have q2' : (cap : Int) ≤ 9223372036854775807 := by unfold maxLen at q2; omega
 clear q2
 obtain ⟨N, hN⟩ : ∃ N, Hid (fs.length = N) := ⟨_, rfl⟩
 rw [hN.out] at q1 d5
 replace q3 := hide q3
 have KB : Hid (∀ q, Below u4.heap.size u4 q → q.cell? ⟨b, 5, none⟩ = some (.slice ao N cap) ∧ q.cell? ⟨b, 6, none⟩ = some (.int .i64 (s + 1)) ∧ Sr w q b w.heap.size cs4 zf) := fun q hq => by
  have := S4.out.more hq
  exact ⟨(this.cell _).trans d5, (this.cell _).trans d4, this⟩
 obtain ⟨m5, m6, _⟩ := KB.out u4 (Below.refl _ _)
 go_wp2_with fail
 go_loopw [5] (fun i wr => ∃ k : Nat, i = .int .i64 k ∧ k ≤ N ∧ Hid (∀ j (hj : j < fs.length), j < k → (fs[j]).1 ≠ s + 1) ∧ Hid (Below u4.heap.size u4 wr)) (fun i _ => N - (intOf i).toNat)
 case atStart => exact ⟨0, rfl, Nat.zero_le _, fun j hj c => absurd c (by omega), Below.refl _ _⟩
 case round =>
  obtain ⟨k, rfl, hk, hno, hW⟩ := hrel
  clear m5 m6
  obtain ⟨m5, m6, SR⟩ := KB.out wr hW.out
  replace SR := hide SR
  by_cases hlt : k < N
  ·have i1 : (k : Int) < (N : Int) := by omega
   have hkl : k < fs.length := by rw [hN.out]; exact hlt
   obtain ⟨gb, off, rfl, y0, y1, y2⟩ := q3.out k hkl
   have KF : Hid (∀ q, Below u4.heap.size u4 q → q.cell? ⟨gb, off + k * 3, none⟩ = some (.int .i64 fs[k].1) ∧ q.cell? ⟨gb, off + k * 3 + 1, none⟩ = some (.int .i64 fs[k].2.1) ∧ q.cell? ⟨gb, off + k * 3 + 2, none⟩ = some (.int .i64 fs[k].2.2)) := fun q hq => ⟨by rw [hq.cell (lt_of_cell y0)]; exact y0, by rw [hq.cell (lt_of_cell y1)]; exact y1, by rw [hq.cell (lt_of_cell y2)]; exact y2⟩
   clear y0 y1 y2
   obtain ⟨y0, y1, y2⟩ := KF.out wr hW.out
   by_cases he : fs[k].1 = s + 1
   ·have hRe : Hid (R = fs[k]) := by show _ = _; rw [← hR.out]; exact rfl1_at hkl hno.out he
    have hk4 : fs[k].2.1 ≠ 4 := hK.out _ (List.getElem_mem hkl)
    obtain ⟨F, hF⟩ : ∃ F : Ft, Hid (fs[k] = F) := ⟨fs[k], rfl⟩
    rw [hF.out] at y0 y1 y2 he hk4 hRe KF
    obtain ⟨fa, fk, fp⟩ := F
    dsimp only at y0 y1 y2 he hk4
    subst he
    go_wp2_with fail
    go_quiet (fail)
    have B3 : Hid (Below u4.heap.size u4 (wr.drewN nq)) := hW.out.trans ((Qt.below ⟨nq, rfl⟩ _).mono hW.out.size)
    generalize wr.drewN nq = wy at *
    clear y0 y1 y2 m5 m6 SR
    obtain ⟨m5, m6, SR⟩ := KB.out wy B3.out
    obtain ⟨y0, y1, y2⟩ := KF.out wy B3.out
    replace SR := hide SR
    have z0 := heap_alloc_new wy (.cells #[.int .i64 (s + 1), .int .i64 fk, .int .i64 fp] 118)
    have BX := hide (box_below wy (.cells #[.int .i64 (s + 1), .int .i64 fk, .int .i64 fp] 118))
    obtain ⟨X, hX⟩ : ∃ X, Hid (wy.alloc (.cells #[.int .i64 (s + 1), .int .i64 fk, .int .i64 fp] 118) = X) := ⟨_, rfl⟩
    rw [hX.out] at z0 BX
    have SX0 := hide (SR.out.more BX.out)
    have hne : Hid (wy.heap.size ≠ b) := fun e => by have := heap_lt SR.out.box; omega
    go_upto_region 10 with fail
    rw [hX.out]
    have n0 : X.cell? ⟨wy.heap.size, 0, none⟩ = some (.int .i64 (s + 1)) := by simp [World.cell?, z0]
    have n1 : X.cell? ⟨wy.heap.size, 1, none⟩ = some (.int .i64 fk) := by simp [World.cell?, z0]
    have n2 : X.cell? ⟨wy.heap.size, 2, none⟩ = some (.int .i64 fp) := by simp [World.cell?, z0]
    clear y0 y1 y2 m5 m6
    by_cases h3k : fk = 3
    ·subst h3k
     have hbF : Hid (begF cs4 3 = cs4.setIfInBounds 16 (.bool true)) := rfl
     have t1 : X.cell? ⟨b, 16, none⟩ = some x16 := (SX0.out.cell _).trans d6
     have t2 := SX0.out.frozen 16
     go_upto_region 12 with fail
     have SX := hide (SX0.out.set 16 (.bool true))
     have gX := grown_setCell X b 16 (.bool true)
     have z1 := (gX.block wy.heap.size (heap_lt z0) (by simpa using fun e => hne.out e)).trans z0
     generalize X.setCell ⟨b, 16, none⟩ (.bool true) = X1 at *
     clear n0 n1 n2 t1 t2
     have n0 : X1.cell? ⟨wy.heap.size, 0, none⟩ = some (.int .i64 (s + 1)) := by simp [World.cell?, z1]
     have n1 : X1.cell? ⟨wy.heap.size, 1, none⟩ = some (.int .i64 3) := by simp [World.cell?, z1]
     have n2 : X1.cell? ⟨wy.heap.size, 2, none⟩ = some (.int .i64 fp) := by simp [World.cell?, z1]
     obtain ⟨y0, y1, y2⟩ := cells3 SX.out.ans
     obtain ⟨r0, r1, r2⟩ := frozen3 SX.out.ans
     go_wp2_with fail
     have S5 := hide (SX.out.put (s + 1, 3, fp))
     dsimp only at S5
     generalize ((X1.setCell ⟨w.heap.size, 0, none⟩ (.int .i64 (s + 1))).setCell ⟨w.heap.size, 1, none⟩ (.int .i64 3)).setCell ⟨w.heap.size, 2, none⟩ (.int .i64 fp) = u5 at *
     clear y0 y1 y2 r0 r1 r2 n0 n1 n2
     obtain ⟨x0, x1, x2⟩ := cells3 S5.out.ans
     refine bodyPost_ret (v := fv (s + 1, 3, fp)) (by simp [results, Tryz.results97, go_sem, x0, x1, x2]; try rfl) rfl ?_
     rw [hRe.out, hcs.out]
     exact ⟨rfl, by rw [hbF.out]; exact S5.out.box, S5.out.but⟩
    ·have hbF : Hid (begF cs4 fk = cs4) := if_neg h3k
     have SX := SX0
     generalize X = X1 at *
     obtain ⟨y0, y1, y2⟩ := cells3 SX.out.ans
     obtain ⟨r0, r1, r2⟩ := frozen3 SX.out.ans
     go_wp2_with fail
     have S5 := hide (SX.out.put (s + 1, fk, fp))
     dsimp only at S5
     generalize ((X1.setCell ⟨w.heap.size, 0, none⟩ (.int .i64 (s + 1))).setCell ⟨w.heap.size, 1, none⟩ (.int .i64 fk)).setCell ⟨w.heap.size, 2, none⟩ (.int .i64 fp) = u5 at *
     clear y0 y1 y2 r0 r1 r2 n0 n1 n2
     obtain ⟨x0, x1, x2⟩ := cells3 S5.out.ans
     refine bodyPost_ret (v := fv (s + 1, fk, fp)) (by simp [results, Tryz.results97, go_sem, x0, x1, x2]; try rfl) rfl ?_
     rw [hRe.out, hcs.out]
     exact ⟨rfl, by rw [hbF.out]; exact S5.out.box, S5.out.but⟩
   ·have h2 : Hid (∀ j (hj : j < fs.length), j < k + 1 → (fs[j]).1 ≠ s + 1) := fun j hj c => by
      by_cases e : j = k
      ·subst e; exact he
      ·exact hno.out j hj (by omega)
    generalize fs[k].1 = f1 at *
    go_wp2_with fail
    go_quiet (fail)
    have B3 : Hid (Below u4.heap.size u4 (wr.drewN nq)) := hW.out.trans ((Qt.below ⟨nq, rfl⟩ _).mono hW.out.size)
    generalize wr.drewN nq = wy at *
    go_wp2_with fail
    go_roundw
    case rel => exact ⟨k + 1, by go_num, by omega, h2, B3⟩
    case measure => simp [intOf]; omega
  ·have i1 : ¬ ((k : Int) < (N : Int)) := by omega
   have hRe : Hid (R = zf) := by show _ = _; rw [← hR.out]; exact rfl1_none (fun j hj => hno.out j hj (by have := hN.out; omega))
   obtain ⟨y0, y1, y2⟩ := cells3 SR.out.ans
   obtain ⟨r0, r1, r2⟩ := frozen3 SR.out.ans
   go_wp2_with fail
   have S5 := hide (SR.out.put zf)
   dsimp only [zf] at S5
   generalize ((wr.setCell ⟨w.heap.size, 0, none⟩ (.int .i64 0)).setCell ⟨w.heap.size, 1, none⟩ (.int .i64 0)).setCell ⟨w.heap.size, 2, none⟩ (.int .i64 0) = u5 at *
   clear y0 y1 y2 r0 r1 r2
   obtain ⟨x0, x1, x2⟩ := cells3 S5.out.ans
   refine bodyPost_ret (v := fv zf) (by simp [results, Tryz.results97, go_sem, x0, x1, x2]; try rfl) rfl ?_
   rw [hRe.out, hcs.out]
   exact ⟨rfl, S5.out.box, S5.out.but⟩
def refN (down : Bool) (L : Dr) (s : ByteArray) (there : Bool) : Int := if down then 22 else if may s.data.toList then (if there && (Dk.get L s.data.toList).isNone then 6 else 0) else 24
theorem findN_neg (L : Dr) (n : List UInt8) : findN L n < 0 ↔ (Dk.get L n).isNone = true := by
 unfold findN
 cases Dk.get L n with
 | none => simp
 | some p => simp
theorem refused_ref (w : World) (b : Nat) (vD : Value) (L : Dr) (down there : Bool) (s : ByteArray) (hD : w.cell? ⟨b, 2, none⟩ = some vD) (hw : w.cell? ⟨b, 16, none⟩ = some (.bool down)) (hv : Tr w vD L) (hs : s.size ≤ maxLen) :
    Calls Tryz.prog 95 #[.pointer (some ⟨b, 0, none⟩), .string s, .bool there] w fun e w' => e = .returned (.int .i64 (refN down L s there)) ∧ w' = w := by
 have hM := refMay_any s w hs
 have hF := find_ref w vD L s hv
 have hN := findN_neg L s.data.toList
 unfold refN
 cases down with
 | true =>
  go_enter Tryz.func95, Tryz.ntmps95
  go_wp2_with fail
  go_ret
  exact ⟨rfl, rfl⟩
 | false =>
  cases hm : may s.data.toList with
  | false =>
   rw [hm] at hM
   go_enter Tryz.func95, Tryz.ntmps95
   go_wp2_with (go_at_call 116; refine hM.mono ?_; rintro e w1 ⟨rfl, e1⟩; subst w1)
   go_ret
   exact ⟨rfl, rfl⟩
  | true =>
   rw [hm] at hM
   cases there with
   | false =>
    clear hN hF
    go_enter Tryz.func95, Tryz.ntmps95
    go_wp2_with (go_at_call 116; refine hM.mono ?_; rintro e w1 ⟨rfl, e1⟩; subst w1)
    go_ret
    exact ⟨rfl, rfl⟩
   | true =>
    cases hg : (Dk.get L s.data.toList).isNone with
    | true =>
     have h1 : findN L s.data.toList < 0 := hN.2 hg
     clear hN
     generalize findN L s.data.toList = n at *
     go_enter Tryz.func95, Tryz.ntmps95
     go_wp2_with (first
      | (go_at_call 116; refine hM.mono ?_; rintro e w1 ⟨rfl, e1⟩; subst w1)
      | (go_at_call 96; refine hF.mono ?_; rintro e w1 ⟨rfl, e1⟩; subst w1))
     go_ret
     exact ⟨rfl, rfl⟩
    | false =>
     have h1 : ¬ findN L s.data.toList < 0 := fun c => by have := hN.1 c; rw [hg] at this; cases this
     clear hN
     generalize findN L s.data.toList = n at *
     go_enter Tryz.func95, Tryz.ntmps95
     go_wp2_with (first
      | (go_at_call 116; refine hM.mono ?_; rintro e w1 ⟨rfl, e1⟩; subst w1)
      | (go_at_call 96; refine hF.mono ?_; rintro e w1 ⟨rfl, e1⟩; subst w1))
     go_ret
     exact ⟨rfl, rfl⟩
def Pr (w : World) (v : Value) (P : List RC) : Prop := ∃ ao ca, v = .slice ao P.length ca ∧ P.length ≤ ca ∧ ca ≤ 9223372036854775807 ∧ ∀ i (h : i < P.length), ∃ b off, ao = some ⟨b, off, none⟩ ∧ w.cell? ⟨b, off + i * 3, none⟩ = some (.string P[i].tn) ∧ w.cell? ⟨b, off + i * 3 + 1, none⟩ = some (.int .i64 P[i].fi) ∧ w.cell? ⟨b, off + i * 3 + 2, none⟩ = some (.string P[i].fr)
def runR (L : Dr) (P : List RC) : Dr := P.foldl (fun l c => c.run l) L
theorem runR_snoc (L : Dr) (P : List RC) (c : RC) : runR L (P ++ [c]) = c.run (runR L P) := by simp [runR]
theorem runR_len (L : Dr) (P : List RC) : (runR L P).length ≤ L.length + P.length := by
 induction P generalizing L with
 | nil => simp [runR]
 | cons c r ih => have := ih (c.run L); have := c.run_len L; simp only [runR, List.foldl_cons, List.length_cons] at *; omega
theorem dir_ref (w : World) (b : Nat) (vO vP : Value) (L : Dr) (P : List RC) (n : Int) (hO : w.cell? ⟨b, 3, none⟩ = some vO) (hP : w.cell? ⟨b, 4, none⟩ = some vP) (hv : Er w vO L) (hp : Pr w vP P) (hl : ((L.length + P.length : Nat) : Int) ≤ 1000000000) (hf : ∀ c ∈ P, -9223372036854775808 ≤ c.fi ∧ c.fi ≤ 9223372036854775807) :
    Calls Tryz.prog 89 #[.pointer (some ⟨b, 0, none⟩), .int .i64 n] w fun e w' => ∃ v', e = .returned v' ∧ En w.heap.size w' v' (runR L (P.take n.toNat)) ∧ Below w.heap.size w w' := by
 obtain ⟨v1, w1, r1, Q1, G1⟩ := run_appE (En.nil w.heap.size w) hv (by simp; omega) (Nat.le_refl _) 100
 rw [List.nil_append] at Q1
 have X1 : Hid (Below w.heap.size w w1) := (Below.refl _ _).grown G1 (Nat.le_refl _) (fun k hk => by simp [Value.ownBlock] at hk)
 replace Q1 := hide Q1
 have hpl : Hid ((P.length : Int) ≤ 1000000000 ∧ (L.length : Int) ≤ 1000000000) := ⟨by omega, by omega⟩
 have hvo : ∃ oa on oc, vO = .slice oa on oc := by obtain ⟨⟨ao, ca, rfl, _⟩, _⟩ := hv; exact ⟨_, _, _, rfl⟩
 obtain ⟨oa, on, oc, rfl⟩ := hvo
 obtain ⟨ao, ca, rfl, q1, q2, q3⟩ := hp
 obtain ⟨N, hN⟩ : ∃ N, Hid (P.length = N) := ⟨_, rfl⟩
 rw [hN.out] at q1 hP hpl hl
 replace q3 := hide q3
 replace hf := hide hf
 replace hl := hide hl
 replace r1 := hide r1
 clear G1
 have KB : Hid (∀ q, Below w.heap.size w q → q.cell? ⟨b, 4, none⟩ = some (.slice ao N ca)) := fun q hq => by rw [hq.cell (lt_of_cell hP)]; exact hP
 go_enter Tryz.func89, Tryz.ntmps89
 go_wp2_with (at_builtin; refine Lib.wpList_append_run _ rfl (.const (.slice none 0 0)) (.tmp 10) 100 100 rfl _ _ rfl rfl _ _ r1.out ?_)
 clear r1
 go_loopw [5, 6] (fun v5 i wr => ∃ k : Nat, i = .int .i64 k ∧ k ≤ N ∧ Hid (k ≤ n.toNat) ∧ Hid (En w.heap.size wr v5 (runR L (P.take k))) ∧ Hid (Below w.heap.size w wr)) (fun _ i _ => N - (intOf i).toNat)
 case atStart => exact ⟨0, rfl, Nat.zero_le _, Nat.zero_le _, Q1.out, X1⟩
 case round =>
  obtain ⟨k, rfl, hk, hkn, hE, hW⟩ := hrel
  have m4 := KB.out wr hW.out
  by_cases hgo : k < N ∧ (k : Int) < n
  ·obtain ⟨hlt, i2⟩ := hgo
   have i1 : (k : Int) < (N : Int) := by omega
   have hkl : k < P.length := by rw [hN.out]; exact hlt
   obtain ⟨gb, off, rfl, y0, y1, y2⟩ := q3.out k hkl
   rw [← hW.out.cell (p := ⟨gb, off + k * 3, none⟩) (lt_of_cell y0)] at y0
   rw [← hW.out.cell (p := ⟨gb, off + k * 3 + 1, none⟩) (lt_of_cell y1)] at y1
   rw [← hW.out.cell (p := ⟨gb, off + k * 3 + 2, none⟩) (lt_of_cell y2)] at y2
   have hsn : Hid (runR L (P.take (k + 1)) = (P[k]).run (runR L (P.take k))) := by show _ = _; rw [List.take_succ_eq_append_getElem hkl, runR_snoc]
   have hfk := hf.out _ (List.getElem_mem hkl)
   have hll : ((runR L (P.take k)).length : Int) ≤ 1000000000 := by have := runR_len L (P.take k); rw [List.length_take] at this; have := hl.out; omega
   have hC := changed_ref wr u5 _ P[k] hE.out.er hll hfk.1 hfk.2
   rw [← hsn.out] at hC
   unfold RC.v at hC
   generalize P[k].tn = c0 at *
   generalize P[k].fi = c1 at *
   generalize P[k].fr = c2 at *
   have hkn2 : Hid (k + 1 ≤ n.toNat) := by show _ ≤ _; omega
   clear hll hfk
   go_wp2_with (go_at_call 114; refine hC.mono ?_; rintro e w2 ⟨v2, rfl, A2, b2⟩; replace A2 := hide A2; replace b2 := hide b2)
   have E2 : Hid (En w.heap.size w2 v2 (runR L (P.take (k + 1)))) := by
    rcases A2.out with h | ⟨rfl, e⟩
    ·exact owns_lower2 h hW.out.size
    ·show En _ _ _ _
     rw [e]
     exact hE.out.below b2.out
   have W2 : Hid (Below w.heap.size w w2) := hW.out.trans (b2.out.mono hW.out.size)
   go_roundw
   case rel => exact ⟨k + 1, by go_num, by omega, hkn2, E2, W2⟩
   case measure => simp [intOf]; omega
  ·have hfin : Hid (P.take n.toNat = P.take k) := by
     show _ = _
     by_cases h1 : k < N
     ·have : n.toNat = k := by have := hkn.out; omega
      rw [this]
     ·rw [List.take_of_length_le (by rw [hN.out]; have := hkn.out; omega), List.take_of_length_le (by rw [hN.out]; omega)]
   have hend : ¬ ((k : Int) < n) ∨ ((k : Int) < n ∧ ¬ ((k : Int) < (N : Int))) := by omega
   rcases hend with i2 | ⟨i2, i1⟩
   ·go_wp2_with fail
    go_ret
    exact ⟨_, rfl, by rw [hfin.out]; exact hE.out, hW.out⟩
   ·go_wp2_with fail
    go_ret
    exact ⟨_, rfl, by rw [hfin.out]; exact hE.out, hW.out⟩
theorem svd_zero (f : Fl) : svd f 0 = [] := by unfold svd; simp
theorem svd_spoilt {f : Fl} {k : Nat} (h : k < f.sp) : svd f (k + 1) = svd f k ++ [0] := by
 have e : ∀ m, m ≤ f.sp → svd f m = List.replicate m 0 := fun m hm => by
  unfold svd
  rw [Nat.min_eq_right hm, List.drop_of_length_le (by rw [List.length_take]; omega), List.append_nil]
 rw [e (k + 1) (by omega), e k (by omega), List.replicate_succ']
theorem svd_kept {f : Fl} {k : Nat} (h : ¬ k < f.sp) (hl : f.la.length + k < f.by_.length) : svd f (k + 1) = svd f k ++ [f.by_[f.la.length + k]] := by
 unfold svd
 have hk : k < (f.by_.drop f.la.length).length := by rw [List.length_drop]; omega
 rw [Nat.min_eq_left (by omega), Nat.min_eq_left (by omega), List.take_succ_eq_append_getElem hk, List.drop_append_of_le_length (by rw [List.length_take]; omega), List.append_assoc, List.getElem_drop]
theorem lasting_ref (w : World) (g o : Nat) (vN vL : Value) (f : Fl) (sa : Int) (n : Nat) (c0 : w.cell? ⟨g, o, none⟩ = some vN) (c1 : w.cell? ⟨g, o + 1, none⟩ = some vL) (c2 : w.cell? ⟨g, o + 2, none⟩ = some (.int .i64 sa)) (hN : Sl w vN f.by_) (hL : Sl w vL f.la)
    (hn : f.la.length + n ≤ f.by_.length) (hs : ∀ k : Nat, ((f.la.length + k : Nat) : Int) < sa ↔ k < f.sp) (hz : (f.by_.length : Int) ≤ 100000000) :
    Calls Tryz.prog 90 #[.pointer (some ⟨g, o, none⟩), .int .i64 (n : Int)] w fun e w' => ∃ v', e = .returned v' ∧ Ob w.heap.size w' v' (f.la ++ svd f n) ∧ Below w.heap.size w w' := by
 obtain ⟨v1, w1, r1, Q1, G1, _⟩ := run_app (Ob.nil w.heap.size w) hL (by simp; omega) (Nat.le_refl _) 30
 have X1 : Hid (Below w.heap.size w w1) := (Below.refl _ _).grown G1 (Nat.le_refl _) (fun k hk => by simp [Value.ownBlock] at hk)
 rw [List.nil_append] at Q1
 replace Q1 := hide Q1
 replace r1 := hide r1
 clear G1
 have HN := hide hN
 obtain ⟨an, cn, rfl, zn1, n3, n4, zn2⟩ := hN
 obtain ⟨al, cl, rfl, zl1, l3, l4, zl2⟩ := hL
 have n4' : (cn : Int) ≤ 9223372036854775807 := by unfold maxLen at n4; omega
 have l4' : (cl : Int) ≤ 9223372036854775807 := by unfold maxLen at l4; omega
 clear zn1 zl1 zl2 n4 l4
 replace zn2 := hide zn2
 obtain ⟨A, hA⟩ : ∃ A, Hid (f.la.length = A) := ⟨_, rfl⟩
 obtain ⟨M, hM⟩ : ∃ M, Hid (f.by_.length = M) := ⟨_, rfl⟩
 have hs2 := hide hs
 rw [hA.out] at c1 l3 hn hs2 r1
 rw [hM.out] at c0 n3 hn hz
 replace hz := hide hz
 have KB : Hid (∀ q, Below w.heap.size w q → q.cell? ⟨g, o, none⟩ = some (.slice an M cn) ∧ q.cell? ⟨g, o + 1, none⟩ = some (.slice al A cl) ∧ q.cell? ⟨g, o + 2, none⟩ = some (.int .i64 sa)) := fun q hq => ⟨by rw [hq.cell (lt_of_cell c0)]; exact c0, by rw [hq.cell (lt_of_cell c1)]; exact c1, by rw [hq.cell (lt_of_cell c2)]; exact c2⟩
 obtain ⟨d0, d1, d2⟩ := KB.out w1 X1.out
 have hn2 : (A : Int) + (n : Int) ≤ (M : Int) := by omega
 have hz2 : (M : Int) ≤ 9223372036854775807 := by have := hz.out; omega
 obtain ⟨i0, hi, hz0, hz1, hz3⟩ := info_parts infoB
 replace hi := hide hi
 clear hs hn
 go_enter Tryz.func90, Tryz.ntmps90
 go_wp2_with (at_builtin; refine Lib.wpList_append_run _ rfl (.const (.slice none 0 0)) (.tmp 10) 30 30 rfl _ _ rfl rfl _ _ r1.out ?_)
 clear r1
 go_loopw [5, 6] (fun v5 i wr => ∃ k : Nat, i = .int .i64 ((A : Int) + (k : Int)) ∧ k ≤ n ∧ Hid (Ob w.heap.size wr v5 (f.la ++ svd f k)) ∧ Hid (Below w.heap.size w wr)) (fun _ i _ => (A + n) - (intOf i).toNat)
 case atStart => exact ⟨0, by simp, Nat.zero_le _, by rw [svd_zero, List.append_nil]; exact Q1, X1⟩
 case round =>
  obtain ⟨k, rfl, hk, hE, hW⟩ := hrel
  clear d0 d1 d2
  obtain ⟨d0, d1, d2⟩ := KB.out wr hW.out
  by_cases hlt : k < n
  ·have i1 : (A : Int) + (k : Int) < (A : Int) + (n : Int) := by omega
   have i3 : (A : Int) + (k : Int) < (M : Int) := by omega
   by_cases hsp : k < f.sp
   ·have i2 : (A : Int) + (k : Int) < sa := by have := (hs2.out k).2 hsp; omega
    have hsn := hide (svd_spoilt hsp)
    have B5 := hide (hW.out.trans ((box_below wr (.cells #[.int .u8 0] 5)).mono hW.out.size))
    have S5 : Sl (wr.alloc (.cells #[.int .u8 0] 5)) (.slice (some ⟨wr.heap.size, 0, none⟩) 1 1) [0] := sl_lit_mark wr [0] 5 (0, 0) (by decide) _ rfl
    have O5 := hE.out.below (box_below wr (.cells #[.int .u8 0] 5))
    obtain ⟨v6, w6, r6, Q6, G6, _⟩ := run_app O5 S5 (by have := hz.out; have := hA.out; have := hM.out; simp [svd]; omega) B5.out.size 30
    have X6 : Hid (Below w.heap.size w w6) := B5.out.grown G6 B5.out.size (fun k hk => (O5.lt k hk).1)
    replace Q6 := hide Q6
    replace r6 := hide r6
    clear S5 O5 G6
    go_wp2_with (at_builtin; refine Lib.wpList_append_run _ rfl (.tmp 34) (.tmp 35) 30 30 rfl _ _ rfl rfl _ _ r6.out ?_)
    exact ⟨⟨k + 1, by rw [show (A : Int) + (k : Int) + 1 = (A : Int) + ((k + 1 : Nat) : Int) by omega], by omega, by rw [hsn.out, ← List.append_assoc]; exact Q6, X6⟩, by simp [intOf]; omega⟩
   ·have i2 : ¬ ((A : Int) + (k : Int) < sa) := by
      intro c
      exact hsp ((hs2.out k).1 (by omega))
    have hfl : f.la.length + k < f.by_.length := by have := hA.out; have := hM.out; omega
    have hsn := hide (svd_kept hsp hfl)
    obtain ⟨gb, off, rfl, hcl⟩ := zn2.out (f.la.length + k) hfl
    rw [← hW.out.cell (p := ⟨gb, off + (f.la.length + k), none⟩) (lt_of_cell hcl)] at hcl
    generalize f.by_[f.la.length + k] = x at *
    rw [hA.out] at hcl
    have hcl2 : wr.cell? ⟨gb, off + (A + k), none⟩ = some (.int .u8 (x.toNat : Int)) := hcl
    obtain ⟨I, hI⟩ : ∃ I, Hid (A + k = I) := ⟨_, rfl⟩
    rw [hI.out] at hcl2
    have j3 : (A : Int) + (k : Int) = (I : Int) := by have := hI.out; omega
    have B5 := hide (hW.out.trans ((box_below wr (.cells #[.int .u8 (x.toNat : Int)] 5)).mono hW.out.size))
    have S5 : Sl (wr.alloc (.cells #[.int .u8 (x.toNat : Int)] 5)) (.slice (some ⟨wr.heap.size, 0, none⟩) 1 1) [x] := sl_lit_mark wr [x] 5 (0, 0) (by simp [maxLen]) _ rfl
    have O5 := hE.out.below (box_below wr (.cells #[.int .u8 (x.toNat : Int)] 5))
    obtain ⟨v6, w6, r6, Q6, G6, _⟩ := run_app O5 S5 (by have := hz.out; have := hA.out; have := hM.out; simp [svd]; omega) B5.out.size 30
    have X6 : Hid (Below w.heap.size w w6) := B5.out.grown G6 B5.out.size (fun k hk => (O5.lt k hk).1)
    replace Q6 := hide Q6
    replace r6 := hide r6
    clear S5 O5 G6 hcl
    rw [j3] at i1 i2 i3 ⊢
    replace j3 := hide j3
    go_wp2_with (at_builtin; refine Lib.wpList_append_run _ rfl (.tmp 37) (.tmp 45) 30 30 rfl _ _ rfl rfl _ _ r6.out ?_)
    refine ⟨⟨k + 1, by rw [show (I : Int) + 1 = (A : Int) + ((k + 1 : Nat) : Int) by have := j3.out; omega], by omega, by rw [hsn.out, ← List.append_assoc]; exact Q6, X6⟩, by have := j3.out; simp [intOf]; omega⟩
  ·have i1 : ¬ ((A : Int) + (k : Int) < (A : Int) + (n : Int)) := by omega
   obtain rfl : k = n := by omega
   go_wp2_with fail
   go_ret
   exact ⟨_, rfl, hE.out, hW.out⟩
def MayL (fs : List Ft) (n : Nat) : Prop := ∀ i (hi : i < fs.length), i < n → mayF fs[i] = true ∧ ∀ k (hk : k < i), (fs[k]'(by omega)).1 ≠ fs[i].1
theorem mayF_iff (f : Ft) : mayF f = true ↔ ¬ f.1 < 1 ∧ ¬ f.1 > 4294967296 ∧ ¬ f.2.1 < 1 ∧ ¬ f.2.1 > 4 ∧ ¬ f.2.2 < 0 := by
 unfold mayF
 simp only [Bool.and_eq_true, decide_eq_true_eq]
 omega
structure MayA (w : World) (fs : List Ft) (e : Ending) (w' : World) : Prop where
 ans : ∃ R : Bool, e = .returned (.bool R) ∧ (R = true ↔ fs.length ≤ 64 ∧ MayL fs fs.length)
 below : Below w.heap.size w w'
theorem may_ref (w : World) (v : Value) (fs : List Ft) (hv : Fts w v fs) :
    Calls Tryz.prog 103 #[v] w fun e w' => MayA w fs e w' := by
 obtain ⟨ao, cap, rfl, q1, q2, q3⟩ := hv
 have q2' : (cap : Int) ≤ 9223372036854775807 := by unfold maxLen at q2; omega
 clear q2
 obtain ⟨N, hN⟩ : ∃ N, Hid (fs.length = N) := ⟨_, rfl⟩
 rw [hN.out] at q1 ⊢
 replace q3 := hide q3
 obtain ⟨G, hG⟩ : ∃ G : Prop, Hid ((N ≤ 64 ∧ MayL fs N) ↔ G) := ⟨_, Iff.rfl⟩
 have post : Hid (∀ (e : Ending) (w' : World) (R : Bool), e = .returned (.bool R) → (R = true ↔ G) → Below w.heap.size w w' → MayA w fs e w') := fun e w' R h1 h2 h3 => ⟨⟨R, h1, by rw [hN.out]; exact h2.trans hG.out.symm⟩, h3⟩
 by_cases hl : (N : Int) > 64
 ·have hg : ¬ G := fun c => by have := hG.out.2 c; omega
  go_enter Tryz.func103, Tryz.ntmps103
  go_wp2_with fail
  go_ret
  exact post.out _ _ false rfl ⟨fun c => by (cases c), fun c => absurd c hg⟩ (Below.refl _ _)
 have hl2 : N ≤ 64 := by omega
 go_enter Tryz.func103, Tryz.ntmps103
 go_wp2_with fail
 go_loopw [3] (fun i wr => ∃ k : Nat, i = .int .i64 k ∧ k ≤ N ∧ Hid (MayL fs k) ∧ Hid (Below w.heap.size w wr)) (fun i _ => N - (intOf i).toNat)
 case atStart => exact ⟨0, rfl, Nat.zero_le _, fun i _ c => absurd c (by omega), Below.refl _ _⟩
 case round =>
  obtain ⟨k, rfl, hk, hno, hW⟩ := hrel
  by_cases hlt : k < N
  ·have i1 : (k : Int) < (N : Int) := by omega
   have hkl : k < fs.length := by rw [hN.out]; exact hlt
   obtain ⟨gb, off, rfl, y0, y1, y2⟩ := q3.out k hkl
   rw [← hW.out.cell (p := ⟨gb, off + k * 3, none⟩) (lt_of_cell y0)] at y0
   rw [← hW.out.cell (p := ⟨gb, off + k * 3 + 1, none⟩) (lt_of_cell y1)] at y1
   rw [← hW.out.cell (p := ⟨gb, off + k * 3 + 2, none⟩) (lt_of_cell y2)] at y2
   have hmf := hide (mayF_iff fs[k])
   have bad : Hid (mayF fs[k] ≠ true → ¬ G) := fun c g => c ((hG.out.2 g).2 k hkl hlt).1
   have dup : Hid (∀ j (hj : j < k), (fs[j]'(by omega)).1 = fs[k].1 → ¬ G) := fun j hj e g => ((hG.out.2 g).2 k hkl hlt).2 j hj e
   have nxt : Hid (mayF fs[k] = true → (∀ j (hj : j < k), (fs[j]'(by omega)).1 ≠ fs[k].1) → MayL fs (k + 1)) := fun h1 h2 i hi hik => by
    by_cases e : i = k
    ·subst e; exact ⟨h1, h2⟩
    ·exact hno.out i hi (by omega)
   obtain ⟨F, hF⟩ : ∃ F : Ft, Hid (fs[k] = F) := ⟨fs[k], rfl⟩
   rw [hF.out] at y0 y1 y2 hmf bad
   simp only [hF.out] at dup nxt
   obtain ⟨fa, fk, fp⟩ := F
   dsimp only at y0 y1 y2 hmf dup nxt
   have z0 := heap_alloc_new wr (.cells #[.int .i64 fa, .int .i64 fk, .int .i64 fp] 118)
   have BX := hide (box_below wr (.cells #[.int .i64 fa, .int .i64 fk, .int .i64 fp] 118))
   obtain ⟨X, hX⟩ : ∃ X, Hid (wr.alloc (.cells #[.int .i64 fa, .int .i64 fk, .int .i64 fp] 118) = X) := ⟨_, rfl⟩
   rw [hX.out] at z0 BX
   have WX : Hid (Below w.heap.size w X) := hW.out.trans (BX.out.mono hW.out.size)
   have KX : Hid (∀ q, Below X.heap.size X q → q.cell? ⟨wr.heap.size, 0, none⟩ = some (.int .i64 fa) ∧ q.cell? ⟨wr.heap.size, 1, none⟩ = some (.int .i64 fk) ∧ q.cell? ⟨wr.heap.size, 2, none⟩ = some (.int .i64 fp)) := fun q hq => by
    have z := (hq.block _ (heap_lt z0)).trans z0
    exact ⟨by simp [World.cell?, z], by simp [World.cell?, z], by simp [World.cell?, z]⟩
   obtain ⟨n0, n1, n2⟩ := KX.out X (Below.refl _ _)
   go_upto_region 7 with fail
   rw [hX.out]
   clear y0 y1 y2
   by_cases hm : mayF (fa, fk, fp) = true
   ·obtain ⟨a1, a2, a3, a4, a5⟩ := hmf.out.1 hm
    have kN : (k : Int) ≤ 64 := by omega
    obtain ⟨wo, hwo⟩ : ∃ wo, Hid (wr.heap.size = wo) := ⟨_, rfl⟩
    rw [hwo.out] at KX n0 n1 n2 ⊢
    go_wp2_with fail
    go_loopw [5] (fun i wx => ∃ j : Nat, i = .int .i64 j ∧ j ≤ k ∧ Hid (∀ l (hl : l < fs.length), l < j → (fs[l]).1 ≠ fa) ∧ Hid (Below X.heap.size X wx)) (fun i _ => k - (intOf i).toNat)
    case atStart => exact ⟨0, rfl, Nat.zero_le _, fun l _ c => absurd c (by omega), Below.refl _ _⟩
    case round =>
     obtain ⟨j, rfl, hj, hjn, hWx⟩ := hrel
     clear n0 n1 n2
     obtain ⟨n0, n1, n2⟩ := KX.out wr hWx.out
     by_cases hjl : j < k
     ·have j1 : (j : Int) < (k : Int) := by omega
      have j2 : (j : Int) < (N : Int) := by omega
      have hjf : j < fs.length := by omega
      obtain ⟨gb', off', e', x0, _, _⟩ := q3.out j hjf
      simp only [Option.some.injEq, Addr.mk.injEq] at e'
      obtain ⟨rfl, rfl, _⟩ := e'
      have hWw := WX.out.trans (hWx.out.mono WX.out.size)
      rw [← hWw.cell (p := ⟨gb, off + j * 3, none⟩) (lt_of_cell x0)] at x0
      by_cases he : fs[j].1 = fa
      ·have hg := dup.out j hjl he
       rw [he] at x0
       go_wp2_with fail
       go_quiet (fail)
       go_wp2_with fail
       go_ret
       exact post.out _ _ false rfl ⟨fun c => by (cases c), fun c => absurd c hg⟩ (hWw.trans ((Qt.below ⟨nq, rfl⟩ _).mono hWw.size))
      ·have h2 : Hid (∀ l (hl : l < fs.length), l < j + 1 → (fs[l]).1 ≠ fa) := fun l hl c => by
         by_cases e : l = j
         ·subst e; exact he
         ·exact hjn.out l hl (by omega)
       generalize fs[j].1 = fj at *
       go_wp2_with fail
       go_quiet (fail)
       have B3 : Hid (Below X.heap.size X (wr.drewN nq)) := hWx.out.trans ((Qt.below ⟨nq, rfl⟩ _).mono hWx.out.size)
       generalize wr.drewN nq = wy at *
       go_wp2_with fail
       go_roundw
       case rel => exact ⟨j + 1, by go_num, by omega, h2, B3⟩
       case measure => simp [intOf]; omega
     ·have j1 : ¬ ((j : Int) < (k : Int)) := by omega
      obtain rfl : j = k := by omega
      have hnx := hide (nxt.out hm (fun l hl => hjn.out l (by omega) hl))
      have hWw : Hid (Below w.heap.size w wr) := WX.out.trans (hWx.out.mono WX.out.size)
      go_wp2_with fail
      exact ⟨⟨j + 1, by go_num, by omega, hnx, hWw⟩, by simp [intOf]; omega⟩
   ·have hg := bad.out hm
    have hbb : fa < 1 ∨ fa > 4294967296 ∨ fk < 1 ∨ fk > 4 ∨ fp < 0 := by
     by_cases c : fa < 1 ∨ fa > 4294967296 ∨ fk < 1 ∨ fk > 4 ∨ fp < 0
     ·exact c
     ·exact absurd (hmf.out.2 ⟨fun d => c (.inl d), fun d => c (.inr (.inl d)), fun d => c (.inr (.inr (.inl d))), fun d => c (.inr (.inr (.inr (.inl d)))), fun d => c (.inr (.inr (.inr (.inr d))))⟩) hm
    by_cases a1 : fa < 1
    ·go_wp2_with fail
     go_ret
     exact post.out _ _ false rfl ⟨fun c => by (cases c), fun c => absurd c hg⟩ WX.out
    by_cases a2 : fa > 4294967296
    ·go_wp2_with fail
     go_ret
     exact post.out _ _ false rfl ⟨fun c => by (cases c), fun c => absurd c hg⟩ WX.out
    by_cases a3 : fk < 1
    ·go_wp2_with fail
     go_ret
     exact post.out _ _ false rfl ⟨fun c => by (cases c), fun c => absurd c hg⟩ WX.out
    by_cases a4 : fk > 4
    ·go_wp2_with fail
     go_ret
     exact post.out _ _ false rfl ⟨fun c => by (cases c), fun c => absurd c hg⟩ WX.out
    have a5 : fp < 0 := by omega
    clear hbb
    go_wp2_with fail
    go_ret
    exact post.out _ _ false rfl ⟨fun c => by (cases c), fun c => absurd c hg⟩ WX.out
  ·have i1 : ¬ ((k : Int) < (N : Int)) := by omega
   obtain rfl : k = N := by omega
   have hg : G := hG.out.1 ⟨hl2, hno.out⟩
   go_wp2_with fail
   go_ret
   exact post.out _ _ true rfl ⟨fun _ => hg, fun _ => rfl⟩ hW.out
def pcells (P : List RC) : List Value := (P.map fun c => [Value.string c.tn, .int .i64 c.fi, .string c.fr]).flatten
theorem pcells_len (P : List RC) : (pcells P).length = P.length * 3 := by
 induction P with
 | nil => rfl
 | cons e r ih =>
  have : pcells (e :: r) = [.string e.tn, .int .i64 e.fi, .string e.fr] ++ pcells r := by simp [pcells]
  rw [this, List.length_append, ih, List.length_cons]
  simp
  omega
theorem pcells_at (P : List RC) : ∀ i (h : i < P.length), (pcells P)[i * 3]? = some (.string P[i].tn) ∧ (pcells P)[i * 3 + 1]? = some (.int .i64 P[i].fi) ∧ (pcells P)[i * 3 + 2]? = some (.string P[i].fr) := by
 induction P with
 | nil => intro i h; simp at h
 | cons e r ih =>
  intro i h
  have : pcells (e :: r) = [.string e.tn, .int .i64 e.fi, .string e.fr] ++ pcells r := by simp [pcells]
  rw [this]
  cases i with
  | zero => exact ⟨rfl, rfl, rfl⟩
  | succ i =>
   obtain ⟨a, b, c⟩ := ih i (by simpa using h)
   rw [show (i + 1) * 3 = i * 3 + 1 + 1 + 1 by omega]
   simp only [List.cons_append, List.nil_append, List.getElem?_cons_succ, List.getElem_cons_succ]
   exact ⟨a, b, c⟩
def Pn (B : Nat) (w : World) (v : Value) (P : List RC) : Prop := w.ownsRow B 155 3 v P.length (pcells P)
theorem infoPn : (Tryz.prog.info? 155).map (fun i => (i.zero, i.size, i.bytes)) = some (some (.agg #[.string ⟨#[]⟩, .int .i64 0, .string ⟨#[]⟩]), 3, 40) := by kernel_rfl
theorem Pn.pr {B : Nat} {w : World} {v : Value} {P : List RC} (h : Pn B w v P) : Pr w v P := by
 have h0 := h
 rcases h.2 with ⟨rfl, e⟩ | ⟨g, cap, cur, rfl, _, _, a, b, _⟩
 ·have : P = [] := List.length_eq_zero_iff.1 e
  subst this
  exact ⟨none, 0, rfl, Nat.le_refl _, by omega, fun i hi => by simp at hi⟩
 ·refine ⟨_, _, rfl, a, by unfold maxLen at b; omega, fun i hi => ⟨g, 0, rfl, ?_, ?_, ?_⟩⟩
  ·have := World.ownsRow.cells h0 (g := g) rfl (i * 3) _ (pcells_at P i hi).1
   rw [addr_add] at this
   exact this
  ·have := World.ownsRow.cells h0 (g := g) rfl (i * 3 + 1) _ (pcells_at P i hi).2.1
   rw [addr_add] at this
   exact this
  ·have := World.ownsRow.cells h0 (g := g) rfl (i * 3 + 2) _ (pcells_at P i hi).2.2
   rw [addr_add] at this
   exact this
theorem Pn.form {B : Nat} {w : World} {v : Value} {P : List RC} (h : Pn B w v P) : ∃ ao ca, v = .slice ao P.length ca ∧ P.length ≤ ca ∧ ca ≤ 9223372036854775807 := by
 rcases h.2 with ⟨rfl, e⟩ | ⟨g, cap, cur, rfl, _, _, a, b, _⟩
 ·exact ⟨_, _, by rw [e], by omega, by omega⟩
 ·exact ⟨_, _, rfl, a, by unfold maxLen at b; omega⟩
theorem Pn.lt {B : Nat} {w : World} {v : Value} {P : List RC} (h : Pn B w v P) : ∀ k, v.ownBlock = some k → B ≤ k ∧ k < w.heap.size := fun k hk => World.ownsRow.lt h k hk
theorem Pn.but {X : Nat → Prop} {B : Nat} {w w' : World} {v : Value} {P : List RC} (h : Pn B w v P) (hb : But X w w') (hx : ∀ k, v.ownBlock = some k → ¬ X k) : Pn B w' v P :=
 ⟨h.1, h.2.imp id fun ⟨g, cap, cur, e, hg, hh, r⟩ => ⟨g, cap, cur, e, hg, (hb.block g (heap_lt hh) (hx g (by rw [e]; simp [Value.ownBlock]))).trans hh, r⟩⟩
theorem Pn.below {B : Nat} {w w' : World} {v : Value} {P : List RC} (h : Pn B w v P) (hb : Below w.heap.size w w') : Pn B w' v P := owns_belowN h hb
theorem En.but {X : Nat → Prop} {B : Nat} {w w' : World} {v : Value} {L : Dr} (h : En B w v L) (hb : But X w w') (hx : ∀ k, v.ownBlock = some k → ¬ X k) : En B w' v L :=
 ⟨h.1, h.2.imp id fun ⟨g, cap, cur, e, hg, hh, r⟩ => ⟨g, cap, cur, e, hg, (hb.block g (heap_lt hh) (hx g (by rw [e]; simp [Value.ownBlock]))).trans hh, r⟩⟩
theorem three_newE (w : World) (s t : ByteArray) (n : Int) (ty : TypeId) : ∀ j u, ([Value.string s, .int .i64 n, .string t] : List Value)[j]? = some u → (w.alloc (.cells #[.string s, .int .i64 n, .string t] ty)).cell? ((⟨w.heap.size, 0, none⟩ : Addr).add j) = some u := by
 intro j u hu
 rw [addr_add]
 match j with
 | 0 => simp at hu; subst hu; simp only [World.cell?, heap_alloc_new]; rfl
 | 1 => simp at hu; subst hu; simp only [World.cell?, heap_alloc_new]; rfl
 | 2 => simp at hu; subst hu; simp only [World.cell?, heap_alloc_new]; rfl
 | j + 3 => simp at hu
theorem Ans.slice {B : Nat} {w : World} {a : Option Addr} {n c : Nat} {v : Value} {L0 L : Dr} (h : Ans B w (.slice a n c) v L0 L) : ∃ a n c, v = .slice a n c := by
 rcases h with h | ⟨rfl, _⟩
 ·rcases h.form with ⟨rfl, _⟩ | ⟨g, cap, rfl, _⟩ <;> exact ⟨_, _, _, rfl⟩
 ·exact ⟨_, _, _, rfl⟩
structure ChA (w w' : World) (b : Nat) (cs : Array Value) (vD vP : Value) (L : Dr) (P : List RC) (c : RC) : Prop where
 out : ∃ vD' vP', w'.heap[b]? = some (.cells ((cs.setIfInBounds 2 vD').setIfInBounds 4 vP') TRD (0, 0)) ∧ En 0 w' vD' (c.run L) ∧ Pn 0 w' vP' (P ++ [c]) ∧
  (vD'.ownBlock = vD.ownBlock ∨ ∀ k, vD'.ownBlock = some k → w.heap.size ≤ k) ∧ (vP'.ownBlock = vP.ownBlock ∨ ∀ k, vP'.ownBlock = some k → w.heap.size ≤ k) ∧ (∀ k, vD'.ownBlock = some k → vP'.ownBlock ≠ some k)
 but : But (fun k => k = b ∨ vP.ownBlock = some k) w w'
theorem own_some (g n c : Nat) : (Value.slice (some ⟨g, 0, none⟩) n c).ownBlock = some g := by simp [Value.ownBlock]
theorem cha_end {w u w2 W1 w4 : World} {b g4 cap4 : Nat} {cs : Array Value} {vD vP v2 : Value} {L : Dr} {P : List RC} {c : RC} (hb : w.heap[b]? = some (.cells cs TRD (0, 0))) (hD : En 0 w vD L) (hP : Pn 0 w vP P) (hPb : vP.ownBlock ≠ some b) (hDb : vD.ownBlock ≠ some b) (hDP : ∀ k, vD.ownBlock = some k → vP.ownBlock ≠ some k)
    (u0 : Below w.heap.size w u) (b3 : Below u.heap.size u w2) (A2 : Ans u.heap.size w2 vD v2 L (c.run L)) (g3 : But (fun k => k = b) w2 W1) (FB : But (fun k => vP.ownBlock = some k) W1 w4) (k4 : w4.heap[b]? = some (.cells (cs.setIfInBounds 2 v2) TRD (0, 0)))
    (ho : Pn 0 w4 (.slice (some ⟨g4, 0, none⟩) (P.length + 1) cap4) (P ++ [c])) (hat : vP.ownBlock = some g4 ∨ g4 = W1.heap.size + 1) : ChA w (w4.setCell ⟨b, 4, none⟩ (.slice (some ⟨g4, 0, none⟩) (P.length + 1) cap4)) b cs vD vP L P c := by
 have hbl := heap_lt hb
 have hw2 : Below w.heap.size w w2 := u0.trans (b3.mono u0.size)
 have hD2 : En 0 w2 v2 (c.run L) := by
  rcases A2 with h | ⟨e1, e2⟩
  ·exact owns_lower2 h (Nat.zero_le _)
  ·rw [e1, e2]; exact hD.below hw2
 have hDn : v2.ownBlock = vD.ownBlock ∨ ∀ k, v2.ownBlock = some k → u.heap.size ≤ k ∧ k < w2.heap.size := by
  rcases A2 with h | ⟨e1, e2⟩
  ·exact .inr fun k hk => h.lt k hk
  ·rw [e1]; exact .inl rfl
 have hb2 : ∀ k, v2.ownBlock = some k → k ≠ b := fun k hk e => by
  rcases hDn with h | h
  ·rw [h] at hk; exact hDb (by rw [hk, e])
  ·have := (h k hk).1; have := u0.size; omega
 have hp2 : ∀ k, v2.ownBlock = some k → vP.ownBlock ≠ some k := fun k hk e => by
  rcases hDn with h | h
  ·rw [h] at hk; exact hDP k hk e
  ·have := (h k hk).1; have := (hP.lt k e).2; have := u0.size; omega
 have hg4b : g4 ≠ b := fun e => by
  rcases hat with h | h
  ·exact hPb (by rw [h, e])
  ·have := g3.size; have := hw2.size; omega
 have g5 := But.of_grownBy (X := fun k => k = b) (grown_setCell w4 b 4 (.slice (some ⟨g4, 0, none⟩) (P.length + 1) cap4)) fun k e => by cases e; rfl
 have hDl := fun k hk => (hD2.lt k hk).2
 refine ⟨⟨v2, _, heap_setCell_same w4 b 4 _ _ _ k4, ((hD2.but g3 hb2).but FB hp2).but g5 hb2, ho.but g5 (fun k hk e => hg4b (by rw [own_some] at hk; simp at hk; rw [hk, e])), hDn.imp id (fun h k hk => Nat.le_trans u0.size (h k hk).1), ?_, ?_⟩, ?_⟩
 ·rw [own_some]
  rcases hat with h | h
  ·exact .inl h.symm
  ·right
   intro k hk
   simp at hk
   have := g3.size; have := hw2.size
   omega
 ·intro k hk
  rw [own_some]
  intro e
  simp at e
  rcases hat with h | h
  ·exact hp2 k hk (by rw [h, e])
  ·have := hDl k hk; have := g3.size; omega
 ·exact ((((But.of_below hw2 _).trans (g3.mono fun k _ e => .inl e)).trans (FB.mono fun k _ e => .inr e))).trans (g5.mono fun k _ e => .inl e)
theorem change_ref (w : World) (b : Nat) (cs : Array Value) (vD vP : Value) (L : Dr) (P : List RC) (c : RC) (hb : w.heap[b]? = some (.cells cs TRD (0, 0))) (hz : cs.size = 18) (h2 : cs[2]? = some vD) (h4 : cs[4]? = some vP) (hD : En 0 w vD L) (hP : Pn 0 w vP P)
    (hPb : vP.ownBlock ≠ some b) (hDb : vD.ownBlock ≠ some b) (hDP : ∀ k, vD.ownBlock = some k → vP.ownBlock ≠ some k) (hl : (L.length : Int) ≤ 1000000000) (hpl : (P.length : Int) ≤ 1000000000) (f0 : -9223372036854775808 ≤ c.fi) (f1 : c.fi ≤ 9223372036854775807) :
    Calls Tryz.prog 99 #[.pointer (some ⟨b, 0, none⟩), c.v] w fun e w' => e = .returned (.tuple #[]) ∧ ChA w w' b cs vD vP L P c := by
 have HB := hide hb
 have u0 := hide (box_below w (.cells #[.string c.tn, .int .i64 c.fi, .string c.fr] 155))
 have z0 := hide (heap_alloc_new w (.cells #[.string c.tn, .int .i64 c.fi, .string c.fr] 155))
 obtain ⟨u, hu⟩ : ∃ u, Hid (w.alloc (.cells #[.string c.tn, .int .i64 c.fi, .string c.fr] 155) = u) := ⟨_, rfl⟩
 rw [hu.out] at u0 z0
 have KB : Hid (∀ q, Below u.heap.size u q → q.heap[b]? = some (.cells cs TRD (0, 0)) ∧ q.heap[w.heap.size]? = some (.cells #[.string c.tn, .int .i64 c.fi, .string c.fr] 155)) := fun q hq => ⟨(hq.block b (Nat.lt_of_lt_of_le (heap_lt HB.out) u0.out.size)).trans ((u0.out.block b (heap_lt HB.out)).trans HB.out), (hq.block _ (heap_lt z0.out)).trans z0.out⟩
 have KC : Hid (∀ q, Below u.heap.size u q → Calls Tryz.prog 114 #[vD, c.v] q fun e w' => ∃ v', e = .returned v' ∧ Ans q.heap.size w' vD v' L (c.run L) ∧ Below q.heap.size q w') := fun q hq => changed_ref q vD L c ((hD.below u0.out).below hq).er hl f0 f1
 have c2 : u.cell? ⟨b, 2, none⟩ = some vD := by simp [World.cell?, (KB.out u (Below.refl _ _)).1, h2]
 have x0 : u.cell? ⟨w.heap.size, 0, none⟩ = some (.string c.tn) := by simp [World.cell?, z0.out]
 have x1 : u.cell? ⟨w.heap.size, 1, none⟩ = some (.int .i64 c.fi) := by simp [World.cell?, z0.out]
 have x2 : u.cell? ⟨w.heap.size, 2, none⟩ = some (.string c.fr) := by simp [World.cell?, z0.out]
 have bb := Below.refl u.heap.size u
 have hvd : ∃ da dn dc, vD = .slice da dn dc := by rcases hD.form with ⟨rfl, _⟩ | ⟨g, cap, rfl, _⟩ <;> exact ⟨_, _, _, rfl⟩
 obtain ⟨da, dn, dc, rfl⟩ := hvd
 unfold RC.v at *
 obtain ⟨tn, etn⟩ : ∃ tn, Hid (c.tn = tn) := ⟨_, rfl⟩
 obtain ⟨fi, efi⟩ : ∃ fi, Hid (c.fi = fi) := ⟨_, rfl⟩
 obtain ⟨fr, efr⟩ : ∃ fr, Hid (c.fr = fr) := ⟨_, rfl⟩
 rw [etn.out] at z0 KB KC x0 hu ⊢
 rw [efi.out] at z0 KB KC x1 hu ⊢
 rw [efr.out] at z0 KB KC x2 hu ⊢
 go_enter Tryz.func99, Tryz.ntmps99
 go_upto_region 1 with fail
 rw [hu.out]
 go_region_with (first
  | (go_at_call 114; refine (KC.out _ (by first | exact bb | exact bb.drew | exact bb.drew.drew | exact bb.drew.drew.drew | exact bb.drew.drew.drew.drew)).mono ?_; rintro e w2 ⟨v2, rfl, A2, b2⟩; obtain ⟨sa, sn, sc, rfl⟩ := A2.slice; have A3 : Ans u.heap.size w2 (.slice da dn dc) (.slice sa sn sc) L (c.run L) := A2; have b3 : Below u.heap.size u w2 := (by first | exact bb.trans b2 | exact bb.drew.trans b2 | exact bb.drew.drew.trans b2 | exact bb.drew.drew.drew.trans b2 | exact bb.drew.drew.drew.drew.trans b2); have k2 := (KB.out w2 b3).1; have y2 : w2.cell? ⟨b, 2, none⟩ = some (.slice da dn dc) := (by simp [World.cell?, k2, h2]); have y3 : w2.frozen? ⟨b, 2, none⟩ = false := (by simp [World.frozen?, k2])))
 all_goals
  have k3 := hide (heap_setCell_same w2 b 2 _ _ (.slice sa sn sc) k2)
  have hwb : Hid (w.heap.size ≠ b) := fun e => by have := heap_lt HB.out; omega
  have g3 := But.of_grownBy (X := fun k => k = b) (grown_setCell w2 b 2 (.slice sa sn sc)) fun k e => by cases e; rfl
  have z3 := hide ((g3.block w.heap.size (heap_lt (KB.out w2 b3).2) hwb.out).trans (KB.out w2 b3).2)
  have P2 : Hid (Pn 0 (w2.setCell ⟨b, 2, none⟩ (.slice sa sn sc)) vP P) := ((hP.below u0.out).below b3).but g3 (fun k hk e => hPb (by rw [hk, e]))
  replace g3 := hide g3
  generalize w2.setCell ⟨b, 2, none⟩ (.slice sa sn sc) = W1 at *
  clear y2 y3 x0 x1 x2 c2
  obtain ⟨pa, pc, ep, p1, p2⟩ := P2.out.form
  subst ep
  have c4 : W1.cell? ⟨b, 4, none⟩ = some (.slice pa P.length pc) := by simp [World.cell?, k3.out, h4]
  have x0 : W1.cell? ⟨w.heap.size, 0, none⟩ = some (.string tn) := by simp [World.cell?, z3.out]
  have x1 : W1.cell? ⟨w.heap.size, 1, none⟩ = some (.int .i64 fi) := by simp [World.cell?, z3.out]
  have x2 : W1.cell? ⟨w.heap.size, 2, none⟩ = some (.string fr) := by simp [World.cell?, z3.out]
  obtain ⟨Np, hNp⟩ : ∃ Np, Hid (P.length = Np) := ⟨_, rfl⟩
  have ROW : Hid (W1.ownsRow 0 155 3 (.slice pa Np pc) Np (pcells P)) := by have := P2.out; unfold Pn at this; rw [hNp.out] at this; exact this
  rw [hNp.out] at c4 p1 hpl
  obtain ⟨i0, hi, hz0, hz1, hz2⟩ := info_parts infoPn
  have c4a : (W1.alloc (.cells #[.string tn, .int .i64 fi, .string fr] 155)).cell? ⟨b, 4, none⟩ = some (.slice pa Np pc) := by rw [(box_below W1 _).cell (p := ⟨b, 4, none⟩) (lt_of_cell c4)]; exact c4
  have hPb2 : Hid ((Value.slice pa Np pc).ownBlock ≠ some b) := by rw [← hNp.out]; exact hPb
  go_wp2_with fail
  go_region_law (first | (refine step_append_lies _ rfl (.tmp 17) (.tmp 19) 101 rfl 0 155 i0 (.agg #[.string ⟨#[]⟩, .int .i64 0, .string ⟨#[]⟩]) 3 40 Tryz.underlying101 hi hz0 hz1 hz2 rfl (by decide) (.slice pa Np pc) Np (pcells P) (by simp [Act.eval]) (ROW.out.alloc _) ⟨W1.heap.size, 0, none⟩ 1 1 [.string tn, .int .i64 fi, .string fr] (by simp [Act.eval]) rfl (three_newE _ _ _ _ _) (by simp [Value.oneCell']) (by decide) (by unfold maxLen; omega) (by omega) (Nat.zero_le _) (W1.heap.size + 1) (by simp) ?_; intro g4 cap4 w4 hown4 hgrow4 hat4 hlt4; have FB : But (fun k => (Value.slice pa Np pc).ownBlock = some k) W1 w4 := (But.of_below (by first | exact (box_below W1 _).drew | exact (box_below W1.drew _) | exact box_below W1 _) _).trans (But.of_grownBy hgrow4 fun k e => e); have k4 := (FB.block b (heap_lt k3.out) hPb2.out).trans k3.out; have cc4 := (show w4.cell? ⟨b, 4, none⟩ = some (.slice pa Np pc) by simp [World.cell?, k4, h4, hNp.out]); have ff4 := (show w4.frozen? ⟨b, 4, none⟩ = false by simp [World.frozen?, k4])))
  all_goals
   have hPn : Pn 0 w4 (.slice (some ⟨g4, 0, none⟩) (P.length + 1) cap4) (P ++ [c]) := by
    unfold Pn
    rw [List.length_append, show pcells (P ++ [c]) = pcells P ++ [.string c.tn, .int .i64 c.fi, .string c.fr] by simp [pcells], etn.out, efi.out, efr.out, hNp.out]
    exact hown4
   have fin := cha_end HB.out hD hP hPb hDb hDP u0.out b3 A3 g3.out (by rw [← hNp.out] at FB; exact FB) k4 hPn (by rw [← hNp.out] at hat4; exact hat4)
   rw [hNp.out] at fin
   go_end0
   exact ⟨rfl, by rw [hNp.out]; exact fin⟩
end Go.Proofs.YtjehpijjneghpaaGreat.Re
namespace Go.Proofs.YtjehpijjneghpaaGreat
open Go.RowKit
theorem cap_fits {need old : Nat} (h : old < need) (hb : need ≤ 140737488355328 + 1048576) : Builtin.nextslicecap need old * 1 ≤ 281474976710656 := by
 unfold Builtin.nextslicecap
 split
 ·omega
 ·split
  ·omega
  ·rw [growBy_four]
   repeat' split
   all_goals omega
end Go.Proofs.YtjehpijjneghpaaGreat
namespace Go.Proofs.YtjehpijjneghpaaGreat.Re
open Go.RowKit Go.Maps Go.Sort Go.Shelf Go.Proofs.YtjehpijjneghpaaGreat.Nm Go.Proofs.YtjehpijjneghpaaGreat.Dk
def Oc (B : Nat) (w : World) (v : Value) (l : List UInt8) : Prop :=
 Ob B w v l ∨ ∃ g cap, v = .slice (some ⟨g, 0, none⟩) l.length l.length ∧ Ob B w (.slice (some ⟨g, 0, none⟩) l.length cap) l
theorem Oc.of {B : Nat} {w : World} {v : Value} {l : List UInt8} (h : Ob B w v l) : Oc B w v l := .inl h
theorem Oc.but {B : Nat} {X : Nat → Prop} {w w' : World} {v : Value} {l : List UInt8} (h : Oc B w v l) (hb : But X w w') (hx : ∀ k, v.ownBlock = some k → ¬ X k) : Oc B w' v l := by
 rcases h with h | ⟨g, cap, e, h⟩
 ·exact .inl (h.but hb hx)
 ·exact .inr ⟨g, cap, e, h.but hb fun k hk => hx k (by rw [e]; exact hk)⟩
theorem Oc.below {B : Nat} {w w' : World} {v : Value} {l : List UInt8} (h : Oc B w v l) (hb : Below w.heap.size w w') : Oc B w' v l := h.but (But.of_below hb fun _ => False) fun _ _ c => c
theorem Oc.lt {B : Nat} {w : World} {v : Value} {l : List UInt8} (h : Oc B w v l) : ∀ k, v.ownBlock = some k → B ≤ k ∧ k < w.heap.size := fun k hk => by
 rcases h with h | ⟨g, cap, e, h⟩
 ·exact h.lt k hk
 ·exact h.lt k (by rw [e] at hk; exact hk)
theorem Oc.low {B C : Nat} {w : World} {v : Value} {l : List UInt8} (h : Oc B w v l) (hb : C ≤ B) : Oc C w v l := by
 rcases h with h | ⟨g, cap, e, h⟩
 ·exact .inl (h.low hb)
 ·exact .inr ⟨g, cap, e, h.low hb⟩
theorem Oc.form {B : Nat} {w : World} {v : Value} {l : List UInt8} (h : Oc B w v l) : ∃ ao ca, v = .slice ao l.length ca ∧ l.length ≤ ca ∧ ca ≤ 9223372036854775807 := by
 rcases h with h | ⟨g, cap, e, h⟩
 ·exact h.form
 ·obtain ⟨_, ca, e2, h1, h2⟩ := h.form
  exact ⟨_, _, e, Nat.le_refl _, by omega⟩
theorem Oc.sl {B : Nat} {w : World} {v : Value} {l : List UInt8} (h : Oc B w v l) : Sl w v l := by
 rcases h with h | ⟨g, cap, rfl, h⟩
 ·exact h.sl
 ·obtain ⟨ao, ca, e, h1, h2, h3, h4⟩ := h.sl
  simp only [Value.slice.injEq] at e
  obtain ⟨rfl, _, rfl⟩ := e
  exact ⟨_, _, rfl, fun c => by simp at c, Nat.le_refl _, by omega, h4⟩
theorem Oc.cut {B : Nat} {w : World} {ao : Option Addr} {n ca k : Nat} {L : List UInt8} (h : Oc B w (.slice ao n ca) L) (hk : k ≤ L.length) : Oc B w (.slice ao k k) (L.take k) := by
 have hl : (L.take k).length = k := by rw [List.length_take]; omega
 have key : ∀ c, Ob B w (.slice ao n c) L → Oc B w (.slice ao k k) (L.take k) := fun c h => by
  have h2 := Ob.take h hk
  have h0 := h2
  rcases h2.2 with ⟨e, e2⟩ | ⟨g, cap, cur, e, _⟩
  ·simp only [Value.slice.injEq] at e
   obtain ⟨rfl, rfl, rfl⟩ := e
   exact .inl h0
  ·simp only [Value.slice.injEq] at e
   obtain ⟨rfl, e3, rfl⟩ := e
   exact .inr ⟨g, c, by rw [hl], by rw [hl]; exact h0⟩
 rcases h with h | ⟨g, cap, e, h⟩
 ·exact key _ h
 ·simp only [Value.slice.injEq] at e
  obtain ⟨rfl, rfl, rfl⟩ := e
  exact key cap h
theorem run_append_none {w : World} {vx : Value} {g n c : Nat} (hm : Sl w vx []) (hn : n ≤ c) (ty : TypeId) :
    (Builtin.append_ #[30, 30] ty #[.slice (some ⟨g, 0, none⟩) n c, vx]).run Tryz.prog w = .ok (.slice (some ⟨g, 0, none⟩) n c) w := by
 obtain ⟨i0, hi, hz0, hz1, hz2⟩ := info_parts infoB
 obtain ⟨ao, cap, rfl, h1, h2, h3, h4⟩ := hm
 cases ao with
 | none => simp [Builtin.append_, run_underlying Tryz.underlying30, sizeOf, typeInfo, hi, Builtin.lenOf, Builtin.firstCells, hn, storeCells]
 | some ad =>
  have hf := run_firstCells_some (P := Tryz.prog) (w := w) i0.size 0 ad 0 cap [] (by simp) (fun j v hv => by simp at hv)
  simp only [List.length_nil]
  simp [Builtin.append_, run_underlying Tryz.underlying30, sizeOf, typeInfo, hi, Builtin.lenOf, hf, hn, storeCells]
theorem run_appO {B : Nat} {w : World} {v vx : Value} {l m : List UInt8} (h : Oc B w v l) (hm : Sl w vx m) (hl : l.length + m.length ≤ 140737488355328) (hB : B ≤ w.heap.size) (ty : TypeId) :
    ∃ v' w', (Builtin.append_ #[30, 30] ty #[v, vx]).run Tryz.prog w = .ok v' w' ∧ Oc B w' v' (l ++ m) ∧ w.grownBy w' v.ownBlock ∧ (v'.ownBlock = v.ownBlock ∨ v'.ownBlock = some w.heap.size) := by
 rcases h with h | ⟨g, cap, rfl, h⟩
 ·obtain ⟨v', w', r, o, g, a⟩ := run_app h hm hl hB ty
  exact ⟨v', w', r, .inl o, g, a⟩
 ·by_cases hz : m = []
  ·subst hz
   exact ⟨_, w, run_append_none hm (Nat.le_refl _) ty, .inr ⟨g, cap, by rw [List.append_nil], by rw [List.append_nil]; exact h⟩, ⟨rfl, rfl, rfl, Nat.le_refl _, fun _ _ _ => rfl⟩, .inl rfl⟩
  ·obtain ⟨i, hi, hz0, hs1, hy⟩ := info_parts infoB
   have hm0 : 0 < m.length := List.length_pos_iff.2 hz
   have rd : ∀ {ao : Option Addr} {k c : Nat} {u : List UInt8}, Sl w (.slice ao k c) u → 0 < u.length → ∃ b off, ao = some ⟨b, off, none⟩ ∧ ∀ j v, (bvals u)[j]? = some v → w.cell? ((⟨b, off, none⟩ : Addr).add j) = some v := by
    intro ao k c u hu h0
    obtain ⟨ao', c', e1, _, _, _, h5⟩ := hu
    simp only [Value.slice.injEq] at e1
    obtain ⟨rfl, _, _⟩ := e1
    obtain ⟨b, off, rfl, hc⟩ := h5.at h0
    refine ⟨b, off, rfl, fun j v hv => ?_⟩
    have hj : j < u.length := by
     have := (List.getElem?_eq_some_iff.1 hv).1
     simpa [bvals] using this
    rw [addr_add, hc j hj, ← hv, bvals_get hj]
   obtain ⟨ao, k, c, rfl, hk⟩ : ∃ ao k c, vx = .slice ao k c ∧ k = m.length := by
    obtain ⟨ao, c, e1, _⟩ := id hm
    exact ⟨ao, _, c, e1, rfl⟩
   subst hk
   obtain ⟨b2, o2, rfl, c2⟩ := rd hm hm0
   have c1 : ∀ j v, (bvals l)[j]? = some v → w.cell? ((⟨g, 0, none⟩ : Addr).add j) = some v := by
    intro j v hv
    have h0 : 0 < l.length := by
     have := (List.getElem?_eq_some_iff.1 hv).1
     simp [bvals] at this
     omega
    obtain ⟨b, off, e1, hc⟩ := rd h.sl h0
    simp only [Option.some.injEq] at e1
    rw [e1]
    exact hc j v hv
   have hr := run_append_grow (P := Tryz.prog) w 30 ty 5 i (.int .u8 0) Tryz.underlying30 hi hz0 ⟨g, 0, none⟩ l.length l.length (bvals l) (by rw [hs1, bvals_length]; omega) c1 ⟨b2, o2, none⟩ m.length c (bvals m) (by rw [hs1, bvals_length]; omega) c2 (by omega) (by omega) (by rw [hy]; exact cap_fits (by omega) (by omega))
   have hge := grownCap_ge w (l.length + m.length) l.length 5
   have hle := grownCap_le_maxLen w (l.length + m.length) l.length 5 (by unfold maxLen; omega)
   have hB2 : Below w.heap.size w (w.drew.alloc (.cells ((bvals l).toArray ++ (bvals m).toArray ++ Builtin.zeroCells (Value.int .u8 0).cells (grownCap w (l.length + m.length) l.length 5 - (l.length + m.length))) 5)) := (Below.refl _ w).drew.alloc (by simp) _
   refine ⟨_, _, hr, .inl ?_, Below.grownAny hB2 _, .inr rfl⟩
   show World.ownsRow _ _ _ _ _ _ _
   rw [List.length_append]
   refine ⟨by simp [bvals], Or.inr ⟨w.heap.size, _, _, rfl, hB, heap_alloc_new w.drew _, hge, hle, ?_, ?_⟩⟩
   ·simp only [Array.size_append, List.size_toArray, size_zeroCells, bvals_length]
    simp [Value.cells]
    omega
   ·rw [bvals_append]
    simp only [Array.toList_append, Nat.mul_one]
    exact List.take_left' (by simp [bvals])
structure RB where
 most : Int
 F : List (List UInt8 × List UInt8 × Int)
 dir : Dr
 old : Dr
 pe : List RC
 fs : List Ft
 si : Int
 c0 : Int
 c1 : Int
 c2 : Int
 c3 : Int
 c4 : Int
 c5 : Int
 c6 : Int
 c7 : Int
 c8 : Int
 down : Bool
 boom : Int
structure RV where
 vF : Value
 vD : Value
 vO : Value
 vP : Value
 vA : Value
 T : List (Value × Value)
def RB.cs (R : RB) (V : RV) : Array Value := #[.int .i64 R.most, V.vF, V.vD, V.vO, V.vP, V.vA, .int .i64 R.si, .int .i64 R.c0, .int .i64 R.c1, .int .i64 R.c2, .int .i64 R.c3, .int .i64 R.c4, .int .i64 R.c5, .int .i64 R.c6, .int .i64 R.c7, .int .i64 R.c8, .bool R.down, .int .i64 R.boom]
def blk (b : Nat) (V : RV) : Nat → Option Nat
 | 0 => some b
 | 1 => V.vF.ownBlock
 | 2 => V.vD.ownBlock
 | 3 => V.vO.ownBlock
 | 4 => V.vP.ownBlock
 | 5 => V.vA.ownBlock
 | n + 6 => if n % 2 = 0 then (V.T[n / 2]?).bind (fun t => t.1.ownBlock) else (V.T[n / 2]?).bind (fun t => t.2.ownBlock)
def Dis (f : Nat → Option Nat) : Prop := ∀ x y, x ≠ y → ∀ k, f x = some k → f y ≠ some k
theorem Dis.step {f g : Nat → Option Nat} {H : Nat} (hf : Dis f) (hlt : ∀ x k, f x = some k → k < H) (hx : ∀ x, g x = f x ∨ ∀ k, g x = some k → H ≤ k) (hn : ∀ x y, x ≠ y → ∀ k, H ≤ k → g x = some k → g y ≠ some k) : Dis g := by
 intro x y hxy k h1 h2
 by_cases hk : H ≤ k
 ·exact hn x y hxy k hk h1 h2
 ·rcases hx x with e | e
  ·rcases hx y with e' | e'
   ·rw [e] at h1; rw [e'] at h2; exact hf x y hxy k h1 h2
   ·exact hk (e' k h2)
  ·exact hk (e k h1)
def fcells (F : List (List UInt8 × List UInt8 × Int)) (T : List (Value × Value)) : List Value := ((F.zip T).map fun e => [e.2.1, e.2.2, Value.int .i64 e.1.2.2]).flatten
def acells (fs : List Ft) : List Value := (fs.map fun f => [Value.int .i64 f.1, .int .i64 f.2.1, .int .i64 f.2.2]).flatten
structure RM (w : World) (b : Nat) (R : RB) (V : RV) : Prop where
 box : w.heap[b]? = some (.cells (R.cs V) TRD (0, 0))
 dd : En 0 w V.vD R.dir
 oo : En 0 w V.vO R.old
 pp : Pn 0 w V.vP R.pe
 aa : w.ownsRow 0 118 3 V.vA R.fs.length (acells R.fs)
 ff : w.ownsRow 0 138 3 V.vF R.F.length (fcells R.F V.T)
 ln : V.T.length = R.F.length
 nn : ∀ i (h : i < R.F.length), Oc 0 w (V.T[i]'(by omega)).1 R.F[i].1 ∧ Oc 0 w (V.T[i]'(by omega)).2 R.F[i].2.1
 ds : Dis (blk b V)
 lt : ∀ x k, blk b V x = some k → k < w.heap.size
theorem ownsRow_but {X : Nat → Prop} {w w' : World} {B : Nat} {T : TypeId} {size : Nat} {v : Value} {n : Nat} {xs : List Value} (h : w.ownsRow B T size v n xs) (hb : But X w w') (hx : ∀ k, v.ownBlock = some k → ¬ X k) : w'.ownsRow B T size v n xs :=
 ⟨h.1, h.2.imp id fun ⟨g, cap, cur, e, hg, hh, r⟩ => ⟨g, cap, cur, e, hg, (hb.block g (heap_lt hh) (hx g (by rw [e]; simp [Value.ownBlock]))).trans hh, r⟩⟩
theorem blk_N (b : Nat) (V : RV) {i : Nat} (h : i < V.T.length) : blk b V (2 * i + 6) = V.T[i].1.ownBlock := by
 show (if (2 * i) % 2 = 0 then (V.T[2 * i / 2]?).bind (fun t => t.1.ownBlock) else _) = _
 rw [if_pos (by omega), show 2 * i / 2 = i by omega, List.getElem?_eq_getElem h]
 rfl
theorem blk_L (b : Nat) (V : RV) {i : Nat} (h : i < V.T.length) : blk b V (2 * i + 7) = V.T[i].2.ownBlock := by
 show (if (2 * i + 1) % 2 = 0 then _ else (V.T[(2 * i + 1) / 2]?).bind (fun t => t.2.ownBlock)) = _
 rw [if_neg (by omega), show (2 * i + 1) / 2 = i by omega, List.getElem?_eq_getElem h]
 rfl
theorem RM.but {X : Nat → Prop} {w w' : World} {b : Nat} {R : RB} {V : RV} (h : RM w b R V) (hb : But X w w') (hx : ∀ x k, blk b V x = some k → ¬ X k) : RM w' b R V := by
 refine ⟨(hb.block b (heap_lt h.box) (hx 0 b rfl)).trans h.box, h.dd.but hb (hx 2), h.oo.but hb (hx 3), h.pp.but hb (hx 4), ownsRow_but h.aa hb (hx 5), ownsRow_but h.ff hb (hx 1), h.ln, fun i hi => ?_, h.ds, fun x k hk => Nat.lt_of_lt_of_le (h.lt x k hk) hb.size⟩
 have hl : i < V.T.length := by rw [h.ln]; exact hi
 obtain ⟨a, c⟩ := h.nn i hi
 exact ⟨Oc.but a hb (fun k hk => hx (2 * i + 6) k (by rw [blk_N b V hl]; exact hk)), Oc.but c hb (fun k hk => hx (2 * i + 7) k (by rw [blk_L b V hl]; exact hk))⟩
theorem RM.below {w w' : World} {b : Nat} {R : RB} {V : RV} (h : RM w b R V) (hb : Below w.heap.size w w') : RM w' b R V := h.but (But.of_below hb fun _ => False) fun _ _ _ c => c
def RB.new (most : Int) : RB := ⟨most, [], [], [], [], [], 0, 0, 0, 0, 0, 0, 0, 0, 0, 0, false, 0⟩
def RV.nil : RV := ⟨.slice none 0 0, .slice none 0 0, .slice none 0 0, .slice none 0 0, .slice none 0 0, []⟩
theorem rm_new (w : World) (most : Int) : RM (w.alloc (.cells ((RB.new most).cs RV.nil) TRD)) w.heap.size (RB.new most) RV.nil := by
 refine ⟨heap_alloc_new _ _, En.nil _ _, En.nil _ _, World.ownsRow_nil _ _ _ _, World.ownsRow_nil _ _ _ _, World.ownsRow_nil _ _ _ _, rfl, fun i hi => by simp [RB.new] at hi, ?_, ?_⟩
 ·intro x y hxy k h1 h2
  have hz : ∀ z k, blk w.heap.size RV.nil z = some k → z = 0 := fun z k hk => by
   match z with
   | 0 => rfl
   | 1 => simp [blk, RV.nil, Value.ownBlock] at hk
   | 2 => simp [blk, RV.nil, Value.ownBlock] at hk
   | 3 => simp [blk, RV.nil, Value.ownBlock] at hk
   | 4 => simp [blk, RV.nil, Value.ownBlock] at hk
   | 5 => simp [blk, RV.nil, Value.ownBlock] at hk
   | n + 6 => simp [blk, RV.nil] at hk
  exact hxy ((hz x k h1).trans (hz y k h2).symm)
 ·intro z k hk
  match z with
  | 0 => simp [blk] at hk; simp; omega
  | 1 => simp [blk, RV.nil, Value.ownBlock] at hk
  | 2 => simp [blk, RV.nil, Value.ownBlock] at hk
  | 3 => simp [blk, RV.nil, Value.ownBlock] at hk
  | 4 => simp [blk, RV.nil, Value.ownBlock] at hk
  | 5 => simp [blk, RV.nil, Value.ownBlock] at hk
  | n + 6 => simp [blk, RV.nil] at hk
theorem new_ref (w : World) (most : Int) (h0 : 0 ≤ most) (h1 : most ≤ 16777216) :
    Calls Tryz.prog 10 #[.int .i64 most] w fun e w' => e = .returned (.pointer (some ⟨w.heap.size, 0, none⟩)) ∧ RM w' w.heap.size (RB.new most) RV.nil ∧ Below w.heap.size w w' := by
 have hR := hide (rm_new w most)
 have hB := hide (box_below w (.cells ((RB.new most).cs RV.nil) TRD))
 have a1 : ¬ most < 0 := by omega
 have a2 : ¬ most > 16777216 := by omega
 unfold RB.cs RB.new RV.nil TRD at hR hB
 dsimp only at hR hB
 unfold RB.new RV.nil
 go_enter Tryz.func10, Tryz.ntmps10
 go_wp2_with fail
 go_ret
 exact ⟨rfl, hR.out, hB.out⟩
theorem acells_len (fs : List Ft) : (acells fs).length = fs.length * 3 := by
 induction fs with
 | nil => rfl
 | cons e r ih =>
  have : acells (e :: r) = [.int .i64 e.1, .int .i64 e.2.1, .int .i64 e.2.2] ++ acells r := by simp [acells]
  rw [this, List.length_append, ih, List.length_cons]
  simp
  omega
theorem acells_at (fs : List Ft) : ∀ i (h : i < fs.length), (acells fs)[i * 3]? = some (.int .i64 fs[i].1) ∧ (acells fs)[i * 3 + 1]? = some (.int .i64 fs[i].2.1) ∧ (acells fs)[i * 3 + 2]? = some (.int .i64 fs[i].2.2) := by
 induction fs with
 | nil => intro i h; simp at h
 | cons e r ih =>
  intro i h
  have : acells (e :: r) = [.int .i64 e.1, .int .i64 e.2.1, .int .i64 e.2.2] ++ acells r := by simp [acells]
  rw [this]
  cases i with
  | zero => exact ⟨rfl, rfl, rfl⟩
  | succ i =>
   obtain ⟨a, b, c⟩ := ih i (by simpa using h)
   rw [show (i + 1) * 3 = i * 3 + 1 + 1 + 1 by omega]
   simp only [List.cons_append, List.nil_append, List.getElem?_cons_succ, List.getElem_cons_succ]
   exact ⟨a, b, c⟩
theorem fts_of {B : Nat} {w : World} {v : Value} {fs : List Ft} (h : w.ownsRow B 118 3 v fs.length (acells fs)) : Fts w v fs := by
 have h0 := h
 rcases h.2 with ⟨rfl, e⟩ | ⟨g, cap, cur, rfl, _, _, a, b, _⟩
 ·have : fs = [] := List.length_eq_zero_iff.1 e
  subst this
  exact ⟨none, 0, rfl, Nat.le_refl _, Nat.zero_le _, fun i hi => by simp at hi⟩
 ·refine ⟨_, _, rfl, a, b, fun i hi => ⟨g, 0, rfl, ?_, ?_, ?_⟩⟩
  ·have := World.ownsRow.cells h0 (g := g) rfl (i * 3) _ (acells_at fs i hi).1
   rw [addr_add] at this
   exact this
  ·have := World.ownsRow.cells h0 (g := g) rfl (i * 3 + 1) _ (acells_at fs i hi).2.1
   rw [addr_add] at this
   exact this
  ·have := World.ownsRow.cells h0 (g := g) rfl (i * 3 + 2) _ (acells_at fs i hi).2.2
   rw [addr_add] at this
   exact this
theorem own_zero {B : Nat} {w : World} {T : TypeId} {size : Nat} {v : Value} {n : Nat} {xs : List Value} (h : w.ownsRow B T size v n xs) {g off m c : Nat} (e : v = .slice (some ⟨g, off, none⟩) m c) : v.ownBlock = some g := by
 rcases h.2 with ⟨rfl, _⟩ | ⟨g', cap, cur, rfl, _⟩
 ·simp at e
 ·simp only [Value.slice.injEq, Option.some.injEq, Addr.mk.injEq] at e
  rw [← e.1.1]
  simp [Value.ownBlock]
def RB.flt (R : RB) : Ft := rfl1 R.fs (R.si + 1)
def RB.cj (R : RB) : Nat → Int
 | 0 => R.c0
 | 1 => R.c1
 | 2 => R.c2
 | 3 => R.c3
 | 4 => R.c4
 | 5 => R.c5
 | _ => R.c6
def RB.tick (R : RB) : RB := { R with c7 := R.c7 + 1, si := R.si + 1, boom := 0, down := R.down || decide (R.flt.2.1 = 3) }
def RB.beg (R : RB) : Nat → RB
 | 0 => { R.tick with c0 := R.c0 + 1 }
 | 1 => { R.tick with c1 := R.c1 + 1 }
 | 2 => { R.tick with c2 := R.c2 + 1 }
 | 3 => { R.tick with c3 := R.c3 + 1 }
 | 4 => { R.tick with c4 := R.c4 + 1 }
 | 5 => { R.tick with c5 := R.c5 + 1 }
 | _ => { R.tick with c6 := R.c6 + 1 }
theorem beg_cs (R : RB) (V : RV) (j : Nat) (hj : j < 7) : begF (begC (R.cs V) j (R.cj j) R.c7 R.si) R.flt.2.1 = (R.beg j).cs V := by
 unfold begF
 by_cases h : R.flt.2.1 = 3
 ·have hd : (R.down || decide (R.flt.2.1 = 3)) = true := by simp [h]
  rw [if_pos h]
  match j, hj with
  | 0, _ => simp [begC, RB.cs, RB.beg, RB.tick, RB.cj, hd]
  | 1, _ => simp [begC, RB.cs, RB.beg, RB.tick, RB.cj, hd]
  | 2, _ => simp [begC, RB.cs, RB.beg, RB.tick, RB.cj, hd]
  | 3, _ => simp [begC, RB.cs, RB.beg, RB.tick, RB.cj, hd]
  | 4, _ => simp [begC, RB.cs, RB.beg, RB.tick, RB.cj, hd]
  | 5, _ => simp [begC, RB.cs, RB.beg, RB.tick, RB.cj, hd]
  | 6, _ => simp [begC, RB.cs, RB.beg, RB.tick, RB.cj, hd]
 ·have hd : (R.down || decide (R.flt.2.1 = 3)) = R.down := by simp [h]
  rw [if_neg h]
  match j, hj with
  | 0, _ => simp [begC, RB.cs, RB.beg, RB.tick, RB.cj, hd]
  | 1, _ => simp [begC, RB.cs, RB.beg, RB.tick, RB.cj, hd]
  | 2, _ => simp [begC, RB.cs, RB.beg, RB.tick, RB.cj, hd]
  | 3, _ => simp [begC, RB.cs, RB.beg, RB.tick, RB.cj, hd]
  | 4, _ => simp [begC, RB.cs, RB.beg, RB.tick, RB.cj, hd]
  | 5, _ => simp [begC, RB.cs, RB.beg, RB.tick, RB.cj, hd]
  | 6, _ => simp [begC, RB.cs, RB.beg, RB.tick, RB.cj, hd]
theorem beg_same (R : RB) (j : Nat) : (R.beg j).F = R.F ∧ (R.beg j).dir = R.dir ∧ (R.beg j).old = R.old ∧ (R.beg j).pe = R.pe ∧ (R.beg j).fs = R.fs ∧ (R.beg j).most = R.most := by
 unfold RB.beg
 split <;> exact ⟨rfl, rfl, rfl, rfl, rfl, rfl⟩
structure RB.ok (R : RB) : Prop where
 lo : 0 ≤ R.c0 ∧ 0 ≤ R.c1 ∧ 0 ≤ R.c2 ∧ 0 ≤ R.c3 ∧ 0 ≤ R.c4 ∧ 0 ≤ R.c5 ∧ 0 ≤ R.c6 ∧ 0 ≤ R.c7 ∧ 0 ≤ R.si
 hi : R.c0 ≤ R.c7 ∧ R.c1 ≤ R.c7 ∧ R.c2 ≤ R.c7 ∧ R.c3 ≤ R.c7 ∧ R.c4 ≤ R.c7 ∧ R.c5 ≤ R.c7 ∧ R.c6 ≤ R.c7 ∧ R.si ≤ R.c7
 no4 : ∀ f ∈ R.fs, f.2.1 ≠ 4
theorem RM.turn {w w' : World} {b : Nat} {R R' : RB} {V : RV} (h : RM w b R V) (hb : But (fun k => k = b) w w') (hbox : w'.heap[b]? = some (.cells (R'.cs V) TRD (0, 0))) (e : R'.F = R.F ∧ R'.dir = R.dir ∧ R'.old = R.old ∧ R'.pe = R.pe ∧ R'.fs = R.fs) : RM w' b R' V := by
 obtain ⟨e1, e2, e3, e4, e5⟩ := e
 have nb : ∀ x, x ≠ 0 → ∀ k, blk b V x = some k → ¬ k = b := fun x hx k hk c => h.ds 0 x (Ne.symm hx) b rfl (by rw [hk, c])
 refine ⟨hbox, by rw [e2]; exact h.dd.but hb (nb 2 (by omega)), by rw [e3]; exact h.oo.but hb (nb 3 (by omega)), by rw [e4]; exact h.pp.but hb (nb 4 (by omega)), by rw [e5]; exact ownsRow_but h.aa hb (nb 5 (by omega)), by rw [e1]; exact ownsRow_but h.ff hb (nb 1 (by omega)), by rw [e1]; exact h.ln, ?_, h.ds, fun x k hk => Nat.lt_of_lt_of_le (h.lt x k hk) hb.size⟩
 intro i hi
 have hi' : i < R.F.length := by rw [← e1]; exact hi
 have hl : i < V.T.length := by rw [h.ln]; exact hi'
 obtain ⟨a, c⟩ := h.nn i hi'
 simp only [e1]
 exact ⟨Oc.but a hb (fun k hk => nb (2 * i + 6) (by omega) k (by rw [blk_N b V hl]; exact hk)), Oc.but c hb (fun k hk => nb (2 * i + 7) (by omega) k (by rw [blk_L b V hl]; exact hk))⟩
theorem begins_rm {w : World} {b : Nat} {R : RB} {V : RV} (h : RM w b R V) (ho : R.ok) (hc : R.c7 ≤ 1000000000) (j : Nat) (hj : j < 7) :
    Calls Tryz.prog 97 #[.pointer (some ⟨b, 0, none⟩), .pointer (some ⟨b, 7 + j, none⟩)] w fun e w' => e = .returned (fv R.flt) ∧ RM w' b (R.beg j) V ∧ But (fun k => k = b) w w' := by
 obtain ⟨l0, l1, l2, l3, l4, l5, l6, l7, l8⟩ := ho.lo
 obtain ⟨m0, m1, m2, m3, m4, m5, m6, m8⟩ := ho.hi
 have hcj : (R.cs V)[7 + j]? = some (.int .i64 (R.cj j)) ∧ 0 ≤ R.cj j ∧ R.cj j ≤ R.c7 := by
  match j, hj with
  | 0, _ => exact ⟨rfl, l0, m0⟩
  | 1, _ => exact ⟨rfl, l1, m1⟩
  | 2, _ => exact ⟨rfl, l2, m2⟩
  | 3, _ => exact ⟨rfl, l3, m3⟩
  | 4, _ => exact ⟨rfl, l4, m4⟩
  | 5, _ => exact ⟨rfl, l5, m5⟩
  | 6, _ => exact ⟨rfl, l6, m6⟩
 have hAb : ∀ g off n c, V.vA = .slice (some ⟨g, off, none⟩) n c → 0 < n → g ≠ b := fun g off n c e _ e2 => h.ds 0 5 (by omega) b rfl (by show V.vA.ownBlock = _; rw [own_zero h.aa e, e2])
 refine (begins_ref w b j (R.cs V) (R.cj j) R.c7 R.si V.vA R.fs _ _ h.box rfl hj hcj.1 rfl rfl rfl rfl rfl (fts_of h.aa) hAb ho.no4 hcj.2.1 (by omega) l7 (by omega) l8 (by omega)).mono ?_
 rintro e w' ⟨he, hb, hbt⟩
 refine ⟨he, ?_, hbt⟩
 obtain ⟨e1, e2, e3, e4, e5, _⟩ := beg_same R j
 have hb2 : w'.heap[b]? = some (.cells ((R.beg j).cs V) TRD (0, 0)) := by rw [← beg_cs R V j hj]; exact hb
 exact h.turn hbt hb2 ⟨e1, e2, e3, e4, e5⟩
def RB.chg (R : RB) (c : RC) : RB := { R with dir := c.run R.dir, pe := R.pe ++ [c] }
theorem chg_cs (R : RB) (V : RV) (c : RC) (vD vP : Value) : ((R.cs V).setIfInBounds 2 vD).setIfInBounds 4 vP = (R.chg c).cs { V with vD := vD, vP := vP } := by simp [RB.cs, RB.chg]
theorem blk_dp (b : Nat) (V : RV) (vD vP : Value) (x : Nat) (h2 : x ≠ 2) (h4 : x ≠ 4) : blk b { V with vD := vD, vP := vP } x = blk b V x := by
 match x with
 | 0 => rfl
 | 1 => rfl
 | 2 => exact absurd rfl h2
 | 3 => rfl
 | 4 => exact absurd rfl h4
 | 5 => rfl
 | n + 6 => rfl
theorem change_rm {w : World} {b : Nat} {R : RB} {V : RV} (h : RM w b R V) (c : RC) (hl : (R.dir.length : Int) ≤ 1000000000) (hpl : (R.pe.length : Int) ≤ 1000000000) (f0 : -9223372036854775808 ≤ c.fi) (f1 : c.fi ≤ 9223372036854775807) :
    Calls Tryz.prog 99 #[.pointer (some ⟨b, 0, none⟩), c.v] w fun e w' => e = .returned (.tuple #[]) ∧ (∃ V', RM w' b (R.chg c) V' ∧ ∀ x k, blk b V' x = some k → blk b V x = some k ∨ w.heap.size ≤ k) ∧ But (fun k => ∃ x, blk b V x = some k) w w' := by
 have hDb : V.vD.ownBlock ≠ some b := h.ds 0 2 (by omega) b rfl
 have hPb : V.vP.ownBlock ≠ some b := h.ds 0 4 (by omega) b rfl
 have hDP : ∀ k, V.vD.ownBlock = some k → V.vP.ownBlock ≠ some k := h.ds 2 4 (by omega)
 refine (change_ref w b (R.cs V) V.vD V.vP R.dir R.pe c h.box rfl rfl rfl h.dd h.pp hPb hDb hDP hl hpl f0 f1).mono ?_
 rintro e w' ⟨rfl, ⟨vD, vP, hbox, hd, hp, nD, nP, hDP'⟩, hbt⟩
 refine ⟨rfl, ⟨{ V with vD := vD, vP := vP }, ?_, ?_⟩, hbt.mono ?_⟩
 ·have nx : ∀ x, x ≠ 0 → x ≠ 4 → ∀ k, blk b V x = some k → ¬ (k = b ∨ V.vP.ownBlock = some k) := fun x h0 h4 k hk c => by
    rcases c with c | c
    ·exact h.ds 0 x (Ne.symm h0) b rfl (by rw [hk, c])
    ·exact h.ds x 4 h4 k hk c
  have hsz := hbt.size
  refine ⟨by rw [← chg_cs]; exact hbox, hd, h.oo.but hbt (nx 3 (by omega) (by omega)), hp, ownsRow_but h.aa hbt (nx 5 (by omega) (by omega)), ownsRow_but h.ff hbt (nx 1 (by omega) (by omega)), h.ln, fun i hi => ?_, ?_, ?_⟩
  ·have hi' : i < R.F.length := hi
   have hl' : i < V.T.length := by rw [h.ln]; exact hi'
   obtain ⟨a, q⟩ := h.nn i hi'
   exact ⟨Oc.but a hbt (fun k hk => nx (2 * i + 6) (by omega) (by omega) k (by rw [blk_N b V hl']; exact hk)), Oc.but q hbt (fun k hk => nx (2 * i + 7) (by omega) (by omega) k (by rw [blk_L b V hl']; exact hk))⟩
  ·refine h.ds.step (H := w.heap.size) h.lt (fun x => ?_) (fun x y hxy k hk h1 h2 => ?_)
   ·by_cases h2 : x = 2
    ·subst h2; exact nD
    ·by_cases h4 : x = 4
     ·subst h4; exact nP
     ·exact .inl (blk_dp b V vD vP x h2 h4)
   ·have old : ∀ z, z ≠ 2 → z ≠ 4 → blk b { V with vD := vD, vP := vP } z ≠ some k := fun z z2 z4 hz => by
      rw [blk_dp b V vD vP z z2 z4] at hz
      have := h.lt z k hz
      omega
    by_cases x2 : x = 2
    ·subst x2
     by_cases y4 : y = 4
     ·subst y4; exact hDP' k h1 h2
     ·exact old y (Ne.symm hxy) y4 h2
    ·by_cases x4 : x = 4
     ·subst x4
      by_cases y2 : y = 2
      ·subst y2; exact hDP' k h2 h1
      ·exact old y y2 (Ne.symm hxy) h2
     ·exact old x x2 x4 h1
  ·intro x k hk
   by_cases h2 : x = 2
   ·subst h2; exact (hd.lt k hk).2
   ·by_cases h4 : x = 4
    ·subst h4; exact (hp.lt k hk).2
    ·rw [blk_dp b V vD vP x h2 h4] at hk
     have := h.lt x k hk
     omega
 ·intro x k hk
  by_cases h2 : x = 2
  ·subst h2
   rcases nD with e | e
   ·exact .inl (e.symm.trans hk)
   ·exact .inr (e k hk)
  ·by_cases h4 : x = 4
   ·subst h4
    rcases nP with e | e
    ·exact .inl (e.symm.trans hk)
    ·exact .inr (e k hk)
   ·rw [blk_dp b V vD vP x h2 h4] at hk
    exact .inl hk
 ·intro k _ c
  rcases c with c | c
  ·exact ⟨0, by rw [c]; rfl⟩
  ·exact ⟨4, c⟩
def Rgo (w w' : World) (b : Nat) (V : RV) (R' : RB) : Prop := (∃ V', RM w' b R' V' ∧ ∀ x k, blk b V' x = some k → blk b V x = some k ∨ w.heap.size ≤ k) ∧ But (fun k => ∃ x, blk b V x = some k) w w'
theorem Rgo.same {w w' : World} {b : Nat} {V : RV} {R' : RB} (h : RM w' b R' V) (hb : But (fun k => k = b) w w') : Rgo w w' b V R' := ⟨⟨V, h, fun x k hk => .inl hk⟩, hb.mono fun k _ e => ⟨0, by rw [e]; rfl⟩⟩
theorem Rgo.refl {w : World} {b : Nat} {V : RV} {R : RB} (h : RM w b R V) : Rgo w w b V R := Rgo.same h (But.of_below (Below.refl _ _) _)
theorem Rgo.behind {w w1 w' : World} {b : Nat} {V : RV} {R' : RB} (h : Rgo w1 w' b V R') (hb : But (fun k => k = b) w w1) : Rgo w w' b V R' := by
 obtain ⟨⟨V', hm, hx⟩, ht⟩ := h
 refine ⟨⟨V', hm, fun x k hk => (hx x k hk).imp id fun q => Nat.le_trans hb.size q⟩, (hb.mono fun k _ e => ⟨0, by rw [e]; rfl⟩).trans ht⟩
theorem RM.cell {w : World} {b : Nat} {R : RB} {V : RV} (h : RM w b R V) (i : Nat) : w.cell? ⟨b, i, none⟩ = (R.cs V)[i]? := by simp [World.cell?, h.box]
theorem refused_rm {w : World} {b : Nat} {R : RB} {V : RV} (h : RM w b R V) (s : ByteArray) (hs : s.size ≤ maxLen) (there : Bool) :
    Calls Tryz.prog 95 #[.pointer (some ⟨b, 0, none⟩), .string s, .bool there] w fun e w' => e = .returned (.int .i64 (refN R.down R.dir s there)) ∧ w' = w :=
 refused_ref w b V.vD R.dir R.down there s ((h.cell 2).trans rfl) ((h.cell 16).trans rfl) h.dd.tr hs
def strN (k : Int) : Int := if k = 0 ∨ k = 2 then 0 else toldN k
def RB.remove (R : RB) (s : ByteArray) : RB × Int :=
 if refN R.down R.dir s true ≠ 0 then (R, refN R.down R.dir s true)
 else if strN R.flt.2.1 ≠ 0 then (R.beg 5, strN R.flt.2.1)
 else ((R.beg 5).chg ⟨⟨#[]⟩, -1, s⟩, 0)
theorem toldN_ne (k : Int) : toldN k ≠ 0 := by unfold toldN; split <;> (try split) <;> (try split) <;> decide
theorem remove_rm {w : World} {b : Nat} {R : RB} {V : RV} (h : RM w b R V) (ho : R.ok) (hc : R.c7 ≤ 1000000000) (hl : (R.dir.length : Int) ≤ 1000000000) (hpl : (R.pe.length : Int) ≤ 1000000000) (s : ByteArray) (hs : s.size ≤ maxLen) :
    Calls Tryz.prog 54 #[.pointer (some ⟨b, 0, none⟩), .string s] w fun e w' => e = .returned (.int .i64 (R.remove s).2) ∧ Rgo w w' b V (R.remove s).1 := by
 have hR := refused_rm h s hs true
 have hB := begins_rm h ho hc 5 (by omega)
 obtain ⟨X, hX⟩ : ∃ X, Hid (R.remove s = X) := ⟨_, rfl⟩
 rw [hX.out]
 by_cases h0 : refN R.down R.dir s true = 0
 ·rw [h0] at hR
  obtain ⟨F, hF⟩ : ∃ F : Ft, Hid (R.flt = F) := ⟨R.flt, rfl⟩
  rw [hF.out] at hB
  obtain ⟨fa, fk, fp⟩ := F
  have hCh : Hid (∀ q, RM q b (R.beg 5) V → Calls Tryz.prog 99 #[.pointer (some ⟨b, 0, none⟩), .agg #[.string ⟨#[]⟩, .int .i64 (-1), .string s]] q fun e w' => e = .returned (.tuple #[]) ∧ Rgo q w' b V ((R.beg 5).chg ⟨⟨#[]⟩, -1, s⟩)) := fun q hq => by
   obtain ⟨_, e2, _, e4, _⟩ := beg_same R 5
   exact change_rm hq ⟨⟨#[]⟩, -1, s⟩ (by rw [e2]; exact hl) (by rw [e4]; exact hpl) (by show (-9223372036854775808 : Int) ≤ -1; decide) (by show (-1 : Int) ≤ 9223372036854775807; decide)
  have hTo := told_ref
  clear h ho hc
  unfold fv at hB
  dsimp only at hB
  by_cases hk : fk = 0 ∨ fk = 2
  ·have e1 : Hid (X = ((R.beg 5).chg ⟨⟨#[]⟩, -1, s⟩, 0)) := by show _ = _; rw [← hX.out]; unfold RB.remove; rw [if_neg (by rw [h0]; simp), hF.out, if_neg (by unfold strN; rw [if_pos hk]; simp)]
   rcases hk with rfl | rfl
   ·go_enter Tryz.func54, Tryz.ntmps54
    go_upto_region 5 with (first
     | (go_at_call 95; refine hR.mono ?_; rintro e w1 ⟨rfl, e1'⟩; subst w1)
     | (go_at_call 97; refine hB.mono ?_; rintro e w1 ⟨rfl, M1, b1⟩; replace M1 := hide M1; replace b1 := hide b1))
    have z1 := heap_alloc_new w1 (.cells #[.int .i64 fa, .int .i64 0, .int .i64 fp] 118)
    have BX := hide (box_below w1 (.cells #[.int .i64 fa, .int .i64 0, .int .i64 fp] 118))
    obtain ⟨Y, hY⟩ : ∃ Y, Hid (w1.alloc (.cells #[.int .i64 fa, .int .i64 0, .int .i64 fp] 118) = Y) := ⟨_, rfl⟩
    rw [hY.out] at z1 BX ⊢
    have y1 : Y.cell? ⟨w1.heap.size, 1, none⟩ = some (.int .i64 0) := by simp [World.cell?, z1]
    have MY := hide (M1.out.below BX.out)
    have bY : Hid (But (fun k => k = b) w Y) := b1.out.trans (But.of_below BX.out _)
    clear z1
    go_wp2_with (go_at_call 99; refine (hCh.out _ MY.out).mono ?_; rintro e w2 ⟨rfl, G2⟩; replace G2 := hide G2)
    go_ret
    rw [e1.out]
    exact ⟨rfl, G2.out.behind bY.out⟩
   ·go_enter Tryz.func54, Tryz.ntmps54
    go_upto_region 5 with (first
     | (go_at_call 95; refine hR.mono ?_; rintro e w1 ⟨rfl, e1'⟩; subst w1)
     | (go_at_call 97; refine hB.mono ?_; rintro e w1 ⟨rfl, M1, b1⟩; replace M1 := hide M1; replace b1 := hide b1))
    have z1 := heap_alloc_new w1 (.cells #[.int .i64 fa, .int .i64 2, .int .i64 fp] 118)
    have BX := hide (box_below w1 (.cells #[.int .i64 fa, .int .i64 2, .int .i64 fp] 118))
    obtain ⟨Y, hY⟩ : ∃ Y, Hid (w1.alloc (.cells #[.int .i64 fa, .int .i64 2, .int .i64 fp] 118) = Y) := ⟨_, rfl⟩
    rw [hY.out] at z1 BX ⊢
    have y1 : Y.cell? ⟨w1.heap.size, 1, none⟩ = some (.int .i64 2) := by simp [World.cell?, z1]
    have MY := hide (M1.out.below BX.out)
    have bY : Hid (But (fun k => k = b) w Y) := b1.out.trans (But.of_below BX.out _)
    clear z1
    go_wp2_with (go_at_call 99; refine (hCh.out _ MY.out).mono ?_; rintro e w2 ⟨rfl, G2⟩; replace G2 := hide G2)
    go_ret
    rw [e1.out]
    exact ⟨rfl, G2.out.behind bY.out⟩
  ·have hk0 : ¬ fk = 0 := fun c => hk (.inl c)
   have hk2 : ¬ fk = 2 := fun c => hk (.inr c)
   have e1 : Hid (X = (R.beg 5, toldN fk)) := by
    show _ = _
    have hst : strN fk = toldN fk := by unfold strN; rw [if_neg hk]
    rw [← hX.out]; unfold RB.remove; rw [if_neg (by rw [h0]; simp), hF.out, if_pos (by show strN fk ≠ 0; rw [hst]; exact toldN_ne fk)]
    show (R.beg 5, strN fk) = _
    rw [hst]
   have hTo2 : Hid (∀ q, Calls Tryz.prog 98 #[.int .i64 fk] q fun e w' => e = .returned (.int .i64 (toldN fk)) ∧ w' = q) := fun q => told_ref q fk
   obtain ⟨tn, htn⟩ : ∃ tn, Hid (toldN fk = tn) := ⟨_, rfl⟩
   rw [htn.out] at hTo2
   have q0 : (fk != 0) = true := by simpa using hk0
   have q2 : (fk != 2) = true := by simpa using hk2
   clear hTo hk
   ·go_enter Tryz.func54, Tryz.ntmps54
    go_upto_region 5 with (first
     | (go_at_call 95; refine hR.mono ?_; rintro e w1 ⟨rfl, e1'⟩; subst w1)
     | (go_at_call 97; refine hB.mono ?_; rintro e w1 ⟨rfl, M1, b1⟩; replace M1 := hide M1; replace b1 := hide b1))
    have z1 := heap_alloc_new w1 (.cells #[.int .i64 fa, .int .i64 fk, .int .i64 fp] 118)
    have BX := hide (box_below w1 (.cells #[.int .i64 fa, .int .i64 fk, .int .i64 fp] 118))
    obtain ⟨Y, hY⟩ : ∃ Y, Hid (w1.alloc (.cells #[.int .i64 fa, .int .i64 fk, .int .i64 fp] 118) = Y) := ⟨_, rfl⟩
    rw [hY.out] at z1 BX ⊢
    have y1 : Y.cell? ⟨w1.heap.size, 1, none⟩ = some (.int .i64 fk) := by simp [World.cell?, z1]
    have MY := hide (M1.out.below BX.out)
    have bY : Hid (But (fun k => k = b) w Y) := b1.out.trans (But.of_below BX.out _)
    clear z1
    go_wp2_with (go_at_call 98; refine (hTo2.out _).mono ?_; rintro e w2 ⟨rfl, e2⟩; subst w2)
    go_ret
    rw [e1.out]
    exact ⟨by rw [← htn.out]; rfl, Rgo.same MY.out bY.out⟩
 ·have e1 : Hid (X = (R, refN R.down R.dir s true)) := by show _ = _; rw [← hX.out]; unfold RB.remove; rw [if_pos h0]
  have M0 := hide (Rgo.refl h)
  clear h ho hc hB
  generalize refN R.down R.dir s true = rn at *
  go_enter Tryz.func54, Tryz.ntmps54
  go_wp2_with (go_at_call 95; refine hR.mono ?_; rintro e w1 ⟨rfl, e1'⟩; subst w1)
  go_ret
  rw [e1.out]
  exact ⟨rfl, M0.out⟩
def RB.ref2 (R : RB) (f t : ByteArray) : Int := if refN R.down R.dir f false ≠ 0 then refN R.down R.dir f false else if refN R.down R.dir t false ≠ 0 then refN R.down R.dir t false else refN R.down R.dir f true
def RB.rename (R : RB) (f t : ByteArray) : RB × Int :=
 if R.ref2 f t ≠ 0 then (R, R.ref2 f t)
 else if strN R.flt.2.1 ≠ 0 then (R.beg 4, strN R.flt.2.1)
 else if f = t then (R.beg 4, 0)
 else ((R.beg 4).chg ⟨t, findN R.dir f.data.toList, f⟩, 0)
theorem same_str (s : ByteArray) : (s.toList == s.toList) = true := by simp
theorem other_str {s t : ByteArray} (h : s ≠ t) : (s.toList == t.toList) = false := by
 rw [ByteArray.toList_eq, ByteArray.toList_eq]
 have : s.data.toList ≠ t.data.toList := fun e => h (ByteArray.ext (Array.toList_inj.1 e))
 simpa using this
theorem rename_no {w : World} {b : Nat} {R : RB} {V : RV} (h : RM w b R V) (f t : ByteArray) (hf : f.size ≤ maxLen) (ht : t.size ≤ maxLen) (h0 : R.ref2 f t ≠ 0) :
    Calls Tryz.prog 52 #[.pointer (some ⟨b, 0, none⟩), .string f, .string t] w fun e w' => e = .returned (.int .i64 (R.ref2 f t)) ∧ w' = w := by
 have hR1 := refused_rm h f hf false
 have hR2 := refused_rm h t ht false
 have hR3 := refused_rm h f hf true
 unfold RB.ref2 at h0 ⊢
 generalize refN R.down R.dir f false = n1 at *
 generalize refN R.down R.dir t false = n2 at *
 generalize refN R.down R.dir f true = n3 at *
 by_cases a1 : n1 = 0
 ·subst a1
  rw [if_neg (by simp)] at h0 ⊢
  by_cases a2 : n2 = 0
  ·subst a2
   rw [if_neg (by simp)] at h0 ⊢
   go_enter Tryz.func52, Tryz.ntmps52
   go_upto_region 3 with (go_at_call 95; refine hR1.mono ?_; rintro e w1 ⟨rfl, e1'⟩; subst w1)
   go_upto_region 5 with (go_at_call 95; refine hR2.mono ?_; rintro e w1 ⟨rfl, e1'⟩; subst w1)
   go_wp2_with (go_at_call 95; refine hR3.mono ?_; rintro e w1 ⟨rfl, e1'⟩; subst w1)
   go_ret
   exact ⟨rfl, rfl⟩
  ·rw [if_pos a2]
   go_enter Tryz.func52, Tryz.ntmps52
   go_upto_region 3 with (go_at_call 95; refine hR1.mono ?_; rintro e w1 ⟨rfl, e1'⟩; subst w1)
   go_wp2_with (go_at_call 95; refine hR2.mono ?_; rintro e w1 ⟨rfl, e1'⟩; subst w1)
   go_ret
   exact ⟨rfl, rfl⟩
 ·rw [if_pos a1]
  go_enter Tryz.func52, Tryz.ntmps52
  go_wp2_with (go_at_call 95; refine hR1.mono ?_; rintro e w1 ⟨rfl, e1'⟩; subst w1)
  go_ret
  exact ⟨rfl, rfl⟩
theorem ref2_zero {R : RB} {f t : ByteArray} (h : R.ref2 f t = 0) : refN R.down R.dir f false = 0 ∧ refN R.down R.dir t false = 0 ∧ refN R.down R.dir f true = 0 := by
 unfold RB.ref2 at h
 split at h
 ·rename_i q; exact absurd h q
 ·split at h
  ·rename_i q; exact absurd h q
  ·rename_i q1 q2; exact ⟨by simpa using q1, by simpa using q2, h⟩
theorem rename_rm {w : World} {b : Nat} {R : RB} {V : RV} (h : RM w b R V) (ho : R.ok) (hc : R.c7 ≤ 1000000000) (hl : (R.dir.length : Int) ≤ 1000000000) (hpl : (R.pe.length : Int) ≤ 1000000000) (hfi : ∀ n, findN R.dir n ≤ 9223372036854775807) (f t : ByteArray) (hf : f.size ≤ maxLen) (ht : t.size ≤ maxLen) :
    Calls Tryz.prog 52 #[.pointer (some ⟨b, 0, none⟩), .string f, .string t] w fun e w' => e = .returned (.int .i64 (R.rename f t).2) ∧ Rgo w w' b V (R.rename f t).1 := by
 obtain ⟨X, hX⟩ : ∃ X, Hid (R.rename f t = X) := ⟨_, rfl⟩
 rw [hX.out]
 by_cases h0 : R.ref2 f t = 0
 ·obtain ⟨z1, z2, z3⟩ := ref2_zero h0
  have hR1 := refused_rm h f hf false
  have hR2 := refused_rm h t ht false
  have hR3 := refused_rm h f hf true
  rw [z1] at hR1
  rw [z2] at hR2
  rw [z3] at hR3
  have hB := begins_rm h ho hc 4 (by omega)
  obtain ⟨F, hF⟩ : ∃ F : Ft, Hid (R.flt = F) := ⟨R.flt, rfl⟩
  rw [hF.out] at hB
  obtain ⟨fa, fk, fp⟩ := F
  have hvd : ∃ da dn dc, V.vD = .slice da dn dc := by rcases h.dd.form with ⟨e, _⟩ | ⟨g, cap, e, _⟩ <;> exact ⟨_, _, _, e⟩
  obtain ⟨da, dn, dc, hvd⟩ := hvd
  have hnf : -1 ≤ findN R.dir f.data.toList := by unfold findN; split <;> omega
  have hFi : Hid (∀ q, RM q b (R.beg 4) V → Calls Tryz.prog 96 #[V.vD, .string f] q fun e w' => e = .returned (.int .i64 (findN R.dir f.data.toList)) ∧ w' = q) := fun q hq => by
   have := find_ref q V.vD (R.beg 4).dir f hq.dd.tr
   rw [(beg_same R 4).2.1] at this
   exact this
  have hCh : Hid (∀ q, RM q b (R.beg 4) V → Calls Tryz.prog 99 #[.pointer (some ⟨b, 0, none⟩), .agg #[.string t, .int .i64 (findN R.dir f.data.toList), .string f]] q fun e w' => e = .returned (.tuple #[]) ∧ Rgo q w' b V ((R.beg 4).chg ⟨t, findN R.dir f.data.toList, f⟩)) := fun q hq => by
   obtain ⟨_, e2, _, e4, _⟩ := beg_same R 4
   exact change_rm hq ⟨t, findN R.dir f.data.toList, f⟩ (by rw [e2]; exact hl) (by rw [e4]; exact hpl) (by show (-9223372036854775808 : Int) ≤ findN R.dir f.data.toList; omega) (hfi _)
  rw [hvd] at hFi
  clear h ho hc
  unfold fv at hB
  dsimp only at hB
  by_cases hk : fk = 0 ∨ fk = 2
  ·have e0 : R.rename f t = (if f = t then (R.beg 4, 0) else ((R.beg 4).chg ⟨t, findN R.dir f.data.toList, f⟩, 0)) := by unfold RB.rename; rw [if_neg (by rw [h0]; simp), hF.out, if_neg (by unfold strN; rw [if_pos hk]; simp)]
   by_cases hft : f = t
   ·have e1 : Hid (X = (R.beg 4, 0)) := by show _ = _; rw [← hX.out, e0, if_pos hft]
    subst hft
    have qs := same_str f
    clear e0
    rcases hk with rfl | rfl
    ·go_enter Tryz.func52, Tryz.ntmps52
     go_upto_region 3 with (go_at_call 95; refine hR1.mono ?_; rintro e w1 ⟨rfl, e1'⟩; subst w1)
     go_upto_region 5 with (go_at_call 95; refine hR2.mono ?_; rintro e w1 ⟨rfl, e1'⟩; subst w1)
     go_upto_region 8 with (go_at_call 95; refine hR3.mono ?_; rintro e w1 ⟨rfl, e1'⟩; subst w1)
     go_upto_region 9 with (go_at_call 97; refine hB.mono ?_; rintro e w1 ⟨rfl, M1, b1⟩; replace M1 := hide M1; replace b1 := hide b1)
     have z1 := heap_alloc_new w1 (.cells #[.int .i64 fa, .int .i64 0, .int .i64 fp] 118)
     have BX := hide (box_below w1 (.cells #[.int .i64 fa, .int .i64 0, .int .i64 fp] 118))
     obtain ⟨Y, hY⟩ : ∃ Y, Hid (w1.alloc (.cells #[.int .i64 fa, .int .i64 0, .int .i64 fp] 118) = Y) := ⟨_, rfl⟩
     rw [hY.out] at z1 BX ⊢
     have y1 : Y.cell? ⟨w1.heap.size, 1, none⟩ = some (.int .i64 0) := by simp [World.cell?, z1]
     have MY := hide (M1.out.below BX.out)
     have y2 : Y.cell? ⟨b, 2, none⟩ = some V.vD := (MY.out.cell 2).trans rfl
     have bY : Hid (But (fun k => k = b) w Y) := b1.out.trans (But.of_below BX.out _)
     clear z1
     go_wp2_with fail
     go_ret
     rw [e1.out]
     exact ⟨rfl, Rgo.same MY.out bY.out⟩
    ·go_enter Tryz.func52, Tryz.ntmps52
     go_upto_region 3 with (go_at_call 95; refine hR1.mono ?_; rintro e w1 ⟨rfl, e1'⟩; subst w1)
     go_upto_region 5 with (go_at_call 95; refine hR2.mono ?_; rintro e w1 ⟨rfl, e1'⟩; subst w1)
     go_upto_region 8 with (go_at_call 95; refine hR3.mono ?_; rintro e w1 ⟨rfl, e1'⟩; subst w1)
     go_upto_region 9 with (go_at_call 97; refine hB.mono ?_; rintro e w1 ⟨rfl, M1, b1⟩; replace M1 := hide M1; replace b1 := hide b1)
     have z1 := heap_alloc_new w1 (.cells #[.int .i64 fa, .int .i64 2, .int .i64 fp] 118)
     have BX := hide (box_below w1 (.cells #[.int .i64 fa, .int .i64 2, .int .i64 fp] 118))
     obtain ⟨Y, hY⟩ : ∃ Y, Hid (w1.alloc (.cells #[.int .i64 fa, .int .i64 2, .int .i64 fp] 118) = Y) := ⟨_, rfl⟩
     rw [hY.out] at z1 BX ⊢
     have y1 : Y.cell? ⟨w1.heap.size, 1, none⟩ = some (.int .i64 2) := by simp [World.cell?, z1]
     have MY := hide (M1.out.below BX.out)
     have y2 : Y.cell? ⟨b, 2, none⟩ = some V.vD := (MY.out.cell 2).trans rfl
     have bY : Hid (But (fun k => k = b) w Y) := b1.out.trans (But.of_below BX.out _)
     clear z1
     go_wp2_with fail
     go_ret
     rw [e1.out]
     exact ⟨rfl, Rgo.same MY.out bY.out⟩
   ·have e1 : Hid (X = ((R.beg 4).chg ⟨t, findN R.dir f.data.toList, f⟩, 0)) := by show _ = _; rw [← hX.out, e0, if_neg hft]
    have qs := other_str hft
    clear e0
    generalize findN R.dir f.data.toList = fn at *
    rcases hk with rfl | rfl
    ·go_enter Tryz.func52, Tryz.ntmps52
     go_upto_region 3 with (go_at_call 95; refine hR1.mono ?_; rintro e w1 ⟨rfl, e1'⟩; subst w1)
     go_upto_region 5 with (go_at_call 95; refine hR2.mono ?_; rintro e w1 ⟨rfl, e1'⟩; subst w1)
     go_upto_region 8 with (go_at_call 95; refine hR3.mono ?_; rintro e w1 ⟨rfl, e1'⟩; subst w1)
     go_upto_region 9 with (go_at_call 97; refine hB.mono ?_; rintro e w1 ⟨rfl, M1, b1⟩; replace M1 := hide M1; replace b1 := hide b1)
     have z1 := heap_alloc_new w1 (.cells #[.int .i64 fa, .int .i64 0, .int .i64 fp] 118)
     have BX := hide (box_below w1 (.cells #[.int .i64 fa, .int .i64 0, .int .i64 fp] 118))
     obtain ⟨Y, hY⟩ : ∃ Y, Hid (w1.alloc (.cells #[.int .i64 fa, .int .i64 0, .int .i64 fp] 118) = Y) := ⟨_, rfl⟩
     rw [hY.out] at z1 BX ⊢
     have y1 : Y.cell? ⟨w1.heap.size, 1, none⟩ = some (.int .i64 0) := by simp [World.cell?, z1]
     have MY := hide (M1.out.below BX.out)
     have y2 : Y.cell? ⟨b, 2, none⟩ = some V.vD := (MY.out.cell 2).trans rfl
     have bY : Hid (But (fun k => k = b) w Y) := b1.out.trans (But.of_below BX.out _)
     clear z1
     rw [hvd] at y2
     go_wp2_with (first
      | (go_at_call 96; refine (hFi.out _ MY.out).mono ?_; rintro e w2 ⟨rfl, e2⟩; subst w2)
      | (go_at_call 99; refine (hCh.out _ MY.out).mono ?_; rintro e w2 ⟨rfl, G2⟩; replace G2 := hide G2))
     go_ret
     rw [e1.out]
     exact ⟨rfl, G2.out.behind bY.out⟩
    ·go_enter Tryz.func52, Tryz.ntmps52
     go_upto_region 3 with (go_at_call 95; refine hR1.mono ?_; rintro e w1 ⟨rfl, e1'⟩; subst w1)
     go_upto_region 5 with (go_at_call 95; refine hR2.mono ?_; rintro e w1 ⟨rfl, e1'⟩; subst w1)
     go_upto_region 8 with (go_at_call 95; refine hR3.mono ?_; rintro e w1 ⟨rfl, e1'⟩; subst w1)
     go_upto_region 9 with (go_at_call 97; refine hB.mono ?_; rintro e w1 ⟨rfl, M1, b1⟩; replace M1 := hide M1; replace b1 := hide b1)
     have z1 := heap_alloc_new w1 (.cells #[.int .i64 fa, .int .i64 2, .int .i64 fp] 118)
     have BX := hide (box_below w1 (.cells #[.int .i64 fa, .int .i64 2, .int .i64 fp] 118))
     obtain ⟨Y, hY⟩ : ∃ Y, Hid (w1.alloc (.cells #[.int .i64 fa, .int .i64 2, .int .i64 fp] 118) = Y) := ⟨_, rfl⟩
     rw [hY.out] at z1 BX ⊢
     have y1 : Y.cell? ⟨w1.heap.size, 1, none⟩ = some (.int .i64 2) := by simp [World.cell?, z1]
     have MY := hide (M1.out.below BX.out)
     have y2 : Y.cell? ⟨b, 2, none⟩ = some V.vD := (MY.out.cell 2).trans rfl
     have bY : Hid (But (fun k => k = b) w Y) := b1.out.trans (But.of_below BX.out _)
     clear z1
     rw [hvd] at y2
     go_wp2_with (first
      | (go_at_call 96; refine (hFi.out _ MY.out).mono ?_; rintro e w2 ⟨rfl, e2⟩; subst w2)
      | (go_at_call 99; refine (hCh.out _ MY.out).mono ?_; rintro e w2 ⟨rfl, G2⟩; replace G2 := hide G2))
     go_ret
     rw [e1.out]
     exact ⟨rfl, G2.out.behind bY.out⟩
  ·have hk0 : ¬ fk = 0 := fun c => hk (.inl c)
   have hk2 : ¬ fk = 2 := fun c => hk (.inr c)
   have e1 : Hid (X = (R.beg 4, toldN fk)) := by
    show _ = _
    have hst : strN fk = toldN fk := by unfold strN; rw [if_neg hk]
    rw [← hX.out]; unfold RB.rename; rw [if_neg (by rw [h0]; simp), hF.out, if_pos (by show strN fk ≠ 0; rw [hst]; exact toldN_ne fk)]
    show (R.beg 4, strN fk) = _
    rw [hst]
   have hTo2 : Hid (∀ q, Calls Tryz.prog 98 #[.int .i64 fk] q fun e w' => e = .returned (.int .i64 (toldN fk)) ∧ w' = q) := fun q => told_ref q fk
   obtain ⟨tk, htk⟩ : ∃ tk, Hid (toldN fk = tk) := ⟨_, rfl⟩
   rw [htk.out] at hTo2
   have q0 : (fk != 0) = true := by simpa using hk0
   have q2 : (fk != 2) = true := by simpa using hk2
   clear hk
   ·go_enter Tryz.func52, Tryz.ntmps52
    go_upto_region 3 with (go_at_call 95; refine hR1.mono ?_; rintro e w1 ⟨rfl, e1'⟩; subst w1)
    go_upto_region 5 with (go_at_call 95; refine hR2.mono ?_; rintro e w1 ⟨rfl, e1'⟩; subst w1)
    go_upto_region 8 with (go_at_call 95; refine hR3.mono ?_; rintro e w1 ⟨rfl, e1'⟩; subst w1)
    go_upto_region 9 with (go_at_call 97; refine hB.mono ?_; rintro e w1 ⟨rfl, M1, b1⟩; replace M1 := hide M1; replace b1 := hide b1)
    have z1 := heap_alloc_new w1 (.cells #[.int .i64 fa, .int .i64 fk, .int .i64 fp] 118)
    have BX := hide (box_below w1 (.cells #[.int .i64 fa, .int .i64 fk, .int .i64 fp] 118))
    obtain ⟨Y, hY⟩ : ∃ Y, Hid (w1.alloc (.cells #[.int .i64 fa, .int .i64 fk, .int .i64 fp] 118) = Y) := ⟨_, rfl⟩
    rw [hY.out] at z1 BX ⊢
    have y1 : Y.cell? ⟨w1.heap.size, 1, none⟩ = some (.int .i64 fk) := by simp [World.cell?, z1]
    have MY := hide (M1.out.below BX.out)
    have y2 : Y.cell? ⟨b, 2, none⟩ = some V.vD := (MY.out.cell 2).trans rfl
    have bY : Hid (But (fun k => k = b) w Y) := b1.out.trans (But.of_below BX.out _)
    clear z1
    go_wp2_with (go_at_call 98; refine (hTo2.out _).mono ?_; rintro e w2 ⟨rfl, e2⟩; subst w2)
    go_ret
    rw [e1.out]
    exact ⟨by rw [← htk.out]; rfl, Rgo.same MY.out bY.out⟩
 ·have e1 : X = (R, R.ref2 f t) := by rw [← hX.out]; unfold RB.rename; rw [if_pos h0]
  rw [e1]
  refine (rename_no h f t hf ht h0).mono ?_
  rintro e w' ⟨rfl, rfl⟩
  exact ⟨rfl, Rgo.refl h⟩
def RB.kept (R : RB) : RB := { R with old := R.dir, pe := [] }
def RB.syncDir (R : RB) : RB × Int :=
 if R.down then (R, 22)
 else if strN R.flt.2.1 ≠ 0 then (R.beg 6, strN R.flt.2.1)
 else ((R.beg 6).kept, 0)
theorem kept_cs (R : RB) (V : RV) (v : Value) : ((R.cs V).setIfInBounds 3 v).setIfInBounds 4 (.slice none 0 0) = R.kept.cs { V with vO := v, vP := .slice none 0 0 } := by simp [RB.cs, RB.kept]
theorem blk_op (b : Nat) (V : RV) (vO vP : Value) (x : Nat) (h2 : x ≠ 3) (h4 : x ≠ 4) : blk b { V with vO := vO, vP := vP } x = blk b V x := by
 match x with
 | 0 => rfl
 | 1 => rfl
 | 2 => rfl
 | 3 => exact absurd rfl h2
 | 4 => exact absurd rfl h4
 | 5 => rfl
 | n + 6 => rfl
theorem RM.keep {w0 w w' : World} {b : Nat} {R : RB} {V : RV} {v : Value} (h0 : RM w0 b R V) (hw : Below w0.heap.size w0 w) (hv : En w0.heap.size w v R.dir) (hb : But (fun k => k = b) w w') (hbox : w'.heap[b]? = some (.cells (((R.cs V).setIfInBounds 3 v).setIfInBounds 4 (.slice none 0 0)) TRD (0, 0))) : Rgo w0 w' b V R.kept := by
 have h := h0.below hw
 have nx : ∀ x, x ≠ 0 → ∀ k, blk b V x = some k → ¬ k = b := fun x hx k hk c => h.ds 0 x (Ne.symm hx) b rfl (by rw [hk, c])
 have hbl : b < w0.heap.size := heap_lt h0.box
 have hvb : ∀ k, v.ownBlock = some k → ¬ k = b := fun k hk c => by have := (hv.lt k hk).1; omega
 have hsz := hb.size
 refine ⟨⟨{ V with vO := v, vP := .slice none 0 0 }, ?_, ?_⟩, ?_⟩
 ·refine ⟨by rw [← kept_cs]; exact hbox, h.dd.but hb (nx 2 (by omega)), owns_lower2 (hv.but hb hvb) (Nat.zero_le _), World.ownsRow_nil _ _ _ _, ownsRow_but h.aa hb (nx 5 (by omega)), ownsRow_but h.ff hb (nx 1 (by omega)), h.ln, fun i hi => ?_, ?_, ?_⟩
  ·have hi' : i < R.F.length := hi
   have hl' : i < V.T.length := by rw [h.ln]; exact hi'
   obtain ⟨a, q⟩ := h.nn i hi'
   exact ⟨Oc.but a hb (fun k hk => nx (2 * i + 6) (by omega) k (by rw [blk_N b V hl']; exact hk)), Oc.but q hb (fun k hk => nx (2 * i + 7) (by omega) k (by rw [blk_L b V hl']; exact hk))⟩
  ·refine h0.ds.step (H := w0.heap.size) h0.lt (fun x => ?_) (fun x y hxy k hk h1 h2 => ?_)
   ·by_cases h2 : x = 3
    ·subst h2; exact .inr fun k hk => (hv.lt k hk).1
    ·by_cases h4 : x = 4
     ·subst h4; exact .inr fun k hk => by simp [blk, Value.ownBlock] at hk
     ·exact .inl (blk_op b V v _ x h2 h4)
   ·have old : ∀ z, z ≠ 3 → blk b { V with vO := v, vP := .slice none 0 0 } z ≠ some k := fun z z2 hz => by
      by_cases z4 : z = 4
      ·subst z4; simp [blk, Value.ownBlock] at hz
      ·rw [blk_op b V v _ z z2 z4] at hz
       have := h0.lt z k hz
       omega
    by_cases x2 : x = 3
    ·exact old y (fun e => hxy (by rw [x2, e])) h2
    ·exact old x x2 h1
  ·intro x k hk
   by_cases h2 : x = 3
   ·subst h2; have := (hv.lt k hk).2; omega
   ·by_cases h4 : x = 4
    ·subst h4; simp [blk, Value.ownBlock] at hk
    ·rw [blk_op b V v _ x h2 h4] at hk
     have := h.lt x k hk
     omega
 ·intro x k hk
  by_cases h2 : x = 3
  ·subst h2; exact .inr (hv.lt k hk).1
  ·by_cases h4 : x = 4
   ·subst h4; simp [blk, Value.ownBlock] at hk
   ·rw [blk_op b V v _ x h2 h4] at hk
    exact .inl hk
 ·exact (But.of_below hw _).trans (hb.mono fun k _ e => ⟨0, by rw [e]; rfl⟩)
theorem syncDir_rm {w : World} {b : Nat} {R : RB} {V : RV} (h : RM w b R V) (ho : R.ok) (hc : R.c7 ≤ 1000000000) (hl : (R.dir.length : Int) ≤ 1000000000) :
    Calls Tryz.prog 55 #[.pointer (some ⟨b, 0, none⟩)] w fun e w' => e = .returned (.int .i64 R.syncDir.2) ∧ Rgo w w' b V R.syncDir.1 := by
 obtain ⟨X, hX⟩ : ∃ X, Hid (R.syncDir = X) := ⟨_, rfl⟩
 rw [hX.out]
 have d16 : w.cell? ⟨b, 16, none⟩ = some (.bool R.down) := (h.cell 16).trans rfl
 have hB := begins_rm h ho hc 6 (by omega)
 have M0 := hide (Rgo.refl h)
 cases hd : R.down with
 | true =>
  rw [hd] at d16
  have e1 : Hid (X = (R, 22)) := by show _ = _; rw [← hX.out]; unfold RB.syncDir; rw [hd]; rfl
  clear h hB
  go_enter Tryz.func55, Tryz.ntmps55
  go_wp2_with fail
  go_ret
  rw [e1.out]
  exact ⟨rfl, M0.out⟩
 | false =>
  rw [hd] at d16
  obtain ⟨F, hF⟩ : ∃ F : Ft, Hid (R.flt = F) := ⟨R.flt, rfl⟩
  rw [hF.out] at hB
  obtain ⟨fa, fk, fp⟩ := F
  have hvd : ∃ da dn dc, V.vD = .slice da dn dc := by rcases h.dd.form with ⟨e, _⟩ | ⟨g, cap, e, _⟩ <;> exact ⟨_, _, _, e⟩
  obtain ⟨da, dn, dc, hvd⟩ := hvd
  clear h ho hc
  unfold fv at hB
  dsimp only at hB
  by_cases hk : fk = 0 ∨ fk = 2
  ·have e1 : Hid (X = ((R.beg 6).kept, 0)) := by show _ = _; rw [← hX.out]; unfold RB.syncDir; rw [hd, if_neg (by simp), hF.out, if_neg (by unfold strN; rw [if_pos hk]; simp)]
   rcases hk with rfl | rfl
   ·go_enter Tryz.func55, Tryz.ntmps55
    go_upto_region 4 with (go_at_call 97; refine hB.mono ?_; rintro e w1 ⟨rfl, M1, b1⟩; replace M1 := hide M1; replace b1 := hide b1)
    have z1 := heap_alloc_new w1 (.cells #[.int .i64 fa, .int .i64 0, .int .i64 fp] 118)
    have BX := hide (box_below w1 (.cells #[.int .i64 fa, .int .i64 0, .int .i64 fp] 118))
    obtain ⟨Y, hY⟩ : ∃ Y, Hid (w1.alloc (.cells #[.int .i64 fa, .int .i64 0, .int .i64 fp] 118) = Y) := ⟨_, rfl⟩
    rw [hY.out] at z1 BX ⊢
    have y1 : Y.cell? ⟨w1.heap.size, 1, none⟩ = some (.int .i64 0) := by simp [World.cell?, z1]
    have MY := hide (M1.out.below BX.out)
    have y2 : Y.cell? ⟨b, 2, none⟩ = some V.vD := (MY.out.cell 2).trans rfl
    have bY : Hid (But (fun k => k = b) w Y) := b1.out.trans (But.of_below BX.out _)
    clear z1
    have hEr := MY.out.dd.er
    rw [hvd] at y2 hEr
    obtain ⟨v3, w3, r3, Q3, G3⟩ := run_appE (En.nil Y.heap.size Y) hEr (by rw [(beg_same R 6).2.1]; simp; omega) (Nat.le_refl _) 100
    rw [List.nil_append] at Q3
    have X3 : Hid (Below Y.heap.size Y w3) := (Below.refl _ _).grown G3 (Nat.le_refl _) (fun k hk => by simp [Value.ownBlock] at hk)
    have hbx3 : Hid (w3.heap[b]? = some (.cells ((R.beg 6).cs V) TRD (0, 0))) := (X3.out.block b (heap_lt MY.out.box)).trans MY.out.box
    have hv3 : ∃ sa sn sc, v3 = .slice sa sn sc := by rcases Q3.form with ⟨e, _⟩ | ⟨g, cap, e, _⟩ <;> exact ⟨_, _, _, e⟩
    obtain ⟨sa, sn, sc, rfl⟩ := hv3
    replace Q3 := hide Q3
    replace r3 := hide r3
    have t1 : w3.cell? ⟨b, 3, none⟩ = some V.vO := by simp [World.cell?, hbx3.out, RB.cs]
    have t2 : w3.frozen? ⟨b, 3, none⟩ = false := by simp [World.frozen?, hbx3.out]
    have k4 := hide (heap_setCell_same w3 b 3 _ _ (.slice sa sn sc) hbx3.out)
    have t3 : (w3.setCell ⟨b, 3, none⟩ (.slice sa sn sc)).cell? ⟨b, 4, none⟩ = some V.vP := by simp [World.cell?, k4.out, RB.cs]
    have t4 : (w3.setCell ⟨b, 3, none⟩ (.slice sa sn sc)).frozen? ⟨b, 4, none⟩ = false := by simp [World.frozen?, k4.out]
    have k5 := heap_setCell_same _ b 4 _ _ (.slice none 0 0) k4.out
    have g3 := But.of_grownBy (X := fun k => k = b) (grown_setCell w3 b 3 (.slice sa sn sc)) fun k e => by cases e; rfl
    have g4 := But.of_grownBy (X := fun k => k = b) (grown_setCell (w3.setCell ⟨b, 3, none⟩ (.slice sa sn sc)) b 4 (.slice none 0 0)) fun k e => by cases e; rfl
    have fin := hide ((RM.keep MY.out X3.out Q3.out (g3.trans g4) k5).behind bY.out)
    clear hEr G3 k5 g3 g4
    go_wp2_with (at_builtin; refine Lib.wpList_append_run _ rfl (.const (.slice none 0 0)) (.tmp 29) 100 100 rfl _ _ rfl rfl _ _ r3.out ?_)
    go_ret
    rw [e1.out]
    exact ⟨rfl, fin.out⟩
   ·go_enter Tryz.func55, Tryz.ntmps55
    go_upto_region 4 with (go_at_call 97; refine hB.mono ?_; rintro e w1 ⟨rfl, M1, b1⟩; replace M1 := hide M1; replace b1 := hide b1)
    have z1 := heap_alloc_new w1 (.cells #[.int .i64 fa, .int .i64 2, .int .i64 fp] 118)
    have BX := hide (box_below w1 (.cells #[.int .i64 fa, .int .i64 2, .int .i64 fp] 118))
    obtain ⟨Y, hY⟩ : ∃ Y, Hid (w1.alloc (.cells #[.int .i64 fa, .int .i64 2, .int .i64 fp] 118) = Y) := ⟨_, rfl⟩
    rw [hY.out] at z1 BX ⊢
    have y1 : Y.cell? ⟨w1.heap.size, 1, none⟩ = some (.int .i64 2) := by simp [World.cell?, z1]
    have MY := hide (M1.out.below BX.out)
    have y2 : Y.cell? ⟨b, 2, none⟩ = some V.vD := (MY.out.cell 2).trans rfl
    have bY : Hid (But (fun k => k = b) w Y) := b1.out.trans (But.of_below BX.out _)
    clear z1
    have hEr := MY.out.dd.er
    rw [hvd] at y2 hEr
    obtain ⟨v3, w3, r3, Q3, G3⟩ := run_appE (En.nil Y.heap.size Y) hEr (by rw [(beg_same R 6).2.1]; simp; omega) (Nat.le_refl _) 100
    rw [List.nil_append] at Q3
    have X3 : Hid (Below Y.heap.size Y w3) := (Below.refl _ _).grown G3 (Nat.le_refl _) (fun k hk => by simp [Value.ownBlock] at hk)
    have hbx3 : Hid (w3.heap[b]? = some (.cells ((R.beg 6).cs V) TRD (0, 0))) := (X3.out.block b (heap_lt MY.out.box)).trans MY.out.box
    have hv3 : ∃ sa sn sc, v3 = .slice sa sn sc := by rcases Q3.form with ⟨e, _⟩ | ⟨g, cap, e, _⟩ <;> exact ⟨_, _, _, e⟩
    obtain ⟨sa, sn, sc, rfl⟩ := hv3
    replace Q3 := hide Q3
    replace r3 := hide r3
    have t1 : w3.cell? ⟨b, 3, none⟩ = some V.vO := by simp [World.cell?, hbx3.out, RB.cs]
    have t2 : w3.frozen? ⟨b, 3, none⟩ = false := by simp [World.frozen?, hbx3.out]
    have k4 := hide (heap_setCell_same w3 b 3 _ _ (.slice sa sn sc) hbx3.out)
    have t3 : (w3.setCell ⟨b, 3, none⟩ (.slice sa sn sc)).cell? ⟨b, 4, none⟩ = some V.vP := by simp [World.cell?, k4.out, RB.cs]
    have t4 : (w3.setCell ⟨b, 3, none⟩ (.slice sa sn sc)).frozen? ⟨b, 4, none⟩ = false := by simp [World.frozen?, k4.out]
    have k5 := heap_setCell_same _ b 4 _ _ (.slice none 0 0) k4.out
    have g3 := But.of_grownBy (X := fun k => k = b) (grown_setCell w3 b 3 (.slice sa sn sc)) fun k e => by cases e; rfl
    have g4 := But.of_grownBy (X := fun k => k = b) (grown_setCell (w3.setCell ⟨b, 3, none⟩ (.slice sa sn sc)) b 4 (.slice none 0 0)) fun k e => by cases e; rfl
    have fin := hide ((RM.keep MY.out X3.out Q3.out (g3.trans g4) k5).behind bY.out)
    clear hEr G3 k5 g3 g4
    go_wp2_with (at_builtin; refine Lib.wpList_append_run _ rfl (.const (.slice none 0 0)) (.tmp 29) 100 100 rfl _ _ rfl rfl _ _ r3.out ?_)
    go_ret
    rw [e1.out]
    exact ⟨rfl, fin.out⟩
  ·have hk0 : ¬ fk = 0 := fun c => hk (.inl c)
   have hk2 : ¬ fk = 2 := fun c => hk (.inr c)
   have e1 : Hid (X = (R.beg 6, toldN fk)) := by
    show _ = _
    have hst : strN fk = toldN fk := by unfold strN; rw [if_neg hk]
    rw [← hX.out]; unfold RB.syncDir; rw [hd, if_neg (by simp), hF.out, if_pos (by show strN fk ≠ 0; rw [hst]; exact toldN_ne fk)]
    show (R.beg 6, strN fk) = _
    rw [hst]
   have hTo2 : Hid (∀ q, Calls Tryz.prog 98 #[.int .i64 fk] q fun e w' => e = .returned (.int .i64 (toldN fk)) ∧ w' = q) := fun q => told_ref q fk
   obtain ⟨tk, htk⟩ : ∃ tk, Hid (toldN fk = tk) := ⟨_, rfl⟩
   rw [htk.out] at hTo2
   have q0 : (fk != 0) = true := by simpa using hk0
   have q2 : (fk != 2) = true := by simpa using hk2
   clear hk
   go_enter Tryz.func55, Tryz.ntmps55
   go_upto_region 4 with (go_at_call 97; refine hB.mono ?_; rintro e w1 ⟨rfl, M1, b1⟩; replace M1 := hide M1; replace b1 := hide b1)
   have z1 := heap_alloc_new w1 (.cells #[.int .i64 fa, .int .i64 fk, .int .i64 fp] 118)
   have BX := hide (box_below w1 (.cells #[.int .i64 fa, .int .i64 fk, .int .i64 fp] 118))
   obtain ⟨Y, hY⟩ : ∃ Y, Hid (w1.alloc (.cells #[.int .i64 fa, .int .i64 fk, .int .i64 fp] 118) = Y) := ⟨_, rfl⟩
   rw [hY.out] at z1 BX ⊢
   have y1 : Y.cell? ⟨w1.heap.size, 1, none⟩ = some (.int .i64 fk) := by simp [World.cell?, z1]
   have MY := hide (M1.out.below BX.out)
   have bY : Hid (But (fun k => k = b) w Y) := b1.out.trans (But.of_below BX.out _)
   clear z1
   go_wp2_with (go_at_call 98; refine (hTo2.out _).mono ?_; rintro e w2 ⟨rfl, e2⟩; subst w2)
   go_ret
   rw [e1.out]
   exact ⟨by rw [← htk.out]; rfl, Rgo.same MY.out bY.out⟩
abbrev nlS : Value := .slice none 0 0
def RB.file (R : RB) : RB := { R with F := R.F ++ [([], [], 0)] }
def RV.file (V : RV) (v : Value) : RV := { V with vF := v, T := V.T ++ [(nlS, nlS)] }
theorem file_cs (R : RB) (V : RV) (v : Value) : (R.cs V).setIfInBounds 1 v = R.file.cs (V.file v) := by simp [RB.cs, RB.file, RV.file]
theorem blk_file (b : Nat) (V : RV) (v : Value) (x : Nat) (h1 : x ≠ 1) : blk b (V.file v) x = blk b V x := by
 match x with
 | 0 => rfl
 | 1 => exact absurd rfl h1
 | 2 => rfl
 | 3 => rfl
 | 4 => rfl
 | 5 => rfl
 | n + 6 =>
  have key : ∀ i, (V.T ++ [(nlS, nlS)])[i]? = V.T[i]? ∨ ((V.T ++ [(nlS, nlS)])[i]? = some (nlS, nlS) ∧ V.T[i]? = none) := fun i => by
   by_cases h : i < V.T.length
   ·exact .inl (List.getElem?_append_left h)
   ·by_cases e : i = V.T.length
    ·right
     rw [e]
     exact ⟨by rw [List.getElem?_append_right (Nat.le_refl _), Nat.sub_self]; rfl, List.getElem?_eq_none (Nat.le_refl _)⟩
    ·left; rw [List.getElem?_eq_none (by rw [List.length_append]; show V.T.length + 1 ≤ i; omega), List.getElem?_eq_none (by omega)]
  show (if n % 2 = 0 then ((V.T ++ [(nlS, nlS)])[n / 2]?).bind (fun t => t.1.ownBlock) else ((V.T ++ [(nlS, nlS)])[n / 2]?).bind (fun t => t.2.ownBlock)) = (if n % 2 = 0 then (V.T[n / 2]?).bind (fun t => t.1.ownBlock) else (V.T[n / 2]?).bind (fun t => t.2.ownBlock))
  rcases key (n / 2) with e | ⟨e, e'⟩
  ·rw [e]
  ·rw [e, e']; split <;> rfl
theorem infoFi : (Tryz.prog.info? 138).map (fun i => (i.zero, i.size, i.bytes)) = some (some (.agg #[.slice none 0 0, .slice none 0 0, .int .i64 0]), 3, 56) := by kernel_rfl
theorem fcells_file (F : List (List UInt8 × List UInt8 × Int)) (T : List (Value × Value)) (h : T.length = F.length) : fcells (F ++ [([], [], 0)]) (T ++ [(nlS, nlS)]) = fcells F T ++ [nlS, nlS, .int .i64 0] := by
 unfold fcells
 rw [List.zip_append h.symm, List.map_append, List.flatten_append]
 rfl
theorem run_appF {w : World} {v : Value} {n : Nat} {xs : List Value} (g : Nat) (h : w.ownsRow 0 138 3 v n xs) (h0 : w.cell? ⟨g, 0, none⟩ = some nlS) (h1 : w.cell? ⟨g, 1, none⟩ = some nlS) (h2 : w.cell? ⟨g, 2, none⟩ = some (.int .i64 0)) (hl : (n : Int) ≤ 2000000000) (ty : TypeId) :
    ∃ v' w', (Builtin.append_ #[99, 99] ty #[v, .slice (some ⟨g, 0, none⟩) 1 1]).run Tryz.prog w = .ok v' w' ∧ w'.ownsRow 0 138 3 v' (n + 1) (xs ++ [nlS, nlS, .int .i64 0]) ∧ w.grownBy w' v.ownBlock ∧ (v'.ownBlock = v.ownBlock ∨ v'.ownBlock = some w.heap.size) := by
 obtain ⟨i0, hi, hz0, hz1, hz2⟩ := info_parts infoFi
 have hcells : ∀ j u, ([nlS, nlS, .int .i64 0] : List Value)[j]? = some u → w.cell? ((⟨g, 0, none⟩ : Addr).add j) = some u := by
  intro j u hu
  rw [addr_add]
  match j with
  | 0 => simp at hu; subst hu; exact h0
  | 1 => simp at hu; subst hu; exact h1
  | 2 => simp at hu; subst hu; exact h2
  | j + 3 => simp at hu
 obtain ⟨v', w', hr, ho, hg, _, hat⟩ := run_append_own_at (P := Tryz.prog) w 0 99 ty 138 i0 (.agg #[.slice none 0 0, .slice none 0 0, .int .i64 0]) 3 56 Tryz.underlying99 hi hz0 hz1 hz2 rfl (by decide) v n xs h ⟨g, 0, none⟩ 1 1 [nlS, nlS, .int .i64 0] rfl hcells (by
     intro u hu
     simp at hu
     rcases hu with rfl | rfl <;> rfl) (by unfold maxLen; omega) (by omega) (Nat.zero_le _)
 exact ⟨v', w', hr, ho, hg, hat⟩
theorem RM.addfile {w0 w w' : World} {b : Nat} {R : RB} {V : RV} {v : Value} (h0 : RM w0 b R V) (hw : But (fun k => V.vF.ownBlock = some k) w0 w) (hv : w.ownsRow 0 138 3 v (R.F.length + 1) (fcells R.F V.T ++ [nlS, nlS, .int .i64 0])) (hn : v.ownBlock = V.vF.ownBlock ∨ ∀ k, v.ownBlock = some k → w0.heap.size ≤ k) (hb : But (fun k => k = b) w w') (hbox : w'.heap[b]? = some (.cells ((R.cs V).setIfInBounds 1 v) TRD (0, 0))) : RM w' b R.file (V.file v) ∧ (∀ x k, blk b (V.file v) x = some k → blk b V x = some k ∨ w0.heap.size ≤ k) ∧ But (fun k => ∃ x, blk b V x = some k) w0 w' := by
 have hall : But (fun k => k = b ∨ V.vF.ownBlock = some k) w0 w' := (hw.mono fun k _ e => .inr e).trans (hb.mono fun k _ e => .inl e)
 have nx : ∀ x, x ≠ 0 → x ≠ 1 → ∀ k, blk b V x = some k → ¬ (k = b ∨ V.vF.ownBlock = some k) := fun x hx h1 k hk c => by
  rcases c with c | c
  ·exact h0.ds 0 x (Ne.symm hx) b rfl (by rw [hk, c])
  ·exact h0.ds x 1 h1 k hk c
 have hbl : b < w0.heap.size := heap_lt h0.box
 have hvb : ∀ k, v.ownBlock = some k → ¬ k = b := fun k hk c => by
  rcases hn with e | e
  ·exact h0.ds 0 1 (by omega) b rfl (by show V.vF.ownBlock = _; rw [← e, hk, c])
  ·have := e k hk; omega
 refine ⟨⟨by rw [← file_cs]; exact hbox, h0.dd.but hall (nx 2 (by omega) (by omega)), h0.oo.but hall (nx 3 (by omega) (by omega)), h0.pp.but hall (nx 4 (by omega) (by omega)), ownsRow_but h0.aa hall (nx 5 (by omega) (by omega)), ?_, by simp [RB.file, RV.file, h0.ln], fun i hi => ?_, ?_, ?_⟩, ?_, ?_⟩
 ·have := ownsRow_but hv hb hvb
  rw [← fcells_file R.F V.T h0.ln] at this
  show w'.ownsRow 0 _ 3 v (R.F ++ [([], [], 0)]).length (fcells (R.F ++ [([], [], 0)]) (V.T ++ [(nlS, nlS)]))
  rw [List.length_append]
  exact this
 ·by_cases hlt : i < R.F.length
  ·have hl' : i < V.T.length := by rw [h0.ln]; exact hlt
   obtain ⟨a, q⟩ := h0.nn i hlt
   have e1 : ((V.file v).T[i]'(by simp [RV.file]; omega)) = V.T[i] := List.getElem_append_left hl'
   have e2 : (R.file.F[i]'hi) = R.F[i] := List.getElem_append_left hlt
   rw [e1, e2]
   exact ⟨Oc.but a hall (fun k hk => nx (2 * i + 6) (by omega) (by omega) k (by rw [blk_N b V hl']; exact hk)), Oc.but q hall (fun k hk => nx (2 * i + 7) (by omega) (by omega) k (by rw [blk_L b V hl']; exact hk))⟩
  ·have hi2 : i < R.F.length + 1 := by simpa [RB.file] using hi
   have hie : i = R.F.length := by omega
   have e1 : ((V.file v).T[i]'(by simp [RV.file, h0.ln]; omega)) = (nlS, nlS) := by simp [RV.file, hie, ← h0.ln]
   have e2 : (R.file.F[i]'hi) = ([], [], 0) := by simp [RB.file, hie]
   rw [e1, e2]
   exact ⟨Oc.of (Ob.nil _ _), Oc.of (Ob.nil _ _)⟩
 ·refine h0.ds.step (H := w0.heap.size) h0.lt (fun x => ?_) (fun x y hxy k hk h1 h2 => ?_)
  ·by_cases hx : x = 1
   ·subst hx; exact hn
   ·exact .inl (blk_file b V v x hx)
  ·have old : ∀ z, z ≠ 1 → blk b (V.file v) z ≠ some k := fun z z2 hz => by
     rw [blk_file b V v z z2] at hz
     have := h0.lt z k hz
     omega
   by_cases x2 : x = 1
   ·exact old y (fun e => hxy (by rw [x2, e])) h2
   ·exact old x x2 h1
 ·intro x k hk
  by_cases hx : x = 1
  ·subst hx
   have := (World.ownsRow.lt hv k hk).2
   have := hb.size
   omega
  ·rw [blk_file b V v x hx] at hk
   have := h0.lt x k hk
   have := hall.size
   omega
 ·intro x k hk
  by_cases hx : x = 1
  ·subst hx
   rcases hn with e | e
   ·exact .inl (e.symm.trans hk)
   ·exact .inr (e k hk)
  ·rw [blk_file b V v x hx] at hk
   exact .inl hk
 ·exact hall.mono fun k _ c => by
    rcases c with c | c
    ·exact ⟨0, by rw [c]; rfl⟩
    ·exact ⟨1, c⟩
def RB.create (R : RB) (s : ByteArray) : RB × Int :=
 if refN R.down R.dir s false ≠ 0 then (R, refN R.down R.dir s false)
 else if ¬ findN R.dir s.data.toList < 0 then (R, 7)
 else if R.dir.length = 256 then (R, 9)
 else if R.flt.2.1 ≠ 0 then (R.beg 0, toldN R.flt.2.1)
 else ((R.beg 0).file.chg ⟨s, (R.F.length : Int), ⟨#[]⟩⟩, 0)
theorem Rgo.then {w w1 w' : World} {b : Nat} {V V1 : RV} {R' : RB} (h : Rgo w1 w' b V1 R') (hx : ∀ x k, blk b V1 x = some k → blk b V x = some k ∨ w.heap.size ≤ k) (hb : But (fun k => ∃ x, blk b V x = some k) w w1) : Rgo w w' b V R' := by
 obtain ⟨⟨V', hm, hv⟩, ht⟩ := h
 refine ⟨⟨V', hm, fun x k hk => ?_⟩, ?_⟩
 ·rcases hv x k hk with q | q
  ·exact hx x k q
  ·exact .inr (Nat.le_trans hb.size q)
 ·exact but_trans_new hb ht (fun i ⟨x, hi⟩ => (hx x i hi).imp (fun q => ⟨x, q⟩) id)
theorem create_rm {w : World} {b : Nat} {R : RB} {V : RV} (h : RM w b R V) (ho : R.ok) (hc : R.c7 ≤ 1000000000) (hl : (R.dir.length : Int) ≤ 1000000000) (hpl : (R.pe.length : Int) ≤ 1000000000) (hfl : (R.F.length : Int) ≤ 1000000000) (s : ByteArray) (hs : s.size ≤ maxLen) :
    Calls Tryz.prog 44 #[.pointer (some ⟨b, 0, none⟩), .string s] w fun e w' => e = .returned (.int .i64 (R.create s).2) ∧ Rgo w w' b V (R.create s).1 := by
 have hR := refused_rm h s hs false
 have hFi := find_ref w V.vD R.dir s h.dd.tr
 have hB := begins_rm h ho hc 0 (by omega)
 have M0 := hide (Rgo.refl h)
 have c2 : w.cell? ⟨b, 2, none⟩ = some V.vD := (h.cell 2).trans rfl
 have hvd : ∃ da dc, V.vD = .slice da R.dir.length dc ∧ R.dir.length ≤ dc ∧ dc ≤ 9223372036854775807 := by
  rcases h.dd.form with ⟨e, e2⟩ | ⟨g, cap, e, q1, q2⟩
  ·exact ⟨none, 0, by rw [e, e2]; rfl, by rw [e2]; exact Nat.le_refl _, by omega⟩
  ·exact ⟨_, _, e, q1, q2⟩
 obtain ⟨da, dc, hvd, dl1, dl2⟩ := hvd
 rw [hvd] at c2 hFi
 obtain ⟨X, hX⟩ : ∃ X, Hid (R.create s = X) := ⟨_, rfl⟩
 rw [hX.out]
 obtain ⟨dn, hdn⟩ : ∃ dn, Hid (R.dir.length = dn) := ⟨_, rfl⟩
 rw [hdn.out] at c2 hFi dl1
 by_cases h0 : refN R.down R.dir s false = 0
 ·rw [h0] at hR
  by_cases h7 : findN R.dir s.data.toList < 0
  ·by_cases h9 : R.dir.length = 256
   ·have e1 : Hid (X = (R, 9)) := by show _ = _; rw [← hX.out]; unfold RB.create; rw [if_neg (by rw [h0]; simp), if_neg (by simpa using h7), if_pos h9]
    rw [hdn.out] at h9
    subst h9
    generalize findN R.dir s.data.toList = fn at *
    have h7b : ¬ (fn ≥ 0) := by omega
    clear h hB ho hc
    go_enter Tryz.func44, Tryz.ntmps44
    go_wp2_with (first
     | (go_at_call 95; refine hR.mono ?_; rintro e w1 ⟨rfl, e1'⟩; subst w1)
     | (go_at_call 96; refine hFi.mono ?_; rintro e w1 ⟨rfl, e1'⟩; subst w1))
    go_ret
    rw [e1.out]
    exact ⟨rfl, M0.out⟩
   ·have e0 : R.create s = (if R.flt.2.1 ≠ 0 then (R.beg 0, toldN R.flt.2.1) else ((R.beg 0).file.chg ⟨s, (R.F.length : Int), ⟨#[]⟩⟩, 0)) := by unfold RB.create; rw [if_neg (by rw [h0]; simp), if_neg (by simpa using h7), if_neg h9]
    rw [hdn.out] at h9
    have h9b : ¬ ((dn : Int) = 256) := by omega
    generalize findN R.dir s.data.toList = fn at *
    have h7b : ¬ (fn ≥ 0) := by omega
    obtain ⟨F, hF⟩ : ∃ F : Ft, Hid (R.flt = F) := ⟨R.flt, rfl⟩
    rw [hF.out] at hB e0
    obtain ⟨fa, fk, fp⟩ := F
    obtain ⟨_, be2, _, be4, _⟩ := beg_same R 0
    have be1 := (beg_same R 0).1
    have hCh : Hid (∀ q V1, RM q b (R.beg 0).file V1 → Calls Tryz.prog 99 #[.pointer (some ⟨b, 0, none⟩), .agg #[.string s, .int .i64 (R.F.length : Int), .string ⟨#[]⟩]] q fun e w' => e = .returned (.tuple #[]) ∧ Rgo q w' b V1 ((R.beg 0).file.chg ⟨s, (R.F.length : Int), ⟨#[]⟩⟩)) := fun q V1 hq =>
     change_rm hq ⟨s, (R.F.length : Int), ⟨#[]⟩⟩ (by show ((R.beg 0).dir.length : Int) ≤ _; rw [be2]; exact hl) (by show ((R.beg 0).pe.length : Int) ≤ _; rw [be4]; exact hpl) (by show (-9223372036854775808 : Int) ≤ (R.F.length : Int); omega) (by show (R.F.length : Int) ≤ 9223372036854775807; omega)
    clear h ho hc
    unfold fv at hB
    dsimp only at hB e0
    by_cases hk : fk = 0
    ·have e1 : Hid (X = ((R.beg 0).file.chg ⟨s, (R.F.length : Int), ⟨#[]⟩⟩, 0)) := by show _ = _; rw [← hX.out, e0, if_neg (by simpa using hk)]
     subst hk
     clear e0
     go_enter Tryz.func44, Tryz.ntmps44
     go_upto_region 9 with (first
      | (go_at_call 95; refine hR.mono ?_; rintro e w1 ⟨rfl, e1'⟩; subst w1)
      | (go_at_call 96; refine hFi.mono ?_; rintro e w1 ⟨rfl, e1'⟩; subst w1)
      | (go_at_call 97; refine hB.mono ?_; rintro e w1 ⟨rfl, M1, b1⟩; replace M1 := hide M1; replace b1 := hide b1))
     have z1 := heap_alloc_new w1 (.cells #[.int .i64 fa, .int .i64 0, .int .i64 fp] 118)
     have BX := hide (box_below w1 (.cells #[.int .i64 fa, .int .i64 0, .int .i64 fp] 118))
     obtain ⟨Y, hY⟩ : ∃ Y, Hid (w1.alloc (.cells #[.int .i64 fa, .int .i64 0, .int .i64 fp] 118) = Y) := ⟨_, rfl⟩
     rw [hY.out] at z1 BX ⊢
     have y1 : Y.cell? ⟨w1.heap.size, 1, none⟩ = some (.int .i64 0) := by simp [World.cell?, z1]
     have MY := hide (M1.out.below BX.out)
     have bY : Hid (But (fun k => k = b) w Y) := b1.out.trans (But.of_below BX.out _)
     clear z1
     go_upto_region 11 with fail
     have hff := MY.out.ff
     rw [be1] at hff
     have hvf : ∃ pa pc, V.vF = .slice pa R.F.length pc ∧ R.F.length ≤ pc ∧ pc ≤ 9223372036854775807 := by
      rcases hff.2 with ⟨e, e2⟩ | ⟨g, cap, cur, e, _, _, a, q, _⟩
      ·exact ⟨none, 0, by rw [e, e2], by omega, by omega⟩
      ·exact ⟨_, _, e, a, by unfold maxLen at q; omega⟩
     obtain ⟨pa, pc, hvf, pl1, pl2⟩ := hvf
     have y4 : Y.cell? ⟨b, 1, none⟩ = some (.slice pa R.F.length pc) := (MY.out.cell 1).trans (by rw [← hvf]; rfl)
     have z2 := heap_alloc_new Y (.cells #[.slice none 0 0, .slice none 0 0, .int .i64 0] 138)
     have BZ := box_below Y (.cells #[.slice none 0 0, .slice none 0 0, .int .i64 0] 138)
     obtain ⟨v4, w4, r4, Q4, G4, at4⟩ := run_appF Y.heap.size (owns_belowN hff BZ) (by simp only [World.cell?, z2]; rfl) (by simp only [World.cell?, z2]; rfl) (by simp only [World.cell?, z2]; rfl) (by omega) 99
     have B4 : But (fun k => V.vF.ownBlock = some k) Y w4 := (But.of_below BZ _).trans (But.of_grownBy G4 fun k e => e)
     have hvb : V.vF.ownBlock ≠ some b := MY.out.ds 0 1 (by omega) b rfl
     have hbx4 : w4.heap[b]? = some (.cells ((R.beg 0).cs V) TRD (0, 0)) := (B4.block b (heap_lt MY.out.box) hvb).trans MY.out.box
     have hv4 : ∃ sa sc, v4 = .slice sa (R.F.length + 1) sc ∧ R.F.length + 1 ≤ sc ∧ sc ≤ 9223372036854775807 := by
      rcases Q4.2 with ⟨e, e2⟩ | ⟨g, cap, cur, e, _, _, a, q, _⟩
      ·omega
      ·exact ⟨_, _, e, a, by unfold maxLen at q; omega⟩
     obtain ⟨sa, sc, rfl, sl1, sl2⟩ := hv4
     have t1 : w4.cell? ⟨b, 1, none⟩ = some (.slice pa R.F.length pc) := by simp [World.cell?, hbx4, RB.cs, hvf]
     have t2 : w4.frozen? ⟨b, 1, none⟩ = false := by simp [World.frozen?, hbx4]
     have k5 := heap_setCell_same w4 b 1 _ _ (.slice sa (R.F.length + 1) sc) hbx4
     have g5 := But.of_grownBy (X := fun k => k = b) (grown_setCell w4 b 1 (.slice sa (R.F.length + 1) sc)) fun k e => by cases e; rfl
     obtain ⟨A1, A2, A3⟩ := RM.addfile MY.out B4 (by rw [be1]; exact Q4) (at4.imp id fun e k hk => by rw [e] at hk; simp at hk; omega) g5 k5
     have t3 : (w4.setCell ⟨b, 1, none⟩ (.slice sa (R.F.length + 1) sc)).cell? ⟨b, 1, none⟩ = some (.slice sa (R.F.length + 1) sc) := by simp [World.cell?, k5, RB.cs]
     have hC2 := hCh.out _ _ A1
     rw [hvf] at r4
     replace r4 := hide r4
     replace A1 := hide A1
     replace A2 := hide A2
     replace A3 := hide A3
     obtain ⟨nF, hnF⟩ : ∃ nF, Hid (R.F.length = nF) := ⟨_, rfl⟩
     rw [hnF.out] at y4 r4 t1 t3 hC2 A2 A3 sl1 pl1 hfl e1
     clear hff z2 BZ Q4 G4 at4 B4 hbx4 k5 g5
     go_wp2_with (first
      | (at_builtin; refine Lib.wpList_append_run _ rfl (.tmp 42) (.tmp 44) 99 99 rfl _ _ rfl rfl _ _ r4.out ?_)
      | (go_at_call 99; refine hC2.mono ?_; rintro e w2 ⟨rfl, G2⟩; replace G2 := hide G2))
     go_ret
     rw [e1.out]
     exact ⟨rfl, (G2.out.then A2.out A3.out).behind bY.out⟩
    ·have e1 : Hid (X = (R.beg 0, toldN fk)) := by show _ = _; rw [← hX.out, e0, if_pos hk]
     have hTo2 : Hid (∀ q, Calls Tryz.prog 98 #[.int .i64 fk] q fun e w' => e = .returned (.int .i64 (toldN fk)) ∧ w' = q) := fun q => told_ref q fk
     obtain ⟨tk, htk⟩ : ∃ tk, Hid (toldN fk = tk) := ⟨_, rfl⟩
     rw [htk.out] at hTo2
     have q0 : (fk != 0) = true := by simpa using hk
     clear e0
     go_enter Tryz.func44, Tryz.ntmps44
     go_upto_region 9 with (first
      | (go_at_call 95; refine hR.mono ?_; rintro e w1 ⟨rfl, e1'⟩; subst w1)
      | (go_at_call 96; refine hFi.mono ?_; rintro e w1 ⟨rfl, e1'⟩; subst w1)
      | (go_at_call 97; refine hB.mono ?_; rintro e w1 ⟨rfl, M1, b1⟩; replace M1 := hide M1; replace b1 := hide b1))
     have z1 := heap_alloc_new w1 (.cells #[.int .i64 fa, .int .i64 fk, .int .i64 fp] 118)
     have BX := hide (box_below w1 (.cells #[.int .i64 fa, .int .i64 fk, .int .i64 fp] 118))
     obtain ⟨Y, hY⟩ : ∃ Y, Hid (w1.alloc (.cells #[.int .i64 fa, .int .i64 fk, .int .i64 fp] 118) = Y) := ⟨_, rfl⟩
     rw [hY.out] at z1 BX ⊢
     have y1 : Y.cell? ⟨w1.heap.size, 1, none⟩ = some (.int .i64 fk) := by simp [World.cell?, z1]
     have MY := hide (M1.out.below BX.out)
     have bY : Hid (But (fun k => k = b) w Y) := b1.out.trans (But.of_below BX.out _)
     clear z1
     go_wp2_with (go_at_call 98; refine (hTo2.out _).mono ?_; rintro e w2 ⟨rfl, e2⟩; subst w2)
     go_ret
     rw [e1.out]
     exact ⟨by rw [← htk.out]; rfl, Rgo.same MY.out bY.out⟩
  ·have e1 : Hid (X = (R, 7)) := by show _ = _; rw [← hX.out]; unfold RB.create; rw [if_neg (by rw [h0]; simp), if_pos (by simpa using h7)]
   generalize findN R.dir s.data.toList = fn at *
   have h7b : fn ≥ 0 := by omega
   clear h hB ho hc
   go_enter Tryz.func44, Tryz.ntmps44
   go_wp2_with (first
    | (go_at_call 95; refine hR.mono ?_; rintro e w1 ⟨rfl, e1'⟩; subst w1)
    | (go_at_call 96; refine hFi.mono ?_; rintro e w1 ⟨rfl, e1'⟩; subst w1))
   go_ret
   rw [e1.out]
   exact ⟨rfl, M0.out⟩
 ·have e1 : Hid (X = (R, refN R.down R.dir s false)) := by show _ = _; rw [← hX.out]; unfold RB.create; rw [if_pos h0]
  clear h ho hc hB
  generalize refN R.down R.dir s false = rn at *
  go_enter Tryz.func44, Tryz.ntmps44
  go_wp2_with (go_at_call 95; refine hR.mono ?_; rintro e w1 ⟨rfl, e1'⟩; subst w1)
  go_ret
  rw [e1.out]
  exact ⟨rfl, M0.out⟩
theorem infoFa : (Tryz.prog.info? 118).map (fun i => (i.zero, i.size, i.bytes)) = some (some (.agg #[.int .i64 0, .int .i64 0, .int .i64 0]), 3, 24) := by kernel_rfl
theorem run_appA {w : World} {vx : Value} {fs : List Ft} (hm : Fts w vx fs) (hnl : ∀ n c, vx = .slice none n c → n = 0 ∧ c = 0) (hl : (fs.length : Int) ≤ 1000000000) (ty : TypeId) :
    ∃ v' w', (Builtin.append_ #[31, 31] ty #[.slice none 0 0, vx]).run Tryz.prog w = .ok v' w' ∧ w'.ownsRow w.heap.size 118 3 v' fs.length (acells fs) ∧ w.grownBy w' none := by
 obtain ⟨i0, hi, hz0, hz1, hz2⟩ := info_parts infoFa
 obtain ⟨ao, cap, rfl, h1, h2, h3⟩ := hm
 have h0 : w.ownsRow w.heap.size 118 3 (.slice none 0 0) 0 [] := World.ownsRow_nil _ _ _ _
 cases ao with
 | none =>
  obtain ⟨e1, rfl⟩ := hnl _ _ rfl
  have : fs = [] := List.length_eq_zero_iff.1 e1
  subst this
  refine ⟨_, w, ?_, h0, ⟨rfl, rfl, rfl, Nat.le_refl _, fun _ _ _ => rfl⟩⟩
  exact run_append_owned_none (P := Tryz.prog) (w := w) w.heap.size 31 ty 118 i0 3 Tryz.underlying31 hi (.slice none 0 0) 0 [] h0
 | some ad =>
  have hcells : ∀ j u, (acells fs)[j]? = some u → w.cell? (ad.add j) = some u := by
   intro j u hu
   have hj : j < fs.length * 3 := by
    have := (List.getElem?_eq_some_iff.1 hu).1
    rw [acells_len] at this
    exact this
   obtain ⟨b, off, e1, c0, c1, c2⟩ := h3 (j / 3) (by omega)
   obtain ⟨t0, t1, t2⟩ := acells_at fs (j / 3) (by omega)
   simp only [Option.some.injEq] at e1
   subst e1
   rw [addr_add]
   have hm : j % 3 = 0 ∨ j % 3 = 1 ∨ j % 3 = 2 := by omega
   rcases hm with q | q | q
   ·rw [show j = j / 3 * 3 by omega] at hu ⊢
    rw [t0] at hu
    simp only [Option.some.injEq] at hu
    subst hu
    exact c0
   ·rw [show j = j / 3 * 3 + 1 by omega] at hu ⊢
    rw [t1] at hu
    simp only [Option.some.injEq] at hu
    subst hu
    rw [← Nat.add_assoc]
    exact c1
   ·rw [show j = j / 3 * 3 + 2 by omega] at hu ⊢
    rw [t2] at hu
    simp only [Option.some.injEq] at hu
    subst hu
    rw [← Nat.add_assoc]
    exact c2
  obtain ⟨v', w', hr, ho, hg, _, hat⟩ := run_append_own_at (P := Tryz.prog) w w.heap.size 31 ty 118 i0 (.agg #[.int .i64 0, .int .i64 0, .int .i64 0]) 3 24 Tryz.underlying31 hi hz0 hz1 hz2 rfl (by decide) (.slice none 0 0) 0 [] h0 ad fs.length cap (acells fs) (acells_len fs) hcells (by
   intro u hu
   simp only [acells, List.mem_flatten, List.mem_map] at hu
   obtain ⟨c, ⟨e, _, rfl⟩, hc⟩ := hu
   simp at hc
   rcases hc with rfl | rfl | rfl <;> rfl) (by unfold maxLen; omega) (by omega) (Nat.le_refl _)
  rw [Nat.zero_add, List.nil_append] at ho
  exact ⟨v', w', hr, ho, hg⟩
def RB.armed (R : RB) (fs : List Ft) : RB := { R with fs := fs, si := 0 }
theorem armed_cs (R : RB) (V : RV) (fs : List Ft) (v : Value) : ((R.cs V).setIfInBounds 5 v).setIfInBounds 6 (.int .i64 0) = (R.armed fs).cs { V with vA := v } := by simp [RB.cs, RB.armed]
theorem blk_a (b : Nat) (V : RV) (v : Value) (x : Nat) (h5 : x ≠ 5) : blk b { V with vA := v } x = blk b V x := by
 match x with
 | 0 => rfl
 | 1 => rfl
 | 2 => rfl
 | 3 => rfl
 | 4 => rfl
 | 5 => exact absurd rfl h5
 | n + 6 => rfl
theorem RM.arm {w0 w w' : World} {b : Nat} {R : RB} {V : RV} {v : Value} {fs : List Ft} (h0 : RM w0 b R V) (hw : Below w0.heap.size w0 w) (hv : w.ownsRow w0.heap.size 118 3 v fs.length (acells fs)) (hb : But (fun k => k = b) w w') (hbox : w'.heap[b]? = some (.cells (((R.cs V).setIfInBounds 5 v).setIfInBounds 6 (.int .i64 0)) TRD (0, 0))) : Rgo w0 w' b V (R.armed fs) := by
 have h := h0.below hw
 have nx : ∀ x, x ≠ 0 → ∀ k, blk b V x = some k → ¬ k = b := fun x hx k hk c => h.ds 0 x (Ne.symm hx) b rfl (by rw [hk, c])
 have hbl : b < w0.heap.size := heap_lt h0.box
 have hvb : ∀ k, v.ownBlock = some k → ¬ k = b := fun k hk c => by have := (World.ownsRow.lt hv k hk).1; omega
 have hsz := hb.size
 refine ⟨⟨{ V with vA := v }, ?_, ?_⟩, ?_⟩
 ·refine ⟨by rw [← armed_cs]; exact hbox, h.dd.but hb (nx 2 (by omega)), h.oo.but hb (nx 3 (by omega)), h.pp.but hb (nx 4 (by omega)), ?_, ownsRow_but h.ff hb (nx 1 (by omega)), h.ln, fun i hi => ?_, ?_, ?_⟩
  ·have := ownsRow_but hv hb hvb
   exact ⟨this.1, this.2.imp id fun ⟨g, cap, cur, e, hg, r⟩ => ⟨g, cap, cur, e, Nat.zero_le _, r⟩⟩
  ·have hi' : i < R.F.length := hi
   have hl' : i < V.T.length := by rw [h.ln]; exact hi'
   obtain ⟨a, q⟩ := h.nn i hi'
   exact ⟨Oc.but a hb (fun k hk => nx (2 * i + 6) (by omega) k (by rw [blk_N b V hl']; exact hk)), Oc.but q hb (fun k hk => nx (2 * i + 7) (by omega) k (by rw [blk_L b V hl']; exact hk))⟩
  ·refine h0.ds.step (H := w0.heap.size) h0.lt (fun x => ?_) (fun x y hxy k hk h1 h2 => ?_)
   ·by_cases h5 : x = 5
    ·subst h5; exact .inr fun k hk => (World.ownsRow.lt hv k hk).1
    ·exact .inl (blk_a b V v x h5)
   ·have old : ∀ z, z ≠ 5 → blk b { V with vA := v } z ≠ some k := fun z z2 hz => by
      rw [blk_a b V v z z2] at hz
      have := h0.lt z k hz
      omega
    by_cases x2 : x = 5
    ·exact old y (fun e => hxy (by rw [x2, e])) h2
    ·exact old x x2 h1
  ·intro x k hk
   by_cases h5 : x = 5
   ·subst h5; have := (World.ownsRow.lt hv k hk).2; omega
   ·rw [blk_a b V v x h5] at hk
    have := h.lt x k hk
    omega
 ·intro x k hk
  by_cases h5 : x = 5
  ·subst h5; exact .inr (World.ownsRow.lt hv k hk).1
  ·rw [blk_a b V v x h5] at hk
   exact .inl hk
 ·exact (But.of_below hw _).trans (hb.mono fun k _ e => ⟨0, by rw [e]; rfl⟩)
theorem arm_rm {w : World} {b : Nat} {R : RB} {V : RV} (h : RM w b R V) (v : Value) (fs : List Ft) (hv : Fts w v fs) (hnl : ∀ n c, v = .slice none n c → n = 0 ∧ c = 0) :
    Calls Tryz.prog 60 #[.pointer (some ⟨b, 0, none⟩), v] w fun e w' => ∃ R' er, e = .returned (.int .i64 er) ∧ Hid (Rgo w w' b V R' ∧ ((fs.length ≤ 64 ∧ MayL fs fs.length → R' = R.armed fs ∧ er = 0) ∧ (¬ (fs.length ≤ 64 ∧ MayL fs fs.length) → R' = R ∧ er = 1))) := by
 have HM := hide h
 by_cases hy : fs.length ≤ 64 ∧ MayL fs fs.length
 ·have hM : Calls Tryz.prog 103 #[v] w fun e w' => e = .returned (.bool true) ∧ Hid (Below w.heap.size w w') := by
    refine (may_ref w v fs hv).mono ?_
    rintro e w' ⟨⟨Rb, h1, h2⟩, h3⟩
    rw [h2.2 hy] at h1
    exact ⟨h1, h3⟩
  have KR : Hid (∀ q, Below w.heap.size w q → ∃ v' w', (Builtin.append_ #[31, 31] 31 #[.slice none 0 0, v]).run Tryz.prog q = .ok v' w' ∧ q.ownsRow 0 118 3 (.slice none 0 0) 0 [] ∧ w'.ownsRow q.heap.size 118 3 v' fs.length (acells fs) ∧ q.grownBy w' none) := fun q hq => by
   obtain ⟨v', w', r1, r2, r3⟩ := run_appA (hv.below hq) hnl (by have := hy.1; omega) 31
   exact ⟨v', w', r1, World.ownsRow_nil _ _ _ _, r2, r3⟩
  have hvs : ∃ a n c, v = .slice a n c := by obtain ⟨a, c, e, _⟩ := hv; exact ⟨_, _, _, e⟩
  obtain ⟨va, vn, vc, rfl⟩ := hvs
  replace hy := hide hy
  clear h hv hnl
  go_enter Tryz.func60, Tryz.ntmps60
  go_upto_region 3 with (go_at_call 103; refine hM.mono ?_; rintro e w1 ⟨rfl, b1⟩)
  have M1 := hide (HM.out.below b1.out)
  obtain ⟨v3, w3, r3, _, Q3, G3⟩ := KR.out w1 b1.out
  have X3 : Hid (Below w1.heap.size w1 w3) := (Below.refl _ _).grown G3 (Nat.le_refl _) (fun k hk => by simp at hk)
  have hbx3 : Hid (w3.heap[b]? = some (.cells (R.cs V) TRD (0, 0))) := (X3.out.block b (heap_lt M1.out.box)).trans M1.out.box
  have hv3 : ∃ sa sn sc, v3 = .slice sa sn sc := by rcases Q3.2 with ⟨e, _⟩ | ⟨g, cap, cur, e, _⟩ <;> exact ⟨_, _, _, e⟩
  obtain ⟨sa, sn, sc, rfl⟩ := hv3
  replace Q3 := hide Q3
  replace r3 := hide r3
  have t1 : w3.cell? ⟨b, 5, none⟩ = some V.vA := by simp [World.cell?, hbx3.out, RB.cs]
  have t2 : w3.frozen? ⟨b, 5, none⟩ = false := by simp [World.frozen?, hbx3.out]
  have k4 := hide (heap_setCell_same w3 b 5 _ _ (.slice sa sn sc) hbx3.out)
  have t3 : (w3.setCell ⟨b, 5, none⟩ (.slice sa sn sc)).cell? ⟨b, 6, none⟩ = some (.int .i64 R.si) := by simp [World.cell?, k4.out, RB.cs]
  have t4 : (w3.setCell ⟨b, 5, none⟩ (.slice sa sn sc)).frozen? ⟨b, 6, none⟩ = false := by simp [World.frozen?, k4.out]
  have k5 := heap_setCell_same _ b 6 _ _ (.int .i64 0) k4.out
  have g3 := But.of_grownBy (X := fun k => k = b) (grown_setCell w3 b 5 (.slice sa sn sc)) fun k e => by cases e; rfl
  have g4 := But.of_grownBy (X := fun k => k = b) (grown_setCell (w3.setCell ⟨b, 5, none⟩ (.slice sa sn sc)) b 6 (.int .i64 0)) fun k e => by cases e; rfl
  have fin := hide ((RM.arm M1.out X3.out Q3.out (g3.trans g4) k5).behind (But.of_below b1.out _))
  clear G3 k5 g3 g4
  go_wp2_with (at_builtin; refine Lib.wpList_append_run _ rfl (.const (.slice none 0 0)) (.tmp 9) 31 31 rfl _ _ rfl rfl _ _ r3.out ?_)
  go_ret
  exact ⟨_, _, rfl, fin.out, fun _ => ⟨rfl, rfl⟩, fun c => absurd hy.out c⟩
 ·have hM : Calls Tryz.prog 103 #[v] w fun e w' => e = .returned (.bool false) ∧ Hid (Below w.heap.size w w') := by
    refine (may_ref w v fs hv).mono ?_
    rintro e w' ⟨⟨Rb, h1, h2⟩, h3⟩
    cases Rb with
    | true => exact absurd (h2.1 rfl) hy
    | false => exact ⟨h1, h3⟩
  replace hy := hide hy
  clear h hv hnl
  go_enter Tryz.func60, Tryz.ntmps60
  go_wp2_with (go_at_call 103; refine hM.mono ?_; rintro e w1 ⟨rfl, b1⟩)
  go_ret
  exact ⟨R, 1, rfl, Rgo.same (HM.out.below b1.out) (But.of_below b1.out _), fun c => absurd c hy.out, fun _ => ⟨rfl, rfl⟩⟩
theorem fcells_at : ∀ (F : List (List UInt8 × List UInt8 × Int)) (T : List (Value × Value)), T.length = F.length → ∀ i (h : i < F.length) (h' : i < T.length), (fcells F T)[i * 3]? = some T[i].1 ∧ (fcells F T)[i * 3 + 1]? = some T[i].2 ∧ (fcells F T)[i * 3 + 2]? = some (.int .i64 F[i].2.2) := by
 intro F
 induction F with
 | nil => intro T _ i h; simp at h
 | cons e r ih =>
  intro T hT i h h'
  cases T with
  | nil => simp at h'
  | cons t q =>
   have : fcells (e :: r) (t :: q) = [t.1, t.2, .int .i64 e.2.2] ++ fcells r q := by simp [fcells]
   rw [this]
   cases i with
   | zero => exact ⟨rfl, rfl, rfl⟩
   | succ i =>
    obtain ⟨a, b, c⟩ := ih q (by simpa using hT) i (by simpa using h) (by simpa using h')
    rw [show (i + 1) * 3 = i * 3 + 1 + 1 + 1 by omega]
    simp only [List.cons_append, List.nil_append, List.getElem?_cons_succ, List.getElem_cons_succ]
    exact ⟨a, b, c⟩
theorem RM.at {w : World} {b : Nat} {R : RB} {V : RV} (h : RM w b R V) {i : Nat} (hi : i < R.F.length) : ∃ g cap, V.vF = .slice (some ⟨g, 0, none⟩) R.F.length cap ∧ R.F.length ≤ cap ∧ cap ≤ 9223372036854775807 ∧ ∃ hl : i < V.T.length, w.cell? ⟨g, i * 3, none⟩ = some V.T[i].1 ∧ w.cell? ⟨g, i * 3 + 1, none⟩ = some V.T[i].2 ∧ w.cell? ⟨g, i * 3 + 2, none⟩ = some (.int .i64 R.F[i].2.2) := by
 have hl : i < V.T.length := by rw [h.ln]; exact hi
 obtain ⟨t0, t1, t2⟩ := fcells_at R.F V.T h.ln i hi hl
 have hff := h.ff
 rcases hff.2 with ⟨e, e2⟩ | ⟨g, cap, cur, e, _, _, a, q, _⟩
 ·omega
 ·have h0 := hff
  rw [e] at h0
  have q0 := World.ownsRow.cells h0 (g := g) rfl (i * 3) _ t0
  have q1 := World.ownsRow.cells h0 (g := g) rfl (i * 3 + 1) _ t1
  have q2 := World.ownsRow.cells h0 (g := g) rfl (i * 3 + 2) _ t2
  rw [addr_add, Nat.zero_add] at q0 q1 q2
  exact ⟨g, cap, e, a, by unfold maxLen at q; omega, hl, q0, q1, q2⟩
def RB.lenOf (R : RB) (p : Nat) : Nat := match R.F[p]? with | some f => f.1.length | none => 0
def RB.sum (R : RB) (k : Nat) : Nat := ((R.dir.take k).map fun e => R.lenOf e.2).sum
def RB.room (R : RB) : Int := max (R.most - (R.sum R.dir.length : Int)) 0
theorem room_rm {w : World} {b : Nat} {R : RB} {V : RV} (h : RM w b R V) (hg : ∀ e ∈ R.dir, e.2 < R.F.length) (m0 : 0 ≤ R.most) (m1 : R.most ≤ 16777216) (hz : ((R.sum R.dir.length : Nat) : Int) ≤ 9000000000000000) :
    Calls Tryz.prog 100 #[.pointer (some ⟨b, 0, none⟩)] w fun e w' => e = .returned (.int .i64 R.room) ∧ Below w.heap.size w w' := by
 have c0 : w.cell? ⟨b, 0, none⟩ = some (.int .i64 R.most) := (h.cell 0).trans rfl
 have c1 : w.cell? ⟨b, 1, none⟩ = some V.vF := (h.cell 1).trans rfl
 have c2 : w.cell? ⟨b, 2, none⟩ = some V.vD := (h.cell 2).trans rfl
 obtain ⟨da, dc, hvd, dl1, dl2, q3⟩ := h.dd.tr
 rw [hvd] at c2
 obtain ⟨N, hN⟩ : ∃ N, Hid (R.dir.length = N) := ⟨_, rfl⟩
 rw [hN.out] at c2 dl1
 replace q3 := hide q3
 obtain ⟨X, hX⟩ : ∃ X, Hid (R.room = X) := ⟨_, rfl⟩
 rw [hX.out]
 have HM := hide h
 replace hg := hide hg
 replace hz := hide hz
 have hmono : Hid (∀ k, k ≤ N → (R.sum k : Int) ≤ 9000000000000000) := fun k hk => by
  have h1 := hz.out
  have : R.sum k ≤ R.sum R.dir.length := by
   unfold RB.sum
   rw [List.take_length]
   conv => rhs; rw [← List.take_append_drop k R.dir, List.map_append, List.sum_append]
   omega
  omega
 have hvf : ∃ fa fn fc, V.vF = .slice fa fn fc := by rcases h.ff.2 with ⟨e, _⟩ | ⟨g, cap, cur, e, _⟩ <;> exact ⟨_, _, _, e⟩
 obtain ⟨fa, fn, fc, hvf⟩ := hvf
 rw [hvf] at c1
 have KC : Hid (∀ q, Below w.heap.size w q → q.cell? ⟨b, 1, none⟩ = some (.slice fa fn fc) ∧ q.cell? ⟨b, 2, none⟩ = some (.slice da N dc)) := fun q hq => ⟨by rw [hq.cell (lt_of_cell c1)]; exact c1, by rw [hq.cell (lt_of_cell c2)]; exact c2⟩
 clear h
 go_enter Tryz.func100, Tryz.ntmps100
 go_wp2_with fail
 go_loopw [3, 4] (fun v3 v4 wr => ∃ (k : Nat) (x : Int), v4 = .int .i64 k ∧ k ≤ N ∧ v3 = .int .i64 x ∧ Hid (x = R.most - (R.sum k : Int)) ∧ Hid (Below w.heap.size w wr)) (fun _ v4 _ => N - (intOf v4).toNat)
 case atStart => exact ⟨0, R.most, rfl, Nat.zero_le _, rfl, by show _ = _; simp [RB.sum], Below.refl _ _⟩
 case round =>
  obtain ⟨k, x, rfl, hk, rfl, ex, hW⟩ := hrel
  clear c1 c2
  obtain ⟨c1, c2⟩ := KC.out wr hW.out
  by_cases hlt : k < N
  ·have i1 : (k : Int) < (N : Int) := by omega
   have hkl : k < R.dir.length := by rw [hN.out]; exact hlt
   obtain ⟨gb, off, rfl, y0, y1⟩ := q3.out k hkl
   rw [← hW.out.cell (p := ⟨gb, off + k * 2 + 1, none⟩) (lt_of_cell y1)] at y1
   have hp := hg.out R.dir[k] (List.getElem_mem hkl)
   have MR := HM.out.below hW.out
   obtain ⟨g, cap, evf, fl1, fl2, hl, z0, _, _⟩ := MR.at hp
   rw [hvf] at evf
   simp only [Value.slice.injEq] at evf
   obtain ⟨rfl, rfl, rfl⟩ := evf
   have hs1 : Hid (R.sum (k + 1) = R.sum k + R.lenOf R.dir[k].2) := by show _ = _; unfold RB.sum; rw [List.take_succ_eq_append_getElem hkl, List.map_append, List.sum_append]; simp
   have hlo : R.lenOf R.dir[k].2 = R.F[R.dir[k].2].1.length := by unfold RB.lenOf; rw [List.getElem?_eq_getElem hp]
   obtain ⟨ta, tc, et, tl1, tl2⟩ := (MR.nn _ hp).1.form
   have hm1 := hmono.out (k + 1) hlt
   rw [et, ← hlo] at z0
   rw [← hlo] at tl1
   clear y0
   generalize hpp : R.dir[k].2 = p at *
   have ip : (p : Int) < (R.F.length : Int) := by omega
   obtain ⟨tl, htl⟩ : ∃ tl, Hid (R.lenOf p = tl) := ⟨_, rfl⟩
   rw [htl.out] at z0 tl1 hs1
   have hxb : -9000000000000000 ≤ x - (tl : Int) ∧ x - (tl : Int) ≤ 16777216 := by have h1 := ex.out; have h2 := hs1.out; omega
   obtain ⟨hx1, hx2⟩ := hxb
   have hnx : Hid (x - (tl : Int) = R.most - (R.sum (k + 1) : Int)) := by show _ = _; have h1 := ex.out; have h2 := hs1.out; omega
   clear MR et hlo hm1 hpp
   go_wp2_with fail
   go_quiet (fail)
   have B3 : Hid (Below w.heap.size w (wr.drewN nq)) := hW.out.trans ((Qt.below ⟨nq, rfl⟩ _).mono hW.out.size)
   generalize wr.drewN nq = wy at *
   go_wp2_with fail
   go_roundw
   case rel => exact ⟨k + 1, x - (tl : Int), by go_num, by omega, by go_num, hnx, B3⟩
   case measure => simp [intOf]; omega
  ·have i1 : ¬ ((k : Int) < (N : Int)) := by omega
   obtain rfl : k = N := by omega
   have hfin : Hid (X = max x 0) := by show _ = _; rw [← hX.out, RB.room, hN.out, ex.out]
   go_wp2_with fail
   all_goals
    go_ret
    refine ⟨?_, hW.out⟩
    rw [hfin.out]
    show Ending.returned (Value.int .i64 _) = _
    first | rfl | (congr 2; omega)
def RB.pOf (R : RB) (s : ByteArray) : Nat := (findN R.dir s.data.toList).toNat
def RB.size (R : RB) (s : ByteArray) : Int × Int := if refN R.down R.dir s true ≠ 0 then (0, refN R.down R.dir s true) else ((R.lenOf (R.pOf s) : Int), 0)
theorem refN_there {R : RB} {s : ByteArray} (hg : ∀ e ∈ R.dir, e.2 < R.F.length) (h : refN R.down R.dir s true = 0) : findN R.dir s.data.toList = (R.pOf s : Int) ∧ R.pOf s < R.F.length ∧ Dk.get R.dir s.data.toList = some (R.pOf s) := by
 unfold refN at h
 split at h
 ·cases h
 ·split at h
  ·split at h
   ·cases h
   ·rename_i q
    simp only [Bool.true_and] at q
    cases hp : Dk.get R.dir s.data.toList with
    | none => rw [hp] at q; simp at q
    | some p =>
     have e : findN R.dir s.data.toList = (p : Int) := by unfold findN; rw [hp]
     have e2 : R.pOf s = p := by unfold RB.pOf; rw [e]; exact Int.toNat_natCast p
     rw [e2]
     exact ⟨e, hg _ (get_mem hp), rfl⟩
  ·cases h
theorem size_rm {w : World} {b : Nat} {R : RB} {V : RV} (h : RM w b R V) (hg : ∀ e ∈ R.dir, e.2 < R.F.length) (s : ByteArray) (hs : s.size ≤ maxLen) :
    Calls Tryz.prog 57 #[.pointer (some ⟨b, 0, none⟩), .string s] w fun e w' => e = .returned (.tuple #[.int .i64 (R.size s).1, .int .i64 (R.size s).2]) ∧ Below w.heap.size w w' := by
 have hR := refused_rm h s hs true
 obtain ⟨X, hX⟩ : ∃ X, Hid (R.size s = X) := ⟨_, rfl⟩
 rw [hX.out]
 by_cases h0 : refN R.down R.dir s true = 0
 ·rw [h0] at hR
  obtain ⟨hf, hp, _⟩ := refN_there hg h0
  have hFi : Hid (∀ q, RM q b R V → Calls Tryz.prog 96 #[V.vD, .string s] q fun e w' => e = .returned (.int .i64 (R.pOf s : Int)) ∧ w' = q) := fun q hq => by
   have := find_ref q V.vD R.dir s hq.dd.tr
   rw [hf] at this
   exact this
  have c1 : w.cell? ⟨b, 1, none⟩ = some V.vF := (h.cell 1).trans rfl
  have c2 : w.cell? ⟨b, 2, none⟩ = some V.vD := (h.cell 2).trans rfl
  have hvd : ∃ da dn dc, V.vD = .slice da dn dc := by rcases h.dd.form with ⟨e, _⟩ | ⟨g, cap, e, _⟩ <;> exact ⟨_, _, _, e⟩
  obtain ⟨da, dn, dc, hvd⟩ := hvd
  obtain ⟨g, cap, hvf, fl1, fl2, hl, z0, _, _⟩ := h.at hp
  obtain ⟨ta, tc, et, tl1, tl2⟩ := (h.nn _ hp).1.form
  have hlo : R.lenOf (R.pOf s) = R.F[R.pOf s].1.length := by unfold RB.lenOf; rw [List.getElem?_eq_getElem hp]
  rw [et, ← hlo] at z0
  rw [← hlo] at tl1
  rw [hvf] at c1
  rw [hvd] at c2 hFi
  have e1 : Hid (X = ((R.lenOf (R.pOf s) : Int), 0)) := by show _ = _; rw [← hX.out]; unfold RB.size; rw [if_neg (by rw [h0]; simp)]
  obtain ⟨p, hpp⟩ : ∃ p, Hid (R.pOf s = p) := ⟨_, rfl⟩
  obtain ⟨tl, htl⟩ : ∃ tl, Hid (R.lenOf p = tl) := ⟨_, rfl⟩
  rw [hpp.out] at z0 tl1 e1 hFi hp
  rw [htl.out] at z0 tl1 e1
  have ip : (p : Int) < (R.F.length : Int) := by omega
  have HM := hide h
  clear h hg et hlo hf
  go_enter Tryz.func57, Tryz.ntmps57
  go_wp2_with (go_at_call 95; refine hR.mono ?_; rintro e w1 ⟨rfl, e1'⟩; subst w1)
  go_quiet ((go_at_call 96; exact Calls.quiet_of_same (hFi.out _ (HM.out.below (Qt.below ⟨_, rfl⟩ _)))))
  go_wp2_with fail
  go_ret2
  rw [e1.out]
  exact ⟨rfl, Qt.below ⟨nq, rfl⟩ _⟩
 ·have e1 : Hid (X = (0, refN R.down R.dir s true)) := by show _ = _; rw [← hX.out]; unfold RB.size; rw [if_pos h0]
  clear h hg
  generalize refN R.down R.dir s true = rn at *
  go_enter Tryz.func57, Tryz.ntmps57
  go_wp2_with (go_at_call 95; refine hR.mono ?_; rintro e w1 ⟨rfl, e1'⟩; subst w1)
  go_ret2
  rw [e1.out]
  exact ⟨rfl, Below.refl _ _⟩
def RB.byOf (R : RB) (p : Nat) : List UInt8 := match R.F[p]? with | some f => f.1 | none => []
theorem byOf_len (R : RB) (p : Nat) : (R.byOf p).length = R.lenOf p := by unfold RB.byOf RB.lenOf; cases R.F[p]? <;> rfl
theorem read_rm_ok {w : World} {b : Nat} {R : RB} {V : RV} (h : RM w b R V) (hg : ∀ e ∈ R.dir, e.2 < R.F.length) (s : ByteArray) (hs : s.size ≤ maxLen) (o n : Nat) (h0 : refN R.down R.dir s true = 0) (hon : o + n ≤ R.lenOf (R.pOf s)) (hz : (R.lenOf (R.pOf s) : Int) ≤ 1000000000) :
    Calls Tryz.prog 56 #[.pointer (some ⟨b, 0, none⟩), .string s, .int .i64 (o : Int), .int .i64 (n : Int)] w fun e w' => ∃ v, e = .returned (.tuple #[v, .int .i64 0]) ∧ Ob w.heap.size w' v (((R.byOf (R.pOf s)).drop o).take n) ∧ Below w.heap.size w w' := by
 have hR := refused_rm h s hs true
 rw [h0] at hR
 obtain ⟨hf, hp, _⟩ := refN_there hg h0
 have hFi : Hid (∀ q, RM q b R V → Calls Tryz.prog 96 #[V.vD, .string s] q fun e w' => e = .returned (.int .i64 (R.pOf s : Int)) ∧ w' = q) := fun q hq => by
  have := find_ref q V.vD R.dir s hq.dd.tr
  rw [hf] at this
  exact this
 have c1 : w.cell? ⟨b, 1, none⟩ = some V.vF := (h.cell 1).trans rfl
 have c2 : w.cell? ⟨b, 2, none⟩ = some V.vD := (h.cell 2).trans rfl
 have hvd : ∃ da dn dc, V.vD = .slice da dn dc := by rcases h.dd.form with ⟨e, _⟩ | ⟨g, cap, e, _⟩ <;> exact ⟨_, _, _, e⟩
 obtain ⟨da, dn, dc, hvd⟩ := hvd
 obtain ⟨g, cap, hvf, fl1, fl2, hl, z0, _, _⟩ := h.at hp
 have hby : R.byOf (R.pOf s) = R.F[R.pOf s].1 := by unfold RB.byOf; rw [List.getElem?_eq_getElem hp]
 have hOb := (h.nn _ hp).1
 rw [← hby] at hOb
 obtain ⟨ta, tc, et, tl1, tl2⟩ := hOb.form
 rw [et] at z0 hOb
 obtain ⟨vs, hS, VS⟩ := run_sub hOb.sl o n (by rw [byOf_len]; exact hon)
 have KR : Hid (∀ q, Below w.heap.size w q → ∃ v' w', (Builtin.append_ #[30, 30] 30 #[.slice none 0 0, vs]).run Tryz.prog q = .ok v' w' ∧ Ob q.heap.size w' v' (((R.byOf (R.pOf s)).drop o).take n) ∧ Below q.heap.size q w') := fun q hq => by
  obtain ⟨v1, w1, r1, Q1, G1, _⟩ := run_app (Ob.nil q.heap.size q) (Below.sl hq VS) (by have := byOf_len R (R.pOf s); simp; omega) (Nat.le_refl _) 30
  rw [List.nil_append] at Q1
  exact ⟨v1, w1, r1, Q1, (Below.refl _ _).grown G1 (Nat.le_refl _) (fun k hk => by simp [Value.ownBlock] at hk)⟩
 generalize ((R.byOf (R.pOf s)).drop o).take n = L at *
 rw [byOf_len] at z0 tl1 hS
 rw [hvf] at c1
 rw [hvd] at c2 hFi
 obtain ⟨p, hpp⟩ : ∃ p, Hid (R.pOf s = p) := ⟨_, rfl⟩
 obtain ⟨N, htl⟩ : ∃ N, Hid (R.lenOf p = N) := ⟨_, rfl⟩
 rw [hpp.out] at z0 tl1 hFi hp hS hon hz
 rw [htl.out] at z0 tl1 hS hon hz
 have ip : (p : Int) < (R.F.length : Int) := by omega
 have HM := hide h
 have i1 : ¬ ((o : Int) < 0) := by omega
 have i2 : ¬ ((o : Int) > (N : Int)) := by omega
 have i3 : ¬ ((n : Int) < 0) := by omega
 have i4 : ¬ ((n : Int) > (N : Int) - (o : Int)) := by omega
 have e1 : IntKind.i64.wrap ((N : Int) - (o : Int)) = (N : Int) - (o : Int) := by rw [IntKind.wrap_i64]; omega
 have e2 : IntKind.i64.wrap ((o : Int) + (n : Int)) = (o : Int) + (n : Int) := by rw [IntKind.wrap_i64]; omega
 replace hon := hide hon
 clear h hg et hby hf hOb VS
 go_enter Tryz.func56, Tryz.ntmps56
 go_wp2_with (go_at_call 95; refine hR.mono ?_; rintro e w1 ⟨rfl, e1'⟩; subst w1)
 go_quiet ((go_at_call 96; exact Calls.quiet_of_same (hFi.out _ (HM.out.below (Qt.below ⟨_, rfl⟩ _)))))
 have B3 : Hid (Below w.heap.size w (w.drewN nq)) := Qt.below ⟨nq, rfl⟩ _
 obtain ⟨v4, w4, r4, Q4, b4⟩ := KR.out _ B3.out
 replace r4 := hide r4
 replace Q4 := hide Q4
 replace b4 := hide b4
 generalize w.drewN nq = wy at *
 go_wp2_with (at_builtin; refine Lib.wpList_append_run _ rfl (.const (.slice none 0 0)) (.tmp 56) 30 30 rfl _ _ rfl rfl _ _ r4.out ?_)
 go_ret2
 exact ⟨v4, rfl, Q4.out.low B3.out.size, B3.out.trans (b4.out.mono B3.out.size)⟩
theorem read_rm_no {w : World} {b : Nat} {R : RB} {V : RV} (h : RM w b R V) (s : ByteArray) (hs : s.size ≤ maxLen) (o n : Int) (h0 : refN R.down R.dir s true ≠ 0) :
    Calls Tryz.prog 56 #[.pointer (some ⟨b, 0, none⟩), .string s, .int .i64 o, .int .i64 n] w fun e w' => e = .returned (.tuple #[.slice none 0 0, .int .i64 (refN R.down R.dir s true)]) ∧ w' = w := by
 have hR := refused_rm h s hs true
 clear h
 generalize refN R.down R.dir s true = rn at *
 go_enter Tryz.func56, Tryz.ntmps56
 go_wp2_with (go_at_call 95; refine hR.mono ?_; rintro e w1 ⟨rfl, e1'⟩; subst w1)
 go_ret2
 exact ⟨rfl, rfl⟩
theorem read_rm_out {w : World} {b : Nat} {R : RB} {V : RV} (h : RM w b R V) (hg : ∀ e ∈ R.dir, e.2 < R.F.length) (s : ByteArray) (hs : s.size ≤ maxLen) (o n : Int) (g0 : -9223372036854775808 ≤ n) (g1 : n ≤ 9223372036854775807) (h0 : refN R.down R.dir s true = 0) (hon : ¬ (0 ≤ o ∧ 0 ≤ n ∧ o + n ≤ (R.lenOf (R.pOf s) : Int))) (hz : (R.lenOf (R.pOf s) : Int) ≤ 1000000000) :
    Calls Tryz.prog 56 #[.pointer (some ⟨b, 0, none⟩), .string s, .int .i64 o, .int .i64 n] w fun e w' => e = .returned (.tuple #[.slice none 0 0, .int .i64 8]) ∧ Below w.heap.size w w' := by
 have hR := refused_rm h s hs true
 rw [h0] at hR
 obtain ⟨hf, hp, _⟩ := refN_there hg h0
 have hFi : Hid (∀ q, RM q b R V → Calls Tryz.prog 96 #[V.vD, .string s] q fun e w' => e = .returned (.int .i64 (R.pOf s : Int)) ∧ w' = q) := fun q hq => by
  have := find_ref q V.vD R.dir s hq.dd.tr
  rw [hf] at this
  exact this
 have c1 : w.cell? ⟨b, 1, none⟩ = some V.vF := (h.cell 1).trans rfl
 have c2 : w.cell? ⟨b, 2, none⟩ = some V.vD := (h.cell 2).trans rfl
 have hvd : ∃ da dn dc, V.vD = .slice da dn dc := by rcases h.dd.form with ⟨e, _⟩ | ⟨g, cap, e, _⟩ <;> exact ⟨_, _, _, e⟩
 obtain ⟨da, dn, dc, hvd⟩ := hvd
 obtain ⟨g, cap, hvf, fl1, fl2, hl, z0, _, _⟩ := h.at hp
 have hby : R.byOf (R.pOf s) = R.F[R.pOf s].1 := by unfold RB.byOf; rw [List.getElem?_eq_getElem hp]
 have hOb := (h.nn _ hp).1
 rw [← hby] at hOb
 obtain ⟨ta, tc, et, tl1, tl2⟩ := hOb.form
 rw [et] at z0
 rw [byOf_len] at z0 tl1
 rw [hvf] at c1
 rw [hvd] at c2 hFi
 obtain ⟨p, hpp⟩ : ∃ p, Hid (R.pOf s = p) := ⟨_, rfl⟩
 obtain ⟨N, htl⟩ : ∃ N, Hid (R.lenOf p = N) := ⟨_, rfl⟩
 rw [hpp.out] at z0 tl1 hFi hp hon hz
 rw [htl.out] at z0 tl1 hon hz
 have ip : (p : Int) < (R.F.length : Int) := by omega
 have HM := hide h
 clear h hg et hby hf hOb
 by_cases a1 : o < 0
 ·clear hon
  go_enter Tryz.func56, Tryz.ntmps56
  go_wp2_with (go_at_call 95; refine hR.mono ?_; rintro e w1 ⟨rfl, e1'⟩; subst w1)
  go_quiet ((go_at_call 96; exact Calls.quiet_of_same (hFi.out _ (HM.out.below (Qt.below ⟨_, rfl⟩ _)))))
  go_wp2_with fail
  go_ret2
  exact ⟨rfl, Qt.below ⟨nq, rfl⟩ _⟩
 by_cases a2 : n < 0
 ·clear hon
  go_enter Tryz.func56, Tryz.ntmps56
  go_wp2_with (go_at_call 95; refine hR.mono ?_; rintro e w1 ⟨rfl, e1'⟩; subst w1)
  go_quiet ((go_at_call 96; exact Calls.quiet_of_same (hFi.out _ (HM.out.below (Qt.below ⟨_, rfl⟩ _)))))
  go_wp2_with fail
  go_ret2
  exact ⟨rfl, Qt.below ⟨nq, rfl⟩ _⟩
 by_cases a3 : o > (N : Int)
 ·clear hon
  go_enter Tryz.func56, Tryz.ntmps56
  go_wp2_with (go_at_call 95; refine hR.mono ?_; rintro e w1 ⟨rfl, e1'⟩; subst w1)
  go_quiet ((go_at_call 96; exact Calls.quiet_of_same (hFi.out _ (HM.out.below (Qt.below ⟨_, rfl⟩ _)))))
  go_wp2_with fail
  go_ret2
  exact ⟨rfl, Qt.below ⟨nq, rfl⟩ _⟩
 ·have a4 : n > (N : Int) - o := by omega
  have e1 : IntKind.i64.wrap ((N : Int) - o) = (N : Int) - o := by rw [IntKind.wrap_i64]; omega
  clear hon
  go_enter Tryz.func56, Tryz.ntmps56
  go_wp2_with (go_at_call 95; refine hR.mono ?_; rintro e w1 ⟨rfl, e1'⟩; subst w1)
  go_quiet ((go_at_call 96; exact Calls.quiet_of_same (hFi.out _ (HM.out.below (Qt.below ⟨_, rfl⟩ _)))))
  go_wp2_with fail
  go_ret2
  exact ⟨rfl, Qt.below ⟨nq, rfl⟩ _⟩
end Go.Proofs.YtjehpijjneghpaaGreat.Re
