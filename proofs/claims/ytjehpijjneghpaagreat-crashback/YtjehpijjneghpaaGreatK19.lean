/-
  The document's disk: begins, the walk.
-/
import Derived.Test.YtjehpijjneghpaaGreatK18
namespace Go.Proofs.YtjehpijjneghpaaGreat.Re
open Go.RowKit Go.Maps Go.Sort Go.Shelf Go.Proofs.YtjehpijjneghpaaGreat.Nm Go.Proofs.YtjehpijjneghpaaGreat.Dk
set_option linter.unusedVariables false
def begC (cs : Array Value) (j : Nat) (c a s : Int) : Array Value := (((cs.setIfInBounds (7 + j) (.int .i64 (c + 1))).setIfInBounds 14 (.int .i64 (a + 1))).setIfInBounds 6 (.int .i64 (s + 1))).setIfInBounds 17 (.int .i64 0)
def begF (cs : Array Value) (k : Int) : Array Value := if k = 3 then cs.setIfInBounds 16 (.bool true) else cs
theorem fts_but {w w' : World} {b : Nat} {v : Value} {fs : List Ft} (h : Fts w v fs) (hb : But (fun k => k = b) w w') (ho : ∀ g off n c, v = .slice (some ⟨g, off, none⟩) n c → 0 < n → g ≠ b) : Fts w' v fs := by
  obtain ⟨ao, cap, e, h1, h2, h3⟩ := h
  refine ⟨ao, cap, e, h1, h2, fun i hi => ?_⟩
  obtain ⟨g, off, e1, c1, c2, c3⟩ := h3 i hi
  have hg : ¬ g = b := ho g off fs.length cap (by rw [e, e1]) (by omega)
  exact ⟨g, off, e1, cell_but c1 hb hg, cell_but c2 hb hg, cell_but c3 hb hg⟩
set_option maxRecDepth 100000 in
set_option maxHeartbeats 2000000 in
theorem begins_ref (w : World) (b j : Nat) (cs : Array Value) (c a s : Int) (vA : Value) (fs : List Ft) (x16 x17 : Value) (hb : w.heap[b]? = some (.cells cs TRD (0, 0))) (hz : cs.size = 18) (hj : j < 7)
    (h1 : cs[7 + j]? = some (.int .i64 c)) (h2 : cs[14]? = some (.int .i64 a)) (h3 : cs[6]? = some (.int .i64 s)) (h4 : cs[5]? = some vA) (h5 : cs[16]? = some x16) (h6 : cs[17]? = some x17)
    (hA : Fts w vA fs) (hAb : ∀ g off n c, vA = .slice (some ⟨g, off, none⟩) n c → 0 < n → g ≠ b) (hK : ∀ f ∈ fs, f.2.1 ≠ 4)
    (c0 : 0 ≤ c) (c1 : c ≤ 4611686018427387904) (a0 : 0 ≤ a) (a1 : a ≤ 4611686018427387904) (s0 : 0 ≤ s) (s1 : s ≤ 4611686018427387904) :
    Calls Tryz.prog 97 #[.pointer (some ⟨b, 0, none⟩), .pointer (some ⟨b, 7 + j, none⟩)] w fun e w' => e = .returned (fv (rfl1 fs (s + 1))) ∧
      w'.heap[b]? = some (.cells (begF (begC cs j c a s) (rfl1 fs (s + 1)).2.1) TRD (0, 0)) ∧ But (fun k => k = b) w w' := by
  obtain ⟨R, hR⟩ : ∃ R, Hid (rfl1 fs (s + 1) = R) := ⟨_, rfl⟩
  rw [hR.out]
  have S0 := hide (Sr.start hb)
  obtain ⟨u0, hu0⟩ : ∃ u0, Hid (w.alloc (.cells #[.int .i64 0, .int .i64 0, .int .i64 0] 118) = u0) := ⟨_, rfl⟩
  rw [hu0.out] at S0
  have k1 : u0.cell? ⟨b, 7 + j, none⟩ = some (.int .i64 c) := (S0.out.cell _).trans h1
  have k2 := S0.out.frozen (7 + j)
  replace hb := hide hb
  replace hA := hide hA
  replace hAb := hide hAb
  replace hK := hide hK
  clear h1
  go_enter Tryz.func97, Tryz.ntmps97
  go_upto_region 1 with fail
  rw [hu0.out]
  go_upto_region 2 with fail
  have S1 := hide (S0.out.set (7 + j) (.int .i64 (c + 1)))
  generalize u0.setCell ⟨b, 7 + j, none⟩ (.int .i64 (c + 1)) = u1 at *
  obtain ⟨cs1, hc1⟩ : ∃ cs1, Hid (cs.setIfInBounds (7 + j) (.int .i64 (c + 1)) = cs1) := ⟨_, rfl⟩
  rw [hc1.out] at S1
  have g2 : cs1[14]? = some (.int .i64 a) := by rw [← hc1.out, Array.getElem?_setIfInBounds_ne (by omega)]; exact h2
  have g3 : cs1[6]? = some (.int .i64 s) := by rw [← hc1.out, Array.getElem?_setIfInBounds_ne (by omega)]; exact h3
  have g5 : cs1[5]? = some vA := by rw [← hc1.out, Array.getElem?_setIfInBounds_ne (by omega)]; exact h4
  have g6 : cs1[16]? = some x16 := by rw [← hc1.out, Array.getElem?_setIfInBounds_ne (by omega)]; exact h5
  have g7 : cs1[17]? = some x17 := by rw [← hc1.out, Array.getElem?_setIfInBounds_ne (by omega)]; exact h6
  have g8 : cs1.size = 18 := by rw [← hc1.out]; simpa using hz
  have l1 : u1.cell? ⟨b, 14, none⟩ = some (.int .i64 a) := (S1.out.cell _).trans g2
  have l2 := S1.out.frozen 14
  clear k1 k2 S0 hu0 h2 h3 h4 h5 h6 hz g2
  go_upto_region 3 with fail
  have S2 := hide (S1.out.set 14 (.int .i64 (a + 1)))
  generalize u1.setCell ⟨b, 14, none⟩ (.int .i64 (a + 1)) = u2 at *
  obtain ⟨cs2, hc2⟩ : ∃ cs2, Hid (cs1.setIfInBounds 14 (.int .i64 (a + 1)) = cs2) := ⟨_, rfl⟩
  rw [hc2.out] at S2
  have e3 : cs2[6]? = some (.int .i64 s) := by rw [← hc2.out, Array.getElem?_setIfInBounds_ne (by omega)]; exact g3
  have e5 : cs2[5]? = some vA := by rw [← hc2.out, Array.getElem?_setIfInBounds_ne (by omega)]; exact g5
  have e6 : cs2[16]? = some x16 := by rw [← hc2.out, Array.getElem?_setIfInBounds_ne (by omega)]; exact g6
  have e7 : cs2[17]? = some x17 := by rw [← hc2.out, Array.getElem?_setIfInBounds_ne (by omega)]; exact g7
  have e8 : cs2.size = 18 := by rw [← hc2.out]; simpa using g8
  have l1 : u2.cell? ⟨b, 6, none⟩ = some (.int .i64 s) := (S2.out.cell _).trans e3
  have l2 := S2.out.frozen 6
  clear S1 g3 g5 g6 g7 g8
  go_upto_region 4 with fail
  have S3 := hide (S2.out.set 6 (.int .i64 (s + 1)))
  generalize u2.setCell ⟨b, 6, none⟩ (.int .i64 (s + 1)) = u3 at *
  obtain ⟨cs3, hc3⟩ : ∃ cs3, Hid (cs2.setIfInBounds 6 (.int .i64 (s + 1)) = cs3) := ⟨_, rfl⟩
  rw [hc3.out] at S3
  have f4 : cs3[6]? = some (.int .i64 (s + 1)) := by rw [← hc3.out, Array.getElem?_setIfInBounds_self_of_lt (by omega)]
  have f5 : cs3[5]? = some vA := by rw [← hc3.out, Array.getElem?_setIfInBounds_ne (by omega)]; exact e5
  have f6 : cs3[16]? = some x16 := by rw [← hc3.out, Array.getElem?_setIfInBounds_ne (by omega)]; exact e6
  have f7 : cs3[17]? = some x17 := by rw [← hc3.out, Array.getElem?_setIfInBounds_ne (by omega)]; exact e7
  have l1 : u3.cell? ⟨b, 17, none⟩ = some x17 := (S3.out.cell _).trans f7
  have l2 := S3.out.frozen 17
  clear S2 e3 e5 e6 e7 e8
  go_upto_region 5 with fail
  have S4 := hide (S3.out.set 17 (.int .i64 0))
  generalize u3.setCell ⟨b, 17, none⟩ (.int .i64 0) = u4 at *
  obtain ⟨cs4, hc4⟩ : ∃ cs4, Hid (cs3.setIfInBounds 17 (.int .i64 0) = cs4) := ⟨_, rfl⟩
  rw [hc4.out] at S4
  have hcs : Hid (begC cs j c a s = cs4) := by show _ = _; unfold begC; rw [hc1.out, hc2.out, hc3.out, hc4.out]
  have d4 : cs4[6]? = some (.int .i64 (s + 1)) := by rw [← hc4.out, Array.getElem?_setIfInBounds_ne (by omega)]; exact f4
  have d5 : cs4[5]? = some vA := by rw [← hc4.out, Array.getElem?_setIfInBounds_ne (by omega)]; exact f5
  have d6 : cs4[16]? = some x16 := by rw [← hc4.out, Array.getElem?_setIfInBounds_ne (by omega)]; exact f6
  clear S3 f4 f5 f6 f7 l1 l2 hc1 hc2 hc3 hc4
  have FT := fts_but hA.out S4.out.but hAb.out
  obtain ⟨ao, cap, rfl, q1, q2, q3⟩ := FT
  have q2' : (cap : Int) ≤ 9223372036854775807 := by unfold maxLen at q2; omega
  clear q2
  obtain ⟨N, hN⟩ : ∃ N, Hid (fs.length = N) := ⟨_, rfl⟩
  rw [hN.out] at q1 d5
  replace q3 := hide q3
  have KB : Hid (∀ q, Below u4.heap.size u4 q → q.cell? ⟨b, 5, none⟩ = some (.slice ao N cap) ∧ q.cell? ⟨b, 6, none⟩ = some (.int .i64 (s + 1)) ∧ Sr w q b w.heap.size cs4 zf) := fun q hq => by
    have := S4.out.more hq
    exact ⟨(this.cell _).trans d5, (this.cell _).trans d4, this⟩
  obtain ⟨m5, m6, _⟩ := KB.out u4 (Below.refl _ _)
  go_wp2_with fail
  go_loopw [5] (fun i wr => ∃ k : Nat, i = .int .i64 k ∧ k ≤ N ∧ Hid (∀ j (hj : j < fs.length), j < k → (fs[j]).1 ≠ s + 1) ∧ Hid (Below u4.heap.size u4 wr)) (fun i _ => N - (intOf i).toNat)
  case atStart => exact ⟨0, rfl, Nat.zero_le _, fun j hj c => absurd c (by omega), Below.refl _ _⟩
  case round =>
    obtain ⟨k, rfl, hk, hno, hW⟩ := hrel
    clear m5 m6
    obtain ⟨m5, m6, SR⟩ := KB.out wr hW.out
    replace SR := hide SR
    by_cases hlt : k < N
    · have i1 : (k : Int) < (N : Int) := by omega
      have hkl : k < fs.length := by rw [hN.out]; exact hlt
      obtain ⟨gb, off, rfl, y0, y1, y2⟩ := q3.out k hkl
      have KF : Hid (∀ q, Below u4.heap.size u4 q → q.cell? ⟨gb, off + k * 3, none⟩ = some (.int .i64 fs[k].1) ∧ q.cell? ⟨gb, off + k * 3 + 1, none⟩ = some (.int .i64 fs[k].2.1) ∧ q.cell? ⟨gb, off + k * 3 + 2, none⟩ = some (.int .i64 fs[k].2.2)) := fun q hq => ⟨by rw [hq.cell (lt_of_cell y0)]; exact y0, by rw [hq.cell (lt_of_cell y1)]; exact y1, by rw [hq.cell (lt_of_cell y2)]; exact y2⟩
      clear y0 y1 y2
      obtain ⟨y0, y1, y2⟩ := KF.out wr hW.out
      by_cases he : fs[k].1 = s + 1
      · have hRe : Hid (R = fs[k]) := by show _ = _; rw [← hR.out]; exact rfl1_at hkl hno.out he
        have hk4 : fs[k].2.1 ≠ 4 := hK.out _ (List.getElem_mem hkl)
        obtain ⟨F, hF⟩ : ∃ F : Ft, Hid (fs[k] = F) := ⟨fs[k], rfl⟩
        rw [hF.out] at y0 y1 y2 he hk4 hRe KF
        obtain ⟨fa, fk, fp⟩ := F
        dsimp only at y0 y1 y2 he hk4
        subst he
        go_wp2_with fail
        go_quiet (fail)
        have B3 : Hid (Below u4.heap.size u4 (wr.drewN nq)) := hW.out.trans ((Qt.below ⟨nq, rfl⟩ _).mono hW.out.size)
        generalize wr.drewN nq = wy at *
        clear y0 y1 y2 m5 m6 SR
        obtain ⟨m5, m6, SR⟩ := KB.out wy B3.out
        obtain ⟨y0, y1, y2⟩ := KF.out wy B3.out
        replace SR := hide SR
        have z0 := heap_alloc_new wy (.cells #[.int .i64 (s + 1), .int .i64 fk, .int .i64 fp] 118)
        have BX := hide (box_below wy (.cells #[.int .i64 (s + 1), .int .i64 fk, .int .i64 fp] 118))
        obtain ⟨X, hX⟩ : ∃ X, Hid (wy.alloc (.cells #[.int .i64 (s + 1), .int .i64 fk, .int .i64 fp] 118) = X) := ⟨_, rfl⟩
        rw [hX.out] at z0 BX
        have SX0 := hide (SR.out.more BX.out)
        have hne : Hid (wy.heap.size ≠ b) := fun e => by have := heap_lt SR.out.box; omega
        go_upto_region 10 with fail
        rw [hX.out]
        have n0 : X.cell? ⟨wy.heap.size, 0, none⟩ = some (.int .i64 (s + 1)) := by simp [World.cell?, z0]
        have n1 : X.cell? ⟨wy.heap.size, 1, none⟩ = some (.int .i64 fk) := by simp [World.cell?, z0]
        have n2 : X.cell? ⟨wy.heap.size, 2, none⟩ = some (.int .i64 fp) := by simp [World.cell?, z0]
        clear y0 y1 y2 m5 m6
        by_cases h3k : fk = 3
        · subst h3k
          have hbF : Hid (begF cs4 3 = cs4.setIfInBounds 16 (.bool true)) := rfl
          have t1 : X.cell? ⟨b, 16, none⟩ = some x16 := (SX0.out.cell _).trans d6
          have t2 := SX0.out.frozen 16
          go_upto_region 12 with fail
          have SX := hide (SX0.out.set 16 (.bool true))
          have gX := grown_setCell X b 16 (.bool true)
          have z1 := (gX.block wy.heap.size (heap_lt z0) (by simpa using fun e => hne.out e)).trans z0
          generalize X.setCell ⟨b, 16, none⟩ (.bool true) = X1 at *
          clear n0 n1 n2 t1 t2
          have n0 : X1.cell? ⟨wy.heap.size, 0, none⟩ = some (.int .i64 (s + 1)) := by simp [World.cell?, z1]
          have n1 : X1.cell? ⟨wy.heap.size, 1, none⟩ = some (.int .i64 3) := by simp [World.cell?, z1]
          have n2 : X1.cell? ⟨wy.heap.size, 2, none⟩ = some (.int .i64 fp) := by simp [World.cell?, z1]
          obtain ⟨y0, y1, y2⟩ := cells3 SX.out.ans
          obtain ⟨r0, r1, r2⟩ := frozen3 SX.out.ans
          go_wp2_with fail
          have S5 := hide (SX.out.put (s + 1, 3, fp))
          dsimp only at S5
          generalize ((X1.setCell ⟨w.heap.size, 0, none⟩ (.int .i64 (s + 1))).setCell ⟨w.heap.size, 1, none⟩ (.int .i64 3)).setCell ⟨w.heap.size, 2, none⟩ (.int .i64 fp) = u5 at *
          clear y0 y1 y2 r0 r1 r2 n0 n1 n2
          obtain ⟨x0, x1, x2⟩ := cells3 S5.out.ans
          refine bodyPost_ret (v := fv (s + 1, 3, fp)) (by simp [results, Tryz.results97, go_sem, x0, x1, x2]; try rfl) rfl ?_
          rw [hRe.out, hcs.out]
          exact ⟨rfl, by rw [hbF.out]; exact S5.out.box, S5.out.but⟩
        · have hbF : Hid (begF cs4 fk = cs4) := if_neg h3k
          have SX := SX0
          generalize X = X1 at *
          obtain ⟨y0, y1, y2⟩ := cells3 SX.out.ans
          obtain ⟨r0, r1, r2⟩ := frozen3 SX.out.ans
          go_wp2_with fail
          have S5 := hide (SX.out.put (s + 1, fk, fp))
          dsimp only at S5
          generalize ((X1.setCell ⟨w.heap.size, 0, none⟩ (.int .i64 (s + 1))).setCell ⟨w.heap.size, 1, none⟩ (.int .i64 fk)).setCell ⟨w.heap.size, 2, none⟩ (.int .i64 fp) = u5 at *
          clear y0 y1 y2 r0 r1 r2 n0 n1 n2
          obtain ⟨x0, x1, x2⟩ := cells3 S5.out.ans
          refine bodyPost_ret (v := fv (s + 1, fk, fp)) (by simp [results, Tryz.results97, go_sem, x0, x1, x2]; try rfl) rfl ?_
          rw [hRe.out, hcs.out]
          exact ⟨rfl, by rw [hbF.out]; exact S5.out.box, S5.out.but⟩
      · have h2 : Hid (∀ j (hj : j < fs.length), j < k + 1 → (fs[j]).1 ≠ s + 1) := fun j hj c => by
          by_cases e : j = k
          · subst e; exact he
          · exact hno.out j hj (by omega)
        generalize fs[k].1 = f1 at *
        go_wp2_with fail
        go_quiet (fail)
        have B3 : Hid (Below u4.heap.size u4 (wr.drewN nq)) := hW.out.trans ((Qt.below ⟨nq, rfl⟩ _).mono hW.out.size)
        generalize wr.drewN nq = wy at *
        go_wp2_with fail
        go_roundw
        case rel => exact ⟨k + 1, by go_num, by omega, h2, B3⟩
        case measure => simp [intOf]; omega
    · have i1 : ¬ ((k : Int) < (N : Int)) := by omega
      have hRe : Hid (R = zf) := by show _ = _; rw [← hR.out]; exact rfl1_none (fun j hj => hno.out j hj (by have := hN.out; omega))
      obtain ⟨y0, y1, y2⟩ := cells3 SR.out.ans
      obtain ⟨r0, r1, r2⟩ := frozen3 SR.out.ans
      go_wp2_with fail
      have S5 := hide (SR.out.put zf)
      dsimp only [zf] at S5
      generalize ((wr.setCell ⟨w.heap.size, 0, none⟩ (.int .i64 0)).setCell ⟨w.heap.size, 1, none⟩ (.int .i64 0)).setCell ⟨w.heap.size, 2, none⟩ (.int .i64 0) = u5 at *
      clear y0 y1 y2 r0 r1 r2
      obtain ⟨x0, x1, x2⟩ := cells3 S5.out.ans
      refine bodyPost_ret (v := fv zf) (by simp [results, Tryz.results97, go_sem, x0, x1, x2]; try rfl) rfl ?_
      rw [hRe.out, hcs.out]
      exact ⟨rfl, S5.out.box, S5.out.but⟩
end Go.Proofs.YtjehpijjneghpaaGreat.Re
namespace Go.Proofs.YtjehpijjneghpaaGreat.Re
open Go.RowKit Go.Maps Go.Sort Go.Shelf Go.Proofs.YtjehpijjneghpaaGreat.Nm Go.Proofs.YtjehpijjneghpaaGreat.Dk
set_option linter.unusedVariables false
def refN (down : Bool) (L : Dr) (s : ByteArray) (there : Bool) : Int := if down then 22 else if may s.data.toList then (if there && (Dk.get L s.data.toList).isNone then 6 else 0) else 24
theorem findN_neg (L : Dr) (n : List UInt8) : findN L n < 0 ↔ (Dk.get L n).isNone = true := by
  unfold findN
  cases Dk.get L n with
  | none => simp
  | some p => simp
set_option maxRecDepth 100000 in
set_option maxHeartbeats 1000000 in
theorem refused_ref (w : World) (b : Nat) (vD : Value) (L : Dr) (down there : Bool) (s : ByteArray) (hD : w.cell? ⟨b, 2, none⟩ = some vD) (hw : w.cell? ⟨b, 16, none⟩ = some (.bool down)) (hv : Tr w vD L) (hs : s.size ≤ maxLen) :
    Calls Tryz.prog 95 #[.pointer (some ⟨b, 0, none⟩), .string s, .bool there] w fun e w' => e = .returned (.int .i64 (refN down L s there)) ∧ w' = w := by
  have hM := refMay_any s w hs
  have hF := find_ref w vD L s hv
  have hN := findN_neg L s.data.toList
  unfold refN
  cases down with
  | true =>
    go_enter Tryz.func95, Tryz.ntmps95
    go_wp2_with fail
    go_ret
    exact ⟨rfl, rfl⟩
  | false =>
    cases hm : may s.data.toList with
    | false =>
      rw [hm] at hM
      go_enter Tryz.func95, Tryz.ntmps95
      go_wp2_with (go_at_call 116; refine hM.mono ?_; rintro e w1 ⟨rfl, e1⟩; subst w1)
      go_ret
      exact ⟨rfl, rfl⟩
    | true =>
      rw [hm] at hM
      cases there with
      | false =>
        clear hN hF
        go_enter Tryz.func95, Tryz.ntmps95
        go_wp2_with (go_at_call 116; refine hM.mono ?_; rintro e w1 ⟨rfl, e1⟩; subst w1)
        go_ret
        exact ⟨rfl, rfl⟩
      | true =>
        cases hg : (Dk.get L s.data.toList).isNone with
        | true =>
          have h1 : findN L s.data.toList < 0 := hN.2 hg
          clear hN
          generalize findN L s.data.toList = n at *
          go_enter Tryz.func95, Tryz.ntmps95
          go_wp2_with (first
            | (go_at_call 116; refine hM.mono ?_; rintro e w1 ⟨rfl, e1⟩; subst w1)
            | (go_at_call 96; refine hF.mono ?_; rintro e w1 ⟨rfl, e1⟩; subst w1))
          go_ret
          exact ⟨rfl, rfl⟩
        | false =>
          have h1 : ¬ findN L s.data.toList < 0 := fun c => by have := hN.1 c; rw [hg] at this; cases this
          clear hN
          generalize findN L s.data.toList = n at *
          go_enter Tryz.func95, Tryz.ntmps95
          go_wp2_with (first
            | (go_at_call 116; refine hM.mono ?_; rintro e w1 ⟨rfl, e1⟩; subst w1)
            | (go_at_call 96; refine hF.mono ?_; rintro e w1 ⟨rfl, e1⟩; subst w1))
          go_ret
          exact ⟨rfl, rfl⟩
def Pr (w : World) (v : Value) (P : List RC) : Prop := ∃ ao ca, v = .slice ao P.length ca ∧ P.length ≤ ca ∧ ca ≤ 9223372036854775807 ∧ ∀ i (h : i < P.length), ∃ b off, ao = some ⟨b, off, none⟩ ∧ w.cell? ⟨b, off + i * 3, none⟩ = some (.string P[i].tn) ∧ w.cell? ⟨b, off + i * 3 + 1, none⟩ = some (.int .i64 P[i].fi) ∧ w.cell? ⟨b, off + i * 3 + 2, none⟩ = some (.string P[i].fr)
def runR (L : Dr) (P : List RC) : Dr := P.foldl (fun l c => c.run l) L
theorem runR_snoc (L : Dr) (P : List RC) (c : RC) : runR L (P ++ [c]) = c.run (runR L P) := by simp [runR]
theorem runR_len (L : Dr) (P : List RC) : (runR L P).length ≤ L.length + P.length := by
  induction P generalizing L with
  | nil => simp [runR]
  | cons c r ih => have := ih (c.run L); have := c.run_len L; simp only [runR, List.foldl_cons, List.length_cons] at *; omega
set_option maxRecDepth 100000 in
set_option maxHeartbeats 2000000 in
theorem dir_ref (w : World) (b : Nat) (vO vP : Value) (L : Dr) (P : List RC) (n : Int) (hO : w.cell? ⟨b, 3, none⟩ = some vO) (hP : w.cell? ⟨b, 4, none⟩ = some vP) (hv : Er w vO L) (hp : Pr w vP P) (hl : ((L.length + P.length : Nat) : Int) ≤ 1000000000) (hf : ∀ c ∈ P, -9223372036854775808 ≤ c.fi ∧ c.fi ≤ 9223372036854775807) :
    Calls Tryz.prog 89 #[.pointer (some ⟨b, 0, none⟩), .int .i64 n] w fun e w' => ∃ v', e = .returned v' ∧ En w.heap.size w' v' (runR L (P.take n.toNat)) ∧ Below w.heap.size w w' := by
  obtain ⟨v1, w1, r1, Q1, G1⟩ := run_appE (En.nil w.heap.size w) hv (by simp; omega) (Nat.le_refl _) 100
  rw [List.nil_append] at Q1
  have X1 : Hid (Below w.heap.size w w1) := (Below.refl _ _).grown G1 (Nat.le_refl _) (fun k hk => by simp [Value.ownBlock] at hk)
  replace Q1 := hide Q1
  have hpl : Hid ((P.length : Int) ≤ 1000000000 ∧ (L.length : Int) ≤ 1000000000) := ⟨by omega, by omega⟩
  have hvo : ∃ oa on oc, vO = .slice oa on oc := by obtain ⟨⟨ao, ca, rfl, _⟩, _⟩ := hv; exact ⟨_, _, _, rfl⟩
  obtain ⟨oa, on, oc, rfl⟩ := hvo
  obtain ⟨ao, ca, rfl, q1, q2, q3⟩ := hp
  obtain ⟨N, hN⟩ : ∃ N, Hid (P.length = N) := ⟨_, rfl⟩
  rw [hN.out] at q1 hP hpl hl
  replace q3 := hide q3
  replace hf := hide hf
  replace hl := hide hl
  replace r1 := hide r1
  clear G1
  have KB : Hid (∀ q, Below w.heap.size w q → q.cell? ⟨b, 4, none⟩ = some (.slice ao N ca)) := fun q hq => by rw [hq.cell (lt_of_cell hP)]; exact hP
  go_enter Tryz.func89, Tryz.ntmps89
  go_wp2_with (at_builtin; refine Lib.wpList_append_run _ rfl (.const (.slice none 0 0)) (.tmp 10) 100 100 rfl _ _ rfl rfl _ _ r1.out ?_)
  clear r1
  go_loopw [5, 6] (fun v5 i wr => ∃ k : Nat, i = .int .i64 k ∧ k ≤ N ∧ Hid (k ≤ n.toNat) ∧ Hid (En w.heap.size wr v5 (runR L (P.take k))) ∧ Hid (Below w.heap.size w wr)) (fun _ i _ => N - (intOf i).toNat)
  case atStart => exact ⟨0, rfl, Nat.zero_le _, Nat.zero_le _, Q1.out, X1⟩
  case round =>
    obtain ⟨k, rfl, hk, hkn, hE, hW⟩ := hrel
    have m4 := KB.out wr hW.out
    by_cases hgo : k < N ∧ (k : Int) < n
    · obtain ⟨hlt, i2⟩ := hgo
      have i1 : (k : Int) < (N : Int) := by omega
      have hkl : k < P.length := by rw [hN.out]; exact hlt
      obtain ⟨gb, off, rfl, y0, y1, y2⟩ := q3.out k hkl
      rw [← hW.out.cell (p := ⟨gb, off + k * 3, none⟩) (lt_of_cell y0)] at y0
      rw [← hW.out.cell (p := ⟨gb, off + k * 3 + 1, none⟩) (lt_of_cell y1)] at y1
      rw [← hW.out.cell (p := ⟨gb, off + k * 3 + 2, none⟩) (lt_of_cell y2)] at y2
      have hsn : Hid (runR L (P.take (k + 1)) = (P[k]).run (runR L (P.take k))) := by show _ = _; rw [List.take_succ_eq_append_getElem hkl, runR_snoc]
      have hfk := hf.out _ (List.getElem_mem hkl)
      have hll : ((runR L (P.take k)).length : Int) ≤ 1000000000 := by have := runR_len L (P.take k); rw [List.length_take] at this; have := hl.out; omega
      have hC := changed_ref wr u5 _ P[k] hE.out.er hll hfk.1 hfk.2
      rw [← hsn.out] at hC
      unfold RC.v at hC
      generalize P[k].tn = c0 at *
      generalize P[k].fi = c1 at *
      generalize P[k].fr = c2 at *
      have hkn2 : Hid (k + 1 ≤ n.toNat) := by show _ ≤ _; omega
      clear hll hfk
      go_wp2_with (go_at_call 114; refine hC.mono ?_; rintro e w2 ⟨v2, rfl, A2, b2⟩; replace A2 := hide A2; replace b2 := hide b2)
      have E2 : Hid (En w.heap.size w2 v2 (runR L (P.take (k + 1)))) := by
        rcases A2.out with h | ⟨rfl, e⟩
        · exact owns_lower2 h hW.out.size
        · show En _ _ _ _
          rw [e]
          exact hE.out.below b2.out
      have W2 : Hid (Below w.heap.size w w2) := hW.out.trans (b2.out.mono hW.out.size)
      go_roundw
      case rel => exact ⟨k + 1, by go_num, by omega, hkn2, E2, W2⟩
      case measure => simp [intOf]; omega
    · have hfin : Hid (P.take n.toNat = P.take k) := by
        show _ = _
        by_cases h1 : k < N
        · have : n.toNat = k := by have := hkn.out; omega
          rw [this]
        · rw [List.take_of_length_le (by rw [hN.out]; have := hkn.out; omega), List.take_of_length_le (by rw [hN.out]; omega)]
      have hend : ¬ ((k : Int) < n) ∨ ((k : Int) < n ∧ ¬ ((k : Int) < (N : Int))) := by omega
      rcases hend with i2 | ⟨i2, i1⟩
      · go_wp2_with fail
        go_ret
        exact ⟨_, rfl, by rw [hfin.out]; exact hE.out, hW.out⟩
      · go_wp2_with fail
        go_ret
        exact ⟨_, rfl, by rw [hfin.out]; exact hE.out, hW.out⟩
end Go.Proofs.YtjehpijjneghpaaGreat.Re
namespace Go.Proofs.YtjehpijjneghpaaGreat.Re
open Go.RowKit Go.Maps Go.Sort Go.Shelf Go.Proofs.YtjehpijjneghpaaGreat.Nm Go.Proofs.YtjehpijjneghpaaGreat.Dk
set_option linter.unusedVariables false
theorem svd_zero (f : Fl) : svd f 0 = [] := by unfold svd; simp
theorem svd_spoilt {f : Fl} {k : Nat} (h : k < f.sp) : svd f (k + 1) = svd f k ++ [0] := by
  have e : ∀ m, m ≤ f.sp → svd f m = List.replicate m 0 := fun m hm => by
    unfold svd
    rw [Nat.min_eq_right hm, List.drop_of_length_le (by rw [List.length_take]; omega), List.append_nil]
  rw [e (k + 1) (by omega), e k (by omega), List.replicate_succ']
theorem svd_kept {f : Fl} {k : Nat} (h : ¬ k < f.sp) (hl : f.la.length + k < f.by_.length) : svd f (k + 1) = svd f k ++ [f.by_[f.la.length + k]] := by
  unfold svd
  have hk : k < (f.by_.drop f.la.length).length := by rw [List.length_drop]; omega
  rw [Nat.min_eq_left (by omega), Nat.min_eq_left (by omega), List.take_succ_eq_append_getElem hk, List.drop_append_of_le_length (by rw [List.length_take]; omega), List.append_assoc, List.getElem_drop]
set_option maxRecDepth 100000 in
set_option maxHeartbeats 600000 in
theorem lasting_ref (w : World) (g o : Nat) (vN vL : Value) (f : Fl) (sa : Int) (n : Nat) (c0 : w.cell? ⟨g, o, none⟩ = some vN) (c1 : w.cell? ⟨g, o + 1, none⟩ = some vL) (c2 : w.cell? ⟨g, o + 2, none⟩ = some (.int .i64 sa)) (hN : Sl w vN f.by_) (hL : Sl w vL f.la)
    (hn : f.la.length + n ≤ f.by_.length) (hs : ∀ k : Nat, ((f.la.length + k : Nat) : Int) < sa ↔ k < f.sp) (hz : (f.by_.length : Int) ≤ 100000000) :
    Calls Tryz.prog 90 #[.pointer (some ⟨g, o, none⟩), .int .i64 (n : Int)] w fun e w' => ∃ v', e = .returned v' ∧ Ob w.heap.size w' v' (f.la ++ svd f n) ∧ Below w.heap.size w w' := by
  obtain ⟨v1, w1, r1, Q1, G1, _⟩ := run_app (Ob.nil w.heap.size w) hL (by simp; omega) (Nat.le_refl _) 30
  have X1 : Hid (Below w.heap.size w w1) := (Below.refl _ _).grown G1 (Nat.le_refl _) (fun k hk => by simp [Value.ownBlock] at hk)
  rw [List.nil_append] at Q1
  replace Q1 := hide Q1
  replace r1 := hide r1
  clear G1
  have HN := hide hN
  obtain ⟨an, cn, rfl, zn1, n3, n4, zn2⟩ := hN
  obtain ⟨al, cl, rfl, zl1, l3, l4, zl2⟩ := hL
  have n4' : (cn : Int) ≤ 9223372036854775807 := by unfold maxLen at n4; omega
  have l4' : (cl : Int) ≤ 9223372036854775807 := by unfold maxLen at l4; omega
  clear zn1 zl1 zl2 n4 l4
  replace zn2 := hide zn2
  obtain ⟨A, hA⟩ : ∃ A, Hid (f.la.length = A) := ⟨_, rfl⟩
  obtain ⟨M, hM⟩ : ∃ M, Hid (f.by_.length = M) := ⟨_, rfl⟩
  have hs2 := hide hs
  rw [hA.out] at c1 l3 hn hs2 r1
  rw [hM.out] at c0 n3 hn hz
  replace hz := hide hz
  have KB : Hid (∀ q, Below w.heap.size w q → q.cell? ⟨g, o, none⟩ = some (.slice an M cn) ∧ q.cell? ⟨g, o + 1, none⟩ = some (.slice al A cl) ∧ q.cell? ⟨g, o + 2, none⟩ = some (.int .i64 sa)) := fun q hq => ⟨by rw [hq.cell (lt_of_cell c0)]; exact c0, by rw [hq.cell (lt_of_cell c1)]; exact c1, by rw [hq.cell (lt_of_cell c2)]; exact c2⟩
  obtain ⟨d0, d1, d2⟩ := KB.out w1 X1.out
  have hn2 : (A : Int) + (n : Int) ≤ (M : Int) := by omega
  have hz2 : (M : Int) ≤ 9223372036854775807 := by have := hz.out; omega
  obtain ⟨i0, hi, hz0, hz1, hz3⟩ := info_parts infoB
  replace hi := hide hi
  clear hs hn
  go_enter Tryz.func90, Tryz.ntmps90
  go_wp2_with (at_builtin; refine Lib.wpList_append_run _ rfl (.const (.slice none 0 0)) (.tmp 10) 30 30 rfl _ _ rfl rfl _ _ r1.out ?_)
  clear r1
  go_loopw [5, 6] (fun v5 i wr => ∃ k : Nat, i = .int .i64 ((A : Int) + (k : Int)) ∧ k ≤ n ∧ Hid (Ob w.heap.size wr v5 (f.la ++ svd f k)) ∧ Hid (Below w.heap.size w wr)) (fun _ i _ => (A + n) - (intOf i).toNat)
  case atStart => exact ⟨0, by simp, Nat.zero_le _, by rw [svd_zero, List.append_nil]; exact Q1, X1⟩
  case round =>
    obtain ⟨k, rfl, hk, hE, hW⟩ := hrel
    clear d0 d1 d2
    obtain ⟨d0, d1, d2⟩ := KB.out wr hW.out
    by_cases hlt : k < n
    · have i1 : (A : Int) + (k : Int) < (A : Int) + (n : Int) := by omega
      have i3 : (A : Int) + (k : Int) < (M : Int) := by omega
      by_cases hsp : k < f.sp
      · have i2 : (A : Int) + (k : Int) < sa := by have := (hs2.out k).2 hsp; omega
        have hsn := hide (svd_spoilt hsp)
        have B5 := hide (hW.out.trans ((box_below wr (.cells #[.int .u8 0] 5)).mono hW.out.size))
        have S5 : Sl (wr.alloc (.cells #[.int .u8 0] 5)) (.slice (some ⟨wr.heap.size, 0, none⟩) 1 1) [0] := sl_lit_mark wr [0] 5 (0, 0) (by decide) _ rfl
        have O5 := hE.out.below (box_below wr (.cells #[.int .u8 0] 5))
        obtain ⟨v6, w6, r6, Q6, G6, _⟩ := run_app O5 S5 (by have := hz.out; have := hA.out; have := hM.out; simp [svd]; omega) B5.out.size 30
        have X6 : Hid (Below w.heap.size w w6) := B5.out.grown G6 B5.out.size (fun k hk => (O5.lt k hk).1)
        replace Q6 := hide Q6
        replace r6 := hide r6
        clear S5 O5 G6
        go_wp2_with (at_builtin; refine Lib.wpList_append_run _ rfl (.tmp 34) (.tmp 35) 30 30 rfl _ _ rfl rfl _ _ r6.out ?_)
        exact ⟨⟨k + 1, by rw [show (A : Int) + (k : Int) + 1 = (A : Int) + ((k + 1 : Nat) : Int) by omega], by omega, by rw [hsn.out, ← List.append_assoc]; exact Q6, X6⟩, by simp [intOf]; omega⟩
      · have i2 : ¬ ((A : Int) + (k : Int) < sa) := by
          intro c
          exact hsp ((hs2.out k).1 (by omega))
        have hfl : f.la.length + k < f.by_.length := by have := hA.out; have := hM.out; omega
        have hsn := hide (svd_kept hsp hfl)
        obtain ⟨gb, off, rfl, hcl⟩ := zn2.out (f.la.length + k) hfl
        rw [← hW.out.cell (p := ⟨gb, off + (f.la.length + k), none⟩) (lt_of_cell hcl)] at hcl
        generalize f.by_[f.la.length + k] = x at *
        rw [hA.out] at hcl
        have hcl2 : wr.cell? ⟨gb, off + (A + k), none⟩ = some (.int .u8 (x.toNat : Int)) := hcl
        obtain ⟨I, hI⟩ : ∃ I, Hid (A + k = I) := ⟨_, rfl⟩
        rw [hI.out] at hcl2
        have j3 : (A : Int) + (k : Int) = (I : Int) := by have := hI.out; omega
        have B5 := hide (hW.out.trans ((box_below wr (.cells #[.int .u8 (x.toNat : Int)] 5)).mono hW.out.size))
        have S5 : Sl (wr.alloc (.cells #[.int .u8 (x.toNat : Int)] 5)) (.slice (some ⟨wr.heap.size, 0, none⟩) 1 1) [x] := sl_lit_mark wr [x] 5 (0, 0) (by simp [maxLen]) _ rfl
        have O5 := hE.out.below (box_below wr (.cells #[.int .u8 (x.toNat : Int)] 5))
        obtain ⟨v6, w6, r6, Q6, G6, _⟩ := run_app O5 S5 (by have := hz.out; have := hA.out; have := hM.out; simp [svd]; omega) B5.out.size 30
        have X6 : Hid (Below w.heap.size w w6) := B5.out.grown G6 B5.out.size (fun k hk => (O5.lt k hk).1)
        replace Q6 := hide Q6
        replace r6 := hide r6
        clear S5 O5 G6 hcl
        rw [j3] at i1 i2 i3 ⊢
        replace j3 := hide j3
        go_wp2_with (at_builtin; refine Lib.wpList_append_run _ rfl (.tmp 37) (.tmp 45) 30 30 rfl _ _ rfl rfl _ _ r6.out ?_)
        refine ⟨⟨k + 1, by rw [show (I : Int) + 1 = (A : Int) + ((k + 1 : Nat) : Int) by have := j3.out; omega], by omega, by rw [hsn.out, ← List.append_assoc]; exact Q6, X6⟩, by have := j3.out; simp [intOf]; omega⟩
    · have i1 : ¬ ((A : Int) + (k : Int) < (A : Int) + (n : Int)) := by omega
      obtain rfl : k = n := by omega
      go_wp2_with fail
      go_ret
      exact ⟨_, rfl, hE.out, hW.out⟩
end Go.Proofs.YtjehpijjneghpaaGreat.Re
namespace Go.Proofs.YtjehpijjneghpaaGreat.Re
open Go.RowKit Go.Maps Go.Sort Go.Shelf Go.Proofs.YtjehpijjneghpaaGreat.Nm Go.Proofs.YtjehpijjneghpaaGreat.Dk
set_option linter.unusedVariables false
def MayL (fs : List Ft) (n : Nat) : Prop := ∀ i (hi : i < fs.length), i < n → mayF fs[i] = true ∧ ∀ k (hk : k < i), (fs[k]'(by omega)).1 ≠ fs[i].1
theorem mayF_iff (f : Ft) : mayF f = true ↔ ¬ f.1 < 1 ∧ ¬ f.1 > 4294967296 ∧ ¬ f.2.1 < 1 ∧ ¬ f.2.1 > 4 ∧ ¬ f.2.2 < 0 := by
  unfold mayF
  simp only [Bool.and_eq_true, decide_eq_true_eq]
  omega
structure MayA (w : World) (fs : List Ft) (e : Ending) (w' : World) : Prop where
  ans : ∃ R : Bool, e = .returned (.bool R) ∧ (R = true ↔ fs.length ≤ 64 ∧ MayL fs fs.length)
  below : Below w.heap.size w w'
set_option maxRecDepth 100000 in
set_option maxHeartbeats 2000000 in
theorem may_ref (w : World) (v : Value) (fs : List Ft) (hv : Fts w v fs) :
    Calls Tryz.prog 103 #[v] w fun e w' => MayA w fs e w' := by
  obtain ⟨ao, cap, rfl, q1, q2, q3⟩ := hv
  have q2' : (cap : Int) ≤ 9223372036854775807 := by unfold maxLen at q2; omega
  clear q2
  obtain ⟨N, hN⟩ : ∃ N, Hid (fs.length = N) := ⟨_, rfl⟩
  rw [hN.out] at q1 ⊢
  replace q3 := hide q3
  obtain ⟨G, hG⟩ : ∃ G : Prop, Hid ((N ≤ 64 ∧ MayL fs N) ↔ G) := ⟨_, Iff.rfl⟩
  have post : Hid (∀ (e : Ending) (w' : World) (R : Bool), e = .returned (.bool R) → (R = true ↔ G) → Below w.heap.size w w' → MayA w fs e w') := fun e w' R h1 h2 h3 => ⟨⟨R, h1, by rw [hN.out]; exact h2.trans hG.out.symm⟩, h3⟩
  by_cases hl : (N : Int) > 64
  · have hg : ¬ G := fun c => by have := hG.out.2 c; omega
    go_enter Tryz.func103, Tryz.ntmps103
    go_wp2_with fail
    go_ret
    exact post.out _ _ false rfl ⟨fun c => by (cases c), fun c => absurd c hg⟩ (Below.refl _ _)
  have hl2 : N ≤ 64 := by omega
  go_enter Tryz.func103, Tryz.ntmps103
  go_wp2_with fail
  go_loopw [3] (fun i wr => ∃ k : Nat, i = .int .i64 k ∧ k ≤ N ∧ Hid (MayL fs k) ∧ Hid (Below w.heap.size w wr)) (fun i _ => N - (intOf i).toNat)
  case atStart => exact ⟨0, rfl, Nat.zero_le _, fun i _ c => absurd c (by omega), Below.refl _ _⟩
  case round =>
    obtain ⟨k, rfl, hk, hno, hW⟩ := hrel
    by_cases hlt : k < N
    · have i1 : (k : Int) < (N : Int) := by omega
      have hkl : k < fs.length := by rw [hN.out]; exact hlt
      obtain ⟨gb, off, rfl, y0, y1, y2⟩ := q3.out k hkl
      rw [← hW.out.cell (p := ⟨gb, off + k * 3, none⟩) (lt_of_cell y0)] at y0
      rw [← hW.out.cell (p := ⟨gb, off + k * 3 + 1, none⟩) (lt_of_cell y1)] at y1
      rw [← hW.out.cell (p := ⟨gb, off + k * 3 + 2, none⟩) (lt_of_cell y2)] at y2
      have hmf := hide (mayF_iff fs[k])
      have bad : Hid (mayF fs[k] ≠ true → ¬ G) := fun c g => c ((hG.out.2 g).2 k hkl hlt).1
      have dup : Hid (∀ j (hj : j < k), (fs[j]'(by omega)).1 = fs[k].1 → ¬ G) := fun j hj e g => ((hG.out.2 g).2 k hkl hlt).2 j hj e
      have nxt : Hid (mayF fs[k] = true → (∀ j (hj : j < k), (fs[j]'(by omega)).1 ≠ fs[k].1) → MayL fs (k + 1)) := fun h1 h2 i hi hik => by
        by_cases e : i = k
        · subst e; exact ⟨h1, h2⟩
        · exact hno.out i hi (by omega)
      obtain ⟨F, hF⟩ : ∃ F : Ft, Hid (fs[k] = F) := ⟨fs[k], rfl⟩
      rw [hF.out] at y0 y1 y2 hmf bad
      simp only [hF.out] at dup nxt
      obtain ⟨fa, fk, fp⟩ := F
      dsimp only at y0 y1 y2 hmf dup nxt
      have z0 := heap_alloc_new wr (.cells #[.int .i64 fa, .int .i64 fk, .int .i64 fp] 118)
      have BX := hide (box_below wr (.cells #[.int .i64 fa, .int .i64 fk, .int .i64 fp] 118))
      obtain ⟨X, hX⟩ : ∃ X, Hid (wr.alloc (.cells #[.int .i64 fa, .int .i64 fk, .int .i64 fp] 118) = X) := ⟨_, rfl⟩
      rw [hX.out] at z0 BX
      have WX : Hid (Below w.heap.size w X) := hW.out.trans (BX.out.mono hW.out.size)
      have KX : Hid (∀ q, Below X.heap.size X q → q.cell? ⟨wr.heap.size, 0, none⟩ = some (.int .i64 fa) ∧ q.cell? ⟨wr.heap.size, 1, none⟩ = some (.int .i64 fk) ∧ q.cell? ⟨wr.heap.size, 2, none⟩ = some (.int .i64 fp)) := fun q hq => by
        have z := (hq.block _ (heap_lt z0)).trans z0
        exact ⟨by simp [World.cell?, z], by simp [World.cell?, z], by simp [World.cell?, z]⟩
      obtain ⟨n0, n1, n2⟩ := KX.out X (Below.refl _ _)
      go_upto_region 7 with fail
      rw [hX.out]
      clear y0 y1 y2
      by_cases hm : mayF (fa, fk, fp) = true
      · obtain ⟨a1, a2, a3, a4, a5⟩ := hmf.out.1 hm
        have kN : (k : Int) ≤ 64 := by omega
        obtain ⟨wo, hwo⟩ : ∃ wo, Hid (wr.heap.size = wo) := ⟨_, rfl⟩
        rw [hwo.out] at KX n0 n1 n2 ⊢
        go_wp2_with fail
        go_loopw [5] (fun i wx => ∃ j : Nat, i = .int .i64 j ∧ j ≤ k ∧ Hid (∀ l (hl : l < fs.length), l < j → (fs[l]).1 ≠ fa) ∧ Hid (Below X.heap.size X wx)) (fun i _ => k - (intOf i).toNat)
        case atStart => exact ⟨0, rfl, Nat.zero_le _, fun l _ c => absurd c (by omega), Below.refl _ _⟩
        case round =>
          obtain ⟨j, rfl, hj, hjn, hWx⟩ := hrel
          clear n0 n1 n2
          obtain ⟨n0, n1, n2⟩ := KX.out wr hWx.out
          by_cases hjl : j < k
          · have j1 : (j : Int) < (k : Int) := by omega
            have j2 : (j : Int) < (N : Int) := by omega
            have hjf : j < fs.length := by omega
            obtain ⟨gb', off', e', x0, _, _⟩ := q3.out j hjf
            simp only [Option.some.injEq, Addr.mk.injEq] at e'
            obtain ⟨rfl, rfl, _⟩ := e'
            have hWw := WX.out.trans (hWx.out.mono WX.out.size)
            rw [← hWw.cell (p := ⟨gb, off + j * 3, none⟩) (lt_of_cell x0)] at x0
            by_cases he : fs[j].1 = fa
            · have hg := dup.out j hjl he
              rw [he] at x0
              go_wp2_with fail
              go_quiet (fail)
              go_wp2_with fail
              go_ret
              exact post.out _ _ false rfl ⟨fun c => by (cases c), fun c => absurd c hg⟩ (hWw.trans ((Qt.below ⟨nq, rfl⟩ _).mono hWw.size))
            · have h2 : Hid (∀ l (hl : l < fs.length), l < j + 1 → (fs[l]).1 ≠ fa) := fun l hl c => by
                by_cases e : l = j
                · subst e; exact he
                · exact hjn.out l hl (by omega)
              generalize fs[j].1 = fj at *
              go_wp2_with fail
              go_quiet (fail)
              have B3 : Hid (Below X.heap.size X (wr.drewN nq)) := hWx.out.trans ((Qt.below ⟨nq, rfl⟩ _).mono hWx.out.size)
              generalize wr.drewN nq = wy at *
              go_wp2_with fail
              go_roundw
              case rel => exact ⟨j + 1, by go_num, by omega, h2, B3⟩
              case measure => simp [intOf]; omega
          · have j1 : ¬ ((j : Int) < (k : Int)) := by omega
            obtain rfl : j = k := by omega
            have hnx := hide (nxt.out hm (fun l hl => hjn.out l (by omega) hl))
            have hWw : Hid (Below w.heap.size w wr) := WX.out.trans (hWx.out.mono WX.out.size)
            go_wp2_with fail
            exact ⟨⟨j + 1, by go_num, by omega, hnx, hWw⟩, by simp [intOf]; omega⟩
      · have hg := bad.out hm
        have hbb : fa < 1 ∨ fa > 4294967296 ∨ fk < 1 ∨ fk > 4 ∨ fp < 0 := by
          by_cases c : fa < 1 ∨ fa > 4294967296 ∨ fk < 1 ∨ fk > 4 ∨ fp < 0
          · exact c
          · exact absurd (hmf.out.2 ⟨fun d => c (.inl d), fun d => c (.inr (.inl d)), fun d => c (.inr (.inr (.inl d))), fun d => c (.inr (.inr (.inr (.inl d)))), fun d => c (.inr (.inr (.inr (.inr d))))⟩) hm
        by_cases a1 : fa < 1
        · go_wp2_with fail
          go_ret
          exact post.out _ _ false rfl ⟨fun c => by (cases c), fun c => absurd c hg⟩ WX.out
        by_cases a2 : fa > 4294967296
        · go_wp2_with fail
          go_ret
          exact post.out _ _ false rfl ⟨fun c => by (cases c), fun c => absurd c hg⟩ WX.out
        by_cases a3 : fk < 1
        · go_wp2_with fail
          go_ret
          exact post.out _ _ false rfl ⟨fun c => by (cases c), fun c => absurd c hg⟩ WX.out
        by_cases a4 : fk > 4
        · go_wp2_with fail
          go_ret
          exact post.out _ _ false rfl ⟨fun c => by (cases c), fun c => absurd c hg⟩ WX.out
        have a5 : fp < 0 := by omega
        clear hbb
        go_wp2_with fail
        go_ret
        exact post.out _ _ false rfl ⟨fun c => by (cases c), fun c => absurd c hg⟩ WX.out
    · have i1 : ¬ ((k : Int) < (N : Int)) := by omega
      obtain rfl : k = N := by omega
      have hg : G := hG.out.1 ⟨hl2, hno.out⟩
      go_wp2_with fail
      go_ret
      exact post.out _ _ true rfl ⟨fun _ => hg, fun _ => rfl⟩ hW.out
end Go.Proofs.YtjehpijjneghpaaGreat.Re
namespace Go.Proofs.YtjehpijjneghpaaGreat.Re
open Go.RowKit Go.Maps Go.Sort Go.Shelf Go.Proofs.YtjehpijjneghpaaGreat.Nm Go.Proofs.YtjehpijjneghpaaGreat.Dk
set_option linter.unusedVariables false
def pcells (P : List RC) : List Value := (P.map fun c => [Value.string c.tn, .int .i64 c.fi, .string c.fr]).flatten
theorem pcells_at (P : List RC) : ∀ i (h : i < P.length), (pcells P)[i * 3]? = some (.string P[i].tn) ∧ (pcells P)[i * 3 + 1]? = some (.int .i64 P[i].fi) ∧ (pcells P)[i * 3 + 2]? = some (.string P[i].fr) := by
  induction P with
  | nil => intro i h; simp at h
  | cons e r ih =>
    intro i h
    have : pcells (e :: r) = [.string e.tn, .int .i64 e.fi, .string e.fr] ++ pcells r := by simp [pcells]
    rw [this]
    cases i with
    | zero => exact ⟨rfl, rfl, rfl⟩
    | succ i =>
      obtain ⟨a, b, c⟩ := ih i (by simpa using h)
      rw [show (i + 1) * 3 = i * 3 + 1 + 1 + 1 by omega]
      simp only [List.cons_append, List.nil_append, List.getElem?_cons_succ, List.getElem_cons_succ]
      exact ⟨a, b, c⟩
def Pn (B : Nat) (w : World) (v : Value) (P : List RC) : Prop := w.ownsRow B 155 3 v P.length (pcells P)
theorem infoPn : (Tryz.prog.info? 155).map (fun i => (i.zero, i.size, i.bytes)) = some (some (.agg #[.string ⟨#[]⟩, .int .i64 0, .string ⟨#[]⟩]), 3, 40) := by kernel_rfl
theorem Pn.pr {B : Nat} {w : World} {v : Value} {P : List RC} (h : Pn B w v P) : Pr w v P := by
  have h0 := h
  rcases h.2 with ⟨rfl, e⟩ | ⟨g, cap, cur, rfl, _, _, a, b, _⟩
  · have : P = [] := List.length_eq_zero_iff.1 e
    subst this
    exact ⟨none, 0, rfl, Nat.le_refl _, by omega, fun i hi => by simp at hi⟩
  · refine ⟨_, _, rfl, a, by unfold maxLen at b; omega, fun i hi => ⟨g, 0, rfl, ?_, ?_, ?_⟩⟩
    · have := World.ownsRow.cells h0 (g := g) rfl (i * 3) _ (pcells_at P i hi).1
      rw [addr_add] at this
      exact this
    · have := World.ownsRow.cells h0 (g := g) rfl (i * 3 + 1) _ (pcells_at P i hi).2.1
      rw [addr_add] at this
      exact this
    · have := World.ownsRow.cells h0 (g := g) rfl (i * 3 + 2) _ (pcells_at P i hi).2.2
      rw [addr_add] at this
      exact this
theorem Pn.form {B : Nat} {w : World} {v : Value} {P : List RC} (h : Pn B w v P) : ∃ ao ca, v = .slice ao P.length ca ∧ P.length ≤ ca ∧ ca ≤ 9223372036854775807 := by
  rcases h.2 with ⟨rfl, e⟩ | ⟨g, cap, cur, rfl, _, _, a, b, _⟩
  · exact ⟨_, _, by rw [e], by omega, by omega⟩
  · exact ⟨_, _, rfl, a, by unfold maxLen at b; omega⟩
theorem Pn.lt {B : Nat} {w : World} {v : Value} {P : List RC} (h : Pn B w v P) : ∀ k, v.ownBlock = some k → B ≤ k ∧ k < w.heap.size := fun k hk => World.ownsRow.lt h k hk
theorem Pn.but {X : Nat → Prop} {B : Nat} {w w' : World} {v : Value} {P : List RC} (h : Pn B w v P) (hb : But X w w') (hx : ∀ k, v.ownBlock = some k → ¬ X k) : Pn B w' v P :=
  ⟨h.1, h.2.imp id fun ⟨g, cap, cur, e, hg, hh, r⟩ => ⟨g, cap, cur, e, hg, (hb.block g (heap_lt hh) (hx g (by rw [e]; simp [Value.ownBlock]))).trans hh, r⟩⟩
theorem Pn.below {B : Nat} {w w' : World} {v : Value} {P : List RC} (h : Pn B w v P) (hb : Below w.heap.size w w') : Pn B w' v P := owns_belowN h hb
theorem En.but {X : Nat → Prop} {B : Nat} {w w' : World} {v : Value} {L : Dr} (h : En B w v L) (hb : But X w w') (hx : ∀ k, v.ownBlock = some k → ¬ X k) : En B w' v L :=
  ⟨h.1, h.2.imp id fun ⟨g, cap, cur, e, hg, hh, r⟩ => ⟨g, cap, cur, e, hg, (hb.block g (heap_lt hh) (hx g (by rw [e]; simp [Value.ownBlock]))).trans hh, r⟩⟩
end Go.Proofs.YtjehpijjneghpaaGreat.Re
