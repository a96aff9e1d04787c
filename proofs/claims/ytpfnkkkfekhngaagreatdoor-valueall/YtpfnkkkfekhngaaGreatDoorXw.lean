/-
  The walk of ValueAll (written by gen_Xw.py).
-/
import Derived.Test.YtpfnkkkfekhngaaGreatDoorXcz
import Derived.Test.YtpfnkkkfekhngaaGreatDoorXlz
import Derived.Test.YtpfnkkkfekhngaaGreatDoorXuz
import Derived.Deep.RegionHeld3
namespace Go.Proofs.YtpfnkkkfekhngaaGreatDoor.Va
open Go.RowKit Go.Proofs.YtpfnkkkfekhngaaGreatDoor.Rl
set_option maxRecDepth 100000
set_option linter.unusedVariables false

theorem eqS (w : World) (v1 v2 : Value) (l : List UInt8) (h1 : Sl w v1 l) (h2 : Sl w v2 l) : Calls Tryz.prog 17 #[v1, v2] w fun e w' => e = .returned (.bool true) ∧ Below w.heap.size w w' := by
  obtain ⟨a1, c1, rfl, _, p1, q1, r1⟩ := h1
  obtain ⟨a2, c2, rfl, _, p2, q2, r2⟩ := h2
  exact (Go.Proofs.YtpfnkkkfekhngaaGreatDoor.eq_any w a1 a2 l l c1 c2 (Nat.le_trans p1 q1) (Nat.le_trans p2 q2) r1 r2).mono fun e w' ⟨h, hq⟩ => ⟨by rw [h, decide_eq_true rfl], Qt.below hq _⟩
theorem own_form {w : World} {base e size n : Nat} {v : Value} {xs : List Value} (h : w.ownsRow base e size v n xs) : ∃ ao ca, v = .slice ao n ca := by
  rcases h.2 with ⟨h0, hn⟩ | ⟨g, ca, _, h0, _⟩
  · exact ⟨none, 0, by rw [h0, hn]⟩
  · exact ⟨_, ca, h0⟩
theorem YK.new {w : World} (W : World) (hb : w.heap.size ≤ W.heap.size) : YK w (W.alloc (.cells #[.slice none 0 0, .int .i64 0] 31)) W.heap.size 0 := by
  have h := heap_alloc_new W (.cells #[.slice none 0 0, .int .i64 0] 31)
  exact ⟨hb, [], 0, ⟨_, h, World.ownsRow_nil _ _ _ _, Nat.le_refl _, by omega⟩, ⟨by simp, by simp⟩, by simp⟩
theorem YB.new {w : World} (W : World) (b1 : Below w.heap.size w W) : YB w (W.alloc (.cells #[.slice none 0 0] 27)) W.heap.size 0 :=
  ⟨b1.trans ((box_below _ _).mono b1.size), b1.size, [], ⟨.slice none 0 0, heap_alloc_new _ _, World.ownsRow_nil _ _ _ _, by simp⟩, fun t h => by simp at h, by simp, fun t h => by simp at h⟩
theorem keyO_len (x : Val) : (keyO x).length ≤ 281474976710656 := by
  unfold keyO
  split
  · rename_i h
    have h1 := keyV_le x _ (may_parts h).1
    have h2 := (may_parts h).2
    omega
  · simp

set_option maxHeartbeats 16000000 in
theorem vall_walk (hbeg : Does0 5) (w : World) (ao : Option Addr) (l : List Val) (cap : Nat) (hno : ao = none → l = [] ∧ cap = 0) (hc : l.length ≤ cap) (hcm : cap ≤ maxLen) (hl : IsL w ao 0 l) (hw : wtL l) (hM : Mx w) :
    Calls Tryz.prog 3 #[.slice ao l.length cap] w fun e w' => e = .returned (.bool true) ∧ Below w.heap.size w w' := by
  have ksf : ∀ (w : World) (a : Addr) (x : Nat) (m : Mode), (store a (.float .f64 x) m).run Tryz.prog w = stored Tryz.prog w a (.float .f64 x) m := fun w a x m => run_store Tryz.prog w a _ m rfl
  replace hM := hide hM
  replace hbeg := hide hbeg
  replace hl := hide hl
  replace hw := hide hw
  obtain ⟨n, hn⟩ : ∃ n, Hid (l.length = n) := ⟨_, rfl⟩
  have hn1 : n ≤ 9223372036854775807 := by rw [← hn.out]; unfold maxLen at hcm; omega
  rw [hn.out]
  clear hno hc hcm
  go_enter Tryz.func3, Tryz.ntmps3
  go_wp2_with fail
  refine (hbeg.out _ hM.out).mono ?_
  rintro e w1 ⟨rfl, b1⟩
  obtain ⟨kb, hkb⟩ : ∃ kb, Hid (w1.heap.size = kb) := ⟨_, rfl⟩
  have h0 : Hid (YB w ((w1.alloc (.cells #[.slice none 0 0] 27)).alloc (.cells #[.slice none 0 0, .int .i64 0] 31)) kb 0) := by
    have := YB.new w1 b1
    rw [hkb.out] at this
    exact this.below (box_below _ _)
  have k0 : Hid (YK w ((w1.alloc (.cells #[.slice none 0 0] 27)).alloc (.cells #[.slice none 0 0, .int .i64 0] 31)) (kb + 1) 0) := by
    have := YK.new (w := w) (w1.alloc (.cells #[.slice none 0 0] 27)) (by have := b1.size; simp; omega)
    rw [World.size_alloc, hkb.out] at this
    exact this
  clear b1
  go_wp2_with fail
  rw [hkb.out]
  go_loopw [5] (fun v5 wr => ∃ (k : Nat), k ≤ n ∧ v5 = .int .i64 (k : Int) ∧ Hid (∃ H, YB w wr kb H) ∧ Hid (∃ H, YK w wr (kb + 1) H)) (fun v _ => n - (intOf v).toNat)
  case atStart => exact ⟨0, Nat.zero_le _, rfl, ⟨_, h0.out⟩, ⟨_, k0.out⟩⟩
  case round =>
    clear h0 hkb k0
    obtain ⟨k, hk, rfl, hY0, hK0⟩ := hrel
    have hY : Hid (YB w wr kb wr.heap.size) := by obtain ⟨H, h⟩ := hY0.out; exact h.here
    have hK : Hid (YK w wr (kb + 1) wr.heap.size) := by obtain ⟨H, h⟩ := hK0.out; exact h.here
    have hB : Hid (Below w.heap.size w wr) := hY.out.1
    clear hY0 hK0
    have i2 : (0 : Int) ≤ (k : Int) := by omega
    by_cases hgo : k < n ∧ k < 25
    · have i1 : (k : Int) < (n : Int) := by omega
      have i3 : (k : Int) < 25 := by omega
      have hkl : k < l.length := by rw [hn.out]; omega
      have hwx : Hid (wtV l[k]) := wtL_at hw.out k hkl
      obtain ⟨b, off, c0, c1, c2, c3, c4, rfl, g0, g1, g2, g3, g4, hv⟩ := IsL.get hl.out k hkl
      rw [Nat.zero_add] at g0 g1 g2 g3 g4
      obtain ⟨xk, xn, xr, xt, xo, xm, xc, ev⟩ := isV_shape hv
      simp only [Value.agg.injEq, Array.mk.injEq, List.cons.injEq, and_true] at ev
      obtain ⟨rfl, rfl, rfl, rfl, rfl⟩ := ev
      generalize l[k] = X at *
      replace hgo := hide hgo
      have hcl : Hid (∀ q, Below w.heap.size w q → q.cell? ⟨b, off + k * 5, none⟩ = some (.int .i64 xk) ∧ q.cell? ⟨b, off + k * 5 + 1, none⟩ = some (.int .i64 xn) ∧ q.cell? ⟨b, off + k * 5 + 2, none⟩ = some (.float .f64 xr) ∧ q.cell? ⟨b, off + k * 5 + 3, none⟩ = some (.string xt) ∧ q.cell? ⟨b, off + k * 5 + 4, none⟩ = some (.slice xo xm xc)) := fun q hb =>
        ⟨(hb.cell (lt_of_cell g0)).trans g0, (hb.cell (lt_of_cell g1)).trans g1, (hb.cell (lt_of_cell g2)).trans g2, (hb.cell (lt_of_cell g3)).trans g3, (hb.cell (lt_of_cell g4)).trans g4⟩
      have hvx : Hid (∀ q, Below w.heap.size w q → IsV q (.agg #[.int .i64 xk, .int .i64 xn, .float .f64 xr, .string xt, .slice xo xm xc]) X) := fun q hb => IsV.below hb _ _ hv
      clear hv g0 g1 g2 g3 g4 hkl hk
      obtain ⟨g0, g1, g2, g3, g4⟩ := hcl.out wr hB.out
      obtain ⟨LT, hLT⟩ : ∃ LT, Hid (isLight X = LT) := ⟨_, rfl⟩
      have cl := hide (isLight_any wr _ X (hvx.out _ hB.out))
      rw [hLT.out] at cl
      go_wp2_with fail
      clear g0 g1 g2 g3 g4
      refine cl.out.mono ?_
      rintro e w2 ⟨rfl, b2⟩
      have Y2 : Hid (YB w w2 kb wr.heap.size) := hY.out.below b2
      have K2 : Hid (YK w w2 (kb + 1) wr.heap.size) := hK.out.below b2
      have B2 : Hid (Below w.heap.size w w2) := Y2.out.1
      have hz2 : Hid (w.heap.size ≤ wr.heap.size ∧ wr.heap.size ≤ w2.heap.size) := ⟨hB.out.size, b2.size⟩
      clear cl b2 hY hK hB
      cases LT
      · go_wp2_with fail
        go_roundw
        case rel => exact ⟨k + 1, by have := hgo.out; omega, by go_num, ⟨_, Y2.out⟩, ⟨_, K2.out⟩⟩
        case measure => simp [intOf]; have := hgo.out; omega
      · have ct := hide (twin_any X w2 _ (hvx.out _ B2.out) (light_small hLT.out))
        obtain ⟨g0, g1, g2, g3, g4⟩ := hcl.out w2 B2.out
        go_wp2_with fail
        clear g0 g1 g2 g3 g4
        refine ct.out.mono ?_
        rintro e w3 ⟨cv, rfl, hF3, b3⟩
        obtain ⟨vk, vn, vr, vt, vo, vm, vc, rfl⟩ := isV_shape (MkV.isV _ _ hF3.mkV)
        -- the box of v
        have M4 : Hid (MkV (w3.alloc (.cells #[.int .i64 vk, .int .i64 vn, .float .f64 vr, .string vt, .slice vo vm vc] 35)) (.agg #[.int .i64 vk, .int .i64 vn, .float .f64 vr, .string vt, .slice vo vm vc]) X) := MkV.below (box_below _ _) _ _ hF3.mkV
        have P4 : Hid (C5 (w3.alloc (.cells #[.int .i64 vk, .int .i64 vn, .float .f64 vr, .string vt, .slice vo vm vc] 35)) w3.heap.size (.int .i64 vk) (.int .i64 vn) (.float .f64 vr) (.string vt) (.slice vo vm vc)) := C5.new _ _ _ _ _ _
        have BL4 : Hid (Below w2.heap.size w2 (w3.alloc (.cells #[.int .i64 vk, .int .i64 vn, .float .f64 vr, .string vt, .slice vo vm vc] 35))) := b3.trans ((box_below _ _).mono b3.size)
        have L4 : Hid (w3.heap.size + 1 = (w3.alloc (.cells #[.int .i64 vk, .int .i64 vn, .float .f64 vr, .string vt, .slice vo vm vc] 35)).heap.size) := (World.size_alloc _ _).symm
        obtain ⟨m6, hm6⟩ : ∃ m6, Hid (w3.heap.size = m6) := ⟨_, rfl⟩
        obtain ⟨g0, g1, g2, g3, g4⟩ := P4.out.c
        have cc := hide (Copy_new (w3.alloc (.cells #[.int .i64 vk, .int .i64 vn, .float .f64 vr, .string vt, .slice vo vm vc] 35)) _ X (MkV.isV _ _ M4.out) hwx.out)
        obtain ⟨E, hE⟩ : ∃ E, Hid (errO X = E) := ⟨_, rfl⟩
        obtain ⟨Z, hZ⟩ : ∃ Z, Hid (copyO X = Z) := ⟨_, rfl⟩
        rw [hE.out, hZ.out] at cc
        clear ct hF3 b3
        go_wp2_with fail
        clear g0 g1 g2 g3 g4
        refine cc.out.mono ?_
        clear cc
        rw [hm6.out] at P4 L4 ⊢
        generalize (w3.alloc (.cells #[.int .i64 vk, .int .i64 vn, .float .f64 vr, .string vt, .slice vo vm vc] 35)) = w4 at *
        rintro e w5 ⟨cv, rfl, N5, b5⟩
        obtain ⟨ck, cn, cr, ct, co, cm, cc, rfl⟩ := N5.cells
        have BL6 : Hid (Below w4.heap.size w4 (w5.alloc (.cells #[.int .i64 ck, .int .i64 cn, .float .f64 cr, .string ct, .slice co cm cc] 35))) := b5.trans ((box_below _ _).mono b5.size)
        have N6 : Hid (NewV (w5.alloc (.cells #[.int .i64 ck, .int .i64 cn, .float .f64 cr, .string ct, .slice co cm cc] 35)) w4.heap.size w5.heap.size (.agg #[.int .i64 ck, .int .i64 cn, .float .f64 cr, .string ct, .slice co cm cc]) Z) := NewV.keep _ _ _ _ (fun q _ h => heap_alloc_old _ _ h) N5
        have P6 : Hid (C5 (w5.alloc (.cells #[.int .i64 ck, .int .i64 cn, .float .f64 cr, .string ct, .slice co cm cc] 35)) w5.heap.size (.int .i64 ck) (.int .i64 cn) (.float .f64 cr) (.string ct) (.slice co cm cc)) := C5.new _ _ _ _ _ _
        have L6 : Hid (w4.heap.size ≤ w5.heap.size ∧ w5.heap.size + 1 = (w5.alloc (.cells #[.int .i64 ck, .int .i64 cn, .float .f64 cr, .string ct, .slice co cm cc] 35)).heap.size) := ⟨b5.size, (World.size_alloc _ _).symm⟩
        have B6 : Hid (Below w.heap.size w (w5.alloc (.cells #[.int .i64 ck, .int .i64 cn, .float .f64 cr, .string ct, .slice co cm cc] 35))) := (B2.out.trans (BL4.out.mono B2.out.size)).trans (BL6.out.mono (by have := B2.out.size; have := BL4.out.size; omega))
        obtain ⟨m7, hm7⟩ : ∃ m7, Hid (w5.heap.size = m7) := ⟨_, rfl⟩
        obtain ⟨g0, g1, g2, g3, g4⟩ := hcl.out _ B6.out
        have cc := hide (refCopy_any (w5.alloc (.cells #[.int .i64 ck, .int .i64 cn, .float .f64 cr, .string ct, .slice co cm cc] 35)) _ X (hvx.out _ B6.out) hwx.out)
        rw [hE.out, hZ.out] at cc
        clear N5 b5
        go_wp2_with fail
        clear g0 g1 g2 g3 g4
        refine cc.out.mono ?_
        clear cc
        rw [hm7.out] at N6 P6 L6 ⊢
        generalize (w5.alloc (.cells #[.int .i64 ck, .int .i64 cn, .float .f64 cr, .string ct, .slice co cm cc] 35)) = w6 at *
        rintro e w7 ⟨cv, rfl, I7, b7⟩
        obtain ⟨zk, zn, zr, zt, zo, zm, zc, rfl⟩ := isV_shape I7
        have BL8 : Hid (Below w6.heap.size w6 (w7.alloc (.cells #[.int .i64 zk, .int .i64 zn, .float .f64 zr, .string zt, .slice zo zm zc] 35))) := b7.trans ((box_below _ _).mono b7.size)
        have I8 : Hid (IsV (w7.alloc (.cells #[.int .i64 zk, .int .i64 zn, .float .f64 zr, .string zt, .slice zo zm zc] 35)) (.agg #[.int .i64 zk, .int .i64 zn, .float .f64 zr, .string zt, .slice zo zm zc]) Z) := I7.below (box_below _ _)
        have P8 : Hid (C5 (w7.alloc (.cells #[.int .i64 zk, .int .i64 zn, .float .f64 zr, .string zt, .slice zo zm zc] 35)) w7.heap.size (.int .i64 zk) (.int .i64 zn) (.float .f64 zr) (.string zt) (.slice zo zm zc)) := C5.new _ _ _ _ _ _
        obtain ⟨m9, hm9⟩ : ∃ m9, Hid (w7.heap.size = m9) := ⟨_, rfl⟩
        have BL48 : Hid (Below w4.heap.size w4 (w7.alloc (.cells #[.int .i64 zk, .int .i64 zn, .float .f64 zr, .string zt, .slice zo zm zc] 35))) := BL6.out.trans (BL8.out.mono BL6.out.size)
        have PV8 : Hid (C5 (w7.alloc (.cells #[.int .i64 zk, .int .i64 zn, .float .f64 zr, .string zt, .slice zo zm zc] 35)) m6 (.int .i64 vk) (.int .i64 vn) (.float .f64 vr) (.string vt) (.slice vo vm vc)) := P4.out.below BL48.out
        have MV8 : Hid (MkV (w7.alloc (.cells #[.int .i64 zk, .int .i64 zn, .float .f64 zr, .string zt, .slice zo zm zc] 35)) (.agg #[.int .i64 vk, .int .i64 vn, .float .f64 vr, .string vt, .slice vo vm vc]) X) := MkV.below BL48.out _ _ M4.out
        obtain ⟨g0, g1, g2, g3, g4⟩ := PV8.out.c
        have cc := hide (Key_new (w7.alloc (.cells #[.int .i64 zk, .int .i64 zn, .float .f64 zr, .string zt, .slice zo zm zc] 35)) _ X (MkV.isV _ _ MV8.out) hwx.out)
        rw [hE.out] at cc
        clear I7 b7
        go_wp2_with fail
        clear g0 g1 g2 g3 g4
        refine cc.out.mono ?_
        clear cc
        rw [hm9.out] at P8 ⊢
        generalize (w7.alloc (.cells #[.int .i64 zk, .int .i64 zn, .float .f64 zr, .string zt, .slice zo zm zc] 35)) = w8 at *
        rintro e w9 ⟨kv, rfl, O9, b9⟩
        have O9' := hide O9
        have B8 : Hid (Below w.heap.size w w8) := B6.out.trans (BL8.out.mono B6.out.size)
        have B9 : Hid (Below w.heap.size w w9) := B8.out.trans (b9.mono B8.out.size)
        have BL9 : Hid (Below w8.heap.size w8 w9) := b9
        obtain ⟨g0, g1, g2, g3, g4⟩ := hcl.out _ B9.out
        have cc := hide (refKey4_any w9 _ X (hvx.out _ B9.out) hwx.out)
        rw [hE.out] at cc
        clear b9 O9
        go_wp2_with fail
        clear g0 g1 g2 g3 g4
        refine cc.out.mono ?_
        clear cc
        rintro e wa ⟨rv, rfl, Sr, ba⟩
        have Sr' := hide Sr
        have B10 : Hid (Below w.heap.size w wa) := B9.out.trans (ba.mono B9.out.size)
        have BL8a : Hid (Below w8.heap.size w8 wa) := BL9.out.trans (ba.mono BL9.out.size)
        have BL4a : Hid (Below w4.heap.size w4 wa) := BL48.out.trans (BL8a.out.mono BL48.out.size)
        have BL6a : Hid (Below w6.heap.size w6 wa) := BL8.out.trans (BL8a.out.mono BL8.out.size)
        have Oa : Hid (wa.ownsRow w8.heap.size 5 1 kv (keyO X).length (bvals (keyO X))) := ownsRow_below O9'.out ba
        have La : Hid (w8.heap.size ≤ w9.heap.size ∧ w9.heap.size ≤ wa.heap.size) := ⟨BL9.out.size, ba.size⟩
        have hkv : Hid (∀ k, kv.ownBlock = some k → k < w9.heap.size) := fun k h => (O9'.out.lt k h).2
        clear ba Sr O9' B9 BL9 B8
        -- region 14
        have KS : Hid (∀ q : World, Below wa.heap.size wa q → Below wa.heap.size wa q ∧ q.cell? ⟨b, off + k * 5, none⟩ = some (.int .i64 xk) ∧ q.cell? ⟨b, off + k * 5 + 1, none⟩ = some (.int .i64 xn) ∧ q.cell? ⟨b, off + k * 5 + 2, none⟩ = some (.float .f64 xr) ∧ q.cell? ⟨b, off + k * 5 + 3, none⟩ = some (.string xt) ∧ q.cell? ⟨b, off + k * 5 + 4, none⟩ = some (.slice xo xm xc) ∧ q.cell? ⟨m6, 0, none⟩ = some (.int .i64 vk) ∧ q.cell? ⟨m6, 1, none⟩ = some (.int .i64 vn) ∧ q.cell? ⟨m6, 2, none⟩ = some (.float .f64 vr) ∧ q.cell? ⟨m6, 3, none⟩ = some (.string vt) ∧ q.cell? ⟨m6, 4, none⟩ = some (.slice vo vm vc) ∧ q.cell? ⟨m7, 0, none⟩ = some (.int .i64 ck) ∧ q.cell? ⟨m7, 1, none⟩ = some (.int .i64 cn) ∧ q.cell? ⟨m7, 2, none⟩ = some (.float .f64 cr) ∧ q.cell? ⟨m7, 3, none⟩ = some (.string ct) ∧ q.cell? ⟨m7, 4, none⟩ = some (.slice co cm cc) ∧ q.cell? ⟨m9, 0, none⟩ = some (.int .i64 zk) ∧ q.cell? ⟨m9, 1, none⟩ = some (.int .i64 zn) ∧ q.cell? ⟨m9, 2, none⟩ = some (.float .f64 zr) ∧ q.cell? ⟨m9, 3, none⟩ = some (.string zt) ∧ q.cell? ⟨m9, 4, none⟩ = some (.slice zo zm zc)) := fun q hq => by
          have t1 := hcl.out q (B10.out.trans (hq.mono B10.out.size))
          have t2 := ((P4.out.below BL4a.out).below hq).c
          have t3 := ((P6.out.below BL6a.out).below hq).c
          have t4 := ((P8.out.below BL8a.out).below hq).c
          exact ⟨hq, t1.1, t1.2.1, t1.2.2.1, t1.2.2.2.1, t1.2.2.2.2, t2.1, t2.2.1, t2.2.2.1, t2.2.2.2.1, t2.2.2.2.2, t3.1, t3.2.1, t3.2.2.1, t3.2.2.2.1, t3.2.2.2.2, t4⟩
        have hS0 := KS.out wa.drew (Below.refl _ _).drew
        have IV : Hid (∀ q, Below wa.heap.size wa q → MkV q (.agg #[.int .i64 vk, .int .i64 vn, .float .f64 vr, .string vt, .slice vo vm vc]) X) := fun q hq => MkV.below hq _ _ (MkV.below BL4a.out _ _ M4.out)
        have IX : Hid (∀ q, Below wa.heap.size wa q → IsV q (.agg #[.int .i64 xk, .int .i64 xn, .float .f64 xr, .string xt, .slice xo xm xc]) X) := fun q hq => hvx.out q (B10.out.trans (hq.mono B10.out.size))
        have CM : Hid (∀ q, Below wa.heap.size wa q → Calls Tryz.prog 12 #[(.agg #[.int .i64 vk, .int .i64 vn, .float .f64 vr, .string vt, .slice vo vm vc])] q fun e w' => e = .returned (.bool (mayV X)) ∧ Below q.heap.size q w') := fun q hq => may_any q _ X (MkV.isV _ _ (IV.out q hq)) hwx.out
        have CF : Hid (∀ q, Below wa.heap.size wa q → Calls Tryz.prog 13 #[(.agg #[.int .i64 xk, .int .i64 xn, .float .f64 xr, .string xt, .slice xo xm xc])] q fun e w' => e = .returned (.bool (mayV X)) ∧ Below q.heap.size q w') := fun q hq => refMay_any q _ X (IX.out q hq)
        have CS : Hid (∀ q, Below wa.heap.size wa q → Calls Tryz.prog 14 #[(.agg #[.int .i64 vk, .int .i64 vn, .float .f64 vr, .string vt, .slice vo vm vc])] q fun e w' => e = .returned (.int .i64 (sizeO X)) ∧ Below q.heap.size q w') := fun q hq => Size_any q _ X (MkV.isV _ _ (IV.out q hq)) hwx.out
        have CG : Hid (∀ q, Below wa.heap.size wa q → Calls Tryz.prog 15 #[(.agg #[.int .i64 xk, .int .i64 xn, .float .f64 xr, .string xt, .slice xo xm xc])] q fun e w' => e = .returned (.int .i64 (sizeO X)) ∧ Below q.heap.size q w') := fun q hq => refSize_any q _ X (IX.out q hq)
        have CE : Hid (∀ q, Below wa.heap.size wa q → Calls Tryz.prog 16 #[(.agg #[.int .i64 ck, .int .i64 cn, .float .f64 cr, .string ct, .slice co cm cc]), (.agg #[.int .i64 zk, .int .i64 zn, .float .f64 zr, .string zt, .slice zo zm zc])] q fun e w' => e = .returned (.bool true) ∧ Below q.heap.size q w') := fun q hq => by
          have t := eq_any Z Z q _ _ ((NewV.isV _ _ _ _ N6.out).below (BL6a.out.trans (hq.mono BL6a.out.size))) (I8.out.below (BL8a.out.trans (hq.mono BL8a.out.size)))
          rw [(eqV_iff Z Z).2 rfl] at t
          exact t
        have CQ : Hid (∀ q, Below wa.heap.size wa q → Calls Tryz.prog 17 #[kv, rv] q fun e w' => e = .returned (.bool true) ∧ Below q.heap.size q w') := fun q hq => eqS q kv rv _ (Below.sl hq (Sl.of_owns Oa.out)) (Below.sl hq Sr'.out)
        have CK : Hid (∀ q, Below wa.heap.size wa q → Calls Tryz.prog 18 #[(.agg #[.int .i64 vk, .int .i64 vn, .float .f64 vr, .string vt, .slice vo vm vc]), (.agg #[.int .i64 xk, .int .i64 xn, .float .f64 xr, .string xt, .slice xo xm xc])] q fun e w' => e = .returned (.bool true) ∧ Below q.heap.size q w') := fun q hq => kept_any X q _ _ (IV.out q hq) (IX.out q hq)
        generalize mayV X = mx at CM CF
        generalize sizeO X = sx at CS CG
        have f1 : (mx != mx) = false := by simp
        have f2 : (sx != sx) = false := by simp
        have f3 : (E != E) = false := by simp
        go_wp2_with fail
        go_region_held3 (fun q => Below wa.heap.size wa q ∧ q.cell? ⟨b, off + k * 5, none⟩ = some (.int .i64 xk) ∧ q.cell? ⟨b, off + k * 5 + 1, none⟩ = some (.int .i64 xn) ∧ q.cell? ⟨b, off + k * 5 + 2, none⟩ = some (.float .f64 xr) ∧ q.cell? ⟨b, off + k * 5 + 3, none⟩ = some (.string xt) ∧ q.cell? ⟨b, off + k * 5 + 4, none⟩ = some (.slice xo xm xc) ∧ q.cell? ⟨m6, 0, none⟩ = some (.int .i64 vk) ∧ q.cell? ⟨m6, 1, none⟩ = some (.int .i64 vn) ∧ q.cell? ⟨m6, 2, none⟩ = some (.float .f64 vr) ∧ q.cell? ⟨m6, 3, none⟩ = some (.string vt) ∧ q.cell? ⟨m6, 4, none⟩ = some (.slice vo vm vc) ∧ q.cell? ⟨m7, 0, none⟩ = some (.int .i64 ck) ∧ q.cell? ⟨m7, 1, none⟩ = some (.int .i64 cn) ∧ q.cell? ⟨m7, 2, none⟩ = some (.float .f64 cr) ∧ q.cell? ⟨m7, 3, none⟩ = some (.string ct) ∧ q.cell? ⟨m7, 4, none⟩ = some (.slice co cm cc) ∧ q.cell? ⟨m9, 0, none⟩ = some (.int .i64 zk) ∧ q.cell? ⟨m9, 1, none⟩ = some (.int .i64 zn) ∧ q.cell? ⟨m9, 2, none⟩ = some (.float .f64 zr) ∧ q.cell? ⟨m9, 3, none⟩ = some (.string zt) ∧ q.cell? ⟨m9, 4, none⟩ = some (.slice zo zm zc))
          (first | exact hS0 | assumption | exact KS.out _ KP | fail)
          (first
            | (go_at_call 12; have hL := And.left (by assumption : Below wa.heap.size wa _ ∧ _); refine (CM.out _ hL).mono ?_; rintro ee u1 ⟨rfl, BB⟩
               have KP : Below wa.heap.size wa u1 := hL.trans (BB.mono hL.size))
            | (go_at_call 13; have hL := And.left (by assumption : Below wa.heap.size wa _ ∧ _); refine (CF.out _ hL).mono ?_; rintro ee u1 ⟨rfl, BB⟩
               have KP : Below wa.heap.size wa u1 := hL.trans (BB.mono hL.size))
            | (go_at_call 14; have hL := And.left (by assumption : Below wa.heap.size wa _ ∧ _); refine (CS.out _ hL).mono ?_; rintro ee u1 ⟨rfl, BB⟩
               have KP : Below wa.heap.size wa u1 := hL.trans (BB.mono hL.size))
            | (go_at_call 15; have hL := And.left (by assumption : Below wa.heap.size wa _ ∧ _); refine (CG.out _ hL).mono ?_; rintro ee u1 ⟨rfl, BB⟩
               have KP : Below wa.heap.size wa u1 := hL.trans (BB.mono hL.size))
            | (go_at_call 16; have hL := And.left (by assumption : Below wa.heap.size wa _ ∧ _); refine (CE.out _ hL).mono ?_; rintro ee u1 ⟨rfl, BB⟩
               have KP : Below wa.heap.size wa u1 := hL.trans (BB.mono hL.size))
            | (go_at_call 17; have hL := And.left (by assumption : Below wa.heap.size wa _ ∧ _); refine (CQ.out _ hL).mono ?_; rintro ee u1 ⟨rfl, BB⟩
               have KP : Below wa.heap.size wa u1 := hL.trans (BB.mono hL.size))
            | (go_at_call 18; have hL := And.left (by assumption : Below wa.heap.size wa _ ∧ _); refine (CK.out _ hL).mono ?_; rintro ee u1 ⟨rfl, BB⟩
               have KP : Below wa.heap.size wa u1 := hL.trans (BB.mono hL.size))
            | fail)
        all_goals (
          have B11 : Hid (Below w.heap.size w u1) := B10.out.trans (KP.mono B10.out.size)
          have BL4b : Hid (Below w4.heap.size w4 u1) := BL4a.out.trans (KP.mono BL4a.out.size)
          have BL6b : Hid (Below w6.heap.size w6 u1) := BL6a.out.trans (KP.mono BL6a.out.size)
          have Ob : Hid (u1.ownsRow w8.heap.size 5 1 kv (keyO X).length (bvals (keyO X))) := ownsRow_below Oa.out KP
          have PVb : Hid (C5 u1 m6 (.int .i64 vk) (.int .i64 vn) (.float .f64 vr) (.string vt) (.slice vo vm vc)) := P4.out.below BL4b.out
          have MVb : Hid (MkV u1 (.agg #[.int .i64 vk, .int .i64 vn, .float .f64 vr, .string vt, .slice vo vm vc]) X) := MkV.below BL4b.out _ _ M4.out
          have Lb : Hid (m7 ≤ u1.heap.size ∧ w9.heap.size ≤ u1.heap.size) := ⟨by have := L6.out; have := BL6b.out.size; omega, by have := La.out; have := KP.size; omega⟩
          have L8 : Hid (wr.heap.size ≤ w4.heap.size ∧ w.heap.size ≤ w4.heap.size ∧ w4.heap.size ≤ w8.heap.size ∧ w4.heap.size ≤ m7 ∧ m7 < w6.heap.size) := ⟨by have := hz2.out; have := BL4.out.size; omega, by have := hz2.out; have := BL4.out.size; omega, BL48.out.size, L6.out.1, by have := L6.out; omega⟩
          clear KP hS0 KS IV IX CM CF CS CG CE CQ CK Oa Sr' BL8a BL4a BL6a B10 B6 BL8 BL48 f1 f2 f3
          obtain ⟨g0, g1, g2, g3, g4⟩ := PVb.out.c
          have cc := hide (Copy_new u1 _ X (MkV.isV _ _ MVb.out) hwx.out)
          rw [hE.out, hZ.out] at cc
          go_wp2_with fail
          clear g0 g1 g2 g3 g4
          refine cc.out.mono ?_
          clear cc
          rintro e w12 ⟨av, rfl, N12, b12⟩
          obtain ⟨sk, sn, sr, st, so, sm, sc, rfl⟩ := N12.cells
          have BL13 : Hid (Below u1.heap.size u1 (w12.alloc (.cells #[.int .i64 sk, .int .i64 sn, .float .f64 sr, .string st, .slice so sm sc] 35))) := b12.trans ((box_below _ _).mono b12.size)
          have N13 : Hid (NewV (w12.alloc (.cells #[.int .i64 sk, .int .i64 sn, .float .f64 sr, .string st, .slice so sm sc] 35)) u1.heap.size w12.heap.size (.agg #[.int .i64 sk, .int .i64 sn, .float .f64 sr, .string st, .slice so sm sc]) Z) := NewV.keep _ _ _ _ (fun q _ h => heap_alloc_old _ _ h) N12
          have P13 : Hid (C5 (w12.alloc (.cells #[.int .i64 sk, .int .i64 sn, .float .f64 sr, .string st, .slice so sm sc] 35)) w12.heap.size (.int .i64 sk) (.int .i64 sn) (.float .f64 sr) (.string st) (.slice so sm sc)) := C5.new _ _ _ _ _ _
          have L13 : Hid (u1.heap.size ≤ w12.heap.size ∧ w12.heap.size + 1 = (w12.alloc (.cells #[.int .i64 sk, .int .i64 sn, .float .f64 sr, .string st, .slice so sm sc] 35)).heap.size) := ⟨b12.size, (World.size_alloc _ _).symm⟩
          have PV13 : Hid (C5 (w12.alloc (.cells #[.int .i64 sk, .int .i64 sn, .float .f64 sr, .string st, .slice so sm sc] 35)) m6 (.int .i64 vk) (.int .i64 vn) (.float .f64 vr) (.string vt) (.slice vo vm vc)) := PVb.out.below BL13.out
          have MV13 : Hid (MkV (w12.alloc (.cells #[.int .i64 sk, .int .i64 sn, .float .f64 sr, .string st, .slice so sm sc] 35)) (.agg #[.int .i64 vk, .int .i64 vn, .float .f64 vr, .string vt, .slice vo vm vc]) X) := MkV.below BL13.out _ _ MVb.out
          obtain ⟨m15, hm15⟩ : ∃ m15, Hid (w12.heap.size = m15) := ⟨_, rfl⟩
          obtain ⟨g0, g1, g2, g3, g4⟩ := PV13.out.c
          have cc := hide (Key_new (w12.alloc (.cells #[.int .i64 sk, .int .i64 sn, .float .f64 sr, .string st, .slice so sm sc] 35)) _ X (MkV.isV _ _ MV13.out) hwx.out)
          rw [hE.out] at cc
          clear N12 b12
          go_wp2_with fail
          clear g0 g1 g2 g3 g4
          refine cc.out.mono ?_
          clear cc
          rw [hm15.out] at N13 P13 L13 ⊢
          generalize (w12.alloc (.cells #[.int .i64 sk, .int .i64 sn, .float .f64 sr, .string st, .slice so sm sc] 35)) = w13 at *
          rintro e w14 ⟨kw, rfl, O14, b14⟩
          have BL14 : Below u1.heap.size u1 w14 := BL13.out.trans (b14.mono BL13.out.size)
          have BL4c : Below w4.heap.size w4 w14 := BL4b.out.trans (BL14.mono BL4b.out.size)
          have BL6c : Below w6.heap.size w6 w14 := BL6b.out.trans (BL14.mono BL6b.out.size)
          have BL2c : Below w2.heap.size w2 w14 := BL4.out.trans (BL4c.mono BL4.out.size)
          have Y14 : Hid (YB w w14 kb wr.heap.size) := Y2.out.below BL2c
          have K14 : Hid (YK w w14 (kb + 1) wr.heap.size) := K2.out.below BL2c
          have N6c : Hid (NewV w14 w4.heap.size m7 (.agg #[.int .i64 ck, .int .i64 cn, .float .f64 cr, .string ct, .slice co cm cc]) Z) := NewV.keep _ _ _ _ (fun q _ h => BL6c.block q (by have := L8.out; omega)) N6.out
          have P6c : Hid (C5 w14 m7 (.int .i64 ck) (.int .i64 cn) (.float .f64 cr) (.string ct) (.slice co cm cc)) := P6.out.below BL6c
          have Oc : Hid (w14.ownsRow w8.heap.size 5 1 kv (keyO X).length (bvals (keyO X))) := ownsRow_below Ob.out BL14
          have Od : Hid (w14.ownsRow w13.heap.size 5 1 kw (keyO X).length (bvals (keyO X))) := O14
          have N13c : Hid (NewV w14 u1.heap.size m15 (.agg #[.int .i64 sk, .int .i64 sn, .float .f64 sr, .string st, .slice so sm sc]) Z) := NewV.keep _ _ _ _ (fun q _ h => b14.block q (by have := L13.out; omega)) N13.out
          have P13c : Hid (C5 w14 m15 (.int .i64 sk) (.int .i64 sn) (.float .f64 sr) (.string st) (.slice so sm sc)) := P13.out.below b14
          have PVc : Hid (C5 w14 m6 (.int .i64 vk) (.int .i64 vn) (.float .f64 vr) (.string vt) (.slice vo vm vc)) := PV13.out.below b14
          have MVc : Hid (MkV w14 (.agg #[.int .i64 vk, .int .i64 vn, .float .f64 vr, .string vt, .slice vo vm vc]) X) := MkV.below b14 _ _ MV13.out
          clear O14 b14 BL14 BL4c BL6c BL2c PV13 MV13 P13 N13 BL13 PVb MVb Ob BL4b BL6b N6 P6 M4 P4 BL4 BL6 Y2 K2 I8 P8 PV8 MV8
          obtain ⟨g0, g1, g2, g3, g4⟩ := P6c.out.c
          have ck := hide (Y14.out.keeps N6c.out L8.out.1 L8.out.2.1 L8.out.2.2.2.1)
          go_wp2_with fail
          clear g0 g1 g2 g3 g4
          refine ck.out.mono ?_
          clear ck
          rintro e w15 ⟨rfl, Y15, f15⟩
          have P15 : Hid (C5 w15 m15 (.int .i64 sk) (.int .i64 sn) (.float .f64 sr) (.string st) (.slice so sm sc)) := P13c.out.fr f15
          obtain ⟨g0, g1, g2, g3, g4⟩ := P15.out.c
          have ck := hide (YB.keeps Y15 (NewV.fr f15 _ _ _ _ N13c.out) Lb.out.1 (by have := Lb.out; have := L8.out; omega) L13.out.1)
          have F15 := hide f15
          clear f15 Y15
          go_wp2_with fail
          clear g0 g1 g2 g3 g4
          refine ck.out.mono ?_
          clear ck
          rintro e w16 ⟨rfl, Y16, f16⟩
          have F16 : Fr w14 w16 := F15.out.trans f16
          have PVe : Hid (C5 w16 m6 (.int .i64 vk) (.int .i64 vn) (.float .f64 vr) (.string vt) (.slice vo vm vc)) := PVc.out.fr F16
          have MVe : Hid (MkV w16 (.agg #[.int .i64 vk, .int .i64 vn, .float .f64 vr, .string vt, .slice vo vm vc]) X) := MVc.out.fr F16
          have Y16' := hide Y16
          obtain ⟨f1, f2, rfl⟩ := own_form Oc.out
          obtain ⟨f3, f4, rfl⟩ := own_form Od.out
          obtain ⟨NK, hNK⟩ : ∃ N, Hid ((keyO X).length = N) := ⟨_, rfl⟩
          have ck := hide (YK.keeps (K14.out.fr F16) (owns_fr Oc.out F16 (by decide) (by decide)) (owns_fr Od.out F16 (by decide) (by decide)) (keyO_len X) (keyO_len X) (by have := L8.out; omega) (by have := L8.out; omega) (fun k h => by have := hkv.out k h; have := Lb.out; have := L13.out; omega) (by have := La.out; have := Lb.out; have := L13.out; omega) 2)
          clear F16 F15 f16 Y16 PVc MVc K14 Oc Od N13c P13c P15 N6c P6c Y14 hkv
          rw [hNK.out] at ck ⊢
          go_wp2_with fail
          refine ck.out.mono ?_
          clear ck
          rintro e w17 ⟨rfl, K17, f17, b17⟩
          have Y17 : Hid (YB w w17 kb m15) := Y16'.out.frT f17 b17
          have PVf : Hid (C5 w17 m6 (.int .i64 vk) (.int .i64 vn) (.float .f64 vr) (.string vt) (.slice vo vm vc)) := PVe.out.frT f17
          have MVf : Hid (MkV w17 (.agg #[.int .i64 vk, .int .i64 vn, .float .f64 vr, .string vt, .slice vo vm vc]) X) := MVe.out.frT f17
          have K17' := hide K17
          have B17 : Hid (Below w.heap.size w w17) := Y17.out.1
          clear K17 f17 b17 Y16' PVe MVe
          go_wp2_with fail
          go_loopw [19] (fun v19 wr => ∃ (j : Nat), j ≤ n ∧ v19 = .int .i64 (j : Int) ∧ Hid (Below w17.heap.size w17 wr)) (fun v _ => n - (intOf v).toNat)
          case atStart => exact ⟨0, Nat.zero_le _, rfl, Below.refl _ _⟩
          case round =>
            obtain ⟨j, hj, rfl, hQ⟩ := hrel
            have j2 : (0 : Int) ≤ (j : Int) := by omega
            by_cases hjo : j < n ∧ j < 25
            · have j1 : (j : Int) < (n : Int) := by omega
              have j3 : (j : Int) < 25 := by omega
              have hjl : j < l.length := by rw [hn.out]; omega
              have hwy : Hid (wtV l[j]) := wtL_at hw.out j hjl
              obtain ⟨b', off', c0, c1, c2, c3, c4, eb, g0, g1, g2, g3, g4, hv⟩ := IsL.get hl.out j hjl
              simp only [Option.some.injEq, Addr.mk.injEq, and_true] at eb
              obtain ⟨rfl, rfl⟩ := eb
              rw [Nat.zero_add] at g0 g1 g2 g3 g4
              obtain ⟨yk, yn, yr, yt, yo, ym, yc, ev⟩ := isV_shape hv
              simp only [Value.agg.injEq, Array.mk.injEq, List.cons.injEq, and_true] at ev
              obtain ⟨rfl, rfl, rfl, rfl, rfl⟩ := ev
              generalize l[j] = Y at *
              replace hjo := hide hjo
              have hcy : Hid (∀ q, Below w.heap.size w q → q.cell? ⟨b, off + j * 5, none⟩ = some (.int .i64 yk) ∧ q.cell? ⟨b, off + j * 5 + 1, none⟩ = some (.int .i64 yn) ∧ q.cell? ⟨b, off + j * 5 + 2, none⟩ = some (.float .f64 yr) ∧ q.cell? ⟨b, off + j * 5 + 3, none⟩ = some (.string yt) ∧ q.cell? ⟨b, off + j * 5 + 4, none⟩ = some (.slice yo ym yc)) := fun q hb =>
                ⟨(hb.cell (lt_of_cell g0)).trans g0, (hb.cell (lt_of_cell g1)).trans g1, (hb.cell (lt_of_cell g2)).trans g2, (hb.cell (lt_of_cell g3)).trans g3, (hb.cell (lt_of_cell g4)).trans g4⟩
              have hvy : Hid (∀ q, Below w.heap.size w q → IsV q (.agg #[.int .i64 yk, .int .i64 yn, .float .f64 yr, .string yt, .slice yo ym yc]) Y) := fun q hb => IsV.below hb _ _ hv
              clear hv g0 g1 g2 g3 g4 hjl hj
              have KS : Hid (∀ q : World, Below w17.heap.size w17 q → Below w17.heap.size w17 q ∧ q.cell? ⟨b, off + k * 5, none⟩ = some (.int .i64 xk) ∧ q.cell? ⟨b, off + k * 5 + 1, none⟩ = some (.int .i64 xn) ∧ q.cell? ⟨b, off + k * 5 + 2, none⟩ = some (.float .f64 xr) ∧ q.cell? ⟨b, off + k * 5 + 3, none⟩ = some (.string xt) ∧ q.cell? ⟨b, off + k * 5 + 4, none⟩ = some (.slice xo xm xc) ∧ q.cell? ⟨m6, 0, none⟩ = some (.int .i64 vk) ∧ q.cell? ⟨m6, 1, none⟩ = some (.int .i64 vn) ∧ q.cell? ⟨m6, 2, none⟩ = some (.float .f64 vr) ∧ q.cell? ⟨m6, 3, none⟩ = some (.string vt) ∧ q.cell? ⟨m6, 4, none⟩ = some (.slice vo vm vc) ∧ q.cell? ⟨b, off + j * 5, none⟩ = some (.int .i64 yk) ∧ q.cell? ⟨b, off + j * 5 + 1, none⟩ = some (.int .i64 yn) ∧ q.cell? ⟨b, off + j * 5 + 2, none⟩ = some (.float .f64 yr) ∧ q.cell? ⟨b, off + j * 5 + 3, none⟩ = some (.string yt) ∧ q.cell? ⟨b, off + j * 5 + 4, none⟩ = some (.slice yo ym yc)) := fun q hq => by
                have t0 := B17.out.trans (hq.mono B17.out.size)
                have t1 := hcl.out q t0
                have t2 := (PVf.out.below hq).c
                exact ⟨hq, t1.1, t1.2.1, t1.2.2.1, t1.2.2.2.1, t1.2.2.2.2, t2.1, t2.2.1, t2.2.2.1, t2.2.2.2.1, t2.2.2.2.2, hcy.out q t0⟩
              have hS0 := KS.out wr.drew hQ.out.drew
              have IV : Hid (∀ q, Below w17.heap.size w17 q → IsV q (.agg #[.int .i64 vk, .int .i64 vn, .float .f64 vr, .string vt, .slice vo vm vc]) X) := fun q hq => MkV.isV _ _ (MkV.below hq _ _ MVf.out)
              have IX : Hid (∀ q, Below w17.heap.size w17 q → IsV q (.agg #[.int .i64 xk, .int .i64 xn, .float .f64 xr, .string xt, .slice xo xm xc]) X) := fun q hq => hvx.out q (B17.out.trans (hq.mono B17.out.size))
              have IY : Hid (∀ q, Below w17.heap.size w17 q → IsV q (.agg #[.int .i64 yk, .int .i64 yn, .float .f64 yr, .string yt, .slice yo ym yc]) Y) := fun q hq => hvy.out q (B17.out.trans (hq.mono B17.out.size))
              have CL : Hid (∀ q, Below w17.heap.size w17 q → Calls Tryz.prog 6 #[(.agg #[.int .i64 yk, .int .i64 yn, .float .f64 yr, .string yt, .slice yo ym yc])] q fun e w' => e = .returned (.bool (isLight Y)) ∧ Below q.heap.size q w') := fun q hq => isLight_any q _ Y (IY.out q hq)
              have CC : Hid (∀ q, Below w17.heap.size w17 q → Calls Tryz.prog 21 #[(.agg #[.int .i64 vk, .int .i64 vn, .float .f64 vr, .string vt, .slice vo vm vc]), (.agg #[.int .i64 yk, .int .i64 yn, .float .f64 yr, .string yt, .slice yo ym yc])] q fun e w' => e = .returned (.int .i64 (compV X Y)) ∧ Below q.heap.size q w') := fun q hq => Compare_any q _ _ X Y (IV.out q hq) (IY.out q hq) hwx.out hwy.out
              have CR : Hid (∀ q, Below w17.heap.size w17 q → Calls Tryz.prog 22 #[(.agg #[.int .i64 xk, .int .i64 xn, .float .f64 xr, .string xt, .slice xo xm xc]), (.agg #[.int .i64 yk, .int .i64 yn, .float .f64 yr, .string yt, .slice yo ym yc])] q fun e w' => e = .returned (.int .i64 (compV X Y)) ∧ Below q.heap.size q w') := fun q hq => refComp_any q _ _ X Y (IX.out q hq) (IY.out q hq) hwx.out hwy.out
              have CS : Hid (∀ q, Below w17.heap.size w17 q → Calls Tryz.prog 23 #[(.agg #[.int .i64 vk, .int .i64 vn, .float .f64 vr, .string vt, .slice vo vm vc]), (.agg #[.int .i64 yk, .int .i64 yn, .float .f64 yr, .string yt, .slice yo ym yc])] q fun e w' => e = .returned (.bool (sameV X Y)) ∧ Below q.heap.size q w') := fun q hq => Same_any q _ _ X Y (IV.out q hq) (IY.out q hq) hwx.out hwy.out
              have CT : Hid (∀ q, Below w17.heap.size w17 q → Calls Tryz.prog 24 #[(.agg #[.int .i64 xk, .int .i64 xn, .float .f64 xr, .string xt, .slice xo xm xc]), (.agg #[.int .i64 yk, .int .i64 yn, .float .f64 yr, .string yt, .slice yo ym yc])] q fun e w' => e = .returned (.bool (sameV X Y)) ∧ Below q.heap.size q w') := fun q hq => refSame_any q _ _ X Y (IX.out q hq) (IY.out q hq) hwx.out hwy.out
              generalize isLight Y = LY at CL
              generalize compV X Y = cxy at CC CR
              generalize sameV X Y = sxy at CS CT
              have f1 : (cxy != cxy) = false := by simp
              have f2 : (sxy != sxy) = false := by simp
              clear IV IX IY
              cases LY
              case false =>
                clear CC CR CS CT f1 f2
                go_wp2_with fail
                refine wp_region_held_drew (S := (fun q : World => Below w17.heap.size w17 q ∧ q.cell? ⟨b, off + k * 5, none⟩ = some (.int .i64 xk) ∧ q.cell? ⟨b, off + k * 5 + 1, none⟩ = some (.int .i64 xn) ∧ q.cell? ⟨b, off + k * 5 + 2, none⟩ = some (.float .f64 xr) ∧ q.cell? ⟨b, off + k * 5 + 3, none⟩ = some (.string xt) ∧ q.cell? ⟨b, off + k * 5 + 4, none⟩ = some (.slice xo xm xc) ∧ q.cell? ⟨m6, 0, none⟩ = some (.int .i64 vk) ∧ q.cell? ⟨m6, 1, none⟩ = some (.int .i64 vn) ∧ q.cell? ⟨m6, 2, none⟩ = some (.float .f64 vr) ∧ q.cell? ⟨m6, 3, none⟩ = some (.string vt) ∧ q.cell? ⟨m6, 4, none⟩ = some (.slice vo vm vc) ∧ q.cell? ⟨b, off + j * 5, none⟩ = some (.int .i64 yk) ∧ q.cell? ⟨b, off + j * 5 + 1, none⟩ = some (.int .i64 yn) ∧ q.cell? ⟨b, off + j * 5 + 2, none⟩ = some (.float .f64 yr) ∧ q.cell? ⟨b, off + j * 5 + 3, none⟩ = some (.string yt) ∧ q.cell? ⟨b, off + j * 5 + 4, none⟩ = some (.slice yo ym yc))) (by kernel_rfl) hS0 (fun hHeld => ?_)
                clear hHeld
                refine wpAnyH_take (i := 0) (oi := { dst := some 153, op := Op.move (Operand.tmp 0), type := 22, pos := "law.go:132", after := #[], guard := none }) (v := .slice (some ⟨b, off, none⟩) n cap) rfl (by kernel_rfl) (by kernel_rfl) (by kernel_rfl) (fun _ _ _ h => h) (Or.inl ⟨by rfl, ?_⟩) hS0 ?_
                · intro wq hSw
                  obtain ⟨_, e0, e1, e2, e3, e4, e5, e6, e7, e8, e9, d0, d1, d2, d3, d4⟩ := hSw
                  go_simp
                simp only [Act.put, List.setIfInBounds_toArray, List.set_cons_zero, List.set_cons_succ]
                refine wpAnyH_take (i := 1) (oi := { dst := some 154, op := Op.move (Operand.tmp 19), type := 3, pos := "law.go:132", after := #[], guard := none }) (v := .int .i64 (j : Int)) rfl (by kernel_rfl) (by kernel_rfl) (by kernel_rfl) (fun _ _ _ h => h) (Or.inl ⟨by rfl, ?_⟩) hS0 ?_
                · intro wq hSw
                  obtain ⟨_, e0, e1, e2, e3, e4, e5, e6, e7, e8, e9, d0, d1, d2, d3, d4⟩ := hSw
                  go_simp
                simp only [Act.put, List.setIfInBounds_toArray, List.set_cons_zero, List.set_cons_succ]
                refine wpAnyH_take (i := 2) (oi := { dst := some 155, op := Op.indexAddr 22 (Operand.tmp 153) (Operand.tmp 154), type := 0, pos := "law.go:132", after := #[{ on := 0, ground := Ground.data }, { on := 1, ground := Ground.data }], guard := none }) (v := .pointer (some ⟨b, off + j * 5, none⟩)) rfl (by kernel_rfl) (by kernel_rfl) (by kernel_rfl) (fun _ _ _ h => h) (Or.inl ⟨by rfl, ?_⟩) hS0 ?_
                · intro wq hSw
                  obtain ⟨_, e0, e1, e2, e3, e4, e5, e6, e7, e8, e9, d0, d1, d2, d3, d4⟩ := hSw
                  go_simp
                simp only [Act.put, List.setIfInBounds_toArray, List.set_cons_zero, List.set_cons_succ]
                refine wpAnyH_take (i := 3) (oi := { dst := some 156, op := Op.load 35 (Operand.tmp 155), type := 35, pos := "law.go:132", after := #[{ on := 2, ground := Ground.data }], guard := none }) (v := (.agg #[.int .i64 yk, .int .i64 yn, .float .f64 yr, .string yt, .slice yo ym yc])) rfl (by kernel_rfl) (by kernel_rfl) (by kernel_rfl) (fun _ _ _ h => h) (Or.inl ⟨by rfl, ?_⟩) hS0 ?_
                · intro wq hSw
                  obtain ⟨_, e0, e1, e2, e3, e4, e5, e6, e7, e8, e9, d0, d1, d2, d3, d4⟩ := hSw
                  go_simp
                simp only [Act.put, List.setIfInBounds_toArray, List.set_cons_zero, List.set_cons_succ]
                refine wpAnyH_ready (rs := [4]) (by kernel_rfl) (by simp) ?_
                refine AllReadyH.cons (o := { dst := some 157, op := Op.call { callee := Callee.value (Operand.func 6), args := #[Operand.tmp 156], argTypes := #[35] }, type := 4, pos := "law.go:132", after := #[{ on := 3, ground := Ground.data }], guard := none }) rfl (fun K hK => ?_) AllReadyH.nil
                go_simp
                refine (CL.out _ hS0.1).mono ?_
                rintro ee u1 ⟨rfl, BB⟩
                have KP : Below w17.heap.size w17 u1 := hS0.1.trans (BB.mono hS0.1.size)
                have hS1 := KS.out u1 KP
                refine hK.out _ _ hS1 (fun hHeld => ?_)
                clear hK K hHeld
                (try simp only [Act.put, List.setIfInBounds_toArray, List.set_cons_zero, List.set_cons_succ])
                refine wpAnyH_take (i := 5) (oi := { dst := some 158, op := Op.move (Operand.tmp 157), type := 4, pos := "law.go:132", after := #[{ on := 4, ground := Ground.data }, { on := 4, ground := Ground.chain }], guard := none }) (v := .bool false) rfl (by kernel_rfl) (by kernel_rfl) (by kernel_rfl) (fun _ _ _ h => h) (Or.inl ⟨by rfl, ?_⟩) hS1 ?_
                · intro wq hSw
                  obtain ⟨_, e0, e1, e2, e3, e4, e5, e6, e7, e8, e9, d0, d1, d2, d3, d4⟩ := hSw
                  go_simp
                simp only [Act.put, List.setIfInBounds_toArray, List.set_cons_zero, List.set_cons_succ]
                refine wpAnyH_take (i := 6) (oi := { dst := some 159, op := Op.load 35 (Operand.tmp 6), type := 35, pos := "law.go:132", after := #[{ on := 5, ground := Ground.guard }], guard := some (5, true) }) (v := undef) rfl (by kernel_rfl) (by kernel_rfl) (by kernel_rfl) (fun _ _ _ h => h) (Or.inr ⟨by rfl, rfl⟩) hS1 ?_
                simp only [Act.put, List.setIfInBounds_toArray, List.set_cons_zero, List.set_cons_succ]
                refine wpAnyH_take (i := 7) (oi := { dst := some 160, op := Op.move (Operand.tmp 0), type := 22, pos := "law.go:132", after := #[{ on := 5, ground := Ground.guard }], guard := some (5, true) }) (v := undef) rfl (by kernel_rfl) (by kernel_rfl) (by kernel_rfl) (fun _ _ _ h => h) (Or.inr ⟨by rfl, rfl⟩) hS1 ?_
                simp only [Act.put, List.setIfInBounds_toArray, List.set_cons_zero, List.set_cons_succ]
                refine wpAnyH_take (i := 8) (oi := { dst := some 161, op := Op.move (Operand.tmp 19), type := 3, pos := "law.go:132", after := #[{ on := 5, ground := Ground.guard }], guard := some (5, true) }) (v := undef) rfl (by kernel_rfl) (by kernel_rfl) (by kernel_rfl) (fun _ _ _ h => h) (Or.inr ⟨by rfl, rfl⟩) hS1 ?_
                simp only [Act.put, List.setIfInBounds_toArray, List.set_cons_zero, List.set_cons_succ]
                refine wpAnyH_take (i := 9) (oi := { dst := some 162, op := Op.indexAddr 22 (Operand.tmp 160) (Operand.tmp 161), type := 0, pos := "law.go:132", after := #[{ on := 7, ground := Ground.data }, { on := 8, ground := Ground.data }, { on := 5, ground := Ground.guard }], guard := some (5, true) }) (v := undef) rfl (by kernel_rfl) (by kernel_rfl) (by kernel_rfl) (fun _ _ _ h => h) (Or.inr ⟨by rfl, rfl⟩) hS1 ?_
                simp only [Act.put, List.setIfInBounds_toArray, List.set_cons_zero, List.set_cons_succ]
                refine wpAnyH_take (i := 10) (oi := { dst := some 163, op := Op.load 35 (Operand.tmp 162), type := 35, pos := "law.go:132", after := #[{ on := 9, ground := Ground.data }, { on := 5, ground := Ground.guard }], guard := some (5, true) }) (v := undef) rfl (by kernel_rfl) (by kernel_rfl) (by kernel_rfl) (fun _ _ _ h => h) (Or.inr ⟨by rfl, rfl⟩) hS1 ?_
                simp only [Act.put, List.setIfInBounds_toArray, List.set_cons_zero, List.set_cons_succ]
                refine wpAnyH_take (i := 11) (oi := { dst := some 164, op := Op.call { callee := Callee.value (Operand.func 21), args := #[Operand.tmp 159, Operand.tmp 163], argTypes := #[35, 35] }, type := 3, pos := "law.go:132", after := #[{ on := 6, ground := Ground.data }, { on := 10, ground := Ground.data }, { on := 5, ground := Ground.chain }, { on := 5, ground := Ground.guard }], guard := some (5, true) }) (v := undef) rfl (by kernel_rfl) (by kernel_rfl) (by kernel_rfl) (fun _ _ _ h => h) (Or.inr ⟨by rfl, rfl⟩) hS1 ?_
                simp only [Act.put, List.setIfInBounds_toArray, List.set_cons_zero, List.set_cons_succ]
                refine wpAnyH_take (i := 12) (oi := { dst := some 165, op := Op.move (Operand.tmp 0), type := 22, pos := "law.go:132", after := #[{ on := 5, ground := Ground.guard }], guard := some (5, true) }) (v := undef) rfl (by kernel_rfl) (by kernel_rfl) (by kernel_rfl) (fun _ _ _ h => h) (Or.inr ⟨by rfl, rfl⟩) hS1 ?_
                simp only [Act.put, List.setIfInBounds_toArray, List.set_cons_zero, List.set_cons_succ]
                refine wpAnyH_take (i := 13) (oi := { dst := some 166, op := Op.move (Operand.tmp 5), type := 3, pos := "law.go:132", after := #[{ on := 5, ground := Ground.guard }], guard := some (5, true) }) (v := undef) rfl (by kernel_rfl) (by kernel_rfl) (by kernel_rfl) (fun _ _ _ h => h) (Or.inr ⟨by rfl, rfl⟩) hS1 ?_
                simp only [Act.put, List.setIfInBounds_toArray, List.set_cons_zero, List.set_cons_succ]
                refine wpAnyH_take (i := 14) (oi := { dst := some 167, op := Op.indexAddr 22 (Operand.tmp 165) (Operand.tmp 166), type := 0, pos := "law.go:132", after := #[{ on := 12, ground := Ground.data }, { on := 13, ground := Ground.data }, { on := 5, ground := Ground.guard }], guard := some (5, true) }) (v := undef) rfl (by kernel_rfl) (by kernel_rfl) (by kernel_rfl) (fun _ _ _ h => h) (Or.inr ⟨by rfl, rfl⟩) hS1 ?_
                simp only [Act.put, List.setIfInBounds_toArray, List.set_cons_zero, List.set_cons_succ]
                refine wpAnyH_take (i := 15) (oi := { dst := some 168, op := Op.load 35 (Operand.tmp 167), type := 35, pos := "law.go:132", after := #[{ on := 14, ground := Ground.data }, { on := 5, ground := Ground.guard }], guard := some (5, true) }) (v := undef) rfl (by kernel_rfl) (by kernel_rfl) (by kernel_rfl) (fun _ _ _ h => h) (Or.inr ⟨by rfl, rfl⟩) hS1 ?_
                simp only [Act.put, List.setIfInBounds_toArray, List.set_cons_zero, List.set_cons_succ]
                refine wpAnyH_take (i := 16) (oi := { dst := some 169, op := Op.move (Operand.tmp 0), type := 22, pos := "law.go:132", after := #[{ on := 5, ground := Ground.guard }], guard := some (5, true) }) (v := undef) rfl (by kernel_rfl) (by kernel_rfl) (by kernel_rfl) (fun _ _ _ h => h) (Or.inr ⟨by rfl, rfl⟩) hS1 ?_
                simp only [Act.put, List.setIfInBounds_toArray, List.set_cons_zero, List.set_cons_succ]
                refine wpAnyH_take (i := 17) (oi := { dst := some 170, op := Op.move (Operand.tmp 19), type := 3, pos := "law.go:132", after := #[{ on := 5, ground := Ground.guard }], guard := some (5, true) }) (v := undef) rfl (by kernel_rfl) (by kernel_rfl) (by kernel_rfl) (fun _ _ _ h => h) (Or.inr ⟨by rfl, rfl⟩) hS1 ?_
                simp only [Act.put, List.setIfInBounds_toArray, List.set_cons_zero, List.set_cons_succ]
                refine wpAnyH_take (i := 18) (oi := { dst := some 171, op := Op.indexAddr 22 (Operand.tmp 169) (Operand.tmp 170), type := 0, pos := "law.go:132", after := #[{ on := 16, ground := Ground.data }, { on := 17, ground := Ground.data }, { on := 5, ground := Ground.guard }], guard := some (5, true) }) (v := undef) rfl (by kernel_rfl) (by kernel_rfl) (by kernel_rfl) (fun _ _ _ h => h) (Or.inr ⟨by rfl, rfl⟩) hS1 ?_
                simp only [Act.put, List.setIfInBounds_toArray, List.set_cons_zero, List.set_cons_succ]
                refine wpAnyH_take (i := 19) (oi := { dst := some 172, op := Op.load 35 (Operand.tmp 171), type := 35, pos := "law.go:132", after := #[{ on := 18, ground := Ground.data }, { on := 5, ground := Ground.guard }], guard := some (5, true) }) (v := undef) rfl (by kernel_rfl) (by kernel_rfl) (by kernel_rfl) (fun _ _ _ h => h) (Or.inr ⟨by rfl, rfl⟩) hS1 ?_
                simp only [Act.put, List.setIfInBounds_toArray, List.set_cons_zero, List.set_cons_succ]
                refine wpAnyH_take (i := 20) (oi := { dst := some 173, op := Op.call { callee := Callee.value (Operand.func 22), args := #[Operand.tmp 168, Operand.tmp 172], argTypes := #[35, 35] }, type := 3, pos := "law.go:132", after := #[{ on := 15, ground := Ground.data }, { on := 19, ground := Ground.data }, { on := 11, ground := Ground.chain }, { on := 5, ground := Ground.guard }], guard := some (5, true) }) (v := undef) rfl (by kernel_rfl) (by kernel_rfl) (by kernel_rfl) (fun _ _ _ h => h) (Or.inr ⟨by rfl, rfl⟩) hS1 ?_
                simp only [Act.put, List.setIfInBounds_toArray, List.set_cons_zero, List.set_cons_succ]
                refine wpAnyH_take (i := 21) (oi := { dst := some 174, op := Op.binOp BinOp.neq 3 (Operand.tmp 164) (Operand.tmp 173) 3, type := 4, pos := "law.go:132", after := #[{ on := 11, ground := Ground.data }, { on := 20, ground := Ground.data }, { on := 5, ground := Ground.guard }], guard := some (5, true) }) (v := undef) rfl (by kernel_rfl) (by kernel_rfl) (by kernel_rfl) (fun _ _ _ h => h) (Or.inr ⟨by rfl, rfl⟩) hS1 ?_
                simp only [Act.put, List.setIfInBounds_toArray, List.set_cons_zero, List.set_cons_succ]
                refine wpAnyH_take (i := 22) (oi := { dst := some 175, op := Op.move (Operand.tmp 174), type := 4, pos := "law.go:132", after := #[{ on := 21, ground := Ground.data }, { on := 20, ground := Ground.chain }, { on := 5, ground := Ground.guard }], guard := some (5, true) }) (v := undef) rfl (by kernel_rfl) (by kernel_rfl) (by kernel_rfl) (fun _ _ _ h => h) (Or.inr ⟨by rfl, rfl⟩) hS1 ?_
                simp only [Act.put, List.setIfInBounds_toArray, List.set_cons_zero, List.set_cons_succ]
                refine wpAnyH_take (i := 23) (oi := { dst := some 176, op := Op.load 35 (Operand.tmp 6), type := 35, pos := "law.go:132", after := #[{ on := 22, ground := Ground.guard }], guard := some (22, false) }) (v := undef) rfl (by kernel_rfl) (by kernel_rfl) (by kernel_rfl) (fun _ _ _ h => h) (Or.inr ⟨by rfl, rfl⟩) hS1 ?_
                simp only [Act.put, List.setIfInBounds_toArray, List.set_cons_zero, List.set_cons_succ]
                refine wpAnyH_take (i := 24) (oi := { dst := some 177, op := Op.move (Operand.tmp 0), type := 22, pos := "law.go:132", after := #[{ on := 22, ground := Ground.guard }], guard := some (22, false) }) (v := undef) rfl (by kernel_rfl) (by kernel_rfl) (by kernel_rfl) (fun _ _ _ h => h) (Or.inr ⟨by rfl, rfl⟩) hS1 ?_
                simp only [Act.put, List.setIfInBounds_toArray, List.set_cons_zero, List.set_cons_succ]
                refine wpAnyH_take (i := 25) (oi := { dst := some 178, op := Op.move (Operand.tmp 19), type := 3, pos := "law.go:132", after := #[{ on := 22, ground := Ground.guard }], guard := some (22, false) }) (v := undef) rfl (by kernel_rfl) (by kernel_rfl) (by kernel_rfl) (fun _ _ _ h => h) (Or.inr ⟨by rfl, rfl⟩) hS1 ?_
                simp only [Act.put, List.setIfInBounds_toArray, List.set_cons_zero, List.set_cons_succ]
                refine wpAnyH_take (i := 26) (oi := { dst := some 179, op := Op.indexAddr 22 (Operand.tmp 177) (Operand.tmp 178), type := 0, pos := "law.go:132", after := #[{ on := 24, ground := Ground.data }, { on := 25, ground := Ground.data }, { on := 22, ground := Ground.guard }], guard := some (22, false) }) (v := undef) rfl (by kernel_rfl) (by kernel_rfl) (by kernel_rfl) (fun _ _ _ h => h) (Or.inr ⟨by rfl, rfl⟩) hS1 ?_
                simp only [Act.put, List.setIfInBounds_toArray, List.set_cons_zero, List.set_cons_succ]
                refine wpAnyH_take (i := 27) (oi := { dst := some 180, op := Op.load 35 (Operand.tmp 179), type := 35, pos := "law.go:132", after := #[{ on := 26, ground := Ground.data }, { on := 22, ground := Ground.guard }], guard := some (22, false) }) (v := undef) rfl (by kernel_rfl) (by kernel_rfl) (by kernel_rfl) (fun _ _ _ h => h) (Or.inr ⟨by rfl, rfl⟩) hS1 ?_
                simp only [Act.put, List.setIfInBounds_toArray, List.set_cons_zero, List.set_cons_succ]
                refine wpAnyH_take (i := 28) (oi := { dst := some 181, op := Op.call { callee := Callee.value (Operand.func 23), args := #[Operand.tmp 176, Operand.tmp 180], argTypes := #[35, 35] }, type := 4, pos := "law.go:132", after := #[{ on := 23, ground := Ground.data }, { on := 27, ground := Ground.data }, { on := 22, ground := Ground.chain }, { on := 22, ground := Ground.guard }], guard := some (22, false) }) (v := undef) rfl (by kernel_rfl) (by kernel_rfl) (by kernel_rfl) (fun _ _ _ h => h) (Or.inr ⟨by rfl, rfl⟩) hS1 ?_
                simp only [Act.put, List.setIfInBounds_toArray, List.set_cons_zero, List.set_cons_succ]
                refine wpAnyH_take (i := 29) (oi := { dst := some 182, op := Op.move (Operand.tmp 0), type := 22, pos := "law.go:132", after := #[{ on := 22, ground := Ground.guard }], guard := some (22, false) }) (v := undef) rfl (by kernel_rfl) (by kernel_rfl) (by kernel_rfl) (fun _ _ _ h => h) (Or.inr ⟨by rfl, rfl⟩) hS1 ?_
                simp only [Act.put, List.setIfInBounds_toArray, List.set_cons_zero, List.set_cons_succ]
                refine wpAnyH_take (i := 30) (oi := { dst := some 183, op := Op.move (Operand.tmp 5), type := 3, pos := "law.go:132", after := #[{ on := 22, ground := Ground.guard }], guard := some (22, false) }) (v := undef) rfl (by kernel_rfl) (by kernel_rfl) (by kernel_rfl) (fun _ _ _ h => h) (Or.inr ⟨by rfl, rfl⟩) hS1 ?_
                simp only [Act.put, List.setIfInBounds_toArray, List.set_cons_zero, List.set_cons_succ]
                refine wpAnyH_take (i := 31) (oi := { dst := some 184, op := Op.indexAddr 22 (Operand.tmp 182) (Operand.tmp 183), type := 0, pos := "law.go:132", after := #[{ on := 29, ground := Ground.data }, { on := 30, ground := Ground.data }, { on := 22, ground := Ground.guard }], guard := some (22, false) }) (v := undef) rfl (by kernel_rfl) (by kernel_rfl) (by kernel_rfl) (fun _ _ _ h => h) (Or.inr ⟨by rfl, rfl⟩) hS1 ?_
                simp only [Act.put, List.setIfInBounds_toArray, List.set_cons_zero, List.set_cons_succ]
                refine wpAnyH_take (i := 32) (oi := { dst := some 185, op := Op.load 35 (Operand.tmp 184), type := 35, pos := "law.go:132", after := #[{ on := 31, ground := Ground.data }, { on := 22, ground := Ground.guard }], guard := some (22, false) }) (v := undef) rfl (by kernel_rfl) (by kernel_rfl) (by kernel_rfl) (fun _ _ _ h => h) (Or.inr ⟨by rfl, rfl⟩) hS1 ?_
                simp only [Act.put, List.setIfInBounds_toArray, List.set_cons_zero, List.set_cons_succ]
                refine wpAnyH_take (i := 33) (oi := { dst := some 186, op := Op.move (Operand.tmp 0), type := 22, pos := "law.go:132", after := #[{ on := 22, ground := Ground.guard }], guard := some (22, false) }) (v := undef) rfl (by kernel_rfl) (by kernel_rfl) (by kernel_rfl) (fun _ _ _ h => h) (Or.inr ⟨by rfl, rfl⟩) hS1 ?_
                simp only [Act.put, List.setIfInBounds_toArray, List.set_cons_zero, List.set_cons_succ]
                refine wpAnyH_take (i := 34) (oi := { dst := some 187, op := Op.move (Operand.tmp 19), type := 3, pos := "law.go:132", after := #[{ on := 22, ground := Ground.guard }], guard := some (22, false) }) (v := undef) rfl (by kernel_rfl) (by kernel_rfl) (by kernel_rfl) (fun _ _ _ h => h) (Or.inr ⟨by rfl, rfl⟩) hS1 ?_
                simp only [Act.put, List.setIfInBounds_toArray, List.set_cons_zero, List.set_cons_succ]
                refine wpAnyH_take (i := 35) (oi := { dst := some 188, op := Op.indexAddr 22 (Operand.tmp 186) (Operand.tmp 187), type := 0, pos := "law.go:132", after := #[{ on := 33, ground := Ground.data }, { on := 34, ground := Ground.data }, { on := 22, ground := Ground.guard }], guard := some (22, false) }) (v := undef) rfl (by kernel_rfl) (by kernel_rfl) (by kernel_rfl) (fun _ _ _ h => h) (Or.inr ⟨by rfl, rfl⟩) hS1 ?_
                simp only [Act.put, List.setIfInBounds_toArray, List.set_cons_zero, List.set_cons_succ]
                refine wpAnyH_take (i := 36) (oi := { dst := some 189, op := Op.load 35 (Operand.tmp 188), type := 35, pos := "law.go:132", after := #[{ on := 35, ground := Ground.data }, { on := 22, ground := Ground.guard }], guard := some (22, false) }) (v := undef) rfl (by kernel_rfl) (by kernel_rfl) (by kernel_rfl) (fun _ _ _ h => h) (Or.inr ⟨by rfl, rfl⟩) hS1 ?_
                simp only [Act.put, List.setIfInBounds_toArray, List.set_cons_zero, List.set_cons_succ]
                refine wpAnyH_take (i := 37) (oi := { dst := some 190, op := Op.call { callee := Callee.value (Operand.func 24), args := #[Operand.tmp 185, Operand.tmp 189], argTypes := #[35, 35] }, type := 4, pos := "law.go:132", after := #[{ on := 32, ground := Ground.data }, { on := 36, ground := Ground.data }, { on := 28, ground := Ground.chain }, { on := 22, ground := Ground.guard }], guard := some (22, false) }) (v := undef) rfl (by kernel_rfl) (by kernel_rfl) (by kernel_rfl) (fun _ _ _ h => h) (Or.inr ⟨by rfl, rfl⟩) hS1 ?_
                simp only [Act.put, List.setIfInBounds_toArray, List.set_cons_zero, List.set_cons_succ]
                refine wpAnyH_take (i := 38) (oi := { dst := some 191, op := Op.binOp BinOp.neq 4 (Operand.tmp 181) (Operand.tmp 190) 4, type := 4, pos := "law.go:132", after := #[{ on := 28, ground := Ground.data }, { on := 37, ground := Ground.data }, { on := 22, ground := Ground.guard }], guard := some (22, false) }) (v := undef) rfl (by kernel_rfl) (by kernel_rfl) (by kernel_rfl) (fun _ _ _ h => h) (Or.inr ⟨by rfl, rfl⟩) hS1 ?_
                simp only [Act.put, List.setIfInBounds_toArray, List.set_cons_zero, List.set_cons_succ]
                refine wpAnyH_take (i := 39) (oi := { dst := some 192, op := Op.pick (Operand.tmp 175) (Operand.const (Value.bool true)) (Operand.tmp 191), type := 4, pos := "law.go:132", after := #[{ on := 22, ground := Ground.data }, { on := 38, ground := Ground.data }, { on := 5, ground := Ground.guard }], guard := some (5, true) }) (v := undef) rfl (by kernel_rfl) (by kernel_rfl) (by kernel_rfl) (fun _ _ _ h => h) (Or.inr ⟨by rfl, rfl⟩) hS1 ?_
                simp only [Act.put, List.setIfInBounds_toArray, List.set_cons_zero, List.set_cons_succ]
                refine wpAnyH_take (i := 40) (oi := { dst := some 193, op := Op.pick (Operand.tmp 158) (Operand.tmp 192) (Operand.const (Value.bool false)), type := 4, pos := "law.go:132", after := #[{ on := 5, ground := Ground.data }, { on := 39, ground := Ground.data }], guard := none }) (v := .bool false) rfl (by kernel_rfl) (by kernel_rfl) (by kernel_rfl) (fun _ _ _ h => h) (Or.inl ⟨by rfl, ?_⟩) hS1 ?_
                · intro wq hSw
                  obtain ⟨_, e0, e1, e2, e3, e4, e5, e6, e7, e8, e9, d0, d1, d2, d3, d4⟩ := hSw
                  go_simp
                simp only [Act.put, List.setIfInBounds_toArray, List.set_cons_zero, List.set_cons_succ]
                refine wpAnyH_done (by kernel_rfl) ?_ _
                go_wp2_with fail
                go_roundw
                case rel => exact ⟨j + 1, by have := hjo.out; omega, by go_num, KP⟩
                case measure => simp [intOf]; have := hjo.out; omega
              case true =>
                go_wp2_with fail
                go_region_held3 (fun q => Below w17.heap.size w17 q ∧ q.cell? ⟨b, off + k * 5, none⟩ = some (.int .i64 xk) ∧ q.cell? ⟨b, off + k * 5 + 1, none⟩ = some (.int .i64 xn) ∧ q.cell? ⟨b, off + k * 5 + 2, none⟩ = some (.float .f64 xr) ∧ q.cell? ⟨b, off + k * 5 + 3, none⟩ = some (.string xt) ∧ q.cell? ⟨b, off + k * 5 + 4, none⟩ = some (.slice xo xm xc) ∧ q.cell? ⟨m6, 0, none⟩ = some (.int .i64 vk) ∧ q.cell? ⟨m6, 1, none⟩ = some (.int .i64 vn) ∧ q.cell? ⟨m6, 2, none⟩ = some (.float .f64 vr) ∧ q.cell? ⟨m6, 3, none⟩ = some (.string vt) ∧ q.cell? ⟨m6, 4, none⟩ = some (.slice vo vm vc) ∧ q.cell? ⟨b, off + j * 5, none⟩ = some (.int .i64 yk) ∧ q.cell? ⟨b, off + j * 5 + 1, none⟩ = some (.int .i64 yn) ∧ q.cell? ⟨b, off + j * 5 + 2, none⟩ = some (.float .f64 yr) ∧ q.cell? ⟨b, off + j * 5 + 3, none⟩ = some (.string yt) ∧ q.cell? ⟨b, off + j * 5 + 4, none⟩ = some (.slice yo ym yc))
                  (first | exact hS0 | assumption | exact KS.out _ KP | fail)
                  (first
                    | (go_at_call 6; have hL := And.left (by assumption : Below w17.heap.size w17 _ ∧ _); refine (CL.out _ hL).mono ?_; rintro ee u1 ⟨rfl, BB⟩
                       have KP : Below w17.heap.size w17 u1 := hL.trans (BB.mono hL.size))
                    | (go_at_call 21; have hL := And.left (by assumption : Below w17.heap.size w17 _ ∧ _); refine (CC.out _ hL).mono ?_; rintro ee u1 ⟨rfl, BB⟩
                       have KP : Below w17.heap.size w17 u1 := hL.trans (BB.mono hL.size))
                    | (go_at_call 22; have hL := And.left (by assumption : Below w17.heap.size w17 _ ∧ _); refine (CR.out _ hL).mono ?_; rintro ee u1 ⟨rfl, BB⟩
                       have KP : Below w17.heap.size w17 u1 := hL.trans (BB.mono hL.size))
                    | (go_at_call 23; have hL := And.left (by assumption : Below w17.heap.size w17 _ ∧ _); refine (CS.out _ hL).mono ?_; rintro ee u1 ⟨rfl, BB⟩
                       have KP : Below w17.heap.size w17 u1 := hL.trans (BB.mono hL.size))
                    | (go_at_call 24; have hL := And.left (by assumption : Below w17.heap.size w17 _ ∧ _); refine (CT.out _ hL).mono ?_; rintro ee u1 ⟨rfl, BB⟩
                       have KP : Below w17.heap.size w17 u1 := hL.trans (BB.mono hL.size))
                    | fail)
                all_goals
                  go_wp2_with fail
                  go_roundw
                  case rel => exact ⟨j + 1, by have := hjo.out; omega, by go_num, KP⟩
                  case measure => simp [intOf]; have := hjo.out; omega
            · by_cases hjn : j < n
              · have j1 : (j : Int) < (n : Int) := by omega
                have j3 : ¬ (j : Int) < 25 := by omega
                go_wp2_with fail
                go_roundw
                case rel => exact ⟨k + 1, by have := hgo.out; omega, by go_num, ⟨_, Y17.out.below hQ.out⟩, ⟨_, K17'.out.below hQ.out⟩⟩
                case measure => simp [intOf]; have := hgo.out; omega
              · have j1 : ¬ (j : Int) < (n : Int) := by omega
                go_wp2_with fail
                go_roundw
                case rel => exact ⟨k + 1, by have := hgo.out; omega, by go_num, ⟨_, Y17.out.below hQ.out⟩, ⟨_, K17'.out.below hQ.out⟩⟩
                case measure => simp [intOf]; have := hgo.out; omega)
    · have ca := hide hY.out.apartV
      by_cases hkn : k < n
      · have i1 : (k : Int) < (n : Int) := by omega
        have i3 : ¬ (k : Int) < 25 := by omega
        clear hgo hkn
        go_wp2_with fail
        refine ca.out.mono ?_
        rintro e w2 ⟨rfl, hv⟩
        have cb := hide (hK.out.bv hv).apart
        have B2 : Hid (Below w.heap.size w w2) := hB.out.trans hv.b
        clear hv ca
        go_wp2_with fail
        refine cb.out.mono ?_
        rintro e w3 ⟨rfl, hb⟩
        have B3 : Hid (Below w.heap.size w w3) := B2.out.trans hb
        clear hb
        go_wp2_with fail
        go_returns
        exact ⟨rfl, B3.out⟩
      · have i1 : ¬ (k : Int) < (n : Int) := by omega
        clear hgo hkn
        go_wp2_with fail
        refine ca.out.mono ?_
        rintro e w2 ⟨rfl, hv⟩
        have cb := hide (hK.out.bv hv).apart
        have B2 : Hid (Below w.heap.size w w2) := hB.out.trans hv.b
        clear hv ca
        go_wp2_with fail
        refine cb.out.mono ?_
        rintro e w3 ⟨rfl, hb⟩
        have B3 : Hid (Below w.heap.size w w3) := B2.out.trans hb
        clear hb
        go_wp2_with fail
        go_returns
        exact ⟨rfl, B3.out⟩
#print axioms vall_walk
end Go.Proofs.YtpfnkkkfekhngaaGreatDoor.Va
