/-
  meanOfBoth, merged. (gen_GgM.py)
-/
import Derived.Test.YtjkdhckhokkefaaN02
import Derived.Laws.AppendOwnNone
namespace Go.Proofs.Ytjkdhckhokkefaa.Gg
open Go.RowKit Rl
open Ix (wp_region_T wpAnyT wpAnyT_take wpAnyT_one wpAnyT_done vac)
set_option linter.unusedVariables false
set_option maxRecDepth 100000
def moB (a b : L) : Nat := if b.n = 0 then a.me else if a.n = 0 then b.me else addB a.me (mulB (subB b.me a.me) (divB (nfB b.n) (nfB (a.n + b.n))))
def mergeL (a b : L) : L := ⟨a.n + b.n, a.na + b.na, (endsF a b).1, (endsF a b).2, moB a b⟩
theorem conv_u (n : Int) (w : World) : (convert 39 26 (.int .u64 n)).run Try.prog w = .ok (.float .f64 (nfB n)) w := by
  simp [convert, Conv.intToFloat, nfB]
set_option maxHeartbeats 1000000 in
theorem mean_any (w : World) (a b : L) (h1 : a.me < 18446744073709551616) (h2 : b.me < 18446744073709551616) (h3 : 0 ≤ a.n) (h4 : a.n ≤ 1000000000000) (h5 : 0 ≤ b.n) (h6 : b.n ≤ 1000000000000) : Calls Try.prog 53 #[a.val, b.val] w fun e w' => e = .returned (.float .f64 (moB a b)) ∧ Below w.heap.size w w' := by
  obtain ⟨an, ana, alo, ahi, ame⟩ := a
  obtain ⟨bn, bna, blo, bhi, bme⟩ := b
  simp only at h1 h2 h3 h4 h5 h6
  unfold L.val
  simp only
  have B1 := box_below w (.cells #[.int .i64 an, .int .i64 ana, .float .f64 alo, .float .f64 ahi, .float .f64 ame] 44)
  have X1 := Lx.new w ⟨an, ana, alo, ahi, ame⟩
  simp only at X1
  obtain ⟨w1, hw1⟩ : ∃ w1, Hid (w.alloc (.cells #[.int .i64 an, .int .i64 ana, .float .f64 alo, .float .f64 ahi, .float .f64 ame] 44) = w1) := ⟨_, rfl⟩
  have B2 := box_below w1 (.cells #[.int .i64 bn, .int .i64 bna, .float .f64 blo, .float .f64 bhi, .float .f64 bme] 44)
  have X2 := Lx.new w1 ⟨bn, bna, blo, bhi, bme⟩
  simp only at X2
  rw [hw1.out] at X1 B1
  have hz : w1.heap.size = w.heap.size + 1 := by rw [← hw1.out]; simp
  rw [hz] at X2
  have X1' := X1.below B2
  obtain ⟨w2, hw2⟩ : ∃ w2, Hid (w1.alloc (.cells #[.int .i64 bn, .int .i64 bna, .float .f64 blo, .float .f64 bhi, .float .f64 bme] 44) = w2) := ⟨_, rfl⟩
  rw [hw2.out] at X2 B2 X1'
  have B3 : Hid (Below w.heap.size w w2) := keepF B1 B2
  clear B1 B2 X1
  obtain ⟨a0, a1, a2, a3, a4⟩ := X1'.cells
  obtain ⟨b0, b1, b2, b3, b4⟩ := X2.cells
  simp only at a0 a1 a2 a3 a4 b0 b1 b2 b3 b4
  clear X1' X2
  obtain ⟨E, hE⟩ : ∃ E, Hid (moB ⟨an, ana, alo, ahi, ame⟩ ⟨bn, bna, blo, bhi, bme⟩ = E) := ⟨_, rfl⟩
  rw [hE.out]
  by_cases hb : bn = 0
  · have hr : E = ame := by rw [← hE.out]; unfold moB; rw [if_pos hb]
    subst hr
    subst hb
    clear hE
    go_enter Try.func53, Try.ntmps53
    go_upto_region 1 with fail
    rw [hw1.out, hw2.out]
    go_wp2_with fail
    go_ret
    exact ⟨rfl, B3.out⟩
  · have hb' : (bn == 0) = false := by simp [hb]
    by_cases ha : an = 0
    · have hr : E = bme := by rw [← hE.out]; unfold moB; rw [if_neg hb, if_pos ha]
      subst hr
      subst ha
      clear hE
      go_enter Try.func53, Try.ntmps53
      go_upto_region 1 with fail
      rw [hw1.out, hw2.out]
      go_wp2_with fail
      go_ret
      exact ⟨rfl, B3.out⟩
    · have ha' : (an == 0) = false := by simp [ha]
      obtain ⟨d, n1, e1, i1⟩ := sub2 bme ame w2
      obtain ⟨q, n2, e2, i2⟩ := div2 (nfB bn) (nfB (an + bn)) (w2.drewN n1)
      rw [World.drewN_drewN] at e2
      obtain ⟨m, n3, e3, i3⟩ := mul2 d q (w2.drewN (n1 + n2))
      rw [World.drewN_drewN] at e3
      obtain ⟨s, n4, e4, i4⟩ := add2 ame m (w2.drewN (n1 + n2 + n3))
      rw [World.drewN_drewN] at e4
      have hD := fun u => canon_any u s i4.lt
      have i5 : Is (Ieee.double.mul (subB bme ame) (divB (nfB bn) (nfB (an + bn)))) m := ⟨i3.1, by rw [i3.2, mul_same i1.c i2.c]; rfl⟩
      have hr : Hid (canonB s = E) := hide (by rw [← hE.out]; unfold moB; rw [if_neg hb, if_neg ha]; exact i4.add i5)
      rw [hr.out] at hD
      have c1 := conv_f bn
      have c2 := conv_u (an + bn)
      have k1 : IntKind.u64.wrap an = an := by simp [IntKind.wrap, IntKind.bits, IntKind.signed]; omega
      have k2 : IntKind.u64.wrap bn = bn := by simp [IntKind.wrap, IntKind.bits, IntKind.signed]; omega
      have k3 : IntKind.u64.wrap (an + bn) = an + bn := by simp [IntKind.wrap, IntKind.bits, IntKind.signed]; omega
      clear i1 i2 i3 i4 i5 hE hr
      go_enter Try.func53, Try.ntmps53
      go_upto_region 1 with fail
      rw [hw1.out, hw2.out]
      go_wp2_with (go_at_call 48; refine (hD _).mono ?_; rintro e w' ⟨rfl, hw⟩; rw [hw]; clear hw w')
      go_ret
      exact ⟨rfl, below_drewN B3.out _⟩
def Two (q : World) (p : Nat) (a b c : L) : Prop := Lx q p a ∧ Lx q (p + 1) b ∧ Lx q (p + 2) c
theorem Two.below {q q' : World} {p : Nat} {a b c : L} (h : Two q p a b c) (hb : Below q.heap.size q q') : Two q' p a b c := ⟨h.1.below hb, h.2.1.below hb, h.2.2.below hb⟩
set_option maxHeartbeats 1000000 in
theorem merged_any (w : World) (a b : L) (f1 : a.lo < 18446744073709551616) (f2 : a.hi < 18446744073709551616) (f3 : b.lo < 18446744073709551616) (f4 : b.hi < 18446744073709551616) (h1 : a.me < 18446744073709551616) (h2 : b.me < 18446744073709551616) (h3 : 0 ≤ a.n) (h4 : a.n ≤ 1000000000000) (h5 : 0 ≤ b.n) (h6 : b.n ≤ 1000000000000) (h7 : 0 ≤ a.na) (h8 : a.na ≤ 1000000000000) (h9 : 0 ≤ b.na) (h10 : b.na ≤ 1000000000000) : Calls Try.prog 42 #[a.val, b.val] w fun e w' => e = .returned (mergeL a b).val ∧ Below w.heap.size w w' := by
  have hM := hide (fun u => mean_any u a b h1 h2 h3 h4 h5 h6)
  have hEn := hide (fun u => ends_any u a b f1 f2 f3 f4)
  have hR : Hid (mergeL a b = ⟨a.n + b.n, a.na + b.na, (endsF a b).1, (endsF a b).2, moB a b⟩) := hide rfl
  obtain ⟨⟨c1, c2⟩, hE⟩ : ∃ E, Hid (endsF a b = E) := ⟨_, rfl⟩
  obtain ⟨m, hm⟩ : ∃ m, Hid (moB a b = m) := ⟨_, rfl⟩
  rw [hE.out] at hEn hR
  rw [hm.out] at hM hR
  rw [hR.out]
  obtain ⟨an, ana, alo, ahi, ame⟩ := a
  obtain ⟨bn, bna, blo, bhi, bme⟩ := b
  simp only at h3 h4 h5 h6 h7 h8 h9 h10 hM hEn
  unfold L.val at hM hEn ⊢
  simp only at hM hEn ⊢
  have B1 := box_below w (.cells #[.int .i64 an, .int .i64 ana, .float .f64 alo, .float .f64 ahi, .float .f64 ame] 44)
  have X1 := Lx.new w ⟨an, ana, alo, ahi, ame⟩
  simp only at X1
  obtain ⟨w1, hw1⟩ : ∃ w1, Hid (w.alloc (.cells #[.int .i64 an, .int .i64 ana, .float .f64 alo, .float .f64 ahi, .float .f64 ame] 44) = w1) := ⟨_, rfl⟩
  have B2 := box_below w1 (.cells #[.int .i64 bn, .int .i64 bna, .float .f64 blo, .float .f64 bhi, .float .f64 bme] 44)
  have X2 := Lx.new w1 ⟨bn, bna, blo, bhi, bme⟩
  simp only at X2
  rw [hw1.out] at X1 B1
  have hz : w1.heap.size = w.heap.size + 1 := by rw [← hw1.out]; simp
  rw [hz] at X2
  have X1' := X1.below B2
  obtain ⟨w2, hw2⟩ : ∃ w2, Hid (w1.alloc (.cells #[.int .i64 bn, .int .i64 bna, .float .f64 blo, .float .f64 bhi, .float .f64 bme] 44) = w2) := ⟨_, rfl⟩
  rw [hw2.out] at X2 B2 X1'
  have hz2 : w2.heap.size = w.heap.size + 2 := by rw [← hw2.out]; simp [hz]
  have B3 := box_below w2 (.cells #[.int .i64 0, .int .i64 0, .float .f64 0, .float .f64 0, .float .f64 0] 44)
  have X3 : Lx (w2.alloc (.cells #[.int .i64 0, .int .i64 0, .float .f64 0, .float .f64 0, .float .f64 0] 44)) w2.heap.size L0 := Lx.new w2 L0
  rw [hz2] at X3
  have T3 : Two _ w.heap.size ⟨an, ana, alo, ahi, ame⟩ ⟨bn, bna, blo, bhi, bme⟩ L0 := ⟨X1'.below B3, X2.below B3, X3⟩
  have B4 := keepF (keepF B1 B2) B3
  obtain ⟨w3, hw3⟩ : ∃ w3, Hid (w2.alloc (.cells #[.int .i64 0, .int .i64 0, .float .f64 0, .float .f64 0, .float .f64 0] 44) = w3) := ⟨_, rfl⟩
  rw [hw3.out] at T3 B4
  have HB := hide B4
  have HT := hide T3
  clear X1 X2 X1' X3 B1 B2 B3 B4 hz hz2
  obtain ⟨a0, a1, a2, a3, a4⟩ := T3.1.cells
  obtain ⟨b0, b1, b2, b3, b4⟩ := T3.2.1.cells
  simp only at a0 a1 a2 a3 a4 b0 b1 b2 b3 b4
  clear T3
  have sf : ∀ (W : World) (a : Addr) (x : Nat), (store a (.float .f64 x)).run Try.prog W = stored Try.prog W a (.float .f64 x) .plain := fun W a x => run_store _ W a _ _ rfl
  go_enter Try.func42, Try.ntmps42
  go_upto_region 1 with fail
  rw [hw1.out, hw2.out, hw3.out]
  go_wp2_with fail
  go_at_call 52
  refine (hEn.out _).mono ?_
  rintro e w4 ⟨rfl, b5⟩
  replace HT := hide (HT.out.below b5)
  replace HB := hide (keepF HB.out b5)
  clear b5 a0 a1 a2 a3 a4 b0 b1 b2 b3 b4 hw1 hw2 hw3 hEn hE hR hm
  go_upto_region 2 with fail
  obtain ⟨p, hp⟩ : ∃ p, Hid (w.heap.size = p) := ⟨_, rfl⟩
  rw [hp.out] at HT ⊢
  have KP : Hid (Two w4.drew p (⟨an, ana, alo, ahi, ame⟩ : L) (⟨bn, bna, blo, bhi, bme⟩ : L) L0) := HT.out.below (Below.refl _ _).drew
  have KB : Hid (Below w.heap.size w w4.drew) := HB.out.drew
  refine wp_region_T (fun q => Two q p (⟨an, ana, alo, ahi, ame⟩ : L) (⟨bn, bna, blo, bhi, bme⟩ : L) L0) 16 (by kernel_rfl) ?_
  clear HT HB
  generalize w4.drew = q at *
  refine wpAnyT_take (i := 0) (oi := { dst := some 13, op := Op.fieldAddr 44 (Operand.tmp 2) 0, type := 0, pos := "gauge.go:151", after := #[], guard := none }) (v := .pointer (some ⟨p, 0, none⟩)) [1, 4, 15, 16] rfl (by kernel_rfl) (by kernel_rfl) (by kernel_rfl) (by kernel_rfl) (fun _ _ _ h => h) (Or.inl ⟨by rfl, ?_⟩) KP.out ?_
  · intro wq hSw
    obtain ⟨y0, y1, y2, y3, y4⟩ := hSw.1.cells
    obtain ⟨z0, z1, z2, z3, z4⟩ := hSw.2.1.cells
    simp only at y0 y1 y2 y3 y4 z0 z1 z2 z3 z4
    go_simp
  (try simp only [Act.put, List.setIfInBounds_toArray, List.set_cons_zero, List.set_cons_succ])
  refine wpAnyT_take (i := 1) (oi := { dst := some 14, op := Op.load 2 (Operand.tmp 13), type := 2, pos := "gauge.go:151", after := #[{ on := 0, ground := Ground.data }], guard := none }) (v := .int .i64 an) [4, 15, 16] rfl (by kernel_rfl) (by kernel_rfl) (by kernel_rfl) (by kernel_rfl) (fun _ _ _ h => h) (Or.inl ⟨by rfl, ?_⟩) KP.out ?_
  · intro wq hSw
    obtain ⟨y0, y1, y2, y3, y4⟩ := hSw.1.cells
    obtain ⟨z0, z1, z2, z3, z4⟩ := hSw.2.1.cells
    simp only at y0 y1 y2 y3 y4 z0 z1 z2 z3 z4
    go_simp
  (try simp only [Act.put, List.setIfInBounds_toArray, List.set_cons_zero, List.set_cons_succ])
  refine wpAnyT_take (i := 2) (oi := { dst := some 15, op := Op.fieldAddr 44 (Operand.tmp 3) 0, type := 0, pos := "gauge.go:151", after := #[], guard := none }) (v := .pointer (some ⟨p + 1, 0, none⟩)) [3, 4, 15, 16] rfl (by kernel_rfl) (by kernel_rfl) (by kernel_rfl) (by kernel_rfl) (fun _ _ _ h => h) (Or.inl ⟨by rfl, ?_⟩) KP.out ?_
  · intro wq hSw
    obtain ⟨y0, y1, y2, y3, y4⟩ := hSw.1.cells
    obtain ⟨z0, z1, z2, z3, z4⟩ := hSw.2.1.cells
    simp only at y0 y1 y2 y3 y4 z0 z1 z2 z3 z4
    go_simp
  (try simp only [Act.put, List.setIfInBounds_toArray, List.set_cons_zero, List.set_cons_succ])
  refine wpAnyT_take (i := 3) (oi := { dst := some 16, op := Op.load 2 (Operand.tmp 15), type := 2, pos := "gauge.go:151", after := #[{ on := 2, ground := Ground.data }], guard := none }) (v := .int .i64 bn) [4, 15, 16] rfl (by kernel_rfl) (by kernel_rfl) (by kernel_rfl) (by kernel_rfl) (fun _ _ _ h => h) (Or.inl ⟨by rfl, ?_⟩) KP.out ?_
  · intro wq hSw
    obtain ⟨y0, y1, y2, y3, y4⟩ := hSw.1.cells
    obtain ⟨z0, z1, z2, z3, z4⟩ := hSw.2.1.cells
    simp only at y0 y1 y2 y3 y4 z0 z1 z2 z3 z4
    go_simp
  (try simp only [Act.put, List.setIfInBounds_toArray, List.set_cons_zero, List.set_cons_succ])
  refine wpAnyT_take (i := 5) (oi := { dst := some 18, op := Op.fieldAddr 44 (Operand.tmp 2) 1, type := 0, pos := "gauge.go:151", after := #[], guard := none }) (v := .pointer (some ⟨p, 1, none⟩)) [6, 9, 15, 16] rfl (by kernel_rfl) (by kernel_rfl) (by kernel_rfl) (by kernel_rfl) (fun _ _ _ h => h) (Or.inl ⟨by rfl, ?_⟩) KP.out ?_
  · intro wq hSw
    obtain ⟨y0, y1, y2, y3, y4⟩ := hSw.1.cells
    obtain ⟨z0, z1, z2, z3, z4⟩ := hSw.2.1.cells
    simp only at y0 y1 y2 y3 y4 z0 z1 z2 z3 z4
    go_simp
  (try simp only [Act.put, List.setIfInBounds_toArray, List.set_cons_zero, List.set_cons_succ])
  refine wpAnyT_take (i := 6) (oi := { dst := some 19, op := Op.load 2 (Operand.tmp 18), type := 2, pos := "gauge.go:151", after := #[{ on := 5, ground := Ground.data }], guard := none }) (v := .int .i64 ana) [9, 15, 16] rfl (by kernel_rfl) (by kernel_rfl) (by kernel_rfl) (by kernel_rfl) (fun _ _ _ h => h) (Or.inl ⟨by rfl, ?_⟩) KP.out ?_
  · intro wq hSw
    obtain ⟨y0, y1, y2, y3, y4⟩ := hSw.1.cells
    obtain ⟨z0, z1, z2, z3, z4⟩ := hSw.2.1.cells
    simp only at y0 y1 y2 y3 y4 z0 z1 z2 z3 z4
    go_simp
  (try simp only [Act.put, List.setIfInBounds_toArray, List.set_cons_zero, List.set_cons_succ])
  refine wpAnyT_take (i := 7) (oi := { dst := some 20, op := Op.fieldAddr 44 (Operand.tmp 3) 1, type := 0, pos := "gauge.go:151", after := #[], guard := none }) (v := .pointer (some ⟨p + 1, 1, none⟩)) [8, 9, 15, 16] rfl (by kernel_rfl) (by kernel_rfl) (by kernel_rfl) (by kernel_rfl) (fun _ _ _ h => h) (Or.inl ⟨by rfl, ?_⟩) KP.out ?_
  · intro wq hSw
    obtain ⟨y0, y1, y2, y3, y4⟩ := hSw.1.cells
    obtain ⟨z0, z1, z2, z3, z4⟩ := hSw.2.1.cells
    simp only at y0 y1 y2 y3 y4 z0 z1 z2 z3 z4
    go_simp
  (try simp only [Act.put, List.setIfInBounds_toArray, List.set_cons_zero, List.set_cons_succ])
  refine wpAnyT_take (i := 8) (oi := { dst := some 21, op := Op.load 2 (Operand.tmp 20), type := 2, pos := "gauge.go:151", after := #[{ on := 7, ground := Ground.data }], guard := none }) (v := .int .i64 bna) [9, 15, 16] rfl (by kernel_rfl) (by kernel_rfl) (by kernel_rfl) (by kernel_rfl) (fun _ _ _ h => h) (Or.inl ⟨by rfl, ?_⟩) KP.out ?_
  · intro wq hSw
    obtain ⟨y0, y1, y2, y3, y4⟩ := hSw.1.cells
    obtain ⟨z0, z1, z2, z3, z4⟩ := hSw.2.1.cells
    simp only at y0 y1 y2 y3 y4 z0 z1 z2 z3 z4
    go_simp
  (try simp only [Act.put, List.setIfInBounds_toArray, List.set_cons_zero, List.set_cons_succ])
  refine wpAnyT_take (i := 10) (oi := { dst := some 23, op := Op.move (Operand.tmp 5), type := 26, pos := "gauge.go:151", after := #[], guard := none }) (v := .float .f64 c1) [15, 16] rfl (by kernel_rfl) (by kernel_rfl) (by kernel_rfl) (by kernel_rfl) (fun _ _ _ h => h) (Or.inl ⟨by rfl, ?_⟩) KP.out ?_
  · intro wq hSw
    obtain ⟨y0, y1, y2, y3, y4⟩ := hSw.1.cells
    obtain ⟨z0, z1, z2, z3, z4⟩ := hSw.2.1.cells
    simp only at y0 y1 y2 y3 y4 z0 z1 z2 z3 z4
    go_simp
  (try simp only [Act.put, List.setIfInBounds_toArray, List.set_cons_zero, List.set_cons_succ])
  refine wpAnyT_take (i := 11) (oi := { dst := some 24, op := Op.move (Operand.tmp 6), type := 26, pos := "gauge.go:151", after := #[], guard := none }) (v := .float .f64 c2) [15, 16] rfl (by kernel_rfl) (by kernel_rfl) (by kernel_rfl) (by kernel_rfl) (fun _ _ _ h => h) (Or.inl ⟨by rfl, ?_⟩) KP.out ?_
  · intro wq hSw
    obtain ⟨y0, y1, y2, y3, y4⟩ := hSw.1.cells
    obtain ⟨z0, z1, z2, z3, z4⟩ := hSw.2.1.cells
    simp only at y0 y1 y2 y3 y4 z0 z1 z2 z3 z4
    go_simp
  (try simp only [Act.put, List.setIfInBounds_toArray, List.set_cons_zero, List.set_cons_succ])
  refine wpAnyT_take (i := 12) (oi := { dst := some 25, op := Op.load 44 (Operand.tmp 2), type := 44, pos := "gauge.go:151", after := #[], guard := none }) (v := .agg #[.int .i64 an, .int .i64 ana, .float .f64 alo, .float .f64 ahi, .float .f64 ame]) [14, 15, 16] rfl (by kernel_rfl) (by kernel_rfl) (by kernel_rfl) (by kernel_rfl) (fun _ _ _ h => h) (Or.inl ⟨by rfl, ?_⟩) KP.out ?_
  · intro wq hSw
    obtain ⟨y0, y1, y2, y3, y4⟩ := hSw.1.cells
    obtain ⟨z0, z1, z2, z3, z4⟩ := hSw.2.1.cells
    simp only at y0 y1 y2 y3 y4 z0 z1 z2 z3 z4
    go_simp
  (try simp only [Act.put, List.setIfInBounds_toArray, List.set_cons_zero, List.set_cons_succ])
  refine wpAnyT_take (i := 13) (oi := { dst := some 26, op := Op.load 44 (Operand.tmp 3), type := 44, pos := "gauge.go:151", after := #[], guard := none }) (v := .agg #[.int .i64 bn, .int .i64 bna, .float .f64 blo, .float .f64 bhi, .float .f64 bme]) [14, 15, 16] rfl (by kernel_rfl) (by kernel_rfl) (by kernel_rfl) (by kernel_rfl) (fun _ _ _ h => h) (Or.inl ⟨by rfl, ?_⟩) KP.out ?_
  · intro wq hSw
    obtain ⟨y0, y1, y2, y3, y4⟩ := hSw.1.cells
    obtain ⟨z0, z1, z2, z3, z4⟩ := hSw.2.1.cells
    simp only at y0 y1 y2 y3 y4 z0 z1 z2 z3 z4
    go_simp
  (try simp only [Act.put, List.setIfInBounds_toArray, List.set_cons_zero, List.set_cons_succ])
  refine wpAnyT_one (i := 4) (o := { dst := some 17, op := Op.call { callee := Callee.value (Operand.func 33), args := #[Operand.tmp 14, Operand.tmp 16], argTypes := #[2, 2] }, type := 2, pos := "gauge.go:152", after := #[{ on := 1, ground := Ground.data }, { on := 3, ground := Ground.data }], guard := none }) (by kernel_rfl) rfl (fun K hK => ?_)
  go_simp
  go_at_call 33
  refine (more_any _ an bn h3 (by omega) h5 (by omega)).mono ?_
  rintro e w1 ⟨rfl, hw⟩
  rw [hw]
  clear hw w1
  (try go_simp)
  refine hK.out _ _ (fun _ => KP.out) ?_
  clear hK K
  (try simp only [Act.put, List.setIfInBounds_toArray, List.set_cons_zero, List.set_cons_succ])
  refine wpAnyT_one (i := 9) (o := { dst := some 22, op := Op.call { callee := Callee.value (Operand.func 33), args := #[Operand.tmp 19, Operand.tmp 21], argTypes := #[2, 2] }, type := 2, pos := "gauge.go:153", after := #[{ on := 6, ground := Ground.data }, { on := 8, ground := Ground.data }, { on := 4, ground := Ground.chain }], guard := none }) (by kernel_rfl) rfl (fun K hK => ?_)
  go_simp
  go_at_call 33
  refine (more_any _ ana bna h7 (by omega) h9 (by omega)).mono ?_
  rintro e w1 ⟨rfl, hw⟩
  rw [hw]
  clear hw w1
  (try go_simp)
  refine hK.out _ _ (fun _ => KP.out) ?_
  clear hK K
  (try simp only [Act.put, List.setIfInBounds_toArray, List.set_cons_zero, List.set_cons_succ])
  refine wpAnyT_one (i := 14) (o := { dst := some 27, op := Op.call { callee := Callee.value (Operand.func 53), args := #[Operand.tmp 25, Operand.tmp 26], argTypes := #[44, 44] }, type := 26, pos := "gauge.go:156", after := #[{ on := 12, ground := Ground.data }, { on := 13, ground := Ground.data }, { on := 9, ground := Ground.chain }], guard := none }) (by kernel_rfl) rfl (fun K hK => ?_)
  go_simp
  go_at_call 53
  refine (hM.out _).mono ?_
  rintro e w5 ⟨rfl, b5⟩
  have K5 := hide (KP.out.below b5)
  have KB5 := hide (keepF KB.out b5)
  (try go_simp)
  refine hK.out _ _ (fun _ => K5.out) ?_
  clear hK K b5 KP KB
  (try simp only [Act.put, List.setIfInBounds_toArray, List.set_cons_zero, List.set_cons_succ])
  refine wpAnyT_one (i := 15) (o := { dst := some 28, op := Op.build 44 #[(0, Operand.tmp 17), (1, Operand.tmp 22), (2, Operand.tmp 23), (3, Operand.tmp 24), (4, Operand.tmp 27)], type := 44, pos := "gauge.go:151", after := #[{ on := 4, ground := Ground.data }, { on := 9, ground := Ground.data }, { on := 10, ground := Ground.data }, { on := 11, ground := Ground.data }, { on := 14, ground := Ground.data }], guard := none }) (by kernel_rfl) rfl (fun K hK => ?_)
  go_simp
  refine hK.out _ _ (fun _ => K5.out) ?_
  clear hK K
  (try simp only [Act.put, List.setIfInBounds_toArray, List.set_cons_zero, List.set_cons_succ])
  have X5 := K5.out.2.2
  obtain ⟨s0, s1, s2, s3, s4⟩ := X5.cells
  have y0 := X5.frozen 0
  have y1 := X5.frozen 1
  have y2 := X5.frozen 2
  have y3 := X5.frozen 3
  have y4 := X5.frozen 4
  have FIN := hide (X5.all (an + bn) (ana + bna) c1 c2 m)
  have FB := hide (below_all KB5.out (p + 2) (by have := hp.out; omega) 0 (.int .i64 (an + bn)) (.int .i64 (ana + bna)) (.float .f64 c1) (.float .f64 c2) (.float .f64 m))
  clear X5
  refine wpAnyT_one (i := 16) (o := { dst := none, op := Op.store 44 (Operand.tmp 4) (Operand.tmp 28), type := 0, pos := "gauge.go:151", after := #[{ on := 15, ground := Ground.data }, { on := 14, ground := Ground.chain }, { on := 0, ground := Ground.phase }, { on := 1, ground := Ground.phase }, { on := 2, ground := Ground.phase }, { on := 3, ground := Ground.phase }, { on := 4, ground := Ground.phase }, { on := 5, ground := Ground.phase }, { on := 6, ground := Ground.phase }, { on := 7, ground := Ground.phase }, { on := 8, ground := Ground.phase }, { on := 9, ground := Ground.phase }, { on := 10, ground := Ground.phase }, { on := 11, ground := Ground.phase }, { on := 12, ground := Ground.phase }, { on := 13, ground := Ground.phase }, { on := 14, ground := Ground.phase }, { on := 15, ground := Ground.phase }], guard := none }) (by kernel_rfl) rfl (fun K hK => ?_)
  go_simp
  refine hK.out _ _ (vac (by kernel_rfl)) ?_
  clear hK K
  (try simp only [Act.put, List.setIfInBounds_toArray, List.set_cons_zero, List.set_cons_succ])
  refine wpAnyT_done (by kernel_rfl) ?_ _
  go_wp2_with fail
  try simp only [Exit.inBlock, Exit.then]
  refine bodyPost_ret (v := .agg _) (results_cell_row rfl _ _ (p + 2) 44 _ (0, 0) _ rfl FIN.out Try.underlying44 rfl lookSize) rfl ?_
  exact ⟨rfl, FB.out⟩
end Go.Proofs.Ytjkdhckhokkefaa.Gg

/-
  Merge of the gauge. (gen_GgN.py)
-/
namespace Go.Proofs.Ytjkdhckhokkefaa.Gg
open Go.RowKit Rl
open Ix (wp_region_T wpAnyT wpAnyT_take wpAnyT_one wpAnyT_done vac)
set_option linter.unusedVariables false
set_option maxRecDepth 100000
/-- Are two lists of bounds the same, one by one? -/
def sameL (l m : List Nat) : Prop := l.length = m.length ∧ ∀ i, i < l.length → keyB (l.getD i 0) = keyB (m.getD i 0)
/-- A list of one's own, as it is read. -/
theorem Fw.reads {B : Nat} {w : World} {v : Value} {l : List Nat} (h : Fw B w v l) : ∃ ao ca, v = .slice ao l.length ca ∧ ca ≤ 9223372036854775807 ∧ ∀ i, i < l.length → ∃ bb, ao = some ⟨bb, 0, none⟩ ∧ w.cell? ⟨bb, i, none⟩ = some (.float .f64 (l.getD i 0)) := by
  by_cases hl : l.length = 0
  · rcases h.2 with ⟨e, _⟩ | ⟨g', cap, cur, e, _, _, _, hm, _⟩
    · exact ⟨none, 0, by rw [e, hl], by omega, fun i hi => by omega⟩
    · exact ⟨_, cap, e, by unfold maxLen at hm; omega, fun i hi => by omega⟩
  · obtain ⟨bb, ca, e, h1, _, _, hc⟩ := Fw.at h (by omega)
    exact ⟨_, ca, e, h1, fun i hi => ⟨bb, rfl, hc i hi⟩⟩
theorem eqf_any (w : World) (v v' : Value) (l m : List Nat) (h : Fw 0 w v l) (h' : Fw 0 w v' m) (hb : Bs l) (hb' : Bs m) (hl : l.length ≤ 64) (hl' : m.length ≤ 64) :
    Calls Try.prog 40 #[v, v', .func (.func 41) #[] #[]] w fun e w' => w' = w ∧ ((e = .returned (.bool true) ∧ sameL l m) ∨ (e = .returned (.bool false) ∧ ¬ sameL l m)) := by
  obtain ⟨ao, ca, rfl, q1, hc⟩ := h.reads
  obtain ⟨ao', ca', rfl, q1', hc'⟩ := h'.reads
  have HC := hide hc
  have HC' := hide hc'
  have HB := hide (fun j (hj : j < l.length) => hb _ (getD_mem hj))
  have HB' := hide (fun j (hj : j < m.length) => hb' _ (getD_mem hj))
  by_cases hlm : l.length = m.length
  · have HS : Hid (∀ P : Prop, (P ↔ ∀ i, i < l.length → keyB (l.getD i 0) = keyB (m.getD i 0)) → (P ↔ sameL l m)) := hide fun P hP => by rw [hP]; unfold sameL; exact ⟨fun h => ⟨hlm, h⟩, fun h => h.2⟩
    rw [← hlm] at HC' HB' ⊢
    obtain ⟨N, hN⟩ : ∃ N, Hid (l.length = N) := ⟨_, rfl⟩
    rw [hN.out] at HC HC' HB HB' HS hl ⊢
    clear hc hc' h h' hb hb' hlm hl'
    go_enter Try.func40, Try.ntmps40
    go_wp2_with fail
    go_loopw [17] (fun v17 wr => ∃ i : Nat, i ≤ N ∧ v17 = .int .i64 (i : Int) ∧ Hid (∀ j, j < i → keyB (l.getD j 0) = keyB (m.getD j 0)) ∧ wr = w) (fun v _ => N - (intOf v).toNat)
    case atStart => exact ⟨0, by omega, rfl, fun j hj => by omega, rfl⟩
    case round =>
      obtain ⟨i, hi, rfl, hf, hwr⟩ := hrel
      subst hwr
      by_cases hin : i = N
      · subst hin
        have FIN : Hid (sameL l m) := hide ((HS.out _ Iff.rfl).1 hf.out)
        go_wp2
        go_ret
        exact ⟨rfl, .inl ⟨rfl, FIN.out⟩⟩
      · have hil : i < N := by omega
        obtain ⟨bb, rfl, hcx⟩ := HC.out i hil
        obtain ⟨bb', rfl, hcy⟩ := HC'.out i hil
        have hx := HB.out i hil
        have hy := HB'.out i hil
        have i1 : (i : Int) < (N : Int) := by omega
        have i2 : (0 : Int) ≤ (i : Int) := by omega
        obtain ⟨x, hxx⟩ : ∃ x, Hid (l.getD i 0 = x) := ⟨_, rfl⟩
        obtain ⟨y, hyy⟩ : ∃ y, Hid (m.getD i 0 = y) := ⟨_, rfl⟩
        rw [hxx.out] at hcx hx
        rw [hyy.out] at hcy hy
        have hS := fun u => same_any u x y hx hy
        by_cases hk : keyB x = keyB y
        · rw [decide_eq_true hk] at hS
          have hn : Hid (keyB (l.getD i 0) = keyB (m.getD i 0)) := hide (by rw [hxx.out, hyy.out]; exact hk)
          go_wp2_with (go_at_call 41; refine (hS _).mono ?_; rintro e w' ⟨rfl, hw⟩; rw [hw]; clear hw w')
          go_roundw
          case rel => exact ⟨i + 1, by omega, by go_num, fun j hj => by
            by_cases e : j = i
            · rw [e]; exact hn.out
            · exact hf.out j (by omega), by trivial⟩
          case measure => simp [intOf]; omega
        · rw [decide_eq_false hk] at hS
          have hn : Hid (¬ sameL l m) := hide fun h => hk (by have := h.2 i (by rw [hN.out]; exact hil); rwa [hxx.out, hyy.out] at this)
          go_wp2_with (go_at_call 41; refine (hS _).mono ?_; rintro e w' ⟨rfl, hw⟩; rw [hw]; clear hw w')
          go_ret
          exact ⟨rfl, .inr ⟨rfl, hn.out⟩⟩
  · have hn : Hid (¬ sameL l m) := hide fun h => hlm h.1
    have k : ((l.length : Int) == (m.length : Int)) = false := by simp; omega
    have k' : ¬ l.length = m.length := hlm
    clear hc hc' h h' hb hb'
    go_enter Try.func40, Try.ntmps40
    go_wp2_with fail
    go_ret
    exact ⟨rfl, .inr ⟨rfl, hn.out⟩⟩
/-- Cells added. -/
def addL (a b : List Int) : List Int := List.zipWith (· + ·) a b
/-- Behind i steps. -/
def mixL (a b : List Int) (i : Nat) : List Int := addL (a.take i) (b.take i) ++ a.drop i
def mgF (g o : G) : G := ⟨g.bs, addL g.cs o.cs, mergeL g.l o.l⟩
theorem mix_zero (a b : List Int) : mixL a b 0 = a := by simp [mixL, addL]
theorem mix_len (a b : List Int) (h : a.length = b.length) (i : Nat) : (mixL a b i).length = a.length := by
  simp [mixL, addL]
  omega
theorem mix_end (a b : List Int) (h : a.length = b.length) : mixL a b a.length = addL a b := by
  unfold mixL
  rw [List.take_length, h, List.take_length, ← h, List.drop_length, List.append_nil]
theorem mix_get (a b : List Int) (h : a.length = b.length) (i : Nat) (hi : i < a.length) : (mixL a b i).getD i 0 = a.getD i 0 := by
  unfold mixL
  have hl : (addL (a.take i) (b.take i)).length = i := by simp [addL]; omega
  simp [List.getElem?_append, hl, hi]
theorem mix_step (a b : List Int) (h : a.length = b.length) (i : Nat) (hi : i < a.length) : (mixL a b i).set i (a.getD i 0 + b.getD i 0) = mixL a b (i + 1) := by
  unfold mixL
  have hl : (addL (a.take i) (b.take i)).length = i := by simp [addL]; omega
  rw [List.set_append_right _ _ (by omega), hl, Nat.sub_self, List.drop_eq_getElem_cons hi, List.set_cons_zero, List.take_succ_eq_append_getElem hi, List.take_succ_eq_append_getElem (by omega : i < b.length)]
  unfold addL
  rw [List.zipWith_append (by simp; omega), List.append_assoc]
  simp [hi, show i < b.length by omega]
theorem Ok.merge {M M' : Int} {g o : G} (h : Ok M g) (k : Ok M' o) (hs : g.bs.length = o.bs.length) : Ok (M + M') (mgF g o) := by
  have h1 := h.n
  have h2 := k.n
  have h3 := h.na
  have h4 := k.na
  have hl := ends_lt h.lo h.hi k.lo k.hi
  refine ⟨h.len, by simp [mgF, addL, h.cl, k.cl, hs], h.bs, h.rs, fun c hc => ?_, ?_, ?_, hl.1, hl.2, ?_⟩
  · simp only [mgF, addL] at hc
    obtain ⟨i, hi, rfl⟩ := List.getElem_of_mem hc
    rw [List.getElem_zipWith]
    have a := h.cs _ (List.getElem_mem (l := g.cs) (n := i) (by simp at hi; omega))
    have b := k.cs _ (List.getElem_mem (l := o.cs) (n := i) (by simp at hi; omega))
    omega
  · show 0 ≤ g.l.n + o.l.n ∧ g.l.n + o.l.n ≤ M + M'; omega
  · show 0 ≤ g.l.na + o.l.na ∧ g.l.na + o.l.na ≤ M + M'; omega
  · show moB g.l o.l < _
    unfold moB
    split
    · exact h.me
    · split
      · exact k.me
      · exact add_lt _ _
end Go.Proofs.Ytjkdhckhokkefaa.Gg

/-
  Merge of the gauge: its walk. (gen_GgO.py)
-/
namespace Go.Proofs.Ytjkdhckhokkefaa.Gg
open Go.RowKit Rl
open Ix (wp_region_T wpAnyT wpAnyT_take wpAnyT_one wpAnyT_done vac)
set_option linter.unusedVariables false
set_option maxRecDepth 100000
/-- A block that holds what a gauge is, but for its cells. -/
def Bo (T : TypeId) (w : World) (b : Nat) (l : L) (vb vc : Value) : Prop := w.heap[b]? = some (.cells #[vb, vc, .int .i64 l.n, .int .i64 l.na, .float .f64 l.lo, .float .f64 l.hi, .float .f64 l.me] T (0, 0))
theorem At.bo {T : TypeId} {w : World} {b : Nat} {g : G} {vb vc : Value} (h : At T w b g vb vc) : Bo T w b g.l vb vc := h.box
theorem Bo.cells {T : TypeId} {w : World} {b : Nat} {l : L} {vb vc : Value} (h : Bo T w b l vb vc) : w.cell? ⟨b, 0, none⟩ = some vb ∧ w.cell? ⟨b, 1, none⟩ = some vc ∧ w.cell? ⟨b, 2, none⟩ = some (.int .i64 l.n) ∧ w.cell? ⟨b, 3, none⟩ = some (.int .i64 l.na) ∧ w.cell? ⟨b, 4, none⟩ = some (.float .f64 l.lo) ∧ w.cell? ⟨b, 5, none⟩ = some (.float .f64 l.hi) ∧ w.cell? ⟨b, 6, none⟩ = some (.float .f64 l.me) := by
  unfold Bo at h
  refine ⟨?_, ?_, ?_, ?_, ?_, ?_, ?_⟩ <;> (rw [cell_of h]; rfl)
theorem cell_set_ne {w : World} {cb i ob j : Nat} {cur : Array Value} {T : TypeId} (v : Value) (hne : j ≠ i) (hh : w.heap[cb]? = some (.cells cur T (0, 0))) : (w.setCell ⟨cb, i, none⟩ v).cell? ⟨ob, j, none⟩ = w.cell? ⟨ob, j, none⟩ := by
  by_cases e : ob = cb
  · subst e
    rw [cell_of hh, cell_of (heap_setCell_same w ob i _ _ v hh), Array.getElem?_setIfInBounds_ne (by omega)]
  · exact World.cell?_of_block (w := w) (set_block w cb i ob v e)
/-- Between the rounds: how far the cells of o have been added. -/
structure Mg (T : TypeId) (w wr : World) (b : Nat) (g : G) (vb : Value) (cb K ca : Nat) (b2 : Nat) (o : G) (vb2 : Value) (ob ca2 : Nat) (i : Nat) : Prop where
  at_ : At T wr b ⟨g.bs, mixL g.cs o.cs i, g.l⟩ vb (.slice (some ⟨cb, 0, none⟩) K ca)
  bo : Bo T wr b2 o.l vb2 (.slice (some ⟨ob, 0, none⟩) K ca2)
  left : ∀ j, i ≤ j → j < K → wr.cell? ⟨ob, j, none⟩ = some (.int .i64 (o.cs.getD j 0))
  but : But (Tur b (.slice (some ⟨cb, 0, none⟩) K ca)) w wr
theorem Mg.drewN {T : TypeId} {w wr : World} {b : Nat} {g : G} {vb : Value} {cb K ca : Nat} {b2 : Nat} {o : G} {vb2 : Value} {ob ca2 i : Nat} (h : Mg T w wr b g vb cb K ca b2 o vb2 ob ca2 i) : Mg T w wr.drew b g vb cb K ca b2 o vb2 ob ca2 i :=
  ⟨h.at_.below (Below.refl _ _).drew, h.bo, h.left, h.but.trans (But.of_below (Below.refl _ _).drew _)⟩
theorem Mg.step {T : TypeId} {w wr : World} {b : Nat} {g : G} {vb : Value} {cb K ca : Nat} {b2 : Nat} {o : G} {vb2 : Value} {ob ca2 i : Nat} (h : Mg T w wr b g vb cb K ca b2 o vb2 ob ca2 i) (hT : T ≠ 2) (hg : g.cs.length = K) (ho : o.cs.length = K) (hi : i < K) : Mg T w (wr.setCell ⟨cb, i, none⟩ (.int .i64 (g.cs.getD i 0 + o.cs.getD i 0))) b g vb cb K ca b2 o vb2 ob ca2 (i + 1) := by
  have h1 := h.at_.cset hT i (g.cs.getD i 0 + o.cs.getD i 0)
  simp only at h1
  rw [mix_step g.cs o.cs (by omega) i (by omega)] at h1
  have hn : (Value.slice (some ⟨cb, 0, none⟩) K ca).ownBlock ≠ some b2 := owns_no h.at_.rc h.bo hT
  obtain ⟨b', ca', cur, e, _, _, _, hh, _⟩ := Iw.at h.at_.rc (by rw [mix_len _ _ (by omega)]; omega)
  simp at e
  obtain ⟨rfl, _, _⟩ := e
  refine ⟨h1, (set_block wr cb i b2 _ (fun e => hn (by rw [e]; rfl))).trans h.bo, fun j hj hjK => ?_, h.but.trans (but_cell _ _ _ _ (.inr rfl))⟩
  rw [cell_set_ne _ (by omega) hh]
  exact h.left j (by omega) hjK
theorem Mg.start {T : TypeId} {w : World} {b : Nat} {g : G} {vb : Value} {cb K ca : Nat} {b2 : Nat} {o : G} {vb2 : Value} {ob ca2 : Nat} (h : At T w b g vb (.slice (some ⟨cb, 0, none⟩) K ca)) (h2 : At T w b2 o vb2 (.slice (some ⟨ob, 0, none⟩) K ca2)) (ho : o.cs.length = K) : Mg T w w b g vb cb K ca b2 o vb2 ob ca2 0 :=
  ⟨by rw [mix_zero]; exact h, h2.bo, fun j _ hj => h2.cell j (by omega), But.refl _ _⟩
theorem merge_none (w : World) (b : Nat) (g : G) (vb vc : Value) (M : Int) (h : At 64 w b g vb vc) (ok : Ok M g) : Calls Try.prog 15 #[.pointer (some ⟨b, 0, none⟩), .pointer none] w fun e w' => e = .returned (.int .i64 1) ∧ Below w.heap.size w w' := by
  have hcl : 0 < g.cs.length := by rw [ok.cl]; omega
  have HM := hide (fun (u : World) (hu : Below w.heap.size w u) => made_any u b g vb vc (h.below hu) hcl)
  have hm : Hid (∀ (n : Nat) (p : Option Addr), (p = none ∨ p = some ⟨b, 0, none⟩) → Calls Try.prog 32 #[.pointer p] (w.drewN n) fun e w' => e = .returned (.bool p.isSome) ∧ w' = w.drewN n) := hide fun n p hp => by
    rcases hp with rfl | rfl
    · exact made_nil _
    · exact HM.out (w.drewN n) (below_drewN (Below.refl _ _) n)
  obtain ⟨c0, c1, _⟩ := h.cells
  clear h ok
  go_enter Try.func15, Try.ntmps15
  go_upto_region 1 with fail
  go_quiet (first | (go_at_call 32; exact Calls.quiet_of_same (hm.out _ _ (by first | exact .inl rfl | exact .inr rfl))))
  go_wp2_with fail
  go_ret
  exact ⟨rfl, below_drewN (Below.refl _ _) _⟩
end Go.Proofs.Ytjkdhckhokkefaa.Gg

/-
  Merge of the gauge. (gen_GgP.py)
-/
namespace Go.Proofs.Ytjkdhckhokkefaa.Gg
open Go.RowKit Rl
open Ix (wp_region_T wpAnyT wpAnyT_take wpAnyT_one wpAnyT_done vac)
set_option linter.unusedVariables false
set_option maxRecDepth 100000
theorem Iw.form {B : Nat} {w : World} {v : Value} {l : List Int} (h : Iw B w v l) (hl : 0 < l.length) : ∃ cb ca, v = .slice (some ⟨cb, 0, none⟩) l.length ca ∧ ca ≤ 9223372036854775807 ∧ l.length ≤ ca := by
  obtain ⟨cb, ca, cur, e, h1, h2, _⟩ := Iw.at h hl
  exact ⟨cb, ca, e, h1, h2⟩
set_option maxHeartbeats 1000000 in
theorem merge_any (w : World) (b : Nat) (g : G) (vb vc : Value) (b2 : Nat) (o : G) (vb2 vc2 : Value) (M : Int) (h : At 64 w b g vb vc) (h2 : At 64 w b2 o vb2 vc2) (ok : Ok M g) (ok2 : Ok M o) (hM : M ≤ 1000000000) :
    Calls Try.prog 15 #[.pointer (some ⟨b, 0, none⟩), .pointer (some ⟨b2, 0, none⟩)] w fun e w' => (sameL g.bs o.bs ∧ e = .returned (.int .i64 0) ∧ At 64 w' b (mgF g o) vb vc ∧ But (Tur b vc) w w') ∨ (¬ sameL g.bs o.bs ∧ e = .returned (.int .i64 1) ∧ Below w.heap.size w w') := by
  have hcl : 0 < g.cs.length := by rw [ok.cl]; omega
  have hcl2 : 0 < o.cs.length := by rw [ok2.cl]; omega
  have hm : Hid (∀ (n : Nat) (k : Nat), (k = b ∨ k = b2) → Calls Try.prog 32 #[.pointer (some ⟨k, 0, none⟩)] (w.drewN n) fun e w' => e = .returned (.bool true) ∧ w' = w.drewN n) := hide fun n k hk => by
    rcases hk with rfl | rfl
    · exact made_any _ _ g vb vc (h.below (below_drewN (Below.refl _ _) n)) hcl
    · exact made_any _ _ o vb2 vc2 (h2.below (below_drewN (Below.refl _ _) n)) hcl2
  have he := hide (fun n => eqf_any (w.drewN n) vb vb2 g.bs o.bs (h.below (below_drewN (Below.refl _ _) n)).rb (h2.below (below_drewN (Below.refl _ _) n)).rb ok.bs ok2.bs ok.len ok2.len)
  obtain ⟨c0, c1, c2, c3, c4, c5, c6⟩ := h.cells
  obtain ⟨d0, d1, d2, d3, d4, d5, d6⟩ := h2.cells
  obtain ⟨xo, xn, xc, rfl⟩ := owns_form h.rb
  obtain ⟨zo, zn, zc, rfl⟩ := owns_form h2.rb
  by_cases hs : sameL g.bs o.bs
  · have hEq : Hid (∀ n, Calls Try.prog 40 #[.slice xo xn xc, .slice zo zn zc, .func (.func 41) #[] #[]] (w.drewN n) fun e w' => e = .returned (.bool true) ∧ w' = w.drewN n) := hide fun n => (he.out n).mono fun e w' hh => by
      obtain ⟨hw, ⟨a, _⟩ | ⟨_, a⟩⟩ := hh
      · exact ⟨a, hw⟩
      · exact absurd hs a
    obtain ⟨cb, ca, rfl, p1, p2⟩ := Iw.form h.rc hcl
    obtain ⟨ob, ca2, rfl, r1, r2⟩ := Iw.form h2.rc hcl2
    have hoK : o.cs.length = g.cs.length := by rw [ok.cl, ok2.cl, hs.1]
    rw [hoK] at h2 d1 r2
    obtain ⟨K, hK⟩ : ∃ K, Hid (g.cs.length = K) := ⟨_, rfl⟩
    rw [hK.out] at h h2 c1 d1 p2 r2 hcl hoK ⊢
    have HG := hide (Mg.start h h2 hoK)
    have HK := hide hoK
    have HC := hide (fun i (hi : i < K) => ok.cs _ (getI_mem (show i < g.cs.length by rw [hK.out]; exact hi)))
    have HC2 := hide (fun i (hi : i < K) => ok2.cs _ (getI_mem (show i < o.cs.length by rw [hoK]; exact hi)))
    have hmd := hide (fun u => merged_any u g.l o.l ok.lo ok.hi ok2.lo ok2.hi ok.me ok2.me ok.n.1 (by have := ok.n.2; omega) ok2.n.1 (by have := ok2.n.2; omega) ok.na.1 (by have := ok.na.2; omega) ok2.na.1 (by have := ok2.na.2; omega))
    have hFin : Hid (∀ l', l' = mergeL g.l o.l → (⟨g.bs, mixL g.cs o.cs K, l'⟩ : G) = mgF g o) := hide fun l' e => by
      rw [e, ← hK.out, mix_end _ _ (by rw [hoK, hK.out])]
      rfl
    have HS := hide hs
    have hK64 : K ≤ 65 := by rw [← hK.out, ok.cl]; have := ok.len; omega
    have sf : ∀ (W : World) (a : Addr) (x : Nat), (store a (.float .f64 x)).run Try.prog W = stored Try.prog W a (.float .f64 x) .plain := fun W a x => run_store _ W a _ _ rfl
    clear h h2 ok ok2 hs he hcl2 hoK
    go_enter Try.func15, Try.ntmps15
    go_upto_region 1 with fail
    go_quiet (first | (go_at_call 32; exact Calls.quiet_of_same (hm.out _ _ (by first | exact .inl rfl | exact .inr rfl))) | (go_at_call 40; exact Calls.quiet_of_same (hEq.out _)))
    have G1 : Hid (Mg 64 w (w.drewN nq) b g (.slice xo xn xc) cb K ca b2 o (.slice zo zn zc) ob ca2 0) := hide ⟨HG.out.at_.below (below_drewN (Below.refl _ _) nq), HG.out.bo, HG.out.left, HG.out.but.trans (But.of_below (below_drewN (Below.refl _ _) nq) _)⟩
    clear hm hEq HG
    go_upto_region 3 with fail
    obtain ⟨y0, y1, y2, y3, y4, y5, y6⟩ := G1.out.bo.cells
    clear c0 c1 c2 c3 c4 c5 c6 d0 d1 d2 d3 d4 d5 d6
    generalize w.drewN nq = w0 at *
    go_wp2_with fail
    clear y0 y1 y2 y3 y4 y5 y6
    go_loopw [32] (fun v32 wr => ∃ i : Nat, i ≤ K ∧ v32 = .int .i64 (i : Int) ∧ Hid (Mg 64 w wr b g (.slice xo xn xc) cb K ca b2 o (.slice zo zn zc) ob ca2 i)) (fun v _ => K - (intOf v).toNat)
    case atStart => exact ⟨0, by omega, rfl, G1.out⟩
    case round =>
      clear G1
      obtain ⟨i, hi, rfl, hG⟩ := hrel
      by_cases hin : i = K
      · have hin' := hide hin
        subst hin
        go_upto_region 8 with fail
        have KP : Hid (Mg 64 w wr.drew b g (.slice xo xn xc) cb i ca b2 o (.slice zo zn zc) ob ca2 i) := hG.out.drewN
        refine wp_region_T (fun q => At 64 q b (⟨g.bs, mixL g.cs o.cs i, g.l⟩ : G) (.slice xo xn xc) (.slice (some ⟨cb, 0, none⟩) i ca) ∧ Bo 64 q b2 o.l (.slice zo zn zc) (.slice (some ⟨ob, 0, none⟩) i ca2)) 12 (by kernel_rfl) ?_
        clear hG
        generalize wr.drew = q at *
        refine wpAnyT_take (i := 0) (oi := { dst := some 53, op := Op.move (Operand.tmp 0), type := 27, pos := "gauge.go:145", after := #[], guard := none }) (v := .pointer (some ⟨b, 0, none⟩)) [10, 11, 12] rfl (by kernel_rfl) (by kernel_rfl) (by kernel_rfl) (by kernel_rfl) (fun _ _ _ h => h) (Or.inl ⟨by rfl, ?_⟩) ⟨KP.out.at_, KP.out.bo⟩ ?_
        · intro wq hSw
          obtain ⟨y0, y1, y2, y3, y4, y5, y6⟩ := hSw.1.cells
          obtain ⟨z0, z1, z2, z3, z4, z5, z6⟩ := hSw.2.cells
          simp only at y2 y3 y4 y5 y6
          go_simp
        (try simp only [Act.put, List.setIfInBounds_toArray, List.set_cons_zero, List.set_cons_succ])
        refine wpAnyT_take (i := 1) (oi := { dst := some 54, op := Op.move (Operand.tmp 0), type := 27, pos := "gauge.go:145", after := #[], guard := none }) (v := .pointer (some ⟨b, 0, none⟩)) [2, 3, 4, 9, 12] rfl (by kernel_rfl) (by kernel_rfl) (by kernel_rfl) (by kernel_rfl) (fun _ _ _ h => h) (Or.inl ⟨by rfl, ?_⟩) ⟨KP.out.at_, KP.out.bo⟩ ?_
        · intro wq hSw
          obtain ⟨y0, y1, y2, y3, y4, y5, y6⟩ := hSw.1.cells
          obtain ⟨z0, z1, z2, z3, z4, z5, z6⟩ := hSw.2.cells
          simp only at y2 y3 y4 y5 y6
          go_simp
        (try simp only [Act.put, List.setIfInBounds_toArray, List.set_cons_zero, List.set_cons_succ])
        refine wpAnyT_take (i := 2) (oi := { dst := some 55, op := Op.nilCheck (Operand.tmp 54), type := 0, pos := "gauge.go:145", after := #[{ on := 1, ground := Ground.data }], guard := none }) (v := .pointer (some ⟨b, 0, none⟩)) [3, 4, 9, 12] rfl (by kernel_rfl) (by kernel_rfl) (by kernel_rfl) (by kernel_rfl) (fun _ _ _ h => h) (Or.inl ⟨by rfl, ?_⟩) ⟨KP.out.at_, KP.out.bo⟩ ?_
        · intro wq hSw
          obtain ⟨y0, y1, y2, y3, y4, y5, y6⟩ := hSw.1.cells
          obtain ⟨z0, z1, z2, z3, z4, z5, z6⟩ := hSw.2.cells
          simp only at y2 y3 y4 y5 y6
          go_simp
        (try simp only [Act.put, List.setIfInBounds_toArray, List.set_cons_zero, List.set_cons_succ])
        refine wpAnyT_take (i := 3) (oi := { dst := some 56, op := Op.fieldAddr 64 (Operand.tmp 55) 2, type := 0, pos := "gauge.go:145", after := #[{ on := 2, ground := Ground.data }], guard := none }) (v := .pointer (some ⟨b, 2, none⟩)) [4, 9, 12] rfl (by kernel_rfl) (by kernel_rfl) (by kernel_rfl) (by kernel_rfl) (fun _ _ _ h => h) (Or.inl ⟨by rfl, ?_⟩) ⟨KP.out.at_, KP.out.bo⟩ ?_
        · intro wq hSw
          obtain ⟨y0, y1, y2, y3, y4, y5, y6⟩ := hSw.1.cells
          obtain ⟨z0, z1, z2, z3, z4, z5, z6⟩ := hSw.2.cells
          simp only at y2 y3 y4 y5 y6
          go_simp
        (try simp only [Act.put, List.setIfInBounds_toArray, List.set_cons_zero, List.set_cons_succ])
        refine wpAnyT_take (i := 4) (oi := { dst := some 57, op := Op.load 44 (Operand.tmp 56), type := 44, pos := "gauge.go:145", after := #[{ on := 3, ground := Ground.data }], guard := none }) (v := .agg #[.int .i64 g.l.n, .int .i64 g.l.na, .float .f64 g.l.lo, .float .f64 g.l.hi, .float .f64 g.l.me]) [9, 12] rfl (by kernel_rfl) (by kernel_rfl) (by kernel_rfl) (by kernel_rfl) (fun _ _ _ h => h) (Or.inl ⟨by rfl, ?_⟩) ⟨KP.out.at_, KP.out.bo⟩ ?_
        · intro wq hSw
          obtain ⟨y0, y1, y2, y3, y4, y5, y6⟩ := hSw.1.cells
          obtain ⟨z0, z1, z2, z3, z4, z5, z6⟩ := hSw.2.cells
          simp only at y2 y3 y4 y5 y6
          go_simp
        (try simp only [Act.put, List.setIfInBounds_toArray, List.set_cons_zero, List.set_cons_succ])
        refine wpAnyT_take (i := 5) (oi := { dst := some 58, op := Op.move (Operand.tmp 1), type := 27, pos := "gauge.go:145", after := #[], guard := none }) (v := .pointer (some ⟨b2, 0, none⟩)) [6, 7, 8, 9, 12] rfl (by kernel_rfl) (by kernel_rfl) (by kernel_rfl) (by kernel_rfl) (fun _ _ _ h => h) (Or.inl ⟨by rfl, ?_⟩) ⟨KP.out.at_, KP.out.bo⟩ ?_
        · intro wq hSw
          obtain ⟨y0, y1, y2, y3, y4, y5, y6⟩ := hSw.1.cells
          obtain ⟨z0, z1, z2, z3, z4, z5, z6⟩ := hSw.2.cells
          simp only at y2 y3 y4 y5 y6
          go_simp
        (try simp only [Act.put, List.setIfInBounds_toArray, List.set_cons_zero, List.set_cons_succ])
        refine wpAnyT_take (i := 6) (oi := { dst := some 59, op := Op.nilCheck (Operand.tmp 58), type := 0, pos := "gauge.go:145", after := #[{ on := 5, ground := Ground.data }], guard := none }) (v := .pointer (some ⟨b2, 0, none⟩)) [7, 8, 9, 12] rfl (by kernel_rfl) (by kernel_rfl) (by kernel_rfl) (by kernel_rfl) (fun _ _ _ h => h) (Or.inl ⟨by rfl, ?_⟩) ⟨KP.out.at_, KP.out.bo⟩ ?_
        · intro wq hSw
          obtain ⟨y0, y1, y2, y3, y4, y5, y6⟩ := hSw.1.cells
          obtain ⟨z0, z1, z2, z3, z4, z5, z6⟩ := hSw.2.cells
          simp only at y2 y3 y4 y5 y6
          go_simp
        (try simp only [Act.put, List.setIfInBounds_toArray, List.set_cons_zero, List.set_cons_succ])
        refine wpAnyT_take (i := 7) (oi := { dst := some 60, op := Op.fieldAddr 64 (Operand.tmp 59) 2, type := 0, pos := "gauge.go:145", after := #[{ on := 6, ground := Ground.data }], guard := none }) (v := .pointer (some ⟨b2, 2, none⟩)) [8, 9, 12] rfl (by kernel_rfl) (by kernel_rfl) (by kernel_rfl) (by kernel_rfl) (fun _ _ _ h => h) (Or.inl ⟨by rfl, ?_⟩) ⟨KP.out.at_, KP.out.bo⟩ ?_
        · intro wq hSw
          obtain ⟨y0, y1, y2, y3, y4, y5, y6⟩ := hSw.1.cells
          obtain ⟨z0, z1, z2, z3, z4, z5, z6⟩ := hSw.2.cells
          simp only at y2 y3 y4 y5 y6
          go_simp
        (try simp only [Act.put, List.setIfInBounds_toArray, List.set_cons_zero, List.set_cons_succ])
        refine wpAnyT_take (i := 8) (oi := { dst := some 61, op := Op.load 44 (Operand.tmp 60), type := 44, pos := "gauge.go:145", after := #[{ on := 7, ground := Ground.data }], guard := none }) (v := .agg #[.int .i64 o.l.n, .int .i64 o.l.na, .float .f64 o.l.lo, .float .f64 o.l.hi, .float .f64 o.l.me]) [9, 12] rfl (by kernel_rfl) (by kernel_rfl) (by kernel_rfl) (by kernel_rfl) (fun _ _ _ h => h) (Or.inl ⟨by rfl, ?_⟩) ⟨KP.out.at_, KP.out.bo⟩ ?_
        · intro wq hSw
          obtain ⟨y0, y1, y2, y3, y4, y5, y6⟩ := hSw.1.cells
          obtain ⟨z0, z1, z2, z3, z4, z5, z6⟩ := hSw.2.cells
          simp only at y2 y3 y4 y5 y6
          go_simp
        (try simp only [Act.put, List.setIfInBounds_toArray, List.set_cons_zero, List.set_cons_succ])
        refine wpAnyT_one (i := 9) (o := { dst := some 62, op := Op.call { callee := Callee.value (Operand.func 42), args := #[Operand.tmp 57, Operand.tmp 61], argTypes := #[44, 44] }, type := 44, pos := "gauge.go:145", after := #[{ on := 4, ground := Ground.data }, { on := 8, ground := Ground.data }], guard := none }) (by kernel_rfl) rfl (fun K9 hK9 => ?_)
        go_simp
        go_at_call 42
        refine (hmd.out _).mono ?_
        rintro e w7 ⟨rfl, b7⟩
        have A7 := hide (KP.out.at_.below b7)
        have D7 : Hid (Bo 64 w7 b2 o.l (.slice zo zn zc) (.slice (some ⟨ob, 0, none⟩) i ca2)) := hide ((b7.block b2 (heap_lt KP.out.bo)).trans KP.out.bo)
        have B7 := hide (KP.out.but.trans (But.of_below b7 _))
        obtain ⟨l', hl'⟩ : ∃ l', Hid (mergeL g.l o.l = l') := ⟨_, rfl⟩
        rw [hl'.out]
        clear b7 KP
        obtain ⟨ln, lna, llo, lhi, lme⟩ := l'
        unfold L.val
        simp only
        (try go_simp)
        refine hK9.out _ _ (fun _ => ⟨A7.out, D7.out⟩) ?_
        clear hK9 K9
        (try simp only [Act.put, List.setIfInBounds_toArray, List.set_cons_zero, List.set_cons_succ])
        refine wpAnyT_one (i := 10) (o := { dst := some 63, op := Op.nilCheck (Operand.tmp 53), type := 0, pos := "gauge.go:145", after := #[{ on := 0, ground := Ground.data }, { on := 0, ground := Ground.phase }, { on := 1, ground := Ground.phase }, { on := 2, ground := Ground.phase }, { on := 3, ground := Ground.phase }, { on := 4, ground := Ground.phase }, { on := 5, ground := Ground.phase }, { on := 6, ground := Ground.phase }, { on := 7, ground := Ground.phase }, { on := 8, ground := Ground.phase }, { on := 9, ground := Ground.phase }], guard := none }) (by kernel_rfl) rfl (fun K9 hK9 => ?_)
        go_simp
        refine hK9.out _ _ (fun _ => ⟨A7.out, D7.out⟩) ?_
        clear hK9 K9
        (try simp only [Act.put, List.setIfInBounds_toArray, List.set_cons_zero, List.set_cons_succ])
        refine wpAnyT_one (i := 11) (o := { dst := some 64, op := Op.fieldAddr 64 (Operand.tmp 63) 2, type := 0, pos := "gauge.go:145", after := #[{ on := 10, ground := Ground.data }, { on := 0, ground := Ground.phase }, { on := 1, ground := Ground.phase }, { on := 2, ground := Ground.phase }, { on := 3, ground := Ground.phase }, { on := 4, ground := Ground.phase }, { on := 5, ground := Ground.phase }, { on := 6, ground := Ground.phase }, { on := 7, ground := Ground.phase }, { on := 8, ground := Ground.phase }, { on := 9, ground := Ground.phase }], guard := none }) (by kernel_rfl) rfl (fun K9 hK9 => ?_)
        go_simp
        refine hK9.out _ _ (fun _ => ⟨A7.out, D7.out⟩) ?_
        clear hK9 K9
        (try simp only [Act.put, List.setIfInBounds_toArray, List.set_cons_zero, List.set_cons_succ])
        obtain ⟨c0, c1, c2, c3, c4, c5, c6⟩ := A7.out.cells
        have y2 := A7.out.frozen 2
        have y3 := A7.out.frozen 3
        have y4 := A7.out.frozen 4
        have y5 := A7.out.frozen 5
        have y6 := A7.out.frozen 6
        have FIN := hide (A7.out.look (by decide) (by decide) ⟨ln, lna, llo, lhi, lme⟩)
        simp only at FIN
        refine wpAnyT_one (i := 12) (o := { dst := none, op := Op.store 44 (Operand.tmp 64) (Operand.tmp 62), type := 0, pos := "gauge.go:145", after := #[{ on := 11, ground := Ground.data }, { on := 9, ground := Ground.data }, { on := 9, ground := Ground.chain }, { on := 0, ground := Ground.phase }, { on := 1, ground := Ground.phase }, { on := 2, ground := Ground.phase }, { on := 3, ground := Ground.phase }, { on := 4, ground := Ground.phase }, { on := 5, ground := Ground.phase }, { on := 6, ground := Ground.phase }, { on := 7, ground := Ground.phase }, { on := 8, ground := Ground.phase }, { on := 9, ground := Ground.phase }], guard := none }) (by kernel_rfl) rfl (fun K9 hK9 => ?_)
        go_simp
        refine hK9.out _ _ (vac (by kernel_rfl)) ?_
        clear hK9 K9
        (try simp only [Act.put, List.setIfInBounds_toArray, List.set_cons_zero, List.set_cons_succ])
        refine wpAnyT_done (by kernel_rfl) ?_ _
        clear c0 c1 c2 c3 c4 c5 c6 y2 y3 y4 y5 y6
        go_wp2_with fail
        go_ret
        have f1 := FIN.out
        rw [hFin.out _ hl'.out.symm] at f1
        exact .inl ⟨HS.out, rfl, f1, B7.out.trans (but_all _ b 2 _ _ _ _ _ (.inl rfl))⟩
      · have hil : i < K := by omega
        have hx := hG.out.left i (Nat.le_refl _) hil
        have i1 : (i : Int) < (K : Int) := by omega
        have i2 : (0 : Int) ≤ (i : Int) := by omega
        obtain ⟨k1, k2⟩ := HC.out i hil
        obtain ⟨k3, k4⟩ := HC2.out i hil
        have hcell : Hid (∀ q, At 64 q b ⟨g.bs, mixL g.cs o.cs i, g.l⟩ (.slice xo xn xc) (.slice (some ⟨cb, 0, none⟩) K ca) → q.cell? ⟨cb, i, none⟩ = some (.int .i64 (g.cs.getD i 0))) := hide fun q hq => by
          have := hq.cell i (by simp only; rw [mix_len _ _ (by rw [hK.out, HK.out]), hK.out]; exact hil)
          simp only at this
          rwa [mix_get _ _ (by rw [hK.out, HK.out]) i (by rw [hK.out]; exact hil)] at this
        have hnext := hide (fun q (hq : Mg 64 w q b g (.slice xo xn xc) cb K ca b2 o (.slice zo zn zc) ob ca2 i) => hq.step (by decide) hK.out HK.out hil)
        obtain ⟨gv, hgv⟩ : ∃ gv, Hid (g.cs.getD i 0 = gv) := ⟨_, rfl⟩
        obtain ⟨ov, hov⟩ : ∃ ov, Hid (o.cs.getD i 0 = ov) := ⟨_, rfl⟩
        rw [hgv.out] at k1 k2 hcell hnext
        rw [hov.out] at k3 k4 hx hnext
        go_upto_region 6 with fail
        have KP : Hid (Mg 64 w wr.drew b g (.slice xo xn xc) cb K ca b2 o (.slice zo zn zc) ob ca2 i) := hG.out.drewN
        refine wp_region_T (fun q => At 64 q b ⟨g.bs, mixL g.cs o.cs i, g.l⟩ (.slice xo xn xc) (.slice (some ⟨cb, 0, none⟩) K ca)) 15 (by kernel_rfl) ?_
        clear hG hx
        generalize wr.drew = q at *
        refine wpAnyT_take (i := 0) (oi := { dst := some 37, op := Op.move (Operand.tmp 0), type := 27, pos := "gauge.go:143", after := #[], guard := none }) (v := .pointer (some ⟨b, 0, none⟩)) [1, 2, 3, 14, 15] rfl (by kernel_rfl) (by kernel_rfl) (by kernel_rfl) (by kernel_rfl) (fun _ _ _ h => h) (Or.inl ⟨by rfl, ?_⟩) KP.out.at_ ?_
        · intro wq hSw
          obtain ⟨y0, y1, y2, y3, y4, y5, y6⟩ := hSw.cells
          have y7 := hcell.out _ hSw
          go_simp
        (try simp only [Act.put, List.setIfInBounds_toArray, List.set_cons_zero, List.set_cons_succ])
        refine wpAnyT_take (i := 1) (oi := { dst := some 38, op := Op.nilCheck (Operand.tmp 37), type := 0, pos := "gauge.go:143", after := #[{ on := 0, ground := Ground.data }], guard := none }) (v := .pointer (some ⟨b, 0, none⟩)) [2, 3, 14, 15] rfl (by kernel_rfl) (by kernel_rfl) (by kernel_rfl) (by kernel_rfl) (fun _ _ _ h => h) (Or.inl ⟨by rfl, ?_⟩) KP.out.at_ ?_
        · intro wq hSw
          obtain ⟨y0, y1, y2, y3, y4, y5, y6⟩ := hSw.cells
          have y7 := hcell.out _ hSw
          go_simp
        (try simp only [Act.put, List.setIfInBounds_toArray, List.set_cons_zero, List.set_cons_succ])
        refine wpAnyT_take (i := 2) (oi := { dst := some 39, op := Op.fieldAddr 64 (Operand.tmp 38) 1, type := 0, pos := "gauge.go:143", after := #[{ on := 1, ground := Ground.data }], guard := none }) (v := .pointer (some ⟨b, 1, none⟩)) [3, 14, 15] rfl (by kernel_rfl) (by kernel_rfl) (by kernel_rfl) (by kernel_rfl) (fun _ _ _ h => h) (Or.inl ⟨by rfl, ?_⟩) KP.out.at_ ?_
        · intro wq hSw
          obtain ⟨y0, y1, y2, y3, y4, y5, y6⟩ := hSw.cells
          have y7 := hcell.out _ hSw
          go_simp
        (try simp only [Act.put, List.setIfInBounds_toArray, List.set_cons_zero, List.set_cons_succ])
        refine wpAnyT_take (i := 3) (oi := { dst := some 40, op := Op.load 41 (Operand.tmp 39), type := 41, pos := "gauge.go:143", after := #[{ on := 2, ground := Ground.data }], guard := none }) (v := .slice (some ⟨cb, 0, none⟩) K ca) [14, 15] rfl (by kernel_rfl) (by kernel_rfl) (by kernel_rfl) (by kernel_rfl) (fun _ _ _ h => h) (Or.inl ⟨by rfl, ?_⟩) KP.out.at_ ?_
        · intro wq hSw
          obtain ⟨y0, y1, y2, y3, y4, y5, y6⟩ := hSw.cells
          have y7 := hcell.out _ hSw
          go_simp
        (try simp only [Act.put, List.setIfInBounds_toArray, List.set_cons_zero, List.set_cons_succ])
        refine wpAnyT_take (i := 4) (oi := { dst := some 41, op := Op.move (Operand.tmp 5), type := 3, pos := "gauge.go:143", after := #[], guard := none }) (v := .int .i64 (i : Int)) [14, 15] rfl (by kernel_rfl) (by kernel_rfl) (by kernel_rfl) (by kernel_rfl) (fun _ _ _ h => h) (Or.inl ⟨by rfl, ?_⟩) KP.out.at_ ?_
        · intro wq hSw
          obtain ⟨y0, y1, y2, y3, y4, y5, y6⟩ := hSw.cells
          have y7 := hcell.out _ hSw
          go_simp
        (try simp only [Act.put, List.setIfInBounds_toArray, List.set_cons_zero, List.set_cons_succ])
        refine wpAnyT_take (i := 5) (oi := { dst := some 42, op := Op.move (Operand.tmp 0), type := 27, pos := "gauge.go:143", after := #[], guard := none }) (v := .pointer (some ⟨b, 0, none⟩)) [6, 7, 8, 10, 11, 13, 15] rfl (by kernel_rfl) (by kernel_rfl) (by kernel_rfl) (by kernel_rfl) (fun _ _ _ h => h) (Or.inl ⟨by rfl, ?_⟩) KP.out.at_ ?_
        · intro wq hSw
          obtain ⟨y0, y1, y2, y3, y4, y5, y6⟩ := hSw.cells
          have y7 := hcell.out _ hSw
          go_simp
        (try simp only [Act.put, List.setIfInBounds_toArray, List.set_cons_zero, List.set_cons_succ])
        refine wpAnyT_take (i := 6) (oi := { dst := some 43, op := Op.nilCheck (Operand.tmp 42), type := 0, pos := "gauge.go:143", after := #[{ on := 5, ground := Ground.data }], guard := none }) (v := .pointer (some ⟨b, 0, none⟩)) [7, 8, 10, 11, 13, 15] rfl (by kernel_rfl) (by kernel_rfl) (by kernel_rfl) (by kernel_rfl) (fun _ _ _ h => h) (Or.inl ⟨by rfl, ?_⟩) KP.out.at_ ?_
        · intro wq hSw
          obtain ⟨y0, y1, y2, y3, y4, y5, y6⟩ := hSw.cells
          have y7 := hcell.out _ hSw
          go_simp
        (try simp only [Act.put, List.setIfInBounds_toArray, List.set_cons_zero, List.set_cons_succ])
        refine wpAnyT_take (i := 7) (oi := { dst := some 44, op := Op.fieldAddr 64 (Operand.tmp 43) 1, type := 0, pos := "gauge.go:143", after := #[{ on := 6, ground := Ground.data }], guard := none }) (v := .pointer (some ⟨b, 1, none⟩)) [8, 10, 11, 13, 15] rfl (by kernel_rfl) (by kernel_rfl) (by kernel_rfl) (by kernel_rfl) (fun _ _ _ h => h) (Or.inl ⟨by rfl, ?_⟩) KP.out.at_ ?_
        · intro wq hSw
          obtain ⟨y0, y1, y2, y3, y4, y5, y6⟩ := hSw.cells
          have y7 := hcell.out _ hSw
          go_simp
        (try simp only [Act.put, List.setIfInBounds_toArray, List.set_cons_zero, List.set_cons_succ])
        refine wpAnyT_take (i := 8) (oi := { dst := some 45, op := Op.load 41 (Operand.tmp 44), type := 41, pos := "gauge.go:143", after := #[{ on := 7, ground := Ground.data }], guard := none }) (v := .slice (some ⟨cb, 0, none⟩) K ca) [10, 11, 13, 15] rfl (by kernel_rfl) (by kernel_rfl) (by kernel_rfl) (by kernel_rfl) (fun _ _ _ h => h) (Or.inl ⟨by rfl, ?_⟩) KP.out.at_ ?_
        · intro wq hSw
          obtain ⟨y0, y1, y2, y3, y4, y5, y6⟩ := hSw.cells
          have y7 := hcell.out _ hSw
          go_simp
        (try simp only [Act.put, List.setIfInBounds_toArray, List.set_cons_zero, List.set_cons_succ])
        refine wpAnyT_take (i := 9) (oi := { dst := some 46, op := Op.move (Operand.tmp 5), type := 3, pos := "gauge.go:143", after := #[], guard := none }) (v := .int .i64 (i : Int)) [10, 11, 13, 15] rfl (by kernel_rfl) (by kernel_rfl) (by kernel_rfl) (by kernel_rfl) (fun _ _ _ h => h) (Or.inl ⟨by rfl, ?_⟩) KP.out.at_ ?_
        · intro wq hSw
          obtain ⟨y0, y1, y2, y3, y4, y5, y6⟩ := hSw.cells
          have y7 := hcell.out _ hSw
          go_simp
        (try simp only [Act.put, List.setIfInBounds_toArray, List.set_cons_zero, List.set_cons_succ])
        refine wpAnyT_take (i := 10) (oi := { dst := some 47, op := Op.indexAddr 41 (Operand.tmp 45) (Operand.tmp 46), type := 0, pos := "gauge.go:143", after := #[{ on := 8, ground := Ground.data }, { on := 9, ground := Ground.data }], guard := none }) (v := .pointer (some ⟨cb, i, none⟩)) [11, 13, 15] rfl (by kernel_rfl) (by kernel_rfl) (by kernel_rfl) (by kernel_rfl) (fun _ _ _ h => h) (Or.inl ⟨by rfl, ?_⟩) KP.out.at_ ?_
        · intro wq hSw
          obtain ⟨y0, y1, y2, y3, y4, y5, y6⟩ := hSw.cells
          have y7 := hcell.out _ hSw
          go_simp
        (try simp only [Act.put, List.setIfInBounds_toArray, List.set_cons_zero, List.set_cons_succ])
        refine wpAnyT_take (i := 11) (oi := { dst := some 48, op := Op.load 2 (Operand.tmp 47), type := 2, pos := "gauge.go:143", after := #[{ on := 10, ground := Ground.data }], guard := none }) (v := .int .i64 gv) [13, 15] rfl (by kernel_rfl) (by kernel_rfl) (by kernel_rfl) (by kernel_rfl) (fun _ _ _ h => h) (Or.inl ⟨by rfl, ?_⟩) KP.out.at_ ?_
        · intro wq hSw
          obtain ⟨y0, y1, y2, y3, y4, y5, y6⟩ := hSw.cells
          have y7 := hcell.out _ hSw
          go_simp
        (try simp only [Act.put, List.setIfInBounds_toArray, List.set_cons_zero, List.set_cons_succ])
        refine wpAnyT_take (i := 12) (oi := { dst := some 49, op := Op.move (Operand.tmp 6), type := 2, pos := "gauge.go:143", after := #[], guard := none }) (v := .int .i64 ov) [13, 15] rfl (by kernel_rfl) (by kernel_rfl) (by kernel_rfl) (by kernel_rfl) (fun _ _ _ h => h) (Or.inl ⟨by rfl, ?_⟩) KP.out.at_ ?_
        · intro wq hSw
          obtain ⟨y0, y1, y2, y3, y4, y5, y6⟩ := hSw.cells
          have y7 := hcell.out _ hSw
          go_simp
        (try simp only [Act.put, List.setIfInBounds_toArray, List.set_cons_zero, List.set_cons_succ])
        refine wpAnyT_one (i := 13) (o := { dst := some 50, op := Op.call { callee := Callee.value (Operand.func 33), args := #[Operand.tmp 48, Operand.tmp 49], argTypes := #[2, 2] }, type := 2, pos := "gauge.go:143", after := #[{ on := 11, ground := Ground.data }, { on := 12, ground := Ground.data }], guard := none }) (by kernel_rfl) rfl (fun K9 hK9 => ?_)
        go_simp
        go_at_call 33
        refine (more_any _ gv ov k1 (by omega) k3 (by omega)).mono ?_
        rintro e w1 ⟨rfl, hw⟩
        rw [hw]
        clear hw w1
        (try go_simp)
        refine hK9.out _ _ (fun _ => KP.out.at_) ?_
        clear hK9 K9
        (try simp only [Act.put, List.setIfInBounds_toArray, List.set_cons_zero, List.set_cons_succ])
        refine wpAnyT_one (i := 14) (o := { dst := some 51, op := Op.indexAddr 41 (Operand.tmp 40) (Operand.tmp 41), type := 0, pos := "gauge.go:143", after := #[{ on := 3, ground := Ground.data }, { on := 4, ground := Ground.data }, { on := 0, ground := Ground.phase }, { on := 1, ground := Ground.phase }, { on := 2, ground := Ground.phase }, { on := 3, ground := Ground.phase }, { on := 4, ground := Ground.phase }, { on := 5, ground := Ground.phase }, { on := 6, ground := Ground.phase }, { on := 7, ground := Ground.phase }, { on := 8, ground := Ground.phase }, { on := 9, ground := Ground.phase }, { on := 10, ground := Ground.phase }, { on := 11, ground := Ground.phase }, { on := 12, ground := Ground.phase }, { on := 13, ground := Ground.phase }], guard := none }) (by kernel_rfl) rfl (fun K9 hK9 => ?_)
        go_simp
        refine hK9.out _ _ (fun _ => KP.out.at_) ?_
        clear hK9 K9
        (try simp only [Act.put, List.setIfInBounds_toArray, List.set_cons_zero, List.set_cons_succ])
        have y7 := hcell.out _ KP.out.at_
        have y8 := KP.out.at_.cfrozen i
        have G6 := hide (hnext.out _ KP.out)
        refine wpAnyT_one (i := 15) (o := { dst := none, op := Op.store 2 (Operand.tmp 51) (Operand.tmp 50), type := 0, pos := "gauge.go:143", after := #[{ on := 14, ground := Ground.data }, { on := 13, ground := Ground.data }, { on := 13, ground := Ground.chain }, { on := 0, ground := Ground.phase }, { on := 1, ground := Ground.phase }, { on := 2, ground := Ground.phase }, { on := 3, ground := Ground.phase }, { on := 4, ground := Ground.phase }, { on := 5, ground := Ground.phase }, { on := 6, ground := Ground.phase }, { on := 7, ground := Ground.phase }, { on := 8, ground := Ground.phase }, { on := 9, ground := Ground.phase }, { on := 10, ground := Ground.phase }, { on := 11, ground := Ground.phase }, { on := 12, ground := Ground.phase }, { on := 13, ground := Ground.phase }], guard := none }) (by kernel_rfl) rfl (fun K9 hK9 => ?_)
        go_simp
        refine hK9.out _ _ (vac (by kernel_rfl)) ?_
        clear hK9 K9
        (try simp only [Act.put, List.setIfInBounds_toArray, List.set_cons_zero, List.set_cons_succ])
        refine wpAnyT_done (by kernel_rfl) ?_ _
        clear y7 y8 KP hcell hnext
        generalize q.setCell ⟨cb, i, none⟩ (.int .i64 (gv + ov)) = w6 at *
        go_wp2_with fail
        go_roundw
        case rel => exact ⟨i + 1, by omega, by go_num, G6.out⟩
        case measure => simp [intOf]; omega
  · have hEq : Hid (∀ n, Calls Try.prog 40 #[.slice xo xn xc, .slice zo zn zc, .func (.func 41) #[] #[]] (w.drewN n) fun e w' => e = .returned (.bool false) ∧ w' = w.drewN n) := hide fun n => (he.out n).mono fun e w' hh => by
      obtain ⟨hw, ⟨_, a⟩ | ⟨a, _⟩⟩ := hh
      · exact absurd a hs
      · exact ⟨a, hw⟩
    have HS := hide hs
    clear h h2 ok ok2 hs he
    go_enter Try.func15, Try.ntmps15
    go_upto_region 1 with fail
    go_quiet (first | (go_at_call 32; exact Calls.quiet_of_same (hm.out _ _ (by first | exact .inl rfl | exact .inr rfl))) | (go_at_call 40; exact Calls.quiet_of_same (hEq.out _)))
    go_wp2_with fail
    go_ret
    exact .inr ⟨HS.out, rfl, below_drewN (Below.refl _ _) _⟩
end Go.Proofs.Ytjkdhckhokkefaa.Gg

/-
  The document's New. (gen_GrA.py)
-/
namespace Go.Proofs.Ytjkdhckhokkefaa.Gg
open Go.RowKit Rl
open Ix (wp_region_T wpAnyT wpAnyT_take wpAnyT_one wpAnyT_done vac)
set_option linter.unusedVariables false
set_option maxRecDepth 100000
theorem run_dupF {w : World} {v : Value} {l : List Nat} (hv : Row w v (fvals l)) (hl : l.length ≤ 1000000) (ty : TypeId) : ∃ v' w', (Builtin.append_ #[24, 24] ty #[.slice none 0 0, v]).run Try.prog w = .ok v' w' ∧ Fw w.heap.size w' v' l ∧ Below w.heap.size w w' := by
  obtain ⟨i0, hi, hz0, hz1, hz2⟩ := info_parts Try.infoF64
  have hv0 := hv
  obtain ⟨ao, ca, rfl, h1, h2, h3, _⟩ := hv0
  have hfl : (fvals l).length = l.length := by simp [fvals]
  rw [hfl] at hv ⊢
  cases ao with
  | none =>
    obtain ⟨e0, rfl⟩ := h1 rfl
    have e1 : l = [] := by simpa [fvals] using e0
    subst e1
    exact ⟨.slice none 0 0, w, run_append_owned_none (P := Try.prog) (w := w) w.heap.size 24 ty 26 i0 1 Try.underlying24 hi (.slice none 0 0) 0 [] (World.ownsRow_nil _ _ _ _), World.ownsRow_nil _ _ _ _, Below.refl _ _⟩
  | some ad =>
    obtain ⟨v', w', hr, ho, hg, _, hat⟩ := run_append_own_at (P := Try.prog) w w.heap.size 24 ty 26 i0 (.float .f64 0) 1 8 Try.underlying24 hi hz0 hz1 hz2 rfl (by decide) (.slice none 0 0) 0 [] (World.ownsRow_nil _ _ _ _) ad l.length ca (fvals l) (by rw [hfl, Nat.mul_one]) (row_news hv) (fvals_one l) (by unfold maxLen; omega) (by omega) (Nat.le_refl _)
    rw [List.nil_append, Nat.zero_add] at ho
    exact ⟨v', w', hr, ho, Below.grown (Below.refl _ _) hg (Nat.le_refl _) (fun k hk => by simp [Value.ownBlock] at hk)⟩
theorem rnew_any (w : World) (v : Value) (l : List Nat) (hx : Row w v (fvals l)) (hb : Bs l) :
    Calls Try.prog 11 #[v] w fun e w' => Below w.heap.size w w' ∧ ((64 < l.length ∧ e = .returned (.tuple #[.pointer none, .int .i64 9])) ∨ (l.length ≤ 64 ∧ ¬ Rises l ∧ e = .returned (.tuple #[.pointer none, .int .i64 1])) ∨ (l.length ≤ 64 ∧ Rises l ∧ ∃ b vb vc, e = .returned (.tuple #[.pointer (some ⟨b, 0, none⟩), .int .i64 0]) ∧ At 66 w' b (g0 l) vb vc ∧ ∀ k, Own b vb vc k → w.heap.size ≤ k)) := by
  have HX := hide hx
  obtain ⟨ao, ca, rfl, h1, h2, h3, h4⟩ := hx
  have h4' : Hid (Go.Proofs.Ytjkdhckhokkefaa.At w ao (fvals l)) := h4
  have hfl : (fvals l).length = l.length := by simp [fvals]
  rw [hfl] at HX h2 ⊢
  unfold maxLen at h3
  replace hb : Hid (Bs l) := hb
  obtain ⟨n, hN⟩ : ∃ n, Hid (l.length = n) := ⟨_, rfl⟩
  rw [hN.out] at HX h2 ⊢
  clear hfl h1 h4
  have hnm0 : n ≤ 9223372036854775807 := by omega
  clear h2 h3
  by_cases hnm : 64 < n
  · have k1 : (64 : Int) < (n : Int) := by omega
    go_enter Try.func11, Try.ntmps11
    go_wp2_with fail
    go_ret2
    exact ⟨Below.refl _ _, .inl ⟨hnm, rfl⟩⟩
  · have k1 : ¬ (64 : Int) < (n : Int) := by omega
    replace hnm : n ≤ 64 := by omega
    go_enter Try.func11, Try.ntmps11
    go_wp2_with fail
    go_loopw [4] (fun v4 wr => ∃ i : Nat, i ≤ n ∧ v4 = .int .i64 (i : Int) ∧ Hid (∀ j, j < i → okAt l j = true) ∧ Hid (Below w.heap.size w wr)) (fun v _ => n - (intOf v).toNat)
    case atStart => exact ⟨0, by omega, rfl, fun j hj => by omega, Below.refl _ _⟩
    case round =>
      obtain ⟨i, hi, rfl, hf, hB⟩ := hrel
      by_cases hin : i = n
      · have HR : Hid (Rises l) := hide (fun j hj => hf.out j (by have := hN.out; omega))
        subst hin
        obtain ⟨m, hm⟩ : ∃ m, Hid (i + 1 = m) := ⟨_, rfl⟩
        obtain ⟨C, hM, hO⟩ := make_ints m (by have := hm.out; omega)
        have HM := hide hM
        have HO := hide hO
        have hl : Hid (l.length ≤ 100) := hide (by rw [hN.out]; omega)
        have k2 : IntKind.i64.wrap ((i : Int) + 1) = (m : Int) := by rw [← hm.out]; simp [IntKind.wrap, IntKind.bits, IntKind.signed]; omega
        clear hM hO hf h4'
        go_upto_region 8 with fail
        refine wp_region_T (fun q => Below w.heap.size w q) 9 (by kernel_rfl) ?_
        have KP : Hid (Below w.heap.size w wr.drew) := hB.out.drew
        clear hB
        generalize wr.drew = q at *
        refine wpAnyT_take (i := 0) (oi := { dst := some 36, op := Op.move (Operand.tmp 0), type := 24, pos := "ref.go:28", after := #[], guard := none }) (v := .slice ao i ca) [1, 6, 7, 8, 9] rfl (by kernel_rfl) (by kernel_rfl) (by kernel_rfl) (by kernel_rfl) (fun _ _ _ h => h) (Or.inl ⟨by rfl, ?_⟩) KP.out ?_
        · intro wq hSw
          skip
          go_simp
        (try simp only [Act.put, List.setIfInBounds_toArray, List.set_cons_zero, List.set_cons_succ])
        refine wpAnyT_take (i := 2) (oi := { dst := some 38, op := Op.move (Operand.tmp 0), type := 24, pos := "ref.go:28", after := #[], guard := none }) (v := .slice ao i ca) [3, 4, 5, 6, 7, 8, 9] rfl (by kernel_rfl) (by kernel_rfl) (by kernel_rfl) (by kernel_rfl) (fun _ _ _ h => h) (Or.inl ⟨by rfl, ?_⟩) KP.out ?_
        · intro wq hSw
          skip
          go_simp
        (try simp only [Act.put, List.setIfInBounds_toArray, List.set_cons_zero, List.set_cons_succ])
        refine wpAnyT_take (i := 3) (oi := { dst := some 39, op := Op.call { callee := Callee.builtin Builtin.len, args := #[Operand.tmp 38], argTypes := #[24] }, type := 3, pos := "ref.go:28", after := #[{ on := 2, ground := Ground.data }], guard := none }) (v := .int .i64 (i : Int)) [4, 5, 6, 7, 8, 9] rfl (by kernel_rfl) (by kernel_rfl) (by kernel_rfl) (by kernel_rfl) (fun _ _ _ h => h) (Or.inl ⟨by rfl, ?_⟩) KP.out ?_
        · intro wq hSw
          skip
          go_simp
        (try simp only [Act.put, List.setIfInBounds_toArray, List.set_cons_zero, List.set_cons_succ])
        refine wpAnyT_take (i := 4) (oi := { dst := some 40, op := Op.binOp BinOp.add 3 (Operand.tmp 39) (Operand.const (Value.int IntKind.i64 1)) 3, type := 3, pos := "ref.go:28", after := #[{ on := 3, ground := Ground.data }], guard := none }) (v := .int .i64 (m : Int)) [5, 6, 7, 8, 9] rfl (by kernel_rfl) (by kernel_rfl) (by kernel_rfl) (by kernel_rfl) (fun _ _ _ h => h) (Or.inl ⟨by rfl, ?_⟩) KP.out ?_
        · intro wq hSw
          skip
          go_simp
        (try simp only [Act.put, List.setIfInBounds_toArray, List.set_cons_zero, List.set_cons_succ])
        have RQ : Hid (Row q (.slice ao i ca) (fvals l)) := Below.row KP.out HX.out
        have SZ : Hid (w.heap.size ≤ q.heap.size) := KP.out.size
        refine wpAnyT_pair (i := 1) (j := 5) (oi := { dst := some 37, op := Op.call { callee := Callee.builtin Builtin.append, args := #[Operand.const (Value.slice none 0 0), Operand.tmp 36], argTypes := #[24, 24] }, type := 24, pos := "ref.go:28", after := #[{ on := 0, ground := Ground.data }], guard := none }) (oj := { dst := some 41, op := Op.makeSlice 41 (Operand.tmp 40) (Operand.tmp 40), type := 41, pos := "ref.go:28", after := #[{ on := 4, ground := Ground.data }, { on := 4, ground := Ground.data }], guard := none }) (fun vi vj w2 => Fw q.heap.size w2 vi l ∧ Iw q.heap.size w2 vj (List.replicate m 0) ∧ Below q.heap.size q w2) (by decide) (by kernel_rfl) rfl rfl (by kernel_rfl) (by kernel_rfl) (fun _ _ => rfl) ?_ ?_ ?_ ?_
        · intro K hK
          obtain ⟨v', w4, hr, f4, b4⟩ := run_dupF RQ.out (by have := hl.out; omega) 24
          rw [if_pos (by simp [Region.wanted])]
          refine Lib.wp_append_run _ (.const (.slice none 0 0)) (.tmp 36) 24 24 rfl (.slice none 0 0) (.slice ao i ca) (by simp [Act.eval]) (by simp [Act.eval]) _ w4 hr ?_
          refine hK.out v' _ (keepF KP.out b4) (fun K2 hK2 => ?_)
          clear hK K hr
          have O5 := HO.out w4
          have M5 := HM.out w4
          have B5 := box_below w4 (.cells C 2)
          go_simp
          exact hK2.out (.slice (some ⟨w4.heap.size, 0, none⟩) m m) _ ⟨owns_below f4 B5, owns_low O5 b4.size, keepF b4 B5⟩
        · intro K hK
          have O5 := HO.out q
          have M5 := HM.out q
          have B5 := box_below q (.cells C 2)
          go_simp
          refine hK.out (.slice (some ⟨q.heap.size, 0, none⟩) m m) _ (keepF KP.out B5) (fun K2 hK2 => ?_)
          clear hK K
          have R5 := Below.row B5 RQ.out
          obtain ⟨v', w4, hr, f4, b4⟩ := run_dupF R5 (by have := hl.out; omega) 24
          rw [if_pos (by simp [Region.wanted])]
          refine Lib.wp_append_run _ (.const (.slice none 0 0)) (.tmp 36) 24 24 rfl (.slice none 0 0) (.slice ao i ca) (by simp [Act.eval]) (by simp [Act.eval, Act.put]) _ w4 hr ?_
          exact hK2.out v' _ ⟨owns_low f4 B5.size, owns_below O5 b4, keepF B5 b4⟩
        · rintro vi vj w2 ⟨_, _, hb⟩
          exact keepF KP.out hb
        rintro vb vc w4 ⟨f4, i4, b4⟩
        have K4 : Hid (Below w.heap.size w w4) := keepF KP.out b4
        have F4 : Hid (Fw w.heap.size w4 vb l) := owns_low f4 SZ.out
        have I4 : Hid (Iw w.heap.size w4 vc (List.replicate m 0)) := owns_low i4 SZ.out
        clear f4 i4 b4 RQ SZ KP
        obtain ⟨a1, n1, c1, rfl⟩ := owns_form F4.out
        obtain ⟨a2, n2, c2, rfl⟩ := owns_form I4.out
        (try simp only [Act.put, List.setIfInBounds_toArray, List.set_cons_zero, List.set_cons_succ])
        refine wpAnyT_one (i := 6) (o := { dst := some 42, op := Op.build 66 #[(0, Operand.tmp 37), (1, Operand.tmp 41)], type := 66, pos := "ref.go:28", after := #[{ on := 1, ground := Ground.data }, { on := 5, ground := Ground.data }], guard := none }) (by kernel_rfl) rfl (fun K hK => ?_)
        go_simp
        refine hK.out _ _ (fun _ => K4.out) ?_
        clear hK K
        (try simp only [Act.put, List.setIfInBounds_toArray, List.set_cons_zero, List.set_cons_succ])
        have B5 := hide (box_below w4 (.cells #[.slice a1 n1 c1, .slice a2 n2 c2, .int .i64 0, .int .i64 0, .float .f64 0, .float .f64 0, .float .f64 0] 66))
        have N5 := hide (heap_alloc_new w4 (.cells #[.slice a1 n1 c1, .slice a2 n2 c2, .int .i64 0, .int .i64 0, .float .f64 0, .float .f64 0, .float .f64 0] 66))
        have K5 : Hid (Below w.heap.size w (w4.alloc (.cells #[.slice a1 n1 c1, .slice a2 n2 c2, .int .i64 0, .int .i64 0, .float .f64 0, .float .f64 0, .float .f64 0] 66))) := keepF K4.out B5.out
        refine wpAnyT_one (i := 7) (o := { dst := some 43, op := Op.box 66 (Operand.tmp 42), type := 31, pos := "ref.go:28", after := #[{ on := 6, ground := Ground.data }], guard := none }) (by kernel_rfl) rfl (fun K hK => ?_)
        go_simp
        refine hK.out _ _ (fun _ => K5.out) ?_
        clear hK K
        (try simp only [Act.put, List.setIfInBounds_toArray, List.set_cons_zero, List.set_cons_succ])
        refine wpAnyT_one (i := 8) (o := { dst := some 2, op := Op.assign (Operand.tmp 43), type := 31, pos := "ref.go:28", after := #[{ on := 7, ground := Ground.data }, { on := 1, ground := Ground.chain }, { on := 0, ground := Ground.phase }, { on := 1, ground := Ground.phase }, { on := 2, ground := Ground.phase }, { on := 3, ground := Ground.phase }, { on := 4, ground := Ground.phase }, { on := 5, ground := Ground.phase }, { on := 6, ground := Ground.phase }, { on := 7, ground := Ground.phase }], guard := none }) (by kernel_rfl) rfl (fun K hK => ?_)
        go_simp
        refine hK.out _ _ (fun _ => K5.out) ?_
        clear hK K
        (try simp only [Act.put, List.setIfInBounds_toArray, List.set_cons_zero, List.set_cons_succ])
        refine wpAnyT_one (i := 9) (o := { dst := some 3, op := Op.assign (Operand.const (Value.int IntKind.i64 0)), type := 28, pos := "ref.go:28", after := #[{ on := 8, ground := Ground.chain }, { on := 0, ground := Ground.phase }, { on := 1, ground := Ground.phase }, { on := 2, ground := Ground.phase }, { on := 3, ground := Ground.phase }, { on := 4, ground := Ground.phase }, { on := 5, ground := Ground.phase }, { on := 6, ground := Ground.phase }, { on := 7, ground := Ground.phase }, { on := 8, ground := Ground.phase }], guard := none }) (by kernel_rfl) rfl (fun K hK => ?_)
        go_simp
        refine hK.out _ _ (vac (by kernel_rfl)) ?_
        clear hK K
        (try simp only [Act.put, List.setIfInBounds_toArray, List.set_cons_zero, List.set_cons_succ])
        refine wpAnyT_done (by kernel_rfl) ?_ _
        go_wp2_with fail
        go_ret2
        have n5 := N5.out
        have f5 := owns_below F4.out B5.out
        have i5 := owns_below I4.out B5.out
        refine ⟨K5.out, .inr (.inr ⟨hnm, HR.out, _, _, _, rfl, ⟨n5, owns_low f5 (Nat.zero_le _), owns_low (by unfold g0; rw [hN.out, hm.out]; exact i5) (Nat.zero_le _)⟩, fun k hk => ?_⟩)⟩
        rcases hk with rfl | hk | hk
        · exact K4.out.size
        · exact (World.ownsRow.lt f5 k hk).1
        · exact (World.ownsRow.lt i5 k hk).1
      · have hil : i < l.length := by have := hN.out; omega
        obtain ⟨x, hx⟩ : ∃ x, Hid (l.getD i 0 = x) := ⟨_, rfl⟩
        obtain ⟨y, hy⟩ : ∃ y, Hid (l.getD (i - 1) 0 = y) := ⟨_, rfl⟩
        obtain ⟨rb, off, rfl, hcell⟩ := h4'.out i (by simp [fvals]; omega)
        have hcx : wr.cell? ⟨rb, off + i, none⟩ = some (.float .f64 x) := by
          rw [hB.out.cell (lt_of_cell hcell), hcell, ← hx.out]
          simp [fvals, hil]
        have hxl : Hid (x < 18446744073709551616) := hb.out x (by rw [← hx.out]; exact getD_mem hil)
        have hyl : Hid (y < 18446744073709551616) := hb.out y (by rw [← hy.out]; exact getD_mem (by omega))
        clear hcell
        have i1 : (i : Int) < (n : Int) := by omega
        have i2 : (0 : Int) ≤ (i : Int) := by omega
        have hNn := hide (fun u => refNaN_any u x hxl.out)
        have hD : Hid (∀ k, Below w.heap.size w (wr.drewN k)) := hide (fun k => below_drewN hB.out k)
        cases hnx : nanB x
        · rw [hnx] at hNn
          by_cases hi0 : i = 0
          · subst hi0
            have hok : Hid (okAt l 0 = true) := hide (by unfold okAt; rw [hx.out, hnx]; rfl)
            rw [Nat.add_zero] at hcx
            go_upto_region 6 with fail
            go_quiet ((go_at_call 31; exact Calls.quiet_of_same (hNn.out _)))
            go_wp2_with fail
            go_roundw
            case rel => exact ⟨0 + 1, by omega, by go_num, fun j hj => by rw [show j = 0 by omega]; exact hok.out, hD.out _⟩
            case measure => simp [intOf]; omega
          · obtain ⟨rb2, off2, e2, hcell2⟩ := h4'.out (i - 1) (by simp [fvals]; omega)
            simp only [Option.some.injEq, Addr.mk.injEq] at e2
            obtain ⟨rfl, rfl, _⟩ := e2
            have hcy : wr.cell? ⟨rb, off + (i - 1), none⟩ = some (.float .f64 y) := by
              rw [hB.out.cell (lt_of_cell hcell2), hcell2, ← hy.out]
              simp [fvals, show i - 1 < l.length by omega]
            clear hcell2
            have i3 : ((0 : Int) < (i : Int)) := by omega
            have i7 : 0 < i := by omega
            have i4 : IntKind.i64.wrap ((i : Int) - 1) = ((i - 1 : Nat) : Int) := by rw [show ((i - 1 : Nat) : Int) = (i : Int) - 1 by omega]; simp [IntKind.wrap, IntKind.bits, IntKind.signed]; omega
            have i5 : ((i - 1 : Nat) : Int) < (n : Int) := by omega
            have i6 : (0 : Int) ≤ ((i - 1 : Nat) : Int) := by omega
            obtain ⟨c, hc⟩ : ∃ c, Hid (cmpB y x = c) := ⟨_, rfl⟩
            have hC : Hid (∀ u, Calls Try.prog 23 #[.float .f64 y, .float .f64 x] u fun e w' => e = .returned (.int .i64 c) ∧ w' = u) := hide (fun u => by rw [← hc.out]; exact refCompare_any u y x hyl.out hxl.out)
            have hlt : c < 0 → cmpB (l.getD (i - 1) 0) x < 0 := fun h => by rw [hy.out, hc.out]; exact h
            have hge : 0 ≤ c → okAt l i = false := fun h => by unfold okAt; rw [hx.out, hy.out, hc.out]; simp [hi0]; omega
            replace hlt := hide hlt
            replace hge := hide hge
            clear hy
            clear hi0
            obtain ⟨k, hk⟩ : ∃ k, Hid (i - 1 = k) := ⟨_, rfl⟩
            rw [hk.out] at hcy i4 i5 i6
            by_cases h0 : c < 0
            · have hok : Hid (okAt l i = true) := hide (by unfold okAt; rw [hx.out, hnx]; simp only [Bool.not_false, Bool.true_and, Bool.or_eq_true, decide_eq_true_eq]; right; exact hlt.out h0)
              have h1 : ¬ (0 ≤ c) := by omega
              clear h0
              go_upto_region 6 with fail
              go_quiet (first | (go_at_call 31; exact Calls.quiet_of_same (hNn.out _)) | (go_at_call 23; exact Calls.quiet_of_same (hC.out _)))
              go_wp2_with fail
              go_roundw
              case rel => exact ⟨i + 1, by omega, by go_num, fun j hj => by
                by_cases e : j = i
                · rw [e]; exact hok.out
                · exact hf.out j (by omega), hD.out _⟩
              case measure => simp [intOf]; omega
            · have hok : Hid (okAt l i = false) := hide (hge.out (by omega))
              have h1 : (0 ≤ c) := by omega
              go_upto_region 6 with fail
              go_quiet (first | (go_at_call 31; exact Calls.quiet_of_same (hNn.out _)) | (go_at_call 23; exact Calls.quiet_of_same (hC.out _)))
              go_wp2_with fail
              go_ret2
              have hNR : ¬ Rises l := fun h => by have := h i hil; rw [hok.out] at this; cases this
              first | exact ⟨hD.out _, .inr (.inl ⟨hnm, hNR, rfl⟩)⟩ | exact ⟨hD.out _, .inr (.inl ⟨hNR, rfl⟩)⟩
        · rw [hnx] at hNn
          have hok : Hid (okAt l i = false) := hide (by unfold okAt; rw [hx.out, hnx]; rfl)
          go_upto_region 6 with fail
          go_quiet ((go_at_call 31; exact Calls.quiet_of_same (hNn.out _)))
          go_wp2_with fail
          go_ret2
          have hNR : ¬ Rises l := fun h => by have := h i hil; rw [hok.out] at this; cases this
          first | exact ⟨hD.out _, .inr (.inl ⟨hnm, hNR, rfl⟩)⟩ | exact ⟨hD.out _, .inr (.inl ⟨hNR, rfl⟩)⟩
end Go.Proofs.Ytjkdhckhokkefaa.Gg

