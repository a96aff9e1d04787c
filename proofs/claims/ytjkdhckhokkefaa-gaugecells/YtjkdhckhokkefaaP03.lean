/-
  meanOfBoth, merged. (gen_GgM.py)
-/
import Derived.Test.YtjkdhckhokkefaaP02
import Derived.Laws.AppendOwnNone
namespace Go.Proofs.Ytjkdhckhokkefaa.Gg
open Go.RowKit Rl
open Ix (wp_region_T wpAnyT wpAnyT_take wpAnyT_one wpAnyT_done vac)
set_option linter.unusedVariables false
set_option maxRecDepth 100000
def moB (a b : L) : Nat := if b.n = 0 then a.me else if a.n = 0 then b.me else addB a.me (mulB (subB b.me a.me) (divB (nfB b.n) (nfB (a.n + b.n))))
def mergeL (a b : L) : L := ⟨a.n + b.n, a.na + b.na, (endsF a b).1, (endsF a b).2, moB a b⟩
theorem conv_u (n : Int) (w : World) : (convert 39 26 (.int .u64 n)).run Try.prog w = .ok (.float .f64 (nfB n)) w := by
  simp [convert, Conv.intToFloat, nfB]
set_option maxHeartbeats 1000000 in
theorem mean_any (w : World) (a b : L) (h1 : a.me < 18446744073709551616) (h2 : b.me < 18446744073709551616) (h3 : 0 ≤ a.n) (h4 : a.n ≤ 1000000000000) (h5 : 0 ≤ b.n) (h6 : b.n ≤ 1000000000000) : Calls Try.prog 53 #[a.val, b.val] w fun e w' => e = .returned (.float .f64 (moB a b)) ∧ Below w.heap.size w w' := by
  obtain ⟨an, ana, alo, ahi, ame⟩ := a
  obtain ⟨bn, bna, blo, bhi, bme⟩ := b
  simp only at h1 h2 h3 h4 h5 h6
  unfold L.val
  simp only
  have B1 := box_below w (.cells #[.int .i64 an, .int .i64 ana, .float .f64 alo, .float .f64 ahi, .float .f64 ame] 44)
  have X1 := Lx.new w ⟨an, ana, alo, ahi, ame⟩
  simp only at X1
  obtain ⟨w1, hw1⟩ : ∃ w1, Hid (w.alloc (.cells #[.int .i64 an, .int .i64 ana, .float .f64 alo, .float .f64 ahi, .float .f64 ame] 44) = w1) := ⟨_, rfl⟩
  have B2 := box_below w1 (.cells #[.int .i64 bn, .int .i64 bna, .float .f64 blo, .float .f64 bhi, .float .f64 bme] 44)
  have X2 := Lx.new w1 ⟨bn, bna, blo, bhi, bme⟩
  simp only at X2
  rw [hw1.out] at X1 B1
  have hz : w1.heap.size = w.heap.size + 1 := by rw [← hw1.out]; simp
  rw [hz] at X2
  have X1' := X1.below B2
  obtain ⟨w2, hw2⟩ : ∃ w2, Hid (w1.alloc (.cells #[.int .i64 bn, .int .i64 bna, .float .f64 blo, .float .f64 bhi, .float .f64 bme] 44) = w2) := ⟨_, rfl⟩
  rw [hw2.out] at X2 B2 X1'
  have B3 : Hid (Below w.heap.size w w2) := keepF B1 B2
  clear B1 B2 X1
  obtain ⟨a0, a1, a2, a3, a4⟩ := X1'.cells
  obtain ⟨b0, b1, b2, b3, b4⟩ := X2.cells
  simp only at a0 a1 a2 a3 a4 b0 b1 b2 b3 b4
  clear X1' X2
  obtain ⟨E, hE⟩ : ∃ E, Hid (moB ⟨an, ana, alo, ahi, ame⟩ ⟨bn, bna, blo, bhi, bme⟩ = E) := ⟨_, rfl⟩
  rw [hE.out]
  by_cases hb : bn = 0
  · have hr : E = ame := by rw [← hE.out]; unfold moB; rw [if_pos hb]
    subst hr
    subst hb
    clear hE
    go_enter Try.func53, Try.ntmps53
    go_upto_region 1 with fail
    rw [hw1.out, hw2.out]
    go_wp2_with fail
    go_ret
    exact ⟨rfl, B3.out⟩
  · have hb' : (bn == 0) = false := by simp [hb]
    by_cases ha : an = 0
    · have hr : E = bme := by rw [← hE.out]; unfold moB; rw [if_neg hb, if_pos ha]
      subst hr
      subst ha
      clear hE
      go_enter Try.func53, Try.ntmps53
      go_upto_region 1 with fail
      rw [hw1.out, hw2.out]
      go_wp2_with fail
      go_ret
      exact ⟨rfl, B3.out⟩
    · have ha' : (an == 0) = false := by simp [ha]
      obtain ⟨d, n1, e1, i1⟩ := sub2 bme ame w2
      obtain ⟨q, n2, e2, i2⟩ := div2 (nfB bn) (nfB (an + bn)) (w2.drewN n1)
      rw [World.drewN_drewN] at e2
      obtain ⟨m, n3, e3, i3⟩ := mul2 d q (w2.drewN (n1 + n2))
      rw [World.drewN_drewN] at e3
      obtain ⟨s, n4, e4, i4⟩ := add2 ame m (w2.drewN (n1 + n2 + n3))
      rw [World.drewN_drewN] at e4
      have hD := fun u => canon_any u s i4.lt
      have i5 : Is (Ieee.double.mul (subB bme ame) (divB (nfB bn) (nfB (an + bn)))) m := ⟨i3.1, by rw [i3.2, mul_same i1.c i2.c]; rfl⟩
      have hr : Hid (canonB s = E) := hide (by rw [← hE.out]; unfold moB; rw [if_neg hb, if_neg ha]; exact i4.add i5)
      rw [hr.out] at hD
      have c1 := conv_f bn
      have c2 := conv_u (an + bn)
      have k1 : IntKind.u64.wrap an = an := by simp [IntKind.wrap, IntKind.bits, IntKind.signed]; omega
      have k2 : IntKind.u64.wrap bn = bn := by simp [IntKind.wrap, IntKind.bits, IntKind.signed]; omega
      have k3 : IntKind.u64.wrap (an + bn) = an + bn := by simp [IntKind.wrap, IntKind.bits, IntKind.signed]; omega
      clear i1 i2 i3 i4 i5 hE hr
      go_enter Try.func53, Try.ntmps53
      go_upto_region 1 with fail
      rw [hw1.out, hw2.out]
      go_wp2_with (go_at_call 48; refine (hD _).mono ?_; rintro e w' ⟨rfl, hw⟩; rw [hw]; clear hw w')
      go_ret
      exact ⟨rfl, below_drewN B3.out _⟩
def Two (q : World) (p : Nat) (a b c : L) : Prop := Lx q p a ∧ Lx q (p + 1) b ∧ Lx q (p + 2) c
theorem Two.below {q q' : World} {p : Nat} {a b c : L} (h : Two q p a b c) (hb : Below q.heap.size q q') : Two q' p a b c := ⟨h.1.below hb, h.2.1.below hb, h.2.2.below hb⟩
set_option maxHeartbeats 1000000 in
theorem merged_any (w : World) (a b : L) (f1 : a.lo < 18446744073709551616) (f2 : a.hi < 18446744073709551616) (f3 : b.lo < 18446744073709551616) (f4 : b.hi < 18446744073709551616) (h1 : a.me < 18446744073709551616) (h2 : b.me < 18446744073709551616) (h3 : 0 ≤ a.n) (h4 : a.n ≤ 1000000000000) (h5 : 0 ≤ b.n) (h6 : b.n ≤ 1000000000000) (h7 : 0 ≤ a.na) (h8 : a.na ≤ 1000000000000) (h9 : 0 ≤ b.na) (h10 : b.na ≤ 1000000000000) : Calls Try.prog 42 #[a.val, b.val] w fun e w' => e = .returned (mergeL a b).val ∧ Below w.heap.size w w' := by
  have hM := hide (fun u => mean_any u a b h1 h2 h3 h4 h5 h6)
  have hEn := hide (fun u => ends_any u a b f1 f2 f3 f4)
  have hR : Hid (mergeL a b = ⟨a.n + b.n, a.na + b.na, (endsF a b).1, (endsF a b).2, moB a b⟩) := hide rfl
  obtain ⟨⟨c1, c2⟩, hE⟩ : ∃ E, Hid (endsF a b = E) := ⟨_, rfl⟩
  obtain ⟨m, hm⟩ : ∃ m, Hid (moB a b = m) := ⟨_, rfl⟩
  rw [hE.out] at hEn hR
  rw [hm.out] at hM hR
  rw [hR.out]
  obtain ⟨an, ana, alo, ahi, ame⟩ := a
  obtain ⟨bn, bna, blo, bhi, bme⟩ := b
  simp only at h3 h4 h5 h6 h7 h8 h9 h10 hM hEn
  unfold L.val at hM hEn ⊢
  simp only at hM hEn ⊢
  have B1 := box_below w (.cells #[.int .i64 an, .int .i64 ana, .float .f64 alo, .float .f64 ahi, .float .f64 ame] 44)
  have X1 := Lx.new w ⟨an, ana, alo, ahi, ame⟩
  simp only at X1
  obtain ⟨w1, hw1⟩ : ∃ w1, Hid (w.alloc (.cells #[.int .i64 an, .int .i64 ana, .float .f64 alo, .float .f64 ahi, .float .f64 ame] 44) = w1) := ⟨_, rfl⟩
  have B2 := box_below w1 (.cells #[.int .i64 bn, .int .i64 bna, .float .f64 blo, .float .f64 bhi, .float .f64 bme] 44)
  have X2 := Lx.new w1 ⟨bn, bna, blo, bhi, bme⟩
  simp only at X2
  rw [hw1.out] at X1 B1
  have hz : w1.heap.size = w.heap.size + 1 := by rw [← hw1.out]; simp
  rw [hz] at X2
  have X1' := X1.below B2
  obtain ⟨w2, hw2⟩ : ∃ w2, Hid (w1.alloc (.cells #[.int .i64 bn, .int .i64 bna, .float .f64 blo, .float .f64 bhi, .float .f64 bme] 44) = w2) := ⟨_, rfl⟩
  rw [hw2.out] at X2 B2 X1'
  have hz2 : w2.heap.size = w.heap.size + 2 := by rw [← hw2.out]; simp [hz]
  have B3 := box_below w2 (.cells #[.int .i64 0, .int .i64 0, .float .f64 0, .float .f64 0, .float .f64 0] 44)
  have X3 : Lx (w2.alloc (.cells #[.int .i64 0, .int .i64 0, .float .f64 0, .float .f64 0, .float .f64 0] 44)) w2.heap.size L0 := Lx.new w2 L0
  rw [hz2] at X3
  have T3 : Two _ w.heap.size ⟨an, ana, alo, ahi, ame⟩ ⟨bn, bna, blo, bhi, bme⟩ L0 := ⟨X1'.below B3, X2.below B3, X3⟩
  have B4 := keepF (keepF B1 B2) B3
  obtain ⟨w3, hw3⟩ : ∃ w3, Hid (w2.alloc (.cells #[.int .i64 0, .int .i64 0, .float .f64 0, .float .f64 0, .float .f64 0] 44) = w3) := ⟨_, rfl⟩
  rw [hw3.out] at T3 B4
  have HB := hide B4
  have HT := hide T3
  clear X1 X2 X1' X3 B1 B2 B3 B4 hz hz2
  obtain ⟨a0, a1, a2, a3, a4⟩ := T3.1.cells
  obtain ⟨b0, b1, b2, b3, b4⟩ := T3.2.1.cells
  simp only at a0 a1 a2 a3 a4 b0 b1 b2 b3 b4
  clear T3
  have sf : ∀ (W : World) (a : Addr) (x : Nat), (store a (.float .f64 x)).run Try.prog W = stored Try.prog W a (.float .f64 x) .plain := fun W a x => run_store _ W a _ _ rfl
  go_enter Try.func42, Try.ntmps42
  go_upto_region 1 with fail
  rw [hw1.out, hw2.out, hw3.out]
  go_wp2_with fail
  go_at_call 52
  refine (hEn.out _).mono ?_
  rintro e w4 ⟨rfl, b5⟩
  replace HT := hide (HT.out.below b5)
  replace HB := hide (keepF HB.out b5)
  clear b5 a0 a1 a2 a3 a4 b0 b1 b2 b3 b4 hw1 hw2 hw3 hEn hE hR hm
  go_upto_region 2 with fail
  obtain ⟨p, hp⟩ : ∃ p, Hid (w.heap.size = p) := ⟨_, rfl⟩
  rw [hp.out] at HT ⊢
  have KP : Hid (Two w4.drew p (⟨an, ana, alo, ahi, ame⟩ : L) (⟨bn, bna, blo, bhi, bme⟩ : L) L0) := HT.out.below (Below.refl _ _).drew
  have KB : Hid (Below w.heap.size w w4.drew) := HB.out.drew
  refine wp_region_T (fun q => Two q p (⟨an, ana, alo, ahi, ame⟩ : L) (⟨bn, bna, blo, bhi, bme⟩ : L) L0) 16 (by kernel_rfl) ?_
  clear HT HB
  generalize w4.drew = q at *
  refine wpAnyT_take (i := 0) (oi := { dst := some 13, op := Op.fieldAddr 44 (Operand.tmp 2) 0, type := 0, pos := "gauge.go:151", after := #[], guard := none }) (v := .pointer (some ⟨p, 0, none⟩)) [1, 4, 15, 16] rfl (by kernel_rfl) (by kernel_rfl) (by kernel_rfl) (by kernel_rfl) (fun _ _ _ h => h) (Or.inl ⟨by rfl, ?_⟩) KP.out ?_
  · intro wq hSw
    obtain ⟨y0, y1, y2, y3, y4⟩ := hSw.1.cells
    obtain ⟨z0, z1, z2, z3, z4⟩ := hSw.2.1.cells
    simp only at y0 y1 y2 y3 y4 z0 z1 z2 z3 z4
    go_simp
  (try simp only [Act.put, List.setIfInBounds_toArray, List.set_cons_zero, List.set_cons_succ])
  refine wpAnyT_take (i := 1) (oi := { dst := some 14, op := Op.load 2 (Operand.tmp 13), type := 2, pos := "gauge.go:151", after := #[{ on := 0, ground := Ground.data }], guard := none }) (v := .int .i64 an) [4, 15, 16] rfl (by kernel_rfl) (by kernel_rfl) (by kernel_rfl) (by kernel_rfl) (fun _ _ _ h => h) (Or.inl ⟨by rfl, ?_⟩) KP.out ?_
  · intro wq hSw
    obtain ⟨y0, y1, y2, y3, y4⟩ := hSw.1.cells
    obtain ⟨z0, z1, z2, z3, z4⟩ := hSw.2.1.cells
    simp only at y0 y1 y2 y3 y4 z0 z1 z2 z3 z4
    go_simp
  (try simp only [Act.put, List.setIfInBounds_toArray, List.set_cons_zero, List.set_cons_succ])
  refine wpAnyT_take (i := 2) (oi := { dst := some 15, op := Op.fieldAddr 44 (Operand.tmp 3) 0, type := 0, pos := "gauge.go:151", after := #[], guard := none }) (v := .pointer (some ⟨p + 1, 0, none⟩)) [3, 4, 15, 16] rfl (by kernel_rfl) (by kernel_rfl) (by kernel_rfl) (by kernel_rfl) (fun _ _ _ h => h) (Or.inl ⟨by rfl, ?_⟩) KP.out ?_
  · intro wq hSw
    obtain ⟨y0, y1, y2, y3, y4⟩ := hSw.1.cells
    obtain ⟨z0, z1, z2, z3, z4⟩ := hSw.2.1.cells
    simp only at y0 y1 y2 y3 y4 z0 z1 z2 z3 z4
    go_simp
  (try simp only [Act.put, List.setIfInBounds_toArray, List.set_cons_zero, List.set_cons_succ])
  refine wpAnyT_take (i := 3) (oi := { dst := some 16, op := Op.load 2 (Operand.tmp 15), type := 2, pos := "gauge.go:151", after := #[{ on := 2, ground := Ground.data }], guard := none }) (v := .int .i64 bn) [4, 15, 16] rfl (by kernel_rfl) (by kernel_rfl) (by kernel_rfl) (by kernel_rfl) (fun _ _ _ h => h) (Or.inl ⟨by rfl, ?_⟩) KP.out ?_
  · intro wq hSw
    obtain ⟨y0, y1, y2, y3, y4⟩ := hSw.1.cells
    obtain ⟨z0, z1, z2, z3, z4⟩ := hSw.2.1.cells
    simp only at y0 y1 y2 y3 y4 z0 z1 z2 z3 z4
    go_simp
  (try simp only [Act.put, List.setIfInBounds_toArray, List.set_cons_zero, List.set_cons_succ])
  refine wpAnyT_take (i := 5) (oi := { dst := some 18, op := Op.fieldAddr 44 (Operand.tmp 2) 1, type := 0, pos := "gauge.go:151", after := #[], guard := none }) (v := .pointer (some ⟨p, 1, none⟩)) [6, 9, 15, 16] rfl (by kernel_rfl) (by kernel_rfl) (by kernel_rfl) (by kernel_rfl) (fun _ _ _ h => h) (Or.inl ⟨by rfl, ?_⟩) KP.out ?_
  · intro wq hSw
    obtain ⟨y0, y1, y2, y3, y4⟩ := hSw.1.cells
    obtain ⟨z0, z1, z2, z3, z4⟩ := hSw.2.1.cells
    simp only at y0 y1 y2 y3 y4 z0 z1 z2 z3 z4
    go_simp
  (try simp only [Act.put, List.setIfInBounds_toArray, List.set_cons_zero, List.set_cons_succ])
  refine wpAnyT_take (i := 6) (oi := { dst := some 19, op := Op.load 2 (Operand.tmp 18), type := 2, pos := "gauge.go:151", after := #[{ on := 5, ground := Ground.data }], guard := none }) (v := .int .i64 ana) [9, 15, 16] rfl (by kernel_rfl) (by kernel_rfl) (by kernel_rfl) (by kernel_rfl) (fun _ _ _ h => h) (Or.inl ⟨by rfl, ?_⟩) KP.out ?_
  · intro wq hSw
    obtain ⟨y0, y1, y2, y3, y4⟩ := hSw.1.cells
    obtain ⟨z0, z1, z2, z3, z4⟩ := hSw.2.1.cells
    simp only at y0 y1 y2 y3 y4 z0 z1 z2 z3 z4
    go_simp
  (try simp only [Act.put, List.setIfInBounds_toArray, List.set_cons_zero, List.set_cons_succ])
  refine wpAnyT_take (i := 7) (oi := { dst := some 20, op := Op.fieldAddr 44 (Operand.tmp 3) 1, type := 0, pos := "gauge.go:151", after := #[], guard := none }) (v := .pointer (some ⟨p + 1, 1, none⟩)) [8, 9, 15, 16] rfl (by kernel_rfl) (by kernel_rfl) (by kernel_rfl) (by kernel_rfl) (fun _ _ _ h => h) (Or.inl ⟨by rfl, ?_⟩) KP.out ?_
  · intro wq hSw
    obtain ⟨y0, y1, y2, y3, y4⟩ := hSw.1.cells
    obtain ⟨z0, z1, z2, z3, z4⟩ := hSw.2.1.cells
    simp only at y0 y1 y2 y3 y4 z0 z1 z2 z3 z4
    go_simp
  (try simp only [Act.put, List.setIfInBounds_toArray, List.set_cons_zero, List.set_cons_succ])
  refine wpAnyT_take (i := 8) (oi := { dst := some 21, op := Op.load 2 (Operand.tmp 20), type := 2, pos := "gauge.go:151", after := #[{ on := 7, ground := Ground.data }], guard := none }) (v := .int .i64 bna) [9, 15, 16] rfl (by kernel_rfl) (by kernel_rfl) (by kernel_rfl) (by kernel_rfl) (fun _ _ _ h => h) (Or.inl ⟨by rfl, ?_⟩) KP.out ?_
  · intro wq hSw
    obtain ⟨y0, y1, y2, y3, y4⟩ := hSw.1.cells
    obtain ⟨z0, z1, z2, z3, z4⟩ := hSw.2.1.cells
    simp only at y0 y1 y2 y3 y4 z0 z1 z2 z3 z4
    go_simp
  (try simp only [Act.put, List.setIfInBounds_toArray, List.set_cons_zero, List.set_cons_succ])
  refine wpAnyT_take (i := 10) (oi := { dst := some 23, op := Op.move (Operand.tmp 5), type := 26, pos := "gauge.go:151", after := #[], guard := none }) (v := .float .f64 c1) [15, 16] rfl (by kernel_rfl) (by kernel_rfl) (by kernel_rfl) (by kernel_rfl) (fun _ _ _ h => h) (Or.inl ⟨by rfl, ?_⟩) KP.out ?_
  · intro wq hSw
    obtain ⟨y0, y1, y2, y3, y4⟩ := hSw.1.cells
    obtain ⟨z0, z1, z2, z3, z4⟩ := hSw.2.1.cells
    simp only at y0 y1 y2 y3 y4 z0 z1 z2 z3 z4
    go_simp
  (try simp only [Act.put, List.setIfInBounds_toArray, List.set_cons_zero, List.set_cons_succ])
  refine wpAnyT_take (i := 11) (oi := { dst := some 24, op := Op.move (Operand.tmp 6), type := 26, pos := "gauge.go:151", after := #[], guard := none }) (v := .float .f64 c2) [15, 16] rfl (by kernel_rfl) (by kernel_rfl) (by kernel_rfl) (by kernel_rfl) (fun _ _ _ h => h) (Or.inl ⟨by rfl, ?_⟩) KP.out ?_
  · intro wq hSw
    obtain ⟨y0, y1, y2, y3, y4⟩ := hSw.1.cells
    obtain ⟨z0, z1, z2, z3, z4⟩ := hSw.2.1.cells
    simp only at y0 y1 y2 y3 y4 z0 z1 z2 z3 z4
    go_simp
  (try simp only [Act.put, List.setIfInBounds_toArray, List.set_cons_zero, List.set_cons_succ])
  refine wpAnyT_take (i := 12) (oi := { dst := some 25, op := Op.load 44 (Operand.tmp 2), type := 44, pos := "gauge.go:151", after := #[], guard := none }) (v := .agg #[.int .i64 an, .int .i64 ana, .float .f64 alo, .float .f64 ahi, .float .f64 ame]) [14, 15, 16] rfl (by kernel_rfl) (by kernel_rfl) (by kernel_rfl) (by kernel_rfl) (fun _ _ _ h => h) (Or.inl ⟨by rfl, ?_⟩) KP.out ?_
  · intro wq hSw
    obtain ⟨y0, y1, y2, y3, y4⟩ := hSw.1.cells
    obtain ⟨z0, z1, z2, z3, z4⟩ := hSw.2.1.cells
    simp only at y0 y1 y2 y3 y4 z0 z1 z2 z3 z4
    go_simp
  (try simp only [Act.put, List.setIfInBounds_toArray, List.set_cons_zero, List.set_cons_succ])
  refine wpAnyT_take (i := 13) (oi := { dst := some 26, op := Op.load 44 (Operand.tmp 3), type := 44, pos := "gauge.go:151", after := #[], guard := none }) (v := .agg #[.int .i64 bn, .int .i64 bna, .float .f64 blo, .float .f64 bhi, .float .f64 bme]) [14, 15, 16] rfl (by kernel_rfl) (by kernel_rfl) (by kernel_rfl) (by kernel_rfl) (fun _ _ _ h => h) (Or.inl ⟨by rfl, ?_⟩) KP.out ?_
  · intro wq hSw
    obtain ⟨y0, y1, y2, y3, y4⟩ := hSw.1.cells
    obtain ⟨z0, z1, z2, z3, z4⟩ := hSw.2.1.cells
    simp only at y0 y1 y2 y3 y4 z0 z1 z2 z3 z4
    go_simp
  (try simp only [Act.put, List.setIfInBounds_toArray, List.set_cons_zero, List.set_cons_succ])
  refine wpAnyT_one (i := 4) (o := { dst := some 17, op := Op.call { callee := Callee.value (Operand.func 33), args := #[Operand.tmp 14, Operand.tmp 16], argTypes := #[2, 2] }, type := 2, pos := "gauge.go:152", after := #[{ on := 1, ground := Ground.data }, { on := 3, ground := Ground.data }], guard := none }) (by kernel_rfl) rfl (fun K hK => ?_)
  go_simp
  go_at_call 33
  refine (more_any _ an bn h3 (by omega) h5 (by omega)).mono ?_
  rintro e w1 ⟨rfl, hw⟩
  rw [hw]
  clear hw w1
  (try go_simp)
  refine hK.out _ _ (fun _ => KP.out) ?_
  clear hK K
  (try simp only [Act.put, List.setIfInBounds_toArray, List.set_cons_zero, List.set_cons_succ])
  refine wpAnyT_one (i := 9) (o := { dst := some 22, op := Op.call { callee := Callee.value (Operand.func 33), args := #[Operand.tmp 19, Operand.tmp 21], argTypes := #[2, 2] }, type := 2, pos := "gauge.go:153", after := #[{ on := 6, ground := Ground.data }, { on := 8, ground := Ground.data }, { on := 4, ground := Ground.chain }], guard := none }) (by kernel_rfl) rfl (fun K hK => ?_)
  go_simp
  go_at_call 33
  refine (more_any _ ana bna h7 (by omega) h9 (by omega)).mono ?_
  rintro e w1 ⟨rfl, hw⟩
  rw [hw]
  clear hw w1
  (try go_simp)
  refine hK.out _ _ (fun _ => KP.out) ?_
  clear hK K
  (try simp only [Act.put, List.setIfInBounds_toArray, List.set_cons_zero, List.set_cons_succ])
  refine wpAnyT_one (i := 14) (o := { dst := some 27, op := Op.call { callee := Callee.value (Operand.func 53), args := #[Operand.tmp 25, Operand.tmp 26], argTypes := #[44, 44] }, type := 26, pos := "gauge.go:156", after := #[{ on := 12, ground := Ground.data }, { on := 13, ground := Ground.data }, { on := 9, ground := Ground.chain }], guard := none }) (by kernel_rfl) rfl (fun K hK => ?_)
  go_simp
  go_at_call 53
  refine (hM.out _).mono ?_
  rintro e w5 ⟨rfl, b5⟩
  have K5 := hide (KP.out.below b5)
  have KB5 := hide (keepF KB.out b5)
  (try go_simp)
  refine hK.out _ _ (fun _ => K5.out) ?_
  clear hK K b5 KP KB
  (try simp only [Act.put, List.setIfInBounds_toArray, List.set_cons_zero, List.set_cons_succ])
  refine wpAnyT_one (i := 15) (o := { dst := some 28, op := Op.build 44 #[(0, Operand.tmp 17), (1, Operand.tmp 22), (2, Operand.tmp 23), (3, Operand.tmp 24), (4, Operand.tmp 27)], type := 44, pos := "gauge.go:151", after := #[{ on := 4, ground := Ground.data }, { on := 9, ground := Ground.data }, { on := 10, ground := Ground.data }, { on := 11, ground := Ground.data }, { on := 14, ground := Ground.data }], guard := none }) (by kernel_rfl) rfl (fun K hK => ?_)
  go_simp
  refine hK.out _ _ (fun _ => K5.out) ?_
  clear hK K
  (try simp only [Act.put, List.setIfInBounds_toArray, List.set_cons_zero, List.set_cons_succ])
  have X5 := K5.out.2.2
  obtain ⟨s0, s1, s2, s3, s4⟩ := X5.cells
  have y0 := X5.frozen 0
  have y1 := X5.frozen 1
  have y2 := X5.frozen 2
  have y3 := X5.frozen 3
  have y4 := X5.frozen 4
  have FIN := hide (X5.all (an + bn) (ana + bna) c1 c2 m)
  have FB := hide (below_all KB5.out (p + 2) (by have := hp.out; omega) 0 (.int .i64 (an + bn)) (.int .i64 (ana + bna)) (.float .f64 c1) (.float .f64 c2) (.float .f64 m))
  clear X5
  refine wpAnyT_one (i := 16) (o := { dst := none, op := Op.store 44 (Operand.tmp 4) (Operand.tmp 28), type := 0, pos := "gauge.go:151", after := #[{ on := 15, ground := Ground.data }, { on := 14, ground := Ground.chain }, { on := 0, ground := Ground.phase }, { on := 1, ground := Ground.phase }, { on := 2, ground := Ground.phase }, { on := 3, ground := Ground.phase }, { on := 4, ground := Ground.phase }, { on := 5, ground := Ground.phase }, { on := 6, ground := Ground.phase }, { on := 7, ground := Ground.phase }, { on := 8, ground := Ground.phase }, { on := 9, ground := Ground.phase }, { on := 10, ground := Ground.phase }, { on := 11, ground := Ground.phase }, { on := 12, ground := Ground.phase }, { on := 13, ground := Ground.phase }, { on := 14, ground := Ground.phase }, { on := 15, ground := Ground.phase }], guard := none }) (by kernel_rfl) rfl (fun K hK => ?_)
  go_simp
  refine hK.out _ _ (vac (by kernel_rfl)) ?_
  clear hK K
  (try simp only [Act.put, List.setIfInBounds_toArray, List.set_cons_zero, List.set_cons_succ])
  refine wpAnyT_done (by kernel_rfl) ?_ _
  go_wp2_with fail
  try simp only [Exit.inBlock, Exit.then]
  refine bodyPost_ret (v := .agg _) (results_cell_row rfl _ _ (p + 2) 44 _ (0, 0) _ rfl FIN.out Try.underlying44 rfl lookSize) rfl ?_
  exact ⟨rfl, FB.out⟩
end Go.Proofs.Ytjkdhckhokkefaa.Gg

/-
  Merge of the gauge. (gen_GgN.py)
-/
namespace Go.Proofs.Ytjkdhckhokkefaa.Gg
open Go.RowKit Rl
open Ix (wp_region_T wpAnyT wpAnyT_take wpAnyT_one wpAnyT_done vac)
set_option linter.unusedVariables false
set_option maxRecDepth 100000
/-- Are two lists of bounds the same, one by one? -/
def sameL (l m : List Nat) : Prop := l.length = m.length ∧ ∀ i, i < l.length → keyB (l.getD i 0) = keyB (m.getD i 0)
/-- A list of one's own, as it is read. -/
theorem Fw.reads {B : Nat} {w : World} {v : Value} {l : List Nat} (h : Fw B w v l) : ∃ ao ca, v = .slice ao l.length ca ∧ ca ≤ 9223372036854775807 ∧ ∀ i, i < l.length → ∃ bb, ao = some ⟨bb, 0, none⟩ ∧ w.cell? ⟨bb, i, none⟩ = some (.float .f64 (l.getD i 0)) := by
  by_cases hl : l.length = 0
  · rcases h.2 with ⟨e, _⟩ | ⟨g', cap, cur, e, _, _, _, hm, _⟩
    · exact ⟨none, 0, by rw [e, hl], by omega, fun i hi => by omega⟩
    · exact ⟨_, cap, e, by unfold maxLen at hm; omega, fun i hi => by omega⟩
  · obtain ⟨bb, ca, e, h1, _, _, hc⟩ := Fw.at h (by omega)
    exact ⟨_, ca, e, h1, fun i hi => ⟨bb, rfl, hc i hi⟩⟩
theorem eqf_any (w : World) (v v' : Value) (l m : List Nat) (h : Fw 0 w v l) (h' : Fw 0 w v' m) (hb : Bs l) (hb' : Bs m) (hl : l.length ≤ 64) (hl' : m.length ≤ 64) :
    Calls Try.prog 40 #[v, v', .func (.func 41) #[] #[]] w fun e w' => w' = w ∧ ((e = .returned (.bool true) ∧ sameL l m) ∨ (e = .returned (.bool false) ∧ ¬ sameL l m)) := by
  obtain ⟨ao, ca, rfl, q1, hc⟩ := h.reads
  obtain ⟨ao', ca', rfl, q1', hc'⟩ := h'.reads
  have HC := hide hc
  have HC' := hide hc'
  have HB := hide (fun j (hj : j < l.length) => hb _ (getD_mem hj))
  have HB' := hide (fun j (hj : j < m.length) => hb' _ (getD_mem hj))
  by_cases hlm : l.length = m.length
  · have HS : Hid (∀ P : Prop, (P ↔ ∀ i, i < l.length → keyB (l.getD i 0) = keyB (m.getD i 0)) → (P ↔ sameL l m)) := hide fun P hP => by rw [hP]; unfold sameL; exact ⟨fun h => ⟨hlm, h⟩, fun h => h.2⟩
    rw [← hlm] at HC' HB' ⊢
    obtain ⟨N, hN⟩ : ∃ N, Hid (l.length = N) := ⟨_, rfl⟩
    rw [hN.out] at HC HC' HB HB' HS hl ⊢
    clear hc hc' h h' hb hb' hlm hl'
    go_enter Try.func40, Try.ntmps40
    go_wp2_with fail
    go_loopw [17] (fun v17 wr => ∃ i : Nat, i ≤ N ∧ v17 = .int .i64 (i : Int) ∧ Hid (∀ j, j < i → keyB (l.getD j 0) = keyB (m.getD j 0)) ∧ wr = w) (fun v _ => N - (intOf v).toNat)
    case atStart => exact ⟨0, by omega, rfl, fun j hj => by omega, rfl⟩
    case round =>
      obtain ⟨i, hi, rfl, hf, hwr⟩ := hrel
      subst hwr
      by_cases hin : i = N
      · subst hin
        have FIN : Hid (sameL l m) := hide ((HS.out _ Iff.rfl).1 hf.out)
        go_wp2
        go_ret
        exact ⟨rfl, .inl ⟨rfl, FIN.out⟩⟩
      · have hil : i < N := by omega
        obtain ⟨bb, rfl, hcx⟩ := HC.out i hil
        obtain ⟨bb', rfl, hcy⟩ := HC'.out i hil
        have hx := HB.out i hil
        have hy := HB'.out i hil
        have i1 : (i : Int) < (N : Int) := by omega
        have i2 : (0 : Int) ≤ (i : Int) := by omega
        obtain ⟨x, hxx⟩ : ∃ x, Hid (l.getD i 0 = x) := ⟨_, rfl⟩
        obtain ⟨y, hyy⟩ : ∃ y, Hid (m.getD i 0 = y) := ⟨_, rfl⟩
        rw [hxx.out] at hcx hx
        rw [hyy.out] at hcy hy
        have hS := fun u => same_any u x y hx hy
        by_cases hk : keyB x = keyB y
        · rw [decide_eq_true hk] at hS
          have hn : Hid (keyB (l.getD i 0) = keyB (m.getD i 0)) := hide (by rw [hxx.out, hyy.out]; exact hk)
          go_wp2_with (go_at_call 41; refine (hS _).mono ?_; rintro e w' ⟨rfl, hw⟩; rw [hw]; clear hw w')
          go_roundw
          case rel => exact ⟨i + 1, by omega, by go_num, fun j hj => by
            by_cases e : j = i
            · rw [e]; exact hn.out
            · exact hf.out j (by omega), by trivial⟩
          case measure => simp [intOf]; omega
        · rw [decide_eq_false hk] at hS
          have hn : Hid (¬ sameL l m) := hide fun h => hk (by have := h.2 i (by rw [hN.out]; exact hil); rwa [hxx.out, hyy.out] at this)
          go_wp2_with (go_at_call 41; refine (hS _).mono ?_; rintro e w' ⟨rfl, hw⟩; rw [hw]; clear hw w')
          go_ret
          exact ⟨rfl, .inr ⟨rfl, hn.out⟩⟩
  · have hn : Hid (¬ sameL l m) := hide fun h => hlm h.1
    have k : ((l.length : Int) == (m.length : Int)) = false := by simp; omega
    have k' : ¬ l.length = m.length := hlm
    clear hc hc' h h' hb hb'
    go_enter Try.func40, Try.ntmps40
    go_wp2_with fail
    go_ret
    exact ⟨rfl, .inr ⟨rfl, hn.out⟩⟩
/-- Cells added. -/
def addL (a b : List Int) : List Int := List.zipWith (· + ·) a b
/-- Behind i steps. -/
def mixL (a b : List Int) (i : Nat) : List Int := addL (a.take i) (b.take i) ++ a.drop i
def mgF (g o : G) : G := ⟨g.bs, addL g.cs o.cs, mergeL g.l o.l⟩
theorem mix_zero (a b : List Int) : mixL a b 0 = a := by simp [mixL, addL]
theorem mix_len (a b : List Int) (h : a.length = b.length) (i : Nat) : (mixL a b i).length = a.length := by
  simp [mixL, addL]
  omega
theorem mix_end (a b : List Int) (h : a.length = b.length) : mixL a b a.length = addL a b := by
  unfold mixL
  rw [List.take_length, h, List.take_length, ← h, List.drop_length, List.append_nil]
theorem mix_get (a b : List Int) (h : a.length = b.length) (i : Nat) (hi : i < a.length) : (mixL a b i).getD i 0 = a.getD i 0 := by
  unfold mixL
  have hl : (addL (a.take i) (b.take i)).length = i := by simp [addL]; omega
  simp [List.getElem?_append, hl, hi]
theorem mix_step (a b : List Int) (h : a.length = b.length) (i : Nat) (hi : i < a.length) : (mixL a b i).set i (a.getD i 0 + b.getD i 0) = mixL a b (i + 1) := by
  unfold mixL
  have hl : (addL (a.take i) (b.take i)).length = i := by simp [addL]; omega
  rw [List.set_append_right _ _ (by omega), hl, Nat.sub_self, List.drop_eq_getElem_cons hi, List.set_cons_zero, List.take_succ_eq_append_getElem hi, List.take_succ_eq_append_getElem (by omega : i < b.length)]
  unfold addL
  rw [List.zipWith_append (by simp; omega), List.append_assoc]
  simp [hi, show i < b.length by omega]
theorem Ok.merge {M M' : Int} {g o : G} (h : Ok M g) (k : Ok M' o) (hs : g.bs.length = o.bs.length) : Ok (M + M') (mgF g o) := by
  have h1 := h.n
  have h2 := k.n
  have h3 := h.na
  have h4 := k.na
  have hl := ends_lt h.lo h.hi k.lo k.hi
  refine ⟨h.len, by simp [mgF, addL, h.cl, k.cl, hs], h.bs, h.rs, fun c hc => ?_, ?_, ?_, hl.1, hl.2, ?_⟩
  · simp only [mgF, addL] at hc
    obtain ⟨i, hi, rfl⟩ := List.getElem_of_mem hc
    rw [List.getElem_zipWith]
    have a := h.cs _ (List.getElem_mem (l := g.cs) (n := i) (by simp at hi; omega))
    have b := k.cs _ (List.getElem_mem (l := o.cs) (n := i) (by simp at hi; omega))
    omega
  · show 0 ≤ g.l.n + o.l.n ∧ g.l.n + o.l.n ≤ M + M'; omega
  · show 0 ≤ g.l.na + o.l.na ∧ g.l.na + o.l.na ≤ M + M'; omega
  · show moB g.l o.l < _
    unfold moB
    split
    · exact h.me
    · split
      · exact k.me
      · exact add_lt _ _
end Go.Proofs.Ytjkdhckhokkefaa.Gg

/-
  Merge of the gauge: its walk. (gen_GgO.py)
-/
namespace Go.Proofs.Ytjkdhckhokkefaa.Gg
open Go.RowKit Rl
open Ix (wp_region_T wpAnyT wpAnyT_take wpAnyT_one wpAnyT_done vac)
set_option linter.unusedVariables false
set_option maxRecDepth 100000
/-- A block that holds what a gauge is, but for its cells. -/
def Bo (T : TypeId) (w : World) (b : Nat) (l : L) (vb vc : Value) : Prop := w.heap[b]? = some (.cells #[vb, vc, .int .i64 l.n, .int .i64 l.na, .float .f64 l.lo, .float .f64 l.hi, .float .f64 l.me] T (0, 0))
theorem At.bo {T : TypeId} {w : World} {b : Nat} {g : G} {vb vc : Value} (h : At T w b g vb vc) : Bo T w b g.l vb vc := h.box
theorem Bo.cells {T : TypeId} {w : World} {b : Nat} {l : L} {vb vc : Value} (h : Bo T w b l vb vc) : w.cell? ⟨b, 0, none⟩ = some vb ∧ w.cell? ⟨b, 1, none⟩ = some vc ∧ w.cell? ⟨b, 2, none⟩ = some (.int .i64 l.n) ∧ w.cell? ⟨b, 3, none⟩ = some (.int .i64 l.na) ∧ w.cell? ⟨b, 4, none⟩ = some (.float .f64 l.lo) ∧ w.cell? ⟨b, 5, none⟩ = some (.float .f64 l.hi) ∧ w.cell? ⟨b, 6, none⟩ = some (.float .f64 l.me) := by
  unfold Bo at h
  refine ⟨?_, ?_, ?_, ?_, ?_, ?_, ?_⟩ <;> (rw [cell_of h]; rfl)
theorem cell_set_ne {w : World} {cb i ob j : Nat} {cur : Array Value} {T : TypeId} (v : Value) (hne : j ≠ i) (hh : w.heap[cb]? = some (.cells cur T (0, 0))) : (w.setCell ⟨cb, i, none⟩ v).cell? ⟨ob, j, none⟩ = w.cell? ⟨ob, j, none⟩ := by
  by_cases e : ob = cb
  · subst e
    rw [cell_of hh, cell_of (heap_setCell_same w ob i _ _ v hh), Array.getElem?_setIfInBounds_ne (by omega)]
  · exact World.cell?_of_block (w := w) (set_block w cb i ob v e)
/-- Between the rounds: how far the cells of o have been added. -/
structure Mg (T : TypeId) (w wr : World) (b : Nat) (g : G) (vb : Value) (cb K ca : Nat) (b2 : Nat) (o : G) (vb2 : Value) (ob ca2 : Nat) (i : Nat) : Prop where
  at_ : At T wr b ⟨g.bs, mixL g.cs o.cs i, g.l⟩ vb (.slice (some ⟨cb, 0, none⟩) K ca)
  bo : Bo T wr b2 o.l vb2 (.slice (some ⟨ob, 0, none⟩) K ca2)
  left : ∀ j, i ≤ j → j < K → wr.cell? ⟨ob, j, none⟩ = some (.int .i64 (o.cs.getD j 0))
  but : But (Tur b (.slice (some ⟨cb, 0, none⟩) K ca)) w wr
theorem Mg.drewN {T : TypeId} {w wr : World} {b : Nat} {g : G} {vb : Value} {cb K ca : Nat} {b2 : Nat} {o : G} {vb2 : Value} {ob ca2 i : Nat} (h : Mg T w wr b g vb cb K ca b2 o vb2 ob ca2 i) : Mg T w wr.drew b g vb cb K ca b2 o vb2 ob ca2 i :=
  ⟨h.at_.below (Below.refl _ _).drew, h.bo, h.left, h.but.trans (But.of_below (Below.refl _ _).drew _)⟩
theorem Mg.step {T : TypeId} {w wr : World} {b : Nat} {g : G} {vb : Value} {cb K ca : Nat} {b2 : Nat} {o : G} {vb2 : Value} {ob ca2 i : Nat} (h : Mg T w wr b g vb cb K ca b2 o vb2 ob ca2 i) (hT : T ≠ 2) (hg : g.cs.length = K) (ho : o.cs.length = K) (hi : i < K) : Mg T w (wr.setCell ⟨cb, i, none⟩ (.int .i64 (g.cs.getD i 0 + o.cs.getD i 0))) b g vb cb K ca b2 o vb2 ob ca2 (i + 1) := by
  have h1 := h.at_.cset hT i (g.cs.getD i 0 + o.cs.getD i 0)
  simp only at h1
  rw [mix_step g.cs o.cs (by omega) i (by omega)] at h1
  have hn : (Value.slice (some ⟨cb, 0, none⟩) K ca).ownBlock ≠ some b2 := owns_no h.at_.rc h.bo hT
  obtain ⟨b', ca', cur, e, _, _, _, hh, _⟩ := Iw.at h.at_.rc (by rw [mix_len _ _ (by omega)]; omega)
  simp at e
  obtain ⟨rfl, _, _⟩ := e
  refine ⟨h1, (set_block wr cb i b2 _ (fun e => hn (by rw [e]; rfl))).trans h.bo, fun j hj hjK => ?_, h.but.trans (but_cell _ _ _ _ (.inr rfl))⟩
  rw [cell_set_ne _ (by omega) hh]
  exact h.left j (by omega) hjK
theorem Mg.start {T : TypeId} {w : World} {b : Nat} {g : G} {vb : Value} {cb K ca : Nat} {b2 : Nat} {o : G} {vb2 : Value} {ob ca2 : Nat} (h : At T w b g vb (.slice (some ⟨cb, 0, none⟩) K ca)) (h2 : At T w b2 o vb2 (.slice (some ⟨ob, 0, none⟩) K ca2)) (ho : o.cs.length = K) : Mg T w w b g vb cb K ca b2 o vb2 ob ca2 0 :=
  ⟨by rw [mix_zero]; exact h, h2.bo, fun j _ hj => h2.cell j (by omega), But.refl _ _⟩
end Go.Proofs.Ytjkdhckhokkefaa.Gg

/-
  Merge of the gauge. (gen_GgP.py)
-/
namespace Go.Proofs.Ytjkdhckhokkefaa.Gg
open Go.RowKit Rl
open Ix (wp_region_T wpAnyT wpAnyT_take wpAnyT_one wpAnyT_done vac)
set_option linter.unusedVariables false
set_option maxRecDepth 100000
theorem Iw.form {B : Nat} {w : World} {v : Value} {l : List Int} (h : Iw B w v l) (hl : 0 < l.length) : ∃ cb ca, v = .slice (some ⟨cb, 0, none⟩) l.length ca ∧ ca ≤ 9223372036854775807 ∧ l.length ≤ ca := by
  obtain ⟨cb, ca, cur, e, h1, h2, _⟩ := Iw.at h hl
  exact ⟨cb, ca, e, h1, h2⟩
set_option maxHeartbeats 1000000 in
theorem merge_any (w : World) (b : Nat) (g : G) (vb vc : Value) (b2 : Nat) (o : G) (vb2 vc2 : Value) (M : Int) (h : At 64 w b g vb vc) (h2 : At 64 w b2 o vb2 vc2) (ok : Ok M g) (ok2 : Ok M o) (hM : M ≤ 1000000000) :
    Calls Try.prog 15 #[.pointer (some ⟨b, 0, none⟩), .pointer (some ⟨b2, 0, none⟩)] w fun e w' => (sameL g.bs o.bs ∧ e = .returned (.int .i64 0) ∧ At 64 w' b (mgF g o) vb vc ∧ But (Tur b vc) w w') ∨ (¬ sameL g.bs o.bs ∧ e = .returned (.int .i64 1) ∧ Below w.heap.size w w') := by
  have hcl : 0 < g.cs.length := by rw [ok.cl]; omega
  have hcl2 : 0 < o.cs.length := by rw [ok2.cl]; omega
  have hm : Hid (∀ (n : Nat) (k : Nat), (k = b ∨ k = b2) → Calls Try.prog 32 #[.pointer (some ⟨k, 0, none⟩)] (w.drewN n) fun e w' => e = .returned (.bool true) ∧ w' = w.drewN n) := hide fun n k hk => by
    rcases hk with rfl | rfl
    · exact made_any _ _ g vb vc (h.below (below_drewN (Below.refl _ _) n)) hcl
    · exact made_any _ _ o vb2 vc2 (h2.below (below_drewN (Below.refl _ _) n)) hcl2
  have he := hide (fun n => eqf_any (w.drewN n) vb vb2 g.bs o.bs (h.below (below_drewN (Below.refl _ _) n)).rb (h2.below (below_drewN (Below.refl _ _) n)).rb ok.bs ok2.bs ok.len ok2.len)
  obtain ⟨c0, c1, c2, c3, c4, c5, c6⟩ := h.cells
  obtain ⟨d0, d1, d2, d3, d4, d5, d6⟩ := h2.cells
  obtain ⟨xo, xn, xc, rfl⟩ := owns_form h.rb
  obtain ⟨zo, zn, zc, rfl⟩ := owns_form h2.rb
  by_cases hs : sameL g.bs o.bs
  · have hEq : Hid (∀ n, Calls Try.prog 40 #[.slice xo xn xc, .slice zo zn zc, .func (.func 41) #[] #[]] (w.drewN n) fun e w' => e = .returned (.bool true) ∧ w' = w.drewN n) := hide fun n => (he.out n).mono fun e w' hh => by
      obtain ⟨hw, ⟨a, _⟩ | ⟨_, a⟩⟩ := hh
      · exact ⟨a, hw⟩
      · exact absurd hs a
    obtain ⟨cb, ca, rfl, p1, p2⟩ := Iw.form h.rc hcl
    obtain ⟨ob, ca2, rfl, r1, r2⟩ := Iw.form h2.rc hcl2
    have hoK : o.cs.length = g.cs.length := by rw [ok.cl, ok2.cl, hs.1]
    rw [hoK] at h2 d1 r2
    obtain ⟨K, hK⟩ : ∃ K, Hid (g.cs.length = K) := ⟨_, rfl⟩
    rw [hK.out] at h h2 c1 d1 p2 r2 hcl hoK ⊢
    have HG := hide (Mg.start h h2 hoK)
    have HK := hide hoK
    have HC := hide (fun i (hi : i < K) => ok.cs _ (getI_mem (show i < g.cs.length by rw [hK.out]; exact hi)))
    have HC2 := hide (fun i (hi : i < K) => ok2.cs _ (getI_mem (show i < o.cs.length by rw [hoK]; exact hi)))
    have hmd := hide (fun u => merged_any u g.l o.l ok.lo ok.hi ok2.lo ok2.hi ok.me ok2.me ok.n.1 (by have := ok.n.2; omega) ok2.n.1 (by have := ok2.n.2; omega) ok.na.1 (by have := ok.na.2; omega) ok2.na.1 (by have := ok2.na.2; omega))
    have hFin : Hid (∀ l', l' = mergeL g.l o.l → (⟨g.bs, mixL g.cs o.cs K, l'⟩ : G) = mgF g o) := hide fun l' e => by
      rw [e, ← hK.out, mix_end _ _ (by rw [hoK, hK.out])]
      rfl
    have HS := hide hs
    have hK64 : K ≤ 65 := by rw [← hK.out, ok.cl]; have := ok.len; omega
    have sf : ∀ (W : World) (a : Addr) (x : Nat), (store a (.float .f64 x)).run Try.prog W = stored Try.prog W a (.float .f64 x) .plain := fun W a x => run_store _ W a _ _ rfl
    clear h h2 ok ok2 hs he hcl2 hoK
    go_enter Try.func15, Try.ntmps15
    go_upto_region 1 with fail
    go_quiet (first | (go_at_call 32; exact Calls.quiet_of_same (hm.out _ _ (by first | exact .inl rfl | exact .inr rfl))) | (go_at_call 40; exact Calls.quiet_of_same (hEq.out _)))
    have G1 : Hid (Mg 64 w (w.drewN nq) b g (.slice xo xn xc) cb K ca b2 o (.slice zo zn zc) ob ca2 0) := hide ⟨HG.out.at_.below (below_drewN (Below.refl _ _) nq), HG.out.bo, HG.out.left, HG.out.but.trans (But.of_below (below_drewN (Below.refl _ _) nq) _)⟩
    clear hm hEq HG
    go_upto_region 3 with fail
    obtain ⟨y0, y1, y2, y3, y4, y5, y6⟩ := G1.out.bo.cells
    clear c0 c1 c2 c3 c4 c5 c6 d0 d1 d2 d3 d4 d5 d6
    generalize w.drewN nq = w0 at *
    go_wp2_with fail
    clear y0 y1 y2 y3 y4 y5 y6
    go_loopw [32] (fun v32 wr => ∃ i : Nat, i ≤ K ∧ v32 = .int .i64 (i : Int) ∧ Hid (Mg 64 w wr b g (.slice xo xn xc) cb K ca b2 o (.slice zo zn zc) ob ca2 i)) (fun v _ => K - (intOf v).toNat)
    case atStart => exact ⟨0, by omega, rfl, G1.out⟩
    case round =>
      clear G1
      obtain ⟨i, hi, rfl, hG⟩ := hrel
      by_cases hin : i = K
      · have hin' := hide hin
        subst hin
        go_upto_region 8 with fail
        have KP : Hid (Mg 64 w wr.drew b g (.slice xo xn xc) cb i ca b2 o (.slice zo zn zc) ob ca2 i) := hG.out.drewN
        refine wp_region_T (fun q => At 64 q b (⟨g.bs, mixL g.cs o.cs i, g.l⟩ : G) (.slice xo xn xc) (.slice (some ⟨cb, 0, none⟩) i ca) ∧ Bo 64 q b2 o.l (.slice zo zn zc) (.slice (some ⟨ob, 0, none⟩) i ca2)) 12 (by kernel_rfl) ?_
        clear hG
        generalize wr.drew = q at *
        refine wpAnyT_take (i := 0) (oi := { dst := some 53, op := Op.move (Operand.tmp 0), type := 27, pos := "gauge.go:145", after := #[], guard := none }) (v := .pointer (some ⟨b, 0, none⟩)) [10, 11, 12] rfl (by kernel_rfl) (by kernel_rfl) (by kernel_rfl) (by kernel_rfl) (fun _ _ _ h => h) (Or.inl ⟨by rfl, ?_⟩) ⟨KP.out.at_, KP.out.bo⟩ ?_
        · intro wq hSw
          obtain ⟨y0, y1, y2, y3, y4, y5, y6⟩ := hSw.1.cells
          obtain ⟨z0, z1, z2, z3, z4, z5, z6⟩ := hSw.2.cells
          simp only at y2 y3 y4 y5 y6
          go_simp
        (try simp only [Act.put, List.setIfInBounds_toArray, List.set_cons_zero, List.set_cons_succ])
        refine wpAnyT_take (i := 1) (oi := { dst := some 54, op := Op.move (Operand.tmp 0), type := 27, pos := "gauge.go:145", after := #[], guard := none }) (v := .pointer (some ⟨b, 0, none⟩)) [2, 3, 4, 9, 12] rfl (by kernel_rfl) (by kernel_rfl) (by kernel_rfl) (by kernel_rfl) (fun _ _ _ h => h) (Or.inl ⟨by rfl, ?_⟩) ⟨KP.out.at_, KP.out.bo⟩ ?_
        · intro wq hSw
          obtain ⟨y0, y1, y2, y3, y4, y5, y6⟩ := hSw.1.cells
          obtain ⟨z0, z1, z2, z3, z4, z5, z6⟩ := hSw.2.cells
          simp only at y2 y3 y4 y5 y6
          go_simp
        (try simp only [Act.put, List.setIfInBounds_toArray, List.set_cons_zero, List.set_cons_succ])
        refine wpAnyT_take (i := 2) (oi := { dst := some 55, op := Op.nilCheck (Operand.tmp 54), type := 0, pos := "gauge.go:145", after := #[{ on := 1, ground := Ground.data }], guard := none }) (v := .pointer (some ⟨b, 0, none⟩)) [3, 4, 9, 12] rfl (by kernel_rfl) (by kernel_rfl) (by kernel_rfl) (by kernel_rfl) (fun _ _ _ h => h) (Or.inl ⟨by rfl, ?_⟩) ⟨KP.out.at_, KP.out.bo⟩ ?_
        · intro wq hSw
          obtain ⟨y0, y1, y2, y3, y4, y5, y6⟩ := hSw.1.cells
          obtain ⟨z0, z1, z2, z3, z4, z5, z6⟩ := hSw.2.cells
          simp only at y2 y3 y4 y5 y6
          go_simp
        (try simp only [Act.put, List.setIfInBounds_toArray, List.set_cons_zero, List.set_cons_succ])
        refine wpAnyT_take (i := 3) (oi := { dst := some 56, op := Op.fieldAddr 64 (Operand.tmp 55) 2, type := 0, pos := "gauge.go:145", after := #[{ on := 2, ground := Ground.data }], guard := none }) (v := .pointer (some ⟨b, 2, none⟩)) [4, 9, 12] rfl (by kernel_rfl) (by kernel_rfl) (by kernel_rfl) (by kernel_rfl) (fun _ _ _ h => h) (Or.inl ⟨by rfl, ?_⟩) ⟨KP.out.at_, KP.out.bo⟩ ?_
        · intro wq hSw
          obtain ⟨y0, y1, y2, y3, y4, y5, y6⟩ := hSw.1.cells
          obtain ⟨z0, z1, z2, z3, z4, z5, z6⟩ := hSw.2.cells
          simp only at y2 y3 y4 y5 y6
          go_simp
        (try simp only [Act.put, List.setIfInBounds_toArray, List.set_cons_zero, List.set_cons_succ])
        refine wpAnyT_take (i := 4) (oi := { dst := some 57, op := Op.load 44 (Operand.tmp 56), type := 44, pos := "gauge.go:145", after := #[{ on := 3, ground := Ground.data }], guard := none }) (v := .agg #[.int .i64 g.l.n, .int .i64 g.l.na, .float .f64 g.l.lo, .float .f64 g.l.hi, .float .f64 g.l.me]) [9, 12] rfl (by kernel_rfl) (by kernel_rfl) (by kernel_rfl) (by kernel_rfl) (fun _ _ _ h => h) (Or.inl ⟨by rfl, ?_⟩) ⟨KP.out.at_, KP.out.bo⟩ ?_
        · intro wq hSw
          obtain ⟨y0, y1, y2, y3, y4, y5, y6⟩ := hSw.1.cells
          obtain ⟨z0, z1, z2, z3, z4, z5, z6⟩ := hSw.2.cells
          simp only at y2 y3 y4 y5 y6
          go_simp
        (try simp only [Act.put, List.setIfInBounds_toArray, List.set_cons_zero, List.set_cons_succ])
        refine wpAnyT_take (i := 5) (oi := { dst := some 58, op := Op.move (Operand.tmp 1), type := 27, pos := "gauge.go:145", after := #[], guard := none }) (v := .pointer (some ⟨b2, 0, none⟩)) [6, 7, 8, 9, 12] rfl (by kernel_rfl) (by kernel_rfl) (by kernel_rfl) (by kernel_rfl) (fun _ _ _ h => h) (Or.inl ⟨by rfl, ?_⟩) ⟨KP.out.at_, KP.out.bo⟩ ?_
        · intro wq hSw
          obtain ⟨y0, y1, y2, y3, y4, y5, y6⟩ := hSw.1.cells
          obtain ⟨z0, z1, z2, z3, z4, z5, z6⟩ := hSw.2.cells
          simp only at y2 y3 y4 y5 y6
          go_simp
        (try simp only [Act.put, List.setIfInBounds_toArray, List.set_cons_zero, List.set_cons_succ])
        refine wpAnyT_take (i := 6) (oi := { dst := some 59, op := Op.nilCheck (Operand.tmp 58), type := 0, pos := "gauge.go:145", after := #[{ on := 5, ground := Ground.data }], guard := none }) (v := .pointer (some ⟨b2, 0, none⟩)) [7, 8, 9, 12] rfl (by kernel_rfl) (by kernel_rfl) (by kernel_rfl) (by kernel_rfl) (fun _ _ _ h => h) (Or.inl ⟨by rfl, ?_⟩) ⟨KP.out.at_, KP.out.bo⟩ ?_
        · intro wq hSw
          obtain ⟨y0, y1, y2, y3, y4, y5, y6⟩ := hSw.1.cells
          obtain ⟨z0, z1, z2, z3, z4, z5, z6⟩ := hSw.2.cells
          simp only at y2 y3 y4 y5 y6
          go_simp
        (try simp only [Act.put, List.setIfInBounds_toArray, List.set_cons_zero, List.set_cons_succ])
        refine wpAnyT_take (i := 7) (oi := { dst := some 60, op := Op.fieldAddr 64 (Operand.tmp 59) 2, type := 0, pos := "gauge.go:145", after := #[{ on := 6, ground := Ground.data }], guard := none }) (v := .pointer (some ⟨b2, 2, none⟩)) [8, 9, 12] rfl (by kernel_rfl) (by kernel_rfl) (by kernel_rfl) (by kernel_rfl) (fun _ _ _ h => h) (Or.inl ⟨by rfl, ?_⟩) ⟨KP.out.at_, KP.out.bo⟩ ?_
        · intro wq hSw
          obtain ⟨y0, y1, y2, y3, y4, y5, y6⟩ := hSw.1.cells
          obtain ⟨z0, z1, z2, z3, z4, z5, z6⟩ := hSw.2.cells
          simp only at y2 y3 y4 y5 y6
          go_simp
        (try simp only [Act.put, List.setIfInBounds_toArray, List.set_cons_zero, List.set_cons_succ])
        refine wpAnyT_take (i := 8) (oi := { dst := some 61, op := Op.load 44 (Operand.tmp 60), type := 44, pos := "gauge.go:145", after := #[{ on := 7, ground := Ground.data }], guard := none }) (v := .agg #[.int .i64 o.l.n, .int .i64 o.l.na, .float .f64 o.l.lo, .float .f64 o.l.hi, .float .f64 o.l.me]) [9, 12] rfl (by kernel_rfl) (by kernel_rfl) (by kernel_rfl) (by kernel_rfl) (fun _ _ _ h => h) (Or.inl ⟨by rfl, ?_⟩) ⟨KP.out.at_, KP.out.bo⟩ ?_
        · intro wq hSw
          obtain ⟨y0, y1, y2, y3, y4, y5, y6⟩ := hSw.1.cells
          obtain ⟨z0, z1, z2, z3, z4, z5, z6⟩ := hSw.2.cells
          simp only at y2 y3 y4 y5 y6
          go_simp
        (try simp only [Act.put, List.setIfInBounds_toArray, List.set_cons_zero, List.set_cons_succ])
        refine wpAnyT_one (i := 9) (o := { dst := some 62, op := Op.call { callee := Callee.value (Operand.func 42), args := #[Operand.tmp 57, Operand.tmp 61], argTypes := #[44, 44] }, type := 44, pos := "gauge.go:145", after := #[{ on := 4, ground := Ground.data }, { on := 8, ground := Ground.data }], guard := none }) (by kernel_rfl) rfl (fun K9 hK9 => ?_)
        go_simp
        go_at_call 42
        refine (hmd.out _).mono ?_
        rintro e w7 ⟨rfl, b7⟩
        have A7 := hide (KP.out.at_.below b7)
        have D7 : Hid (Bo 64 w7 b2 o.l (.slice zo zn zc) (.slice (some ⟨ob, 0, none⟩) i ca2)) := hide ((b7.block b2 (heap_lt KP.out.bo)).trans KP.out.bo)
        have B7 := hide (KP.out.but.trans (But.of_below b7 _))
        obtain ⟨l', hl'⟩ : ∃ l', Hid (mergeL g.l o.l = l') := ⟨_, rfl⟩
        rw [hl'.out]
        clear b7 KP
        obtain ⟨ln, lna, llo, lhi, lme⟩ := l'
        unfold L.val
        simp only
        (try go_simp)
        refine hK9.out _ _ (fun _ => ⟨A7.out, D7.out⟩) ?_
        clear hK9 K9
        (try simp only [Act.put, List.setIfInBounds_toArray, List.set_cons_zero, List.set_cons_succ])
        refine wpAnyT_one (i := 10) (o := { dst := some 63, op := Op.nilCheck (Operand.tmp 53), type := 0, pos := "gauge.go:145", after := #[{ on := 0, ground := Ground.data }, { on := 0, ground := Ground.phase }, { on := 1, ground := Ground.phase }, { on := 2, ground := Ground.phase }, { on := 3, ground := Ground.phase }, { on := 4, ground := Ground.phase }, { on := 5, ground := Ground.phase }, { on := 6, ground := Ground.phase }, { on := 7, ground := Ground.phase }, { on := 8, ground := Ground.phase }, { on := 9, ground := Ground.phase }], guard := none }) (by kernel_rfl) rfl (fun K9 hK9 => ?_)
        go_simp
        refine hK9.out _ _ (fun _ => ⟨A7.out, D7.out⟩) ?_
        clear hK9 K9
        (try simp only [Act.put, List.setIfInBounds_toArray, List.set_cons_zero, List.set_cons_succ])
        refine wpAnyT_one (i := 11) (o := { dst := some 64, op := Op.fieldAddr 64 (Operand.tmp 63) 2, type := 0, pos := "gauge.go:145", after := #[{ on := 10, ground := Ground.data }, { on := 0, ground := Ground.phase }, { on := 1, ground := Ground.phase }, { on := 2, ground := Ground.phase }, { on := 3, ground := Ground.phase }, { on := 4, ground := Ground.phase }, { on := 5, ground := Ground.phase }, { on := 6, ground := Ground.phase }, { on := 7, ground := Ground.phase }, { on := 8, ground := Ground.phase }, { on := 9, ground := Ground.phase }], guard := none }) (by kernel_rfl) rfl (fun K9 hK9 => ?_)
        go_simp
        refine hK9.out _ _ (fun _ => ⟨A7.out, D7.out⟩) ?_
        clear hK9 K9
        (try simp only [Act.put, List.setIfInBounds_toArray, List.set_cons_zero, List.set_cons_succ])
        obtain ⟨c0, c1, c2, c3, c4, c5, c6⟩ := A7.out.cells
        have y2 := A7.out.frozen 2
        have y3 := A7.out.frozen 3
        have y4 := A7.out.frozen 4
        have y5 := A7.out.frozen 5
        have y6 := A7.out.frozen 6
        have FIN := hide (A7.out.look (by decide) (by decide) ⟨ln, lna, llo, lhi, lme⟩)
        simp only at FIN
        refine wpAnyT_one (i := 12) (o := { dst := none, op := Op.store 44 (Operand.tmp 64) (Operand.tmp 62), type := 0, pos := "gauge.go:145", after := #[{ on := 11, ground := Ground.data }, { on := 9, ground := Ground.data }, { on := 9, ground := Ground.chain }, { on := 0, ground := Ground.phase }, { on := 1, ground := Ground.phase }, { on := 2, ground := Ground.phase }, { on := 3, ground := Ground.phase }, { on := 4, ground := Ground.phase }, { on := 5, ground := Ground.phase }, { on := 6, ground := Ground.phase }, { on := 7, ground := Ground.phase }, { on := 8, ground := Ground.phase }, { on := 9, ground := Ground.phase }], guard := none }) (by kernel_rfl) rfl (fun K9 hK9 => ?_)
        go_simp
        refine hK9.out _ _ (vac (by kernel_rfl)) ?_
        clear hK9 K9
        (try simp only [Act.put, List.setIfInBounds_toArray, List.set_cons_zero, List.set_cons_succ])
        refine wpAnyT_done (by kernel_rfl) ?_ _
        clear c0 c1 c2 c3 c4 c5 c6 y2 y3 y4 y5 y6
        go_wp2_with fail
        go_ret
        have f1 := FIN.out
        rw [hFin.out _ hl'.out.symm] at f1
        exact .inl ⟨HS.out, rfl, f1, B7.out.trans (but_all _ b 2 _ _ _ _ _ (.inl rfl))⟩
      · have hil : i < K := by omega
        have hx := hG.out.left i (Nat.le_refl _) hil
        have i1 : (i : Int) < (K : Int) := by omega
        have i2 : (0 : Int) ≤ (i : Int) := by omega
        obtain ⟨k1, k2⟩ := HC.out i hil
        obtain ⟨k3, k4⟩ := HC2.out i hil
        have hcell : Hid (∀ q, At 64 q b ⟨g.bs, mixL g.cs o.cs i, g.l⟩ (.slice xo xn xc) (.slice (some ⟨cb, 0, none⟩) K ca) → q.cell? ⟨cb, i, none⟩ = some (.int .i64 (g.cs.getD i 0))) := hide fun q hq => by
          have := hq.cell i (by simp only; rw [mix_len _ _ (by rw [hK.out, HK.out]), hK.out]; exact hil)
          simp only at this
          rwa [mix_get _ _ (by rw [hK.out, HK.out]) i (by rw [hK.out]; exact hil)] at this
        have hnext := hide (fun q (hq : Mg 64 w q b g (.slice xo xn xc) cb K ca b2 o (.slice zo zn zc) ob ca2 i) => hq.step (by decide) hK.out HK.out hil)
        obtain ⟨gv, hgv⟩ : ∃ gv, Hid (g.cs.getD i 0 = gv) := ⟨_, rfl⟩
        obtain ⟨ov, hov⟩ : ∃ ov, Hid (o.cs.getD i 0 = ov) := ⟨_, rfl⟩
        rw [hgv.out] at k1 k2 hcell hnext
        rw [hov.out] at k3 k4 hx hnext
        go_upto_region 6 with fail
        have KP : Hid (Mg 64 w wr.drew b g (.slice xo xn xc) cb K ca b2 o (.slice zo zn zc) ob ca2 i) := hG.out.drewN
        refine wp_region_T (fun q => At 64 q b ⟨g.bs, mixL g.cs o.cs i, g.l⟩ (.slice xo xn xc) (.slice (some ⟨cb, 0, none⟩) K ca)) 15 (by kernel_rfl) ?_
        clear hG hx
        generalize wr.drew = q at *
        refine wpAnyT_take (i := 0) (oi := { dst := some 37, op := Op.move (Operand.tmp 0), type := 27, pos := "gauge.go:143", after := #[], guard := none }) (v := .pointer (some ⟨b, 0, none⟩)) [1, 2, 3, 14, 15] rfl (by kernel_rfl) (by kernel_rfl) (by kernel_rfl) (by kernel_rfl) (fun _ _ _ h => h) (Or.inl ⟨by rfl, ?_⟩) KP.out.at_ ?_
        · intro wq hSw
          obtain ⟨y0, y1, y2, y3, y4, y5, y6⟩ := hSw.cells
          have y7 := hcell.out _ hSw
          go_simp
        (try simp only [Act.put, List.setIfInBounds_toArray, List.set_cons_zero, List.set_cons_succ])
        refine wpAnyT_take (i := 1) (oi := { dst := some 38, op := Op.nilCheck (Operand.tmp 37), type := 0, pos := "gauge.go:143", after := #[{ on := 0, ground := Ground.data }], guard := none }) (v := .pointer (some ⟨b, 0, none⟩)) [2, 3, 14, 15] rfl (by kernel_rfl) (by kernel_rfl) (by kernel_rfl) (by kernel_rfl) (fun _ _ _ h => h) (Or.inl ⟨by rfl, ?_⟩) KP.out.at_ ?_
        · intro wq hSw
          obtain ⟨y0, y1, y2, y3, y4, y5, y6⟩ := hSw.cells
          have y7 := hcell.out _ hSw
          go_simp
        (try simp only [Act.put, List.setIfInBounds_toArray, List.set_cons_zero, List.set_cons_succ])
        refine wpAnyT_take (i := 2) (oi := { dst := some 39, op := Op.fieldAddr 64 (Operand.tmp 38) 1, type := 0, pos := "gauge.go:143", after := #[{ on := 1, ground := Ground.data }], guard := none }) (v := .pointer (some ⟨b, 1, none⟩)) [3, 14, 15] rfl (by kernel_rfl) (by kernel_rfl) (by kernel_rfl) (by kernel_rfl) (fun _ _ _ h => h) (Or.inl ⟨by rfl, ?_⟩) KP.out.at_ ?_
        · intro wq hSw
          obtain ⟨y0, y1, y2, y3, y4, y5, y6⟩ := hSw.cells
          have y7 := hcell.out _ hSw
          go_simp
        (try simp only [Act.put, List.setIfInBounds_toArray, List.set_cons_zero, List.set_cons_succ])
        refine wpAnyT_take (i := 3) (oi := { dst := some 40, op := Op.load 41 (Operand.tmp 39), type := 41, pos := "gauge.go:143", after := #[{ on := 2, ground := Ground.data }], guard := none }) (v := .slice (some ⟨cb, 0, none⟩) K ca) [14, 15] rfl (by kernel_rfl) (by kernel_rfl) (by kernel_rfl) (by kernel_rfl) (fun _ _ _ h => h) (Or.inl ⟨by rfl, ?_⟩) KP.out.at_ ?_
        · intro wq hSw
          obtain ⟨y0, y1, y2, y3, y4, y5, y6⟩ := hSw.cells
          have y7 := hcell.out _ hSw
          go_simp
        (try simp only [Act.put, List.setIfInBounds_toArray, List.set_cons_zero, List.set_cons_succ])
        refine wpAnyT_take (i := 4) (oi := { dst := some 41, op := Op.move (Operand.tmp 5), type := 3, pos := "gauge.go:143", after := #[], guard := none }) (v := .int .i64 (i : Int)) [14, 15] rfl (by kernel_rfl) (by kernel_rfl) (by kernel_rfl) (by kernel_rfl) (fun _ _ _ h => h) (Or.inl ⟨by rfl, ?_⟩) KP.out.at_ ?_
        · intro wq hSw
          obtain ⟨y0, y1, y2, y3, y4, y5, y6⟩ := hSw.cells
          have y7 := hcell.out _ hSw
          go_simp
        (try simp only [Act.put, List.setIfInBounds_toArray, List.set_cons_zero, List.set_cons_succ])
        refine wpAnyT_take (i := 5) (oi := { dst := some 42, op := Op.move (Operand.tmp 0), type := 27, pos := "gauge.go:143", after := #[], guard := none }) (v := .pointer (some ⟨b, 0, none⟩)) [6, 7, 8, 10, 11, 13, 15] rfl (by kernel_rfl) (by kernel_rfl) (by kernel_rfl) (by kernel_rfl) (fun _ _ _ h => h) (Or.inl ⟨by rfl, ?_⟩) KP.out.at_ ?_
        · intro wq hSw
          obtain ⟨y0, y1, y2, y3, y4, y5, y6⟩ := hSw.cells
          have y7 := hcell.out _ hSw
          go_simp
        (try simp only [Act.put, List.setIfInBounds_toArray, List.set_cons_zero, List.set_cons_succ])
        refine wpAnyT_take (i := 6) (oi := { dst := some 43, op := Op.nilCheck (Operand.tmp 42), type := 0, pos := "gauge.go:143", after := #[{ on := 5, ground := Ground.data }], guard := none }) (v := .pointer (some ⟨b, 0, none⟩)) [7, 8, 10, 11, 13, 15] rfl (by kernel_rfl) (by kernel_rfl) (by kernel_rfl) (by kernel_rfl) (fun _ _ _ h => h) (Or.inl ⟨by rfl, ?_⟩) KP.out.at_ ?_
        · intro wq hSw
          obtain ⟨y0, y1, y2, y3, y4, y5, y6⟩ := hSw.cells
          have y7 := hcell.out _ hSw
          go_simp
        (try simp only [Act.put, List.setIfInBounds_toArray, List.set_cons_zero, List.set_cons_succ])
        refine wpAnyT_take (i := 7) (oi := { dst := some 44, op := Op.fieldAddr 64 (Operand.tmp 43) 1, type := 0, pos := "gauge.go:143", after := #[{ on := 6, ground := Ground.data }], guard := none }) (v := .pointer (some ⟨b, 1, none⟩)) [8, 10, 11, 13, 15] rfl (by kernel_rfl) (by kernel_rfl) (by kernel_rfl) (by kernel_rfl) (fun _ _ _ h => h) (Or.inl ⟨by rfl, ?_⟩) KP.out.at_ ?_
        · intro wq hSw
          obtain ⟨y0, y1, y2, y3, y4, y5, y6⟩ := hSw.cells
          have y7 := hcell.out _ hSw
          go_simp
        (try simp only [Act.put, List.setIfInBounds_toArray, List.set_cons_zero, List.set_cons_succ])
        refine wpAnyT_take (i := 8) (oi := { dst := some 45, op := Op.load 41 (Operand.tmp 44), type := 41, pos := "gauge.go:143", after := #[{ on := 7, ground := Ground.data }], guard := none }) (v := .slice (some ⟨cb, 0, none⟩) K ca) [10, 11, 13, 15] rfl (by kernel_rfl) (by kernel_rfl) (by kernel_rfl) (by kernel_rfl) (fun _ _ _ h => h) (Or.inl ⟨by rfl, ?_⟩) KP.out.at_ ?_
        · intro wq hSw
          obtain ⟨y0, y1, y2, y3, y4, y5, y6⟩ := hSw.cells
          have y7 := hcell.out _ hSw
          go_simp
        (try simp only [Act.put, List.setIfInBounds_toArray, List.set_cons_zero, List.set_cons_succ])
        refine wpAnyT_take (i := 9) (oi := { dst := some 46, op := Op.move (Operand.tmp 5), type := 3, pos := "gauge.go:143", after := #[], guard := none }) (v := .int .i64 (i : Int)) [10, 11, 13, 15] rfl (by kernel_rfl) (by kernel_rfl) (by kernel_rfl) (by kernel_rfl) (fun _ _ _ h => h) (Or.inl ⟨by rfl, ?_⟩) KP.out.at_ ?_
        · intro wq hSw
          obtain ⟨y0, y1, y2, y3, y4, y5, y6⟩ := hSw.cells
          have y7 := hcell.out _ hSw
          go_simp
        (try simp only [Act.put, List.setIfInBounds_toArray, List.set_cons_zero, List.set_cons_succ])
        refine wpAnyT_take (i := 10) (oi := { dst := some 47, op := Op.indexAddr 41 (Operand.tmp 45) (Operand.tmp 46), type := 0, pos := "gauge.go:143", after := #[{ on := 8, ground := Ground.data }, { on := 9, ground := Ground.data }], guard := none }) (v := .pointer (some ⟨cb, i, none⟩)) [11, 13, 15] rfl (by kernel_rfl) (by kernel_rfl) (by kernel_rfl) (by kernel_rfl) (fun _ _ _ h => h) (Or.inl ⟨by rfl, ?_⟩) KP.out.at_ ?_
        · intro wq hSw
          obtain ⟨y0, y1, y2, y3, y4, y5, y6⟩ := hSw.cells
          have y7 := hcell.out _ hSw
          go_simp
        (try simp only [Act.put, List.setIfInBounds_toArray, List.set_cons_zero, List.set_cons_succ])
        refine wpAnyT_take (i := 11) (oi := { dst := some 48, op := Op.load 2 (Operand.tmp 47), type := 2, pos := "gauge.go:143", after := #[{ on := 10, ground := Ground.data }], guard := none }) (v := .int .i64 gv) [13, 15] rfl (by kernel_rfl) (by kernel_rfl) (by kernel_rfl) (by kernel_rfl) (fun _ _ _ h => h) (Or.inl ⟨by rfl, ?_⟩) KP.out.at_ ?_
        · intro wq hSw
          obtain ⟨y0, y1, y2, y3, y4, y5, y6⟩ := hSw.cells
          have y7 := hcell.out _ hSw
          go_simp
        (try simp only [Act.put, List.setIfInBounds_toArray, List.set_cons_zero, List.set_cons_succ])
        refine wpAnyT_take (i := 12) (oi := { dst := some 49, op := Op.move (Operand.tmp 6), type := 2, pos := "gauge.go:143", after := #[], guard := none }) (v := .int .i64 ov) [13, 15] rfl (by kernel_rfl) (by kernel_rfl) (by kernel_rfl) (by kernel_rfl) (fun _ _ _ h => h) (Or.inl ⟨by rfl, ?_⟩) KP.out.at_ ?_
        · intro wq hSw
          obtain ⟨y0, y1, y2, y3, y4, y5, y6⟩ := hSw.cells
          have y7 := hcell.out _ hSw
          go_simp
        (try simp only [Act.put, List.setIfInBounds_toArray, List.set_cons_zero, List.set_cons_succ])
        refine wpAnyT_one (i := 13) (o := { dst := some 50, op := Op.call { callee := Callee.value (Operand.func 33), args := #[Operand.tmp 48, Operand.tmp 49], argTypes := #[2, 2] }, type := 2, pos := "gauge.go:143", after := #[{ on := 11, ground := Ground.data }, { on := 12, ground := Ground.data }], guard := none }) (by kernel_rfl) rfl (fun K9 hK9 => ?_)
        go_simp
        go_at_call 33
        refine (more_any _ gv ov k1 (by omega) k3 (by omega)).mono ?_
        rintro e w1 ⟨rfl, hw⟩
        rw [hw]
        clear hw w1
        (try go_simp)
        refine hK9.out _ _ (fun _ => KP.out.at_) ?_
        clear hK9 K9
        (try simp only [Act.put, List.setIfInBounds_toArray, List.set_cons_zero, List.set_cons_succ])
        refine wpAnyT_one (i := 14) (o := { dst := some 51, op := Op.indexAddr 41 (Operand.tmp 40) (Operand.tmp 41), type := 0, pos := "gauge.go:143", after := #[{ on := 3, ground := Ground.data }, { on := 4, ground := Ground.data }, { on := 0, ground := Ground.phase }, { on := 1, ground := Ground.phase }, { on := 2, ground := Ground.phase }, { on := 3, ground := Ground.phase }, { on := 4, ground := Ground.phase }, { on := 5, ground := Ground.phase }, { on := 6, ground := Ground.phase }, { on := 7, ground := Ground.phase }, { on := 8, ground := Ground.phase }, { on := 9, ground := Ground.phase }, { on := 10, ground := Ground.phase }, { on := 11, ground := Ground.phase }, { on := 12, ground := Ground.phase }, { on := 13, ground := Ground.phase }], guard := none }) (by kernel_rfl) rfl (fun K9 hK9 => ?_)
        go_simp
        refine hK9.out _ _ (fun _ => KP.out.at_) ?_
        clear hK9 K9
        (try simp only [Act.put, List.setIfInBounds_toArray, List.set_cons_zero, List.set_cons_succ])
        have y7 := hcell.out _ KP.out.at_
        have y8 := KP.out.at_.cfrozen i
        have G6 := hide (hnext.out _ KP.out)
        refine wpAnyT_one (i := 15) (o := { dst := none, op := Op.store 2 (Operand.tmp 51) (Operand.tmp 50), type := 0, pos := "gauge.go:143", after := #[{ on := 14, ground := Ground.data }, { on := 13, ground := Ground.data }, { on := 13, ground := Ground.chain }, { on := 0, ground := Ground.phase }, { on := 1, ground := Ground.phase }, { on := 2, ground := Ground.phase }, { on := 3, ground := Ground.phase }, { on := 4, ground := Ground.phase }, { on := 5, ground := Ground.phase }, { on := 6, ground := Ground.phase }, { on := 7, ground := Ground.phase }, { on := 8, ground := Ground.phase }, { on := 9, ground := Ground.phase }, { on := 10, ground := Ground.phase }, { on := 11, ground := Ground.phase }, { on := 12, ground := Ground.phase }, { on := 13, ground := Ground.phase }], guard := none }) (by kernel_rfl) rfl (fun K9 hK9 => ?_)
        go_simp
        refine hK9.out _ _ (vac (by kernel_rfl)) ?_
        clear hK9 K9
        (try simp only [Act.put, List.setIfInBounds_toArray, List.set_cons_zero, List.set_cons_succ])
        refine wpAnyT_done (by kernel_rfl) ?_ _
        clear y7 y8 KP hcell hnext
        generalize q.setCell ⟨cb, i, none⟩ (.int .i64 (gv + ov)) = w6 at *
        go_wp2_with fail
        go_roundw
        case rel => exact ⟨i + 1, by omega, by go_num, G6.out⟩
        case measure => simp [intOf]; omega
  · have hEq : Hid (∀ n, Calls Try.prog 40 #[.slice xo xn xc, .slice zo zn zc, .func (.func 41) #[] #[]] (w.drewN n) fun e w' => e = .returned (.bool false) ∧ w' = w.drewN n) := hide fun n => (he.out n).mono fun e w' hh => by
      obtain ⟨hw, ⟨_, a⟩ | ⟨a, _⟩⟩ := hh
      · exact absurd a hs
      · exact ⟨a, hw⟩
    have HS := hide hs
    clear h h2 ok ok2 hs he
    go_enter Try.func15, Try.ntmps15
    go_upto_region 1 with fail
    go_quiet (first | (go_at_call 32; exact Calls.quiet_of_same (hm.out _ _ (by first | exact .inl rfl | exact .inr rfl))) | (go_at_call 40; exact Calls.quiet_of_same (hEq.out _)))
    go_wp2_with fail
    go_ret
    exact .inr ⟨HS.out, rfl, below_drewN (Below.refl _ _) _⟩
end Go.Proofs.Ytjkdhckhokkefaa.Gg

/-
  The document's New. (gen_GrA.py)
-/
namespace Go.Proofs.Ytjkdhckhokkefaa.Gg
open Go.RowKit Rl
open Ix (wp_region_T wpAnyT wpAnyT_take wpAnyT_one wpAnyT_done vac)
set_option linter.unusedVariables false
set_option maxRecDepth 100000
end Go.Proofs.Ytjkdhckhokkefaa.Gg

/-
  The document's Put. (gen_GrB.py)
-/
namespace Go.Proofs.Ytjkdhckhokkefaa.Gg
open Go.RowKit Rl
set_option linter.unusedVariables false
set_option maxRecDepth 100000
/-- The least and the greatest are numbers. -/
def Nn (l : L) : Prop := nanB l.lo = false ∧ nanB l.hi = false
theorem key_nanc : keyB 9221120237041090561 = 18446744073709551615 := by decide +kernel
theorem key_le {b : Nat} (hb : b < 18446744073709551616) : keyB b ≤ 18446744073709551615 := by
  unfold keyB
  split
  · omega
  · split <;> omega
theorem key_num {b : Nat} (hb : b < 18446744073709551616) (h : nanB b = false) : keyB b < 18446744073709551615 := by
  have h1 := keyB_nan b hb
  have h2 := key_le hb
  rw [h] at h1
  rcases Nat.lt_or_eq_of_le h2 with q | q
  · exact q
  · exact absurd (h1.1 q) (by simp)
theorem min_num {a b : Nat} (ha : a < 18446744073709551616) (hn : nanB a = false) : minB [a, b] = if cmpB b a < 0 then b else a := by
  rw [min_pair]
  have : minStep 9221120237041090561 a = a := by
    unfold minStep
    rw [if_pos ((cmpB_neg _ _).2 (by rw [key_nanc]; exact key_num ha hn))]
  rw [this]
  rfl
theorem max_num {a b : Nat} (hn : nanB a = false) (hb : nanB b = false) : maxB [a, b] = if 0 < cmpB b a then b else a := by
  rw [max_pair]
  have : maxStep 9221120237041090561 a = a := by
    unfold maxStep
    rw [hn, nan_c]
    rfl
  rw [this]
  unfold maxStep
  rw [hb, hn]
  simp
theorem nn_ends {a b : L} (ha : Nn a) (hb : Nn b) (h1 : a.lo < 18446744073709551616) : nanB (endsF a b).1 = false ∧ nanB (endsF a b).2 = false := by
  unfold endsF
  rw [min_num h1 ha.1, max_num ha.2 hb.2]
  split
  · exact hb
  · split
    · exact ha
    · simp only
      refine ⟨?_, ?_⟩
      · split
        · exact hb.1
        · exact ha.1
      · split
        · exact hb.2
        · exact ha.2
theorem Nn.put {g : G} (h : Nn g.l) (h1 : g.l.lo < 18446744073709551616) (x : Nat) : Nn (putF g x).l := by
  unfold putF
  cases hx : nanB x
  · rw [if_neg (by simp)]
    exact nn_ends h ⟨hx, hx⟩ h1
  · rw [if_pos rfl]
    exact h
theorem Nn.merge {g o : G} (h : Nn g.l) (k : Nn o.l) (h1 : g.l.lo < 18446744073709551616) : Nn (mgF g o).l := nn_ends h k h1
theorem nn0 (l : List Nat) : Nn (g0 l).l := ⟨show nanB 0 = false by decide, show nanB 0 = false by decide⟩
theorem cmpB_pos (a b : Nat) : 0 < cmpB a b ↔ keyB b < keyB a := by
  unfold cmpB cmpZ
  split
  · constructor <;> intro <;> omega
  · split <;> (constructor <;> intro <;> omega)
end Go.Proofs.Ytjkdhckhokkefaa.Gg

/-
  The document's Quantile.
-/
namespace Go.Proofs.Ytjkdhckhokkefaa.Gg
open Go.RowKit Rl
set_option linter.unusedVariables false
set_option maxRecDepth 100000
/-- Rounded down, then one more where something is left. -/
theorem down_up {P : Nat} (hP : P < 9218868437227405312) (hf : magB P / 2 ^ 1074 < 9007199254740992) : (FloatKind.f64.nearest ((magB P / 2 ^ 1074 : Nat) : Int) < P ∧ upU (magB P) = magB P / 2 ^ 1074 + 1) ∨ (¬ FloatKind.f64.nearest ((magB P / 2 ^ 1074 : Nat) : Int) < P ∧ upU (magB P) = magB P / 2 ^ 1074) := by
  have hm := nf_mag hf
  have hU := Nat.two_pow_pos 1074
  have hd := Nat.div_add_mod (magB P) (2 ^ 1074)
  unfold upU
  generalize FloatKind.f64.nearest ((magB P / 2 ^ 1074 : Nat) : Int) = R at *
  generalize 2 ^ 1074 = U at *
  by_cases h0 : magB P % U = 0
  · right
    rw [h0]
    refine ⟨fun hlt => ?_, rfl⟩
    have := mag_mono hlt
    rw [hm] at this
    rw [h0, Nat.mul_comm] at hd
    omega
  · left
    have e : (magB P % U != 0) = true := by simp [h0]
    rw [e]
    refine ⟨?_, rfl⟩
    rcases Nat.lt_or_ge R P with q | q
    · exact q
    · have := mag_le q
      rw [hm] at this
      rw [Nat.mul_comm] at hd
      omega
theorem down_le {V n : Nat} (h : V ≤ n * 2 ^ 1074) : V / 2 ^ 1074 ≤ n := by
  have hU := Nat.two_pow_pos 1074
  generalize 2 ^ 1074 = U at *
  exact Nat.div_le_of_le_mul (by rw [Nat.mul_comm]; exact h)
theorem nf_inf {n : Nat} (hn : n < 9007199254740992) : FloatKind.f64.nearest (n : Int) < 9218868437227405312 := by rw [nf_eq]; exact round_lt_inf hn
/-- What the document comes to, step by step: the product, the whole number below, whether something is left. -/
theorem steps {q n : Nat} (hq : qB q = true) (h1 : 1 ≤ n) (hn : n ≤ 1000000000) : ∃ X c : Nat, Ieee.double.mul q (FloatKind.f64.nearest (n : Int)) = some X ∧ (∀ u, (convert 26 2 (.float .f64 X)).run Try.prog u = .ok (.int .i64 (c : Int)) u) ∧ c ≤ n ∧ ((FloatKind.f64.format.order (FloatKind.f64.nearest (c : Int)) X == some .lt) = true ∧ c + 1 ≤ n ∧ rkF q n = c + 1 ∨ (FloatKind.f64.format.order (FloatKind.f64.nearest (c : Int)) X == some .lt) = false ∧ rkF q n = max c 1) := by
  have hn' : n < 9007199254740992 := by omega
  rcases q_cases hq with ⟨c1, c2, c3⟩ | rfl
  · have hmul := mul_n (a := q) (n := n) (by rw [c2]; omega) hn'
    rw [c3, word_eq, if_neg (by decide)] at hmul
    change _ = some (prB q n) at hmul
    have hinf := pr_inf hq hn'
    have hmg := pr_mag hq hn'
    have hle := down_le hmg
    have hup := rk_le hq hn'
    have hR : rkF q n = max (upU (magB (prB q n))) 1 := rfl
    have hdu := down_up hinf (by omega)
    have hti := toInt_read hinf
    have hni := nf_inf (n := magB (prB q n) / 2 ^ 1074) (by omega)
    generalize magB (prB q n) / 2 ^ 1074 = c at *
    refine ⟨prB q n, c, hmul, fun u => conv_i hti (by omega) u, hle, ?_⟩
    rcases hdu with ⟨a, b⟩ | ⟨a, b⟩
    · left
      rw [ord_pos (by omega) (by omega), Nat.compare_eq_lt.2 a]
      refine ⟨rfl, by omega, by rw [hR, b]; omega⟩
    · right
      rw [ord_pos (by omega) (by omega)]
      refine ⟨?_, by rw [hR, b]⟩
      rcases Nat.lt_or_eq_of_le (Nat.le_of_not_lt a) with e | e
      · rw [Nat.compare_eq_gt.2 e]; rfl
      · rw [Nat.compare_eq_eq.2 e.symm]; rfl
  · have hmul := mul_n (a := 9223372036854775808) (n := n) (by decide) hn'
    have z0 : magB (9223372036854775808 % 9223372036854775808) = 0 := by decide
    rw [z0, Nat.zero_mul, round_zero, show sgnB 9223372036854775808 = true by decide, word_eq, if_pos rfl, Nat.add_zero] at hmul
    have hR : rkF 9223372036854775808 n = 1 := by
      unfold rkF prB
      rw [z0, Nat.zero_mul, round_zero, mag_zero, up_zero]
      rfl
    refine ⟨_, 0, hmul, fun u => conv_i (by decide +kernel) (by omega) u, by omega, .inr ⟨by decide +kernel, by rw [hR]; rfl⟩⟩
end Go.Proofs.Ytjkdhckhokkefaa.Gg

/-
  The document's Merge. (gen_GrD.py)
-/
namespace Go.Proofs.Ytjkdhckhokkefaa.Gg
open Go.RowKit Rl
open Ix (wp_region_T wpAnyT wpAnyT_take wpAnyT_one wpAnyT_done vac)
set_option linter.unusedVariables false
set_option maxRecDepth 100000
/-- Of one that was told nothing both ends are 0. -/
def Nz (l : L) : Prop := Nn l ∧ (l.n = 0 → l.lo = 0 ∧ l.hi = 0)
theorem nz0 (l : List Nat) : Nz (g0 l).l := ⟨nn0 l, fun _ => ⟨rfl, rfl⟩⟩
theorem Nz.put {g : G} (h : Nz g.l) (hn : 0 ≤ g.l.n) (h1 : g.l.lo < 18446744073709551616) (x : Nat) : Nz (putF g x).l := by
  refine ⟨h.1.put h1 x, ?_⟩
  unfold putF
  split
  · exact h.2
  · intro e
    have : g.l.n + 1 = 0 := e
    omega
theorem Nz.merge {g o : G} (h : Nz g.l) (k : Nz o.l) (hn : 0 ≤ g.l.n) (kn : 0 ≤ o.l.n) (h1 : g.l.lo < 18446744073709551616) : Nz (mgF g o).l := by
  refine ⟨h.1.merge k.1 h1, fun e => ?_⟩
  have e' : g.l.n + o.l.n = 0 := e
  have hg : g.l.n = 0 := by omega
  have ho := k.2 (by omega)
  show (endsF g.l o.l).1 = 0 ∧ (endsF g.l o.l).2 = 0
  unfold endsF
  rw [if_pos hg]
  exact ho
/-- Between the rounds: how far the cells have been added; the copies. -/
structure Mr (w wr : World) (b : Nat) (g : G) (vb : Value) (cb K ca xb : Nat) (cs2 : List Int) (pb : Nat) (l2 : L) (i : Nat) : Prop where
  at_ : At 66 wr b ⟨g.bs, mixL g.cs cs2 i, g.l⟩ vb (.slice (some ⟨cb, 0, none⟩) K ca)
  cp : ∀ j, j < K → wr.cell? ⟨xb, j, none⟩ = some (.int .i64 (cs2.getD j 0))
  lx : Lx wr pb l2
  but : But (Tur b (.slice (some ⟨cb, 0, none⟩) K ca)) w wr
  h1 : cb ≠ xb
  h2 : cb ≠ pb
  h3 : b ≠ pb
theorem Mr.drew {w wr : World} {b : Nat} {g : G} {vb : Value} {cb K ca xb : Nat} {cs2 : List Int} {pb : Nat} {l2 : L} {i : Nat} (h : Mr w wr b g vb cb K ca xb cs2 pb l2 i) : Mr w wr.drew b g vb cb K ca xb cs2 pb l2 i :=
  ⟨h.at_.below (Below.refl _ _).drew, h.cp, h.lx, h.but.trans (But.of_below (Below.refl _ _).drew _), h.h1, h.h2, h.h3⟩
theorem Mr.step {w wr : World} {b : Nat} {g : G} {vb : Value} {cb K ca xb : Nat} {cs2 : List Int} {pb : Nat} {l2 : L} {i : Nat} (h : Mr w wr b g vb cb K ca xb cs2 pb l2 i) (hg : g.cs.length = K) (ho : cs2.length = K) (hi : i < K) : Mr w (wr.setCell ⟨cb, i, none⟩ (.int .i64 (g.cs.getD i 0 + cs2.getD i 0))) b g vb cb K ca xb cs2 pb l2 (i + 1) := by
  have h1 := h.at_.cset (by decide) i (g.cs.getD i 0 + cs2.getD i 0)
  simp only at h1
  rw [mix_step g.cs cs2 (by omega) i (by omega)] at h1
  refine ⟨h1, fun j hj => ?_, h.lx.away _ (Ne.symm h.h2), h.but.trans (but_cell _ _ _ _ (.inr rfl)), h.h1, h.h2, h.h3⟩
  rw [World.cell?_of_block (w := wr) (set_block wr cb i xb _ (Ne.symm h.h1))]
  exact h.cp j hj
/-- What stands while what is told is merged. -/
structure Mt (w q : World) (b : Nat) (g : G) (vb vc : Value) (pb : Nat) (l2 : L) : Prop where
  at_ : At 66 q b g vb vc
  lx : Lx q pb l2
  but : But (Tur b vc) w q
  ne : b ≠ pb
theorem Mt.below {w q q' : World} {b : Nat} {g : G} {vb vc : Value} {pb : Nat} {l2 : L} (h : Mt w q b g vb vc pb l2) (hb : Below q.heap.size q q') : Mt w q' b g vb vc pb l2 := ⟨h.at_.below hb, h.lx.below hb, h.but.trans (But.of_below hb _), h.ne⟩
theorem Mt.s2 {w q : World} {b : Nat} {g : G} {vb vc : Value} {pb : Nat} {l2 : L} (h : Mt w q b g vb vc pb l2) (x : Int) : Mt w (q.setCell ⟨b, 2, none⟩ (.int .i64 x)) b ⟨g.bs, g.cs, ⟨x, g.l.na, g.l.lo, g.l.hi, g.l.me⟩⟩ vb vc pb l2 := ⟨h.at_.set2 (by decide) (by decide) x, h.lx.away _ (Ne.symm h.ne), h.but.trans (but_cell _ _ _ _ (.inl rfl)), h.ne⟩
theorem Mt.s3 {w q : World} {b : Nat} {g : G} {vb vc : Value} {pb : Nat} {l2 : L} (h : Mt w q b g vb vc pb l2) (x : Int) : Mt w (q.setCell ⟨b, 3, none⟩ (.int .i64 x)) b ⟨g.bs, g.cs, ⟨g.l.n, x, g.l.lo, g.l.hi, g.l.me⟩⟩ vb vc pb l2 := ⟨h.at_.set3 (by decide) (by decide) x, h.lx.away _ (Ne.symm h.ne), h.but.trans (but_cell _ _ _ _ (.inl rfl)), h.ne⟩
theorem Mt.s4 {w q : World} {b : Nat} {g : G} {vb vc : Value} {pb : Nat} {l2 : L} (h : Mt w q b g vb vc pb l2) (x : Nat) : Mt w (q.setCell ⟨b, 4, none⟩ (.float .f64 x)) b ⟨g.bs, g.cs, ⟨g.l.n, g.l.na, x, g.l.hi, g.l.me⟩⟩ vb vc pb l2 := ⟨h.at_.set4 (by decide) (by decide) x, h.lx.away _ (Ne.symm h.ne), h.but.trans (but_cell _ _ _ _ (.inl rfl)), h.ne⟩
end Go.Proofs.Ytjkdhckhokkefaa.Gg

/-
  cells, Look, same: what the law asks of both gauges.
-/
namespace Go.Proofs.Ytjkdhckhokkefaa.Gg
open Go.RowKit Rl
set_option linter.unusedVariables false
set_option maxRecDepth 100000
/-- Whole numbers in memory, as they are read. -/
theorem row_ints {w : World} {v : Value} {l : List Int} (h : Row w v (ivals l)) : ∃ ao ca, v = .slice ao l.length ca ∧ ca ≤ 9223372036854775807 ∧ l.length ≤ ca ∧ ∀ i, i < l.length → ∃ bb off, ao = some ⟨bb, off, none⟩ ∧ w.cell? ⟨bb, off + i, none⟩ = some (.int .i64 (l.getD i 0)) := by
  obtain ⟨ao, ca, rfl, _, h2, h3, h4⟩ := h
  have hl : (ivals l).length = l.length := by simp [ivals]
  rw [hl] at h2 ⊢
  refine ⟨ao, ca, rfl, by unfold maxLen at h3; omega, h2, fun i hi => ?_⟩
  obtain ⟨bb, off, e, hc⟩ := h4 i (by omega)
  refine ⟨bb, off, e, ?_⟩
  rw [hc]
  simp [ivals, hi]
theorem lcells_any (w : World) (v v' : Value) (l : List Int) (h : Row w v (ivals l)) (h' : Row w v' (ivals l)) : Calls Try.prog 17 #[v, v'] w fun e w' => e = .returned (.bool true) ∧ Below w.heap.size w w' := by
  obtain ⟨ao, ca, rfl, q1, q2, hr⟩ := row_ints h
  obtain ⟨ao', ca', rfl, q1', q2', hr'⟩ := row_ints h'
  have HR := hide hr
  have HR' := hide hr'
  obtain ⟨N, hN⟩ : ∃ N, Hid (l.length = N) := ⟨_, rfl⟩
  rw [hN.out] at HR HR' q2 q2' ⊢
  have hN63 : N ≤ 9223372036854775807 := by omega
  clear h h' hr hr'
  go_enter Try.func17, Try.ntmps17
  go_wp2_with fail
  go_loopw [5] (fun v5 wr => ∃ i : Nat, i ≤ N ∧ v5 = .int .i64 (i : Int) ∧ Hid (Below w.heap.size w wr)) (fun v _ => N - (intOf v).toNat)
  case atStart => exact ⟨0, by omega, rfl, Below.refl _ _⟩
  case round =>
    obtain ⟨i, hi, rfl, hB⟩ := hrel
    by_cases hin : i = N
    · subst hin
      go_wp2
      go_ret
      exact ⟨rfl, hB.out⟩
    · have hil : i < N := by omega
      obtain ⟨bb, off, rfl, hx0⟩ := HR.out i hil
      obtain ⟨bb', off', rfl, hy0⟩ := HR'.out i hil
      have hx := (hB.out.cell (lt_of_cell hx0)).trans hx0
      have hy := (hB.out.cell (lt_of_cell hy0)).trans hy0
      have i1 : (i : Int) < (N : Int) := by omega
      have i2 : (0 : Int) ≤ (i : Int) := by omega
      clear hx0 hy0
      generalize l.getD i 0 = x at *
      have hD : Hid (∀ k, Below w.heap.size w (wr.drewN k)) := hide (fun k => below_drewN hB.out k)
      go_upto_region 6 with fail
      go_quiet (fail)
      go_wp2_with fail
      go_roundw
      case rel => exact ⟨i + 1, by omega, by go_num, hD.out _⟩
      case measure => simp [intOf]; omega
theorem qt_lt {M : Int} {g : G} (ok : Ok M g) (q : Nat) : (qtF g q).1 < 18446744073709551616 := by
  have hp : ∀ (bs : List Nat) (cs : List Int) (acc r : Int), (∀ b ∈ bs, b < 18446744073709551616) → pick bs cs acc r g.l.hi < 18446744073709551616 := by
    intro bs
    induction bs with
    | nil => intro cs acc r _; unfold pick; exact ok.hi
    | cons b bs ih =>
      intro cs acc r hb
      cases cs with
      | nil => unfold pick; exact ok.hi
      | cons c cs =>
        unfold pick
        split
        · exact hb b (by simp)
        · exact ih cs _ _ fun b' h' => hb b' (by simp [h'])
  unfold qtF
  split
  · show 0 < _; omega
  · split
    · show 0 < _; omega
    · exact hp _ _ _ _ ok.bs
end Go.Proofs.Ytjkdhckhokkefaa.Gg

/-
  same: do both tell the same? (gen_GrF.py)
-/
namespace Go.Proofs.Ytjkdhckhokkefaa.Gg
open Go.RowKit Rl
open Ix (wp_region_T wpAnyT wpAnyT_take wpAnyT_one wpAnyT_done vac)
set_option linter.unusedVariables false
set_option maxRecDepth 100000
theorem row_flts {w : World} {v : Value} {l : List Nat} (h : Row w v (fvals l)) : ∃ ao ca, v = .slice ao l.length ca ∧ ca ≤ 9223372036854775807 ∧ l.length ≤ ca ∧ ∀ i, i < l.length → ∃ bb off, ao = some ⟨bb, off, none⟩ ∧ w.cell? ⟨bb, off + i, none⟩ = some (.float .f64 (l.getD i 0)) := by
  obtain ⟨ao, ca, rfl, _, h2, h3, h4⟩ := h
  have hl : (fvals l).length = l.length := by simp [fvals]
  rw [hl] at h2 ⊢
  refine ⟨ao, ca, rfl, by unfold maxLen at h3; omega, h2, fun i hi => ?_⟩
  obtain ⟨bb, off, e, hc⟩ := h4 i (by omega)
  refine ⟨bb, off, e, ?_⟩
  rw [hc]
  simp [fvals, hi]
/-- What stands in same: both gauges, the list told first. -/
def Ss (q : World) (b : Nat) (g : G) (va vc : Value) (rb : Nat) (ra rc : Value) (vl : Value) : Prop := At 64 q b g va vc ∧ At 66 q rb g ra rc ∧ Row q vl (ivals g.cs)
theorem Ss.below {q q' : World} {b : Nat} {g : G} {va vc : Value} {rb : Nat} {ra rc vl : Value} (h : Ss q b g va vc rb ra rc vl) (hb : Below q.heap.size q q') : Ss q' b g va vc rb ra rc vl := ⟨h.1.below hb, h.2.1.below hb, Below.row hb h.2.2⟩
end Go.Proofs.Ytjkdhckhokkefaa.Gg

/-
  Several gauges in memory, apart from each other.
-/
namespace Go.Proofs.Ytjkdhckhokkefaa.Gg
open Go.RowKit Rl
set_option linter.unusedVariables false
set_option maxRecDepth 100000
structure E where
  T : TypeId
  b : Nat
  vb : Value
  vc : Value
def E.own (e : E) : Nat → Prop := Own e.b e.vb e.vc
def E.at_ (e : E) (w : World) (g : G) : Prop := At e.T w e.b g e.vb e.vc
def E.tur (e : E) : Nat → Prop := Tur e.b e.vc
theorem E.tur_own {e : E} {k : Nat} (h : e.tur k) : e.own k := by
  rcases h with h | h
  · exact .inl h
  · exact .inr (.inr h)
/-- Gauges apart from each other, all of memory that was not there in W. -/
structure Ens (W w : World) (l : List (E × G)) : Prop where
  all : ∀ p ∈ l, p.1.at_ w p.2
  low : ∀ p ∈ l, ∀ k, p.1.own k → W.heap.size ≤ k
  dis : (l.map Prod.fst).Pairwise (fun e f => ∀ k, e.own k → ¬ f.own k)
  bel : Below W.heap.size W w
theorem Ens.below {W w w' : World} {l : List (E × G)} (h : Ens W w l) (hb : Below w.heap.size w w') : Ens W w' l :=
  ⟨fun p hp => (h.all p hp).below hb, h.low, h.dis, keepF h.bel hb⟩
theorem Ens.nil {W w : World} (h : Below W.heap.size W w) : Ens W w [] := ⟨fun p hp => by simp at hp, fun p hp => by simp at hp, List.Pairwise.nil, h⟩
/-- One of them turned. -/
theorem Ens.turn {W w w' : World} (l1 : List (E × G)) {l2 : List (E × G)} {e : E} {g g' : G} (h : Ens W w (l1 ++ (e, g) :: l2)) (hb : But e.tur w w') (ha : e.at_ w' g') : Ens W w' (l1 ++ (e, g') :: l2) := by
  have hd := h.dis
  rw [List.map_append, List.map_cons, List.pairwise_append] at hd
  obtain ⟨d1, d2, d3⟩ := hd
  rw [List.pairwise_cons] at d2
  refine ⟨fun p hp => ?_, fun p hp => ?_, ?_, ?_⟩
  · rw [List.mem_append, List.mem_cons] at hp
    rcases hp with hp | rfl | hp
    · refine (h.all p (by simp [hp])).but hb fun k hk ht => ?_
      exact d3 p.1 (List.mem_map_of_mem hp) e (by simp) k hk (E.tur_own ht)
    · exact ha
    · refine (h.all p (by simp [hp])).but hb fun k hk ht => ?_
      exact d2.1 p.1 (List.mem_map_of_mem hp) k (E.tur_own ht) hk
  · rw [List.mem_append, List.mem_cons] at hp
    rcases hp with hp | rfl | hp
    · exact h.low p (by simp [hp])
    · exact h.low (e, g) (by simp)
    · exact h.low p (by simp [hp])
  · have := h.dis
    rw [List.map_append, List.map_cons] at this ⊢
    exact this
  · exact h.bel.trans (hb.below h.bel.size fun k hk => h.low (e, g) (by simp) k (E.tur_own hk))
/-- One more, of new memory. -/
theorem Ens.add {W w w' : World} {l : List (E × G)} {e : E} {g : G} (h : Ens W w l) (hb : Below w.heap.size w w') (ha : e.at_ w' g) (hn : ∀ k, e.own k → w.heap.size ≤ k) : Ens W w' (l ++ [(e, g)]) := by
  refine ⟨fun p hp => ?_, fun p hp k hk => ?_, ?_, keepF h.bel hb⟩
  · rw [List.mem_append, List.mem_singleton] at hp
    rcases hp with hp | rfl
    · exact (h.all p hp).below hb
    · exact ha
  · rw [List.mem_append, List.mem_singleton] at hp
    rcases hp with hp | rfl
    · exact h.low p hp k hk
    · exact Nat.le_trans h.bel.size (hn k hk)
  · rw [List.map_append, List.pairwise_append]
    refine ⟨h.dis, by simp, fun a ha' b hb' k hk hk' => ?_⟩
    simp at hb'
    subst hb'
    obtain ⟨p, hp, rfl⟩ := List.mem_map.1 ha'
    have h1 := (h.all p hp).lt k hk
    have h2 := hn k hk'
    omega
/-- Told one number after the other. -/
def pG (g : G) (xs : List Nat) (i : Nat) : G := (xs.take i).foldl putF g
theorem pG_zero (g : G) (xs : List Nat) : pG g xs 0 = g := rfl
theorem pG_succ (g : G) (xs : List Nat) {i : Nat} (hi : i < xs.length) : pG g xs (i + 1) = putF (pG g xs i) (xs.getD i 0) := by
  unfold pG
  rw [List.take_succ_eq_append_getElem hi, List.foldl_append]
  simp [hi]
theorem pG_ok {g : G} {M : Int} (h : Ok M g) {xs : List Nat} (hb : Bs xs) (i : Nat) (hi : i ≤ xs.length) : Ok (M + (i : Int)) (pG g xs i) := by
  induction i with
  | zero => rw [pG_zero]; exact h.mono (by omega)
  | succ i ih =>
    rw [pG_succ g xs (by omega)]
    exact ((ih (by omega)).put _ (hb _ (getD_mem (by omega)))).mono (by omega)
theorem pG_nz {g : G} {M : Int} (h : Ok M g) (hz : Nz g.l) {xs : List Nat} (hb : Bs xs) (i : Nat) (hi : i ≤ xs.length) : Nz (pG g xs i).l := by
  induction i with
  | zero => exact hz
  | succ i ih =>
    rw [pG_succ g xs (by omega)]
    have o := pG_ok h hb i (by omega)
    exact (ih (by omega)).put o.n.1 o.lo _
theorem put_bs (g : G) (x : Nat) : (putF g x).bs = g.bs := by unfold putF; split <;> rfl
theorem pG_bs (g : G) (xs : List Nat) (i : Nat) (hi : i ≤ xs.length) : (pG g xs i).bs = g.bs := by
  induction i with
  | zero => rfl
  | succ i ih => rw [pG_succ g xs (by omega), put_bs, ih (by omega)]
/-- One of them written over. -/
theorem Fw.set {B : Nat} {w : World} {b n ca : Nat} {l : List Nat} (h : Fw B w (.slice (some ⟨b, 0, none⟩) n ca) l) (k : Nat) (x : Nat) : Fw B (w.setCell ⟨b, k, none⟩ (.float .f64 x)) (.slice (some ⟨b, 0, none⟩) n ca) (l.set k x) := by
  rcases h.2 with ⟨e, _⟩ | ⟨g', cap, cur, e, hg, hh, a, b', c, d⟩
  · simp at e
  · simp at e
    obtain ⟨rfl, rfl, rfl⟩ := e
    have h1 : (w.setCell ⟨b, k, none⟩ (.float .f64 x)).heap[b]? = some (.cells (cur.setIfInBounds k (.float .f64 x)) 26 (0, 0)) := by rw [heap_setCell_same w b k _ _ _ hh]
    refine ⟨by simp [fvals], .inr ⟨b, ca, _, by rw [List.length_set], hg, h1, by rw [List.length_set]; exact a, b', by simpa using c, ?_⟩⟩
    rw [List.length_set, show fvals (l.set k x) = (fvals l).set k (.float .f64 x) by simp [fvals, List.map_set], ← d]
    simp [List.take_set]
theorem sameL_refl (l : List Nat) : sameL l l := ⟨rfl, fun _ _ => rfl⟩
end Go.Proofs.Ytjkdhckhokkefaa.Gg

/-
  What a gauge tells, but for its mean, by the numbers that it was told, in whatever order; merged.
-/
namespace Go.Proofs.Ytjkdhckhokkefaa.Gg
open Go.RowKit Rl
set_option linter.unusedVariables false
set_option maxRecDepth 100000
/-- The same, but for the mean. -/
structure Eq0 (g h : G) : Prop where
  bs : g.bs = h.bs
  cs : g.cs = h.cs
  n : g.l.n = h.l.n
  na : g.l.na = h.l.na
  lo : g.l.lo = h.l.lo
  hi : g.l.hi = h.l.hi
theorem Eq0.refl (g : G) : Eq0 g g := ⟨rfl, rfl, rfl, rfl, rfl, rfl⟩
theorem Eq0.symm {g h : G} (e : Eq0 g h) : Eq0 h g := ⟨e.bs.symm, e.cs.symm, e.n.symm, e.na.symm, e.lo.symm, e.hi.symm⟩
theorem Eq0.trans {g h k : G} (e : Eq0 g h) (f : Eq0 h k) : Eq0 g k := ⟨e.bs.trans f.bs, e.cs.trans f.cs, e.n.trans f.n, e.na.trans f.na, e.lo.trans f.lo, e.hi.trans f.hi⟩
/-- What holds of a gauge always. -/
def Inv (g : G) : Prop := (∃ M, Ok M g) ∧ Nz g.l
theorem Inv.put {g : G} (h : Inv g) {x : Nat} (hx : x < 18446744073709551616) : Inv (putF g x) := by
  obtain ⟨⟨M, ok⟩, nz⟩ := h
  exact ⟨⟨_, ok.put x hx⟩, nz.put ok.n.1 ok.lo x⟩
/-- The least of two, the greatest of two. -/
def mn (a b : Nat) : Nat := if keyB b < keyB a then b else a
def mx (a b : Nat) : Nat := if keyB a < keyB b then b else a
theorem ends_is {a b : L} (ha : Nn a) (hb : Nn b) (h1 : a.lo < 18446744073709551616) : endsF a b = if a.n = 0 then (b.lo, b.hi) else if b.n = 0 then (a.lo, a.hi) else (mn a.lo b.lo, mx a.hi b.hi) := by
  unfold endsF
  rw [min_num h1 ha.1, max_num ha.2 hb.2]
  have e1 : (if cmpB b.lo a.lo < 0 then b.lo else a.lo) = mn a.lo b.lo := by
    unfold mn
    by_cases h : keyB b.lo < keyB a.lo
    · rw [if_pos h, if_pos ((cmpB_neg _ _).2 h)]
    · rw [if_neg h, if_neg (fun c => h ((cmpB_neg _ _).1 c))]
  have e2 : (if 0 < cmpB b.hi a.hi then b.hi else a.hi) = mx a.hi b.hi := by
    unfold mx
    by_cases h : keyB a.hi < keyB b.hi
    · rw [if_pos h, if_pos ((cmpB_pos _ _).2 h)]
    · rw [if_neg h, if_neg (fun c => h ((cmpB_pos _ _).1 c))]
  rw [e1, e2]
theorem mn_assoc (a b c : Nat) : mn (mn a b) c = mn a (mn b c) := by
  unfold mn
  repeat' split
  all_goals first | rfl | omega
theorem mx_assoc (a b c : Nat) : mx (mx a b) c = mx a (mx b c) := by
  unfold mx
  repeat' split
  all_goals first | rfl | omega
theorem key_inj {a b : Nat} (ha : a < 18446744073709551616) (hb : b < 18446744073709551616) (na : nanB a = false) (nb : nanB b = false) (h : keyB a = keyB b) : a = b := by
  rcases Int.lt_trichotomy (sg a) (sg b) with q | q | q
  · have := sg_key ha hb na nb q; omega
  · unfold keyB at h
    rw [na, nb] at h
    simp only [Bool.false_eq_true, if_false] at h
    revert h
    repeat' split
    all_goals (intro h; first | omega | (simp at h; omega))
  · have := sg_key hb ha nb na q; omega
theorem mn_comm {a b : Nat} (ha : a < 18446744073709551616) (hb : b < 18446744073709551616) (na : nanB a = false) (nb : nanB b = false) : mn a b = mn b a := by
  unfold mn
  by_cases h : keyB b < keyB a
  · rw [if_pos h, if_neg (by omega)]
  · rw [if_neg h]
    by_cases h2 : keyB a < keyB b
    · rw [if_pos h2]
    · rw [if_neg h2]
      exact key_inj ha hb na nb (by omega)
theorem mx_comm {a b : Nat} (ha : a < 18446744073709551616) (hb : b < 18446744073709551616) (na : nanB a = false) (nb : nanB b = false) : mx a b = mx b a := by
  unfold mx
  by_cases h : keyB a < keyB b
  · rw [if_pos h, if_neg (by omega)]
  · rw [if_neg h]
    by_cases h2 : keyB b < keyB a
    · rw [if_pos h2]
    · rw [if_neg h2]
      exact key_inj ha hb na nb (by omega)
/-- Put, but for the mean. -/
theorem put_num {g : G} (h : Inv g) {x : Nat} (hx : x < 18446744073709551616) (hn : nanB x = false) : (putF g x).bs = g.bs ∧ (putF g x).cs = g.cs.set (ixB g.bs x) (g.cs.getD (ixB g.bs x) 0 + 1) ∧ (putF g x).l.n = g.l.n + 1 ∧ (putF g x).l.na = g.l.na ∧ (putF g x).l.lo = (if g.l.n = 0 then x else mn g.l.lo x) ∧ (putF g x).l.hi = (if g.l.n = 0 then x else mx g.l.hi x) := by
  obtain ⟨⟨M, ok⟩, nz⟩ := h
  have he := ends_is (a := g.l) (b := ⟨1, 0, x, x, 0⟩) nz.1 ⟨hn, hn⟩ ok.lo
  unfold putF
  rw [hn]
  simp only [Bool.false_eq_true, if_false]
  refine ⟨trivial, trivial, rfl, rfl, ?_, ?_⟩
  · show (endsF g.l ⟨1, 0, x, x, 0⟩).1 = _
    rw [he]
    simp only
    split
    · rfl
    · rw [if_neg (by omega)]
  · show (endsF g.l ⟨1, 0, x, x, 0⟩).2 = _
    rw [he]
    simp only
    split
    · rfl
    · rw [if_neg (by omega)]
theorem put_nan {g : G} {x : Nat} (hn : nanB x = true) : putF g x = ⟨g.bs, g.cs, ⟨g.l.n, g.l.na + 1, g.l.lo, g.l.hi, g.l.me⟩⟩ := by unfold putF; rw [if_pos hn]
theorem put_eq0 {g h : G} (e : Eq0 g h) (x : Nat) : Eq0 (putF g x) (putF h x) := by
  unfold putF cntF endsF
  split
  · exact ⟨e.bs, e.cs, e.n, by show _ + 1 = _ + 1; rw [e.na], e.lo, e.hi⟩
  · refine ⟨e.bs, by simp only; rw [e.bs, e.cs], by show _ + 1 = _ + 1; rw [e.n], e.na, ?_, ?_⟩
    · simp only; rw [e.n, e.lo, e.hi]
    · simp only; rw [e.n, e.lo, e.hi]
theorem set_comm' (l : List Int) (i j : Nat) : (l.set i (l.getD i 0 + 1)).set j ((l.set i (l.getD i 0 + 1)).getD j 0 + 1) = (l.set j (l.getD j 0 + 1)).set i ((l.set j (l.getD j 0 + 1)).getD i 0 + 1) := by
  by_cases e : i = j
  · subst e; rfl
  · have h1 : (l.set i (l.getD i 0 + 1)).getD j 0 = l.getD j 0 := by simp [List.getElem?_set_ne e]
    have h2 : (l.set j (l.getD j 0 + 1)).getD i 0 = l.getD i 0 := by simp [List.getElem?_set_ne (Ne.symm e)]
    rw [h1, h2, List.set_comm _ _ e]
theorem put_comm {g : G} (h : Inv g) {x y : Nat} (hx : x < 18446744073709551616) (hy : y < 18446744073709551616) : Eq0 (putF (putF g x) y) (putF (putF g y) x) := by
  cases hnx : nanB x
  · cases hny : nanB y
    · obtain ⟨a1, a2, a3, a4, a5, a6⟩ := put_num h hx hnx
      obtain ⟨b1, b2, b3, b4, b5, b6⟩ := put_num h hy hny
      obtain ⟨c1, c2, c3, c4, c5, c6⟩ := put_num (h.put hx) hy hny
      obtain ⟨d1, d2, d3, d4, d5, d6⟩ := put_num (h.put hy) hx hnx
      obtain ⟨⟨M, ok⟩, nz⟩ := h
      have hn := ok.n.1
      refine ⟨by rw [c1, d1, a1, b1], by rw [c2, d2, a2, b2, a1, b1]; exact set_comm' _ _ _, by rw [c3, d3, a3, b3], by rw [c4, d4, a4, b4], ?_, ?_⟩
      · rw [c5, d5, a3, b3, if_neg (by omega), if_neg (by omega), a5, b5]
        split
        · exact mn_comm hx hy hnx hny
        · rw [mn_assoc, mn_assoc, mn_comm hx hy hnx hny]
      · rw [c6, d6, a3, b3, if_neg (by omega), if_neg (by omega), a6, b6]
        split
        · exact mx_comm hx hy hnx hny
        · rw [mx_assoc, mx_assoc, mx_comm hx hy hnx hny]
    · rw [put_nan (g := putF g x) hny, put_nan (g := g) hny]
      obtain ⟨a1, a2, a3, a4, a5, a6⟩ := put_num h hx hnx
      have h' : Inv (⟨g.bs, g.cs, ⟨g.l.n, g.l.na + 1, g.l.lo, g.l.hi, g.l.me⟩⟩ : G) := by have := h.put hy; rwa [put_nan hny] at this
      obtain ⟨b1, b2, b3, b4, b5, b6⟩ := put_num h' hx hnx
      exact ⟨by rw [b1]; exact a1, by rw [b2]; exact a2, by rw [b3]; exact a3, by rw [b4]; show _ + 1 = _; rw [a4], by rw [b5]; exact a5, by rw [b6]; exact a6⟩
  · rw [put_nan (g := g) hnx]
    cases hny : nanB y
    · obtain ⟨a1, a2, a3, a4, a5, a6⟩ := put_num h hy hny
      have h' : Inv (⟨g.bs, g.cs, ⟨g.l.n, g.l.na + 1, g.l.lo, g.l.hi, g.l.me⟩⟩ : G) := by have := h.put hx; rwa [put_nan hnx] at this
      obtain ⟨b1, b2, b3, b4, b5, b6⟩ := put_num h' hy hny
      rw [put_nan (g := putF g y) hnx]
      exact ⟨by rw [b1]; exact a1.symm, by rw [b2]; exact a2.symm, by rw [b3]; exact a3.symm, by rw [b4]; show _ = _ + 1; rw [a4], by rw [b5]; exact a5.symm, by rw [b6]; exact a6.symm⟩
    · rw [put_nan hny, put_nan hny, put_nan hnx]
      exact Eq0.refl _
theorem fold_eq0 {g h : G} (e : Eq0 g h) (xs : List Nat) : Eq0 (xs.foldl putF g) (xs.foldl putF h) := by
  induction xs generalizing g h with
  | nil => exact e
  | cons x r ih => exact ih (put_eq0 e x)
theorem fold_inv {g : G} (h : Inv g) {xs : List Nat} (hb : Bs xs) : Inv (xs.foldl putF g) := by
  induction xs generalizing g with
  | nil => exact h
  | cons x r ih => exact ih (h.put (hb x (by simp))) (fun y hy => hb y (by simp [hy]))
/-- The order of what was told changes nothing but the mean. -/
theorem fold_perm {xs ys : List Nat} (p : xs.Perm ys) : ∀ {g : G}, Inv g → Bs xs → Eq0 (xs.foldl putF g) (ys.foldl putF g) := by
  induction p with
  | nil => intro g _ _; exact Eq0.refl _
  | cons x _ ih => intro g h hb; exact ih (h.put (hb x (by simp))) (fun y hy => hb y (by simp [hy]))
  | swap x y l => intro g h hb; exact fold_eq0 (put_comm h (hb y (by simp)) (hb x (by simp))) l
  | trans p1 p2 ih1 ih2 => intro g h hb; exact (ih1 h hb).trans (ih2 h (fun y hy => hb y (p1.mem_iff.2 hy)))
theorem Inv.merge {g o : G} (h : Inv g) (k : Inv o) (hs : g.bs = o.bs) : Inv (mgF g o) := by
  obtain ⟨⟨M, ok⟩, nz⟩ := h
  obtain ⟨⟨M', ok'⟩, nz'⟩ := k
  exact ⟨⟨_, ok.merge ok' (by rw [hs])⟩, nz.merge nz' ok.n.1 ok'.n.1 ok.lo⟩
theorem merge_is {a b : G} (ha : Inv a) (hb : Inv b) : (mgF a b).l.lo = (if a.l.n = 0 then b.l.lo else if b.l.n = 0 then a.l.lo else mn a.l.lo b.l.lo) ∧ (mgF a b).l.hi = (if a.l.n = 0 then b.l.hi else if b.l.n = 0 then a.l.hi else mx a.l.hi b.l.hi) := by
  obtain ⟨⟨M, ok⟩, nz⟩ := ha
  have he := ends_is (a := a.l) (b := b.l) nz.1 hb.2.1 ok.lo
  refine ⟨?_, ?_⟩
  · show (endsF a.l b.l).1 = _
    rw [he]; split; rfl; split <;> rfl
  · show (endsF a.l b.l).2 = _
    rw [he]; split; rfl; split <;> rfl
theorem add_set (a b : List Int) (h : a.length = b.length) (i : Nat) (hi : i < b.length) : addL a (b.set i (b.getD i 0 + 1)) = (addL a b).set i ((addL a b).getD i 0 + 1) := by
  apply List.ext_getElem
  · simp [addL]
  · intro j h1 h2
    simp only [addL, List.getElem_zipWith, List.getElem_set]
    by_cases e : i = j
    · subst e
      simp [hi, show i < a.length by omega, List.getElem?_zipWith]
      omega
    · simp [e]
theorem merge_put {a b : G} (ha : Inv a) (hb : Inv b) (hs : a.bs = b.bs) {y : Nat} (hy : y < 18446744073709551616) : Eq0 (mgF a (putF b y)) (putF (mgF a b) y) := by
  have hm := ha.merge hb hs
  cases hn : nanB y
  · obtain ⟨a1, a2, a3, a4, a5, a6⟩ := put_num hb hy hn
    obtain ⟨c1, c2, c3, c4, c5, c6⟩ := put_num hm hy hn
    obtain ⟨d1, d2⟩ := merge_is ha (hb.put hy)
    obtain ⟨e1, e2⟩ := merge_is ha hb
    have hnb := hb.1.choose_spec.n.1
    have hna := ha.1.choose_spec.n.1
    have hcl := hb.1.choose_spec.cl
    have hcl' := ha.1.choose_spec.cl
    have hx := ix_le b.bs y
    have hmn : (mgF a b).l.n = a.l.n + b.l.n := rfl
    refine ⟨by rw [c1]; rfl, ?_, ?_, ?_, ?_, ?_⟩
    · rw [c2]
      show addL a.cs (putF b y).cs = (addL a.cs b.cs).set (ixB a.bs y) ((addL a.cs b.cs).getD (ixB a.bs y) 0 + 1)
      rw [a2, hs]
      exact add_set _ _ (by rw [hcl, hcl', hs]) _ (by rw [hcl]; omega)
    · rw [c3]
      show a.l.n + (putF b y).l.n = a.l.n + b.l.n + 1
      rw [a3]; omega
    · rw [c4]
      show a.l.na + (putF b y).l.na = a.l.na + b.l.na
      rw [a4]
    · rw [c5, d1, a3, a5, hmn, e1]
      by_cases h1 : a.l.n = 0
      · rw [if_pos h1, if_pos h1]
        by_cases h2 : b.l.n = 0
        · rw [if_pos h2, if_pos (by omega)]
        · rw [if_neg h2, if_neg (by omega)]
      · rw [if_neg h1, if_neg h1, if_neg (show ¬ (b.l.n + 1 = 0) by omega), if_neg (show ¬ (a.l.n + b.l.n = 0) by omega)]
        by_cases h2 : b.l.n = 0
        · rw [if_pos h2, if_pos h2]
        · rw [if_neg h2, if_neg h2, mn_assoc]
    · rw [c6, d2, a3, a6, hmn, e2]
      by_cases h1 : a.l.n = 0
      · rw [if_pos h1, if_pos h1]
        by_cases h2 : b.l.n = 0
        · rw [if_pos h2, if_pos (by omega)]
        · rw [if_neg h2, if_neg (by omega)]
      · rw [if_neg h1, if_neg h1, if_neg (show ¬ (b.l.n + 1 = 0) by omega), if_neg (show ¬ (a.l.n + b.l.n = 0) by omega)]
        by_cases h2 : b.l.n = 0
        · rw [if_pos h2, if_pos h2]
        · rw [if_neg h2, if_neg h2, mx_assoc]
  · rw [put_nan hn, put_nan hn]
    exact ⟨rfl, rfl, rfl, by show a.l.na + (b.l.na + 1) = a.l.na + b.l.na + 1; omega, rfl, rfl⟩
theorem merge_fold {a b : G} (ha : Inv a) (hb : Inv b) (hs : a.bs = b.bs) {ys : List Nat} (hy : Bs ys) : Eq0 (mgF a (ys.foldl putF b)) (ys.foldl putF (mgF a b)) := by
  induction ys generalizing b with
  | nil => exact Eq0.refl _
  | cons y r ih =>
    refine (ih (hb.put (hy y (by simp))) (by rw [put_bs]; exact hs) (fun z hz => hy z (by simp [hz]))).trans ?_
    exact fold_eq0 (merge_put ha hb hs (hy y (by simp))) r
theorem add_zeros (a : List Int) (n : Nat) (h : a.length = n) : addL a (List.replicate n 0) = a := by
  apply List.ext_getElem
  · simp [addL, h]
  · intro j h1 h2
    simp [addL]
theorem merge_g0 {a : G} (ha : Inv a) : Eq0 (mgF a (g0 a.bs)) a := by
  have hcl := ha.1.choose_spec.cl
  have hk : Inv (g0 a.bs) := ⟨⟨0, Ok.new ha.1.choose_spec.len ha.1.choose_spec.bs ha.1.choose_spec.rs⟩, nz0 _⟩
  obtain ⟨e1, e2⟩ := merge_is ha hk
  refine ⟨rfl, add_zeros _ _ hcl, by show a.l.n + 0 = _; omega, by show a.l.na + 0 = _; omega, ?_, ?_⟩
  · rw [e1]
    split
    · rename_i h; rw [(ha.2.2 h).1]; rfl
    · rfl
  · rw [e2]
    split
    · rename_i h; rw [(ha.2.2 h).2]; rfl
    · rfl
/-- Two merged are one that was told all, in whatever order. -/
theorem merged_all {bo xs ys zs : List Nat} (h : Inv (g0 bo)) (hx : Bs xs) (hy : Bs ys) (hz : (xs ++ ys).Perm zs) : Eq0 (mgF (xs.foldl putF (g0 bo)) (ys.foldl putF (g0 bo))) (zs.foldl putF (g0 bo)) := by
  have hX := fold_inv h hx
  have hb : ∀ (g : G) (l : List Nat), (l.foldl putF g).bs = g.bs := by
    intro g l
    induction l generalizing g with
    | nil => rfl
    | cons x r ih => rw [List.foldl_cons, ih, put_bs]
  have hbx := hb (g0 bo) xs
  refine (merge_fold hX h hbx hy).trans ?_
  have e : Eq0 (mgF (xs.foldl putF (g0 bo)) (g0 bo)) (xs.foldl putF (g0 bo)) := by
    have := merge_g0 hX
    rwa [hbx] at this
  refine (fold_eq0 e ys).trans ?_
  rw [← List.foldl_append]
  exact fold_perm hz h (fun b hb' => by
    rcases List.mem_append.1 hb' with q | q
    · exact hx b q
    · exact hy b q)
end Go.Proofs.Ytjkdhckhokkefaa.Gg

/-
  Cells sum to the count; quantiles rise.
-/
namespace Go.Proofs.Ytjkdhckhokkefaa.Gg
open Go.RowKit Rl
set_option linter.unusedVariables false
set_option maxRecDepth 100000
theorem sum_set1 (l : List Int) (i : Nat) (hi : i < l.length) : (l.set i (l.getD i 0 + 1)).sum = l.sum + 1 := by
  induction l generalizing i with
  | nil => simp at hi
  | cons a r ih =>
    cases i with
    | zero => simp; omega
    | succ i =>
      have := ih i (by simpa using hi)
      simp only [List.set_cons_succ, List.sum_cons, List.getD_cons_succ]
      rw [this]
      omega
/-- What is so of every gauge that was told numbers. -/
structure Tl (g : G) : Prop where
  inv : Inv g
  sum : g.cs.sum = g.l.n
  top : 0 < g.cs.getD g.bs.length 0 → g.l.n ≠ 0 ∧ ∀ b ∈ g.bs, keyB b < keyB g.l.hi
theorem mx_ge (a b : Nat) : keyB a ≤ keyB (mx a b) ∧ keyB b ≤ keyB (mx a b) := by
  unfold mx
  split <;> omega
theorem ix_all {l : List Nat} {x : Nat} (h : ixB l x = l.length) : ∀ b ∈ l, keyB b < keyB x := by
  intro b hb
  obtain ⟨i, hi, rfl⟩ := List.getElem_of_mem hb
  have := ix_low l x i (by omega)
  simpa [hi] using this
theorem Tl.put {g : G} (h : Tl g) {x : Nat} (hx : x < 18446744073709551616) : Tl (putF g x) := by
  cases hn : nanB x
  · obtain ⟨a1, a2, a3, a4, a5, a6⟩ := put_num h.inv hx hn
    have hcl := h.inv.1.choose_spec.cl
    have hnn := h.inv.1.choose_spec.n.1
    have hix := ix_le g.bs x
    have hil : ixB g.bs x < g.cs.length := by rw [hcl]; omega
    refine ⟨h.inv.put hx, by rw [a2, a3, sum_set1 _ _ hil, h.sum], ?_⟩
    rw [a1, a2, a3, a6]
    intro ht
    refine ⟨by omega, fun b hb => ?_⟩
    by_cases e : ixB g.bs x = g.bs.length
    · have h1 := ix_all e b hb
      split
      · exact h1
      · have := (mx_ge g.l.hi x).2; omega
    · have h2 : (g.cs.set (ixB g.bs x) (g.cs.getD (ixB g.bs x) 0 + 1)).getD g.bs.length 0 = g.cs.getD g.bs.length 0 := by simp [List.getElem?_set_ne e]
      rw [h2] at ht
      obtain ⟨h3, h4⟩ := h.top ht
      rw [if_neg h3]
      have := (mx_ge g.l.hi x).1
      have := h4 b hb
      omega
  · have hp := h.inv.put hx
    rw [put_nan hn] at hp ⊢
    exact ⟨hp, h.sum, h.top⟩
theorem sum_zeros (n : Nat) : (List.replicate n (0 : Int)).sum = 0 := by
  induction n with
  | zero => rfl
  | succ n ih => rw [List.replicate_succ, List.sum_cons, ih]; rfl
theorem Tl.new {l : List Nat} (hl : l.length ≤ 64) (hb : Bs l) (hr : Rises l) : Tl (g0 l) := by
  refine ⟨⟨⟨0, Ok.new hl hb hr⟩, nz0 l⟩, sum_zeros _, fun h => ?_⟩
  simp [g0] at h
theorem Tl.fold {g : G} (h : Tl g) {xs : List Nat} (hb : Bs xs) : Tl (xs.foldl putF g) := by
  induction xs generalizing g with
  | nil => exact h
  | cons x r ih => exact ih (h.put (hb x (by simp))) (fun y hy => hb y (by simp [hy]))
theorem told_count (g : G) (xs : List Nat) : (xs.foldl putF g).l.n + (xs.foldl putF g).l.na = g.l.n + g.l.na + (xs.length : Int) := by
  induction xs generalizing g with
  | nil => simp
  | cons x r ih =>
    rw [List.foldl_cons, ih]
    have : (putF g x).l.n + (putF g x).l.na = g.l.n + g.l.na + 1 := by
      unfold putF
      split
      · show g.l.n + (g.l.na + 1) = _; omega
      · show g.l.n + 1 + g.l.na = _; omega
    rw [this]
    simp
    omega
theorem up_mono' {V V' : Nat} (h : V ≤ V') : upU V ≤ upU V' := by
  unfold upU
  have hU := Nat.two_pow_pos 1074
  generalize 2 ^ 1074 = U at *
  have h1 : V / U ≤ V' / U := Nat.div_le_div_right h
  have h2 : (V % U != 0).toNat ≤ 1 := by cases (V % U != 0) <;> simp
  rcases Nat.lt_or_eq_of_le h1 with q | q
  · omega
  · by_cases h3 : V % U = 0
    · have : (V % U != 0) = false := by simp [h3]
      rw [this]
      show V / U + 0 ≤ _
      omega
    · have d1 := Nat.div_add_mod V U
      have d2 := Nat.div_add_mod V' U
      have : (V' % U != 0) = true := by
        simp
        rw [q] at d1
        omega
      rw [this, q]
      show _ ≤ _ + 1
      omega
theorem rk_mono {p q n : Nat} (h : magB (p % 9223372036854775808) ≤ magB (q % 9223372036854775808)) : rkF p n ≤ rkF q n := by
  unfold rkF prB
  have := up_mono' (mag_le (round_mono (Nat.mul_le_mul_right n h)))
  omega
/-- Quantiles rise. -/
theorem pick_ge {bs : List Nat} : ∀ {cs : List Int} {acc r : Int} {hi b0 : Nat}, cs.length = bs.length + 1 → acc < r → r ≤ acc + cs.sum → (∀ b ∈ bs, keyB b0 ≤ keyB b) → (0 < cs.getD bs.length 0 → keyB b0 ≤ keyB hi) → keyB b0 ≤ keyB (pick bs cs acc r hi) := by
  induction bs with
  | nil =>
    intro cs acc r hi b0 hl h1 h2 _ h4
    obtain ⟨c, rfl⟩ : ∃ c, cs = [c] := by
      cases cs with
      | nil => simp at hl
      | cons c r => cases r with
        | nil => exact ⟨c, rfl⟩
        | cons _ _ => simp at hl
    unfold pick
    refine h4 ?_
    simp at h2 ⊢
    omega
  | cons b bs ih =>
    intro cs acc r hi b0 hl h1 h2 h3 h4
    cases cs with
    | nil => simp at hl
    | cons c cs =>
      unfold pick
      split
      · exact h3 b (by simp)
      · refine ih (by simpa using hl) (by omega) (by simp at h2; omega) (fun b' hb' => h3 b' (by simp [hb'])) ?_
        simpa using h4
theorem rises_tail {b : Nat} {bs : List Nat} (h : ∀ i j, i < j → j < (b :: bs).length → keyB ((b :: bs).getD i 0) < keyB ((b :: bs).getD j 0)) : (∀ b' ∈ bs, keyB b ≤ keyB b') ∧ ∀ i j, i < j → j < bs.length → keyB (bs.getD i 0) < keyB (bs.getD j 0) := by
  refine ⟨fun b' hb' => ?_, fun i j hij hj => ?_⟩
  · obtain ⟨i, hi, rfl⟩ := List.getElem_of_mem hb'
    have := h 0 (i + 1) (by omega) (by simp; omega)
    simp [hi] at this
    omega
  · have := h (i + 1) (j + 1) (by omega) (by simp; omega)
    simpa using this
theorem pick_mono {bs : List Nat} : ∀ {cs : List Int} {acc r r' : Int} {hi : Nat}, (∀ i j, i < j → j < bs.length → keyB (bs.getD i 0) < keyB (bs.getD j 0)) → cs.length = bs.length + 1 → r ≤ r' → r' ≤ acc + cs.sum → (0 < cs.getD bs.length 0 → ∀ b ∈ bs, keyB b < keyB hi) → keyB (pick bs cs acc r hi) ≤ keyB (pick bs cs acc r' hi) := by
  induction bs with
  | nil => intro cs acc r r' hi _ _ _ _ _; unfold pick; exact Nat.le_refl _
  | cons b bs ih =>
    intro cs acc r r' hi hr hl h1 h2 h4
    cases cs with
    | nil => simp at hl
    | cons c cs =>
      obtain ⟨t1, t2⟩ := rises_tail hr
      unfold pick
      by_cases e : r ≤ acc + c
      · rw [if_pos e]
        by_cases e' : r' ≤ acc + c
        · rw [if_pos e']; exact Nat.le_refl _
        · rw [if_neg e']
          refine pick_ge (by simpa using hl) (by omega) (by simp at h2; omega) t1 (fun ht => ?_)
          have := h4 (by simpa using ht) b (by simp)
          omega
      · rw [if_neg e, if_neg (by omega)]
        refine ih t2 (by simpa using hl) h1 (by simp at h2; omega) (fun ht b' hb' => h4 (by simpa using ht) b' (by simp [hb']))
theorem sg_mag {b : Nat} (hb : b < 18446744073709551616) (h : 0 ≤ sg b) : sg b = (magB (b % 9223372036854775808) : Int) := by
  have e := sg_eq hb
  rw [e] at h ⊢
  split at h
  · rename_i hs
    rw [if_pos hs]
    omega
  · rename_i hs
    rw [if_neg hs]
/-- Two parts, the one not above the other. -/
theorem parts {p q : Nat} (hp : p < 18446744073709551616) (hq : q < 18446744073709551616) (h1 : (FloatKind.f64.format.order p 0 == some .gt || FloatKind.f64.format.order p 0 == some .eq) = true) (h2 : (FloatKind.f64.format.order q p == some .gt || FloatKind.f64.format.order q p == some .eq) = true) (h3 : (FloatKind.f64.format.order q 4607182418800017408 == some .lt || FloatKind.f64.format.order q 4607182418800017408 == some .eq) = true) : qB p = true ∧ qB q = true ∧ magB (p % 9223372036854775808) ≤ magB (q % 9223372036854775808) := by
  have np : nanB p = false := by
    cases hn : nanB p
    · rfl
    · rw [order_nan (.inl hn)] at h1; simp at h1
  have nq : nanB q = false := by
    cases hn : nanB q
    · rfl
    · rw [order_nan (.inl hn)] at h3; simp at h3
  have n0 : nanB 0 = false := by decide
  have n1 : nanB 4607182418800017408 = false := by decide
  have s0 : sg 0 = 0 := by unfold sg; rw [if_pos (by omega), mag_zero]; rfl
  have g1 : 0 ≤ sg p := by
    rw [order_eq hp (by omega) np n0, s0] at h1
    rcases Int.lt_or_le (sg p) 0 with c | c
    · rw [Int.compare_eq_lt.2 c] at h1; simp at h1
    · exact c
  have g2 : sg p ≤ sg q := by
    rw [order_eq hq hp nq np] at h2
    rcases Int.lt_or_le (sg q) (sg p) with c | c
    · rw [Int.compare_eq_lt.2 c] at h2; simp at h2
    · exact c
  have g3 : sg q ≤ sg 4607182418800017408 := by
    rw [order_eq hq (by omega) nq n1] at h3
    rcases Int.lt_or_le (sg 4607182418800017408) (sg q) with c | c
    · rw [Int.compare_eq_gt.2 c] at h3; simp at h3
    · exact c
  have oz : ∀ b, b < 18446744073709551616 → nanB b = false → 0 ≤ sg b → (ordZ b == some .gt || ordZ b == some .eq) = true := fun b hb nb c => by
    unfold ordZ
    rw [order_eq hb (by omega) nb n0, s0]
    rcases Int.lt_or_eq_of_le c with d | d
    · rw [Int.compare_eq_gt.2 d]; rfl
    · rw [← d]; rfl
  have oo : ∀ b, b < 18446744073709551616 → nanB b = false → sg b ≤ sg 4607182418800017408 → (ordO b == some .lt || ordO b == some .eq) = true := fun b hb nb c => by
    unfold ordO
    rw [order_eq hb (by omega) nb n1]
    rcases Int.lt_or_eq_of_le c with d | d
    · rw [Int.compare_eq_lt.2 d]; rfl
    · rw [Int.compare_eq_eq.2 d]; rfl
  have fin : ∀ b, b < 18446744073709551616 → nanB b = false → 0 ≤ sg b → sg b ≤ sg 4607182418800017408 → qB b = true := fun b hb nb c d => by
    rcases q_order hb with ⟨e, _, _⟩ | ⟨_, e | e⟩
    · exact e
    · rw [oz b hb nb c] at e; cases e
    · rw [oo b hb nb d] at e; cases e
  refine ⟨fin p hp np g1 (by omega), fin q hq nq (by omega) g3, ?_⟩
  have e1 := sg_mag hp g1
  have e2 := sg_mag hq (by omega)
  omega
/-- Quantiles of a gauge rise. -/
theorem qt_mono {g : G} (h : Tl g) {p q : Nat} (hp : qB p = true) (hq : qB q = true) (hm : magB (p % 9223372036854775808) ≤ magB (q % 9223372036854775808)) (hn : g.l.n ≠ 0) (hb : g.l.n ≤ 1000000000) : (qtF g p).2 = 0 ∧ (qtF g q).2 = 0 ∧ cmpB (qtF g p).1 (qtF g q).1 ≤ 0 := by
  have e1 : qtF g p = (pick g.bs g.cs 0 ((rkF p g.l.n.toNat : Nat) : Int) g.l.hi, 0) := by unfold qtF; rw [if_neg (by simp [hp]), if_neg hn]
  have e2 : qtF g q = (pick g.bs g.cs 0 ((rkF q g.l.n.toNat : Nat) : Int) g.l.hi, 0) := by unfold qtF; rw [if_neg (by simp [hq]), if_neg hn]
  rw [e1, e2]
  refine ⟨rfl, rfl, ?_⟩
  obtain ⟨⟨M, ok⟩, nz⟩ := h.inv
  have h0 := ok.n.1
  have hr := rk_mono (n := g.l.n.toNat) hm
  have hle : rkF q g.l.n.toNat ≤ g.l.n.toNat := by
    unfold rkF
    have := rk_le hq (n := g.l.n.toNat) (by omega)
    omega
  have key := pick_mono (bs := g.bs) (cs := g.cs) (acc := 0) (r := (rkF p g.l.n.toNat : Nat)) (r' := (rkF q g.l.n.toNat : Nat)) (hi := g.l.hi) (fun i j => rises_lt ok.rs) ok.cl (by omega) (by rw [h.sum]; omega) (fun ht b hb' => (h.top ht).2 b hb')
  unfold cmpB cmpZ
  simp only
  split
  · omega
  · split <;> omega
theorem Tl.eq0 {g h : G} (t : Tl h) (e : Eq0 g h) (hi : Inv g) : Tl g := by
  refine ⟨hi, by rw [e.cs, e.n]; exact t.sum, ?_⟩
  rw [e.bs, e.cs, e.n, e.hi]
  exact t.top
end Go.Proofs.Ytjkdhckhokkefaa.Gg

/-
  Four gauges side by side: the program's and the document's, twice.
-/
namespace Go.Proofs.Ytjkdhckhokkefaa.Gg
open Go.RowKit Rl
set_option linter.unusedVariables false
set_option maxRecDepth 100000
def eP (b : Nat) (vb vc : Value) : E := ⟨64, b, vb, vc⟩
def eR (b : Nat) (vb vc : Value) : E := ⟨66, b, vb, vc⟩
theorem Ens.but {W w w' : World} {l : List (E × G)} {X : Nat → Prop} (h : Ens W w l) (hb : But X w w') (hx : ∀ p ∈ l, ∀ k, p.1.own k → ¬ X k) (hl : ∀ k, X k → W.heap.size ≤ k) : Ens W w' l :=
  ⟨fun p hp => (h.all p hp).but hb (hx p hp), h.low, h.dis, h.bel.trans (hb.below h.bel.size hl)⟩
/-- Where the four lie. -/
structure Pl where
  b1 : Nat
  a1 : Value
  c1 : Value
  b2 : Nat
  a2 : Value
  c2 : Value
  b3 : Nat
  a3 : Value
  c3 : Value
  b4 : Nat
  a4 : Value
  c4 : Value
def Q4 (W w : World) (p : Pl) (G1 G2 G3 G4 : G) (lx : List (E × G)) : Prop := Ens W w ([(eP p.b1 p.a1 p.c1, G1), (eR p.b2 p.a2 p.c2, G2), (eP p.b3 p.a3 p.c3, G3), (eR p.b4 p.a4 p.c4, G4)] ++ lx)
variable {W w w' : World} {p : Pl} {G1 G2 G3 G4 g' : G} {lx : List (E × G)}
theorem Q4.bel (h : Q4 W w p G1 G2 G3 G4 lx) : Below W.heap.size W w := Ens.bel h
theorem Q4.below (h : Q4 W w p G1 G2 G3 G4 lx) (hb : Below w.heap.size w w') : Q4 W w' p G1 G2 G3 G4 lx := Ens.below h hb
theorem Q4.a1 (h : Q4 W w p G1 G2 G3 G4 lx) : At 64 w p.b1 G1 p.a1 p.c1 := Ens.all h (eP p.b1 p.a1 p.c1, G1) (by simp)
theorem Q4.a2 (h : Q4 W w p G1 G2 G3 G4 lx) : At 66 w p.b2 G2 p.a2 p.c2 := Ens.all h (eR p.b2 p.a2 p.c2, G2) (by simp)
theorem Q4.a3 (h : Q4 W w p G1 G2 G3 G4 lx) : At 64 w p.b3 G3 p.a3 p.c3 := Ens.all h (eP p.b3 p.a3 p.c3, G3) (by simp)
theorem Q4.a4 (h : Q4 W w p G1 G2 G3 G4 lx) : At 66 w p.b4 G4 p.a4 p.c4 := Ens.all h (eR p.b4 p.a4 p.c4, G4) (by simp)
theorem Q4.t1 (h : Q4 W w p G1 G2 G3 G4 lx) (ha : At 64 w' p.b1 g' p.a1 p.c1) (hb : But (Tur p.b1 p.c1) w w') : Q4 W w' p g' G2 G3 G4 lx := Ens.turn [] (e := eP p.b1 p.a1 p.c1) (g := G1) h hb ha
theorem Q4.t2 (h : Q4 W w p G1 G2 G3 G4 lx) (ha : At 66 w' p.b2 g' p.a2 p.c2) (hb : But (Tur p.b2 p.c2) w w') : Q4 W w' p G1 g' G3 G4 lx := Ens.turn [(eP p.b1 p.a1 p.c1, G1)] (e := eR p.b2 p.a2 p.c2) (g := G2) h hb ha
theorem Q4.t3 (h : Q4 W w p G1 G2 G3 G4 lx) (ha : At 64 w' p.b3 g' p.a3 p.c3) (hb : But (Tur p.b3 p.c3) w w') : Q4 W w' p G1 G2 g' G4 lx := Ens.turn [(eP p.b1 p.a1 p.c1, G1), (eR p.b2 p.a2 p.c2, G2)] (e := eP p.b3 p.a3 p.c3) (g := G3) h hb ha
theorem Q4.t4 (h : Q4 W w p G1 G2 G3 G4 lx) (ha : At 66 w' p.b4 g' p.a4 p.c4) (hb : But (Tur p.b4 p.c4) w w') : Q4 W w' p G1 G2 G3 g' lx := Ens.turn [(eP p.b1 p.a1 p.c1, G1), (eR p.b2 p.a2 p.c2, G2), (eP p.b3 p.a3 p.c3, G3)] (e := eR p.b4 p.a4 p.c4) (g := G4) h hb ha
/-- What New answers: its error's number. -/
def codeN (l : List Nat) : Int := if 64 < l.length then 9 else if (List.range l.length).all (okAt l) then 0 else 1
theorem code_rises {l : List Nat} : (List.range l.length).all (okAt l) = true ↔ Rises l := by
  rw [List.all_eq_true]
  exact ⟨fun h i hi => h i (List.mem_range.2 hi), fun h i hi => h i (List.mem_range.1 hi)⟩
theorem code_many {l : List Nat} (h : 64 < l.length) : codeN l = 9 := by unfold codeN; rw [if_pos h]
theorem code_bad {l : List Nat} (h : l.length ≤ 64) (hr : ¬ Rises l) : codeN l = 1 := by
  unfold codeN
  rw [if_neg (by omega), if_neg (fun c => hr (code_rises.1 c))]
theorem code_ok {l : List Nat} (h : l.length ≤ 64) (hr : Rises l) : codeN l = 0 := by
  unfold codeN
  rw [if_neg (by omega), if_pos (code_rises.2 hr)]
theorem code_inv {l : List Nat} (h : codeN l = 0) : l.length ≤ 64 ∧ Rises l := by
  by_cases h1 : 64 < l.length
  · rw [code_many h1] at h; omega
  · by_cases h2 : Rises l
    · exact ⟨by omega, h2⟩
    · rw [code_bad (by omega) h2] at h; omega
theorem new_code (w : World) (v : Value) (l : List Nat) (hx : Row w v (fvals l)) (hb : Bs l) :
    Calls Try.prog 10 #[v] w fun e w' => ∃ po, e = .returned (.tuple #[.pointer po, .int .i64 (codeN l)]) ∧ Below w.heap.size w w' ∧ (codeN l ≠ 0 → po = none) ∧ (codeN l = 0 → ∃ b vb vc, po = some ⟨b, 0, none⟩ ∧ (eP b vb vc).at_ w' (g0 l) ∧ ∀ k, (eP b vb vc).own k → w.heap.size ≤ k) := by
  refine (new_any w v l hx hb).mono ?_
  rintro e w' ⟨b0, ⟨h1, rfl⟩ | ⟨h1, h2, rfl⟩ | ⟨h1, h2, b, vb, vc, rfl, a, o⟩⟩
  · exact ⟨none, by rw [code_many h1], b0, fun _ => rfl, fun c => by rw [code_many h1] at c; omega⟩
  · exact ⟨none, by rw [code_bad h1 h2], b0, fun _ => rfl, fun c => by rw [code_bad h1 h2] at c; omega⟩
  · exact ⟨_, by rw [code_ok h1 h2], b0, fun c => absurd (code_ok h1 h2) c, fun _ => ⟨b, vb, vc, rfl, a, o⟩⟩
end Go.Proofs.Ytjkdhckhokkefaa.Gg

/-
  GaugeAll: its walk. (gen_GrI.py)
-/
namespace Go.Proofs.Ytjkdhckhokkefaa.Gg
open Go.RowKit Rl
set_option linter.unusedVariables false
set_option maxRecDepth 100000
theorem form_u {w : World} {v : Value} {us : List Nat} (h : Row w v (uvals us)) : ∃ ao ca, v = .slice ao us.length ca := by
  obtain ⟨ao, ca, rfl, _⟩ := h
  exact ⟨ao, ca, by simp [uvals]⟩
theorem tur_own {b : Nat} {vb vc : Value} {k : Nat} (h : Tur b vc k) : Own b vb vc k := by
  rcases h with h | h
  · exact .inl h
  · exact .inr (.inr h)
end Go.Proofs.Ytjkdhckhokkefaa.Gg
namespace Go.Proofs.Ytjkdhckhokkefaa.Gg
open Go.RowKit Rl
end Go.Proofs.Ytjkdhckhokkefaa.Gg

