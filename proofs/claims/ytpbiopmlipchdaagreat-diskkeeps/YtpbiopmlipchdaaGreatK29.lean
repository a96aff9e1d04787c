/-
  Plays: the calls that answer a number.
-/
import Derived.Test.YtpbiopmlipchdaaGreatK28
namespace Go.Proofs.YtpbiopmlipchdaaGreat.Re
open Go.RowKit Go.Maps Go.Sort Go.Shelf Go.Proofs.YtpbiopmlipchdaaGreat.Nm Go.Proofs.YtpbiopmlipchdaaGreat.Dk
open Ix (wp_region_T wpAnyT wpAnyT_take wpAnyT_one wpAnyT_done vac)
set_option linter.unusedVariables false
variable {W0 w : World} {pb b : Nat} {S : DS} {R : RB} {Q : Nat → Prop}
theorem ten_cells {q : World} {g : Nat} {a0 a1 a2 a3 a4 a5 a6 a7 a8 a9 : Value} {T : TypeId} {z : Nat × Nat} (h : q.heap[g]? = some (.cells #[a0, a1, a2, a3, a4, a5, a6, a7, a8, a9] T z)) :
    q.cell? ⟨g, 0, none⟩ = some a0 ∧ q.cell? ⟨g, 1, none⟩ = some a1 ∧ q.cell? ⟨g, 2, none⟩ = some a2 ∧ q.cell? ⟨g, 3, none⟩ = some a3 ∧ q.cell? ⟨g, 4, none⟩ = some a4 ∧ q.cell? ⟨g, 5, none⟩ = some a5 ∧ q.cell? ⟨g, 6, none⟩ = some a6 ∧ q.cell? ⟨g, 7, none⟩ = some a7 ∧ q.cell? ⟨g, 8, none⟩ = some a8 ∧ q.cell? ⟨g, 9, none⟩ = some a9 := by simp [World.cell?, h]
theorem two_cells {q : World} {g : Nat} {a0 a1 : Value} {T : TypeId} {z : Nat × Nat} (h : q.heap[g]? = some (.cells #[a0, a1] T z)) : q.cell? ⟨g, 0, none⟩ = some a0 ∧ q.cell? ⟨g, 1, none⟩ = some a1 := by simp [World.cell?, h]
def opV (o : Dop) : Value := .agg #[.int .i64 o.kind, .bool o.sec, .string o.nm, .string o.tn, o.vd, .int .i64 o.off, .int .i64 o.n, o.vf, .int .i64 o.dir, o.vk]
theorem findN_le (h : RI R) (hc : R.c7 ≤ 100000) : ∀ n, findN R.dir n ≤ 9223372036854775807 := fun n => by
  unfold findN
  cases hg : Dk.get R.dir n with
  | none => decide
  | some p => have := h.dirF _ (get_mem hg); have := h.fl; simp only at *; omega
theorem sync_dskE {O : Nat → Prop} (h : DskE w b S O) (s : ByteArray) (hs : s.size ≤ maxLen) (hc : S.c7 < 900000000) : Calls Tryz.prog 17 #[.pointer (some ⟨b, 0, none⟩), .string s] w (Does w b O (S.sync s)) := by obtain ⟨f, g, pd, am, VB, VL, hd⟩ := h; exact syncF_any hd s hs hc
theorem cut_dskE {O : Nat → Prop} (h : DskE w b S O) (s : ByteArray) (hs : s.size ≤ maxLen) (n : Int) (n0 : -9223372036854775808 ≤ n) (n1 : n ≤ 9223372036854775807) (hc : S.c7 < 900000000) : Calls Tryz.prog 49 #[.pointer (some ⟨b, 0, none⟩), .string s, .int .i64 n] w (Does w b O (S.cut s n)) := by obtain ⟨f, g, pd, am, VB, VL, hd⟩ := h; exact cutD_any hd s hs n n0 n1 hc
/-- The boxes that a region reads. -/
structure Bxs (pb ob b rb : Nat) (o : Dop) (q : World) : Prop where
  p : q.heap[pb]? = some (.cells #[.pointer (some ⟨b, 0, none⟩), .pointer (some ⟨rb, 0, none⟩)] 29 (0, 0))
  o : q.heap[ob]? = some (.cells #[.int .i64 o.kind, .bool o.sec, .string o.nm, .string o.tn, o.vd, .int .i64 o.off, .int .i64 o.n, o.vf, .int .i64 o.dir, o.vk] 36 (0, 0))
theorem Bxs.go {pb ob b rb : Nat} {o : Dop} {q q' : World} {X : Nat → Prop} (h : Bxs pb ob b rb o q) (hb : But X q q') (h1 : ¬ X pb) (h2 : ¬ X ob) : Bxs pb ob b rb o q' := ⟨hb.at h.p h1, hb.at h.o h2⟩
set_option maxRecDepth 100000 in
set_option maxHeartbeats 2000000 in
theorem pl_create (o : Dop) (hk : o.kind = 1) (h : PlI W0 w pb b S R o Q) : Calls Tryz.prog 11 #[.pointer (some ⟨pb, 0, none⟩), opV o] w (PlP w pb b S R o Q) := by
  obtain ⟨rb, O, V, hx, hQ⟩ := h.pw
  have hI := hide h
  have hpS : Hid (∀ S', (∃ p, p ∉ S.ps ∧ S' = (S.create o.nm p).1) → DS.play S o S') := fun S' hs => by unfold DS.play; rw [if_pos hk]; exact hs
  have hpR : Hid (R.play o = (R.create o.nm).1) := by show _ = _; unfold RB.play; rw [if_pos hk]
  have HX := hide hx
  have hA : Hid (∀ q, PX q pb b rb S R O V → Calls Tryz.prog 14 #[.pointer (some ⟨b, 0, none⟩), .string o.nm] q fun e w' => ∃ er S' O', e = .returned (.int .i64 er) ∧ (∃ p, p ∉ S.ps ∧ S' = (S.create o.nm p).1 ∧ er = (S.create o.nm p).2) ∧ PX w' pb b rb S' R O' V ∧ Sgo q w' (own pb O rb V) (own pb O' rb V)) := fun q hq => by
    refine (create_dsk hq.d o.nm (by have := hI.out.ok.nm; omega) (by have := hI.out.cs; omega)).mono ?_
    rintro e w' ⟨p, _, hp, rfl, O', hd, hg⟩
    obtain ⟨px, gx⟩ := hq.stepA hd hg
    exact ⟨_, _, _, rfl, ⟨p, hp, rfl, rfl⟩, px, gx⟩
  have hB : Hid (∀ q S' O', PX q pb b rb S' R O' V → Calls Tryz.prog 44 #[.pointer (some ⟨rb, 0, none⟩), .string o.nm] q fun e w' => ∃ V', e = .returned (.int .i64 (R.create o.nm).2) ∧ PX w' pb b rb S' (R.create o.nm).1 O' V' ∧ Sgo q w' (own pb O' rb V) (own pb O' rb V')) := fun q S' O' hq => by
    refine (create_rm hq.r hI.out.ri.ok (by have := hI.out.cr; omega) (by have := hI.out.ri.dlen; omega) (by have := hI.out.ri.cnt; have := hI.out.cr; omega) (by have := hI.out.ri.fl; have := hI.out.cr; omega) o.nm (by have := hI.out.ok.nm; unfold maxLen; omega)).mono ?_
    rintro e w' ⟨rfl, hg⟩
    obtain ⟨V', px, gx⟩ := hq.stepB hg
    exact ⟨V', rfl, px, gx⟩
  have hRel : Hid (∀ er S', (∃ p, p ∉ S.ps ∧ S' = (S.create o.nm p).1 ∧ er = (S.create o.nm p).2) → Rel S R → er = (R.create o.nm).2) := fun er S' hs hr => by
    obtain ⟨p, hp, _, rfl⟩ := hs; exact (hr.create o.nm hp).2
  obtain ⟨RR, hRR⟩ : ∃ RR, Hid ((R.create o.nm) = RR) := ⟨_, rfl⟩
  rw [hRR.out] at hB hRel hpR
  obtain ⟨ok, os, on, ot, ov, oD, oo, onn, of, ofs, od, ovk, oks⟩ := o
  dsimp only at hk hA hB hpS hRel
  subst hk
  have BF := hide (box_below w (.cells #[.int .i64 1, .bool os, .string on, .string ot, ov, .int .i64 oo, .int .i64 onn, of, .int .i64 od, ovk] 36))
  have NF := heap_alloc_new w (.cells #[.int .i64 1, .bool os, .string on, .string ot, ov, .int .i64 oo, .int .i64 onn, of, .int .i64 od, ovk] 36)
  have hlt := hide hx.lt
  clear hx
  unfold opV
  go_enter Tryz.func11, Tryz.ntmps11
  obtain ⟨wf, hwf⟩ : ∃ wf, Hid (w.alloc (.cells #[.int .i64 1, .bool os, .string on, .string ot, ov, .int .i64 oo, .int .i64 onn, of, .int .i64 od, ovk] 36) = wf) := ⟨_, rfl⟩
  have c0 : (w.alloc (.cells #[.int .i64 1, .bool os, .string on, .string ot, ov, .int .i64 oo, .int .i64 onn, of, .int .i64 od, ovk] 36)).cell? ⟨w.heap.size, 0, none⟩ = some (.int .i64 1) := (ten_cells NF).1
  go_upto_region 3 with fail
  rw [hwf.out] at BF NF ⊢
  have MX := hide (HX.out.below BF.out)
  have hob : Hid (¬ own pb O rb V w.heap.size) := fun c => Nat.lt_irrefl _ (hlt.out _ c)
  have B0 : Hid (Bxs pb w.heap.size b rb ⟨1, os, on, ot, ov, oD, oo, onn, of, ofs, od, ovk, oks⟩ wf) := ⟨MX.out.box, NF⟩
  have KP : Hid (Bxs pb w.heap.size b rb ⟨1, os, on, ot, ov, oD, oo, onn, of, ofs, od, ovk, oks⟩ wf.drew) := B0.out.go (But.of_below (Below.refl _ _).drew fun _ => False) (fun c => c) (fun c => c)
  have PQ : Hid (PX wf.drew pb b rb S R O V) := MX.out.below (Below.refl _ _).drew
  have GQ : Hid (Below w.heap.size w wf.drew) := BF.out.drew
  clear c0 NF
  refine wp_region_T (fun q => Bxs pb w.heap.size b rb ⟨1, os, on, ot, ov, oD, oo, onn, of, ofs, od, ovk, oks⟩ q) 15 (by kernel_rfl) ?_
  generalize wf.drew = q at *
  refine wpAnyT_take (i := 0) (oi := { dst := some 26, op := Op.move (Operand.tmp 0), type := 37, pos := "law.go:111", after := #[], guard := none }) (v := .pointer (some ⟨pb, 0, none⟩)) [1, 2, 3, 6, 14, 15] rfl (by kernel_rfl) (by kernel_rfl) (by kernel_rfl) (by kernel_rfl) (fun _ _ _ h => h) (Or.inl ⟨by rfl, ?_⟩) KP.out ?_
  · intro wq hSw
    obtain ⟨x1, x2⟩ := two_cells hSw.p
    obtain ⟨y0, y1, y2, y3, y4, y5, y6, y7, y8, y9⟩ := ten_cells hSw.o
    go_simp
  (try simp only [Act.put, List.setIfInBounds_toArray, List.set_cons_zero, List.set_cons_succ])
  refine wpAnyT_take (i := 1) (oi := { dst := some 27, op := Op.nilCheck (Operand.tmp 26), type := 0, pos := "law.go:111", after := #[{ on := 0, ground := Ground.data }], guard := none }) (v := .pointer (some ⟨pb, 0, none⟩)) [2, 3, 6, 14, 15] rfl (by kernel_rfl) (by kernel_rfl) (by kernel_rfl) (by kernel_rfl) (fun _ _ _ h => h) (Or.inl ⟨by rfl, ?_⟩) KP.out ?_
  · intro wq hSw
    obtain ⟨x1, x2⟩ := two_cells hSw.p
    obtain ⟨y0, y1, y2, y3, y4, y5, y6, y7, y8, y9⟩ := ten_cells hSw.o
    go_simp
  (try simp only [Act.put, List.setIfInBounds_toArray, List.set_cons_zero, List.set_cons_succ])
  refine wpAnyT_take (i := 2) (oi := { dst := some 28, op := Op.fieldAddr 29 (Operand.tmp 27) 0, type := 0, pos := "law.go:111", after := #[{ on := 1, ground := Ground.data }], guard := none }) (v := .pointer (some ⟨pb, 0, none⟩)) [3, 6, 14, 15] rfl (by kernel_rfl) (by kernel_rfl) (by kernel_rfl) (by kernel_rfl) (fun _ _ _ h => h) (Or.inl ⟨by rfl, ?_⟩) KP.out ?_
  · intro wq hSw
    obtain ⟨x1, x2⟩ := two_cells hSw.p
    obtain ⟨y0, y1, y2, y3, y4, y5, y6, y7, y8, y9⟩ := ten_cells hSw.o
    go_simp
  (try simp only [Act.put, List.setIfInBounds_toArray, List.set_cons_zero, List.set_cons_succ])
  refine wpAnyT_take (i := 3) (oi := { dst := some 29, op := Op.load 24 (Operand.tmp 28), type := 24, pos := "law.go:111", after := #[{ on := 2, ground := Ground.data }], guard := none }) (v := .pointer (some ⟨b, 0, none⟩)) [6, 14, 15] rfl (by kernel_rfl) (by kernel_rfl) (by kernel_rfl) (by kernel_rfl) (fun _ _ _ h => h) (Or.inl ⟨by rfl, ?_⟩) KP.out ?_
  · intro wq hSw
    obtain ⟨x1, x2⟩ := two_cells hSw.p
    obtain ⟨y0, y1, y2, y3, y4, y5, y6, y7, y8, y9⟩ := ten_cells hSw.o
    go_simp
  (try simp only [Act.put, List.setIfInBounds_toArray, List.set_cons_zero, List.set_cons_succ])
  refine wpAnyT_take (i := 4) (oi := { dst := some 30, op := Op.fieldAddr 36 (Operand.tmp 3) 2, type := 0, pos := "law.go:111", after := #[], guard := none }) (v := .pointer (some ⟨w.heap.size, 2, none⟩)) [5, 6, 14, 15] rfl (by kernel_rfl) (by kernel_rfl) (by kernel_rfl) (by kernel_rfl) (fun _ _ _ h => h) (Or.inl ⟨by rfl, ?_⟩) KP.out ?_
  · intro wq hSw
    obtain ⟨x1, x2⟩ := two_cells hSw.p
    obtain ⟨y0, y1, y2, y3, y4, y5, y6, y7, y8, y9⟩ := ten_cells hSw.o
    go_simp
  (try simp only [Act.put, List.setIfInBounds_toArray, List.set_cons_zero, List.set_cons_succ])
  refine wpAnyT_take (i := 5) (oi := { dst := some 31, op := Op.load 9 (Operand.tmp 30), type := 9, pos := "law.go:111", after := #[{ on := 4, ground := Ground.data }], guard := none }) (v := .string on) [6, 14, 15] rfl (by kernel_rfl) (by kernel_rfl) (by kernel_rfl) (by kernel_rfl) (fun _ _ _ h => h) (Or.inl ⟨by rfl, ?_⟩) KP.out ?_
  · intro wq hSw
    obtain ⟨x1, x2⟩ := two_cells hSw.p
    obtain ⟨y0, y1, y2, y3, y4, y5, y6, y7, y8, y9⟩ := ten_cells hSw.o
    go_simp
  (try simp only [Act.put, List.setIfInBounds_toArray, List.set_cons_zero, List.set_cons_succ])
  refine wpAnyT_take (i := 7) (oi := { dst := some 33, op := Op.move (Operand.tmp 0), type := 37, pos := "law.go:111", after := #[], guard := none }) (v := .pointer (some ⟨pb, 0, none⟩)) [8, 9, 10, 13, 14, 15] rfl (by kernel_rfl) (by kernel_rfl) (by kernel_rfl) (by kernel_rfl) (fun _ _ _ h => h) (Or.inl ⟨by rfl, ?_⟩) KP.out ?_
  · intro wq hSw
    obtain ⟨x1, x2⟩ := two_cells hSw.p
    obtain ⟨y0, y1, y2, y3, y4, y5, y6, y7, y8, y9⟩ := ten_cells hSw.o
    go_simp
  (try simp only [Act.put, List.setIfInBounds_toArray, List.set_cons_zero, List.set_cons_succ])
  refine wpAnyT_take (i := 8) (oi := { dst := some 34, op := Op.nilCheck (Operand.tmp 33), type := 0, pos := "law.go:111", after := #[{ on := 7, ground := Ground.data }], guard := none }) (v := .pointer (some ⟨pb, 0, none⟩)) [9, 10, 13, 14, 15] rfl (by kernel_rfl) (by kernel_rfl) (by kernel_rfl) (by kernel_rfl) (fun _ _ _ h => h) (Or.inl ⟨by rfl, ?_⟩) KP.out ?_
  · intro wq hSw
    obtain ⟨x1, x2⟩ := two_cells hSw.p
    obtain ⟨y0, y1, y2, y3, y4, y5, y6, y7, y8, y9⟩ := ten_cells hSw.o
    go_simp
  (try simp only [Act.put, List.setIfInBounds_toArray, List.set_cons_zero, List.set_cons_succ])
  refine wpAnyT_take (i := 9) (oi := { dst := some 35, op := Op.fieldAddr 29 (Operand.tmp 34) 1, type := 0, pos := "law.go:111", after := #[{ on := 8, ground := Ground.data }], guard := none }) (v := .pointer (some ⟨pb, 1, none⟩)) [10, 13, 14, 15] rfl (by kernel_rfl) (by kernel_rfl) (by kernel_rfl) (by kernel_rfl) (fun _ _ _ h => h) (Or.inl ⟨by rfl, ?_⟩) KP.out ?_
  · intro wq hSw
    obtain ⟨x1, x2⟩ := two_cells hSw.p
    obtain ⟨y0, y1, y2, y3, y4, y5, y6, y7, y8, y9⟩ := ten_cells hSw.o
    go_simp
  (try simp only [Act.put, List.setIfInBounds_toArray, List.set_cons_zero, List.set_cons_succ])
  refine wpAnyT_take (i := 10) (oi := { dst := some 36, op := Op.load 26 (Operand.tmp 35), type := 26, pos := "law.go:111", after := #[{ on := 9, ground := Ground.data }], guard := none }) (v := .pointer (some ⟨rb, 0, none⟩)) [13, 14, 15] rfl (by kernel_rfl) (by kernel_rfl) (by kernel_rfl) (by kernel_rfl) (fun _ _ _ h => h) (Or.inl ⟨by rfl, ?_⟩) KP.out ?_
  · intro wq hSw
    obtain ⟨x1, x2⟩ := two_cells hSw.p
    obtain ⟨y0, y1, y2, y3, y4, y5, y6, y7, y8, y9⟩ := ten_cells hSw.o
    go_simp
  (try simp only [Act.put, List.setIfInBounds_toArray, List.set_cons_zero, List.set_cons_succ])
  refine wpAnyT_take (i := 11) (oi := { dst := some 37, op := Op.fieldAddr 36 (Operand.tmp 3) 2, type := 0, pos := "law.go:111", after := #[], guard := none }) (v := .pointer (some ⟨w.heap.size, 2, none⟩)) [12, 13, 14, 15] rfl (by kernel_rfl) (by kernel_rfl) (by kernel_rfl) (by kernel_rfl) (fun _ _ _ h => h) (Or.inl ⟨by rfl, ?_⟩) KP.out ?_
  · intro wq hSw
    obtain ⟨x1, x2⟩ := two_cells hSw.p
    obtain ⟨y0, y1, y2, y3, y4, y5, y6, y7, y8, y9⟩ := ten_cells hSw.o
    go_simp
  (try simp only [Act.put, List.setIfInBounds_toArray, List.set_cons_zero, List.set_cons_succ])
  refine wpAnyT_take (i := 12) (oi := { dst := some 38, op := Op.load 9 (Operand.tmp 37), type := 9, pos := "law.go:111", after := #[{ on := 11, ground := Ground.data }], guard := none }) (v := .string on) [13, 14, 15] rfl (by kernel_rfl) (by kernel_rfl) (by kernel_rfl) (by kernel_rfl) (fun _ _ _ h => h) (Or.inl ⟨by rfl, ?_⟩) KP.out ?_
  · intro wq hSw
    obtain ⟨x1, x2⟩ := two_cells hSw.p
    obtain ⟨y0, y1, y2, y3, y4, y5, y6, y7, y8, y9⟩ := ten_cells hSw.o
    go_simp
  (try simp only [Act.put, List.setIfInBounds_toArray, List.set_cons_zero, List.set_cons_succ])
  refine wpAnyT_one (i := 6) (o := { dst := some 32, op := Op.call { callee := Callee.value (Operand.func 14), args := #[Operand.tmp 29, Operand.tmp 31], argTypes := #[24, 9] }, type := 41, pos := "law.go:111", after := #[{ on := 3, ground := Ground.data }, { on := 5, ground := Ground.data }], guard := none }) (by kernel_rfl) rfl (fun K hK => ?_)
  go_simp
  go_at_call 14
  refine (hA.out q PQ.out).mono ?_
  rintro e w1 ⟨er, S1, O1, rfl, hs1, P1, G1⟩
  replace P1 := hide P1
  replace G1 := hide G1
  replace hs1 := hide hs1
  have K1 : Hid (Bxs pb w.heap.size b rb ⟨1, os, on, ot, ov, oD, oo, onn, of, ofs, od, ovk, oks⟩ w1) := ⟨P1.out.box, G1.out.but.at KP.out.o hob.out⟩
  (try go_simp)
  refine hK.out _ _ (fun _ => K1.out) ?_
  clear hK K
  (try simp only [Act.put, List.setIfInBounds_toArray, List.set_cons_zero, List.set_cons_succ])
  refine wpAnyT_one (i := 13) (o := { dst := some 39, op := Op.call { callee := Callee.value (Operand.func 44), args := #[Operand.tmp 36, Operand.tmp 38], argTypes := #[26, 9] }, type := 41, pos := "law.go:111", after := #[{ on := 10, ground := Ground.data }, { on := 12, ground := Ground.data }, { on := 6, ground := Ground.chain }], guard := none }) (by kernel_rfl) rfl (fun K hK => ?_)
  go_simp
  go_at_call 44
  refine (hB.out w1 S1 O1 P1.out).mono ?_
  rintro e w2 ⟨V2, rfl, P2, G2⟩
  replace P2 := hide P2
  replace G2 := hide G2
  have hob1 : ¬ own pb O1 rb V w.heap.size := fun c => (G1.out.own _ c).elim hob.out (fun c => by have := heap_lt KP.out.o; omega)
  have K2 : Hid (Bxs pb w.heap.size b rb ⟨1, os, on, ot, ov, oD, oo, onn, of, ofs, od, ovk, oks⟩ w2) := ⟨P2.out.box, G2.out.but.at K1.out.o hob1⟩
  (try go_simp)
  refine hK.out _ _ (fun _ => K2.out) ?_
  clear hK K
  (try simp only [Act.put, List.setIfInBounds_toArray, List.set_cons_zero, List.set_cons_succ])
  refine wpAnyT_take (i := 14) (oi := { dst := some 40, op := Op.binOp BinOp.eql 41 (Operand.tmp 32) (Operand.tmp 39) 41, type := 4, pos := "law.go:111", after := #[{ on := 6, ground := Ground.data }, { on := 13, ground := Ground.data }], guard := none }) (v := .bool (er == RR.2)) [15] rfl (by kernel_rfl) (by kernel_rfl) (by kernel_rfl) (by kernel_rfl) (fun _ _ _ h => h) (Or.inl ⟨by rfl, ?_⟩) K2.out ?_
  · intro wq hSw
    obtain ⟨x1, x2⟩ := two_cells hSw.p
    obtain ⟨y0, y1, y2, y3, y4, y5, y6, y7, y8, y9⟩ := ten_cells hSw.o
    go_simp
  (try simp only [Act.put, List.setIfInBounds_toArray, List.set_cons_zero, List.set_cons_succ])
  refine wpAnyT_one (i := 15) (o := { dst := some 4, op := Op.assign (Operand.tmp 40), type := 4, pos := "law.go:111", after := #[{ on := 14, ground := Ground.data }, { on := 13, ground := Ground.chain }, { on := 0, ground := Ground.phase }, { on := 1, ground := Ground.phase }, { on := 2, ground := Ground.phase }, { on := 3, ground := Ground.phase }, { on := 4, ground := Ground.phase }, { on := 5, ground := Ground.phase }, { on := 6, ground := Ground.phase }, { on := 7, ground := Ground.phase }, { on := 8, ground := Ground.phase }, { on := 9, ground := Ground.phase }, { on := 10, ground := Ground.phase }, { on := 11, ground := Ground.phase }, { on := 12, ground := Ground.phase }, { on := 13, ground := Ground.phase }, { on := 14, ground := Ground.phase }], guard := none }) (by kernel_rfl) rfl (fun K hK => ?_)
  go_simp
  refine hK.out _ _ (vac (by kernel_rfl)) ?_
  clear hK K
  (try simp only [Act.put, List.setIfInBounds_toArray, List.set_cons_zero, List.set_cons_succ])
  refine wpAnyT_done (by kernel_rfl) ?_ _
  obtain ⟨bb, hbb⟩ : ∃ bb, Hid ((er == RR.2) = bb) := ⟨_, rfl⟩
  rw [hbb.out]
  go_wp2_with fail
  go_ret
  refine ⟨⟨bb, S1, _, b, rfl, by rw [hpR.out]; exact P2.out.toPW, ?_, hpS.out S1 ?_, fun hr => ?_, fun _ => rfl⟩⟩
  · have hG := (Sgo.of_below (O := own pb O rb V) GQ.out).trans (G1.out.trans G2.out)
    first | exact hG | (rw [hQ]; exact hG)
  · obtain ⟨p, h1, h2, _⟩ := hs1.out; exact ⟨p, h1, h2⟩
  · rw [← hbb.out]
    simpa using hRel.out er S1 hs1.out hr
set_option maxRecDepth 100000 in
set_option maxHeartbeats 2000000 in
theorem pl_sync (o : Dop) (hk : o.kind = 3) (h : PlI W0 w pb b S R o Q) : Calls Tryz.prog 11 #[.pointer (some ⟨pb, 0, none⟩), opV o] w (PlP w pb b S R o Q) := by
  obtain ⟨rb, O, V, hx, hQ⟩ := h.pw
  have hI := hide h
  have hpS : Hid (∀ S', S' = (S.sync o.nm).1 → DS.play S o S') := fun S' hs => by unfold DS.play; simp [hk, hs]
  have hpR : Hid (R.play o = (R.sync o.nm).1) := by show _ = _; unfold RB.play; simp [hk]
  have HX := hide hx
  have hA : Hid (∀ q, PX q pb b rb S R O V → Calls Tryz.prog 17 #[.pointer (some ⟨b, 0, none⟩), .string o.nm] q fun e w' => ∃ er S' O', e = .returned (.int .i64 er) ∧ (S' = (S.sync o.nm).1 ∧ er = (S.sync o.nm).2) ∧ PX w' pb b rb S' R O' V ∧ Sgo q w' (own pb O rb V) (own pb O' rb V)) := fun q hq => by
    refine (sync_dskE hq.d o.nm (by have := hI.out.ok.nm; unfold maxLen; omega) (by have := hI.out.cs; omega)).mono ?_
    rintro e w' ⟨rfl, O', hd, hg⟩
    obtain ⟨px, gx⟩ := hq.stepA hd hg
    exact ⟨_, _, _, rfl, ⟨rfl, rfl⟩, px, gx⟩
  have hB : Hid (∀ q S' O', PX q pb b rb S' R O' V → Calls Tryz.prog 48 #[.pointer (some ⟨rb, 0, none⟩), .string o.nm] q fun e w' => ∃ V', e = .returned (.int .i64 (R.sync o.nm).2) ∧ PX w' pb b rb S' (R.sync o.nm).1 O' V' ∧ Sgo q w' (own pb O' rb V) (own pb O' rb V')) := fun q S' O' hq => by
    refine (sync_rm hq.r hI.out.ri.ok (by have := hI.out.cr; omega) hI.out.ri.dirF hI.out.ri.la o.nm (by have := hI.out.ok.nm; unfold maxLen; omega)).mono ?_
    rintro e w' ⟨rfl, hg⟩
    obtain ⟨V', px, gx⟩ := hq.stepB hg
    exact ⟨V', rfl, px, gx⟩
  have hRel : Hid (∀ er S', (S' = (S.sync o.nm).1 ∧ er = (S.sync o.nm).2) → Rel S R → er = (R.sync o.nm).2) := fun er S' hs hr => by
    obtain ⟨_, rfl⟩ := hs; exact (hr.sync o.nm).2
  obtain ⟨RR, hRR⟩ : ∃ RR, Hid ((R.sync o.nm) = RR) := ⟨_, rfl⟩
  rw [hRR.out] at hB hRel hpR
  obtain ⟨ok, os, on, ot, ov, oD, oo, onn, of, ofs, od, ovk, oks⟩ := o
  dsimp only at hk hA hB hpS hRel
  subst hk
  have BF := hide (box_below w (.cells #[.int .i64 3, .bool os, .string on, .string ot, ov, .int .i64 oo, .int .i64 onn, of, .int .i64 od, ovk] 36))
  have NF := heap_alloc_new w (.cells #[.int .i64 3, .bool os, .string on, .string ot, ov, .int .i64 oo, .int .i64 onn, of, .int .i64 od, ovk] 36)
  have hlt := hide hx.lt
  clear hx
  unfold opV
  go_enter Tryz.func11, Tryz.ntmps11
  obtain ⟨wf, hwf⟩ : ∃ wf, Hid (w.alloc (.cells #[.int .i64 3, .bool os, .string on, .string ot, ov, .int .i64 oo, .int .i64 onn, of, .int .i64 od, ovk] 36) = wf) := ⟨_, rfl⟩
  have c0 : (w.alloc (.cells #[.int .i64 3, .bool os, .string on, .string ot, ov, .int .i64 oo, .int .i64 onn, of, .int .i64 od, ovk] 36)).cell? ⟨w.heap.size, 0, none⟩ = some (.int .i64 3) := (ten_cells NF).1
  go_upto_region 12 with fail
  rw [hwf.out] at BF NF ⊢
  have MX := hide (HX.out.below BF.out)
  have hob : Hid (¬ own pb O rb V w.heap.size) := fun c => Nat.lt_irrefl _ (hlt.out _ c)
  have B0 : Hid (Bxs pb w.heap.size b rb ⟨3, os, on, ot, ov, oD, oo, onn, of, ofs, od, ovk, oks⟩ wf) := ⟨MX.out.box, NF⟩
  have KP : Hid (Bxs pb w.heap.size b rb ⟨3, os, on, ot, ov, oD, oo, onn, of, ofs, od, ovk, oks⟩ wf.drew) := B0.out.go (But.of_below (Below.refl _ _).drew fun _ => False) (fun c => c) (fun c => c)
  have PQ : Hid (PX wf.drew pb b rb S R O V) := MX.out.below (Below.refl _ _).drew
  have GQ : Hid (Below w.heap.size w wf.drew) := BF.out.drew
  clear c0 NF
  refine wp_region_T (fun q => Bxs pb w.heap.size b rb ⟨3, os, on, ot, ov, oD, oo, onn, of, ofs, od, ovk, oks⟩ q) 15 (by kernel_rfl) ?_
  generalize wf.drew = q at *
  refine wpAnyT_take (i := 0) (oi := { dst := some 89, op := Op.move (Operand.tmp 0), type := 37, pos := "law.go:121", after := #[], guard := none }) (v := .pointer (some ⟨pb, 0, none⟩)) [1, 2, 3, 6, 14, 15] rfl (by kernel_rfl) (by kernel_rfl) (by kernel_rfl) (by kernel_rfl) (fun _ _ _ h => h) (Or.inl ⟨by rfl, ?_⟩) KP.out ?_
  · intro wq hSw
    obtain ⟨x1, x2⟩ := two_cells hSw.p
    obtain ⟨y0, y1, y2, y3, y4, y5, y6, y7, y8, y9⟩ := ten_cells hSw.o
    go_simp
  (try simp only [Act.put, List.setIfInBounds_toArray, List.set_cons_zero, List.set_cons_succ])
  refine wpAnyT_take (i := 1) (oi := { dst := some 90, op := Op.nilCheck (Operand.tmp 89), type := 0, pos := "law.go:121", after := #[{ on := 0, ground := Ground.data }], guard := none }) (v := .pointer (some ⟨pb, 0, none⟩)) [2, 3, 6, 14, 15] rfl (by kernel_rfl) (by kernel_rfl) (by kernel_rfl) (by kernel_rfl) (fun _ _ _ h => h) (Or.inl ⟨by rfl, ?_⟩) KP.out ?_
  · intro wq hSw
    obtain ⟨x1, x2⟩ := two_cells hSw.p
    obtain ⟨y0, y1, y2, y3, y4, y5, y6, y7, y8, y9⟩ := ten_cells hSw.o
    go_simp
  (try simp only [Act.put, List.setIfInBounds_toArray, List.set_cons_zero, List.set_cons_succ])
  refine wpAnyT_take (i := 2) (oi := { dst := some 91, op := Op.fieldAddr 29 (Operand.tmp 90) 0, type := 0, pos := "law.go:121", after := #[{ on := 1, ground := Ground.data }], guard := none }) (v := .pointer (some ⟨pb, 0, none⟩)) [3, 6, 14, 15] rfl (by kernel_rfl) (by kernel_rfl) (by kernel_rfl) (by kernel_rfl) (fun _ _ _ h => h) (Or.inl ⟨by rfl, ?_⟩) KP.out ?_
  · intro wq hSw
    obtain ⟨x1, x2⟩ := two_cells hSw.p
    obtain ⟨y0, y1, y2, y3, y4, y5, y6, y7, y8, y9⟩ := ten_cells hSw.o
    go_simp
  (try simp only [Act.put, List.setIfInBounds_toArray, List.set_cons_zero, List.set_cons_succ])
  refine wpAnyT_take (i := 3) (oi := { dst := some 92, op := Op.load 24 (Operand.tmp 91), type := 24, pos := "law.go:121", after := #[{ on := 2, ground := Ground.data }], guard := none }) (v := .pointer (some ⟨b, 0, none⟩)) [6, 14, 15] rfl (by kernel_rfl) (by kernel_rfl) (by kernel_rfl) (by kernel_rfl) (fun _ _ _ h => h) (Or.inl ⟨by rfl, ?_⟩) KP.out ?_
  · intro wq hSw
    obtain ⟨x1, x2⟩ := two_cells hSw.p
    obtain ⟨y0, y1, y2, y3, y4, y5, y6, y7, y8, y9⟩ := ten_cells hSw.o
    go_simp
  (try simp only [Act.put, List.setIfInBounds_toArray, List.set_cons_zero, List.set_cons_succ])
  refine wpAnyT_take (i := 4) (oi := { dst := some 93, op := Op.fieldAddr 36 (Operand.tmp 3) 2, type := 0, pos := "law.go:121", after := #[], guard := none }) (v := .pointer (some ⟨w.heap.size, 2, none⟩)) [5, 6, 14, 15] rfl (by kernel_rfl) (by kernel_rfl) (by kernel_rfl) (by kernel_rfl) (fun _ _ _ h => h) (Or.inl ⟨by rfl, ?_⟩) KP.out ?_
  · intro wq hSw
    obtain ⟨x1, x2⟩ := two_cells hSw.p
    obtain ⟨y0, y1, y2, y3, y4, y5, y6, y7, y8, y9⟩ := ten_cells hSw.o
    go_simp
  (try simp only [Act.put, List.setIfInBounds_toArray, List.set_cons_zero, List.set_cons_succ])
  refine wpAnyT_take (i := 5) (oi := { dst := some 94, op := Op.load 9 (Operand.tmp 93), type := 9, pos := "law.go:121", after := #[{ on := 4, ground := Ground.data }], guard := none }) (v := .string on) [6, 14, 15] rfl (by kernel_rfl) (by kernel_rfl) (by kernel_rfl) (by kernel_rfl) (fun _ _ _ h => h) (Or.inl ⟨by rfl, ?_⟩) KP.out ?_
  · intro wq hSw
    obtain ⟨x1, x2⟩ := two_cells hSw.p
    obtain ⟨y0, y1, y2, y3, y4, y5, y6, y7, y8, y9⟩ := ten_cells hSw.o
    go_simp
  (try simp only [Act.put, List.setIfInBounds_toArray, List.set_cons_zero, List.set_cons_succ])
  refine wpAnyT_take (i := 7) (oi := { dst := some 96, op := Op.move (Operand.tmp 0), type := 37, pos := "law.go:121", after := #[], guard := none }) (v := .pointer (some ⟨pb, 0, none⟩)) [8, 9, 10, 13, 14, 15] rfl (by kernel_rfl) (by kernel_rfl) (by kernel_rfl) (by kernel_rfl) (fun _ _ _ h => h) (Or.inl ⟨by rfl, ?_⟩) KP.out ?_
  · intro wq hSw
    obtain ⟨x1, x2⟩ := two_cells hSw.p
    obtain ⟨y0, y1, y2, y3, y4, y5, y6, y7, y8, y9⟩ := ten_cells hSw.o
    go_simp
  (try simp only [Act.put, List.setIfInBounds_toArray, List.set_cons_zero, List.set_cons_succ])
  refine wpAnyT_take (i := 8) (oi := { dst := some 97, op := Op.nilCheck (Operand.tmp 96), type := 0, pos := "law.go:121", after := #[{ on := 7, ground := Ground.data }], guard := none }) (v := .pointer (some ⟨pb, 0, none⟩)) [9, 10, 13, 14, 15] rfl (by kernel_rfl) (by kernel_rfl) (by kernel_rfl) (by kernel_rfl) (fun _ _ _ h => h) (Or.inl ⟨by rfl, ?_⟩) KP.out ?_
  · intro wq hSw
    obtain ⟨x1, x2⟩ := two_cells hSw.p
    obtain ⟨y0, y1, y2, y3, y4, y5, y6, y7, y8, y9⟩ := ten_cells hSw.o
    go_simp
  (try simp only [Act.put, List.setIfInBounds_toArray, List.set_cons_zero, List.set_cons_succ])
  refine wpAnyT_take (i := 9) (oi := { dst := some 98, op := Op.fieldAddr 29 (Operand.tmp 97) 1, type := 0, pos := "law.go:121", after := #[{ on := 8, ground := Ground.data }], guard := none }) (v := .pointer (some ⟨pb, 1, none⟩)) [10, 13, 14, 15] rfl (by kernel_rfl) (by kernel_rfl) (by kernel_rfl) (by kernel_rfl) (fun _ _ _ h => h) (Or.inl ⟨by rfl, ?_⟩) KP.out ?_
  · intro wq hSw
    obtain ⟨x1, x2⟩ := two_cells hSw.p
    obtain ⟨y0, y1, y2, y3, y4, y5, y6, y7, y8, y9⟩ := ten_cells hSw.o
    go_simp
  (try simp only [Act.put, List.setIfInBounds_toArray, List.set_cons_zero, List.set_cons_succ])
  refine wpAnyT_take (i := 10) (oi := { dst := some 99, op := Op.load 26 (Operand.tmp 98), type := 26, pos := "law.go:121", after := #[{ on := 9, ground := Ground.data }], guard := none }) (v := .pointer (some ⟨rb, 0, none⟩)) [13, 14, 15] rfl (by kernel_rfl) (by kernel_rfl) (by kernel_rfl) (by kernel_rfl) (fun _ _ _ h => h) (Or.inl ⟨by rfl, ?_⟩) KP.out ?_
  · intro wq hSw
    obtain ⟨x1, x2⟩ := two_cells hSw.p
    obtain ⟨y0, y1, y2, y3, y4, y5, y6, y7, y8, y9⟩ := ten_cells hSw.o
    go_simp
  (try simp only [Act.put, List.setIfInBounds_toArray, List.set_cons_zero, List.set_cons_succ])
  refine wpAnyT_take (i := 11) (oi := { dst := some 100, op := Op.fieldAddr 36 (Operand.tmp 3) 2, type := 0, pos := "law.go:121", after := #[], guard := none }) (v := .pointer (some ⟨w.heap.size, 2, none⟩)) [12, 13, 14, 15] rfl (by kernel_rfl) (by kernel_rfl) (by kernel_rfl) (by kernel_rfl) (fun _ _ _ h => h) (Or.inl ⟨by rfl, ?_⟩) KP.out ?_
  · intro wq hSw
    obtain ⟨x1, x2⟩ := two_cells hSw.p
    obtain ⟨y0, y1, y2, y3, y4, y5, y6, y7, y8, y9⟩ := ten_cells hSw.o
    go_simp
  (try simp only [Act.put, List.setIfInBounds_toArray, List.set_cons_zero, List.set_cons_succ])
  refine wpAnyT_take (i := 12) (oi := { dst := some 101, op := Op.load 9 (Operand.tmp 100), type := 9, pos := "law.go:121", after := #[{ on := 11, ground := Ground.data }], guard := none }) (v := .string on) [13, 14, 15] rfl (by kernel_rfl) (by kernel_rfl) (by kernel_rfl) (by kernel_rfl) (fun _ _ _ h => h) (Or.inl ⟨by rfl, ?_⟩) KP.out ?_
  · intro wq hSw
    obtain ⟨x1, x2⟩ := two_cells hSw.p
    obtain ⟨y0, y1, y2, y3, y4, y5, y6, y7, y8, y9⟩ := ten_cells hSw.o
    go_simp
  (try simp only [Act.put, List.setIfInBounds_toArray, List.set_cons_zero, List.set_cons_succ])
  refine wpAnyT_one (i := 6) (o := { dst := some 95, op := Op.call { callee := Callee.value (Operand.func 17), args := #[Operand.tmp 92, Operand.tmp 94], argTypes := #[24, 9] }, type := 41, pos := "law.go:121", after := #[{ on := 3, ground := Ground.data }, { on := 5, ground := Ground.data }], guard := none }) (by kernel_rfl) rfl (fun K hK => ?_)
  go_simp
  go_at_call 17
  refine (hA.out q PQ.out).mono ?_
  rintro e w1 ⟨er, S1, O1, rfl, hs1, P1, G1⟩
  replace P1 := hide P1
  replace G1 := hide G1
  replace hs1 := hide hs1
  have K1 : Hid (Bxs pb w.heap.size b rb ⟨3, os, on, ot, ov, oD, oo, onn, of, ofs, od, ovk, oks⟩ w1) := ⟨P1.out.box, G1.out.but.at KP.out.o hob.out⟩
  (try go_simp)
  refine hK.out _ _ (fun _ => K1.out) ?_
  clear hK K
  (try simp only [Act.put, List.setIfInBounds_toArray, List.set_cons_zero, List.set_cons_succ])
  refine wpAnyT_one (i := 13) (o := { dst := some 102, op := Op.call { callee := Callee.value (Operand.func 48), args := #[Operand.tmp 99, Operand.tmp 101], argTypes := #[26, 9] }, type := 41, pos := "law.go:121", after := #[{ on := 10, ground := Ground.data }, { on := 12, ground := Ground.data }, { on := 6, ground := Ground.chain }], guard := none }) (by kernel_rfl) rfl (fun K hK => ?_)
  go_simp
  go_at_call 48
  refine (hB.out w1 S1 O1 P1.out).mono ?_
  rintro e w2 ⟨V2, rfl, P2, G2⟩
  replace P2 := hide P2
  replace G2 := hide G2
  have hob1 : ¬ own pb O1 rb V w.heap.size := fun c => (G1.out.own _ c).elim hob.out (fun c => by have := heap_lt KP.out.o; omega)
  have K2 : Hid (Bxs pb w.heap.size b rb ⟨3, os, on, ot, ov, oD, oo, onn, of, ofs, od, ovk, oks⟩ w2) := ⟨P2.out.box, G2.out.but.at K1.out.o hob1⟩
  (try go_simp)
  refine hK.out _ _ (fun _ => K2.out) ?_
  clear hK K
  (try simp only [Act.put, List.setIfInBounds_toArray, List.set_cons_zero, List.set_cons_succ])
  refine wpAnyT_take (i := 14) (oi := { dst := some 103, op := Op.binOp BinOp.eql 41 (Operand.tmp 95) (Operand.tmp 102) 41, type := 4, pos := "law.go:121", after := #[{ on := 6, ground := Ground.data }, { on := 13, ground := Ground.data }], guard := none }) (v := .bool (er == RR.2)) [15] rfl (by kernel_rfl) (by kernel_rfl) (by kernel_rfl) (by kernel_rfl) (fun _ _ _ h => h) (Or.inl ⟨by rfl, ?_⟩) K2.out ?_
  · intro wq hSw
    obtain ⟨x1, x2⟩ := two_cells hSw.p
    obtain ⟨y0, y1, y2, y3, y4, y5, y6, y7, y8, y9⟩ := ten_cells hSw.o
    go_simp
  (try simp only [Act.put, List.setIfInBounds_toArray, List.set_cons_zero, List.set_cons_succ])
  refine wpAnyT_one (i := 15) (o := { dst := some 4, op := Op.assign (Operand.tmp 103), type := 4, pos := "law.go:121", after := #[{ on := 14, ground := Ground.data }, { on := 13, ground := Ground.chain }, { on := 0, ground := Ground.phase }, { on := 1, ground := Ground.phase }, { on := 2, ground := Ground.phase }, { on := 3, ground := Ground.phase }, { on := 4, ground := Ground.phase }, { on := 5, ground := Ground.phase }, { on := 6, ground := Ground.phase }, { on := 7, ground := Ground.phase }, { on := 8, ground := Ground.phase }, { on := 9, ground := Ground.phase }, { on := 10, ground := Ground.phase }, { on := 11, ground := Ground.phase }, { on := 12, ground := Ground.phase }, { on := 13, ground := Ground.phase }, { on := 14, ground := Ground.phase }], guard := none }) (by kernel_rfl) rfl (fun K hK => ?_)
  go_simp
  refine hK.out _ _ (vac (by kernel_rfl)) ?_
  clear hK K
  (try simp only [Act.put, List.setIfInBounds_toArray, List.set_cons_zero, List.set_cons_succ])
  refine wpAnyT_done (by kernel_rfl) ?_ _
  obtain ⟨bb, hbb⟩ : ∃ bb, Hid ((er == RR.2) = bb) := ⟨_, rfl⟩
  rw [hbb.out]
  go_wp2_with fail
  go_ret
  refine ⟨⟨bb, S1, _, b, rfl, by rw [hpR.out]; exact P2.out.toPW, ?_, hpS.out S1 ?_, fun hr => ?_, fun _ => rfl⟩⟩
  · have hG := (Sgo.of_below (O := own pb O rb V) GQ.out).trans (G1.out.trans G2.out)
    first | exact hG | (rw [hQ]; exact hG)
  · exact hs1.out.1
  · rw [← hbb.out]
    simpa using hRel.out er S1 hs1.out hr
set_option maxRecDepth 100000 in
set_option maxHeartbeats 2000000 in
theorem pl_cut (o : Dop) (hk : o.kind = 4) (h : PlI W0 w pb b S R o Q) : Calls Tryz.prog 11 #[.pointer (some ⟨pb, 0, none⟩), opV o] w (PlP w pb b S R o Q) := by
  obtain ⟨rb, O, V, hx, hQ⟩ := h.pw
  have hI := hide h
  have hpS : Hid (∀ S', S' = (S.cut o.nm o.n).1 → DS.play S o S') := fun S' hs => by unfold DS.play; simp [hk, hs]
  have hpR : Hid (R.play o = (R.cut o.nm o.n).1) := by show _ = _; unfold RB.play; simp [hk]
  have HX := hide hx
  have hA : Hid (∀ q, PX q pb b rb S R O V → Calls Tryz.prog 49 #[.pointer (some ⟨b, 0, none⟩), .string o.nm, .int .i64 o.n] q fun e w' => ∃ er S' O', e = .returned (.int .i64 er) ∧ (S' = (S.cut o.nm o.n).1 ∧ er = (S.cut o.nm o.n).2) ∧ PX w' pb b rb S' R O' V ∧ Sgo q w' (own pb O rb V) (own pb O' rb V)) := fun q hq => by
    refine (cut_dskE hq.d o.nm (by have := hI.out.ok.nm; unfold maxLen; omega) o.n hI.out.ok.n.1 hI.out.ok.n.2 (by have := hI.out.cs; omega)).mono ?_
    rintro e w' ⟨rfl, O', hd, hg⟩
    obtain ⟨px, gx⟩ := hq.stepA hd hg
    exact ⟨_, _, _, rfl, ⟨rfl, rfl⟩, px, gx⟩
  have hB : Hid (∀ q S' O', PX q pb b rb S' R O' V → Calls Tryz.prog 50 #[.pointer (some ⟨rb, 0, none⟩), .string o.nm, .int .i64 o.n] q fun e w' => ∃ V', e = .returned (.int .i64 (R.cut o.nm o.n).2) ∧ PX w' pb b rb S' (R.cut o.nm o.n).1 O' V' ∧ Sgo q w' (own pb O' rb V) (own pb O' rb V')) := fun q S' O' hq => by
    refine (cut_rm hq.r hI.out.ri.ok (by have := hI.out.cr; omega) hI.out.ri.dirF hI.out.ri.la o.nm (by have := hI.out.ok.nm; unfold maxLen; omega) o.n).mono ?_
    rintro e w' ⟨rfl, hg⟩
    obtain ⟨V', px, gx⟩ := hq.stepB hg
    exact ⟨V', rfl, px, gx⟩
  have hRel : Hid (∀ er S', (S' = (S.cut o.nm o.n).1 ∧ er = (S.cut o.nm o.n).2) → Rel S R → er = (R.cut o.nm o.n).2) := fun er S' hs hr => by
    obtain ⟨_, rfl⟩ := hs; exact (hr.cut o.nm o.n).2
  obtain ⟨RR, hRR⟩ : ∃ RR, Hid ((R.cut o.nm o.n) = RR) := ⟨_, rfl⟩
  rw [hRR.out] at hB hRel hpR
  obtain ⟨ok, os, on, ot, ov, oD, oo, onn, of, ofs, od, ovk, oks⟩ := o
  dsimp only at hk hA hB hpS hRel
  subst hk
  have BF := hide (box_below w (.cells #[.int .i64 4, .bool os, .string on, .string ot, ov, .int .i64 oo, .int .i64 onn, of, .int .i64 od, ovk] 36))
  have NF := heap_alloc_new w (.cells #[.int .i64 4, .bool os, .string on, .string ot, ov, .int .i64 oo, .int .i64 onn, of, .int .i64 od, ovk] 36)
  have hlt := hide hx.lt
  clear hx
  unfold opV
  go_enter Tryz.func11, Tryz.ntmps11
  obtain ⟨wf, hwf⟩ : ∃ wf, Hid (w.alloc (.cells #[.int .i64 4, .bool os, .string on, .string ot, ov, .int .i64 oo, .int .i64 onn, of, .int .i64 od, ovk] 36) = wf) := ⟨_, rfl⟩
  have c0 : (w.alloc (.cells #[.int .i64 4, .bool os, .string on, .string ot, ov, .int .i64 oo, .int .i64 onn, of, .int .i64 od, ovk] 36)).cell? ⟨w.heap.size, 0, none⟩ = some (.int .i64 4) := (ten_cells NF).1
  go_upto_region 14 with fail
  rw [hwf.out] at BF NF ⊢
  have MX := hide (HX.out.below BF.out)
  have hob : Hid (¬ own pb O rb V w.heap.size) := fun c => Nat.lt_irrefl _ (hlt.out _ c)
  have B0 : Hid (Bxs pb w.heap.size b rb ⟨4, os, on, ot, ov, oD, oo, onn, of, ofs, od, ovk, oks⟩ wf) := ⟨MX.out.box, NF⟩
  have KP : Hid (Bxs pb w.heap.size b rb ⟨4, os, on, ot, ov, oD, oo, onn, of, ofs, od, ovk, oks⟩ wf.drew) := B0.out.go (But.of_below (Below.refl _ _).drew fun _ => False) (fun c => c) (fun c => c)
  have PQ : Hid (PX wf.drew pb b rb S R O V) := MX.out.below (Below.refl _ _).drew
  have GQ : Hid (Below w.heap.size w wf.drew) := BF.out.drew
  clear c0 NF
  refine wp_region_T (fun q => Bxs pb w.heap.size b rb ⟨4, os, on, ot, ov, oD, oo, onn, of, ofs, od, ovk, oks⟩ q) 19 (by kernel_rfl) ?_
  generalize wf.drew = q at *
  refine wpAnyT_take (i := 0) (oi := { dst := some 106, op := Op.move (Operand.tmp 0), type := 37, pos := "law.go:123", after := #[], guard := none }) (v := .pointer (some ⟨pb, 0, none⟩)) [1, 2, 3, 8, 18, 19] rfl (by kernel_rfl) (by kernel_rfl) (by kernel_rfl) (by kernel_rfl) (fun _ _ _ h => h) (Or.inl ⟨by rfl, ?_⟩) KP.out ?_
  · intro wq hSw
    obtain ⟨x1, x2⟩ := two_cells hSw.p
    obtain ⟨y0, y1, y2, y3, y4, y5, y6, y7, y8, y9⟩ := ten_cells hSw.o
    go_simp
  (try simp only [Act.put, List.setIfInBounds_toArray, List.set_cons_zero, List.set_cons_succ])
  refine wpAnyT_take (i := 1) (oi := { dst := some 107, op := Op.nilCheck (Operand.tmp 106), type := 0, pos := "law.go:123", after := #[{ on := 0, ground := Ground.data }], guard := none }) (v := .pointer (some ⟨pb, 0, none⟩)) [2, 3, 8, 18, 19] rfl (by kernel_rfl) (by kernel_rfl) (by kernel_rfl) (by kernel_rfl) (fun _ _ _ h => h) (Or.inl ⟨by rfl, ?_⟩) KP.out ?_
  · intro wq hSw
    obtain ⟨x1, x2⟩ := two_cells hSw.p
    obtain ⟨y0, y1, y2, y3, y4, y5, y6, y7, y8, y9⟩ := ten_cells hSw.o
    go_simp
  (try simp only [Act.put, List.setIfInBounds_toArray, List.set_cons_zero, List.set_cons_succ])
  refine wpAnyT_take (i := 2) (oi := { dst := some 108, op := Op.fieldAddr 29 (Operand.tmp 107) 0, type := 0, pos := "law.go:123", after := #[{ on := 1, ground := Ground.data }], guard := none }) (v := .pointer (some ⟨pb, 0, none⟩)) [3, 8, 18, 19] rfl (by kernel_rfl) (by kernel_rfl) (by kernel_rfl) (by kernel_rfl) (fun _ _ _ h => h) (Or.inl ⟨by rfl, ?_⟩) KP.out ?_
  · intro wq hSw
    obtain ⟨x1, x2⟩ := two_cells hSw.p
    obtain ⟨y0, y1, y2, y3, y4, y5, y6, y7, y8, y9⟩ := ten_cells hSw.o
    go_simp
  (try simp only [Act.put, List.setIfInBounds_toArray, List.set_cons_zero, List.set_cons_succ])
  refine wpAnyT_take (i := 3) (oi := { dst := some 109, op := Op.load 24 (Operand.tmp 108), type := 24, pos := "law.go:123", after := #[{ on := 2, ground := Ground.data }], guard := none }) (v := .pointer (some ⟨b, 0, none⟩)) [8, 18, 19] rfl (by kernel_rfl) (by kernel_rfl) (by kernel_rfl) (by kernel_rfl) (fun _ _ _ h => h) (Or.inl ⟨by rfl, ?_⟩) KP.out ?_
  · intro wq hSw
    obtain ⟨x1, x2⟩ := two_cells hSw.p
    obtain ⟨y0, y1, y2, y3, y4, y5, y6, y7, y8, y9⟩ := ten_cells hSw.o
    go_simp
  (try simp only [Act.put, List.setIfInBounds_toArray, List.set_cons_zero, List.set_cons_succ])
  refine wpAnyT_take (i := 4) (oi := { dst := some 110, op := Op.fieldAddr 36 (Operand.tmp 3) 2, type := 0, pos := "law.go:123", after := #[], guard := none }) (v := .pointer (some ⟨w.heap.size, 2, none⟩)) [5, 8, 18, 19] rfl (by kernel_rfl) (by kernel_rfl) (by kernel_rfl) (by kernel_rfl) (fun _ _ _ h => h) (Or.inl ⟨by rfl, ?_⟩) KP.out ?_
  · intro wq hSw
    obtain ⟨x1, x2⟩ := two_cells hSw.p
    obtain ⟨y0, y1, y2, y3, y4, y5, y6, y7, y8, y9⟩ := ten_cells hSw.o
    go_simp
  (try simp only [Act.put, List.setIfInBounds_toArray, List.set_cons_zero, List.set_cons_succ])
  refine wpAnyT_take (i := 5) (oi := { dst := some 111, op := Op.load 9 (Operand.tmp 110), type := 9, pos := "law.go:123", after := #[{ on := 4, ground := Ground.data }], guard := none }) (v := .string on) [8, 18, 19] rfl (by kernel_rfl) (by kernel_rfl) (by kernel_rfl) (by kernel_rfl) (fun _ _ _ h => h) (Or.inl ⟨by rfl, ?_⟩) KP.out ?_
  · intro wq hSw
    obtain ⟨x1, x2⟩ := two_cells hSw.p
    obtain ⟨y0, y1, y2, y3, y4, y5, y6, y7, y8, y9⟩ := ten_cells hSw.o
    go_simp
  (try simp only [Act.put, List.setIfInBounds_toArray, List.set_cons_zero, List.set_cons_succ])
  refine wpAnyT_take (i := 6) (oi := { dst := some 112, op := Op.fieldAddr 36 (Operand.tmp 3) 6, type := 0, pos := "law.go:123", after := #[], guard := none }) (v := .pointer (some ⟨w.heap.size, 6, none⟩)) [7, 8, 18, 19] rfl (by kernel_rfl) (by kernel_rfl) (by kernel_rfl) (by kernel_rfl) (fun _ _ _ h => h) (Or.inl ⟨by rfl, ?_⟩) KP.out ?_
  · intro wq hSw
    obtain ⟨x1, x2⟩ := two_cells hSw.p
    obtain ⟨y0, y1, y2, y3, y4, y5, y6, y7, y8, y9⟩ := ten_cells hSw.o
    go_simp
  (try simp only [Act.put, List.setIfInBounds_toArray, List.set_cons_zero, List.set_cons_succ])
  refine wpAnyT_take (i := 7) (oi := { dst := some 113, op := Op.load 3 (Operand.tmp 112), type := 3, pos := "law.go:123", after := #[{ on := 6, ground := Ground.data }], guard := none }) (v := .int .i64 onn) [8, 18, 19] rfl (by kernel_rfl) (by kernel_rfl) (by kernel_rfl) (by kernel_rfl) (fun _ _ _ h => h) (Or.inl ⟨by rfl, ?_⟩) KP.out ?_
  · intro wq hSw
    obtain ⟨x1, x2⟩ := two_cells hSw.p
    obtain ⟨y0, y1, y2, y3, y4, y5, y6, y7, y8, y9⟩ := ten_cells hSw.o
    go_simp
  (try simp only [Act.put, List.setIfInBounds_toArray, List.set_cons_zero, List.set_cons_succ])
  refine wpAnyT_take (i := 9) (oi := { dst := some 115, op := Op.move (Operand.tmp 0), type := 37, pos := "law.go:123", after := #[], guard := none }) (v := .pointer (some ⟨pb, 0, none⟩)) [10, 11, 12, 17, 18, 19] rfl (by kernel_rfl) (by kernel_rfl) (by kernel_rfl) (by kernel_rfl) (fun _ _ _ h => h) (Or.inl ⟨by rfl, ?_⟩) KP.out ?_
  · intro wq hSw
    obtain ⟨x1, x2⟩ := two_cells hSw.p
    obtain ⟨y0, y1, y2, y3, y4, y5, y6, y7, y8, y9⟩ := ten_cells hSw.o
    go_simp
  (try simp only [Act.put, List.setIfInBounds_toArray, List.set_cons_zero, List.set_cons_succ])
  refine wpAnyT_take (i := 10) (oi := { dst := some 116, op := Op.nilCheck (Operand.tmp 115), type := 0, pos := "law.go:123", after := #[{ on := 9, ground := Ground.data }], guard := none }) (v := .pointer (some ⟨pb, 0, none⟩)) [11, 12, 17, 18, 19] rfl (by kernel_rfl) (by kernel_rfl) (by kernel_rfl) (by kernel_rfl) (fun _ _ _ h => h) (Or.inl ⟨by rfl, ?_⟩) KP.out ?_
  · intro wq hSw
    obtain ⟨x1, x2⟩ := two_cells hSw.p
    obtain ⟨y0, y1, y2, y3, y4, y5, y6, y7, y8, y9⟩ := ten_cells hSw.o
    go_simp
  (try simp only [Act.put, List.setIfInBounds_toArray, List.set_cons_zero, List.set_cons_succ])
  refine wpAnyT_take (i := 11) (oi := { dst := some 117, op := Op.fieldAddr 29 (Operand.tmp 116) 1, type := 0, pos := "law.go:123", after := #[{ on := 10, ground := Ground.data }], guard := none }) (v := .pointer (some ⟨pb, 1, none⟩)) [12, 17, 18, 19] rfl (by kernel_rfl) (by kernel_rfl) (by kernel_rfl) (by kernel_rfl) (fun _ _ _ h => h) (Or.inl ⟨by rfl, ?_⟩) KP.out ?_
  · intro wq hSw
    obtain ⟨x1, x2⟩ := two_cells hSw.p
    obtain ⟨y0, y1, y2, y3, y4, y5, y6, y7, y8, y9⟩ := ten_cells hSw.o
    go_simp
  (try simp only [Act.put, List.setIfInBounds_toArray, List.set_cons_zero, List.set_cons_succ])
  refine wpAnyT_take (i := 12) (oi := { dst := some 118, op := Op.load 26 (Operand.tmp 117), type := 26, pos := "law.go:123", after := #[{ on := 11, ground := Ground.data }], guard := none }) (v := .pointer (some ⟨rb, 0, none⟩)) [17, 18, 19] rfl (by kernel_rfl) (by kernel_rfl) (by kernel_rfl) (by kernel_rfl) (fun _ _ _ h => h) (Or.inl ⟨by rfl, ?_⟩) KP.out ?_
  · intro wq hSw
    obtain ⟨x1, x2⟩ := two_cells hSw.p
    obtain ⟨y0, y1, y2, y3, y4, y5, y6, y7, y8, y9⟩ := ten_cells hSw.o
    go_simp
  (try simp only [Act.put, List.setIfInBounds_toArray, List.set_cons_zero, List.set_cons_succ])
  refine wpAnyT_take (i := 13) (oi := { dst := some 119, op := Op.fieldAddr 36 (Operand.tmp 3) 2, type := 0, pos := "law.go:123", after := #[], guard := none }) (v := .pointer (some ⟨w.heap.size, 2, none⟩)) [14, 17, 18, 19] rfl (by kernel_rfl) (by kernel_rfl) (by kernel_rfl) (by kernel_rfl) (fun _ _ _ h => h) (Or.inl ⟨by rfl, ?_⟩) KP.out ?_
  · intro wq hSw
    obtain ⟨x1, x2⟩ := two_cells hSw.p
    obtain ⟨y0, y1, y2, y3, y4, y5, y6, y7, y8, y9⟩ := ten_cells hSw.o
    go_simp
  (try simp only [Act.put, List.setIfInBounds_toArray, List.set_cons_zero, List.set_cons_succ])
  refine wpAnyT_take (i := 14) (oi := { dst := some 120, op := Op.load 9 (Operand.tmp 119), type := 9, pos := "law.go:123", after := #[{ on := 13, ground := Ground.data }], guard := none }) (v := .string on) [17, 18, 19] rfl (by kernel_rfl) (by kernel_rfl) (by kernel_rfl) (by kernel_rfl) (fun _ _ _ h => h) (Or.inl ⟨by rfl, ?_⟩) KP.out ?_
  · intro wq hSw
    obtain ⟨x1, x2⟩ := two_cells hSw.p
    obtain ⟨y0, y1, y2, y3, y4, y5, y6, y7, y8, y9⟩ := ten_cells hSw.o
    go_simp
  (try simp only [Act.put, List.setIfInBounds_toArray, List.set_cons_zero, List.set_cons_succ])
  refine wpAnyT_take (i := 15) (oi := { dst := some 121, op := Op.fieldAddr 36 (Operand.tmp 3) 6, type := 0, pos := "law.go:123", after := #[], guard := none }) (v := .pointer (some ⟨w.heap.size, 6, none⟩)) [16, 17, 18, 19] rfl (by kernel_rfl) (by kernel_rfl) (by kernel_rfl) (by kernel_rfl) (fun _ _ _ h => h) (Or.inl ⟨by rfl, ?_⟩) KP.out ?_
  · intro wq hSw
    obtain ⟨x1, x2⟩ := two_cells hSw.p
    obtain ⟨y0, y1, y2, y3, y4, y5, y6, y7, y8, y9⟩ := ten_cells hSw.o
    go_simp
  (try simp only [Act.put, List.setIfInBounds_toArray, List.set_cons_zero, List.set_cons_succ])
  refine wpAnyT_take (i := 16) (oi := { dst := some 122, op := Op.load 3 (Operand.tmp 121), type := 3, pos := "law.go:123", after := #[{ on := 15, ground := Ground.data }], guard := none }) (v := .int .i64 onn) [17, 18, 19] rfl (by kernel_rfl) (by kernel_rfl) (by kernel_rfl) (by kernel_rfl) (fun _ _ _ h => h) (Or.inl ⟨by rfl, ?_⟩) KP.out ?_
  · intro wq hSw
    obtain ⟨x1, x2⟩ := two_cells hSw.p
    obtain ⟨y0, y1, y2, y3, y4, y5, y6, y7, y8, y9⟩ := ten_cells hSw.o
    go_simp
  (try simp only [Act.put, List.setIfInBounds_toArray, List.set_cons_zero, List.set_cons_succ])
  refine wpAnyT_one (i := 8) (o := { dst := some 114, op := Op.call { callee := Callee.value (Operand.func 49), args := #[Operand.tmp 109, Operand.tmp 111, Operand.tmp 113], argTypes := #[24, 9, 3] }, type := 41, pos := "law.go:123", after := #[{ on := 3, ground := Ground.data }, { on := 5, ground := Ground.data }, { on := 7, ground := Ground.data }], guard := none }) (by kernel_rfl) rfl (fun K hK => ?_)
  go_simp
  go_at_call 49
  refine (hA.out q PQ.out).mono ?_
  rintro e w1 ⟨er, S1, O1, rfl, hs1, P1, G1⟩
  replace P1 := hide P1
  replace G1 := hide G1
  replace hs1 := hide hs1
  have K1 : Hid (Bxs pb w.heap.size b rb ⟨4, os, on, ot, ov, oD, oo, onn, of, ofs, od, ovk, oks⟩ w1) := ⟨P1.out.box, G1.out.but.at KP.out.o hob.out⟩
  (try go_simp)
  refine hK.out _ _ (fun _ => K1.out) ?_
  clear hK K
  (try simp only [Act.put, List.setIfInBounds_toArray, List.set_cons_zero, List.set_cons_succ])
  refine wpAnyT_one (i := 17) (o := { dst := some 123, op := Op.call { callee := Callee.value (Operand.func 50), args := #[Operand.tmp 118, Operand.tmp 120, Operand.tmp 122], argTypes := #[26, 9, 3] }, type := 41, pos := "law.go:123", after := #[{ on := 12, ground := Ground.data }, { on := 14, ground := Ground.data }, { on := 16, ground := Ground.data }, { on := 8, ground := Ground.chain }], guard := none }) (by kernel_rfl) rfl (fun K hK => ?_)
  go_simp
  go_at_call 50
  refine (hB.out w1 S1 O1 P1.out).mono ?_
  rintro e w2 ⟨V2, rfl, P2, G2⟩
  replace P2 := hide P2
  replace G2 := hide G2
  have hob1 : ¬ own pb O1 rb V w.heap.size := fun c => (G1.out.own _ c).elim hob.out (fun c => by have := heap_lt KP.out.o; omega)
  have K2 : Hid (Bxs pb w.heap.size b rb ⟨4, os, on, ot, ov, oD, oo, onn, of, ofs, od, ovk, oks⟩ w2) := ⟨P2.out.box, G2.out.but.at K1.out.o hob1⟩
  (try go_simp)
  refine hK.out _ _ (fun _ => K2.out) ?_
  clear hK K
  (try simp only [Act.put, List.setIfInBounds_toArray, List.set_cons_zero, List.set_cons_succ])
  refine wpAnyT_take (i := 18) (oi := { dst := some 124, op := Op.binOp BinOp.eql 41 (Operand.tmp 114) (Operand.tmp 123) 41, type := 4, pos := "law.go:123", after := #[{ on := 8, ground := Ground.data }, { on := 17, ground := Ground.data }], guard := none }) (v := .bool (er == RR.2)) [19] rfl (by kernel_rfl) (by kernel_rfl) (by kernel_rfl) (by kernel_rfl) (fun _ _ _ h => h) (Or.inl ⟨by rfl, ?_⟩) K2.out ?_
  · intro wq hSw
    obtain ⟨x1, x2⟩ := two_cells hSw.p
    obtain ⟨y0, y1, y2, y3, y4, y5, y6, y7, y8, y9⟩ := ten_cells hSw.o
    go_simp
  (try simp only [Act.put, List.setIfInBounds_toArray, List.set_cons_zero, List.set_cons_succ])
  refine wpAnyT_one (i := 19) (o := { dst := some 4, op := Op.assign (Operand.tmp 124), type := 4, pos := "law.go:123", after := #[{ on := 18, ground := Ground.data }, { on := 17, ground := Ground.chain }, { on := 0, ground := Ground.phase }, { on := 1, ground := Ground.phase }, { on := 2, ground := Ground.phase }, { on := 3, ground := Ground.phase }, { on := 4, ground := Ground.phase }, { on := 5, ground := Ground.phase }, { on := 6, ground := Ground.phase }, { on := 7, ground := Ground.phase }, { on := 8, ground := Ground.phase }, { on := 9, ground := Ground.phase }, { on := 10, ground := Ground.phase }, { on := 11, ground := Ground.phase }, { on := 12, ground := Ground.phase }, { on := 13, ground := Ground.phase }, { on := 14, ground := Ground.phase }, { on := 15, ground := Ground.phase }, { on := 16, ground := Ground.phase }, { on := 17, ground := Ground.phase }, { on := 18, ground := Ground.phase }], guard := none }) (by kernel_rfl) rfl (fun K hK => ?_)
  go_simp
  refine hK.out _ _ (vac (by kernel_rfl)) ?_
  clear hK K
  (try simp only [Act.put, List.setIfInBounds_toArray, List.set_cons_zero, List.set_cons_succ])
  refine wpAnyT_done (by kernel_rfl) ?_ _
  obtain ⟨bb, hbb⟩ : ∃ bb, Hid ((er == RR.2) = bb) := ⟨_, rfl⟩
  rw [hbb.out]
  go_wp2_with fail
  go_ret
  refine ⟨⟨bb, S1, _, b, rfl, by rw [hpR.out]; exact P2.out.toPW, ?_, hpS.out S1 ?_, fun hr => ?_, fun _ => rfl⟩⟩
  · have hG := (Sgo.of_below (O := own pb O rb V) GQ.out).trans (G1.out.trans G2.out)
    first | exact hG | (rw [hQ]; exact hG)
  · exact hs1.out.1
  · rw [← hbb.out]
    simpa using hRel.out er S1 hs1.out hr
set_option maxRecDepth 100000 in
set_option maxHeartbeats 2000000 in
theorem pl_rename (o : Dop) (hk : o.kind = 5) (h : PlI W0 w pb b S R o Q) : Calls Tryz.prog 11 #[.pointer (some ⟨pb, 0, none⟩), opV o] w (PlP w pb b S R o Q) := by
  obtain ⟨rb, O, V, hx, hQ⟩ := h.pw
  have hI := hide h
  have hpS : Hid (∀ S', S' = (S.rename o.nm o.tn).1 → DS.play S o S') := fun S' hs => by unfold DS.play; simp [hk, hs]
  have hpR : Hid (R.play o = (R.rename o.nm o.tn).1) := by show _ = _; unfold RB.play; simp [hk]
  have HX := hide hx
  have hA : Hid (∀ q, PX q pb b rb S R O V → Calls Tryz.prog 51 #[.pointer (some ⟨b, 0, none⟩), .string o.nm, .string o.tn] q fun e w' => ∃ er S' O', e = .returned (.int .i64 er) ∧ (S' = (S.rename o.nm o.tn).1 ∧ er = (S.rename o.nm o.tn).2) ∧ PX w' pb b rb S' R O' V ∧ Sgo q w' (own pb O rb V) (own pb O' rb V)) := fun q hq => by
    refine (rename_dsk hq.d o.nm o.tn (by have := hI.out.ok.nm; omega) (by have := hI.out.ok.tn; omega) (by have := hI.out.cs; omega)).mono ?_
    rintro e w' ⟨rfl, O', hd, hg⟩
    obtain ⟨px, gx⟩ := hq.stepA hd hg
    exact ⟨_, _, _, rfl, ⟨rfl, rfl⟩, px, gx⟩
  have hB : Hid (∀ q S' O', PX q pb b rb S' R O' V → Calls Tryz.prog 52 #[.pointer (some ⟨rb, 0, none⟩), .string o.nm, .string o.tn] q fun e w' => ∃ V', e = .returned (.int .i64 (R.rename o.nm o.tn).2) ∧ PX w' pb b rb S' (R.rename o.nm o.tn).1 O' V' ∧ Sgo q w' (own pb O' rb V) (own pb O' rb V')) := fun q S' O' hq => by
    refine (rename_rm hq.r hI.out.ri.ok (by have := hI.out.cr; omega) (by have := hI.out.ri.dlen; omega) (by have := hI.out.ri.cnt; have := hI.out.cr; omega) (findN_le hI.out.ri hI.out.cr) o.nm o.tn (by have := hI.out.ok.nm; unfold maxLen; omega) (by have := hI.out.ok.tn; unfold maxLen; omega)).mono ?_
    rintro e w' ⟨rfl, hg⟩
    obtain ⟨V', px, gx⟩ := hq.stepB hg
    exact ⟨V', rfl, px, gx⟩
  have hRel : Hid (∀ er S', (S' = (S.rename o.nm o.tn).1 ∧ er = (S.rename o.nm o.tn).2) → Rel S R → er = (R.rename o.nm o.tn).2) := fun er S' hs hr => by
    obtain ⟨_, rfl⟩ := hs; exact (hr.rename o.nm o.tn).2
  obtain ⟨RR, hRR⟩ : ∃ RR, Hid ((R.rename o.nm o.tn) = RR) := ⟨_, rfl⟩
  rw [hRR.out] at hB hRel hpR
  obtain ⟨ok, os, on, ot, ov, oD, oo, onn, of, ofs, od, ovk, oks⟩ := o
  dsimp only at hk hA hB hpS hRel
  subst hk
  have BF := hide (box_below w (.cells #[.int .i64 5, .bool os, .string on, .string ot, ov, .int .i64 oo, .int .i64 onn, of, .int .i64 od, ovk] 36))
  have NF := heap_alloc_new w (.cells #[.int .i64 5, .bool os, .string on, .string ot, ov, .int .i64 oo, .int .i64 onn, of, .int .i64 od, ovk] 36)
  have hlt := hide hx.lt
  clear hx
  unfold opV
  go_enter Tryz.func11, Tryz.ntmps11
  obtain ⟨wf, hwf⟩ : ∃ wf, Hid (w.alloc (.cells #[.int .i64 5, .bool os, .string on, .string ot, ov, .int .i64 oo, .int .i64 onn, of, .int .i64 od, ovk] 36) = wf) := ⟨_, rfl⟩
  have c0 : (w.alloc (.cells #[.int .i64 5, .bool os, .string on, .string ot, ov, .int .i64 oo, .int .i64 onn, of, .int .i64 od, ovk] 36)).cell? ⟨w.heap.size, 0, none⟩ = some (.int .i64 5) := (ten_cells NF).1
  go_upto_region 16 with fail
  rw [hwf.out] at BF NF ⊢
  have MX := hide (HX.out.below BF.out)
  have hob : Hid (¬ own pb O rb V w.heap.size) := fun c => Nat.lt_irrefl _ (hlt.out _ c)
  have B0 : Hid (Bxs pb w.heap.size b rb ⟨5, os, on, ot, ov, oD, oo, onn, of, ofs, od, ovk, oks⟩ wf) := ⟨MX.out.box, NF⟩
  have KP : Hid (Bxs pb w.heap.size b rb ⟨5, os, on, ot, ov, oD, oo, onn, of, ofs, od, ovk, oks⟩ wf.drew) := B0.out.go (But.of_below (Below.refl _ _).drew fun _ => False) (fun c => c) (fun c => c)
  have PQ : Hid (PX wf.drew pb b rb S R O V) := MX.out.below (Below.refl _ _).drew
  have GQ : Hid (Below w.heap.size w wf.drew) := BF.out.drew
  clear c0 NF
  refine wp_region_T (fun q => Bxs pb w.heap.size b rb ⟨5, os, on, ot, ov, oD, oo, onn, of, ofs, od, ovk, oks⟩ q) 19 (by kernel_rfl) ?_
  generalize wf.drew = q at *
  refine wpAnyT_take (i := 0) (oi := { dst := some 127, op := Op.move (Operand.tmp 0), type := 37, pos := "law.go:125", after := #[], guard := none }) (v := .pointer (some ⟨pb, 0, none⟩)) [1, 2, 3, 8, 18, 19] rfl (by kernel_rfl) (by kernel_rfl) (by kernel_rfl) (by kernel_rfl) (fun _ _ _ h => h) (Or.inl ⟨by rfl, ?_⟩) KP.out ?_
  · intro wq hSw
    obtain ⟨x1, x2⟩ := two_cells hSw.p
    obtain ⟨y0, y1, y2, y3, y4, y5, y6, y7, y8, y9⟩ := ten_cells hSw.o
    go_simp
  (try simp only [Act.put, List.setIfInBounds_toArray, List.set_cons_zero, List.set_cons_succ])
  refine wpAnyT_take (i := 1) (oi := { dst := some 128, op := Op.nilCheck (Operand.tmp 127), type := 0, pos := "law.go:125", after := #[{ on := 0, ground := Ground.data }], guard := none }) (v := .pointer (some ⟨pb, 0, none⟩)) [2, 3, 8, 18, 19] rfl (by kernel_rfl) (by kernel_rfl) (by kernel_rfl) (by kernel_rfl) (fun _ _ _ h => h) (Or.inl ⟨by rfl, ?_⟩) KP.out ?_
  · intro wq hSw
    obtain ⟨x1, x2⟩ := two_cells hSw.p
    obtain ⟨y0, y1, y2, y3, y4, y5, y6, y7, y8, y9⟩ := ten_cells hSw.o
    go_simp
  (try simp only [Act.put, List.setIfInBounds_toArray, List.set_cons_zero, List.set_cons_succ])
  refine wpAnyT_take (i := 2) (oi := { dst := some 129, op := Op.fieldAddr 29 (Operand.tmp 128) 0, type := 0, pos := "law.go:125", after := #[{ on := 1, ground := Ground.data }], guard := none }) (v := .pointer (some ⟨pb, 0, none⟩)) [3, 8, 18, 19] rfl (by kernel_rfl) (by kernel_rfl) (by kernel_rfl) (by kernel_rfl) (fun _ _ _ h => h) (Or.inl ⟨by rfl, ?_⟩) KP.out ?_
  · intro wq hSw
    obtain ⟨x1, x2⟩ := two_cells hSw.p
    obtain ⟨y0, y1, y2, y3, y4, y5, y6, y7, y8, y9⟩ := ten_cells hSw.o
    go_simp
  (try simp only [Act.put, List.setIfInBounds_toArray, List.set_cons_zero, List.set_cons_succ])
  refine wpAnyT_take (i := 3) (oi := { dst := some 130, op := Op.load 24 (Operand.tmp 129), type := 24, pos := "law.go:125", after := #[{ on := 2, ground := Ground.data }], guard := none }) (v := .pointer (some ⟨b, 0, none⟩)) [8, 18, 19] rfl (by kernel_rfl) (by kernel_rfl) (by kernel_rfl) (by kernel_rfl) (fun _ _ _ h => h) (Or.inl ⟨by rfl, ?_⟩) KP.out ?_
  · intro wq hSw
    obtain ⟨x1, x2⟩ := two_cells hSw.p
    obtain ⟨y0, y1, y2, y3, y4, y5, y6, y7, y8, y9⟩ := ten_cells hSw.o
    go_simp
  (try simp only [Act.put, List.setIfInBounds_toArray, List.set_cons_zero, List.set_cons_succ])
  refine wpAnyT_take (i := 4) (oi := { dst := some 131, op := Op.fieldAddr 36 (Operand.tmp 3) 2, type := 0, pos := "law.go:125", after := #[], guard := none }) (v := .pointer (some ⟨w.heap.size, 2, none⟩)) [5, 8, 18, 19] rfl (by kernel_rfl) (by kernel_rfl) (by kernel_rfl) (by kernel_rfl) (fun _ _ _ h => h) (Or.inl ⟨by rfl, ?_⟩) KP.out ?_
  · intro wq hSw
    obtain ⟨x1, x2⟩ := two_cells hSw.p
    obtain ⟨y0, y1, y2, y3, y4, y5, y6, y7, y8, y9⟩ := ten_cells hSw.o
    go_simp
  (try simp only [Act.put, List.setIfInBounds_toArray, List.set_cons_zero, List.set_cons_succ])
  refine wpAnyT_take (i := 5) (oi := { dst := some 132, op := Op.load 9 (Operand.tmp 131), type := 9, pos := "law.go:125", after := #[{ on := 4, ground := Ground.data }], guard := none }) (v := .string on) [8, 18, 19] rfl (by kernel_rfl) (by kernel_rfl) (by kernel_rfl) (by kernel_rfl) (fun _ _ _ h => h) (Or.inl ⟨by rfl, ?_⟩) KP.out ?_
  · intro wq hSw
    obtain ⟨x1, x2⟩ := two_cells hSw.p
    obtain ⟨y0, y1, y2, y3, y4, y5, y6, y7, y8, y9⟩ := ten_cells hSw.o
    go_simp
  (try simp only [Act.put, List.setIfInBounds_toArray, List.set_cons_zero, List.set_cons_succ])
  refine wpAnyT_take (i := 6) (oi := { dst := some 133, op := Op.fieldAddr 36 (Operand.tmp 3) 3, type := 0, pos := "law.go:125", after := #[], guard := none }) (v := .pointer (some ⟨w.heap.size, 3, none⟩)) [7, 8, 18, 19] rfl (by kernel_rfl) (by kernel_rfl) (by kernel_rfl) (by kernel_rfl) (fun _ _ _ h => h) (Or.inl ⟨by rfl, ?_⟩) KP.out ?_
  · intro wq hSw
    obtain ⟨x1, x2⟩ := two_cells hSw.p
    obtain ⟨y0, y1, y2, y3, y4, y5, y6, y7, y8, y9⟩ := ten_cells hSw.o
    go_simp
  (try simp only [Act.put, List.setIfInBounds_toArray, List.set_cons_zero, List.set_cons_succ])
  refine wpAnyT_take (i := 7) (oi := { dst := some 134, op := Op.load 9 (Operand.tmp 133), type := 9, pos := "law.go:125", after := #[{ on := 6, ground := Ground.data }], guard := none }) (v := .string ot) [8, 18, 19] rfl (by kernel_rfl) (by kernel_rfl) (by kernel_rfl) (by kernel_rfl) (fun _ _ _ h => h) (Or.inl ⟨by rfl, ?_⟩) KP.out ?_
  · intro wq hSw
    obtain ⟨x1, x2⟩ := two_cells hSw.p
    obtain ⟨y0, y1, y2, y3, y4, y5, y6, y7, y8, y9⟩ := ten_cells hSw.o
    go_simp
  (try simp only [Act.put, List.setIfInBounds_toArray, List.set_cons_zero, List.set_cons_succ])
  refine wpAnyT_take (i := 9) (oi := { dst := some 136, op := Op.move (Operand.tmp 0), type := 37, pos := "law.go:125", after := #[], guard := none }) (v := .pointer (some ⟨pb, 0, none⟩)) [10, 11, 12, 17, 18, 19] rfl (by kernel_rfl) (by kernel_rfl) (by kernel_rfl) (by kernel_rfl) (fun _ _ _ h => h) (Or.inl ⟨by rfl, ?_⟩) KP.out ?_
  · intro wq hSw
    obtain ⟨x1, x2⟩ := two_cells hSw.p
    obtain ⟨y0, y1, y2, y3, y4, y5, y6, y7, y8, y9⟩ := ten_cells hSw.o
    go_simp
  (try simp only [Act.put, List.setIfInBounds_toArray, List.set_cons_zero, List.set_cons_succ])
  refine wpAnyT_take (i := 10) (oi := { dst := some 137, op := Op.nilCheck (Operand.tmp 136), type := 0, pos := "law.go:125", after := #[{ on := 9, ground := Ground.data }], guard := none }) (v := .pointer (some ⟨pb, 0, none⟩)) [11, 12, 17, 18, 19] rfl (by kernel_rfl) (by kernel_rfl) (by kernel_rfl) (by kernel_rfl) (fun _ _ _ h => h) (Or.inl ⟨by rfl, ?_⟩) KP.out ?_
  · intro wq hSw
    obtain ⟨x1, x2⟩ := two_cells hSw.p
    obtain ⟨y0, y1, y2, y3, y4, y5, y6, y7, y8, y9⟩ := ten_cells hSw.o
    go_simp
  (try simp only [Act.put, List.setIfInBounds_toArray, List.set_cons_zero, List.set_cons_succ])
  refine wpAnyT_take (i := 11) (oi := { dst := some 138, op := Op.fieldAddr 29 (Operand.tmp 137) 1, type := 0, pos := "law.go:125", after := #[{ on := 10, ground := Ground.data }], guard := none }) (v := .pointer (some ⟨pb, 1, none⟩)) [12, 17, 18, 19] rfl (by kernel_rfl) (by kernel_rfl) (by kernel_rfl) (by kernel_rfl) (fun _ _ _ h => h) (Or.inl ⟨by rfl, ?_⟩) KP.out ?_
  · intro wq hSw
    obtain ⟨x1, x2⟩ := two_cells hSw.p
    obtain ⟨y0, y1, y2, y3, y4, y5, y6, y7, y8, y9⟩ := ten_cells hSw.o
    go_simp
  (try simp only [Act.put, List.setIfInBounds_toArray, List.set_cons_zero, List.set_cons_succ])
  refine wpAnyT_take (i := 12) (oi := { dst := some 139, op := Op.load 26 (Operand.tmp 138), type := 26, pos := "law.go:125", after := #[{ on := 11, ground := Ground.data }], guard := none }) (v := .pointer (some ⟨rb, 0, none⟩)) [17, 18, 19] rfl (by kernel_rfl) (by kernel_rfl) (by kernel_rfl) (by kernel_rfl) (fun _ _ _ h => h) (Or.inl ⟨by rfl, ?_⟩) KP.out ?_
  · intro wq hSw
    obtain ⟨x1, x2⟩ := two_cells hSw.p
    obtain ⟨y0, y1, y2, y3, y4, y5, y6, y7, y8, y9⟩ := ten_cells hSw.o
    go_simp
  (try simp only [Act.put, List.setIfInBounds_toArray, List.set_cons_zero, List.set_cons_succ])
  refine wpAnyT_take (i := 13) (oi := { dst := some 140, op := Op.fieldAddr 36 (Operand.tmp 3) 2, type := 0, pos := "law.go:125", after := #[], guard := none }) (v := .pointer (some ⟨w.heap.size, 2, none⟩)) [14, 17, 18, 19] rfl (by kernel_rfl) (by kernel_rfl) (by kernel_rfl) (by kernel_rfl) (fun _ _ _ h => h) (Or.inl ⟨by rfl, ?_⟩) KP.out ?_
  · intro wq hSw
    obtain ⟨x1, x2⟩ := two_cells hSw.p
    obtain ⟨y0, y1, y2, y3, y4, y5, y6, y7, y8, y9⟩ := ten_cells hSw.o
    go_simp
  (try simp only [Act.put, List.setIfInBounds_toArray, List.set_cons_zero, List.set_cons_succ])
  refine wpAnyT_take (i := 14) (oi := { dst := some 141, op := Op.load 9 (Operand.tmp 140), type := 9, pos := "law.go:125", after := #[{ on := 13, ground := Ground.data }], guard := none }) (v := .string on) [17, 18, 19] rfl (by kernel_rfl) (by kernel_rfl) (by kernel_rfl) (by kernel_rfl) (fun _ _ _ h => h) (Or.inl ⟨by rfl, ?_⟩) KP.out ?_
  · intro wq hSw
    obtain ⟨x1, x2⟩ := two_cells hSw.p
    obtain ⟨y0, y1, y2, y3, y4, y5, y6, y7, y8, y9⟩ := ten_cells hSw.o
    go_simp
  (try simp only [Act.put, List.setIfInBounds_toArray, List.set_cons_zero, List.set_cons_succ])
  refine wpAnyT_take (i := 15) (oi := { dst := some 142, op := Op.fieldAddr 36 (Operand.tmp 3) 3, type := 0, pos := "law.go:125", after := #[], guard := none }) (v := .pointer (some ⟨w.heap.size, 3, none⟩)) [16, 17, 18, 19] rfl (by kernel_rfl) (by kernel_rfl) (by kernel_rfl) (by kernel_rfl) (fun _ _ _ h => h) (Or.inl ⟨by rfl, ?_⟩) KP.out ?_
  · intro wq hSw
    obtain ⟨x1, x2⟩ := two_cells hSw.p
    obtain ⟨y0, y1, y2, y3, y4, y5, y6, y7, y8, y9⟩ := ten_cells hSw.o
    go_simp
  (try simp only [Act.put, List.setIfInBounds_toArray, List.set_cons_zero, List.set_cons_succ])
  refine wpAnyT_take (i := 16) (oi := { dst := some 143, op := Op.load 9 (Operand.tmp 142), type := 9, pos := "law.go:125", after := #[{ on := 15, ground := Ground.data }], guard := none }) (v := .string ot) [17, 18, 19] rfl (by kernel_rfl) (by kernel_rfl) (by kernel_rfl) (by kernel_rfl) (fun _ _ _ h => h) (Or.inl ⟨by rfl, ?_⟩) KP.out ?_
  · intro wq hSw
    obtain ⟨x1, x2⟩ := two_cells hSw.p
    obtain ⟨y0, y1, y2, y3, y4, y5, y6, y7, y8, y9⟩ := ten_cells hSw.o
    go_simp
  (try simp only [Act.put, List.setIfInBounds_toArray, List.set_cons_zero, List.set_cons_succ])
  refine wpAnyT_one (i := 8) (o := { dst := some 135, op := Op.call { callee := Callee.value (Operand.func 51), args := #[Operand.tmp 130, Operand.tmp 132, Operand.tmp 134], argTypes := #[24, 9, 9] }, type := 41, pos := "law.go:125", after := #[{ on := 3, ground := Ground.data }, { on := 5, ground := Ground.data }, { on := 7, ground := Ground.data }], guard := none }) (by kernel_rfl) rfl (fun K hK => ?_)
  go_simp
  go_at_call 51
  refine (hA.out q PQ.out).mono ?_
  rintro e w1 ⟨er, S1, O1, rfl, hs1, P1, G1⟩
  replace P1 := hide P1
  replace G1 := hide G1
  replace hs1 := hide hs1
  have K1 : Hid (Bxs pb w.heap.size b rb ⟨5, os, on, ot, ov, oD, oo, onn, of, ofs, od, ovk, oks⟩ w1) := ⟨P1.out.box, G1.out.but.at KP.out.o hob.out⟩
  (try go_simp)
  refine hK.out _ _ (fun _ => K1.out) ?_
  clear hK K
  (try simp only [Act.put, List.setIfInBounds_toArray, List.set_cons_zero, List.set_cons_succ])
  refine wpAnyT_one (i := 17) (o := { dst := some 144, op := Op.call { callee := Callee.value (Operand.func 52), args := #[Operand.tmp 139, Operand.tmp 141, Operand.tmp 143], argTypes := #[26, 9, 9] }, type := 41, pos := "law.go:125", after := #[{ on := 12, ground := Ground.data }, { on := 14, ground := Ground.data }, { on := 16, ground := Ground.data }, { on := 8, ground := Ground.chain }], guard := none }) (by kernel_rfl) rfl (fun K hK => ?_)
  go_simp
  go_at_call 52
  refine (hB.out w1 S1 O1 P1.out).mono ?_
  rintro e w2 ⟨V2, rfl, P2, G2⟩
  replace P2 := hide P2
  replace G2 := hide G2
  have hob1 : ¬ own pb O1 rb V w.heap.size := fun c => (G1.out.own _ c).elim hob.out (fun c => by have := heap_lt KP.out.o; omega)
  have K2 : Hid (Bxs pb w.heap.size b rb ⟨5, os, on, ot, ov, oD, oo, onn, of, ofs, od, ovk, oks⟩ w2) := ⟨P2.out.box, G2.out.but.at K1.out.o hob1⟩
  (try go_simp)
  refine hK.out _ _ (fun _ => K2.out) ?_
  clear hK K
  (try simp only [Act.put, List.setIfInBounds_toArray, List.set_cons_zero, List.set_cons_succ])
  refine wpAnyT_take (i := 18) (oi := { dst := some 145, op := Op.binOp BinOp.eql 41 (Operand.tmp 135) (Operand.tmp 144) 41, type := 4, pos := "law.go:125", after := #[{ on := 8, ground := Ground.data }, { on := 17, ground := Ground.data }], guard := none }) (v := .bool (er == RR.2)) [19] rfl (by kernel_rfl) (by kernel_rfl) (by kernel_rfl) (by kernel_rfl) (fun _ _ _ h => h) (Or.inl ⟨by rfl, ?_⟩) K2.out ?_
  · intro wq hSw
    obtain ⟨x1, x2⟩ := two_cells hSw.p
    obtain ⟨y0, y1, y2, y3, y4, y5, y6, y7, y8, y9⟩ := ten_cells hSw.o
    go_simp
  (try simp only [Act.put, List.setIfInBounds_toArray, List.set_cons_zero, List.set_cons_succ])
  refine wpAnyT_one (i := 19) (o := { dst := some 4, op := Op.assign (Operand.tmp 145), type := 4, pos := "law.go:125", after := #[{ on := 18, ground := Ground.data }, { on := 17, ground := Ground.chain }, { on := 0, ground := Ground.phase }, { on := 1, ground := Ground.phase }, { on := 2, ground := Ground.phase }, { on := 3, ground := Ground.phase }, { on := 4, ground := Ground.phase }, { on := 5, ground := Ground.phase }, { on := 6, ground := Ground.phase }, { on := 7, ground := Ground.phase }, { on := 8, ground := Ground.phase }, { on := 9, ground := Ground.phase }, { on := 10, ground := Ground.phase }, { on := 11, ground := Ground.phase }, { on := 12, ground := Ground.phase }, { on := 13, ground := Ground.phase }, { on := 14, ground := Ground.phase }, { on := 15, ground := Ground.phase }, { on := 16, ground := Ground.phase }, { on := 17, ground := Ground.phase }, { on := 18, ground := Ground.phase }], guard := none }) (by kernel_rfl) rfl (fun K hK => ?_)
  go_simp
  refine hK.out _ _ (vac (by kernel_rfl)) ?_
  clear hK K
  (try simp only [Act.put, List.setIfInBounds_toArray, List.set_cons_zero, List.set_cons_succ])
  refine wpAnyT_done (by kernel_rfl) ?_ _
  obtain ⟨bb, hbb⟩ : ∃ bb, Hid ((er == RR.2) = bb) := ⟨_, rfl⟩
  rw [hbb.out]
  go_wp2_with fail
  go_ret
  refine ⟨⟨bb, S1, _, b, rfl, by rw [hpR.out]; exact P2.out.toPW, ?_, hpS.out S1 ?_, fun hr => ?_, fun _ => rfl⟩⟩
  · have hG := (Sgo.of_below (O := own pb O rb V) GQ.out).trans (G1.out.trans G2.out)
    first | exact hG | (rw [hQ]; exact hG)
  · exact hs1.out.1
  · rw [← hbb.out]
    simpa using hRel.out er S1 hs1.out hr
set_option maxRecDepth 100000 in
set_option maxHeartbeats 2000000 in
theorem pl_remove (o : Dop) (hk : o.kind = 6) (h : PlI W0 w pb b S R o Q) : Calls Tryz.prog 11 #[.pointer (some ⟨pb, 0, none⟩), opV o] w (PlP w pb b S R o Q) := by
  obtain ⟨rb, O, V, hx, hQ⟩ := h.pw
  have hI := hide h
  have hpS : Hid (∀ S', S' = (S.remove o.nm).1 → DS.play S o S') := fun S' hs => by unfold DS.play; simp [hk, hs]
  have hpR : Hid (R.play o = (R.remove o.nm).1) := by show _ = _; unfold RB.play; simp [hk]
  have HX := hide hx
  have hA : Hid (∀ q, PX q pb b rb S R O V → Calls Tryz.prog 53 #[.pointer (some ⟨b, 0, none⟩), .string o.nm] q fun e w' => ∃ er S' O', e = .returned (.int .i64 er) ∧ (S' = (S.remove o.nm).1 ∧ er = (S.remove o.nm).2) ∧ PX w' pb b rb S' R O' V ∧ Sgo q w' (own pb O rb V) (own pb O' rb V)) := fun q hq => by
    refine (remove_dsk hq.d o.nm (by have := hI.out.ok.nm; omega) (by have := hI.out.cs; omega)).mono ?_
    rintro e w' ⟨rfl, O', hd, hg⟩
    obtain ⟨px, gx⟩ := hq.stepA hd hg
    exact ⟨_, _, _, rfl, ⟨rfl, rfl⟩, px, gx⟩
  have hB : Hid (∀ q S' O', PX q pb b rb S' R O' V → Calls Tryz.prog 54 #[.pointer (some ⟨rb, 0, none⟩), .string o.nm] q fun e w' => ∃ V', e = .returned (.int .i64 (R.remove o.nm).2) ∧ PX w' pb b rb S' (R.remove o.nm).1 O' V' ∧ Sgo q w' (own pb O' rb V) (own pb O' rb V')) := fun q S' O' hq => by
    refine (remove_rm hq.r hI.out.ri.ok (by have := hI.out.cr; omega) (by have := hI.out.ri.dlen; omega) (by have := hI.out.ri.cnt; have := hI.out.cr; omega) o.nm (by have := hI.out.ok.nm; unfold maxLen; omega)).mono ?_
    rintro e w' ⟨rfl, hg⟩
    obtain ⟨V', px, gx⟩ := hq.stepB hg
    exact ⟨V', rfl, px, gx⟩
  have hRel : Hid (∀ er S', (S' = (S.remove o.nm).1 ∧ er = (S.remove o.nm).2) → Rel S R → er = (R.remove o.nm).2) := fun er S' hs hr => by
    obtain ⟨_, rfl⟩ := hs; exact (hr.remove o.nm).2
  obtain ⟨RR, hRR⟩ : ∃ RR, Hid ((R.remove o.nm) = RR) := ⟨_, rfl⟩
  rw [hRR.out] at hB hRel hpR
  obtain ⟨ok, os, on, ot, ov, oD, oo, onn, of, ofs, od, ovk, oks⟩ := o
  dsimp only at hk hA hB hpS hRel
  subst hk
  have BF := hide (box_below w (.cells #[.int .i64 6, .bool os, .string on, .string ot, ov, .int .i64 oo, .int .i64 onn, of, .int .i64 od, ovk] 36))
  have NF := heap_alloc_new w (.cells #[.int .i64 6, .bool os, .string on, .string ot, ov, .int .i64 oo, .int .i64 onn, of, .int .i64 od, ovk] 36)
  have hlt := hide hx.lt
  clear hx
  unfold opV
  go_enter Tryz.func11, Tryz.ntmps11
  obtain ⟨wf, hwf⟩ : ∃ wf, Hid (w.alloc (.cells #[.int .i64 6, .bool os, .string on, .string ot, ov, .int .i64 oo, .int .i64 onn, of, .int .i64 od, ovk] 36) = wf) := ⟨_, rfl⟩
  have c0 : (w.alloc (.cells #[.int .i64 6, .bool os, .string on, .string ot, ov, .int .i64 oo, .int .i64 onn, of, .int .i64 od, ovk] 36)).cell? ⟨w.heap.size, 0, none⟩ = some (.int .i64 6) := (ten_cells NF).1
  go_upto_region 18 with fail
  rw [hwf.out] at BF NF ⊢
  have MX := hide (HX.out.below BF.out)
  have hob : Hid (¬ own pb O rb V w.heap.size) := fun c => Nat.lt_irrefl _ (hlt.out _ c)
  have B0 : Hid (Bxs pb w.heap.size b rb ⟨6, os, on, ot, ov, oD, oo, onn, of, ofs, od, ovk, oks⟩ wf) := ⟨MX.out.box, NF⟩
  have KP : Hid (Bxs pb w.heap.size b rb ⟨6, os, on, ot, ov, oD, oo, onn, of, ofs, od, ovk, oks⟩ wf.drew) := B0.out.go (But.of_below (Below.refl _ _).drew fun _ => False) (fun c => c) (fun c => c)
  have PQ : Hid (PX wf.drew pb b rb S R O V) := MX.out.below (Below.refl _ _).drew
  have GQ : Hid (Below w.heap.size w wf.drew) := BF.out.drew
  clear c0 NF
  refine wp_region_T (fun q => Bxs pb w.heap.size b rb ⟨6, os, on, ot, ov, oD, oo, onn, of, ofs, od, ovk, oks⟩ q) 15 (by kernel_rfl) ?_
  generalize wf.drew = q at *
  refine wpAnyT_take (i := 0) (oi := { dst := some 148, op := Op.move (Operand.tmp 0), type := 37, pos := "law.go:127", after := #[], guard := none }) (v := .pointer (some ⟨pb, 0, none⟩)) [1, 2, 3, 6, 14, 15] rfl (by kernel_rfl) (by kernel_rfl) (by kernel_rfl) (by kernel_rfl) (fun _ _ _ h => h) (Or.inl ⟨by rfl, ?_⟩) KP.out ?_
  · intro wq hSw
    obtain ⟨x1, x2⟩ := two_cells hSw.p
    obtain ⟨y0, y1, y2, y3, y4, y5, y6, y7, y8, y9⟩ := ten_cells hSw.o
    go_simp
  (try simp only [Act.put, List.setIfInBounds_toArray, List.set_cons_zero, List.set_cons_succ])
  refine wpAnyT_take (i := 1) (oi := { dst := some 149, op := Op.nilCheck (Operand.tmp 148), type := 0, pos := "law.go:127", after := #[{ on := 0, ground := Ground.data }], guard := none }) (v := .pointer (some ⟨pb, 0, none⟩)) [2, 3, 6, 14, 15] rfl (by kernel_rfl) (by kernel_rfl) (by kernel_rfl) (by kernel_rfl) (fun _ _ _ h => h) (Or.inl ⟨by rfl, ?_⟩) KP.out ?_
  · intro wq hSw
    obtain ⟨x1, x2⟩ := two_cells hSw.p
    obtain ⟨y0, y1, y2, y3, y4, y5, y6, y7, y8, y9⟩ := ten_cells hSw.o
    go_simp
  (try simp only [Act.put, List.setIfInBounds_toArray, List.set_cons_zero, List.set_cons_succ])
  refine wpAnyT_take (i := 2) (oi := { dst := some 150, op := Op.fieldAddr 29 (Operand.tmp 149) 0, type := 0, pos := "law.go:127", after := #[{ on := 1, ground := Ground.data }], guard := none }) (v := .pointer (some ⟨pb, 0, none⟩)) [3, 6, 14, 15] rfl (by kernel_rfl) (by kernel_rfl) (by kernel_rfl) (by kernel_rfl) (fun _ _ _ h => h) (Or.inl ⟨by rfl, ?_⟩) KP.out ?_
  · intro wq hSw
    obtain ⟨x1, x2⟩ := two_cells hSw.p
    obtain ⟨y0, y1, y2, y3, y4, y5, y6, y7, y8, y9⟩ := ten_cells hSw.o
    go_simp
  (try simp only [Act.put, List.setIfInBounds_toArray, List.set_cons_zero, List.set_cons_succ])
  refine wpAnyT_take (i := 3) (oi := { dst := some 151, op := Op.load 24 (Operand.tmp 150), type := 24, pos := "law.go:127", after := #[{ on := 2, ground := Ground.data }], guard := none }) (v := .pointer (some ⟨b, 0, none⟩)) [6, 14, 15] rfl (by kernel_rfl) (by kernel_rfl) (by kernel_rfl) (by kernel_rfl) (fun _ _ _ h => h) (Or.inl ⟨by rfl, ?_⟩) KP.out ?_
  · intro wq hSw
    obtain ⟨x1, x2⟩ := two_cells hSw.p
    obtain ⟨y0, y1, y2, y3, y4, y5, y6, y7, y8, y9⟩ := ten_cells hSw.o
    go_simp
  (try simp only [Act.put, List.setIfInBounds_toArray, List.set_cons_zero, List.set_cons_succ])
  refine wpAnyT_take (i := 4) (oi := { dst := some 152, op := Op.fieldAddr 36 (Operand.tmp 3) 2, type := 0, pos := "law.go:127", after := #[], guard := none }) (v := .pointer (some ⟨w.heap.size, 2, none⟩)) [5, 6, 14, 15] rfl (by kernel_rfl) (by kernel_rfl) (by kernel_rfl) (by kernel_rfl) (fun _ _ _ h => h) (Or.inl ⟨by rfl, ?_⟩) KP.out ?_
  · intro wq hSw
    obtain ⟨x1, x2⟩ := two_cells hSw.p
    obtain ⟨y0, y1, y2, y3, y4, y5, y6, y7, y8, y9⟩ := ten_cells hSw.o
    go_simp
  (try simp only [Act.put, List.setIfInBounds_toArray, List.set_cons_zero, List.set_cons_succ])
  refine wpAnyT_take (i := 5) (oi := { dst := some 153, op := Op.load 9 (Operand.tmp 152), type := 9, pos := "law.go:127", after := #[{ on := 4, ground := Ground.data }], guard := none }) (v := .string on) [6, 14, 15] rfl (by kernel_rfl) (by kernel_rfl) (by kernel_rfl) (by kernel_rfl) (fun _ _ _ h => h) (Or.inl ⟨by rfl, ?_⟩) KP.out ?_
  · intro wq hSw
    obtain ⟨x1, x2⟩ := two_cells hSw.p
    obtain ⟨y0, y1, y2, y3, y4, y5, y6, y7, y8, y9⟩ := ten_cells hSw.o
    go_simp
  (try simp only [Act.put, List.setIfInBounds_toArray, List.set_cons_zero, List.set_cons_succ])
  refine wpAnyT_take (i := 7) (oi := { dst := some 155, op := Op.move (Operand.tmp 0), type := 37, pos := "law.go:127", after := #[], guard := none }) (v := .pointer (some ⟨pb, 0, none⟩)) [8, 9, 10, 13, 14, 15] rfl (by kernel_rfl) (by kernel_rfl) (by kernel_rfl) (by kernel_rfl) (fun _ _ _ h => h) (Or.inl ⟨by rfl, ?_⟩) KP.out ?_
  · intro wq hSw
    obtain ⟨x1, x2⟩ := two_cells hSw.p
    obtain ⟨y0, y1, y2, y3, y4, y5, y6, y7, y8, y9⟩ := ten_cells hSw.o
    go_simp
  (try simp only [Act.put, List.setIfInBounds_toArray, List.set_cons_zero, List.set_cons_succ])
  refine wpAnyT_take (i := 8) (oi := { dst := some 156, op := Op.nilCheck (Operand.tmp 155), type := 0, pos := "law.go:127", after := #[{ on := 7, ground := Ground.data }], guard := none }) (v := .pointer (some ⟨pb, 0, none⟩)) [9, 10, 13, 14, 15] rfl (by kernel_rfl) (by kernel_rfl) (by kernel_rfl) (by kernel_rfl) (fun _ _ _ h => h) (Or.inl ⟨by rfl, ?_⟩) KP.out ?_
  · intro wq hSw
    obtain ⟨x1, x2⟩ := two_cells hSw.p
    obtain ⟨y0, y1, y2, y3, y4, y5, y6, y7, y8, y9⟩ := ten_cells hSw.o
    go_simp
  (try simp only [Act.put, List.setIfInBounds_toArray, List.set_cons_zero, List.set_cons_succ])
  refine wpAnyT_take (i := 9) (oi := { dst := some 157, op := Op.fieldAddr 29 (Operand.tmp 156) 1, type := 0, pos := "law.go:127", after := #[{ on := 8, ground := Ground.data }], guard := none }) (v := .pointer (some ⟨pb, 1, none⟩)) [10, 13, 14, 15] rfl (by kernel_rfl) (by kernel_rfl) (by kernel_rfl) (by kernel_rfl) (fun _ _ _ h => h) (Or.inl ⟨by rfl, ?_⟩) KP.out ?_
  · intro wq hSw
    obtain ⟨x1, x2⟩ := two_cells hSw.p
    obtain ⟨y0, y1, y2, y3, y4, y5, y6, y7, y8, y9⟩ := ten_cells hSw.o
    go_simp
  (try simp only [Act.put, List.setIfInBounds_toArray, List.set_cons_zero, List.set_cons_succ])
  refine wpAnyT_take (i := 10) (oi := { dst := some 158, op := Op.load 26 (Operand.tmp 157), type := 26, pos := "law.go:127", after := #[{ on := 9, ground := Ground.data }], guard := none }) (v := .pointer (some ⟨rb, 0, none⟩)) [13, 14, 15] rfl (by kernel_rfl) (by kernel_rfl) (by kernel_rfl) (by kernel_rfl) (fun _ _ _ h => h) (Or.inl ⟨by rfl, ?_⟩) KP.out ?_
  · intro wq hSw
    obtain ⟨x1, x2⟩ := two_cells hSw.p
    obtain ⟨y0, y1, y2, y3, y4, y5, y6, y7, y8, y9⟩ := ten_cells hSw.o
    go_simp
  (try simp only [Act.put, List.setIfInBounds_toArray, List.set_cons_zero, List.set_cons_succ])
  refine wpAnyT_take (i := 11) (oi := { dst := some 159, op := Op.fieldAddr 36 (Operand.tmp 3) 2, type := 0, pos := "law.go:127", after := #[], guard := none }) (v := .pointer (some ⟨w.heap.size, 2, none⟩)) [12, 13, 14, 15] rfl (by kernel_rfl) (by kernel_rfl) (by kernel_rfl) (by kernel_rfl) (fun _ _ _ h => h) (Or.inl ⟨by rfl, ?_⟩) KP.out ?_
  · intro wq hSw
    obtain ⟨x1, x2⟩ := two_cells hSw.p
    obtain ⟨y0, y1, y2, y3, y4, y5, y6, y7, y8, y9⟩ := ten_cells hSw.o
    go_simp
  (try simp only [Act.put, List.setIfInBounds_toArray, List.set_cons_zero, List.set_cons_succ])
  refine wpAnyT_take (i := 12) (oi := { dst := some 160, op := Op.load 9 (Operand.tmp 159), type := 9, pos := "law.go:127", after := #[{ on := 11, ground := Ground.data }], guard := none }) (v := .string on) [13, 14, 15] rfl (by kernel_rfl) (by kernel_rfl) (by kernel_rfl) (by kernel_rfl) (fun _ _ _ h => h) (Or.inl ⟨by rfl, ?_⟩) KP.out ?_
  · intro wq hSw
    obtain ⟨x1, x2⟩ := two_cells hSw.p
    obtain ⟨y0, y1, y2, y3, y4, y5, y6, y7, y8, y9⟩ := ten_cells hSw.o
    go_simp
  (try simp only [Act.put, List.setIfInBounds_toArray, List.set_cons_zero, List.set_cons_succ])
  refine wpAnyT_one (i := 6) (o := { dst := some 154, op := Op.call { callee := Callee.value (Operand.func 53), args := #[Operand.tmp 151, Operand.tmp 153], argTypes := #[24, 9] }, type := 41, pos := "law.go:127", after := #[{ on := 3, ground := Ground.data }, { on := 5, ground := Ground.data }], guard := none }) (by kernel_rfl) rfl (fun K hK => ?_)
  go_simp
  go_at_call 53
  refine (hA.out q PQ.out).mono ?_
  rintro e w1 ⟨er, S1, O1, rfl, hs1, P1, G1⟩
  replace P1 := hide P1
  replace G1 := hide G1
  replace hs1 := hide hs1
  have K1 : Hid (Bxs pb w.heap.size b rb ⟨6, os, on, ot, ov, oD, oo, onn, of, ofs, od, ovk, oks⟩ w1) := ⟨P1.out.box, G1.out.but.at KP.out.o hob.out⟩
  (try go_simp)
  refine hK.out _ _ (fun _ => K1.out) ?_
  clear hK K
  (try simp only [Act.put, List.setIfInBounds_toArray, List.set_cons_zero, List.set_cons_succ])
  refine wpAnyT_one (i := 13) (o := { dst := some 161, op := Op.call { callee := Callee.value (Operand.func 54), args := #[Operand.tmp 158, Operand.tmp 160], argTypes := #[26, 9] }, type := 41, pos := "law.go:127", after := #[{ on := 10, ground := Ground.data }, { on := 12, ground := Ground.data }, { on := 6, ground := Ground.chain }], guard := none }) (by kernel_rfl) rfl (fun K hK => ?_)
  go_simp
  go_at_call 54
  refine (hB.out w1 S1 O1 P1.out).mono ?_
  rintro e w2 ⟨V2, rfl, P2, G2⟩
  replace P2 := hide P2
  replace G2 := hide G2
  have hob1 : ¬ own pb O1 rb V w.heap.size := fun c => (G1.out.own _ c).elim hob.out (fun c => by have := heap_lt KP.out.o; omega)
  have K2 : Hid (Bxs pb w.heap.size b rb ⟨6, os, on, ot, ov, oD, oo, onn, of, ofs, od, ovk, oks⟩ w2) := ⟨P2.out.box, G2.out.but.at K1.out.o hob1⟩
  (try go_simp)
  refine hK.out _ _ (fun _ => K2.out) ?_
  clear hK K
  (try simp only [Act.put, List.setIfInBounds_toArray, List.set_cons_zero, List.set_cons_succ])
  refine wpAnyT_take (i := 14) (oi := { dst := some 162, op := Op.binOp BinOp.eql 41 (Operand.tmp 154) (Operand.tmp 161) 41, type := 4, pos := "law.go:127", after := #[{ on := 6, ground := Ground.data }, { on := 13, ground := Ground.data }], guard := none }) (v := .bool (er == RR.2)) [15] rfl (by kernel_rfl) (by kernel_rfl) (by kernel_rfl) (by kernel_rfl) (fun _ _ _ h => h) (Or.inl ⟨by rfl, ?_⟩) K2.out ?_
  · intro wq hSw
    obtain ⟨x1, x2⟩ := two_cells hSw.p
    obtain ⟨y0, y1, y2, y3, y4, y5, y6, y7, y8, y9⟩ := ten_cells hSw.o
    go_simp
  (try simp only [Act.put, List.setIfInBounds_toArray, List.set_cons_zero, List.set_cons_succ])
  refine wpAnyT_one (i := 15) (o := { dst := some 4, op := Op.assign (Operand.tmp 162), type := 4, pos := "law.go:127", after := #[{ on := 14, ground := Ground.data }, { on := 13, ground := Ground.chain }, { on := 0, ground := Ground.phase }, { on := 1, ground := Ground.phase }, { on := 2, ground := Ground.phase }, { on := 3, ground := Ground.phase }, { on := 4, ground := Ground.phase }, { on := 5, ground := Ground.phase }, { on := 6, ground := Ground.phase }, { on := 7, ground := Ground.phase }, { on := 8, ground := Ground.phase }, { on := 9, ground := Ground.phase }, { on := 10, ground := Ground.phase }, { on := 11, ground := Ground.phase }, { on := 12, ground := Ground.phase }, { on := 13, ground := Ground.phase }, { on := 14, ground := Ground.phase }], guard := none }) (by kernel_rfl) rfl (fun K hK => ?_)
  go_simp
  refine hK.out _ _ (vac (by kernel_rfl)) ?_
  clear hK K
  (try simp only [Act.put, List.setIfInBounds_toArray, List.set_cons_zero, List.set_cons_succ])
  refine wpAnyT_done (by kernel_rfl) ?_ _
  obtain ⟨bb, hbb⟩ : ∃ bb, Hid ((er == RR.2) = bb) := ⟨_, rfl⟩
  rw [hbb.out]
  go_wp2_with fail
  go_ret
  refine ⟨⟨bb, S1, _, b, rfl, by rw [hpR.out]; exact P2.out.toPW, ?_, hpS.out S1 ?_, fun hr => ?_, fun _ => rfl⟩⟩
  · have hG := (Sgo.of_below (O := own pb O rb V) GQ.out).trans (G1.out.trans G2.out)
    first | exact hG | (rw [hQ]; exact hG)
  · exact hs1.out.1
  · rw [← hbb.out]
    simpa using hRel.out er S1 hs1.out hr
set_option maxRecDepth 100000 in
set_option maxHeartbeats 2000000 in
theorem pl_syncDir (o : Dop) (hk : o.kind = 7) (h : PlI W0 w pb b S R o Q) : Calls Tryz.prog 11 #[.pointer (some ⟨pb, 0, none⟩), opV o] w (PlP w pb b S R o Q) := by
  obtain ⟨rb, O, V, hx, hQ⟩ := h.pw
  have hI := hide h
  have hpS : Hid (∀ S', S' = (S.syncDir).1 → DS.play S o S') := fun S' hs => by unfold DS.play; simp [hk, hs]
  have hpR : Hid (R.play o = (R.syncDir).1) := by show _ = _; unfold RB.play; simp [hk]
  have HX := hide hx
  have hA : Hid (∀ q, PX q pb b rb S R O V → Calls Tryz.prog 15 #[.pointer (some ⟨b, 0, none⟩)] q fun e w' => ∃ er S' O', e = .returned (.int .i64 er) ∧ (S' = (S.syncDir).1 ∧ er = (S.syncDir).2) ∧ PX w' pb b rb S' R O' V ∧ Sgo q w' (own pb O rb V) (own pb O' rb V)) := fun q hq => by
    refine (syncDir_dsk hq.d (by have := hI.out.cs; omega)).mono ?_
    rintro e w' ⟨rfl, O', hd, hg⟩
    obtain ⟨px, gx⟩ := hq.stepA hd hg
    exact ⟨_, _, _, rfl, ⟨rfl, rfl⟩, px, gx⟩
  have hB : Hid (∀ q S' O', PX q pb b rb S' R O' V → Calls Tryz.prog 55 #[.pointer (some ⟨rb, 0, none⟩)] q fun e w' => ∃ V', e = .returned (.int .i64 (R.syncDir).2) ∧ PX w' pb b rb S' (R.syncDir).1 O' V' ∧ Sgo q w' (own pb O' rb V) (own pb O' rb V')) := fun q S' O' hq => by
    refine (syncDir_rm hq.r hI.out.ri.ok (by have := hI.out.cr; omega) (by have := hI.out.ri.dlen; omega)).mono ?_
    rintro e w' ⟨rfl, hg⟩
    obtain ⟨V', px, gx⟩ := hq.stepB hg
    exact ⟨V', rfl, px, gx⟩
  have hRel : Hid (∀ er S', (S' = (S.syncDir).1 ∧ er = (S.syncDir).2) → Rel S R → er = (R.syncDir).2) := fun er S' hs hr => by
    obtain ⟨_, rfl⟩ := hs; exact (hr.syncDir).2
  obtain ⟨RR, hRR⟩ : ∃ RR, Hid ((R.syncDir) = RR) := ⟨_, rfl⟩
  rw [hRR.out] at hB hRel hpR
  obtain ⟨ok, os, on, ot, ov, oD, oo, onn, of, ofs, od, ovk, oks⟩ := o
  dsimp only at hk hA hB hpS hRel
  subst hk
  have BF := hide (box_below w (.cells #[.int .i64 7, .bool os, .string on, .string ot, ov, .int .i64 oo, .int .i64 onn, of, .int .i64 od, ovk] 36))
  have NF := heap_alloc_new w (.cells #[.int .i64 7, .bool os, .string on, .string ot, ov, .int .i64 oo, .int .i64 onn, of, .int .i64 od, ovk] 36)
  have hlt := hide hx.lt
  clear hx
  unfold opV
  go_enter Tryz.func11, Tryz.ntmps11
  obtain ⟨wf, hwf⟩ : ∃ wf, Hid (w.alloc (.cells #[.int .i64 7, .bool os, .string on, .string ot, ov, .int .i64 oo, .int .i64 onn, of, .int .i64 od, ovk] 36) = wf) := ⟨_, rfl⟩
  have c0 : (w.alloc (.cells #[.int .i64 7, .bool os, .string on, .string ot, ov, .int .i64 oo, .int .i64 onn, of, .int .i64 od, ovk] 36)).cell? ⟨w.heap.size, 0, none⟩ = some (.int .i64 7) := (ten_cells NF).1
  go_upto_region 20 with fail
  rw [hwf.out] at BF NF ⊢
  have MX := hide (HX.out.below BF.out)
  have hob : Hid (¬ own pb O rb V w.heap.size) := fun c => Nat.lt_irrefl _ (hlt.out _ c)
  have B0 : Hid (Bxs pb w.heap.size b rb ⟨7, os, on, ot, ov, oD, oo, onn, of, ofs, od, ovk, oks⟩ wf) := ⟨MX.out.box, NF⟩
  have KP : Hid (Bxs pb w.heap.size b rb ⟨7, os, on, ot, ov, oD, oo, onn, of, ofs, od, ovk, oks⟩ wf.drew) := B0.out.go (But.of_below (Below.refl _ _).drew fun _ => False) (fun c => c) (fun c => c)
  have PQ : Hid (PX wf.drew pb b rb S R O V) := MX.out.below (Below.refl _ _).drew
  have GQ : Hid (Below w.heap.size w wf.drew) := BF.out.drew
  clear c0 NF
  refine wp_region_T (fun q => Bxs pb w.heap.size b rb ⟨7, os, on, ot, ov, oD, oo, onn, of, ofs, od, ovk, oks⟩ q) 11 (by kernel_rfl) ?_
  generalize wf.drew = q at *
  refine wpAnyT_take (i := 0) (oi := { dst := some 165, op := Op.move (Operand.tmp 0), type := 37, pos := "law.go:129", after := #[], guard := none }) (v := .pointer (some ⟨pb, 0, none⟩)) [1, 2, 3, 4, 10, 11] rfl (by kernel_rfl) (by kernel_rfl) (by kernel_rfl) (by kernel_rfl) (fun _ _ _ h => h) (Or.inl ⟨by rfl, ?_⟩) KP.out ?_
  · intro wq hSw
    obtain ⟨x1, x2⟩ := two_cells hSw.p
    obtain ⟨y0, y1, y2, y3, y4, y5, y6, y7, y8, y9⟩ := ten_cells hSw.o
    go_simp
  (try simp only [Act.put, List.setIfInBounds_toArray, List.set_cons_zero, List.set_cons_succ])
  refine wpAnyT_take (i := 1) (oi := { dst := some 166, op := Op.nilCheck (Operand.tmp 165), type := 0, pos := "law.go:129", after := #[{ on := 0, ground := Ground.data }], guard := none }) (v := .pointer (some ⟨pb, 0, none⟩)) [2, 3, 4, 10, 11] rfl (by kernel_rfl) (by kernel_rfl) (by kernel_rfl) (by kernel_rfl) (fun _ _ _ h => h) (Or.inl ⟨by rfl, ?_⟩) KP.out ?_
  · intro wq hSw
    obtain ⟨x1, x2⟩ := two_cells hSw.p
    obtain ⟨y0, y1, y2, y3, y4, y5, y6, y7, y8, y9⟩ := ten_cells hSw.o
    go_simp
  (try simp only [Act.put, List.setIfInBounds_toArray, List.set_cons_zero, List.set_cons_succ])
  refine wpAnyT_take (i := 2) (oi := { dst := some 167, op := Op.fieldAddr 29 (Operand.tmp 166) 0, type := 0, pos := "law.go:129", after := #[{ on := 1, ground := Ground.data }], guard := none }) (v := .pointer (some ⟨pb, 0, none⟩)) [3, 4, 10, 11] rfl (by kernel_rfl) (by kernel_rfl) (by kernel_rfl) (by kernel_rfl) (fun _ _ _ h => h) (Or.inl ⟨by rfl, ?_⟩) KP.out ?_
  · intro wq hSw
    obtain ⟨x1, x2⟩ := two_cells hSw.p
    obtain ⟨y0, y1, y2, y3, y4, y5, y6, y7, y8, y9⟩ := ten_cells hSw.o
    go_simp
  (try simp only [Act.put, List.setIfInBounds_toArray, List.set_cons_zero, List.set_cons_succ])
  refine wpAnyT_take (i := 3) (oi := { dst := some 168, op := Op.load 24 (Operand.tmp 167), type := 24, pos := "law.go:129", after := #[{ on := 2, ground := Ground.data }], guard := none }) (v := .pointer (some ⟨b, 0, none⟩)) [4, 10, 11] rfl (by kernel_rfl) (by kernel_rfl) (by kernel_rfl) (by kernel_rfl) (fun _ _ _ h => h) (Or.inl ⟨by rfl, ?_⟩) KP.out ?_
  · intro wq hSw
    obtain ⟨x1, x2⟩ := two_cells hSw.p
    obtain ⟨y0, y1, y2, y3, y4, y5, y6, y7, y8, y9⟩ := ten_cells hSw.o
    go_simp
  (try simp only [Act.put, List.setIfInBounds_toArray, List.set_cons_zero, List.set_cons_succ])
  refine wpAnyT_take (i := 5) (oi := { dst := some 170, op := Op.move (Operand.tmp 0), type := 37, pos := "law.go:129", after := #[], guard := none }) (v := .pointer (some ⟨pb, 0, none⟩)) [6, 7, 8, 9, 10, 11] rfl (by kernel_rfl) (by kernel_rfl) (by kernel_rfl) (by kernel_rfl) (fun _ _ _ h => h) (Or.inl ⟨by rfl, ?_⟩) KP.out ?_
  · intro wq hSw
    obtain ⟨x1, x2⟩ := two_cells hSw.p
    obtain ⟨y0, y1, y2, y3, y4, y5, y6, y7, y8, y9⟩ := ten_cells hSw.o
    go_simp
  (try simp only [Act.put, List.setIfInBounds_toArray, List.set_cons_zero, List.set_cons_succ])
  refine wpAnyT_take (i := 6) (oi := { dst := some 171, op := Op.nilCheck (Operand.tmp 170), type := 0, pos := "law.go:129", after := #[{ on := 5, ground := Ground.data }], guard := none }) (v := .pointer (some ⟨pb, 0, none⟩)) [7, 8, 9, 10, 11] rfl (by kernel_rfl) (by kernel_rfl) (by kernel_rfl) (by kernel_rfl) (fun _ _ _ h => h) (Or.inl ⟨by rfl, ?_⟩) KP.out ?_
  · intro wq hSw
    obtain ⟨x1, x2⟩ := two_cells hSw.p
    obtain ⟨y0, y1, y2, y3, y4, y5, y6, y7, y8, y9⟩ := ten_cells hSw.o
    go_simp
  (try simp only [Act.put, List.setIfInBounds_toArray, List.set_cons_zero, List.set_cons_succ])
  refine wpAnyT_take (i := 7) (oi := { dst := some 172, op := Op.fieldAddr 29 (Operand.tmp 171) 1, type := 0, pos := "law.go:129", after := #[{ on := 6, ground := Ground.data }], guard := none }) (v := .pointer (some ⟨pb, 1, none⟩)) [8, 9, 10, 11] rfl (by kernel_rfl) (by kernel_rfl) (by kernel_rfl) (by kernel_rfl) (fun _ _ _ h => h) (Or.inl ⟨by rfl, ?_⟩) KP.out ?_
  · intro wq hSw
    obtain ⟨x1, x2⟩ := two_cells hSw.p
    obtain ⟨y0, y1, y2, y3, y4, y5, y6, y7, y8, y9⟩ := ten_cells hSw.o
    go_simp
  (try simp only [Act.put, List.setIfInBounds_toArray, List.set_cons_zero, List.set_cons_succ])
  refine wpAnyT_take (i := 8) (oi := { dst := some 173, op := Op.load 26 (Operand.tmp 172), type := 26, pos := "law.go:129", after := #[{ on := 7, ground := Ground.data }], guard := none }) (v := .pointer (some ⟨rb, 0, none⟩)) [9, 10, 11] rfl (by kernel_rfl) (by kernel_rfl) (by kernel_rfl) (by kernel_rfl) (fun _ _ _ h => h) (Or.inl ⟨by rfl, ?_⟩) KP.out ?_
  · intro wq hSw
    obtain ⟨x1, x2⟩ := two_cells hSw.p
    obtain ⟨y0, y1, y2, y3, y4, y5, y6, y7, y8, y9⟩ := ten_cells hSw.o
    go_simp
  (try simp only [Act.put, List.setIfInBounds_toArray, List.set_cons_zero, List.set_cons_succ])
  refine wpAnyT_one (i := 4) (o := { dst := some 169, op := Op.call { callee := Callee.value (Operand.func 15), args := #[Operand.tmp 168], argTypes := #[24] }, type := 41, pos := "law.go:129", after := #[{ on := 3, ground := Ground.data }], guard := none }) (by kernel_rfl) rfl (fun K hK => ?_)
  go_simp
  go_at_call 15
  refine (hA.out q PQ.out).mono ?_
  rintro e w1 ⟨er, S1, O1, rfl, hs1, P1, G1⟩
  replace P1 := hide P1
  replace G1 := hide G1
  replace hs1 := hide hs1
  have K1 : Hid (Bxs pb w.heap.size b rb ⟨7, os, on, ot, ov, oD, oo, onn, of, ofs, od, ovk, oks⟩ w1) := ⟨P1.out.box, G1.out.but.at KP.out.o hob.out⟩
  (try go_simp)
  refine hK.out _ _ (fun _ => K1.out) ?_
  clear hK K
  (try simp only [Act.put, List.setIfInBounds_toArray, List.set_cons_zero, List.set_cons_succ])
  refine wpAnyT_one (i := 9) (o := { dst := some 174, op := Op.call { callee := Callee.value (Operand.func 55), args := #[Operand.tmp 173], argTypes := #[26] }, type := 41, pos := "law.go:129", after := #[{ on := 8, ground := Ground.data }, { on := 4, ground := Ground.chain }], guard := none }) (by kernel_rfl) rfl (fun K hK => ?_)
  go_simp
  go_at_call 55
  refine (hB.out w1 S1 O1 P1.out).mono ?_
  rintro e w2 ⟨V2, rfl, P2, G2⟩
  replace P2 := hide P2
  replace G2 := hide G2
  have hob1 : ¬ own pb O1 rb V w.heap.size := fun c => (G1.out.own _ c).elim hob.out (fun c => by have := heap_lt KP.out.o; omega)
  have K2 : Hid (Bxs pb w.heap.size b rb ⟨7, os, on, ot, ov, oD, oo, onn, of, ofs, od, ovk, oks⟩ w2) := ⟨P2.out.box, G2.out.but.at K1.out.o hob1⟩
  (try go_simp)
  refine hK.out _ _ (fun _ => K2.out) ?_
  clear hK K
  (try simp only [Act.put, List.setIfInBounds_toArray, List.set_cons_zero, List.set_cons_succ])
  refine wpAnyT_take (i := 10) (oi := { dst := some 175, op := Op.binOp BinOp.eql 41 (Operand.tmp 169) (Operand.tmp 174) 41, type := 4, pos := "law.go:129", after := #[{ on := 4, ground := Ground.data }, { on := 9, ground := Ground.data }], guard := none }) (v := .bool (er == RR.2)) [11] rfl (by kernel_rfl) (by kernel_rfl) (by kernel_rfl) (by kernel_rfl) (fun _ _ _ h => h) (Or.inl ⟨by rfl, ?_⟩) K2.out ?_
  · intro wq hSw
    obtain ⟨x1, x2⟩ := two_cells hSw.p
    obtain ⟨y0, y1, y2, y3, y4, y5, y6, y7, y8, y9⟩ := ten_cells hSw.o
    go_simp
  (try simp only [Act.put, List.setIfInBounds_toArray, List.set_cons_zero, List.set_cons_succ])
  refine wpAnyT_one (i := 11) (o := { dst := some 4, op := Op.assign (Operand.tmp 175), type := 4, pos := "law.go:129", after := #[{ on := 10, ground := Ground.data }, { on := 9, ground := Ground.chain }, { on := 0, ground := Ground.phase }, { on := 1, ground := Ground.phase }, { on := 2, ground := Ground.phase }, { on := 3, ground := Ground.phase }, { on := 4, ground := Ground.phase }, { on := 5, ground := Ground.phase }, { on := 6, ground := Ground.phase }, { on := 7, ground := Ground.phase }, { on := 8, ground := Ground.phase }, { on := 9, ground := Ground.phase }, { on := 10, ground := Ground.phase }], guard := none }) (by kernel_rfl) rfl (fun K hK => ?_)
  go_simp
  refine hK.out _ _ (vac (by kernel_rfl)) ?_
  clear hK K
  (try simp only [Act.put, List.setIfInBounds_toArray, List.set_cons_zero, List.set_cons_succ])
  refine wpAnyT_done (by kernel_rfl) ?_ _
  obtain ⟨bb, hbb⟩ : ∃ bb, Hid ((er == RR.2) = bb) := ⟨_, rfl⟩
  rw [hbb.out]
  go_wp2_with fail
  go_ret
  refine ⟨⟨bb, S1, _, b, rfl, by rw [hpR.out]; exact P2.out.toPW, ?_, hpS.out S1 ?_, fun hr => ?_, fun _ => rfl⟩⟩
  · have hG := (Sgo.of_below (O := own pb O rb V) GQ.out).trans (G1.out.trans G2.out)
    first | exact hG | (rw [hQ]; exact hG)
  · exact hs1.out.1
  · rw [← hbb.out]
    simpa using hRel.out er S1 hs1.out hr
end Go.Proofs.YtpbiopmlipchdaaGreat.Re

