/-
  Plays: Read and Size.
-/
import Derived.Test.YtpbiopmlipchdaaGreatK29
import Derived.Test.YtpbiopmlipchdaaGreatK30
namespace Go.Proofs.YtpbiopmlipchdaaGreat.Re
open Go.RowKit Go.Maps Go.Sort Go.Shelf Go.Proofs.YtpbiopmlipchdaaGreat.Nm Go.Proofs.YtpbiopmlipchdaaGreat.Dk
open Ix (wp_region_T wpAnyT wpAnyT_take wpAnyT_one wpAnyT_done vac)
set_option linter.unusedVariables false
variable {W0 w : World} {pb b : Nat} {S : DS} {R : RB} {Q : Nat → Prop}
theorem read_rm {w : World} {b : Nat} {R : RB} {V : RV} (h : RM w b R V) (I : RI R) (s : ByteArray) (hs : s.size ≤ maxLen) (o n : Int) (g0 : -9223372036854775808 ≤ n) (g1 : n ≤ 9223372036854775807) :
    Calls Tryz.prog 56 #[.pointer (some ⟨b, 0, none⟩), .string s, .int .i64 o, .int .i64 n] w fun e w' => ∃ v, e = .returned (.tuple #[v, .int .i64 (R.read s o n).2]) ∧ Ob w.heap.size w' v (R.read s o n).1 ∧ Below w.heap.size w w' := by
  have hz : (R.lenOf (R.pOf s) : Int) ≤ 1000000000 := by have := (fOf_la I (R.pOf s)).2; rw [← lenOf_fOf] at this; omega
  by_cases h0 : refN R.down R.dir s true = 0
  · by_cases h1 : 0 ≤ o ∧ 0 ≤ n ∧ o + n ≤ (R.lenOf (R.pOf s) : Int)
    · have e1 : R.read s o n = (((R.byOf (R.pOf s)).drop o.toNat).take n.toNat, 0) := by unfold RB.read; rw [if_neg (by simp [h0]), if_pos h1]
      rw [e1]
      obtain ⟨o', rfl⟩ : ∃ o' : Nat, o = (o' : Int) := ⟨o.toNat, by omega⟩
      obtain ⟨n', rfl⟩ : ∃ n' : Nat, n = (n' : Int) := ⟨n.toNat, by omega⟩
      exact read_rm_ok h I.dirF s hs o' n' h0 (by omega) hz
    · have e1 : R.read s o n = ([], 8) := by unfold RB.read; rw [if_neg (by simp [h0]), if_neg h1]
      rw [e1]
      refine (read_rm_out h I.dirF s hs o n g0 g1 h0 h1 hz).mono ?_
      rintro e w' ⟨rfl, hb⟩
      exact ⟨_, rfl, Ob.nil _ _, hb⟩
  · have e1 : R.read s o n = ([], refN R.down R.dir s true) := by unfold RB.read; rw [if_pos h0]
    rw [e1]
    refine (read_rm_no h s hs o n h0).mono ?_
    rintro e w' ⟨rfl, rfl⟩
    exact ⟨_, rfl, Ob.nil _ _, Below.refl _ _⟩
set_option maxRecDepth 100000 in
set_option maxHeartbeats 2000000 in
theorem pl_read (o : Dop) (hk : o.kind = 8) (h : PlI W0 w pb b S R o Q) : Calls Tryz.prog 11 #[.pointer (some ⟨pb, 0, none⟩), opV o] w (PlP w pb b S R o Q) := by
  obtain ⟨rb, O, V, hx, hQ⟩ := h.pw
  have hI := hide h
  have HX := hide hx
  have hlt := hide hx.lt
  have hpR : Hid (R.play o = R) := by show _ = _; unfold RB.play; simp [hk]
  have hpS : Hid (DS.play S o S) := by show DS.play S o S; unfold DS.play; simp [hk]
  have hn1 := hide h.ok.n
  have hnm : Hid (o.nm.size ≤ maxLen) := by show _ ≤ _; have := h.ok.nm; unfold maxLen; omega
  have hA : Hid (∀ q, PX q pb b rb S R O V → Calls Tryz.prog 20 #[.pointer (some ⟨b, 0, none⟩), .string o.nm, .int .i64 o.off, .int .i64 o.n] q fun e w' => ∃ v, e = .returned (.tuple #[v, .int .i64 (S.read o.nm o.off o.n).2]) ∧ Ob q.heap.size w' v (S.read o.nm o.off o.n).1 ∧ Below q.heap.size q w') := fun q hq => read_dsk hq.d o.nm hnm.out o.off o.n
  have hB : Hid (∀ q, PX q pb b rb S R O V → Calls Tryz.prog 56 #[.pointer (some ⟨rb, 0, none⟩), .string o.nm, .int .i64 o.off, .int .i64 o.n] q fun e w' => ∃ v, e = .returned (.tuple #[v, .int .i64 (R.read o.nm o.off o.n).2]) ∧ Ob q.heap.size w' v (R.read o.nm o.off o.n).1 ∧ Below q.heap.size q w') := fun q hq => read_rm hq.r hI.out.ri o.nm hnm.out o.off o.n hn1.out.1 hn1.out.2
  have hC : Hid (∀ q, PX q pb b rb S R O V → Calls Tryz.prog 19 #[.pointer (some ⟨b, 0, none⟩), .string o.nm] q fun e w' => e = .returned (.tuple #[.int .i64 (S.size o.nm).1, .int .i64 (S.size o.nm).2]) ∧ Below q.heap.size q w') := fun q hq => size_dsk hq.d o.nm hnm.out
  have hDD : Hid (∀ q, PX q pb b rb S R O V → Calls Tryz.prog 57 #[.pointer (some ⟨rb, 0, none⟩), .string o.nm] q fun e w' => e = .returned (.tuple #[.int .i64 (R.size o.nm).1, .int .i64 (R.size o.nm).2]) ∧ Below q.heap.size q w') := fun q hq => size_rm hq.r hI.out.ri.dirF o.nm hnm.out
  have hRel : Hid (Rel S R → S.read o.nm o.off o.n = R.read o.nm o.off o.n ∧ S.size o.nm = R.size o.nm) := fun hr => ⟨hr.read _ _ _, hr.size _⟩
  have hL1 : Hid ((S.read o.nm o.off o.n).1.length ≤ maxLen) := by
    show _ ≤ _
    have hk := hx.d.ok
    unfold DS.read
    split
    · rename_i p e heq
      split
      · have hp := find_mem heq
        have := hk.sz p hp
        simp only [List.length_take, List.length_drop]
        unfold maxLen
        omega
      · exact Nat.zero_le _
    · exact Nat.zero_le _
  have hL2 : Hid ((R.read o.nm o.off o.n).1.length ≤ maxLen) := by
    show _ ≤ _
    unfold RB.read
    split
    · exact Nat.zero_le _
    · split
      · have := (fOf_la h.ri (R.pOf o.nm)).2
        rw [byOf_fOf]
        simp only [List.length_take, List.length_drop]
        unfold maxLen
        omega
      · exact Nat.zero_le _
  obtain ⟨A, hAe⟩ : ∃ A, Hid (S.read o.nm o.off o.n = A) := ⟨_, rfl⟩
  obtain ⟨B, hBe⟩ : ∃ B, Hid (R.read o.nm o.off o.n = B) := ⟨_, rfl⟩
  obtain ⟨C, hCe⟩ : ∃ C, Hid (S.size o.nm = C) := ⟨_, rfl⟩
  obtain ⟨D, hDe⟩ : ∃ D, Hid (R.size o.nm = D) := ⟨_, rfl⟩
  rw [hAe.out] at hA hRel hL1
  rw [hBe.out] at hB hRel hL2
  rw [hCe.out] at hC hRel
  rw [hDe.out] at hDD hRel
  clear hAe hBe hCe hDe
  obtain ⟨ok, os, on, ot, ov, oD, oo, onn, of, ofs, od, ovk, oks⟩ := o
  dsimp only at *
  subst hk
  have BF := hide (box_below w (.cells #[.int .i64 8, .bool os, .string on, .string ot, ov, .int .i64 oo, .int .i64 onn, of, .int .i64 od, ovk] 36))
  have NF := heap_alloc_new w (.cells #[.int .i64 8, .bool os, .string on, .string ot, ov, .int .i64 oo, .int .i64 onn, of, .int .i64 od, ovk] 36)
  clear hx h
  unfold opV
  go_enter Tryz.func11, Tryz.ntmps11
  obtain ⟨wf, hwf⟩ : ∃ wf, Hid (w.alloc (.cells #[.int .i64 8, .bool os, .string on, .string ot, ov, .int .i64 oo, .int .i64 onn, of, .int .i64 od, ovk] 36) = wf) := ⟨_, rfl⟩
  have c0 : (w.alloc (.cells #[.int .i64 8, .bool os, .string on, .string ot, ov, .int .i64 oo, .int .i64 onn, of, .int .i64 od, ovk] 36)).cell? ⟨w.heap.size, 0, none⟩ = some (.int .i64 8) := (ten_cells NF).1
  have c4 : (w.alloc (.cells #[.int .i64 8, .bool os, .string on, .string ot, ov, .int .i64 oo, .int .i64 onn, of, .int .i64 od, ovk] 36)).cell? ⟨w.heap.size, 4, none⟩ = some (ov) := (ten_cells NF).2.2.2.2.1
  have c7 : (w.alloc (.cells #[.int .i64 8, .bool os, .string on, .string ot, ov, .int .i64 oo, .int .i64 onn, of, .int .i64 od, ovk] 36)).cell? ⟨w.heap.size, 7, none⟩ = some (of) := (ten_cells NF).2.2.2.2.2.2.2.1
  go_upto_region 22 with fail
  rw [hwf.out] at BF NF ⊢
  clear c0 c4 c7
  have MX := hide (HX.out.below BF.out)
  have hob : Hid (¬ own pb O rb V w.heap.size) := fun c => Nat.lt_irrefl _ (hlt.out _ c)
  have B0 : Hid (Bxs pb w.heap.size b rb ⟨8, os, on, ot, ov, oD, oo, onn, of, ofs, od, ovk, oks⟩ wf) := ⟨MX.out.box, NF⟩
  have KB : Hid (∀ u u', Bxs pb w.heap.size b rb ⟨8, os, on, ot, ov, oD, oo, onn, of, ofs, od, ovk, oks⟩ u → Below u.heap.size u u' → Bxs pb w.heap.size b rb ⟨8, os, on, ot, ov, oD, oo, onn, of, ofs, od, ovk, oks⟩ u') := fun u u' h hb => h.go (But.of_below hb fun _ => False) (fun c => c) (fun c => c)
  have KP1 : Hid (Bxs pb w.heap.size b rb ⟨8, os, on, ot, ov, oD, oo, onn, of, ofs, od, ovk, oks⟩ wf.drew) := KB.out _ _ B0.out (Below.refl _ _).drew
  have PQ1 : Hid (PX wf.drew pb b rb S R O V) := MX.out.below (Below.refl _ _).drew
  have GQ1 : Hid (Below wf.heap.size wf wf.drew) := (Below.refl _ _).drew
  refine wp_region_T (fun q => Bxs pb w.heap.size b rb ⟨8, os, on, ot, ov, oD, oo, onn, of, ofs, od, ovk, oks⟩ q) 15 (by kernel_rfl) ?_
  generalize wf.drew = q1 at *
  refine wpAnyT_take (i := 0) (oi := { dst := some 179, op := Op.move (Operand.tmp 0), type := 37, pos := "law.go:131", after := #[], guard := none }) (v := .pointer (some ⟨pb, 0, none⟩)) [15] rfl (by kernel_rfl) (by kernel_rfl) (by kernel_rfl) (by kernel_rfl) (fun _ _ _ h => h) (Or.inl ⟨by rfl, ?_⟩) KP1.out ?_
  · intro wq hSw
    obtain ⟨x1, x2⟩ := two_cells hSw.p
    obtain ⟨y0, y1, y2, y3, y4, y5, y6, y7, y8, y9⟩ := ten_cells hSw.o
    go_simp
  (try simp only [Act.put, List.setIfInBounds_toArray, List.set_cons_zero, List.set_cons_succ])
  refine wpAnyT_take (i := 1) (oi := { dst := some 180, op := Op.nilCheck (Operand.tmp 179), type := 0, pos := "law.go:131", after := #[{ on := 0, ground := Ground.data }], guard := none }) (v := .pointer (some ⟨pb, 0, none⟩)) [15] rfl (by kernel_rfl) (by kernel_rfl) (by kernel_rfl) (by kernel_rfl) (fun _ _ _ h => h) (Or.inl ⟨by rfl, ?_⟩) KP1.out ?_
  · intro wq hSw
    obtain ⟨x1, x2⟩ := two_cells hSw.p
    obtain ⟨y0, y1, y2, y3, y4, y5, y6, y7, y8, y9⟩ := ten_cells hSw.o
    go_simp
  (try simp only [Act.put, List.setIfInBounds_toArray, List.set_cons_zero, List.set_cons_succ])
  refine wpAnyT_take (i := 2) (oi := { dst := some 181, op := Op.fieldAddr 29 (Operand.tmp 180) 0, type := 0, pos := "law.go:131", after := #[{ on := 1, ground := Ground.data }], guard := none }) (v := .pointer (some ⟨pb, 0, none⟩)) [15] rfl (by kernel_rfl) (by kernel_rfl) (by kernel_rfl) (by kernel_rfl) (fun _ _ _ h => h) (Or.inl ⟨by rfl, ?_⟩) KP1.out ?_
  · intro wq hSw
    obtain ⟨x1, x2⟩ := two_cells hSw.p
    obtain ⟨y0, y1, y2, y3, y4, y5, y6, y7, y8, y9⟩ := ten_cells hSw.o
    go_simp
  (try simp only [Act.put, List.setIfInBounds_toArray, List.set_cons_zero, List.set_cons_succ])
  refine wpAnyT_take (i := 3) (oi := { dst := some 182, op := Op.load 24 (Operand.tmp 181), type := 24, pos := "law.go:131", after := #[{ on := 2, ground := Ground.data }], guard := none }) (v := .pointer (some ⟨b, 0, none⟩)) [15] rfl (by kernel_rfl) (by kernel_rfl) (by kernel_rfl) (by kernel_rfl) (fun _ _ _ h => h) (Or.inl ⟨by rfl, ?_⟩) KP1.out ?_
  · intro wq hSw
    obtain ⟨x1, x2⟩ := two_cells hSw.p
    obtain ⟨y0, y1, y2, y3, y4, y5, y6, y7, y8, y9⟩ := ten_cells hSw.o
    go_simp
  (try simp only [Act.put, List.setIfInBounds_toArray, List.set_cons_zero, List.set_cons_succ])
  refine wpAnyT_take (i := 4) (oi := { dst := some 183, op := Op.fieldAddr 36 (Operand.tmp 3) 2, type := 0, pos := "law.go:131", after := #[], guard := none }) (v := .pointer (some ⟨w.heap.size, 2, none⟩)) [15] rfl (by kernel_rfl) (by kernel_rfl) (by kernel_rfl) (by kernel_rfl) (fun _ _ _ h => h) (Or.inl ⟨by rfl, ?_⟩) KP1.out ?_
  · intro wq hSw
    obtain ⟨x1, x2⟩ := two_cells hSw.p
    obtain ⟨y0, y1, y2, y3, y4, y5, y6, y7, y8, y9⟩ := ten_cells hSw.o
    go_simp
  (try simp only [Act.put, List.setIfInBounds_toArray, List.set_cons_zero, List.set_cons_succ])
  refine wpAnyT_take (i := 5) (oi := { dst := some 184, op := Op.load 9 (Operand.tmp 183), type := 9, pos := "law.go:131", after := #[{ on := 4, ground := Ground.data }], guard := none }) (v := .string on) [15] rfl (by kernel_rfl) (by kernel_rfl) (by kernel_rfl) (by kernel_rfl) (fun _ _ _ h => h) (Or.inl ⟨by rfl, ?_⟩) KP1.out ?_
  · intro wq hSw
    obtain ⟨x1, x2⟩ := two_cells hSw.p
    obtain ⟨y0, y1, y2, y3, y4, y5, y6, y7, y8, y9⟩ := ten_cells hSw.o
    go_simp
  (try simp only [Act.put, List.setIfInBounds_toArray, List.set_cons_zero, List.set_cons_succ])
  refine wpAnyT_take (i := 6) (oi := { dst := some 185, op := Op.fieldAddr 36 (Operand.tmp 3) 5, type := 0, pos := "law.go:131", after := #[], guard := none }) (v := .pointer (some ⟨w.heap.size, 5, none⟩)) [15] rfl (by kernel_rfl) (by kernel_rfl) (by kernel_rfl) (by kernel_rfl) (fun _ _ _ h => h) (Or.inl ⟨by rfl, ?_⟩) KP1.out ?_
  · intro wq hSw
    obtain ⟨x1, x2⟩ := two_cells hSw.p
    obtain ⟨y0, y1, y2, y3, y4, y5, y6, y7, y8, y9⟩ := ten_cells hSw.o
    go_simp
  (try simp only [Act.put, List.setIfInBounds_toArray, List.set_cons_zero, List.set_cons_succ])
  refine wpAnyT_take (i := 7) (oi := { dst := some 186, op := Op.load 3 (Operand.tmp 185), type := 3, pos := "law.go:131", after := #[{ on := 6, ground := Ground.data }], guard := none }) (v := .int .i64 oo) [15] rfl (by kernel_rfl) (by kernel_rfl) (by kernel_rfl) (by kernel_rfl) (fun _ _ _ h => h) (Or.inl ⟨by rfl, ?_⟩) KP1.out ?_
  · intro wq hSw
    obtain ⟨x1, x2⟩ := two_cells hSw.p
    obtain ⟨y0, y1, y2, y3, y4, y5, y6, y7, y8, y9⟩ := ten_cells hSw.o
    go_simp
  (try simp only [Act.put, List.setIfInBounds_toArray, List.set_cons_zero, List.set_cons_succ])
  refine wpAnyT_take (i := 8) (oi := { dst := some 187, op := Op.fieldAddr 36 (Operand.tmp 3) 6, type := 0, pos := "law.go:131", after := #[], guard := none }) (v := .pointer (some ⟨w.heap.size, 6, none⟩)) [15] rfl (by kernel_rfl) (by kernel_rfl) (by kernel_rfl) (by kernel_rfl) (fun _ _ _ h => h) (Or.inl ⟨by rfl, ?_⟩) KP1.out ?_
  · intro wq hSw
    obtain ⟨x1, x2⟩ := two_cells hSw.p
    obtain ⟨y0, y1, y2, y3, y4, y5, y6, y7, y8, y9⟩ := ten_cells hSw.o
    go_simp
  (try simp only [Act.put, List.setIfInBounds_toArray, List.set_cons_zero, List.set_cons_succ])
  refine wpAnyT_take (i := 9) (oi := { dst := some 188, op := Op.load 3 (Operand.tmp 187), type := 3, pos := "law.go:131", after := #[{ on := 8, ground := Ground.data }], guard := none }) (v := .int .i64 onn) [15] rfl (by kernel_rfl) (by kernel_rfl) (by kernel_rfl) (by kernel_rfl) (fun _ _ _ h => h) (Or.inl ⟨by rfl, ?_⟩) KP1.out ?_
  · intro wq hSw
    obtain ⟨x1, x2⟩ := two_cells hSw.p
    obtain ⟨y0, y1, y2, y3, y4, y5, y6, y7, y8, y9⟩ := ten_cells hSw.o
    go_simp
  (try simp only [Act.put, List.setIfInBounds_toArray, List.set_cons_zero, List.set_cons_succ])
  refine wpAnyT_one (i := 10) (o := { dst := some 189, op := Op.call { callee := Callee.value (Operand.func 20), args := #[Operand.tmp 182, Operand.tmp 184, Operand.tmp 186, Operand.tmp 188], argTypes := #[24, 9, 3, 3] }, type := 48, pos := "law.go:131", after := #[{ on := 3, ground := Ground.data }, { on := 5, ground := Ground.data }, { on := 7, ground := Ground.data }, { on := 9, ground := Ground.data }], guard := none }) (by kernel_rfl) rfl (fun K hK => ?_)
  go_simp
  go_at_call 20
  refine (hA.out q1 PQ1.out).mono ?_
  rintro e w1 ⟨v1, rfl, O1, bb1⟩
  obtain ⟨a1, c1, rfl, _, _⟩ := O1.form
  replace O1 := hide O1
  replace bb1 := hide bb1
  have P1 := hide (PQ1.out.below bb1.out)
  have K1 : Hid (Bxs pb w.heap.size b rb ⟨8, os, on, ot, ov, oD, oo, onn, of, ofs, od, ovk, oks⟩ w1) := KB.out _ _ KP1.out bb1.out
  (try go_simp)
  refine hK.out _ _ (fun _ => K1.out) ?_
  clear hK K
  (try simp only [Act.put, List.setIfInBounds_toArray, List.set_cons_zero, List.set_cons_succ])
  refine wpAnyT_take (i := 11) (oi := { dst := some 178, op := Op.move (Operand.tmp 189), type := 48, pos := "law.go:131", after := #[{ on := 10, ground := Ground.data }], guard := none }) (v := .tuple #[.slice a1 A.1.length c1, .int .i64 A.2]) [15] rfl (by kernel_rfl) (by kernel_rfl) (by kernel_rfl) (by kernel_rfl) (fun _ _ _ h => h) (Or.inl ⟨by rfl, ?_⟩) K1.out ?_
  · intro wq hSw
    obtain ⟨x1, x2⟩ := two_cells hSw.p
    obtain ⟨y0, y1, y2, y3, y4, y5, y6, y7, y8, y9⟩ := ten_cells hSw.o
    go_simp
  (try simp only [Act.put, List.setIfInBounds_toArray, List.set_cons_zero, List.set_cons_succ])
  refine wpAnyT_take (i := 12) (oi := { dst := some 190, op := Op.extract (Operand.tmp 178) 0, type := 30, pos := "law.go:131", after := #[{ on := 11, ground := Ground.data }], guard := none }) (v := .slice a1 A.1.length c1) [15] rfl (by kernel_rfl) (by kernel_rfl) (by kernel_rfl) (by kernel_rfl) (fun _ _ _ h => h) (Or.inl ⟨by rfl, ?_⟩) K1.out ?_
  · intro wq hSw
    obtain ⟨x1, x2⟩ := two_cells hSw.p
    obtain ⟨y0, y1, y2, y3, y4, y5, y6, y7, y8, y9⟩ := ten_cells hSw.o
    go_simp
  (try simp only [Act.put, List.setIfInBounds_toArray, List.set_cons_zero, List.set_cons_succ])
  refine wpAnyT_take (i := 13) (oi := { dst := some 191, op := Op.extract (Operand.tmp 178) 1, type := 41, pos := "law.go:131", after := #[{ on := 11, ground := Ground.data }, { on := 14, ground := Ground.gcOnly Departure.lateStores }], guard := none }) (v := .int .i64 A.2) [15] rfl (by kernel_rfl) (by kernel_rfl) (by kernel_rfl) (by kernel_rfl) (fun _ _ _ h => h) (Or.inl ⟨by rfl, ?_⟩) K1.out ?_
  · intro wq hSw
    obtain ⟨x1, x2⟩ := two_cells hSw.p
    obtain ⟨y0, y1, y2, y3, y4, y5, y6, y7, y8, y9⟩ := ten_cells hSw.o
    go_simp
  (try simp only [Act.put, List.setIfInBounds_toArray, List.set_cons_zero, List.set_cons_succ])
  refine wpAnyT_take (i := 14) (oi := { dst := some 10, op := Op.assign (Operand.tmp 190), type := 30, pos := "law.go:131", after := #[{ on := 12, ground := Ground.data }, { on := 10, ground := Ground.chain }, { on := 0, ground := Ground.phase }, { on := 1, ground := Ground.phase }, { on := 2, ground := Ground.phase }, { on := 3, ground := Ground.phase }, { on := 4, ground := Ground.phase }, { on := 5, ground := Ground.phase }, { on := 6, ground := Ground.phase }, { on := 7, ground := Ground.phase }, { on := 8, ground := Ground.phase }, { on := 9, ground := Ground.phase }, { on := 10, ground := Ground.phase }, { on := 11, ground := Ground.phase }, { on := 12, ground := Ground.phase }, { on := 13, ground := Ground.textOnly Departure.lateStores }], guard := none }) (v := .slice a1 A.1.length c1) [15] rfl (by kernel_rfl) (by kernel_rfl) (by kernel_rfl) (by kernel_rfl) (fun _ _ _ h => h) (Or.inl ⟨by rfl, ?_⟩) K1.out ?_
  · intro wq hSw
    obtain ⟨x1, x2⟩ := two_cells hSw.p
    obtain ⟨y0, y1, y2, y3, y4, y5, y6, y7, y8, y9⟩ := ten_cells hSw.o
    go_simp
  (try simp only [Act.put, List.setIfInBounds_toArray, List.set_cons_zero, List.set_cons_succ])
  refine wpAnyT_one (i := 15) (o := { dst := some 11, op := Op.assign (Operand.tmp 191), type := 41, pos := "law.go:131", after := #[{ on := 13, ground := Ground.data }, { on := 14, ground := Ground.chain }, { on := 0, ground := Ground.phase }, { on := 1, ground := Ground.phase }, { on := 2, ground := Ground.phase }, { on := 3, ground := Ground.phase }, { on := 4, ground := Ground.phase }, { on := 5, ground := Ground.phase }, { on := 6, ground := Ground.phase }, { on := 7, ground := Ground.phase }, { on := 8, ground := Ground.phase }, { on := 9, ground := Ground.phase }, { on := 10, ground := Ground.phase }, { on := 11, ground := Ground.phase }, { on := 12, ground := Ground.phase }, { on := 13, ground := Ground.phase }, { on := 14, ground := Ground.phase }], guard := none }) (by kernel_rfl) rfl (fun K hK => ?_)
  go_simp
  refine hK.out _ _ (vac (by kernel_rfl)) ?_
  clear hK K
  (try simp only [Act.put, List.setIfInBounds_toArray, List.set_cons_zero, List.set_cons_succ])
  refine wpAnyT_done (by kernel_rfl) ?_ _
  go_upto_region 23 with fail
  have KP2 : Hid (Bxs pb w.heap.size b rb ⟨8, os, on, ot, ov, oD, oo, onn, of, ofs, od, ovk, oks⟩ w1.drew) := KB.out _ _ K1.out (Below.refl _ _).drew
  have PQ2 : Hid (PX w1.drew pb b rb S R O V) := P1.out.below (Below.refl _ _).drew
  have GQ2 : Hid (Below w1.heap.size w1 w1.drew) := (Below.refl _ _).drew
  refine wp_region_T (fun q => Bxs pb w.heap.size b rb ⟨8, os, on, ot, ov, oD, oo, onn, of, ofs, od, ovk, oks⟩ q) 15 (by kernel_rfl) ?_
  generalize w1.drew = q2 at *
  refine wpAnyT_take (i := 0) (oi := { dst := some 193, op := Op.move (Operand.tmp 0), type := 37, pos := "law.go:132", after := #[], guard := none }) (v := .pointer (some ⟨pb, 0, none⟩)) [15] rfl (by kernel_rfl) (by kernel_rfl) (by kernel_rfl) (by kernel_rfl) (fun _ _ _ h => h) (Or.inl ⟨by rfl, ?_⟩) KP2.out ?_
  · intro wq hSw
    obtain ⟨x1, x2⟩ := two_cells hSw.p
    obtain ⟨y0, y1, y2, y3, y4, y5, y6, y7, y8, y9⟩ := ten_cells hSw.o
    go_simp
  (try simp only [Act.put, List.setIfInBounds_toArray, List.set_cons_zero, List.set_cons_succ])
  refine wpAnyT_take (i := 1) (oi := { dst := some 194, op := Op.nilCheck (Operand.tmp 193), type := 0, pos := "law.go:132", after := #[{ on := 0, ground := Ground.data }], guard := none }) (v := .pointer (some ⟨pb, 0, none⟩)) [15] rfl (by kernel_rfl) (by kernel_rfl) (by kernel_rfl) (by kernel_rfl) (fun _ _ _ h => h) (Or.inl ⟨by rfl, ?_⟩) KP2.out ?_
  · intro wq hSw
    obtain ⟨x1, x2⟩ := two_cells hSw.p
    obtain ⟨y0, y1, y2, y3, y4, y5, y6, y7, y8, y9⟩ := ten_cells hSw.o
    go_simp
  (try simp only [Act.put, List.setIfInBounds_toArray, List.set_cons_zero, List.set_cons_succ])
  refine wpAnyT_take (i := 2) (oi := { dst := some 195, op := Op.fieldAddr 29 (Operand.tmp 194) 1, type := 0, pos := "law.go:132", after := #[{ on := 1, ground := Ground.data }], guard := none }) (v := .pointer (some ⟨pb, 1, none⟩)) [15] rfl (by kernel_rfl) (by kernel_rfl) (by kernel_rfl) (by kernel_rfl) (fun _ _ _ h => h) (Or.inl ⟨by rfl, ?_⟩) KP2.out ?_
  · intro wq hSw
    obtain ⟨x1, x2⟩ := two_cells hSw.p
    obtain ⟨y0, y1, y2, y3, y4, y5, y6, y7, y8, y9⟩ := ten_cells hSw.o
    go_simp
  (try simp only [Act.put, List.setIfInBounds_toArray, List.set_cons_zero, List.set_cons_succ])
  refine wpAnyT_take (i := 3) (oi := { dst := some 196, op := Op.load 26 (Operand.tmp 195), type := 26, pos := "law.go:132", after := #[{ on := 2, ground := Ground.data }], guard := none }) (v := .pointer (some ⟨rb, 0, none⟩)) [15] rfl (by kernel_rfl) (by kernel_rfl) (by kernel_rfl) (by kernel_rfl) (fun _ _ _ h => h) (Or.inl ⟨by rfl, ?_⟩) KP2.out ?_
  · intro wq hSw
    obtain ⟨x1, x2⟩ := two_cells hSw.p
    obtain ⟨y0, y1, y2, y3, y4, y5, y6, y7, y8, y9⟩ := ten_cells hSw.o
    go_simp
  (try simp only [Act.put, List.setIfInBounds_toArray, List.set_cons_zero, List.set_cons_succ])
  refine wpAnyT_take (i := 4) (oi := { dst := some 197, op := Op.fieldAddr 36 (Operand.tmp 3) 2, type := 0, pos := "law.go:132", after := #[], guard := none }) (v := .pointer (some ⟨w.heap.size, 2, none⟩)) [15] rfl (by kernel_rfl) (by kernel_rfl) (by kernel_rfl) (by kernel_rfl) (fun _ _ _ h => h) (Or.inl ⟨by rfl, ?_⟩) KP2.out ?_
  · intro wq hSw
    obtain ⟨x1, x2⟩ := two_cells hSw.p
    obtain ⟨y0, y1, y2, y3, y4, y5, y6, y7, y8, y9⟩ := ten_cells hSw.o
    go_simp
  (try simp only [Act.put, List.setIfInBounds_toArray, List.set_cons_zero, List.set_cons_succ])
  refine wpAnyT_take (i := 5) (oi := { dst := some 198, op := Op.load 9 (Operand.tmp 197), type := 9, pos := "law.go:132", after := #[{ on := 4, ground := Ground.data }], guard := none }) (v := .string on) [15] rfl (by kernel_rfl) (by kernel_rfl) (by kernel_rfl) (by kernel_rfl) (fun _ _ _ h => h) (Or.inl ⟨by rfl, ?_⟩) KP2.out ?_
  · intro wq hSw
    obtain ⟨x1, x2⟩ := two_cells hSw.p
    obtain ⟨y0, y1, y2, y3, y4, y5, y6, y7, y8, y9⟩ := ten_cells hSw.o
    go_simp
  (try simp only [Act.put, List.setIfInBounds_toArray, List.set_cons_zero, List.set_cons_succ])
  refine wpAnyT_take (i := 6) (oi := { dst := some 199, op := Op.fieldAddr 36 (Operand.tmp 3) 5, type := 0, pos := "law.go:132", after := #[], guard := none }) (v := .pointer (some ⟨w.heap.size, 5, none⟩)) [15] rfl (by kernel_rfl) (by kernel_rfl) (by kernel_rfl) (by kernel_rfl) (fun _ _ _ h => h) (Or.inl ⟨by rfl, ?_⟩) KP2.out ?_
  · intro wq hSw
    obtain ⟨x1, x2⟩ := two_cells hSw.p
    obtain ⟨y0, y1, y2, y3, y4, y5, y6, y7, y8, y9⟩ := ten_cells hSw.o
    go_simp
  (try simp only [Act.put, List.setIfInBounds_toArray, List.set_cons_zero, List.set_cons_succ])
  refine wpAnyT_take (i := 7) (oi := { dst := some 200, op := Op.load 3 (Operand.tmp 199), type := 3, pos := "law.go:132", after := #[{ on := 6, ground := Ground.data }], guard := none }) (v := .int .i64 oo) [15] rfl (by kernel_rfl) (by kernel_rfl) (by kernel_rfl) (by kernel_rfl) (fun _ _ _ h => h) (Or.inl ⟨by rfl, ?_⟩) KP2.out ?_
  · intro wq hSw
    obtain ⟨x1, x2⟩ := two_cells hSw.p
    obtain ⟨y0, y1, y2, y3, y4, y5, y6, y7, y8, y9⟩ := ten_cells hSw.o
    go_simp
  (try simp only [Act.put, List.setIfInBounds_toArray, List.set_cons_zero, List.set_cons_succ])
  refine wpAnyT_take (i := 8) (oi := { dst := some 201, op := Op.fieldAddr 36 (Operand.tmp 3) 6, type := 0, pos := "law.go:132", after := #[], guard := none }) (v := .pointer (some ⟨w.heap.size, 6, none⟩)) [15] rfl (by kernel_rfl) (by kernel_rfl) (by kernel_rfl) (by kernel_rfl) (fun _ _ _ h => h) (Or.inl ⟨by rfl, ?_⟩) KP2.out ?_
  · intro wq hSw
    obtain ⟨x1, x2⟩ := two_cells hSw.p
    obtain ⟨y0, y1, y2, y3, y4, y5, y6, y7, y8, y9⟩ := ten_cells hSw.o
    go_simp
  (try simp only [Act.put, List.setIfInBounds_toArray, List.set_cons_zero, List.set_cons_succ])
  refine wpAnyT_take (i := 9) (oi := { dst := some 202, op := Op.load 3 (Operand.tmp 201), type := 3, pos := "law.go:132", after := #[{ on := 8, ground := Ground.data }], guard := none }) (v := .int .i64 onn) [15] rfl (by kernel_rfl) (by kernel_rfl) (by kernel_rfl) (by kernel_rfl) (fun _ _ _ h => h) (Or.inl ⟨by rfl, ?_⟩) KP2.out ?_
  · intro wq hSw
    obtain ⟨x1, x2⟩ := two_cells hSw.p
    obtain ⟨y0, y1, y2, y3, y4, y5, y6, y7, y8, y9⟩ := ten_cells hSw.o
    go_simp
  (try simp only [Act.put, List.setIfInBounds_toArray, List.set_cons_zero, List.set_cons_succ])
  refine wpAnyT_one (i := 10) (o := { dst := some 203, op := Op.call { callee := Callee.value (Operand.func 56), args := #[Operand.tmp 196, Operand.tmp 198, Operand.tmp 200, Operand.tmp 202], argTypes := #[26, 9, 3, 3] }, type := 48, pos := "law.go:132", after := #[{ on := 3, ground := Ground.data }, { on := 5, ground := Ground.data }, { on := 7, ground := Ground.data }, { on := 9, ground := Ground.data }], guard := none }) (by kernel_rfl) rfl (fun K hK => ?_)
  go_simp
  go_at_call 56
  refine (hB.out q2 PQ2.out).mono ?_
  rintro e w2 ⟨v2, rfl, O2, bb2⟩
  obtain ⟨a2, c2, rfl, _, _⟩ := O2.form
  replace O2 := hide O2
  replace bb2 := hide bb2
  have P2 := hide (PQ2.out.below bb2.out)
  have K2 : Hid (Bxs pb w.heap.size b rb ⟨8, os, on, ot, ov, oD, oo, onn, of, ofs, od, ovk, oks⟩ w2) := KB.out _ _ KP2.out bb2.out
  (try go_simp)
  refine hK.out _ _ (fun _ => K2.out) ?_
  clear hK K
  (try simp only [Act.put, List.setIfInBounds_toArray, List.set_cons_zero, List.set_cons_succ])
  refine wpAnyT_take (i := 11) (oi := { dst := some 192, op := Op.move (Operand.tmp 203), type := 48, pos := "law.go:132", after := #[{ on := 10, ground := Ground.data }], guard := none }) (v := .tuple #[.slice a2 B.1.length c2, .int .i64 B.2]) [15] rfl (by kernel_rfl) (by kernel_rfl) (by kernel_rfl) (by kernel_rfl) (fun _ _ _ h => h) (Or.inl ⟨by rfl, ?_⟩) K2.out ?_
  · intro wq hSw
    obtain ⟨x1, x2⟩ := two_cells hSw.p
    obtain ⟨y0, y1, y2, y3, y4, y5, y6, y7, y8, y9⟩ := ten_cells hSw.o
    go_simp
  (try simp only [Act.put, List.setIfInBounds_toArray, List.set_cons_zero, List.set_cons_succ])
  refine wpAnyT_take (i := 12) (oi := { dst := some 204, op := Op.extract (Operand.tmp 192) 0, type := 30, pos := "law.go:132", after := #[{ on := 11, ground := Ground.data }], guard := none }) (v := .slice a2 B.1.length c2) [15] rfl (by kernel_rfl) (by kernel_rfl) (by kernel_rfl) (by kernel_rfl) (fun _ _ _ h => h) (Or.inl ⟨by rfl, ?_⟩) K2.out ?_
  · intro wq hSw
    obtain ⟨x1, x2⟩ := two_cells hSw.p
    obtain ⟨y0, y1, y2, y3, y4, y5, y6, y7, y8, y9⟩ := ten_cells hSw.o
    go_simp
  (try simp only [Act.put, List.setIfInBounds_toArray, List.set_cons_zero, List.set_cons_succ])
  refine wpAnyT_take (i := 13) (oi := { dst := some 205, op := Op.extract (Operand.tmp 192) 1, type := 41, pos := "law.go:132", after := #[{ on := 11, ground := Ground.data }, { on := 14, ground := Ground.gcOnly Departure.lateStores }], guard := none }) (v := .int .i64 B.2) [15] rfl (by kernel_rfl) (by kernel_rfl) (by kernel_rfl) (by kernel_rfl) (fun _ _ _ h => h) (Or.inl ⟨by rfl, ?_⟩) K2.out ?_
  · intro wq hSw
    obtain ⟨x1, x2⟩ := two_cells hSw.p
    obtain ⟨y0, y1, y2, y3, y4, y5, y6, y7, y8, y9⟩ := ten_cells hSw.o
    go_simp
  (try simp only [Act.put, List.setIfInBounds_toArray, List.set_cons_zero, List.set_cons_succ])
  refine wpAnyT_take (i := 14) (oi := { dst := some 12, op := Op.assign (Operand.tmp 204), type := 30, pos := "law.go:132", after := #[{ on := 12, ground := Ground.data }, { on := 10, ground := Ground.chain }, { on := 0, ground := Ground.phase }, { on := 1, ground := Ground.phase }, { on := 2, ground := Ground.phase }, { on := 3, ground := Ground.phase }, { on := 4, ground := Ground.phase }, { on := 5, ground := Ground.phase }, { on := 6, ground := Ground.phase }, { on := 7, ground := Ground.phase }, { on := 8, ground := Ground.phase }, { on := 9, ground := Ground.phase }, { on := 10, ground := Ground.phase }, { on := 11, ground := Ground.phase }, { on := 12, ground := Ground.phase }, { on := 13, ground := Ground.textOnly Departure.lateStores }], guard := none }) (v := .slice a2 B.1.length c2) [15] rfl (by kernel_rfl) (by kernel_rfl) (by kernel_rfl) (by kernel_rfl) (fun _ _ _ h => h) (Or.inl ⟨by rfl, ?_⟩) K2.out ?_
  · intro wq hSw
    obtain ⟨x1, x2⟩ := two_cells hSw.p
    obtain ⟨y0, y1, y2, y3, y4, y5, y6, y7, y8, y9⟩ := ten_cells hSw.o
    go_simp
  (try simp only [Act.put, List.setIfInBounds_toArray, List.set_cons_zero, List.set_cons_succ])
  refine wpAnyT_one (i := 15) (o := { dst := some 13, op := Op.assign (Operand.tmp 205), type := 41, pos := "law.go:132", after := #[{ on := 13, ground := Ground.data }, { on := 14, ground := Ground.chain }, { on := 0, ground := Ground.phase }, { on := 1, ground := Ground.phase }, { on := 2, ground := Ground.phase }, { on := 3, ground := Ground.phase }, { on := 4, ground := Ground.phase }, { on := 5, ground := Ground.phase }, { on := 6, ground := Ground.phase }, { on := 7, ground := Ground.phase }, { on := 8, ground := Ground.phase }, { on := 9, ground := Ground.phase }, { on := 10, ground := Ground.phase }, { on := 11, ground := Ground.phase }, { on := 12, ground := Ground.phase }, { on := 13, ground := Ground.phase }, { on := 14, ground := Ground.phase }], guard := none }) (by kernel_rfl) rfl (fun K hK => ?_)
  go_simp
  refine hK.out _ _ (vac (by kernel_rfl)) ?_
  clear hK K
  (try simp only [Act.put, List.setIfInBounds_toArray, List.set_cons_zero, List.set_cons_succ])
  refine wpAnyT_done (by kernel_rfl) ?_ _
  go_upto_region 24 with fail
  have KP3 : Hid (Bxs pb w.heap.size b rb ⟨8, os, on, ot, ov, oD, oo, onn, of, ofs, od, ovk, oks⟩ w2.drew) := KB.out _ _ K2.out (Below.refl _ _).drew
  have PQ3 : Hid (PX w2.drew pb b rb S R O V) := P2.out.below (Below.refl _ _).drew
  have GQ3 : Hid (Below w2.heap.size w2 w2.drew) := (Below.refl _ _).drew
  refine wp_region_T (fun q => Bxs pb w.heap.size b rb ⟨8, os, on, ot, ov, oD, oo, onn, of, ofs, od, ovk, oks⟩ q) 11 (by kernel_rfl) ?_
  generalize w2.drew = q3 at *
  refine wpAnyT_take (i := 0) (oi := { dst := some 207, op := Op.move (Operand.tmp 0), type := 37, pos := "law.go:133", after := #[], guard := none }) (v := .pointer (some ⟨pb, 0, none⟩)) [11] rfl (by kernel_rfl) (by kernel_rfl) (by kernel_rfl) (by kernel_rfl) (fun _ _ _ h => h) (Or.inl ⟨by rfl, ?_⟩) KP3.out ?_
  · intro wq hSw
    obtain ⟨x1, x2⟩ := two_cells hSw.p
    obtain ⟨y0, y1, y2, y3, y4, y5, y6, y7, y8, y9⟩ := ten_cells hSw.o
    go_simp
  (try simp only [Act.put, List.setIfInBounds_toArray, List.set_cons_zero, List.set_cons_succ])
  refine wpAnyT_take (i := 1) (oi := { dst := some 208, op := Op.nilCheck (Operand.tmp 207), type := 0, pos := "law.go:133", after := #[{ on := 0, ground := Ground.data }], guard := none }) (v := .pointer (some ⟨pb, 0, none⟩)) [11] rfl (by kernel_rfl) (by kernel_rfl) (by kernel_rfl) (by kernel_rfl) (fun _ _ _ h => h) (Or.inl ⟨by rfl, ?_⟩) KP3.out ?_
  · intro wq hSw
    obtain ⟨x1, x2⟩ := two_cells hSw.p
    obtain ⟨y0, y1, y2, y3, y4, y5, y6, y7, y8, y9⟩ := ten_cells hSw.o
    go_simp
  (try simp only [Act.put, List.setIfInBounds_toArray, List.set_cons_zero, List.set_cons_succ])
  refine wpAnyT_take (i := 2) (oi := { dst := some 209, op := Op.fieldAddr 29 (Operand.tmp 208) 0, type := 0, pos := "law.go:133", after := #[{ on := 1, ground := Ground.data }], guard := none }) (v := .pointer (some ⟨pb, 0, none⟩)) [11] rfl (by kernel_rfl) (by kernel_rfl) (by kernel_rfl) (by kernel_rfl) (fun _ _ _ h => h) (Or.inl ⟨by rfl, ?_⟩) KP3.out ?_
  · intro wq hSw
    obtain ⟨x1, x2⟩ := two_cells hSw.p
    obtain ⟨y0, y1, y2, y3, y4, y5, y6, y7, y8, y9⟩ := ten_cells hSw.o
    go_simp
  (try simp only [Act.put, List.setIfInBounds_toArray, List.set_cons_zero, List.set_cons_succ])
  refine wpAnyT_take (i := 3) (oi := { dst := some 210, op := Op.load 24 (Operand.tmp 209), type := 24, pos := "law.go:133", after := #[{ on := 2, ground := Ground.data }], guard := none }) (v := .pointer (some ⟨b, 0, none⟩)) [11] rfl (by kernel_rfl) (by kernel_rfl) (by kernel_rfl) (by kernel_rfl) (fun _ _ _ h => h) (Or.inl ⟨by rfl, ?_⟩) KP3.out ?_
  · intro wq hSw
    obtain ⟨x1, x2⟩ := two_cells hSw.p
    obtain ⟨y0, y1, y2, y3, y4, y5, y6, y7, y8, y9⟩ := ten_cells hSw.o
    go_simp
  (try simp only [Act.put, List.setIfInBounds_toArray, List.set_cons_zero, List.set_cons_succ])
  refine wpAnyT_take (i := 4) (oi := { dst := some 211, op := Op.fieldAddr 36 (Operand.tmp 3) 2, type := 0, pos := "law.go:133", after := #[], guard := none }) (v := .pointer (some ⟨w.heap.size, 2, none⟩)) [11] rfl (by kernel_rfl) (by kernel_rfl) (by kernel_rfl) (by kernel_rfl) (fun _ _ _ h => h) (Or.inl ⟨by rfl, ?_⟩) KP3.out ?_
  · intro wq hSw
    obtain ⟨x1, x2⟩ := two_cells hSw.p
    obtain ⟨y0, y1, y2, y3, y4, y5, y6, y7, y8, y9⟩ := ten_cells hSw.o
    go_simp
  (try simp only [Act.put, List.setIfInBounds_toArray, List.set_cons_zero, List.set_cons_succ])
  refine wpAnyT_take (i := 5) (oi := { dst := some 212, op := Op.load 9 (Operand.tmp 211), type := 9, pos := "law.go:133", after := #[{ on := 4, ground := Ground.data }], guard := none }) (v := .string on) [11] rfl (by kernel_rfl) (by kernel_rfl) (by kernel_rfl) (by kernel_rfl) (fun _ _ _ h => h) (Or.inl ⟨by rfl, ?_⟩) KP3.out ?_
  · intro wq hSw
    obtain ⟨x1, x2⟩ := two_cells hSw.p
    obtain ⟨y0, y1, y2, y3, y4, y5, y6, y7, y8, y9⟩ := ten_cells hSw.o
    go_simp
  (try simp only [Act.put, List.setIfInBounds_toArray, List.set_cons_zero, List.set_cons_succ])
  refine wpAnyT_one (i := 6) (o := { dst := some 213, op := Op.call { callee := Callee.value (Operand.func 19), args := #[Operand.tmp 210, Operand.tmp 212], argTypes := #[24, 9] }, type := 44, pos := "law.go:133", after := #[{ on := 3, ground := Ground.data }, { on := 5, ground := Ground.data }], guard := none }) (by kernel_rfl) rfl (fun K hK => ?_)
  go_simp
  go_at_call 19
  refine (hC.out q3 PQ3.out).mono ?_
  rintro e w3 ⟨rfl, bb3⟩
  replace bb3 := hide bb3
  have P3 := hide (PQ3.out.below bb3.out)
  have K3 : Hid (Bxs pb w.heap.size b rb ⟨8, os, on, ot, ov, oD, oo, onn, of, ofs, od, ovk, oks⟩ w3) := KB.out _ _ KP3.out bb3.out
  (try go_simp)
  refine hK.out _ _ (fun _ => K3.out) ?_
  clear hK K
  (try simp only [Act.put, List.setIfInBounds_toArray, List.set_cons_zero, List.set_cons_succ])
  refine wpAnyT_take (i := 7) (oi := { dst := some 206, op := Op.move (Operand.tmp 213), type := 44, pos := "law.go:133", after := #[{ on := 6, ground := Ground.data }], guard := none }) (v := .tuple #[.int .i64 C.1, .int .i64 C.2]) [11] rfl (by kernel_rfl) (by kernel_rfl) (by kernel_rfl) (by kernel_rfl) (fun _ _ _ h => h) (Or.inl ⟨by rfl, ?_⟩) K3.out ?_
  · intro wq hSw
    obtain ⟨x1, x2⟩ := two_cells hSw.p
    obtain ⟨y0, y1, y2, y3, y4, y5, y6, y7, y8, y9⟩ := ten_cells hSw.o
    go_simp
  (try simp only [Act.put, List.setIfInBounds_toArray, List.set_cons_zero, List.set_cons_succ])
  refine wpAnyT_take (i := 8) (oi := { dst := some 214, op := Op.extract (Operand.tmp 206) 0, type := 3, pos := "law.go:133", after := #[{ on := 7, ground := Ground.data }], guard := none }) (v := .int .i64 C.1) [11] rfl (by kernel_rfl) (by kernel_rfl) (by kernel_rfl) (by kernel_rfl) (fun _ _ _ h => h) (Or.inl ⟨by rfl, ?_⟩) K3.out ?_
  · intro wq hSw
    obtain ⟨x1, x2⟩ := two_cells hSw.p
    obtain ⟨y0, y1, y2, y3, y4, y5, y6, y7, y8, y9⟩ := ten_cells hSw.o
    go_simp
  (try simp only [Act.put, List.setIfInBounds_toArray, List.set_cons_zero, List.set_cons_succ])
  refine wpAnyT_take (i := 9) (oi := { dst := some 215, op := Op.extract (Operand.tmp 206) 1, type := 41, pos := "law.go:133", after := #[{ on := 7, ground := Ground.data }, { on := 10, ground := Ground.gcOnly Departure.lateStores }], guard := none }) (v := .int .i64 C.2) [11] rfl (by kernel_rfl) (by kernel_rfl) (by kernel_rfl) (by kernel_rfl) (fun _ _ _ h => h) (Or.inl ⟨by rfl, ?_⟩) K3.out ?_
  · intro wq hSw
    obtain ⟨x1, x2⟩ := two_cells hSw.p
    obtain ⟨y0, y1, y2, y3, y4, y5, y6, y7, y8, y9⟩ := ten_cells hSw.o
    go_simp
  (try simp only [Act.put, List.setIfInBounds_toArray, List.set_cons_zero, List.set_cons_succ])
  refine wpAnyT_take (i := 10) (oi := { dst := some 14, op := Op.assign (Operand.tmp 214), type := 3, pos := "law.go:133", after := #[{ on := 8, ground := Ground.data }, { on := 6, ground := Ground.chain }, { on := 0, ground := Ground.phase }, { on := 1, ground := Ground.phase }, { on := 2, ground := Ground.phase }, { on := 3, ground := Ground.phase }, { on := 4, ground := Ground.phase }, { on := 5, ground := Ground.phase }, { on := 6, ground := Ground.phase }, { on := 7, ground := Ground.phase }, { on := 8, ground := Ground.phase }, { on := 9, ground := Ground.textOnly Departure.lateStores }], guard := none }) (v := .int .i64 C.1) [11] rfl (by kernel_rfl) (by kernel_rfl) (by kernel_rfl) (by kernel_rfl) (fun _ _ _ h => h) (Or.inl ⟨by rfl, ?_⟩) K3.out ?_
  · intro wq hSw
    obtain ⟨x1, x2⟩ := two_cells hSw.p
    obtain ⟨y0, y1, y2, y3, y4, y5, y6, y7, y8, y9⟩ := ten_cells hSw.o
    go_simp
  (try simp only [Act.put, List.setIfInBounds_toArray, List.set_cons_zero, List.set_cons_succ])
  refine wpAnyT_one (i := 11) (o := { dst := some 15, op := Op.assign (Operand.tmp 215), type := 41, pos := "law.go:133", after := #[{ on := 9, ground := Ground.data }, { on := 10, ground := Ground.chain }, { on := 0, ground := Ground.phase }, { on := 1, ground := Ground.phase }, { on := 2, ground := Ground.phase }, { on := 3, ground := Ground.phase }, { on := 4, ground := Ground.phase }, { on := 5, ground := Ground.phase }, { on := 6, ground := Ground.phase }, { on := 7, ground := Ground.phase }, { on := 8, ground := Ground.phase }, { on := 9, ground := Ground.phase }, { on := 10, ground := Ground.phase }], guard := none }) (by kernel_rfl) rfl (fun K hK => ?_)
  go_simp
  refine hK.out _ _ (vac (by kernel_rfl)) ?_
  clear hK K
  (try simp only [Act.put, List.setIfInBounds_toArray, List.set_cons_zero, List.set_cons_succ])
  refine wpAnyT_done (by kernel_rfl) ?_ _
  go_upto_region 25 with fail
  have KP4 : Hid (Bxs pb w.heap.size b rb ⟨8, os, on, ot, ov, oD, oo, onn, of, ofs, od, ovk, oks⟩ w3.drew) := KB.out _ _ K3.out (Below.refl _ _).drew
  have PQ4 : Hid (PX w3.drew pb b rb S R O V) := P3.out.below (Below.refl _ _).drew
  have GQ4 : Hid (Below w3.heap.size w3 w3.drew) := (Below.refl _ _).drew
  refine wp_region_T (fun q => Bxs pb w.heap.size b rb ⟨8, os, on, ot, ov, oD, oo, onn, of, ofs, od, ovk, oks⟩ q) 11 (by kernel_rfl) ?_
  generalize w3.drew = q4 at *
  refine wpAnyT_take (i := 0) (oi := { dst := some 217, op := Op.move (Operand.tmp 0), type := 37, pos := "law.go:134", after := #[], guard := none }) (v := .pointer (some ⟨pb, 0, none⟩)) [11] rfl (by kernel_rfl) (by kernel_rfl) (by kernel_rfl) (by kernel_rfl) (fun _ _ _ h => h) (Or.inl ⟨by rfl, ?_⟩) KP4.out ?_
  · intro wq hSw
    obtain ⟨x1, x2⟩ := two_cells hSw.p
    obtain ⟨y0, y1, y2, y3, y4, y5, y6, y7, y8, y9⟩ := ten_cells hSw.o
    go_simp
  (try simp only [Act.put, List.setIfInBounds_toArray, List.set_cons_zero, List.set_cons_succ])
  refine wpAnyT_take (i := 1) (oi := { dst := some 218, op := Op.nilCheck (Operand.tmp 217), type := 0, pos := "law.go:134", after := #[{ on := 0, ground := Ground.data }], guard := none }) (v := .pointer (some ⟨pb, 0, none⟩)) [11] rfl (by kernel_rfl) (by kernel_rfl) (by kernel_rfl) (by kernel_rfl) (fun _ _ _ h => h) (Or.inl ⟨by rfl, ?_⟩) KP4.out ?_
  · intro wq hSw
    obtain ⟨x1, x2⟩ := two_cells hSw.p
    obtain ⟨y0, y1, y2, y3, y4, y5, y6, y7, y8, y9⟩ := ten_cells hSw.o
    go_simp
  (try simp only [Act.put, List.setIfInBounds_toArray, List.set_cons_zero, List.set_cons_succ])
  refine wpAnyT_take (i := 2) (oi := { dst := some 219, op := Op.fieldAddr 29 (Operand.tmp 218) 1, type := 0, pos := "law.go:134", after := #[{ on := 1, ground := Ground.data }], guard := none }) (v := .pointer (some ⟨pb, 1, none⟩)) [11] rfl (by kernel_rfl) (by kernel_rfl) (by kernel_rfl) (by kernel_rfl) (fun _ _ _ h => h) (Or.inl ⟨by rfl, ?_⟩) KP4.out ?_
  · intro wq hSw
    obtain ⟨x1, x2⟩ := two_cells hSw.p
    obtain ⟨y0, y1, y2, y3, y4, y5, y6, y7, y8, y9⟩ := ten_cells hSw.o
    go_simp
  (try simp only [Act.put, List.setIfInBounds_toArray, List.set_cons_zero, List.set_cons_succ])
  refine wpAnyT_take (i := 3) (oi := { dst := some 220, op := Op.load 26 (Operand.tmp 219), type := 26, pos := "law.go:134", after := #[{ on := 2, ground := Ground.data }], guard := none }) (v := .pointer (some ⟨rb, 0, none⟩)) [11] rfl (by kernel_rfl) (by kernel_rfl) (by kernel_rfl) (by kernel_rfl) (fun _ _ _ h => h) (Or.inl ⟨by rfl, ?_⟩) KP4.out ?_
  · intro wq hSw
    obtain ⟨x1, x2⟩ := two_cells hSw.p
    obtain ⟨y0, y1, y2, y3, y4, y5, y6, y7, y8, y9⟩ := ten_cells hSw.o
    go_simp
  (try simp only [Act.put, List.setIfInBounds_toArray, List.set_cons_zero, List.set_cons_succ])
  refine wpAnyT_take (i := 4) (oi := { dst := some 221, op := Op.fieldAddr 36 (Operand.tmp 3) 2, type := 0, pos := "law.go:134", after := #[], guard := none }) (v := .pointer (some ⟨w.heap.size, 2, none⟩)) [11] rfl (by kernel_rfl) (by kernel_rfl) (by kernel_rfl) (by kernel_rfl) (fun _ _ _ h => h) (Or.inl ⟨by rfl, ?_⟩) KP4.out ?_
  · intro wq hSw
    obtain ⟨x1, x2⟩ := two_cells hSw.p
    obtain ⟨y0, y1, y2, y3, y4, y5, y6, y7, y8, y9⟩ := ten_cells hSw.o
    go_simp
  (try simp only [Act.put, List.setIfInBounds_toArray, List.set_cons_zero, List.set_cons_succ])
  refine wpAnyT_take (i := 5) (oi := { dst := some 222, op := Op.load 9 (Operand.tmp 221), type := 9, pos := "law.go:134", after := #[{ on := 4, ground := Ground.data }], guard := none }) (v := .string on) [11] rfl (by kernel_rfl) (by kernel_rfl) (by kernel_rfl) (by kernel_rfl) (fun _ _ _ h => h) (Or.inl ⟨by rfl, ?_⟩) KP4.out ?_
  · intro wq hSw
    obtain ⟨x1, x2⟩ := two_cells hSw.p
    obtain ⟨y0, y1, y2, y3, y4, y5, y6, y7, y8, y9⟩ := ten_cells hSw.o
    go_simp
  (try simp only [Act.put, List.setIfInBounds_toArray, List.set_cons_zero, List.set_cons_succ])
  refine wpAnyT_one (i := 6) (o := { dst := some 223, op := Op.call { callee := Callee.value (Operand.func 57), args := #[Operand.tmp 220, Operand.tmp 222], argTypes := #[26, 9] }, type := 44, pos := "law.go:134", after := #[{ on := 3, ground := Ground.data }, { on := 5, ground := Ground.data }], guard := none }) (by kernel_rfl) rfl (fun K hK => ?_)
  go_simp
  go_at_call 57
  refine (hDD.out q4 PQ4.out).mono ?_
  rintro e w4 ⟨rfl, bb4⟩
  replace bb4 := hide bb4
  have P4 := hide (PQ4.out.below bb4.out)
  have K4 : Hid (Bxs pb w.heap.size b rb ⟨8, os, on, ot, ov, oD, oo, onn, of, ofs, od, ovk, oks⟩ w4) := KB.out _ _ KP4.out bb4.out
  (try go_simp)
  refine hK.out _ _ (fun _ => K4.out) ?_
  clear hK K
  (try simp only [Act.put, List.setIfInBounds_toArray, List.set_cons_zero, List.set_cons_succ])
  refine wpAnyT_take (i := 7) (oi := { dst := some 216, op := Op.move (Operand.tmp 223), type := 44, pos := "law.go:134", after := #[{ on := 6, ground := Ground.data }], guard := none }) (v := .tuple #[.int .i64 D.1, .int .i64 D.2]) [11] rfl (by kernel_rfl) (by kernel_rfl) (by kernel_rfl) (by kernel_rfl) (fun _ _ _ h => h) (Or.inl ⟨by rfl, ?_⟩) K4.out ?_
  · intro wq hSw
    obtain ⟨x1, x2⟩ := two_cells hSw.p
    obtain ⟨y0, y1, y2, y3, y4, y5, y6, y7, y8, y9⟩ := ten_cells hSw.o
    go_simp
  (try simp only [Act.put, List.setIfInBounds_toArray, List.set_cons_zero, List.set_cons_succ])
  refine wpAnyT_take (i := 8) (oi := { dst := some 224, op := Op.extract (Operand.tmp 216) 0, type := 3, pos := "law.go:134", after := #[{ on := 7, ground := Ground.data }], guard := none }) (v := .int .i64 D.1) [11] rfl (by kernel_rfl) (by kernel_rfl) (by kernel_rfl) (by kernel_rfl) (fun _ _ _ h => h) (Or.inl ⟨by rfl, ?_⟩) K4.out ?_
  · intro wq hSw
    obtain ⟨x1, x2⟩ := two_cells hSw.p
    obtain ⟨y0, y1, y2, y3, y4, y5, y6, y7, y8, y9⟩ := ten_cells hSw.o
    go_simp
  (try simp only [Act.put, List.setIfInBounds_toArray, List.set_cons_zero, List.set_cons_succ])
  refine wpAnyT_take (i := 9) (oi := { dst := some 225, op := Op.extract (Operand.tmp 216) 1, type := 41, pos := "law.go:134", after := #[{ on := 7, ground := Ground.data }, { on := 10, ground := Ground.gcOnly Departure.lateStores }], guard := none }) (v := .int .i64 D.2) [11] rfl (by kernel_rfl) (by kernel_rfl) (by kernel_rfl) (by kernel_rfl) (fun _ _ _ h => h) (Or.inl ⟨by rfl, ?_⟩) K4.out ?_
  · intro wq hSw
    obtain ⟨x1, x2⟩ := two_cells hSw.p
    obtain ⟨y0, y1, y2, y3, y4, y5, y6, y7, y8, y9⟩ := ten_cells hSw.o
    go_simp
  (try simp only [Act.put, List.setIfInBounds_toArray, List.set_cons_zero, List.set_cons_succ])
  refine wpAnyT_take (i := 10) (oi := { dst := some 16, op := Op.assign (Operand.tmp 224), type := 3, pos := "law.go:134", after := #[{ on := 8, ground := Ground.data }, { on := 6, ground := Ground.chain }, { on := 0, ground := Ground.phase }, { on := 1, ground := Ground.phase }, { on := 2, ground := Ground.phase }, { on := 3, ground := Ground.phase }, { on := 4, ground := Ground.phase }, { on := 5, ground := Ground.phase }, { on := 6, ground := Ground.phase }, { on := 7, ground := Ground.phase }, { on := 8, ground := Ground.phase }, { on := 9, ground := Ground.textOnly Departure.lateStores }], guard := none }) (v := .int .i64 D.1) [11] rfl (by kernel_rfl) (by kernel_rfl) (by kernel_rfl) (by kernel_rfl) (fun _ _ _ h => h) (Or.inl ⟨by rfl, ?_⟩) K4.out ?_
  · intro wq hSw
    obtain ⟨x1, x2⟩ := two_cells hSw.p
    obtain ⟨y0, y1, y2, y3, y4, y5, y6, y7, y8, y9⟩ := ten_cells hSw.o
    go_simp
  (try simp only [Act.put, List.setIfInBounds_toArray, List.set_cons_zero, List.set_cons_succ])
  refine wpAnyT_one (i := 11) (o := { dst := some 17, op := Op.assign (Operand.tmp 225), type := 41, pos := "law.go:134", after := #[{ on := 9, ground := Ground.data }, { on := 10, ground := Ground.chain }, { on := 0, ground := Ground.phase }, { on := 1, ground := Ground.phase }, { on := 2, ground := Ground.phase }, { on := 3, ground := Ground.phase }, { on := 4, ground := Ground.phase }, { on := 5, ground := Ground.phase }, { on := 6, ground := Ground.phase }, { on := 7, ground := Ground.phase }, { on := 8, ground := Ground.phase }, { on := 9, ground := Ground.phase }, { on := 10, ground := Ground.phase }], guard := none }) (by kernel_rfl) rfl (fun K hK => ?_)
  go_simp
  refine hK.out _ _ (vac (by kernel_rfl)) ?_
  clear hK K
  (try simp only [Act.put, List.setIfInBounds_toArray, List.set_cons_zero, List.set_cons_succ])
  refine wpAnyT_done (by kernel_rfl) ?_ _
  have G1 : Hid (Below q1.heap.size q1 w4) := bb1.out.trans (((GQ2.out.trans (bb2.out.mono GQ2.out.size)).trans (((GQ3.out.trans (bb3.out.mono GQ3.out.size)).trans ((GQ4.out.trans (bb4.out.mono GQ4.out.size)).mono (Nat.le_trans GQ3.out.size bb3.out.size))).mono (Nat.le_trans GQ2.out.size bb2.out.size))).mono bb1.out.size)
  have G14 : Hid (Below w1.heap.size w1 w4) := (GQ2.out.trans (bb2.out.mono GQ2.out.size)).trans (((GQ3.out.trans (bb3.out.mono GQ3.out.size)).trans ((GQ4.out.trans (bb4.out.mono GQ4.out.size)).mono (Nat.le_trans GQ3.out.size bb3.out.size))).mono (Nat.le_trans GQ2.out.size bb2.out.size))
  have G24 : Hid (Below w2.heap.size w2 w4) := (GQ3.out.trans (bb3.out.mono GQ3.out.size)).trans ((GQ4.out.trans (bb4.out.mono GQ4.out.size)).mono (Nat.le_trans GQ3.out.size bb3.out.size))
  have GA : Hid (Below w.heap.size w w4) := BF.out.trans ((GQ1.out.trans (G1.out.mono GQ1.out.size)).mono BF.out.size)
  have OA := O1.out.below G14.out
  have OB_ := O2.out.below G24.out
  have hEq : Hid (Calls Tryz.prog 21 #[.slice a1 A.1.length c1, .slice a2 B.1.length c2] w4 fun e w' => e = .returned (.bool (decide (A.1 = B.1))) ∧ Qt w4 w') := by
    obtain ⟨ao, ca, e1, _, _, _, r1⟩ := OA.sl
    obtain ⟨bo, cb, e2, _, _, _, r2⟩ := OB_.sl
    simp only [Value.slice.injEq] at e1 e2
    obtain ⟨rfl, _, rfl⟩ := e1
    obtain ⟨rfl, _, rfl⟩ := e2
    exact eq_any w4 _ _ _ _ _ _ hL1.out hL2.out r1 r2
  have P4' := hide (PQ4.out.below bb4.out)
  have hfin : Hid (∀ u r, Below w4.heap.size w4 u → (Rel S R → r = true) → PlP w pb b S R ⟨8, os, on, ot, ov, oD, oo, onn, of, ofs, od, ovk, oks⟩ Q (.returned (.bool r)) u) := fun u r hu hr => by
    have hb : Below w.heap.size w u := GA.out.trans (hu.mono GA.out.size)
    refine ⟨⟨r, S, Q, b, rfl, ?_, Sgo.of_below hb, hpS.out, hr, fun _ => rfl⟩⟩
    rw [hpR.out]
    exact ⟨rb, O, V, HX.out.below hb, hQ⟩
  clear OA OB_ hA hB hC hDD
  by_cases e1 : A.1 = B.1
  · have dE : decide (A.1 = B.1) = true := by simpa using e1
    rw [dE] at hEq
    by_cases e2 : A.2 = B.2
    · have i2 : (A.2 == B.2) = true := by simpa using e2
      by_cases e3 : C.1 = D.1
      · have i3 : (C.1 == D.1) = true := by simpa using e3
        by_cases e4 : C.2 = D.2
        · have i4 : (C.2 == D.2) = true := by simpa using e4
          clear e1 e2 e3 e4 dE
          go_wp2_with (go_at_call 21; refine hEq.out.mono ?_; rintro e w5 ⟨rfl, B5⟩)
          go_ret
          exact hfin.out _ _ (Qt.below B5 _) (fun _ => rfl)
        · have i4 : (C.2 == D.2) = false := by simpa using e4
          have hno : Hid (¬ Rel S R) := fun hr => e4 (by rw [(hRel.out hr).2])
          clear e1 e2 e3 e4 dE
          go_wp2_with (go_at_call 21; refine hEq.out.mono ?_; rintro e w5 ⟨rfl, B5⟩)
          go_ret
          exact hfin.out _ _ (Qt.below B5 _) (fun hr => absurd hr hno.out)
      · have i3 : (C.1 == D.1) = false := by simpa using e3
        have hno : Hid (¬ Rel S R) := fun hr => e3 (by rw [(hRel.out hr).2])
        clear e1 e2 e3 dE
        go_wp2_with (go_at_call 21; refine hEq.out.mono ?_; rintro e w5 ⟨rfl, B5⟩)
        go_ret
        exact hfin.out _ _ (Qt.below B5 _) (fun hr => absurd hr hno.out)
    · have i2 : (A.2 == B.2) = false := by simpa using e2
      have hno : Hid (¬ Rel S R) := fun hr => e2 (by rw [(hRel.out hr).1])
      clear e1 e2 dE
      go_wp2_with (go_at_call 21; refine hEq.out.mono ?_; rintro e w5 ⟨rfl, B5⟩)
      go_ret
      exact hfin.out _ _ (Qt.below B5 _) (fun hr => absurd hr hno.out)
  · have dE : decide (A.1 = B.1) = false := by simpa using e1
    rw [dE] at hEq
    have hno : Hid (¬ Rel S R) := fun hr => e1 (by rw [(hRel.out hr).1])
    clear e1 dE
    go_wp2_with (go_at_call 21; refine hEq.out.mono ?_; rintro e w5 ⟨rfl, B5⟩)
    go_ret
    exact hfin.out _ _ (Qt.below B5 _) (fun hr => absurd hr hno.out)
end Go.Proofs.YtpbiopmlipchdaaGreat.Re

