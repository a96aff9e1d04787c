/-
  Plays: Read and Size.
-/
import Derived.Test.YtjehpijjneghpaaGreatM35
import Derived.Test.YtjehpijjneghpaaGreatM36
namespace Go.Proofs.YtjehpijjneghpaaGreat.Re
open Go.RowKit Go.Maps Go.Sort Go.Shelf Go.Proofs.YtjehpijjneghpaaGreat.Nm Go.Proofs.YtjehpijjneghpaaGreat.Dk
open Ix (wp_region_T wpAnyT wpAnyT_take wpAnyT_one wpAnyT_done vac)
set_option linter.unusedVariables false
variable {W0 w : World} {pb b : Nat} {S : DS} {R : RB} {Q : Nat → Prop}
theorem read_rm {w : World} {b : Nat} {R : RB} {V : RV} (h : RM w b R V) (I : RI R) (s : ByteArray) (hs : s.size ≤ maxLen) (o n : Int) (g0 : -9223372036854775808 ≤ n) (g1 : n ≤ 9223372036854775807) :
    Calls Tryz.prog 56 #[.pointer (some ⟨b, 0, none⟩), .string s, .int .i64 o, .int .i64 n] w fun e w' => ∃ v, e = .returned (.tuple #[v, .int .i64 (R.read s o n).2]) ∧ Ob w.heap.size w' v (R.read s o n).1 ∧ Below w.heap.size w w' := by
  have hz : (R.lenOf (R.pOf s) : Int) ≤ 1000000000 := by have := (fOf_la I (R.pOf s)).2; rw [← lenOf_fOf] at this; omega
  by_cases h0 : refN R.down R.dir s true = 0
  · by_cases h1 : 0 ≤ o ∧ 0 ≤ n ∧ o + n ≤ (R.lenOf (R.pOf s) : Int)
    · have e1 : R.read s o n = (((R.byOf (R.pOf s)).drop o.toNat).take n.toNat, 0) := by unfold RB.read; rw [if_neg (by simp [h0]), if_pos h1]
      rw [e1]
      obtain ⟨o', rfl⟩ : ∃ o' : Nat, o = (o' : Int) := ⟨o.toNat, by omega⟩
      obtain ⟨n', rfl⟩ : ∃ n' : Nat, n = (n' : Int) := ⟨n.toNat, by omega⟩
      exact read_rm_ok h I.dirF s hs o' n' h0 (by omega) hz
    · have e1 : R.read s o n = ([], 8) := by unfold RB.read; rw [if_neg (by simp [h0]), if_neg h1]
      rw [e1]
      refine (read_rm_out h I.dirF s hs o n g0 g1 h0 h1 hz).mono ?_
      rintro e w' ⟨rfl, hb⟩
      exact ⟨_, rfl, Ob.nil _ _, hb⟩
  · have e1 : R.read s o n = ([], refN R.down R.dir s true) := by unfold RB.read; rw [if_pos h0]
    rw [e1]
    refine (read_rm_no h s hs o n h0).mono ?_
    rintro e w' ⟨rfl, rfl⟩
    exact ⟨_, rfl, Ob.nil _ _, Below.refl _ _⟩
set_option maxRecDepth 100000 in
set_option maxHeartbeats 2000000 in
theorem pl_read (o : Dop) (hk : o.kind = 8) (h : PlI W0 w pb b S R o Q) : Calls Tryz.prog 11 #[.pointer (some ⟨pb, 0, none⟩), opV o] w (PlP w pb b S R o Q) := by
  obtain ⟨rb, O, V, hx, hQ⟩ := h.pw
  have hI := hide h
  have HX := hide hx
  have hlt := hide hx.lt
  have hpR : Hid (R.play o = R) := by show _ = _; unfold RB.play; simp [hk]
  have hpS : Hid (DS.play S o S) := by show DS.play S o S; unfold DS.play; simp [hk]
  have hn1 := hide h.ok.n
  have hnm : Hid (o.nm.size ≤ maxLen) := by show _ ≤ _; have := h.ok.nm; unfold maxLen; omega
  have hA : Hid (∀ q, PX q pb b rb S R O V → Calls Tryz.prog 20 #[.pointer (some ⟨b, 0, none⟩), .string o.nm, .int .i64 o.off, .int .i64 o.n] q fun e w' => ∃ v, e = .returned (.tuple #[v, .int .i64 (S.read o.nm o.off o.n).2]) ∧ Ob q.heap.size w' v (S.read o.nm o.off o.n).1 ∧ Below q.heap.size q w') := fun q hq => read_dsk hq.d o.nm hnm.out o.off o.n
  have hB : Hid (∀ q, PX q pb b rb S R O V → Calls Tryz.prog 56 #[.pointer (some ⟨rb, 0, none⟩), .string o.nm, .int .i64 o.off, .int .i64 o.n] q fun e w' => ∃ v, e = .returned (.tuple #[v, .int .i64 (R.read o.nm o.off o.n).2]) ∧ Ob q.heap.size w' v (R.read o.nm o.off o.n).1 ∧ Below q.heap.size q w') := fun q hq => read_rm hq.r hI.out.ri o.nm hnm.out o.off o.n hn1.out.1 hn1.out.2
  have hC : Hid (∀ q, PX q pb b rb S R O V → Calls Tryz.prog 19 #[.pointer (some ⟨b, 0, none⟩), .string o.nm] q fun e w' => e = .returned (.tuple #[.int .i64 (S.size o.nm).1, .int .i64 (S.size o.nm).2]) ∧ Below q.heap.size q w') := fun q hq => size_dsk hq.d o.nm hnm.out
  have hDD : Hid (∀ q, PX q pb b rb S R O V → Calls Tryz.prog 57 #[.pointer (some ⟨rb, 0, none⟩), .string o.nm] q fun e w' => e = .returned (.tuple #[.int .i64 (R.size o.nm).1, .int .i64 (R.size o.nm).2]) ∧ Below q.heap.size q w') := fun q hq => size_rm hq.r hI.out.ri.dirF o.nm hnm.out
  have hRel : Hid (Rel S R → S.read o.nm o.off o.n = R.read o.nm o.off o.n ∧ S.size o.nm = R.size o.nm) := fun hr => ⟨hr.read _ _ _, hr.size _⟩
  have hL1 : Hid ((S.read o.nm o.off o.n).1.length ≤ maxLen) := by
    show _ ≤ _
    have hk := hx.d.ok
    unfold DS.read
    split
    · rename_i p e heq
      split
      · have hp := find_mem heq
        have := hk.sz p hp
        simp only [List.length_take, List.length_drop]
        unfold maxLen
        omega
      · exact Nat.zero_le _
    · exact Nat.zero_le _
  have hL2 : Hid ((R.read o.nm o.off o.n).1.length ≤ maxLen) := by
    show _ ≤ _
    unfold RB.read
    split
    · exact Nat.zero_le _
    · split
      · have := (fOf_la h.ri (R.pOf o.nm)).2
        rw [byOf_fOf]
        simp only [List.length_take, List.length_drop]
        unfold maxLen
        omega
      · exact Nat.zero_le _
  obtain ⟨A, hAe⟩ : ∃ A, Hid (S.read o.nm o.off o.n = A) := ⟨_, rfl⟩
  obtain ⟨B, hBe⟩ : ∃ B, Hid (R.read o.nm o.off o.n = B) := ⟨_, rfl⟩
  obtain ⟨C, hCe⟩ : ∃ C, Hid (S.size o.nm = C) := ⟨_, rfl⟩
  obtain ⟨D, hDe⟩ : ∃ D, Hid (R.size o.nm = D) := ⟨_, rfl⟩
  rw [hAe.out] at hA hRel hL1
  rw [hBe.out] at hB hRel hL2
  rw [hCe.out] at hC hRel
  rw [hDe.out] at hDD hRel
  clear hAe hBe hCe hDe
  obtain ⟨ok, os, on, ot, ov, oD, oo, onn, of, ofs, od, ovk, oks⟩ := o
  dsimp only at *
  subst hk
  have BF := hide (box_below w (.cells #[.int .i64 8, .bool os, .string on, .string ot, ov, .int .i64 oo, .int .i64 onn, of, .int .i64 od, ovk] 36))
  have NF := heap_alloc_new w (.cells #[.int .i64 8, .bool os, .string on, .string ot, ov, .int .i64 oo, .int .i64 onn, of, .int .i64 od, ovk] 36)
  clear hx h
  unfold opV
  go_enter Tryz.func11, Tryz.ntmps11
  obtain ⟨wf, hwf⟩ : ∃ wf, Hid (w.alloc (.cells #[.int .i64 8, .bool os, .string on, .string ot, ov, .int .i64 oo, .int .i64 onn, of, .int .i64 od, ovk] 36) = wf) := ⟨_, rfl⟩
  have c0 : (w.alloc (.cells #[.int .i64 8, .bool os, .string on, .string ot, ov, .int .i64 oo, .int .i64 onn, of, .int .i64 od, ovk] 36)).cell? ⟨w.heap.size, 0, none⟩ = some (.int .i64 8) := (ten_cells NF).1
  have c4 : (w.alloc (.cells #[.int .i64 8, .bool os, .string on, .string ot, ov, .int .i64 oo, .int .i64 onn, of, .int .i64 od, ovk] 36)).cell? ⟨w.heap.size, 4, none⟩ = some (ov) := (ten_cells NF).2.2.2.2.1
  have c7 : (w.alloc (.cells #[.int .i64 8, .bool os, .string on, .string ot, ov, .int .i64 oo, .int .i64 onn, of, .int .i64 od, ovk] 36)).cell? ⟨w.heap.size, 7, none⟩ = some (of) := (ten_cells NF).2.2.2.2.2.2.2.1
  go_upto_region 22 with fail
  rw [hwf.out] at BF NF ⊢
  clear c0 c4 c7
  have MX := hide (HX.out.below BF.out)
  have hob : Hid (¬ own pb O rb V w.heap.size) := fun c => Nat.lt_irrefl _ (hlt.out _ c)
  have B0 : Hid (Bxs pb w.heap.size b rb ⟨8, os, on, ot, ov, oD, oo, onn, of, ofs, od, ovk, oks⟩ wf) := ⟨MX.out.box, NF⟩
  have KB : Hid (∀ u u', Bxs pb w.heap.size b rb ⟨8, os, on, ot, ov, oD, oo, onn, of, ofs, od, ovk, oks⟩ u → Below u.heap.size u u' → Bxs pb w.heap.size b rb ⟨8, os, on, ot, ov, oD, oo, onn, of, ofs, od, ovk, oks⟩ u') := fun u u' h hb => h.go (But.of_below hb fun _ => False) (fun c => c) (fun c => c)
  have KP1 : Hid (Bxs pb w.heap.size b rb ⟨8, os, on, ot, ov, oD, oo, onn, of, ofs, od, ovk, oks⟩ wf.drew) := KB.out _ _ B0.out (Below.refl _ _).drew
  have PQ1 : Hid (PX wf.drew pb b rb S R O V) := MX.out.below (Below.refl _ _).drew
  have GQ1 : Hid (Below wf.heap.size wf wf.drew) := (Below.refl _ _).drew
  refine wp_region_T (fun q => Bxs pb w.heap.size b rb ⟨8, os, on, ot, ov, oD, oo, onn, of, ofs, od, ovk, oks⟩ q) 15 (by kernel_rfl) ?_
  generalize wf.drew = q1 at *
  refine Ix.tk 0 ⟨some 179, .move (.tmp 0), 37, "law.go:131", #[], none⟩ (.pointer (some ⟨pb, 0, none⟩)) [15] ?_ KP1.out ?_
  · intro wq hSw; go_simp
  (try simp only [zzp, zza, zzb, zzc])
  refine Ix.tk 1 ⟨some 180, .nilCheck (.tmp 179), 0, "law.go:131", #[⟨0,.data⟩], none⟩ (.pointer (some ⟨pb, 0, none⟩)) [15] ?_ KP1.out ?_
  · intro wq hSw; go_simp
  (try simp only [zzp, zza, zzb, zzc])
  refine Ix.tk 2 ⟨some 181, .fieldAddr 29 (.tmp 180) 0, 0, "law.go:131", #[⟨1,.data⟩], none⟩ (.pointer (some ⟨pb, 0, none⟩)) [15] ?_ KP1.out ?_
  · intro wq hSw; go_simp
  (try simp only [zzp, zza, zzb, zzc])
  refine Ix.tk 3 ⟨some 182, .load 24 (.tmp 181), 24, "law.go:131", #[⟨2,.data⟩], none⟩ (.pointer (some ⟨b, 0, none⟩)) [15] ?_ KP1.out ?_
  · intro wq hSw
    obtain ⟨x1, x2⟩ := two_cells hSw.p
    obtain ⟨y0, y1, y2, y3, y4, y5, y6, y7, y8, y9⟩ := ten_cells hSw.o
    go_simp
  (try simp only [zzp, zza, zzb, zzc])
  refine Ix.tk 4 ⟨some 183, .fieldAddr 36 (.tmp 3) 2, 0, "law.go:131", #[], none⟩ (.pointer (some ⟨w.heap.size, 2, none⟩)) [15] ?_ KP1.out ?_
  · intro wq hSw; go_simp
  (try simp only [zzp, zza, zzb, zzc])
  refine Ix.tk 5 ⟨some 184, .load 9 (.tmp 183), 9, "law.go:131", #[⟨4,.data⟩], none⟩ (.string on) [15] ?_ KP1.out ?_
  · intro wq hSw
    obtain ⟨x1, x2⟩ := two_cells hSw.p
    obtain ⟨y0, y1, y2, y3, y4, y5, y6, y7, y8, y9⟩ := ten_cells hSw.o
    go_simp
  (try simp only [zzp, zza, zzb, zzc])
  refine Ix.tk 6 ⟨some 185, .fieldAddr 36 (.tmp 3) 5, 0, "law.go:131", #[], none⟩ (.pointer (some ⟨w.heap.size, 5, none⟩)) [15] ?_ KP1.out ?_
  · intro wq hSw; go_simp
  (try simp only [zzp, zza, zzb, zzc])
  refine Ix.tk 7 ⟨some 186, .load 3 (.tmp 185), 3, "law.go:131", #[⟨6,.data⟩], none⟩ (.int .i64 oo) [15] ?_ KP1.out ?_
  · intro wq hSw
    obtain ⟨x1, x2⟩ := two_cells hSw.p
    obtain ⟨y0, y1, y2, y3, y4, y5, y6, y7, y8, y9⟩ := ten_cells hSw.o
    go_simp
  (try simp only [zzp, zza, zzb, zzc])
  refine Ix.tk 8 ⟨some 187, .fieldAddr 36 (.tmp 3) 6, 0, "law.go:131", #[], none⟩ (.pointer (some ⟨w.heap.size, 6, none⟩)) [15] ?_ KP1.out ?_
  · intro wq hSw; go_simp
  (try simp only [zzp, zza, zzb, zzc])
  refine Ix.tk 9 ⟨some 188, .load 3 (.tmp 187), 3, "law.go:131", #[⟨8,.data⟩], none⟩ (.int .i64 onn) [15] ?_ KP1.out ?_
  · intro wq hSw
    obtain ⟨x1, x2⟩ := two_cells hSw.p
    obtain ⟨y0, y1, y2, y3, y4, y5, y6, y7, y8, y9⟩ := ten_cells hSw.o
    go_simp
  (try simp only [zzp, zza, zzb, zzc])
  refine wpAnyT_one (i := 10) (o := ⟨some 189, .call { callee := .value (.func 20), args := #[.tmp 182, .tmp 184, .tmp 186, .tmp 188], argTypes := #[24, 9, 3, 3] }, 48, "law.go:131", #[⟨3, .data⟩, ⟨5, .data⟩, ⟨7, .data⟩, ⟨9, .data⟩], none⟩) (by kernel_rfl) rfl (fun K hK => ?_)
  go_simp
  go_at_call 20
  refine (hA.out q1 PQ1.out).mono ?_
  rintro e w1 ⟨v1, rfl, O1, bb1⟩
  obtain ⟨a1, c1, rfl, _, _⟩ := O1.form
  replace O1 := hide O1
  replace bb1 := hide bb1
  have P1 := hide (PQ1.out.below bb1.out)
  have K1 : Hid (Bxs pb w.heap.size b rb ⟨8, os, on, ot, ov, oD, oo, onn, of, ofs, od, ovk, oks⟩ w1) := KB.out _ _ KP1.out bb1.out
  (try go_simp)
  refine hK.out _ _ (fun _ => K1.out) ?_
  clear hK K
  (try simp only [zzp, zza, zzb, zzc])
  refine Ix.tk 11 ⟨some 178, .move (.tmp 189), 48, "law.go:131", #[⟨10,.data⟩], none⟩ (.tuple #[.slice a1 A.1.length c1, .int .i64 A.2]) [15] ?_ K1.out ?_
  · intro wq hSw; go_simp
  (try simp only [zzp, zza, zzb, zzc])
  refine Ix.tk 12 ⟨some 190, .extract (.tmp 178) 0, 30, "law.go:131", #[⟨11,.data⟩], none⟩ (.slice a1 A.1.length c1) [15] ?_ K1.out ?_
  · intro wq hSw
    obtain ⟨x1, x2⟩ := two_cells hSw.p
    obtain ⟨y0, y1, y2, y3, y4, y5, y6, y7, y8, y9⟩ := ten_cells hSw.o
    go_simp
  (try simp only [zzp, zza, zzb, zzc])
  refine Ix.tk 13 ⟨some 191, .extract (.tmp 178) 1, 41, "law.go:131", #[⟨11,.data⟩, { on := 14, ground := Ground.gcOnly Departure.lateStores }], none⟩ (.int .i64 A.2) [15] ?_ K1.out ?_
  · intro wq hSw
    obtain ⟨x1, x2⟩ := two_cells hSw.p
    obtain ⟨y0, y1, y2, y3, y4, y5, y6, y7, y8, y9⟩ := ten_cells hSw.o
    go_simp
  (try simp only [zzp, zza, zzb, zzc])
  refine Ix.tk 14 ⟨some 10, .assign (.tmp 190), 30, "law.go:131", #[⟨12,.data⟩,⟨10,.chain⟩,⟨0,.phase⟩,⟨1,.phase⟩,⟨2,.phase⟩,⟨3,.phase⟩,⟨4,.phase⟩,⟨5,.phase⟩,⟨6,.phase⟩,⟨7,.phase⟩,⟨8,.phase⟩,⟨9,.phase⟩,⟨10,.phase⟩,⟨11,.phase⟩,⟨12,.phase⟩, { on := 13, ground := Ground.textOnly Departure.lateStores }], none⟩ (.slice a1 A.1.length c1) [15] ?_ K1.out ?_
  · intro wq hSw
    obtain ⟨x1, x2⟩ := two_cells hSw.p
    obtain ⟨y0, y1, y2, y3, y4, y5, y6, y7, y8, y9⟩ := ten_cells hSw.o
    go_simp
  (try simp only [zzp, zza, zzb, zzc])
  refine wpAnyT_one (i := 15) (o := ⟨some 11, .assign (.tmp 191), 41, "law.go:131", #[⟨13, .data⟩, ⟨14, .chain⟩, ⟨0, .phase⟩, ⟨1, .phase⟩, ⟨2, .phase⟩, ⟨3, .phase⟩, ⟨4, .phase⟩, ⟨5, .phase⟩, ⟨6, .phase⟩, ⟨7, .phase⟩, ⟨8, .phase⟩, ⟨9, .phase⟩, ⟨10, .phase⟩, ⟨11, .phase⟩, ⟨12, .phase⟩, ⟨13, .phase⟩, ⟨14, .phase⟩], none⟩) (by kernel_rfl) rfl (fun K hK => ?_)
  go_simp
  refine hK.out _ _ (vac (by kernel_rfl)) ?_
  clear hK K
  (try simp only [zzp, zza, zzb, zzc])
  refine wpAnyT_done (by kernel_rfl) ?_ _
  go_upto_region 23 with fail
  have KP2 : Hid (Bxs pb w.heap.size b rb ⟨8, os, on, ot, ov, oD, oo, onn, of, ofs, od, ovk, oks⟩ w1.drew) := KB.out _ _ K1.out (Below.refl _ _).drew
  have PQ2 : Hid (PX w1.drew pb b rb S R O V) := P1.out.below (Below.refl _ _).drew
  have GQ2 : Hid (Below w1.heap.size w1 w1.drew) := (Below.refl _ _).drew
  refine wp_region_T (fun q => Bxs pb w.heap.size b rb ⟨8, os, on, ot, ov, oD, oo, onn, of, ofs, od, ovk, oks⟩ q) 15 (by kernel_rfl) ?_
  generalize w1.drew = q2 at *
  refine Ix.tk 0 ⟨some 193, .move (.tmp 0), 37, "law.go:132", #[], none⟩ (.pointer (some ⟨pb, 0, none⟩)) [15] ?_ KP2.out ?_
  · intro wq hSw; go_simp
  (try simp only [zzp, zza, zzb, zzc])
  refine Ix.tk 1 ⟨some 194, .nilCheck (.tmp 193), 0, "law.go:132", #[⟨0,.data⟩], none⟩ (.pointer (some ⟨pb, 0, none⟩)) [15] ?_ KP2.out ?_
  · intro wq hSw; go_simp
  (try simp only [zzp, zza, zzb, zzc])
  refine Ix.tk 2 ⟨some 195, .fieldAddr 29 (.tmp 194) 1, 0, "law.go:132", #[⟨1,.data⟩], none⟩ (.pointer (some ⟨pb, 1, none⟩)) [15] ?_ KP2.out ?_
  · intro wq hSw; go_simp
  (try simp only [zzp, zza, zzb, zzc])
  refine Ix.tk 3 ⟨some 196, .load 26 (.tmp 195), 26, "law.go:132", #[⟨2,.data⟩], none⟩ (.pointer (some ⟨rb, 0, none⟩)) [15] ?_ KP2.out ?_
  · intro wq hSw
    obtain ⟨x1, x2⟩ := two_cells hSw.p
    obtain ⟨y0, y1, y2, y3, y4, y5, y6, y7, y8, y9⟩ := ten_cells hSw.o
    go_simp
  (try simp only [zzp, zza, zzb, zzc])
  refine Ix.tk 4 ⟨some 197, .fieldAddr 36 (.tmp 3) 2, 0, "law.go:132", #[], none⟩ (.pointer (some ⟨w.heap.size, 2, none⟩)) [15] ?_ KP2.out ?_
  · intro wq hSw; go_simp
  (try simp only [zzp, zza, zzb, zzc])
  refine Ix.tk 5 ⟨some 198, .load 9 (.tmp 197), 9, "law.go:132", #[⟨4,.data⟩], none⟩ (.string on) [15] ?_ KP2.out ?_
  · intro wq hSw
    obtain ⟨x1, x2⟩ := two_cells hSw.p
    obtain ⟨y0, y1, y2, y3, y4, y5, y6, y7, y8, y9⟩ := ten_cells hSw.o
    go_simp
  (try simp only [zzp, zza, zzb, zzc])
  refine Ix.tk 6 ⟨some 199, .fieldAddr 36 (.tmp 3) 5, 0, "law.go:132", #[], none⟩ (.pointer (some ⟨w.heap.size, 5, none⟩)) [15] ?_ KP2.out ?_
  · intro wq hSw; go_simp
  (try simp only [zzp, zza, zzb, zzc])
  refine Ix.tk 7 ⟨some 200, .load 3 (.tmp 199), 3, "law.go:132", #[⟨6,.data⟩], none⟩ (.int .i64 oo) [15] ?_ KP2.out ?_
  · intro wq hSw
    obtain ⟨x1, x2⟩ := two_cells hSw.p
    obtain ⟨y0, y1, y2, y3, y4, y5, y6, y7, y8, y9⟩ := ten_cells hSw.o
    go_simp
  (try simp only [zzp, zza, zzb, zzc])
  refine Ix.tk 8 ⟨some 201, .fieldAddr 36 (.tmp 3) 6, 0, "law.go:132", #[], none⟩ (.pointer (some ⟨w.heap.size, 6, none⟩)) [15] ?_ KP2.out ?_
  · intro wq hSw; go_simp
  (try simp only [zzp, zza, zzb, zzc])
  refine Ix.tk 9 ⟨some 202, .load 3 (.tmp 201), 3, "law.go:132", #[⟨8,.data⟩], none⟩ (.int .i64 onn) [15] ?_ KP2.out ?_
  · intro wq hSw
    obtain ⟨x1, x2⟩ := two_cells hSw.p
    obtain ⟨y0, y1, y2, y3, y4, y5, y6, y7, y8, y9⟩ := ten_cells hSw.o
    go_simp
  (try simp only [zzp, zza, zzb, zzc])
  refine wpAnyT_one (i := 10) (o := ⟨some 203, .call { callee := .value (.func 56), args := #[.tmp 196, .tmp 198, .tmp 200, .tmp 202], argTypes := #[26, 9, 3, 3] }, 48, "law.go:132", #[⟨3, .data⟩, ⟨5, .data⟩, ⟨7, .data⟩, ⟨9, .data⟩], none⟩) (by kernel_rfl) rfl (fun K hK => ?_)
  go_simp
  go_at_call 56
  refine (hB.out q2 PQ2.out).mono ?_
  rintro e w2 ⟨v2, rfl, O2, bb2⟩
  obtain ⟨a2, c2, rfl, _, _⟩ := O2.form
  replace O2 := hide O2
  replace bb2 := hide bb2
  have P2 := hide (PQ2.out.below bb2.out)
  have K2 : Hid (Bxs pb w.heap.size b rb ⟨8, os, on, ot, ov, oD, oo, onn, of, ofs, od, ovk, oks⟩ w2) := KB.out _ _ KP2.out bb2.out
  (try go_simp)
  refine hK.out _ _ (fun _ => K2.out) ?_
  clear hK K
  (try simp only [zzp, zza, zzb, zzc])
  refine Ix.tk 11 ⟨some 192, .move (.tmp 203), 48, "law.go:132", #[⟨10,.data⟩], none⟩ (.tuple #[.slice a2 B.1.length c2, .int .i64 B.2]) [15] ?_ K2.out ?_
  · intro wq hSw; go_simp
  (try simp only [zzp, zza, zzb, zzc])
  refine Ix.tk 12 ⟨some 204, .extract (.tmp 192) 0, 30, "law.go:132", #[⟨11,.data⟩], none⟩ (.slice a2 B.1.length c2) [15] ?_ K2.out ?_
  · intro wq hSw
    obtain ⟨x1, x2⟩ := two_cells hSw.p
    obtain ⟨y0, y1, y2, y3, y4, y5, y6, y7, y8, y9⟩ := ten_cells hSw.o
    go_simp
  (try simp only [zzp, zza, zzb, zzc])
  refine Ix.tk 13 ⟨some 205, .extract (.tmp 192) 1, 41, "law.go:132", #[⟨11,.data⟩, { on := 14, ground := Ground.gcOnly Departure.lateStores }], none⟩ (.int .i64 B.2) [15] ?_ K2.out ?_
  · intro wq hSw
    obtain ⟨x1, x2⟩ := two_cells hSw.p
    obtain ⟨y0, y1, y2, y3, y4, y5, y6, y7, y8, y9⟩ := ten_cells hSw.o
    go_simp
  (try simp only [zzp, zza, zzb, zzc])
  refine Ix.tk 14 ⟨some 12, .assign (.tmp 204), 30, "law.go:132", #[⟨12,.data⟩,⟨10,.chain⟩,⟨0,.phase⟩,⟨1,.phase⟩,⟨2,.phase⟩,⟨3,.phase⟩,⟨4,.phase⟩,⟨5,.phase⟩,⟨6,.phase⟩,⟨7,.phase⟩,⟨8,.phase⟩,⟨9,.phase⟩,⟨10,.phase⟩,⟨11,.phase⟩,⟨12,.phase⟩, { on := 13, ground := Ground.textOnly Departure.lateStores }], none⟩ (.slice a2 B.1.length c2) [15] ?_ K2.out ?_
  · intro wq hSw
    obtain ⟨x1, x2⟩ := two_cells hSw.p
    obtain ⟨y0, y1, y2, y3, y4, y5, y6, y7, y8, y9⟩ := ten_cells hSw.o
    go_simp
  (try simp only [zzp, zza, zzb, zzc])
  refine wpAnyT_one (i := 15) (o := ⟨some 13, .assign (.tmp 205), 41, "law.go:132", #[⟨13, .data⟩, ⟨14, .chain⟩, ⟨0, .phase⟩, ⟨1, .phase⟩, ⟨2, .phase⟩, ⟨3, .phase⟩, ⟨4, .phase⟩, ⟨5, .phase⟩, ⟨6, .phase⟩, ⟨7, .phase⟩, ⟨8, .phase⟩, ⟨9, .phase⟩, ⟨10, .phase⟩, ⟨11, .phase⟩, ⟨12, .phase⟩, ⟨13, .phase⟩, ⟨14, .phase⟩], none⟩) (by kernel_rfl) rfl (fun K hK => ?_)
  go_simp
  refine hK.out _ _ (vac (by kernel_rfl)) ?_
  clear hK K
  (try simp only [zzp, zza, zzb, zzc])
  refine wpAnyT_done (by kernel_rfl) ?_ _
  go_upto_region 24 with fail
  have KP3 : Hid (Bxs pb w.heap.size b rb ⟨8, os, on, ot, ov, oD, oo, onn, of, ofs, od, ovk, oks⟩ w2.drew) := KB.out _ _ K2.out (Below.refl _ _).drew
  have PQ3 : Hid (PX w2.drew pb b rb S R O V) := P2.out.below (Below.refl _ _).drew
  have GQ3 : Hid (Below w2.heap.size w2 w2.drew) := (Below.refl _ _).drew
  refine wp_region_T (fun q => Bxs pb w.heap.size b rb ⟨8, os, on, ot, ov, oD, oo, onn, of, ofs, od, ovk, oks⟩ q) 11 (by kernel_rfl) ?_
  generalize w2.drew = q3 at *
  refine Ix.tk 0 ⟨some 207, .move (.tmp 0), 37, "law.go:133", #[], none⟩ (.pointer (some ⟨pb, 0, none⟩)) [11] ?_ KP3.out ?_
  · intro wq hSw; go_simp
  (try simp only [zzp, zza, zzb, zzc])
  refine Ix.tk 1 ⟨some 208, .nilCheck (.tmp 207), 0, "law.go:133", #[⟨0,.data⟩], none⟩ (.pointer (some ⟨pb, 0, none⟩)) [11] ?_ KP3.out ?_
  · intro wq hSw; go_simp
  (try simp only [zzp, zza, zzb, zzc])
  refine Ix.tk 2 ⟨some 209, .fieldAddr 29 (.tmp 208) 0, 0, "law.go:133", #[⟨1,.data⟩], none⟩ (.pointer (some ⟨pb, 0, none⟩)) [11] ?_ KP3.out ?_
  · intro wq hSw; go_simp
  (try simp only [zzp, zza, zzb, zzc])
  refine Ix.tk 3 ⟨some 210, .load 24 (.tmp 209), 24, "law.go:133", #[⟨2,.data⟩], none⟩ (.pointer (some ⟨b, 0, none⟩)) [11] ?_ KP3.out ?_
  · intro wq hSw
    obtain ⟨x1, x2⟩ := two_cells hSw.p
    obtain ⟨y0, y1, y2, y3, y4, y5, y6, y7, y8, y9⟩ := ten_cells hSw.o
    go_simp
  (try simp only [zzp, zza, zzb, zzc])
  refine Ix.tk 4 ⟨some 211, .fieldAddr 36 (.tmp 3) 2, 0, "law.go:133", #[], none⟩ (.pointer (some ⟨w.heap.size, 2, none⟩)) [11] ?_ KP3.out ?_
  · intro wq hSw; go_simp
  (try simp only [zzp, zza, zzb, zzc])
  refine Ix.tk 5 ⟨some 212, .load 9 (.tmp 211), 9, "law.go:133", #[⟨4,.data⟩], none⟩ (.string on) [11] ?_ KP3.out ?_
  · intro wq hSw
    obtain ⟨x1, x2⟩ := two_cells hSw.p
    obtain ⟨y0, y1, y2, y3, y4, y5, y6, y7, y8, y9⟩ := ten_cells hSw.o
    go_simp
  (try simp only [zzp, zza, zzb, zzc])
  refine wpAnyT_one (i := 6) (o := ⟨some 213, .call { callee := .value (.func 19), args := #[.tmp 210, .tmp 212], argTypes := #[24, 9] }, 44, "law.go:133", #[⟨3, .data⟩, ⟨5, .data⟩], none⟩) (by kernel_rfl) rfl (fun K hK => ?_)
  go_simp
  go_at_call 19
  refine (hC.out q3 PQ3.out).mono ?_
  rintro e w3 ⟨rfl, bb3⟩
  replace bb3 := hide bb3
  have P3 := hide (PQ3.out.below bb3.out)
  have K3 : Hid (Bxs pb w.heap.size b rb ⟨8, os, on, ot, ov, oD, oo, onn, of, ofs, od, ovk, oks⟩ w3) := KB.out _ _ KP3.out bb3.out
  (try go_simp)
  refine hK.out _ _ (fun _ => K3.out) ?_
  clear hK K
  (try simp only [zzp, zza, zzb, zzc])
  refine Ix.tk 7 ⟨some 206, .move (.tmp 213), 44, "law.go:133", #[⟨6,.data⟩], none⟩ (.tuple #[.int .i64 C.1, .int .i64 C.2]) [11] ?_ K3.out ?_
  · intro wq hSw; go_simp
  (try simp only [zzp, zza, zzb, zzc])
  refine Ix.tk 8 ⟨some 214, .extract (.tmp 206) 0, 3, "law.go:133", #[⟨7,.data⟩], none⟩ (.int .i64 C.1) [11] ?_ K3.out ?_
  · intro wq hSw
    obtain ⟨x1, x2⟩ := two_cells hSw.p
    obtain ⟨y0, y1, y2, y3, y4, y5, y6, y7, y8, y9⟩ := ten_cells hSw.o
    go_simp
  (try simp only [zzp, zza, zzb, zzc])
  refine Ix.tk 9 ⟨some 215, .extract (.tmp 206) 1, 41, "law.go:133", #[⟨7,.data⟩, { on := 10, ground := Ground.gcOnly Departure.lateStores }], none⟩ (.int .i64 C.2) [11] ?_ K3.out ?_
  · intro wq hSw
    obtain ⟨x1, x2⟩ := two_cells hSw.p
    obtain ⟨y0, y1, y2, y3, y4, y5, y6, y7, y8, y9⟩ := ten_cells hSw.o
    go_simp
  (try simp only [zzp, zza, zzb, zzc])
  refine Ix.tk 10 ⟨some 14, .assign (.tmp 214), 3, "law.go:133", #[⟨8,.data⟩,⟨6,.chain⟩,⟨0,.phase⟩,⟨1,.phase⟩,⟨2,.phase⟩,⟨3,.phase⟩,⟨4,.phase⟩,⟨5,.phase⟩,⟨6,.phase⟩,⟨7,.phase⟩,⟨8,.phase⟩, { on := 9, ground := Ground.textOnly Departure.lateStores }], none⟩ (.int .i64 C.1) [11] ?_ K3.out ?_
  · intro wq hSw
    obtain ⟨x1, x2⟩ := two_cells hSw.p
    obtain ⟨y0, y1, y2, y3, y4, y5, y6, y7, y8, y9⟩ := ten_cells hSw.o
    go_simp
  (try simp only [zzp, zza, zzb, zzc])
  refine wpAnyT_one (i := 11) (o := ⟨some 15, .assign (.tmp 215), 41, "law.go:133", #[⟨9, .data⟩, ⟨10, .chain⟩, ⟨0, .phase⟩, ⟨1, .phase⟩, ⟨2, .phase⟩, ⟨3, .phase⟩, ⟨4, .phase⟩, ⟨5, .phase⟩, ⟨6, .phase⟩, ⟨7, .phase⟩, ⟨8, .phase⟩, ⟨9, .phase⟩, ⟨10, .phase⟩], none⟩) (by kernel_rfl) rfl (fun K hK => ?_)
  go_simp
  refine hK.out _ _ (vac (by kernel_rfl)) ?_
  clear hK K
  (try simp only [zzp, zza, zzb, zzc])
  refine wpAnyT_done (by kernel_rfl) ?_ _
  go_upto_region 25 with fail
  have KP4 : Hid (Bxs pb w.heap.size b rb ⟨8, os, on, ot, ov, oD, oo, onn, of, ofs, od, ovk, oks⟩ w3.drew) := KB.out _ _ K3.out (Below.refl _ _).drew
  have PQ4 : Hid (PX w3.drew pb b rb S R O V) := P3.out.below (Below.refl _ _).drew
  have GQ4 : Hid (Below w3.heap.size w3 w3.drew) := (Below.refl _ _).drew
  refine wp_region_T (fun q => Bxs pb w.heap.size b rb ⟨8, os, on, ot, ov, oD, oo, onn, of, ofs, od, ovk, oks⟩ q) 11 (by kernel_rfl) ?_
  generalize w3.drew = q4 at *
  refine Ix.tk 0 ⟨some 217, .move (.tmp 0), 37, "law.go:134", #[], none⟩ (.pointer (some ⟨pb, 0, none⟩)) [11] ?_ KP4.out ?_
  · intro wq hSw; go_simp
  (try simp only [zzp, zza, zzb, zzc])
  refine Ix.tk 1 ⟨some 218, .nilCheck (.tmp 217), 0, "law.go:134", #[⟨0,.data⟩], none⟩ (.pointer (some ⟨pb, 0, none⟩)) [11] ?_ KP4.out ?_
  · intro wq hSw; go_simp
  (try simp only [zzp, zza, zzb, zzc])
  refine Ix.tk 2 ⟨some 219, .fieldAddr 29 (.tmp 218) 1, 0, "law.go:134", #[⟨1,.data⟩], none⟩ (.pointer (some ⟨pb, 1, none⟩)) [11] ?_ KP4.out ?_
  · intro wq hSw; go_simp
  (try simp only [zzp, zza, zzb, zzc])
  refine Ix.tk 3 ⟨some 220, .load 26 (.tmp 219), 26, "law.go:134", #[⟨2,.data⟩], none⟩ (.pointer (some ⟨rb, 0, none⟩)) [11] ?_ KP4.out ?_
  · intro wq hSw
    obtain ⟨x1, x2⟩ := two_cells hSw.p
    obtain ⟨y0, y1, y2, y3, y4, y5, y6, y7, y8, y9⟩ := ten_cells hSw.o
    go_simp
  (try simp only [zzp, zza, zzb, zzc])
  refine Ix.tk 4 ⟨some 221, .fieldAddr 36 (.tmp 3) 2, 0, "law.go:134", #[], none⟩ (.pointer (some ⟨w.heap.size, 2, none⟩)) [11] ?_ KP4.out ?_
  · intro wq hSw; go_simp
  (try simp only [zzp, zza, zzb, zzc])
  refine Ix.tk 5 ⟨some 222, .load 9 (.tmp 221), 9, "law.go:134", #[⟨4,.data⟩], none⟩ (.string on) [11] ?_ KP4.out ?_
  · intro wq hSw
    obtain ⟨x1, x2⟩ := two_cells hSw.p
    obtain ⟨y0, y1, y2, y3, y4, y5, y6, y7, y8, y9⟩ := ten_cells hSw.o
    go_simp
  (try simp only [zzp, zza, zzb, zzc])
  refine wpAnyT_one (i := 6) (o := ⟨some 223, .call { callee := .value (.func 57), args := #[.tmp 220, .tmp 222], argTypes := #[26, 9] }, 44, "law.go:134", #[⟨3, .data⟩, ⟨5, .data⟩], none⟩) (by kernel_rfl) rfl (fun K hK => ?_)
  go_simp
  go_at_call 57
  refine (hDD.out q4 PQ4.out).mono ?_
  rintro e w4 ⟨rfl, bb4⟩
  replace bb4 := hide bb4
  have P4 := hide (PQ4.out.below bb4.out)
  have K4 : Hid (Bxs pb w.heap.size b rb ⟨8, os, on, ot, ov, oD, oo, onn, of, ofs, od, ovk, oks⟩ w4) := KB.out _ _ KP4.out bb4.out
  (try go_simp)
  refine hK.out _ _ (fun _ => K4.out) ?_
  clear hK K
  (try simp only [zzp, zza, zzb, zzc])
  refine Ix.tk 7 ⟨some 216, .move (.tmp 223), 44, "law.go:134", #[⟨6,.data⟩], none⟩ (.tuple #[.int .i64 D.1, .int .i64 D.2]) [11] ?_ K4.out ?_
  · intro wq hSw; go_simp
  (try simp only [zzp, zza, zzb, zzc])
  refine Ix.tk 8 ⟨some 224, .extract (.tmp 216) 0, 3, "law.go:134", #[⟨7,.data⟩], none⟩ (.int .i64 D.1) [11] ?_ K4.out ?_
  · intro wq hSw
    obtain ⟨x1, x2⟩ := two_cells hSw.p
    obtain ⟨y0, y1, y2, y3, y4, y5, y6, y7, y8, y9⟩ := ten_cells hSw.o
    go_simp
  (try simp only [zzp, zza, zzb, zzc])
  refine Ix.tk 9 ⟨some 225, .extract (.tmp 216) 1, 41, "law.go:134", #[⟨7,.data⟩, { on := 10, ground := Ground.gcOnly Departure.lateStores }], none⟩ (.int .i64 D.2) [11] ?_ K4.out ?_
  · intro wq hSw
    obtain ⟨x1, x2⟩ := two_cells hSw.p
    obtain ⟨y0, y1, y2, y3, y4, y5, y6, y7, y8, y9⟩ := ten_cells hSw.o
    go_simp
  (try simp only [zzp, zza, zzb, zzc])
  refine Ix.tk 10 ⟨some 16, .assign (.tmp 224), 3, "law.go:134", #[⟨8,.data⟩,⟨6,.chain⟩,⟨0,.phase⟩,⟨1,.phase⟩,⟨2,.phase⟩,⟨3,.phase⟩,⟨4,.phase⟩,⟨5,.phase⟩,⟨6,.phase⟩,⟨7,.phase⟩,⟨8,.phase⟩, { on := 9, ground := Ground.textOnly Departure.lateStores }], none⟩ (.int .i64 D.1) [11] ?_ K4.out ?_
  · intro wq hSw
    obtain ⟨x1, x2⟩ := two_cells hSw.p
    obtain ⟨y0, y1, y2, y3, y4, y5, y6, y7, y8, y9⟩ := ten_cells hSw.o
    go_simp
  (try simp only [zzp, zza, zzb, zzc])
  refine wpAnyT_one (i := 11) (o := ⟨some 17, .assign (.tmp 225), 41, "law.go:134", #[⟨9, .data⟩, ⟨10, .chain⟩, ⟨0, .phase⟩, ⟨1, .phase⟩, ⟨2, .phase⟩, ⟨3, .phase⟩, ⟨4, .phase⟩, ⟨5, .phase⟩, ⟨6, .phase⟩, ⟨7, .phase⟩, ⟨8, .phase⟩, ⟨9, .phase⟩, ⟨10, .phase⟩], none⟩) (by kernel_rfl) rfl (fun K hK => ?_)
  go_simp
  refine hK.out _ _ (vac (by kernel_rfl)) ?_
  clear hK K
  (try simp only [zzp, zza, zzb, zzc])
  refine wpAnyT_done (by kernel_rfl) ?_ _
  have G1 : Hid (Below q1.heap.size q1 w4) := bb1.out.trans (((GQ2.out.trans (bb2.out.mono GQ2.out.size)).trans (((GQ3.out.trans (bb3.out.mono GQ3.out.size)).trans ((GQ4.out.trans (bb4.out.mono GQ4.out.size)).mono (Nat.le_trans GQ3.out.size bb3.out.size))).mono (Nat.le_trans GQ2.out.size bb2.out.size))).mono bb1.out.size)
  have G14 : Hid (Below w1.heap.size w1 w4) := (GQ2.out.trans (bb2.out.mono GQ2.out.size)).trans (((GQ3.out.trans (bb3.out.mono GQ3.out.size)).trans ((GQ4.out.trans (bb4.out.mono GQ4.out.size)).mono (Nat.le_trans GQ3.out.size bb3.out.size))).mono (Nat.le_trans GQ2.out.size bb2.out.size))
  have G24 : Hid (Below w2.heap.size w2 w4) := (GQ3.out.trans (bb3.out.mono GQ3.out.size)).trans ((GQ4.out.trans (bb4.out.mono GQ4.out.size)).mono (Nat.le_trans GQ3.out.size bb3.out.size))
  have GA : Hid (Below w.heap.size w w4) := BF.out.trans ((GQ1.out.trans (G1.out.mono GQ1.out.size)).mono BF.out.size)
  have OA := O1.out.below G14.out
  have OB_ := O2.out.below G24.out
  have hEq : Hid (Calls Tryz.prog 21 #[.slice a1 A.1.length c1, .slice a2 B.1.length c2] w4 fun e w' => e = .returned (.bool (decide (A.1 = B.1))) ∧ Qt w4 w') := by
    obtain ⟨ao, ca, e1, _, _, _, r1⟩ := OA.sl
    obtain ⟨bo, cb, e2, _, _, _, r2⟩ := OB_.sl
    simp only [Value.slice.injEq] at e1 e2
    obtain ⟨rfl, _, rfl⟩ := e1
    obtain ⟨rfl, _, rfl⟩ := e2
    exact eq_any w4 _ _ _ _ _ _ hL1.out hL2.out r1 r2
  have P4' := hide (PQ4.out.below bb4.out)
  have hfin : Hid (∀ u r, Below w4.heap.size w4 u → (Rel S R → r = true) → PlP w pb b S R ⟨8, os, on, ot, ov, oD, oo, onn, of, ofs, od, ovk, oks⟩ Q (.returned (.bool r)) u) := fun u r hu hr => by
    have hb : Below w.heap.size w u := GA.out.trans (hu.mono GA.out.size)
    refine ⟨⟨r, S, Q, b, rfl, ?_, Sgo.of_below hb, hpS.out, hr, fun _ => rfl⟩⟩
    rw [hpR.out]
    exact ⟨rb, O, V, HX.out.below hb, hQ⟩
  clear OA OB_ hA hB hC hDD
  by_cases e1 : A.1 = B.1
  · have dE : decide (A.1 = B.1) = true := by simpa using e1
    rw [dE] at hEq
    by_cases e2 : A.2 = B.2
    · have i2 : (A.2 == B.2) = true := by simpa using e2
      by_cases e3 : C.1 = D.1
      · have i3 : (C.1 == D.1) = true := by simpa using e3
        by_cases e4 : C.2 = D.2
        · have i4 : (C.2 == D.2) = true := by simpa using e4
          clear e1 e2 e3 e4 dE
          go_wp2_with (go_at_call 21; refine hEq.out.mono ?_; rintro e w5 ⟨rfl, B5⟩)
          go_ret
          exact hfin.out _ _ (Qt.below B5 _) (fun _ => rfl)
        · have i4 : (C.2 == D.2) = false := by simpa using e4
          have hno : Hid (¬ Rel S R) := fun hr => e4 (by rw [(hRel.out hr).2])
          clear e1 e2 e3 e4 dE
          go_wp2_with (go_at_call 21; refine hEq.out.mono ?_; rintro e w5 ⟨rfl, B5⟩)
          go_ret
          exact hfin.out _ _ (Qt.below B5 _) (fun hr => absurd hr hno.out)
      · have i3 : (C.1 == D.1) = false := by simpa using e3
        have hno : Hid (¬ Rel S R) := fun hr => e3 (by rw [(hRel.out hr).2])
        clear e1 e2 e3 dE
        go_wp2_with (go_at_call 21; refine hEq.out.mono ?_; rintro e w5 ⟨rfl, B5⟩)
        go_ret
        exact hfin.out _ _ (Qt.below B5 _) (fun hr => absurd hr hno.out)
    · have i2 : (A.2 == B.2) = false := by simpa using e2
      have hno : Hid (¬ Rel S R) := fun hr => e2 (by rw [(hRel.out hr).1])
      clear e1 e2 dE
      go_wp2_with (go_at_call 21; refine hEq.out.mono ?_; rintro e w5 ⟨rfl, B5⟩)
      go_ret
      exact hfin.out _ _ (Qt.below B5 _) (fun hr => absurd hr hno.out)
  · have dE : decide (A.1 = B.1) = false := by simpa using e1
    rw [dE] at hEq
    have hno : Hid (¬ Rel S R) := fun hr => e1 (by rw [(hRel.out hr).1])
    clear e1 dE
    go_wp2_with (go_at_call 21; refine hEq.out.mono ?_; rintro e w5 ⟨rfl, B5⟩)
    go_ret
    exact hfin.out _ _ (Qt.below B5 _) (fun hr => absurd hr hno.out)
end Go.Proofs.YtjehpijjneghpaaGreat.Re
