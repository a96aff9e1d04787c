/-
  Plays: the calls that answer a number.
-/
import Derived.Test.YtjehpijjneghpaaGreatM34
namespace Go.Proofs.YtjehpijjneghpaaGreat.Re
open Go.RowKit Go.Maps Go.Sort Go.Shelf Go.Proofs.YtjehpijjneghpaaGreat.Nm Go.Proofs.YtjehpijjneghpaaGreat.Dk
open Ix (wp_region_T wpAnyT wpAnyT_take wpAnyT_one wpAnyT_done vac)
set_option linter.unusedVariables false
variable {W0 w : World} {pb b : Nat} {S : DS} {R : RB} {Q : Nat → Prop}
theorem ten_cells {q : World} {g : Nat} {a0 a1 a2 a3 a4 a5 a6 a7 a8 a9 : Value} {T : TypeId} {z : Nat × Nat} (h : q.heap[g]? = some (.cells #[a0, a1, a2, a3, a4, a5, a6, a7, a8, a9] T z)) :
    q.cell? ⟨g, 0, none⟩ = some a0 ∧ q.cell? ⟨g, 1, none⟩ = some a1 ∧ q.cell? ⟨g, 2, none⟩ = some a2 ∧ q.cell? ⟨g, 3, none⟩ = some a3 ∧ q.cell? ⟨g, 4, none⟩ = some a4 ∧ q.cell? ⟨g, 5, none⟩ = some a5 ∧ q.cell? ⟨g, 6, none⟩ = some a6 ∧ q.cell? ⟨g, 7, none⟩ = some a7 ∧ q.cell? ⟨g, 8, none⟩ = some a8 ∧ q.cell? ⟨g, 9, none⟩ = some a9 := by simp [World.cell?, h]
theorem two_cells {q : World} {g : Nat} {a0 a1 : Value} {T : TypeId} {z : Nat × Nat} (h : q.heap[g]? = some (.cells #[a0, a1] T z)) : q.cell? ⟨g, 0, none⟩ = some a0 ∧ q.cell? ⟨g, 1, none⟩ = some a1 := by simp [World.cell?, h]
def opV (o : Dop) : Value := .agg #[.int .i64 o.kind, .bool o.sec, .string o.nm, .string o.tn, o.vd, .int .i64 o.off, .int .i64 o.n, o.vf, .int .i64 o.dir, o.vk]
theorem findN_le (h : RI R) (hc : R.c7 ≤ 100000) : ∀ n, findN R.dir n ≤ 9223372036854775807 := fun n => by
  unfold findN
  cases hg : Dk.get R.dir n with
  | none => decide
  | some p => have := h.dirF _ (get_mem hg); have := h.fl; simp only at *; omega
theorem sync_dskE {O : Nat → Prop} (h : DskE w b S O) (s : ByteArray) (hs : s.size ≤ maxLen) (hc : S.c7 < 900000000) : Calls Tryz.prog 17 #[.pointer (some ⟨b, 0, none⟩), .string s] w (Does w b O (S.sync s)) := by obtain ⟨f, g, pd, am, VB, VL, hd⟩ := h; exact syncF_any hd s hs hc
theorem cut_dskE {O : Nat → Prop} (h : DskE w b S O) (s : ByteArray) (hs : s.size ≤ maxLen) (n : Int) (n0 : -9223372036854775808 ≤ n) (n1 : n ≤ 9223372036854775807) (hc : S.c7 < 900000000) : Calls Tryz.prog 49 #[.pointer (some ⟨b, 0, none⟩), .string s, .int .i64 n] w (Does w b O (S.cut s n)) := by obtain ⟨f, g, pd, am, VB, VL, hd⟩ := h; exact cutD_any hd s hs n n0 n1 hc
structure Bxs (pb ob b rb : Nat) (o : Dop) (q : World) : Prop where
  p : q.heap[pb]? = some (.cells #[.pointer (some ⟨b, 0, none⟩), .pointer (some ⟨rb, 0, none⟩)] 29 (0, 0))
  o : q.heap[ob]? = some (.cells #[.int .i64 o.kind, .bool o.sec, .string o.nm, .string o.tn, o.vd, .int .i64 o.off, .int .i64 o.n, o.vf, .int .i64 o.dir, o.vk] 36 (0, 0))
theorem Bxs.go {pb ob b rb : Nat} {o : Dop} {q q' : World} {X : Nat → Prop} (h : Bxs pb ob b rb o q) (hb : But X q q') (h1 : ¬ X pb) (h2 : ¬ X ob) : Bxs pb ob b rb o q' := ⟨hb.at h.p h1, hb.at h.o h2⟩
set_option maxRecDepth 100000 in
set_option maxHeartbeats 2000000 in
theorem pl_create (o : Dop) (hk : o.kind = 1) (h : PlI W0 w pb b S R o Q) : Calls Tryz.prog 11 #[.pointer (some ⟨pb, 0, none⟩), opV o] w (PlP w pb b S R o Q) := by
  obtain ⟨rb, O, V, hx, hQ⟩ := h.pw
  have hI := hide h
  have hpS : Hid (∀ S', (∃ p, p ∉ S.ps ∧ S' = (S.create o.nm p).1) → DS.play S o S') := fun S' hs => by unfold DS.play; rw [if_pos hk]; exact hs
  have hpR : Hid (R.play o = (R.create o.nm).1) := by show _ = _; unfold RB.play; rw [if_pos hk]
  have HX := hide hx
  have hA : Hid (∀ q, PX q pb b rb S R O V → Calls Tryz.prog 14 #[.pointer (some ⟨b, 0, none⟩), .string o.nm] q fun e w' => ∃ er S' O', e = .returned (.int .i64 er) ∧ (∃ p, p ∉ S.ps ∧ S' = (S.create o.nm p).1 ∧ er = (S.create o.nm p).2) ∧ PX w' pb b rb S' R O' V ∧ Sgo q w' (own pb O rb V) (own pb O' rb V)) := fun q hq => by
    refine (create_dsk hq.d o.nm (by have := hI.out.ok.nm; omega) (by have := hI.out.cs; omega)).mono ?_
    rintro e w' ⟨p, _, hp, rfl, O', hd, hg⟩
    obtain ⟨px, gx⟩ := hq.stepA hd hg
    exact ⟨_, _, _, rfl, ⟨p, hp, rfl, rfl⟩, px, gx⟩
  have hB : Hid (∀ q S' O', PX q pb b rb S' R O' V → Calls Tryz.prog 44 #[.pointer (some ⟨rb, 0, none⟩), .string o.nm] q fun e w' => ∃ V', e = .returned (.int .i64 (R.create o.nm).2) ∧ PX w' pb b rb S' (R.create o.nm).1 O' V' ∧ Sgo q w' (own pb O' rb V) (own pb O' rb V')) := fun q S' O' hq => by
    refine (create_rm hq.r hI.out.ri.ok (by have := hI.out.cr; omega) (by have := hI.out.ri.dlen; omega) (by have := hI.out.ri.cnt; have := hI.out.cr; omega) (by have := hI.out.ri.fl; have := hI.out.cr; omega) o.nm (by have := hI.out.ok.nm; unfold maxLen; omega)).mono ?_
    rintro e w' ⟨rfl, hg⟩
    obtain ⟨V', px, gx⟩ := hq.stepB hg
    exact ⟨V', rfl, px, gx⟩
  have hRel : Hid (∀ er S', (∃ p, p ∉ S.ps ∧ S' = (S.create o.nm p).1 ∧ er = (S.create o.nm p).2) → Rel S R → er = (R.create o.nm).2) := fun er S' hs hr => by
    obtain ⟨p, hp, _, rfl⟩ := hs; exact (hr.create o.nm hp).2
  obtain ⟨RR, hRR⟩ : ∃ RR, Hid ((R.create o.nm) = RR) := ⟨_, rfl⟩
  rw [hRR.out] at hB hRel hpR
  obtain ⟨ok, os, on, ot, ov, oD, oo, onn, of, ofs, od, ovk, oks⟩ := o
  dsimp only at hk hA hB hpS hRel
  subst hk
  have BF := hide (box_below w (.cells #[.int .i64 1, .bool os, .string on, .string ot, ov, .int .i64 oo, .int .i64 onn, of, .int .i64 od, ovk] 36))
  have NF := heap_alloc_new w (.cells #[.int .i64 1, .bool os, .string on, .string ot, ov, .int .i64 oo, .int .i64 onn, of, .int .i64 od, ovk] 36)
  have hlt := hide hx.lt
  clear hx
  unfold opV
  go_enter Tryz.func11, Tryz.ntmps11
  obtain ⟨wf, hwf⟩ : ∃ wf, Hid (w.alloc (.cells #[.int .i64 1, .bool os, .string on, .string ot, ov, .int .i64 oo, .int .i64 onn, of, .int .i64 od, ovk] 36) = wf) := ⟨_, rfl⟩
  have c0 : (w.alloc (.cells #[.int .i64 1, .bool os, .string on, .string ot, ov, .int .i64 oo, .int .i64 onn, of, .int .i64 od, ovk] 36)).cell? ⟨w.heap.size, 0, none⟩ = some (.int .i64 1) := (ten_cells NF).1
  go_upto_region 3 with fail
  rw [hwf.out] at BF NF ⊢
  have MX := hide (HX.out.below BF.out)
  have hob : Hid (¬ own pb O rb V w.heap.size) := fun c => Nat.lt_irrefl _ (hlt.out _ c)
  have B0 : Hid (Bxs pb w.heap.size b rb ⟨1, os, on, ot, ov, oD, oo, onn, of, ofs, od, ovk, oks⟩ wf) := ⟨MX.out.box, NF⟩
  have KP : Hid (Bxs pb w.heap.size b rb ⟨1, os, on, ot, ov, oD, oo, onn, of, ofs, od, ovk, oks⟩ wf.drew) := B0.out.go (But.of_below (Below.refl _ _).drew fun _ => False) (fun c => c) (fun c => c)
  have PQ : Hid (PX wf.drew pb b rb S R O V) := MX.out.below (Below.refl _ _).drew
  have GQ : Hid (Below w.heap.size w wf.drew) := BF.out.drew
  clear c0 NF
  refine wp_region_T (fun q => Bxs pb w.heap.size b rb ⟨1, os, on, ot, ov, oD, oo, onn, of, ofs, od, ovk, oks⟩ q) 15 (by kernel_rfl) ?_
  generalize wf.drew = q at *
  refine Ix.tk 0 ⟨some 26, .move (.tmp 0), 37, "law.go:111", #[], none⟩ (.pointer (some ⟨pb, 0, none⟩)) [1,2,3,6,14,15] ?_ KP.out ?_
  · intro wq hSw; go_simp
  (try simp only [zzp, zza, zzb, zzc])
  refine Ix.tk 1 ⟨some 27, .nilCheck (.tmp 26), 0, "law.go:111", #[⟨0,.data⟩], none⟩ (.pointer (some ⟨pb, 0, none⟩)) [2,3,6,14,15] ?_ KP.out ?_
  · intro wq hSw; go_simp
  (try simp only [zzp, zza, zzb, zzc])
  refine Ix.tk 2 ⟨some 28, .fieldAddr 29 (.tmp 27) 0, 0, "law.go:111", #[⟨1,.data⟩], none⟩ (.pointer (some ⟨pb, 0, none⟩)) [3,6,14,15] ?_ KP.out ?_
  · intro wq hSw; go_simp
  (try simp only [zzp, zza, zzb, zzc])
  refine Ix.tk 3 ⟨some 29, .load 24 (.tmp 28), 24, "law.go:111", #[⟨2,.data⟩], none⟩ (.pointer (some ⟨b, 0, none⟩)) [6,14,15] ?_ KP.out ?_
  · intro wq hSw
    obtain ⟨x1, x2⟩ := two_cells hSw.p
    obtain ⟨y0, y1, y2, y3, y4, y5, y6, y7, y8, y9⟩ := ten_cells hSw.o
    go_simp
  (try simp only [zzp, zza, zzb, zzc])
  refine Ix.tk 4 ⟨some 30, .fieldAddr 36 (.tmp 3) 2, 0, "law.go:111", #[], none⟩ (.pointer (some ⟨w.heap.size, 2, none⟩)) [5,6,14,15] ?_ KP.out ?_
  · intro wq hSw; go_simp
  (try simp only [zzp, zza, zzb, zzc])
  refine Ix.tk 5 ⟨some 31, .load 9 (.tmp 30), 9, "law.go:111", #[⟨4,.data⟩], none⟩ (.string on) [6,14,15] ?_ KP.out ?_
  · intro wq hSw
    obtain ⟨x1, x2⟩ := two_cells hSw.p
    obtain ⟨y0, y1, y2, y3, y4, y5, y6, y7, y8, y9⟩ := ten_cells hSw.o
    go_simp
  (try simp only [zzp, zza, zzb, zzc])
  refine Ix.tk 7 ⟨some 33, .move (.tmp 0), 37, "law.go:111", #[], none⟩ (.pointer (some ⟨pb, 0, none⟩)) [8,9,10,13,14,15] ?_ KP.out ?_
  · intro wq hSw; go_simp
  (try simp only [zzp, zza, zzb, zzc])
  refine Ix.tk 8 ⟨some 34, .nilCheck (.tmp 33), 0, "law.go:111", #[⟨7,.data⟩], none⟩ (.pointer (some ⟨pb, 0, none⟩)) [9,10,13,14,15] ?_ KP.out ?_
  · intro wq hSw; go_simp
  (try simp only [zzp, zza, zzb, zzc])
  refine Ix.tk 9 ⟨some 35, .fieldAddr 29 (.tmp 34) 1, 0, "law.go:111", #[⟨8,.data⟩], none⟩ (.pointer (some ⟨pb, 1, none⟩)) [10,13,14,15] ?_ KP.out ?_
  · intro wq hSw; go_simp
  (try simp only [zzp, zza, zzb, zzc])
  refine Ix.tk 10 ⟨some 36, .load 26 (.tmp 35), 26, "law.go:111", #[⟨9,.data⟩], none⟩ (.pointer (some ⟨rb, 0, none⟩)) [13,14,15] ?_ KP.out ?_
  · intro wq hSw
    obtain ⟨x1, x2⟩ := two_cells hSw.p
    obtain ⟨y0, y1, y2, y3, y4, y5, y6, y7, y8, y9⟩ := ten_cells hSw.o
    go_simp
  (try simp only [zzp, zza, zzb, zzc])
  refine Ix.tk 11 ⟨some 37, .fieldAddr 36 (.tmp 3) 2, 0, "law.go:111", #[], none⟩ (.pointer (some ⟨w.heap.size, 2, none⟩)) [12,13,14,15] ?_ KP.out ?_
  · intro wq hSw; go_simp
  (try simp only [zzp, zza, zzb, zzc])
  refine Ix.tk 12 ⟨some 38, .load 9 (.tmp 37), 9, "law.go:111", #[⟨11,.data⟩], none⟩ (.string on) [13,14,15] ?_ KP.out ?_
  · intro wq hSw
    obtain ⟨x1, x2⟩ := two_cells hSw.p
    obtain ⟨y0, y1, y2, y3, y4, y5, y6, y7, y8, y9⟩ := ten_cells hSw.o
    go_simp
  (try simp only [zzp, zza, zzb, zzc])
  refine wpAnyT_one (i := 6) (o := ⟨some 32, .call { callee := .value (.func 14), args := #[.tmp 29, .tmp 31], argTypes := #[24, 9] }, 41, "law.go:111", #[⟨3, .data⟩, ⟨5, .data⟩], none⟩) (by kernel_rfl) rfl (fun K hK => ?_)
  go_simp
  go_at_call 14
  refine (hA.out q PQ.out).mono ?_
  rintro e w1 ⟨er, S1, O1, rfl, hs1, P1, G1⟩
  replace P1 := hide P1
  replace G1 := hide G1
  replace hs1 := hide hs1
  have K1 : Hid (Bxs pb w.heap.size b rb ⟨1, os, on, ot, ov, oD, oo, onn, of, ofs, od, ovk, oks⟩ w1) := ⟨P1.out.box, G1.out.but.at KP.out.o hob.out⟩
  (try go_simp)
  refine hK.out _ _ (fun _ => K1.out) ?_
  clear hK K
  (try simp only [zzp, zza, zzb, zzc])
  refine wpAnyT_one (i := 13) (o := ⟨some 39, .call { callee := .value (.func 44), args := #[.tmp 36, .tmp 38], argTypes := #[26, 9] }, 41, "law.go:111", #[⟨10, .data⟩, ⟨12, .data⟩, ⟨6, .chain⟩], none⟩) (by kernel_rfl) rfl (fun K hK => ?_)
  go_simp
  go_at_call 44
  refine (hB.out w1 S1 O1 P1.out).mono ?_
  rintro e w2 ⟨V2, rfl, P2, G2⟩
  replace P2 := hide P2
  replace G2 := hide G2
  have hob1 : ¬ own pb O1 rb V w.heap.size := fun c => (G1.out.own _ c).elim hob.out (fun c => by have := heap_lt KP.out.o; omega)
  have K2 : Hid (Bxs pb w.heap.size b rb ⟨1, os, on, ot, ov, oD, oo, onn, of, ofs, od, ovk, oks⟩ w2) := ⟨P2.out.box, G2.out.but.at K1.out.o hob1⟩
  (try go_simp)
  refine hK.out _ _ (fun _ => K2.out) ?_
  clear hK K
  (try simp only [zzp, zza, zzb, zzc])
  refine Ix.tk 14 ⟨some 40, .binOp .eql 41 (.tmp 32) (.tmp 39) 41, 4, "law.go:111", #[⟨6,.data⟩,⟨13,.data⟩], none⟩ (.bool (er == RR.2)) [15] ?_ K2.out ?_
  · intro wq hSw
    obtain ⟨x1, x2⟩ := two_cells hSw.p
    obtain ⟨y0, y1, y2, y3, y4, y5, y6, y7, y8, y9⟩ := ten_cells hSw.o
    go_simp
  (try simp only [zzp, zza, zzb, zzc])
  refine wpAnyT_one (i := 15) (o := ⟨some 4, .assign (.tmp 40), 4, "law.go:111", #[⟨14, .data⟩, ⟨13, .chain⟩, ⟨0, .phase⟩, ⟨1, .phase⟩, ⟨2, .phase⟩, ⟨3, .phase⟩, ⟨4, .phase⟩, ⟨5, .phase⟩, ⟨6, .phase⟩, ⟨7, .phase⟩, ⟨8, .phase⟩, ⟨9, .phase⟩, ⟨10, .phase⟩, ⟨11, .phase⟩, ⟨12, .phase⟩, ⟨13, .phase⟩, ⟨14, .phase⟩], none⟩) (by kernel_rfl) rfl (fun K hK => ?_)
  go_simp
  refine hK.out _ _ (vac (by kernel_rfl)) ?_
  clear hK K
  (try simp only [zzp, zza, zzb, zzc])
  refine wpAnyT_done (by kernel_rfl) ?_ _
  obtain ⟨bb, hbb⟩ : ∃ bb, Hid ((er == RR.2) = bb) := ⟨_, rfl⟩
  rw [hbb.out]
  go_wp2_with fail
  go_ret
  refine ⟨⟨bb, S1, _, b, rfl, by rw [hpR.out]; exact P2.out.toPW, ?_, hpS.out S1 ?_, fun hr => ?_, fun _ => rfl⟩⟩
  · have hG := (Sgo.of_below (O := own pb O rb V) GQ.out).trans (G1.out.trans G2.out)
    first | exact hG | (rw [hQ]; exact hG)
  · obtain ⟨p, h1, h2, _⟩ := hs1.out; exact ⟨p, h1, h2⟩
  · rw [← hbb.out]
    simpa using hRel.out er S1 hs1.out hr
set_option maxRecDepth 100000 in
set_option maxHeartbeats 2000000 in
theorem pl_sync (o : Dop) (hk : o.kind = 3) (h : PlI W0 w pb b S R o Q) : Calls Tryz.prog 11 #[.pointer (some ⟨pb, 0, none⟩), opV o] w (PlP w pb b S R o Q) := by
  obtain ⟨rb, O, V, hx, hQ⟩ := h.pw
  have hI := hide h
  have hpS : Hid (∀ S', S' = (S.sync o.nm).1 → DS.play S o S') := fun S' hs => by unfold DS.play; simp [hk, hs]
  have hpR : Hid (R.play o = (R.sync o.nm).1) := by show _ = _; unfold RB.play; simp [hk]
  have HX := hide hx
  have hA : Hid (∀ q, PX q pb b rb S R O V → Calls Tryz.prog 17 #[.pointer (some ⟨b, 0, none⟩), .string o.nm] q fun e w' => ∃ er S' O', e = .returned (.int .i64 er) ∧ (S' = (S.sync o.nm).1 ∧ er = (S.sync o.nm).2) ∧ PX w' pb b rb S' R O' V ∧ Sgo q w' (own pb O rb V) (own pb O' rb V)) := fun q hq => by
    refine (sync_dskE hq.d o.nm (by have := hI.out.ok.nm; unfold maxLen; omega) (by have := hI.out.cs; omega)).mono ?_
    rintro e w' ⟨rfl, O', hd, hg⟩
    obtain ⟨px, gx⟩ := hq.stepA hd hg
    exact ⟨_, _, _, rfl, ⟨rfl, rfl⟩, px, gx⟩
  have hB : Hid (∀ q S' O', PX q pb b rb S' R O' V → Calls Tryz.prog 48 #[.pointer (some ⟨rb, 0, none⟩), .string o.nm] q fun e w' => ∃ V', e = .returned (.int .i64 (R.sync o.nm).2) ∧ PX w' pb b rb S' (R.sync o.nm).1 O' V' ∧ Sgo q w' (own pb O' rb V) (own pb O' rb V')) := fun q S' O' hq => by
    refine (sync_rm hq.r hI.out.ri.ok (by have := hI.out.cr; omega) hI.out.ri.dirF hI.out.ri.la o.nm (by have := hI.out.ok.nm; unfold maxLen; omega)).mono ?_
    rintro e w' ⟨rfl, hg⟩
    obtain ⟨V', px, gx⟩ := hq.stepB hg
    exact ⟨V', rfl, px, gx⟩
  have hRel : Hid (∀ er S', (S' = (S.sync o.nm).1 ∧ er = (S.sync o.nm).2) → Rel S R → er = (R.sync o.nm).2) := fun er S' hs hr => by
    obtain ⟨_, rfl⟩ := hs; exact (hr.sync o.nm).2
  obtain ⟨RR, hRR⟩ : ∃ RR, Hid ((R.sync o.nm) = RR) := ⟨_, rfl⟩
  rw [hRR.out] at hB hRel hpR
  obtain ⟨ok, os, on, ot, ov, oD, oo, onn, of, ofs, od, ovk, oks⟩ := o
  dsimp only at hk hA hB hpS hRel
  subst hk
  have BF := hide (box_below w (.cells #[.int .i64 3, .bool os, .string on, .string ot, ov, .int .i64 oo, .int .i64 onn, of, .int .i64 od, ovk] 36))
  have NF := heap_alloc_new w (.cells #[.int .i64 3, .bool os, .string on, .string ot, ov, .int .i64 oo, .int .i64 onn, of, .int .i64 od, ovk] 36)
  have hlt := hide hx.lt
  clear hx
  unfold opV
  go_enter Tryz.func11, Tryz.ntmps11
  obtain ⟨wf, hwf⟩ : ∃ wf, Hid (w.alloc (.cells #[.int .i64 3, .bool os, .string on, .string ot, ov, .int .i64 oo, .int .i64 onn, of, .int .i64 od, ovk] 36) = wf) := ⟨_, rfl⟩
  have c0 : (w.alloc (.cells #[.int .i64 3, .bool os, .string on, .string ot, ov, .int .i64 oo, .int .i64 onn, of, .int .i64 od, ovk] 36)).cell? ⟨w.heap.size, 0, none⟩ = some (.int .i64 3) := (ten_cells NF).1
  go_upto_region 12 with fail
  rw [hwf.out] at BF NF ⊢
  have MX := hide (HX.out.below BF.out)
  have hob : Hid (¬ own pb O rb V w.heap.size) := fun c => Nat.lt_irrefl _ (hlt.out _ c)
  have B0 : Hid (Bxs pb w.heap.size b rb ⟨3, os, on, ot, ov, oD, oo, onn, of, ofs, od, ovk, oks⟩ wf) := ⟨MX.out.box, NF⟩
  have KP : Hid (Bxs pb w.heap.size b rb ⟨3, os, on, ot, ov, oD, oo, onn, of, ofs, od, ovk, oks⟩ wf.drew) := B0.out.go (But.of_below (Below.refl _ _).drew fun _ => False) (fun c => c) (fun c => c)
  have PQ : Hid (PX wf.drew pb b rb S R O V) := MX.out.below (Below.refl _ _).drew
  have GQ : Hid (Below w.heap.size w wf.drew) := BF.out.drew
  clear c0 NF
  refine wp_region_T (fun q => Bxs pb w.heap.size b rb ⟨3, os, on, ot, ov, oD, oo, onn, of, ofs, od, ovk, oks⟩ q) 15 (by kernel_rfl) ?_
  generalize wf.drew = q at *
  refine Ix.tk 0 ⟨some 89, .move (.tmp 0), 37, "law.go:121", #[], none⟩ (.pointer (some ⟨pb, 0, none⟩)) [1,2,3,6,14,15] ?_ KP.out ?_
  · intro wq hSw; go_simp
  (try simp only [zzp, zza, zzb, zzc])
  refine Ix.tk 1 ⟨some 90, .nilCheck (.tmp 89), 0, "law.go:121", #[⟨0,.data⟩], none⟩ (.pointer (some ⟨pb, 0, none⟩)) [2,3,6,14,15] ?_ KP.out ?_
  · intro wq hSw; go_simp
  (try simp only [zzp, zza, zzb, zzc])
  refine Ix.tk 2 ⟨some 91, .fieldAddr 29 (.tmp 90) 0, 0, "law.go:121", #[⟨1,.data⟩], none⟩ (.pointer (some ⟨pb, 0, none⟩)) [3,6,14,15] ?_ KP.out ?_
  · intro wq hSw; go_simp
  (try simp only [zzp, zza, zzb, zzc])
  refine Ix.tk 3 ⟨some 92, .load 24 (.tmp 91), 24, "law.go:121", #[⟨2,.data⟩], none⟩ (.pointer (some ⟨b, 0, none⟩)) [6,14,15] ?_ KP.out ?_
  · intro wq hSw
    obtain ⟨x1, x2⟩ := two_cells hSw.p
    obtain ⟨y0, y1, y2, y3, y4, y5, y6, y7, y8, y9⟩ := ten_cells hSw.o
    go_simp
  (try simp only [zzp, zza, zzb, zzc])
  refine Ix.tk 4 ⟨some 93, .fieldAddr 36 (.tmp 3) 2, 0, "law.go:121", #[], none⟩ (.pointer (some ⟨w.heap.size, 2, none⟩)) [5,6,14,15] ?_ KP.out ?_
  · intro wq hSw; go_simp
  (try simp only [zzp, zza, zzb, zzc])
  refine Ix.tk 5 ⟨some 94, .load 9 (.tmp 93), 9, "law.go:121", #[⟨4,.data⟩], none⟩ (.string on) [6,14,15] ?_ KP.out ?_
  · intro wq hSw
    obtain ⟨x1, x2⟩ := two_cells hSw.p
    obtain ⟨y0, y1, y2, y3, y4, y5, y6, y7, y8, y9⟩ := ten_cells hSw.o
    go_simp
  (try simp only [zzp, zza, zzb, zzc])
  refine Ix.tk 7 ⟨some 96, .move (.tmp 0), 37, "law.go:121", #[], none⟩ (.pointer (some ⟨pb, 0, none⟩)) [8,9,10,13,14,15] ?_ KP.out ?_
  · intro wq hSw; go_simp
  (try simp only [zzp, zza, zzb, zzc])
  refine Ix.tk 8 ⟨some 97, .nilCheck (.tmp 96), 0, "law.go:121", #[⟨7,.data⟩], none⟩ (.pointer (some ⟨pb, 0, none⟩)) [9,10,13,14,15] ?_ KP.out ?_
  · intro wq hSw; go_simp
  (try simp only [zzp, zza, zzb, zzc])
  refine Ix.tk 9 ⟨some 98, .fieldAddr 29 (.tmp 97) 1, 0, "law.go:121", #[⟨8,.data⟩], none⟩ (.pointer (some ⟨pb, 1, none⟩)) [10,13,14,15] ?_ KP.out ?_
  · intro wq hSw; go_simp
  (try simp only [zzp, zza, zzb, zzc])
  refine Ix.tk 10 ⟨some 99, .load 26 (.tmp 98), 26, "law.go:121", #[⟨9,.data⟩], none⟩ (.pointer (some ⟨rb, 0, none⟩)) [13,14,15] ?_ KP.out ?_
  · intro wq hSw
    obtain ⟨x1, x2⟩ := two_cells hSw.p
    obtain ⟨y0, y1, y2, y3, y4, y5, y6, y7, y8, y9⟩ := ten_cells hSw.o
    go_simp
  (try simp only [zzp, zza, zzb, zzc])
  refine Ix.tk 11 ⟨some 100, .fieldAddr 36 (.tmp 3) 2, 0, "law.go:121", #[], none⟩ (.pointer (some ⟨w.heap.size, 2, none⟩)) [12,13,14,15] ?_ KP.out ?_
  · intro wq hSw; go_simp
  (try simp only [zzp, zza, zzb, zzc])
  refine Ix.tk 12 ⟨some 101, .load 9 (.tmp 100), 9, "law.go:121", #[⟨11,.data⟩], none⟩ (.string on) [13,14,15] ?_ KP.out ?_
  · intro wq hSw
    obtain ⟨x1, x2⟩ := two_cells hSw.p
    obtain ⟨y0, y1, y2, y3, y4, y5, y6, y7, y8, y9⟩ := ten_cells hSw.o
    go_simp
  (try simp only [zzp, zza, zzb, zzc])
  refine wpAnyT_one (i := 6) (o := ⟨some 95, .call { callee := .value (.func 17), args := #[.tmp 92, .tmp 94], argTypes := #[24, 9] }, 41, "law.go:121", #[⟨3, .data⟩, ⟨5, .data⟩], none⟩) (by kernel_rfl) rfl (fun K hK => ?_)
  go_simp
  go_at_call 17
  refine (hA.out q PQ.out).mono ?_
  rintro e w1 ⟨er, S1, O1, rfl, hs1, P1, G1⟩
  replace P1 := hide P1
  replace G1 := hide G1
  replace hs1 := hide hs1
  have K1 : Hid (Bxs pb w.heap.size b rb ⟨3, os, on, ot, ov, oD, oo, onn, of, ofs, od, ovk, oks⟩ w1) := ⟨P1.out.box, G1.out.but.at KP.out.o hob.out⟩
  (try go_simp)
  refine hK.out _ _ (fun _ => K1.out) ?_
  clear hK K
  (try simp only [zzp, zza, zzb, zzc])
  refine wpAnyT_one (i := 13) (o := ⟨some 102, .call { callee := .value (.func 48), args := #[.tmp 99, .tmp 101], argTypes := #[26, 9] }, 41, "law.go:121", #[⟨10, .data⟩, ⟨12, .data⟩, ⟨6, .chain⟩], none⟩) (by kernel_rfl) rfl (fun K hK => ?_)
  go_simp
  go_at_call 48
  refine (hB.out w1 S1 O1 P1.out).mono ?_
  rintro e w2 ⟨V2, rfl, P2, G2⟩
  replace P2 := hide P2
  replace G2 := hide G2
  have hob1 : ¬ own pb O1 rb V w.heap.size := fun c => (G1.out.own _ c).elim hob.out (fun c => by have := heap_lt KP.out.o; omega)
  have K2 : Hid (Bxs pb w.heap.size b rb ⟨3, os, on, ot, ov, oD, oo, onn, of, ofs, od, ovk, oks⟩ w2) := ⟨P2.out.box, G2.out.but.at K1.out.o hob1⟩
  (try go_simp)
  refine hK.out _ _ (fun _ => K2.out) ?_
  clear hK K
  (try simp only [zzp, zza, zzb, zzc])
  refine Ix.tk 14 ⟨some 103, .binOp .eql 41 (.tmp 95) (.tmp 102) 41, 4, "law.go:121", #[⟨6,.data⟩,⟨13,.data⟩], none⟩ (.bool (er == RR.2)) [15] ?_ K2.out ?_
  · intro wq hSw
    obtain ⟨x1, x2⟩ := two_cells hSw.p
    obtain ⟨y0, y1, y2, y3, y4, y5, y6, y7, y8, y9⟩ := ten_cells hSw.o
    go_simp
  (try simp only [zzp, zza, zzb, zzc])
  refine wpAnyT_one (i := 15) (o := ⟨some 4, .assign (.tmp 103), 4, "law.go:121", #[⟨14, .data⟩, ⟨13, .chain⟩, ⟨0, .phase⟩, ⟨1, .phase⟩, ⟨2, .phase⟩, ⟨3, .phase⟩, ⟨4, .phase⟩, ⟨5, .phase⟩, ⟨6, .phase⟩, ⟨7, .phase⟩, ⟨8, .phase⟩, ⟨9, .phase⟩, ⟨10, .phase⟩, ⟨11, .phase⟩, ⟨12, .phase⟩, ⟨13, .phase⟩, ⟨14, .phase⟩], none⟩) (by kernel_rfl) rfl (fun K hK => ?_)
  go_simp
  refine hK.out _ _ (vac (by kernel_rfl)) ?_
  clear hK K
  (try simp only [zzp, zza, zzb, zzc])
  refine wpAnyT_done (by kernel_rfl) ?_ _
  obtain ⟨bb, hbb⟩ : ∃ bb, Hid ((er == RR.2) = bb) := ⟨_, rfl⟩
  rw [hbb.out]
  go_wp2_with fail
  go_ret
  refine ⟨⟨bb, S1, _, b, rfl, by rw [hpR.out]; exact P2.out.toPW, ?_, hpS.out S1 ?_, fun hr => ?_, fun _ => rfl⟩⟩
  · have hG := (Sgo.of_below (O := own pb O rb V) GQ.out).trans (G1.out.trans G2.out)
    first | exact hG | (rw [hQ]; exact hG)
  · exact hs1.out.1
  · rw [← hbb.out]
    simpa using hRel.out er S1 hs1.out hr
set_option maxRecDepth 100000 in
set_option maxHeartbeats 2000000 in
theorem pl_cut (o : Dop) (hk : o.kind = 4) (h : PlI W0 w pb b S R o Q) : Calls Tryz.prog 11 #[.pointer (some ⟨pb, 0, none⟩), opV o] w (PlP w pb b S R o Q) := by
  obtain ⟨rb, O, V, hx, hQ⟩ := h.pw
  have hI := hide h
  have hpS : Hid (∀ S', S' = (S.cut o.nm o.n).1 → DS.play S o S') := fun S' hs => by unfold DS.play; simp [hk, hs]
  have hpR : Hid (R.play o = (R.cut o.nm o.n).1) := by show _ = _; unfold RB.play; simp [hk]
  have HX := hide hx
  have hA : Hid (∀ q, PX q pb b rb S R O V → Calls Tryz.prog 49 #[.pointer (some ⟨b, 0, none⟩), .string o.nm, .int .i64 o.n] q fun e w' => ∃ er S' O', e = .returned (.int .i64 er) ∧ (S' = (S.cut o.nm o.n).1 ∧ er = (S.cut o.nm o.n).2) ∧ PX w' pb b rb S' R O' V ∧ Sgo q w' (own pb O rb V) (own pb O' rb V)) := fun q hq => by
    refine (cut_dskE hq.d o.nm (by have := hI.out.ok.nm; unfold maxLen; omega) o.n hI.out.ok.n.1 hI.out.ok.n.2 (by have := hI.out.cs; omega)).mono ?_
    rintro e w' ⟨rfl, O', hd, hg⟩
    obtain ⟨px, gx⟩ := hq.stepA hd hg
    exact ⟨_, _, _, rfl, ⟨rfl, rfl⟩, px, gx⟩
  have hB : Hid (∀ q S' O', PX q pb b rb S' R O' V → Calls Tryz.prog 50 #[.pointer (some ⟨rb, 0, none⟩), .string o.nm, .int .i64 o.n] q fun e w' => ∃ V', e = .returned (.int .i64 (R.cut o.nm o.n).2) ∧ PX w' pb b rb S' (R.cut o.nm o.n).1 O' V' ∧ Sgo q w' (own pb O' rb V) (own pb O' rb V')) := fun q S' O' hq => by
    refine (cut_rm hq.r hI.out.ri.ok (by have := hI.out.cr; omega) hI.out.ri.dirF hI.out.ri.la o.nm (by have := hI.out.ok.nm; unfold maxLen; omega) o.n).mono ?_
    rintro e w' ⟨rfl, hg⟩
    obtain ⟨V', px, gx⟩ := hq.stepB hg
    exact ⟨V', rfl, px, gx⟩
  have hRel : Hid (∀ er S', (S' = (S.cut o.nm o.n).1 ∧ er = (S.cut o.nm o.n).2) → Rel S R → er = (R.cut o.nm o.n).2) := fun er S' hs hr => by
    obtain ⟨_, rfl⟩ := hs; exact (hr.cut o.nm o.n).2
  obtain ⟨RR, hRR⟩ : ∃ RR, Hid ((R.cut o.nm o.n) = RR) := ⟨_, rfl⟩
  rw [hRR.out] at hB hRel hpR
  obtain ⟨ok, os, on, ot, ov, oD, oo, onn, of, ofs, od, ovk, oks⟩ := o
  dsimp only at hk hA hB hpS hRel
  subst hk
  have BF := hide (box_below w (.cells #[.int .i64 4, .bool os, .string on, .string ot, ov, .int .i64 oo, .int .i64 onn, of, .int .i64 od, ovk] 36))
  have NF := heap_alloc_new w (.cells #[.int .i64 4, .bool os, .string on, .string ot, ov, .int .i64 oo, .int .i64 onn, of, .int .i64 od, ovk] 36)
  have hlt := hide hx.lt
  clear hx
  unfold opV
  go_enter Tryz.func11, Tryz.ntmps11
  obtain ⟨wf, hwf⟩ : ∃ wf, Hid (w.alloc (.cells #[.int .i64 4, .bool os, .string on, .string ot, ov, .int .i64 oo, .int .i64 onn, of, .int .i64 od, ovk] 36) = wf) := ⟨_, rfl⟩
  have c0 : (w.alloc (.cells #[.int .i64 4, .bool os, .string on, .string ot, ov, .int .i64 oo, .int .i64 onn, of, .int .i64 od, ovk] 36)).cell? ⟨w.heap.size, 0, none⟩ = some (.int .i64 4) := (ten_cells NF).1
  go_upto_region 14 with fail
  rw [hwf.out] at BF NF ⊢
  have MX := hide (HX.out.below BF.out)
  have hob : Hid (¬ own pb O rb V w.heap.size) := fun c => Nat.lt_irrefl _ (hlt.out _ c)
  have B0 : Hid (Bxs pb w.heap.size b rb ⟨4, os, on, ot, ov, oD, oo, onn, of, ofs, od, ovk, oks⟩ wf) := ⟨MX.out.box, NF⟩
  have KP : Hid (Bxs pb w.heap.size b rb ⟨4, os, on, ot, ov, oD, oo, onn, of, ofs, od, ovk, oks⟩ wf.drew) := B0.out.go (But.of_below (Below.refl _ _).drew fun _ => False) (fun c => c) (fun c => c)
  have PQ : Hid (PX wf.drew pb b rb S R O V) := MX.out.below (Below.refl _ _).drew
  have GQ : Hid (Below w.heap.size w wf.drew) := BF.out.drew
  clear c0 NF
  refine wp_region_T (fun q => Bxs pb w.heap.size b rb ⟨4, os, on, ot, ov, oD, oo, onn, of, ofs, od, ovk, oks⟩ q) 19 (by kernel_rfl) ?_
  generalize wf.drew = q at *
  refine Ix.tk 0 ⟨some 106, .move (.tmp 0), 37, "law.go:123", #[], none⟩ (.pointer (some ⟨pb, 0, none⟩)) [1,2,3,8,18,19] ?_ KP.out ?_
  · intro wq hSw; go_simp
  (try simp only [zzp, zza, zzb, zzc])
  refine Ix.tk 1 ⟨some 107, .nilCheck (.tmp 106), 0, "law.go:123", #[⟨0,.data⟩], none⟩ (.pointer (some ⟨pb, 0, none⟩)) [2,3,8,18,19] ?_ KP.out ?_
  · intro wq hSw; go_simp
  (try simp only [zzp, zza, zzb, zzc])
  refine Ix.tk 2 ⟨some 108, .fieldAddr 29 (.tmp 107) 0, 0, "law.go:123", #[⟨1,.data⟩], none⟩ (.pointer (some ⟨pb, 0, none⟩)) [3,8,18,19] ?_ KP.out ?_
  · intro wq hSw; go_simp
  (try simp only [zzp, zza, zzb, zzc])
  refine Ix.tk 3 ⟨some 109, .load 24 (.tmp 108), 24, "law.go:123", #[⟨2,.data⟩], none⟩ (.pointer (some ⟨b, 0, none⟩)) [8,18,19] ?_ KP.out ?_
  · intro wq hSw
    obtain ⟨x1, x2⟩ := two_cells hSw.p
    obtain ⟨y0, y1, y2, y3, y4, y5, y6, y7, y8, y9⟩ := ten_cells hSw.o
    go_simp
  (try simp only [zzp, zza, zzb, zzc])
  refine Ix.tk 4 ⟨some 110, .fieldAddr 36 (.tmp 3) 2, 0, "law.go:123", #[], none⟩ (.pointer (some ⟨w.heap.size, 2, none⟩)) [5,8,18,19] ?_ KP.out ?_
  · intro wq hSw; go_simp
  (try simp only [zzp, zza, zzb, zzc])
  refine Ix.tk 5 ⟨some 111, .load 9 (.tmp 110), 9, "law.go:123", #[⟨4,.data⟩], none⟩ (.string on) [8,18,19] ?_ KP.out ?_
  · intro wq hSw
    obtain ⟨x1, x2⟩ := two_cells hSw.p
    obtain ⟨y0, y1, y2, y3, y4, y5, y6, y7, y8, y9⟩ := ten_cells hSw.o
    go_simp
  (try simp only [zzp, zza, zzb, zzc])
  refine Ix.tk 6 ⟨some 112, .fieldAddr 36 (.tmp 3) 6, 0, "law.go:123", #[], none⟩ (.pointer (some ⟨w.heap.size, 6, none⟩)) [7,8,18,19] ?_ KP.out ?_
  · intro wq hSw; go_simp
  (try simp only [zzp, zza, zzb, zzc])
  refine Ix.tk 7 ⟨some 113, .load 3 (.tmp 112), 3, "law.go:123", #[⟨6,.data⟩], none⟩ (.int .i64 onn) [8,18,19] ?_ KP.out ?_
  · intro wq hSw
    obtain ⟨x1, x2⟩ := two_cells hSw.p
    obtain ⟨y0, y1, y2, y3, y4, y5, y6, y7, y8, y9⟩ := ten_cells hSw.o
    go_simp
  (try simp only [zzp, zza, zzb, zzc])
  refine Ix.tk 9 ⟨some 115, .move (.tmp 0), 37, "law.go:123", #[], none⟩ (.pointer (some ⟨pb, 0, none⟩)) [10,11,12,17,18,19] ?_ KP.out ?_
  · intro wq hSw; go_simp
  (try simp only [zzp, zza, zzb, zzc])
  refine Ix.tk 10 ⟨some 116, .nilCheck (.tmp 115), 0, "law.go:123", #[⟨9,.data⟩], none⟩ (.pointer (some ⟨pb, 0, none⟩)) [11,12,17,18,19] ?_ KP.out ?_
  · intro wq hSw; go_simp
  (try simp only [zzp, zza, zzb, zzc])
  refine Ix.tk 11 ⟨some 117, .fieldAddr 29 (.tmp 116) 1, 0, "law.go:123", #[⟨10,.data⟩], none⟩ (.pointer (some ⟨pb, 1, none⟩)) [12,17,18,19] ?_ KP.out ?_
  · intro wq hSw; go_simp
  (try simp only [zzp, zza, zzb, zzc])
  refine Ix.tk 12 ⟨some 118, .load 26 (.tmp 117), 26, "law.go:123", #[⟨11,.data⟩], none⟩ (.pointer (some ⟨rb, 0, none⟩)) [17,18,19] ?_ KP.out ?_
  · intro wq hSw
    obtain ⟨x1, x2⟩ := two_cells hSw.p
    obtain ⟨y0, y1, y2, y3, y4, y5, y6, y7, y8, y9⟩ := ten_cells hSw.o
    go_simp
  (try simp only [zzp, zza, zzb, zzc])
  refine Ix.tk 13 ⟨some 119, .fieldAddr 36 (.tmp 3) 2, 0, "law.go:123", #[], none⟩ (.pointer (some ⟨w.heap.size, 2, none⟩)) [14,17,18,19] ?_ KP.out ?_
  · intro wq hSw; go_simp
  (try simp only [zzp, zza, zzb, zzc])
  refine Ix.tk 14 ⟨some 120, .load 9 (.tmp 119), 9, "law.go:123", #[⟨13,.data⟩], none⟩ (.string on) [17,18,19] ?_ KP.out ?_
  · intro wq hSw
    obtain ⟨x1, x2⟩ := two_cells hSw.p
    obtain ⟨y0, y1, y2, y3, y4, y5, y6, y7, y8, y9⟩ := ten_cells hSw.o
    go_simp
  (try simp only [zzp, zza, zzb, zzc])
  refine Ix.tk 15 ⟨some 121, .fieldAddr 36 (.tmp 3) 6, 0, "law.go:123", #[], none⟩ (.pointer (some ⟨w.heap.size, 6, none⟩)) [16,17,18,19] ?_ KP.out ?_
  · intro wq hSw; go_simp
  (try simp only [zzp, zza, zzb, zzc])
  refine Ix.tk 16 ⟨some 122, .load 3 (.tmp 121), 3, "law.go:123", #[⟨15,.data⟩], none⟩ (.int .i64 onn) [17,18,19] ?_ KP.out ?_
  · intro wq hSw
    obtain ⟨x1, x2⟩ := two_cells hSw.p
    obtain ⟨y0, y1, y2, y3, y4, y5, y6, y7, y8, y9⟩ := ten_cells hSw.o
    go_simp
  (try simp only [zzp, zza, zzb, zzc])
  refine wpAnyT_one (i := 8) (o := ⟨some 114, .call { callee := .value (.func 49), args := #[.tmp 109, .tmp 111, .tmp 113], argTypes := #[24, 9, 3] }, 41, "law.go:123", #[⟨3, .data⟩, ⟨5, .data⟩, ⟨7, .data⟩], none⟩) (by kernel_rfl) rfl (fun K hK => ?_)
  go_simp
  go_at_call 49
  refine (hA.out q PQ.out).mono ?_
  rintro e w1 ⟨er, S1, O1, rfl, hs1, P1, G1⟩
  replace P1 := hide P1
  replace G1 := hide G1
  replace hs1 := hide hs1
  have K1 : Hid (Bxs pb w.heap.size b rb ⟨4, os, on, ot, ov, oD, oo, onn, of, ofs, od, ovk, oks⟩ w1) := ⟨P1.out.box, G1.out.but.at KP.out.o hob.out⟩
  (try go_simp)
  refine hK.out _ _ (fun _ => K1.out) ?_
  clear hK K
  (try simp only [zzp, zza, zzb, zzc])
  refine wpAnyT_one (i := 17) (o := ⟨some 123, .call { callee := .value (.func 50), args := #[.tmp 118, .tmp 120, .tmp 122], argTypes := #[26, 9, 3] }, 41, "law.go:123", #[⟨12, .data⟩, ⟨14, .data⟩, ⟨16, .data⟩, ⟨8, .chain⟩], none⟩) (by kernel_rfl) rfl (fun K hK => ?_)
  go_simp
  go_at_call 50
  refine (hB.out w1 S1 O1 P1.out).mono ?_
  rintro e w2 ⟨V2, rfl, P2, G2⟩
  replace P2 := hide P2
  replace G2 := hide G2
  have hob1 : ¬ own pb O1 rb V w.heap.size := fun c => (G1.out.own _ c).elim hob.out (fun c => by have := heap_lt KP.out.o; omega)
  have K2 : Hid (Bxs pb w.heap.size b rb ⟨4, os, on, ot, ov, oD, oo, onn, of, ofs, od, ovk, oks⟩ w2) := ⟨P2.out.box, G2.out.but.at K1.out.o hob1⟩
  (try go_simp)
  refine hK.out _ _ (fun _ => K2.out) ?_
  clear hK K
  (try simp only [zzp, zza, zzb, zzc])
  refine Ix.tk 18 ⟨some 124, .binOp .eql 41 (.tmp 114) (.tmp 123) 41, 4, "law.go:123", #[⟨8,.data⟩,⟨17,.data⟩], none⟩ (.bool (er == RR.2)) [19] ?_ K2.out ?_
  · intro wq hSw
    obtain ⟨x1, x2⟩ := two_cells hSw.p
    obtain ⟨y0, y1, y2, y3, y4, y5, y6, y7, y8, y9⟩ := ten_cells hSw.o
    go_simp
  (try simp only [zzp, zza, zzb, zzc])
  refine wpAnyT_one (i := 19) (o := ⟨some 4, .assign (.tmp 124), 4, "law.go:123", #[⟨18, .data⟩, ⟨17, .chain⟩, ⟨0, .phase⟩, ⟨1, .phase⟩, ⟨2, .phase⟩, ⟨3, .phase⟩, ⟨4, .phase⟩, ⟨5, .phase⟩, ⟨6, .phase⟩, ⟨7, .phase⟩, ⟨8, .phase⟩, ⟨9, .phase⟩, ⟨10, .phase⟩, ⟨11, .phase⟩, ⟨12, .phase⟩, ⟨13, .phase⟩, ⟨14, .phase⟩, ⟨15, .phase⟩, ⟨16, .phase⟩, ⟨17, .phase⟩, ⟨18, .phase⟩], none⟩) (by kernel_rfl) rfl (fun K hK => ?_)
  go_simp
  refine hK.out _ _ (vac (by kernel_rfl)) ?_
  clear hK K
  (try simp only [zzp, zza, zzb, zzc])
  refine wpAnyT_done (by kernel_rfl) ?_ _
  obtain ⟨bb, hbb⟩ : ∃ bb, Hid ((er == RR.2) = bb) := ⟨_, rfl⟩
  rw [hbb.out]
  go_wp2_with fail
  go_ret
  refine ⟨⟨bb, S1, _, b, rfl, by rw [hpR.out]; exact P2.out.toPW, ?_, hpS.out S1 ?_, fun hr => ?_, fun _ => rfl⟩⟩
  · have hG := (Sgo.of_below (O := own pb O rb V) GQ.out).trans (G1.out.trans G2.out)
    first | exact hG | (rw [hQ]; exact hG)
  · exact hs1.out.1
  · rw [← hbb.out]
    simpa using hRel.out er S1 hs1.out hr
set_option maxRecDepth 100000 in
set_option maxHeartbeats 2000000 in
theorem pl_rename (o : Dop) (hk : o.kind = 5) (h : PlI W0 w pb b S R o Q) : Calls Tryz.prog 11 #[.pointer (some ⟨pb, 0, none⟩), opV o] w (PlP w pb b S R o Q) := by
  obtain ⟨rb, O, V, hx, hQ⟩ := h.pw
  have hI := hide h
  have hpS : Hid (∀ S', S' = (S.rename o.nm o.tn).1 → DS.play S o S') := fun S' hs => by unfold DS.play; simp [hk, hs]
  have hpR : Hid (R.play o = (R.rename o.nm o.tn).1) := by show _ = _; unfold RB.play; simp [hk]
  have HX := hide hx
  have hA : Hid (∀ q, PX q pb b rb S R O V → Calls Tryz.prog 51 #[.pointer (some ⟨b, 0, none⟩), .string o.nm, .string o.tn] q fun e w' => ∃ er S' O', e = .returned (.int .i64 er) ∧ (S' = (S.rename o.nm o.tn).1 ∧ er = (S.rename o.nm o.tn).2) ∧ PX w' pb b rb S' R O' V ∧ Sgo q w' (own pb O rb V) (own pb O' rb V)) := fun q hq => by
    refine (rename_dsk hq.d o.nm o.tn (by have := hI.out.ok.nm; omega) (by have := hI.out.ok.tn; omega) (by have := hI.out.cs; omega)).mono ?_
    rintro e w' ⟨rfl, O', hd, hg⟩
    obtain ⟨px, gx⟩ := hq.stepA hd hg
    exact ⟨_, _, _, rfl, ⟨rfl, rfl⟩, px, gx⟩
  have hB : Hid (∀ q S' O', PX q pb b rb S' R O' V → Calls Tryz.prog 52 #[.pointer (some ⟨rb, 0, none⟩), .string o.nm, .string o.tn] q fun e w' => ∃ V', e = .returned (.int .i64 (R.rename o.nm o.tn).2) ∧ PX w' pb b rb S' (R.rename o.nm o.tn).1 O' V' ∧ Sgo q w' (own pb O' rb V) (own pb O' rb V')) := fun q S' O' hq => by
    refine (rename_rm hq.r hI.out.ri.ok (by have := hI.out.cr; omega) (by have := hI.out.ri.dlen; omega) (by have := hI.out.ri.cnt; have := hI.out.cr; omega) (findN_le hI.out.ri hI.out.cr) o.nm o.tn (by have := hI.out.ok.nm; unfold maxLen; omega) (by have := hI.out.ok.tn; unfold maxLen; omega)).mono ?_
    rintro e w' ⟨rfl, hg⟩
    obtain ⟨V', px, gx⟩ := hq.stepB hg
    exact ⟨V', rfl, px, gx⟩
  have hRel : Hid (∀ er S', (S' = (S.rename o.nm o.tn).1 ∧ er = (S.rename o.nm o.tn).2) → Rel S R → er = (R.rename o.nm o.tn).2) := fun er S' hs hr => by
    obtain ⟨_, rfl⟩ := hs; exact (hr.rename o.nm o.tn).2
  obtain ⟨RR, hRR⟩ : ∃ RR, Hid ((R.rename o.nm o.tn) = RR) := ⟨_, rfl⟩
  rw [hRR.out] at hB hRel hpR
  obtain ⟨ok, os, on, ot, ov, oD, oo, onn, of, ofs, od, ovk, oks⟩ := o
  dsimp only at hk hA hB hpS hRel
  subst hk
  have BF := hide (box_below w (.cells #[.int .i64 5, .bool os, .string on, .string ot, ov, .int .i64 oo, .int .i64 onn, of, .int .i64 od, ovk] 36))
  have NF := heap_alloc_new w (.cells #[.int .i64 5, .bool os, .string on, .string ot, ov, .int .i64 oo, .int .i64 onn, of, .int .i64 od, ovk] 36)
  have hlt := hide hx.lt
  clear hx
  unfold opV
  go_enter Tryz.func11, Tryz.ntmps11
  obtain ⟨wf, hwf⟩ : ∃ wf, Hid (w.alloc (.cells #[.int .i64 5, .bool os, .string on, .string ot, ov, .int .i64 oo, .int .i64 onn, of, .int .i64 od, ovk] 36) = wf) := ⟨_, rfl⟩
  have c0 : (w.alloc (.cells #[.int .i64 5, .bool os, .string on, .string ot, ov, .int .i64 oo, .int .i64 onn, of, .int .i64 od, ovk] 36)).cell? ⟨w.heap.size, 0, none⟩ = some (.int .i64 5) := (ten_cells NF).1
  go_upto_region 16 with fail
  rw [hwf.out] at BF NF ⊢
  have MX := hide (HX.out.below BF.out)
  have hob : Hid (¬ own pb O rb V w.heap.size) := fun c => Nat.lt_irrefl _ (hlt.out _ c)
  have B0 : Hid (Bxs pb w.heap.size b rb ⟨5, os, on, ot, ov, oD, oo, onn, of, ofs, od, ovk, oks⟩ wf) := ⟨MX.out.box, NF⟩
  have KP : Hid (Bxs pb w.heap.size b rb ⟨5, os, on, ot, ov, oD, oo, onn, of, ofs, od, ovk, oks⟩ wf.drew) := B0.out.go (But.of_below (Below.refl _ _).drew fun _ => False) (fun c => c) (fun c => c)
  have PQ : Hid (PX wf.drew pb b rb S R O V) := MX.out.below (Below.refl _ _).drew
  have GQ : Hid (Below w.heap.size w wf.drew) := BF.out.drew
  clear c0 NF
  refine wp_region_T (fun q => Bxs pb w.heap.size b rb ⟨5, os, on, ot, ov, oD, oo, onn, of, ofs, od, ovk, oks⟩ q) 19 (by kernel_rfl) ?_
  generalize wf.drew = q at *
  refine Ix.tk 0 ⟨some 127, .move (.tmp 0), 37, "law.go:125", #[], none⟩ (.pointer (some ⟨pb, 0, none⟩)) [1,2,3,8,18,19] ?_ KP.out ?_
  · intro wq hSw; go_simp
  (try simp only [zzp, zza, zzb, zzc])
  refine Ix.tk 1 ⟨some 128, .nilCheck (.tmp 127), 0, "law.go:125", #[⟨0,.data⟩], none⟩ (.pointer (some ⟨pb, 0, none⟩)) [2,3,8,18,19] ?_ KP.out ?_
  · intro wq hSw; go_simp
  (try simp only [zzp, zza, zzb, zzc])
  refine Ix.tk 2 ⟨some 129, .fieldAddr 29 (.tmp 128) 0, 0, "law.go:125", #[⟨1,.data⟩], none⟩ (.pointer (some ⟨pb, 0, none⟩)) [3,8,18,19] ?_ KP.out ?_
  · intro wq hSw; go_simp
  (try simp only [zzp, zza, zzb, zzc])
  refine Ix.tk 3 ⟨some 130, .load 24 (.tmp 129), 24, "law.go:125", #[⟨2,.data⟩], none⟩ (.pointer (some ⟨b, 0, none⟩)) [8,18,19] ?_ KP.out ?_
  · intro wq hSw
    obtain ⟨x1, x2⟩ := two_cells hSw.p
    obtain ⟨y0, y1, y2, y3, y4, y5, y6, y7, y8, y9⟩ := ten_cells hSw.o
    go_simp
  (try simp only [zzp, zza, zzb, zzc])
  refine Ix.tk 4 ⟨some 131, .fieldAddr 36 (.tmp 3) 2, 0, "law.go:125", #[], none⟩ (.pointer (some ⟨w.heap.size, 2, none⟩)) [5,8,18,19] ?_ KP.out ?_
  · intro wq hSw; go_simp
  (try simp only [zzp, zza, zzb, zzc])
  refine Ix.tk 5 ⟨some 132, .load 9 (.tmp 131), 9, "law.go:125", #[⟨4,.data⟩], none⟩ (.string on) [8,18,19] ?_ KP.out ?_
  · intro wq hSw
    obtain ⟨x1, x2⟩ := two_cells hSw.p
    obtain ⟨y0, y1, y2, y3, y4, y5, y6, y7, y8, y9⟩ := ten_cells hSw.o
    go_simp
  (try simp only [zzp, zza, zzb, zzc])
  refine Ix.tk 6 ⟨some 133, .fieldAddr 36 (.tmp 3) 3, 0, "law.go:125", #[], none⟩ (.pointer (some ⟨w.heap.size, 3, none⟩)) [7,8,18,19] ?_ KP.out ?_
  · intro wq hSw; go_simp
  (try simp only [zzp, zza, zzb, zzc])
  refine Ix.tk 7 ⟨some 134, .load 9 (.tmp 133), 9, "law.go:125", #[⟨6,.data⟩], none⟩ (.string ot) [8,18,19] ?_ KP.out ?_
  · intro wq hSw
    obtain ⟨x1, x2⟩ := two_cells hSw.p
    obtain ⟨y0, y1, y2, y3, y4, y5, y6, y7, y8, y9⟩ := ten_cells hSw.o
    go_simp
  (try simp only [zzp, zza, zzb, zzc])
  refine Ix.tk 9 ⟨some 136, .move (.tmp 0), 37, "law.go:125", #[], none⟩ (.pointer (some ⟨pb, 0, none⟩)) [10,11,12,17,18,19] ?_ KP.out ?_
  · intro wq hSw; go_simp
  (try simp only [zzp, zza, zzb, zzc])
  refine Ix.tk 10 ⟨some 137, .nilCheck (.tmp 136), 0, "law.go:125", #[⟨9,.data⟩], none⟩ (.pointer (some ⟨pb, 0, none⟩)) [11,12,17,18,19] ?_ KP.out ?_
  · intro wq hSw; go_simp
  (try simp only [zzp, zza, zzb, zzc])
  refine Ix.tk 11 ⟨some 138, .fieldAddr 29 (.tmp 137) 1, 0, "law.go:125", #[⟨10,.data⟩], none⟩ (.pointer (some ⟨pb, 1, none⟩)) [12,17,18,19] ?_ KP.out ?_
  · intro wq hSw; go_simp
  (try simp only [zzp, zza, zzb, zzc])
  refine Ix.tk 12 ⟨some 139, .load 26 (.tmp 138), 26, "law.go:125", #[⟨11,.data⟩], none⟩ (.pointer (some ⟨rb, 0, none⟩)) [17,18,19] ?_ KP.out ?_
  · intro wq hSw
    obtain ⟨x1, x2⟩ := two_cells hSw.p
    obtain ⟨y0, y1, y2, y3, y4, y5, y6, y7, y8, y9⟩ := ten_cells hSw.o
    go_simp
  (try simp only [zzp, zza, zzb, zzc])
  refine Ix.tk 13 ⟨some 140, .fieldAddr 36 (.tmp 3) 2, 0, "law.go:125", #[], none⟩ (.pointer (some ⟨w.heap.size, 2, none⟩)) [14,17,18,19] ?_ KP.out ?_
  · intro wq hSw; go_simp
  (try simp only [zzp, zza, zzb, zzc])
  refine Ix.tk 14 ⟨some 141, .load 9 (.tmp 140), 9, "law.go:125", #[⟨13,.data⟩], none⟩ (.string on) [17,18,19] ?_ KP.out ?_
  · intro wq hSw
    obtain ⟨x1, x2⟩ := two_cells hSw.p
    obtain ⟨y0, y1, y2, y3, y4, y5, y6, y7, y8, y9⟩ := ten_cells hSw.o
    go_simp
  (try simp only [zzp, zza, zzb, zzc])
  refine Ix.tk 15 ⟨some 142, .fieldAddr 36 (.tmp 3) 3, 0, "law.go:125", #[], none⟩ (.pointer (some ⟨w.heap.size, 3, none⟩)) [16,17,18,19] ?_ KP.out ?_
  · intro wq hSw; go_simp
  (try simp only [zzp, zza, zzb, zzc])
  refine Ix.tk 16 ⟨some 143, .load 9 (.tmp 142), 9, "law.go:125", #[⟨15,.data⟩], none⟩ (.string ot) [17,18,19] ?_ KP.out ?_
  · intro wq hSw
    obtain ⟨x1, x2⟩ := two_cells hSw.p
    obtain ⟨y0, y1, y2, y3, y4, y5, y6, y7, y8, y9⟩ := ten_cells hSw.o
    go_simp
  (try simp only [zzp, zza, zzb, zzc])
  refine wpAnyT_one (i := 8) (o := ⟨some 135, .call { callee := .value (.func 51), args := #[.tmp 130, .tmp 132, .tmp 134], argTypes := #[24, 9, 9] }, 41, "law.go:125", #[⟨3, .data⟩, ⟨5, .data⟩, ⟨7, .data⟩], none⟩) (by kernel_rfl) rfl (fun K hK => ?_)
  go_simp
  go_at_call 51
  refine (hA.out q PQ.out).mono ?_
  rintro e w1 ⟨er, S1, O1, rfl, hs1, P1, G1⟩
  replace P1 := hide P1
  replace G1 := hide G1
  replace hs1 := hide hs1
  have K1 : Hid (Bxs pb w.heap.size b rb ⟨5, os, on, ot, ov, oD, oo, onn, of, ofs, od, ovk, oks⟩ w1) := ⟨P1.out.box, G1.out.but.at KP.out.o hob.out⟩
  (try go_simp)
  refine hK.out _ _ (fun _ => K1.out) ?_
  clear hK K
  (try simp only [zzp, zza, zzb, zzc])
  refine wpAnyT_one (i := 17) (o := ⟨some 144, .call { callee := .value (.func 52), args := #[.tmp 139, .tmp 141, .tmp 143], argTypes := #[26, 9, 9] }, 41, "law.go:125", #[⟨12, .data⟩, ⟨14, .data⟩, ⟨16, .data⟩, ⟨8, .chain⟩], none⟩) (by kernel_rfl) rfl (fun K hK => ?_)
  go_simp
  go_at_call 52
  refine (hB.out w1 S1 O1 P1.out).mono ?_
  rintro e w2 ⟨V2, rfl, P2, G2⟩
  replace P2 := hide P2
  replace G2 := hide G2
  have hob1 : ¬ own pb O1 rb V w.heap.size := fun c => (G1.out.own _ c).elim hob.out (fun c => by have := heap_lt KP.out.o; omega)
  have K2 : Hid (Bxs pb w.heap.size b rb ⟨5, os, on, ot, ov, oD, oo, onn, of, ofs, od, ovk, oks⟩ w2) := ⟨P2.out.box, G2.out.but.at K1.out.o hob1⟩
  (try go_simp)
  refine hK.out _ _ (fun _ => K2.out) ?_
  clear hK K
  (try simp only [zzp, zza, zzb, zzc])
  refine Ix.tk 18 ⟨some 145, .binOp .eql 41 (.tmp 135) (.tmp 144) 41, 4, "law.go:125", #[⟨8,.data⟩,⟨17,.data⟩], none⟩ (.bool (er == RR.2)) [19] ?_ K2.out ?_
  · intro wq hSw
    obtain ⟨x1, x2⟩ := two_cells hSw.p
    obtain ⟨y0, y1, y2, y3, y4, y5, y6, y7, y8, y9⟩ := ten_cells hSw.o
    go_simp
  (try simp only [zzp, zza, zzb, zzc])
  refine wpAnyT_one (i := 19) (o := ⟨some 4, .assign (.tmp 145), 4, "law.go:125", #[⟨18, .data⟩, ⟨17, .chain⟩, ⟨0, .phase⟩, ⟨1, .phase⟩, ⟨2, .phase⟩, ⟨3, .phase⟩, ⟨4, .phase⟩, ⟨5, .phase⟩, ⟨6, .phase⟩, ⟨7, .phase⟩, ⟨8, .phase⟩, ⟨9, .phase⟩, ⟨10, .phase⟩, ⟨11, .phase⟩, ⟨12, .phase⟩, ⟨13, .phase⟩, ⟨14, .phase⟩, ⟨15, .phase⟩, ⟨16, .phase⟩, ⟨17, .phase⟩, ⟨18, .phase⟩], none⟩) (by kernel_rfl) rfl (fun K hK => ?_)
  go_simp
  refine hK.out _ _ (vac (by kernel_rfl)) ?_
  clear hK K
  (try simp only [zzp, zza, zzb, zzc])
  refine wpAnyT_done (by kernel_rfl) ?_ _
  obtain ⟨bb, hbb⟩ : ∃ bb, Hid ((er == RR.2) = bb) := ⟨_, rfl⟩
  rw [hbb.out]
  go_wp2_with fail
  go_ret
  refine ⟨⟨bb, S1, _, b, rfl, by rw [hpR.out]; exact P2.out.toPW, ?_, hpS.out S1 ?_, fun hr => ?_, fun _ => rfl⟩⟩
  · have hG := (Sgo.of_below (O := own pb O rb V) GQ.out).trans (G1.out.trans G2.out)
    first | exact hG | (rw [hQ]; exact hG)
  · exact hs1.out.1
  · rw [← hbb.out]
    simpa using hRel.out er S1 hs1.out hr
set_option maxRecDepth 100000 in
set_option maxHeartbeats 2000000 in
theorem pl_remove (o : Dop) (hk : o.kind = 6) (h : PlI W0 w pb b S R o Q) : Calls Tryz.prog 11 #[.pointer (some ⟨pb, 0, none⟩), opV o] w (PlP w pb b S R o Q) := by
  obtain ⟨rb, O, V, hx, hQ⟩ := h.pw
  have hI := hide h
  have hpS : Hid (∀ S', S' = (S.remove o.nm).1 → DS.play S o S') := fun S' hs => by unfold DS.play; simp [hk, hs]
  have hpR : Hid (R.play o = (R.remove o.nm).1) := by show _ = _; unfold RB.play; simp [hk]
  have HX := hide hx
  have hA : Hid (∀ q, PX q pb b rb S R O V → Calls Tryz.prog 53 #[.pointer (some ⟨b, 0, none⟩), .string o.nm] q fun e w' => ∃ er S' O', e = .returned (.int .i64 er) ∧ (S' = (S.remove o.nm).1 ∧ er = (S.remove o.nm).2) ∧ PX w' pb b rb S' R O' V ∧ Sgo q w' (own pb O rb V) (own pb O' rb V)) := fun q hq => by
    refine (remove_dsk hq.d o.nm (by have := hI.out.ok.nm; omega) (by have := hI.out.cs; omega)).mono ?_
    rintro e w' ⟨rfl, O', hd, hg⟩
    obtain ⟨px, gx⟩ := hq.stepA hd hg
    exact ⟨_, _, _, rfl, ⟨rfl, rfl⟩, px, gx⟩
  have hB : Hid (∀ q S' O', PX q pb b rb S' R O' V → Calls Tryz.prog 54 #[.pointer (some ⟨rb, 0, none⟩), .string o.nm] q fun e w' => ∃ V', e = .returned (.int .i64 (R.remove o.nm).2) ∧ PX w' pb b rb S' (R.remove o.nm).1 O' V' ∧ Sgo q w' (own pb O' rb V) (own pb O' rb V')) := fun q S' O' hq => by
    refine (remove_rm hq.r hI.out.ri.ok (by have := hI.out.cr; omega) (by have := hI.out.ri.dlen; omega) (by have := hI.out.ri.cnt; have := hI.out.cr; omega) o.nm (by have := hI.out.ok.nm; unfold maxLen; omega)).mono ?_
    rintro e w' ⟨rfl, hg⟩
    obtain ⟨V', px, gx⟩ := hq.stepB hg
    exact ⟨V', rfl, px, gx⟩
  have hRel : Hid (∀ er S', (S' = (S.remove o.nm).1 ∧ er = (S.remove o.nm).2) → Rel S R → er = (R.remove o.nm).2) := fun er S' hs hr => by
    obtain ⟨_, rfl⟩ := hs; exact (hr.remove o.nm).2
  obtain ⟨RR, hRR⟩ : ∃ RR, Hid ((R.remove o.nm) = RR) := ⟨_, rfl⟩
  rw [hRR.out] at hB hRel hpR
  obtain ⟨ok, os, on, ot, ov, oD, oo, onn, of, ofs, od, ovk, oks⟩ := o
  dsimp only at hk hA hB hpS hRel
  subst hk
  have BF := hide (box_below w (.cells #[.int .i64 6, .bool os, .string on, .string ot, ov, .int .i64 oo, .int .i64 onn, of, .int .i64 od, ovk] 36))
  have NF := heap_alloc_new w (.cells #[.int .i64 6, .bool os, .string on, .string ot, ov, .int .i64 oo, .int .i64 onn, of, .int .i64 od, ovk] 36)
  have hlt := hide hx.lt
  clear hx
  unfold opV
  go_enter Tryz.func11, Tryz.ntmps11
  obtain ⟨wf, hwf⟩ : ∃ wf, Hid (w.alloc (.cells #[.int .i64 6, .bool os, .string on, .string ot, ov, .int .i64 oo, .int .i64 onn, of, .int .i64 od, ovk] 36) = wf) := ⟨_, rfl⟩
  have c0 : (w.alloc (.cells #[.int .i64 6, .bool os, .string on, .string ot, ov, .int .i64 oo, .int .i64 onn, of, .int .i64 od, ovk] 36)).cell? ⟨w.heap.size, 0, none⟩ = some (.int .i64 6) := (ten_cells NF).1
  go_upto_region 18 with fail
  rw [hwf.out] at BF NF ⊢
  have MX := hide (HX.out.below BF.out)
  have hob : Hid (¬ own pb O rb V w.heap.size) := fun c => Nat.lt_irrefl _ (hlt.out _ c)
  have B0 : Hid (Bxs pb w.heap.size b rb ⟨6, os, on, ot, ov, oD, oo, onn, of, ofs, od, ovk, oks⟩ wf) := ⟨MX.out.box, NF⟩
  have KP : Hid (Bxs pb w.heap.size b rb ⟨6, os, on, ot, ov, oD, oo, onn, of, ofs, od, ovk, oks⟩ wf.drew) := B0.out.go (But.of_below (Below.refl _ _).drew fun _ => False) (fun c => c) (fun c => c)
  have PQ : Hid (PX wf.drew pb b rb S R O V) := MX.out.below (Below.refl _ _).drew
  have GQ : Hid (Below w.heap.size w wf.drew) := BF.out.drew
  clear c0 NF
  refine wp_region_T (fun q => Bxs pb w.heap.size b rb ⟨6, os, on, ot, ov, oD, oo, onn, of, ofs, od, ovk, oks⟩ q) 15 (by kernel_rfl) ?_
  generalize wf.drew = q at *
  refine Ix.tk 0 ⟨some 148, .move (.tmp 0), 37, "law.go:127", #[], none⟩ (.pointer (some ⟨pb, 0, none⟩)) [1,2,3,6,14,15] ?_ KP.out ?_
  · intro wq hSw; go_simp
  (try simp only [zzp, zza, zzb, zzc])
  refine Ix.tk 1 ⟨some 149, .nilCheck (.tmp 148), 0, "law.go:127", #[⟨0,.data⟩], none⟩ (.pointer (some ⟨pb, 0, none⟩)) [2,3,6,14,15] ?_ KP.out ?_
  · intro wq hSw; go_simp
  (try simp only [zzp, zza, zzb, zzc])
  refine Ix.tk 2 ⟨some 150, .fieldAddr 29 (.tmp 149) 0, 0, "law.go:127", #[⟨1,.data⟩], none⟩ (.pointer (some ⟨pb, 0, none⟩)) [3,6,14,15] ?_ KP.out ?_
  · intro wq hSw; go_simp
  (try simp only [zzp, zza, zzb, zzc])
  refine Ix.tk 3 ⟨some 151, .load 24 (.tmp 150), 24, "law.go:127", #[⟨2,.data⟩], none⟩ (.pointer (some ⟨b, 0, none⟩)) [6,14,15] ?_ KP.out ?_
  · intro wq hSw
    obtain ⟨x1, x2⟩ := two_cells hSw.p
    obtain ⟨y0, y1, y2, y3, y4, y5, y6, y7, y8, y9⟩ := ten_cells hSw.o
    go_simp
  (try simp only [zzp, zza, zzb, zzc])
  refine Ix.tk 4 ⟨some 152, .fieldAddr 36 (.tmp 3) 2, 0, "law.go:127", #[], none⟩ (.pointer (some ⟨w.heap.size, 2, none⟩)) [5,6,14,15] ?_ KP.out ?_
  · intro wq hSw; go_simp
  (try simp only [zzp, zza, zzb, zzc])
  refine Ix.tk 5 ⟨some 153, .load 9 (.tmp 152), 9, "law.go:127", #[⟨4,.data⟩], none⟩ (.string on) [6,14,15] ?_ KP.out ?_
  · intro wq hSw
    obtain ⟨x1, x2⟩ := two_cells hSw.p
    obtain ⟨y0, y1, y2, y3, y4, y5, y6, y7, y8, y9⟩ := ten_cells hSw.o
    go_simp
  (try simp only [zzp, zza, zzb, zzc])
  refine Ix.tk 7 ⟨some 155, .move (.tmp 0), 37, "law.go:127", #[], none⟩ (.pointer (some ⟨pb, 0, none⟩)) [8,9,10,13,14,15] ?_ KP.out ?_
  · intro wq hSw; go_simp
  (try simp only [zzp, zza, zzb, zzc])
  refine Ix.tk 8 ⟨some 156, .nilCheck (.tmp 155), 0, "law.go:127", #[⟨7,.data⟩], none⟩ (.pointer (some ⟨pb, 0, none⟩)) [9,10,13,14,15] ?_ KP.out ?_
  · intro wq hSw; go_simp
  (try simp only [zzp, zza, zzb, zzc])
  refine Ix.tk 9 ⟨some 157, .fieldAddr 29 (.tmp 156) 1, 0, "law.go:127", #[⟨8,.data⟩], none⟩ (.pointer (some ⟨pb, 1, none⟩)) [10,13,14,15] ?_ KP.out ?_
  · intro wq hSw; go_simp
  (try simp only [zzp, zza, zzb, zzc])
  refine Ix.tk 10 ⟨some 158, .load 26 (.tmp 157), 26, "law.go:127", #[⟨9,.data⟩], none⟩ (.pointer (some ⟨rb, 0, none⟩)) [13,14,15] ?_ KP.out ?_
  · intro wq hSw
    obtain ⟨x1, x2⟩ := two_cells hSw.p
    obtain ⟨y0, y1, y2, y3, y4, y5, y6, y7, y8, y9⟩ := ten_cells hSw.o
    go_simp
  (try simp only [zzp, zza, zzb, zzc])
  refine Ix.tk 11 ⟨some 159, .fieldAddr 36 (.tmp 3) 2, 0, "law.go:127", #[], none⟩ (.pointer (some ⟨w.heap.size, 2, none⟩)) [12,13,14,15] ?_ KP.out ?_
  · intro wq hSw; go_simp
  (try simp only [zzp, zza, zzb, zzc])
  refine Ix.tk 12 ⟨some 160, .load 9 (.tmp 159), 9, "law.go:127", #[⟨11,.data⟩], none⟩ (.string on) [13,14,15] ?_ KP.out ?_
  · intro wq hSw
    obtain ⟨x1, x2⟩ := two_cells hSw.p
    obtain ⟨y0, y1, y2, y3, y4, y5, y6, y7, y8, y9⟩ := ten_cells hSw.o
    go_simp
  (try simp only [zzp, zza, zzb, zzc])
  refine wpAnyT_one (i := 6) (o := ⟨some 154, .call { callee := .value (.func 53), args := #[.tmp 151, .tmp 153], argTypes := #[24, 9] }, 41, "law.go:127", #[⟨3, .data⟩, ⟨5, .data⟩], none⟩) (by kernel_rfl) rfl (fun K hK => ?_)
  go_simp
  go_at_call 53
  refine (hA.out q PQ.out).mono ?_
  rintro e w1 ⟨er, S1, O1, rfl, hs1, P1, G1⟩
  replace P1 := hide P1
  replace G1 := hide G1
  replace hs1 := hide hs1
  have K1 : Hid (Bxs pb w.heap.size b rb ⟨6, os, on, ot, ov, oD, oo, onn, of, ofs, od, ovk, oks⟩ w1) := ⟨P1.out.box, G1.out.but.at KP.out.o hob.out⟩
  (try go_simp)
  refine hK.out _ _ (fun _ => K1.out) ?_
  clear hK K
  (try simp only [zzp, zza, zzb, zzc])
  refine wpAnyT_one (i := 13) (o := ⟨some 161, .call { callee := .value (.func 54), args := #[.tmp 158, .tmp 160], argTypes := #[26, 9] }, 41, "law.go:127", #[⟨10, .data⟩, ⟨12, .data⟩, ⟨6, .chain⟩], none⟩) (by kernel_rfl) rfl (fun K hK => ?_)
  go_simp
  go_at_call 54
  refine (hB.out w1 S1 O1 P1.out).mono ?_
  rintro e w2 ⟨V2, rfl, P2, G2⟩
  replace P2 := hide P2
  replace G2 := hide G2
  have hob1 : ¬ own pb O1 rb V w.heap.size := fun c => (G1.out.own _ c).elim hob.out (fun c => by have := heap_lt KP.out.o; omega)
  have K2 : Hid (Bxs pb w.heap.size b rb ⟨6, os, on, ot, ov, oD, oo, onn, of, ofs, od, ovk, oks⟩ w2) := ⟨P2.out.box, G2.out.but.at K1.out.o hob1⟩
  (try go_simp)
  refine hK.out _ _ (fun _ => K2.out) ?_
  clear hK K
  (try simp only [zzp, zza, zzb, zzc])
  refine Ix.tk 14 ⟨some 162, .binOp .eql 41 (.tmp 154) (.tmp 161) 41, 4, "law.go:127", #[⟨6,.data⟩,⟨13,.data⟩], none⟩ (.bool (er == RR.2)) [15] ?_ K2.out ?_
  · intro wq hSw
    obtain ⟨x1, x2⟩ := two_cells hSw.p
    obtain ⟨y0, y1, y2, y3, y4, y5, y6, y7, y8, y9⟩ := ten_cells hSw.o
    go_simp
  (try simp only [zzp, zza, zzb, zzc])
  refine wpAnyT_one (i := 15) (o := ⟨some 4, .assign (.tmp 162), 4, "law.go:127", #[⟨14, .data⟩, ⟨13, .chain⟩, ⟨0, .phase⟩, ⟨1, .phase⟩, ⟨2, .phase⟩, ⟨3, .phase⟩, ⟨4, .phase⟩, ⟨5, .phase⟩, ⟨6, .phase⟩, ⟨7, .phase⟩, ⟨8, .phase⟩, ⟨9, .phase⟩, ⟨10, .phase⟩, ⟨11, .phase⟩, ⟨12, .phase⟩, ⟨13, .phase⟩, ⟨14, .phase⟩], none⟩) (by kernel_rfl) rfl (fun K hK => ?_)
  go_simp
  refine hK.out _ _ (vac (by kernel_rfl)) ?_
  clear hK K
  (try simp only [zzp, zza, zzb, zzc])
  refine wpAnyT_done (by kernel_rfl) ?_ _
  obtain ⟨bb, hbb⟩ : ∃ bb, Hid ((er == RR.2) = bb) := ⟨_, rfl⟩
  rw [hbb.out]
  go_wp2_with fail
  go_ret
  refine ⟨⟨bb, S1, _, b, rfl, by rw [hpR.out]; exact P2.out.toPW, ?_, hpS.out S1 ?_, fun hr => ?_, fun _ => rfl⟩⟩
  · have hG := (Sgo.of_below (O := own pb O rb V) GQ.out).trans (G1.out.trans G2.out)
    first | exact hG | (rw [hQ]; exact hG)
  · exact hs1.out.1
  · rw [← hbb.out]
    simpa using hRel.out er S1 hs1.out hr
set_option maxRecDepth 100000 in
set_option maxHeartbeats 2000000 in
theorem pl_syncDir (o : Dop) (hk : o.kind = 7) (h : PlI W0 w pb b S R o Q) : Calls Tryz.prog 11 #[.pointer (some ⟨pb, 0, none⟩), opV o] w (PlP w pb b S R o Q) := by
  obtain ⟨rb, O, V, hx, hQ⟩ := h.pw
  have hI := hide h
  have hpS : Hid (∀ S', S' = (S.syncDir).1 → DS.play S o S') := fun S' hs => by unfold DS.play; simp [hk, hs]
  have hpR : Hid (R.play o = (R.syncDir).1) := by show _ = _; unfold RB.play; simp [hk]
  have HX := hide hx
  have hA : Hid (∀ q, PX q pb b rb S R O V → Calls Tryz.prog 15 #[.pointer (some ⟨b, 0, none⟩)] q fun e w' => ∃ er S' O', e = .returned (.int .i64 er) ∧ (S' = (S.syncDir).1 ∧ er = (S.syncDir).2) ∧ PX w' pb b rb S' R O' V ∧ Sgo q w' (own pb O rb V) (own pb O' rb V)) := fun q hq => by
    refine (syncDir_dsk hq.d (by have := hI.out.cs; omega)).mono ?_
    rintro e w' ⟨rfl, O', hd, hg⟩
    obtain ⟨px, gx⟩ := hq.stepA hd hg
    exact ⟨_, _, _, rfl, ⟨rfl, rfl⟩, px, gx⟩
  have hB : Hid (∀ q S' O', PX q pb b rb S' R O' V → Calls Tryz.prog 55 #[.pointer (some ⟨rb, 0, none⟩)] q fun e w' => ∃ V', e = .returned (.int .i64 (R.syncDir).2) ∧ PX w' pb b rb S' (R.syncDir).1 O' V' ∧ Sgo q w' (own pb O' rb V) (own pb O' rb V')) := fun q S' O' hq => by
    refine (syncDir_rm hq.r hI.out.ri.ok (by have := hI.out.cr; omega) (by have := hI.out.ri.dlen; omega)).mono ?_
    rintro e w' ⟨rfl, hg⟩
    obtain ⟨V', px, gx⟩ := hq.stepB hg
    exact ⟨V', rfl, px, gx⟩
  have hRel : Hid (∀ er S', (S' = (S.syncDir).1 ∧ er = (S.syncDir).2) → Rel S R → er = (R.syncDir).2) := fun er S' hs hr => by
    obtain ⟨_, rfl⟩ := hs; exact (hr.syncDir).2
  obtain ⟨RR, hRR⟩ : ∃ RR, Hid ((R.syncDir) = RR) := ⟨_, rfl⟩
  rw [hRR.out] at hB hRel hpR
  obtain ⟨ok, os, on, ot, ov, oD, oo, onn, of, ofs, od, ovk, oks⟩ := o
  dsimp only at hk hA hB hpS hRel
  subst hk
  have BF := hide (box_below w (.cells #[.int .i64 7, .bool os, .string on, .string ot, ov, .int .i64 oo, .int .i64 onn, of, .int .i64 od, ovk] 36))
  have NF := heap_alloc_new w (.cells #[.int .i64 7, .bool os, .string on, .string ot, ov, .int .i64 oo, .int .i64 onn, of, .int .i64 od, ovk] 36)
  have hlt := hide hx.lt
  clear hx
  unfold opV
  go_enter Tryz.func11, Tryz.ntmps11
  obtain ⟨wf, hwf⟩ : ∃ wf, Hid (w.alloc (.cells #[.int .i64 7, .bool os, .string on, .string ot, ov, .int .i64 oo, .int .i64 onn, of, .int .i64 od, ovk] 36) = wf) := ⟨_, rfl⟩
  have c0 : (w.alloc (.cells #[.int .i64 7, .bool os, .string on, .string ot, ov, .int .i64 oo, .int .i64 onn, of, .int .i64 od, ovk] 36)).cell? ⟨w.heap.size, 0, none⟩ = some (.int .i64 7) := (ten_cells NF).1
  go_upto_region 20 with fail
  rw [hwf.out] at BF NF ⊢
  have MX := hide (HX.out.below BF.out)
  have hob : Hid (¬ own pb O rb V w.heap.size) := fun c => Nat.lt_irrefl _ (hlt.out _ c)
  have B0 : Hid (Bxs pb w.heap.size b rb ⟨7, os, on, ot, ov, oD, oo, onn, of, ofs, od, ovk, oks⟩ wf) := ⟨MX.out.box, NF⟩
  have KP : Hid (Bxs pb w.heap.size b rb ⟨7, os, on, ot, ov, oD, oo, onn, of, ofs, od, ovk, oks⟩ wf.drew) := B0.out.go (But.of_below (Below.refl _ _).drew fun _ => False) (fun c => c) (fun c => c)
  have PQ : Hid (PX wf.drew pb b rb S R O V) := MX.out.below (Below.refl _ _).drew
  have GQ : Hid (Below w.heap.size w wf.drew) := BF.out.drew
  clear c0 NF
  refine wp_region_T (fun q => Bxs pb w.heap.size b rb ⟨7, os, on, ot, ov, oD, oo, onn, of, ofs, od, ovk, oks⟩ q) 11 (by kernel_rfl) ?_
  generalize wf.drew = q at *
  refine Ix.tk 0 ⟨some 165, .move (.tmp 0), 37, "law.go:129", #[], none⟩ (.pointer (some ⟨pb, 0, none⟩)) [1,2,3,4,10,11] ?_ KP.out ?_
  · intro wq hSw; go_simp
  (try simp only [zzp, zza, zzb, zzc])
  refine Ix.tk 1 ⟨some 166, .nilCheck (.tmp 165), 0, "law.go:129", #[⟨0,.data⟩], none⟩ (.pointer (some ⟨pb, 0, none⟩)) [2,3,4,10,11] ?_ KP.out ?_
  · intro wq hSw; go_simp
  (try simp only [zzp, zza, zzb, zzc])
  refine Ix.tk 2 ⟨some 167, .fieldAddr 29 (.tmp 166) 0, 0, "law.go:129", #[⟨1,.data⟩], none⟩ (.pointer (some ⟨pb, 0, none⟩)) [3,4,10,11] ?_ KP.out ?_
  · intro wq hSw; go_simp
  (try simp only [zzp, zza, zzb, zzc])
  refine Ix.tk 3 ⟨some 168, .load 24 (.tmp 167), 24, "law.go:129", #[⟨2,.data⟩], none⟩ (.pointer (some ⟨b, 0, none⟩)) [4,10,11] ?_ KP.out ?_
  · intro wq hSw
    obtain ⟨x1, x2⟩ := two_cells hSw.p
    obtain ⟨y0, y1, y2, y3, y4, y5, y6, y7, y8, y9⟩ := ten_cells hSw.o
    go_simp
  (try simp only [zzp, zza, zzb, zzc])
  refine Ix.tk 5 ⟨some 170, .move (.tmp 0), 37, "law.go:129", #[], none⟩ (.pointer (some ⟨pb, 0, none⟩)) [6,7,8,9,10,11] ?_ KP.out ?_
  · intro wq hSw; go_simp
  (try simp only [zzp, zza, zzb, zzc])
  refine Ix.tk 6 ⟨some 171, .nilCheck (.tmp 170), 0, "law.go:129", #[⟨5,.data⟩], none⟩ (.pointer (some ⟨pb, 0, none⟩)) [7,8,9,10,11] ?_ KP.out ?_
  · intro wq hSw; go_simp
  (try simp only [zzp, zza, zzb, zzc])
  refine Ix.tk 7 ⟨some 172, .fieldAddr 29 (.tmp 171) 1, 0, "law.go:129", #[⟨6,.data⟩], none⟩ (.pointer (some ⟨pb, 1, none⟩)) [8,9,10,11] ?_ KP.out ?_
  · intro wq hSw; go_simp
  (try simp only [zzp, zza, zzb, zzc])
  refine Ix.tk 8 ⟨some 173, .load 26 (.tmp 172), 26, "law.go:129", #[⟨7,.data⟩], none⟩ (.pointer (some ⟨rb, 0, none⟩)) [9,10,11] ?_ KP.out ?_
  · intro wq hSw
    obtain ⟨x1, x2⟩ := two_cells hSw.p
    obtain ⟨y0, y1, y2, y3, y4, y5, y6, y7, y8, y9⟩ := ten_cells hSw.o
    go_simp
  (try simp only [zzp, zza, zzb, zzc])
  refine wpAnyT_one (i := 4) (o := ⟨some 169, .call { callee := .value (.func 15), args := #[.tmp 168], argTypes := #[24] }, 41, "law.go:129", #[⟨3, .data⟩], none⟩) (by kernel_rfl) rfl (fun K hK => ?_)
  go_simp
  go_at_call 15
  refine (hA.out q PQ.out).mono ?_
  rintro e w1 ⟨er, S1, O1, rfl, hs1, P1, G1⟩
  replace P1 := hide P1
  replace G1 := hide G1
  replace hs1 := hide hs1
  have K1 : Hid (Bxs pb w.heap.size b rb ⟨7, os, on, ot, ov, oD, oo, onn, of, ofs, od, ovk, oks⟩ w1) := ⟨P1.out.box, G1.out.but.at KP.out.o hob.out⟩
  (try go_simp)
  refine hK.out _ _ (fun _ => K1.out) ?_
  clear hK K
  (try simp only [zzp, zza, zzb, zzc])
  refine wpAnyT_one (i := 9) (o := ⟨some 174, .call { callee := .value (.func 55), args := #[.tmp 173], argTypes := #[26] }, 41, "law.go:129", #[⟨8, .data⟩, ⟨4, .chain⟩], none⟩) (by kernel_rfl) rfl (fun K hK => ?_)
  go_simp
  go_at_call 55
  refine (hB.out w1 S1 O1 P1.out).mono ?_
  rintro e w2 ⟨V2, rfl, P2, G2⟩
  replace P2 := hide P2
  replace G2 := hide G2
  have hob1 : ¬ own pb O1 rb V w.heap.size := fun c => (G1.out.own _ c).elim hob.out (fun c => by have := heap_lt KP.out.o; omega)
  have K2 : Hid (Bxs pb w.heap.size b rb ⟨7, os, on, ot, ov, oD, oo, onn, of, ofs, od, ovk, oks⟩ w2) := ⟨P2.out.box, G2.out.but.at K1.out.o hob1⟩
  (try go_simp)
  refine hK.out _ _ (fun _ => K2.out) ?_
  clear hK K
  (try simp only [zzp, zza, zzb, zzc])
  refine Ix.tk 10 ⟨some 175, .binOp .eql 41 (.tmp 169) (.tmp 174) 41, 4, "law.go:129", #[⟨4,.data⟩,⟨9,.data⟩], none⟩ (.bool (er == RR.2)) [11] ?_ K2.out ?_
  · intro wq hSw
    obtain ⟨x1, x2⟩ := two_cells hSw.p
    obtain ⟨y0, y1, y2, y3, y4, y5, y6, y7, y8, y9⟩ := ten_cells hSw.o
    go_simp
  (try simp only [zzp, zza, zzb, zzc])
  refine wpAnyT_one (i := 11) (o := ⟨some 4, .assign (.tmp 175), 4, "law.go:129", #[⟨10, .data⟩, ⟨9, .chain⟩, ⟨0, .phase⟩, ⟨1, .phase⟩, ⟨2, .phase⟩, ⟨3, .phase⟩, ⟨4, .phase⟩, ⟨5, .phase⟩, ⟨6, .phase⟩, ⟨7, .phase⟩, ⟨8, .phase⟩, ⟨9, .phase⟩, ⟨10, .phase⟩], none⟩) (by kernel_rfl) rfl (fun K hK => ?_)
  go_simp
  refine hK.out _ _ (vac (by kernel_rfl)) ?_
  clear hK K
  (try simp only [zzp, zza, zzb, zzc])
  refine wpAnyT_done (by kernel_rfl) ?_ _
  obtain ⟨bb, hbb⟩ : ∃ bb, Hid ((er == RR.2) = bb) := ⟨_, rfl⟩
  rw [hbb.out]
  go_wp2_with fail
  go_ret
  refine ⟨⟨bb, S1, _, b, rfl, by rw [hpR.out]; exact P2.out.toPW, ?_, hpS.out S1 ?_, fun hr => ?_, fun _ => rfl⟩⟩
  · have hG := (Sgo.of_below (O := own pb O rb V) GQ.out).trans (G1.out.trans G2.out)
    first | exact hG | (rw [hQ]; exact hG)
  · exact hs1.out.1
  · rw [← hbb.out]
    simpa using hRel.out er S1 hs1.out hr
end Go.Proofs.YtjehpijjneghpaaGreat.Re
