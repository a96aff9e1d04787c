/-
  Plays: Arm, Tails, and what is no call.
-/
import Derived.Test.YtjehpijjneghpaaGreatM35
import Derived.Test.YtjehpijjneghpaaGreatM36
import Derived.Test.YtjehpijjneghpaaGreatM34
import Derived.Test.YtjehpijjneghpaaGreatM37
namespace Go.Proofs.YtjehpijjneghpaaGreat.Re
open Go.RowKit Go.Maps Go.Sort Go.Shelf Go.Proofs.YtjehpijjneghpaaGreat.Nm Go.Proofs.YtjehpijjneghpaaGreat.Dk
open Ix (wp_region_T wpAnyT wpAnyT_take wpAnyT_one wpAnyT_done vac)
set_option linter.unusedVariables false
variable {W0 w : World} {pb b : Nat} {S : DS} {R : RB} {Q : Nat → Prop}
theorem arm_dskE {O : Nat → Prop} (h : DskE w b S O) (hc : S.c7 < 900000000) (v : Value) (fs : List Ft) (hv : Fts w v fs) (h4 : ∀ t ∈ fs, t.2.1 ≠ 4) : Calls Tryz.prog 59 #[.pointer (some ⟨b, 0, none⟩), v] w (Does w b O (S.arm fs)) := by obtain ⟨f, g, pd, am, VB, VL, hd⟩ := h; exact arm_any hd hc v fs hv h4
theorem tails_dskE {O : Nat → Prop} (h : DskE w b S O) (hc : S.c7 < 1000000000) (n : Int) (n0 : -9223372036854775808 ≤ n) (n1 : n ≤ 9223372036854775807) : Calls Tryz.prog 27 #[.pointer (some ⟨b, 0, none⟩), .int .i64 n] w fun e w' => ∃ v, e = .returned v ∧ Tl w.heap.size w' v (S.tails n) ∧ Below w.heap.size w w' := by obtain ⟨f, g, pd, am, VB, VL, hd⟩ := h; exact tails_any hd hc n n0 n1
theorem arm_rmE {V : RV} (h : RM w b R V) (v : Value) (fs : List Ft) (hv : w.ownsRow 0 118 3 v fs.length (acells fs)) : Calls Tryz.prog 60 #[.pointer (some ⟨b, 0, none⟩), v] w fun e w' => e = .returned (.int .i64 (R.arm fs).2) ∧ Rgo w w' b V (R.arm fs).1 := by
  refine (arm_rm h v fs (fts_of hv) (fun n c e => ?_)).mono ?_
  · rcases hv.2 with ⟨e2, _⟩ | ⟨g, cap, cur, e2, _⟩
    · rw [e2] at e; simp only [Value.slice.injEq] at e; omega
    · rw [e2] at e; simp at e
  · rintro e w' ⟨R', er, rfl, hh⟩
    obtain ⟨h1, h2, h3⟩ := hh.out
    unfold RB.arm
    by_cases hc : fs.length ≤ 64 ∧ MayL fs fs.length
    · rw [if_pos hc]; obtain ⟨rfl, rfl⟩ := h2 hc; exact ⟨rfl, h1⟩
    · rw [if_neg hc]; obtain ⟨rfl, rfl⟩ := h3 hc; exact ⟨rfl, h1⟩
set_option maxRecDepth 100000 in
set_option maxHeartbeats 2000000 in
theorem pl_arm (o : Dop) (hk : o.kind = 9) (h : PlI W0 w pb b S R o Q) : Calls Tryz.prog 11 #[.pointer (some ⟨pb, 0, none⟩), opV o] w (PlP w pb b S R o Q) := by
  obtain ⟨rb, O, V, hx, hQ⟩ := h.pw
  have hI := hide h
  have HX := hide hx
  have hlt := hide hx.lt
  have hpR : Hid (R.play o = (R.arm (calm o.fs)).1) := by show _ = _; unfold RB.play; simp [hk]
  have hpS : Hid (DS.play S o (S.arm (calm o.fs)).1) := by show DS.play S o _; unfold DS.play; simp [hk]
  have hCa : Hid (∀ q, Below w.heap.size w q → Calls Tryz.prog 58 #[o.vf] q fun e w' => ∃ v', e = .returned v' ∧ w'.ownsRow q.heap.size 118 3 v' (calm o.fs).length (acells (calm o.fs)) ∧ Below q.heap.size q w') := fun q hq => calm_any q _ _ ((h.ok.fs.below h.bel).below hq) h.ok.fsl
  have hA : Hid (∀ q v, q.ownsRow 0 118 3 v (calm o.fs).length (acells (calm o.fs)) → PX q pb b rb S R O V → Calls Tryz.prog 59 #[.pointer (some ⟨b, 0, none⟩), v] q fun e w' => ∃ O', e = .returned (.int .i64 (S.arm (calm o.fs)).2) ∧ PX w' pb b rb (S.arm (calm o.fs)).1 R O' V ∧ Sgo q w' (own pb O rb V) (own pb O' rb V)) := fun q v hv hq => by
    refine (arm_dskE hq.d (by have := hI.out.cs; omega) v _ (fts_of hv) (calm_no4 _)).mono ?_
    rintro e w' ⟨rfl, O', hd, hg⟩
    obtain ⟨px, gx⟩ := hq.stepA hd hg
    exact ⟨O', rfl, px, gx⟩
  have hB : Hid (∀ q v S' O', q.ownsRow 0 118 3 v (calm o.fs).length (acells (calm o.fs)) → PX q pb b rb S' R O' V → Calls Tryz.prog 60 #[.pointer (some ⟨rb, 0, none⟩), v] q fun e w' => ∃ V', e = .returned (.int .i64 (R.arm (calm o.fs)).2) ∧ PX w' pb b rb S' (R.arm (calm o.fs)).1 O' V' ∧ Sgo q w' (own pb O' rb V) (own pb O' rb V')) := fun q v S' O' hv hq => by
    refine (arm_rmE hq.r v _ hv).mono ?_
    rintro e w' ⟨rfl, hg⟩
    obtain ⟨V', px, gx⟩ := hq.stepB hg
    exact ⟨V', rfl, px, gx⟩
  have hRel : Hid (Rel S R → (S.arm (calm o.fs)).2 = (R.arm (calm o.fs)).2) := fun hr => (hr.armed _ (calm_no4 _)).2
  obtain ⟨RS, hRS⟩ : ∃ RS, Hid (S.arm (calm o.fs) = RS) := ⟨_, rfl⟩
  obtain ⟨RR, hRR⟩ : ∃ RR, Hid (R.arm (calm o.fs) = RR) := ⟨_, rfl⟩
  rw [hRS.out] at hA hRel hpS
  rw [hRR.out] at hB hRel hpR
  have hfs := h.ok.fs
  clear hRS hRR
  generalize calm o.fs = cf at *
  obtain ⟨ok, os, on, ot, ov, oD, oo, onn, of, ofs, od, ovk, oks⟩ := o
  dsimp only at *
  subst hk
  obtain ⟨fa, fc, rfl, _, _, _⟩ := hfs
  have BF := hide (box_below w (.cells #[.int .i64 9, .bool os, .string on, .string ot, ov, .int .i64 oo, .int .i64 onn, .slice fa ofs.length fc, .int .i64 od, ovk] 36))
  have NF := heap_alloc_new w (.cells #[.int .i64 9, .bool os, .string on, .string ot, ov, .int .i64 oo, .int .i64 onn, .slice fa ofs.length fc, .int .i64 od, ovk] 36)
  clear hx h
  unfold opV
  go_enter Tryz.func11, Tryz.ntmps11
  obtain ⟨wf, hwf⟩ : ∃ wf, Hid (w.alloc (.cells #[.int .i64 9, .bool os, .string on, .string ot, ov, .int .i64 oo, .int .i64 onn, .slice fa ofs.length fc, .int .i64 od, ovk] 36) = wf) := ⟨_, rfl⟩
  have c0 : (w.alloc (.cells #[.int .i64 9, .bool os, .string on, .string ot, ov, .int .i64 oo, .int .i64 onn, .slice fa ofs.length fc, .int .i64 od, ovk] 36)).cell? ⟨w.heap.size, 0, none⟩ = some (.int .i64 9) := (ten_cells NF).1
  have c4 : (w.alloc (.cells #[.int .i64 9, .bool os, .string on, .string ot, ov, .int .i64 oo, .int .i64 onn, .slice fa ofs.length fc, .int .i64 od, ovk] 36)).cell? ⟨w.heap.size, 4, none⟩ = some (ov) := (ten_cells NF).2.2.2.2.1
  have c7 : (w.alloc (.cells #[.int .i64 9, .bool os, .string on, .string ot, ov, .int .i64 oo, .int .i64 onn, .slice fa ofs.length fc, .int .i64 od, ovk] 36)).cell? ⟨w.heap.size, 7, none⟩ = some (.slice fa ofs.length fc) := (ten_cells NF).2.2.2.2.2.2.2.1
  have BFo := BF.out
  go_upto_region 29 with (go_at_call 58; refine (hCa.out _ BFo).mono ?_; rintro e wl ⟨cv, rfl, CR, LB⟩; replace CR := hide CR; replace LB := hide LB)
  rw [hwf.out] at BF NF LB CR
  clear c0 c4 c7 BFo
  have MX := hide (HX.out.below BF.out)
  have hob : Hid (¬ own pb O rb V w.heap.size) := fun c => Nat.lt_irrefl _ (hlt.out _ c)
  have B0 : Hid (Bxs pb w.heap.size b rb ⟨9, os, on, ot, ov, oD, oo, onn, .slice fa ofs.length fc, ofs, od, ovk, oks⟩ wf) := ⟨MX.out.box, NF⟩
  have KB : Hid (∀ u u', Bxs pb w.heap.size b rb ⟨9, os, on, ot, ov, oD, oo, onn, .slice fa ofs.length fc, ofs, od, ovk, oks⟩ u → Below u.heap.size u u' → Bxs pb w.heap.size b rb ⟨9, os, on, ot, ov, oD, oo, onn, .slice fa ofs.length fc, ofs, od, ovk, oks⟩ u') := fun u u' h hb => h.go (But.of_below hb fun _ => False) (fun c => c) (fun c => c)
  have ML := hide (MX.out.below LB.out)
  have BL : Hid (Bxs pb w.heap.size b rb ⟨9, os, on, ot, ov, oD, oo, onn, .slice fa ofs.length fc, ofs, od, ovk, oks⟩ wl) := KB.out _ _ B0.out LB.out
  have KP : Hid (Bxs pb w.heap.size b rb ⟨9, os, on, ot, ov, oD, oo, onn, .slice fa ofs.length fc, ofs, od, ovk, oks⟩ wl.drew) := KB.out _ _ BL.out (Below.refl _ _).drew
  have PQ : Hid (PX wl.drew pb b rb S R O V) := ML.out.below (Below.refl _ _).drew
  have GQ : Hid (Below wl.heap.size wl wl.drew) := (Below.refl _ _).drew
  have CQ : Hid (wl.drew.ownsRow wf.heap.size 118 3 cv cf.length (acells cf)) := owns_belowN CR.out GQ.out
  have hcv : ∃ ca cn cc, cv = .slice ca cn cc := by rcases CR.out.2 with ⟨e, _⟩ | ⟨g, cap, cur, e, _⟩ <;> exact ⟨_, _, _, e⟩
  obtain ⟨ca, cn, cc, rfl⟩ := hcv
  refine wp_region_T (fun q => Bxs pb w.heap.size b rb ⟨9, os, on, ot, ov, oD, oo, onn, .slice fa ofs.length fc, ofs, od, ovk, oks⟩ q) 13 (by kernel_rfl) ?_
  generalize wl.drew = q at *
  refine Ix.tk 0 ⟨some 249, .move (.tmp 0), 37, "law.go:138", #[], none⟩ (.pointer (some ⟨pb, 0, none⟩)) [13] ?_ KP.out ?_
  · intro wq hSw; go_simp
  (try simp only [zzp, zza, zzb, zzc])
  refine Ix.tk 1 ⟨some 250, .nilCheck (.tmp 249), 0, "law.go:138", #[⟨0,.data⟩], none⟩ (.pointer (some ⟨pb, 0, none⟩)) [13] ?_ KP.out ?_
  · intro wq hSw; go_simp
  (try simp only [zzp, zza, zzb, zzc])
  refine Ix.tk 2 ⟨some 251, .fieldAddr 29 (.tmp 250) 0, 0, "law.go:138", #[⟨1,.data⟩], none⟩ (.pointer (some ⟨pb, 0, none⟩)) [13] ?_ KP.out ?_
  · intro wq hSw; go_simp
  (try simp only [zzp, zza, zzb, zzc])
  refine Ix.tk 3 ⟨some 252, .load 24 (.tmp 251), 24, "law.go:138", #[⟨2,.data⟩], none⟩ (.pointer (some ⟨b, 0, none⟩)) [13] ?_ KP.out ?_
  · intro wq hSw
    obtain ⟨x1, x2⟩ := two_cells hSw.p
    obtain ⟨y0, y1, y2, y3, y4, y5, y6, y7, y8, y9⟩ := ten_cells hSw.o
    go_simp
  (try simp only [zzp, zza, zzb, zzc])
  refine Ix.tk 4 ⟨some 253, .move (.tmp 18), 31, "law.go:138", #[], none⟩ (.slice ca cn cc) [13] ?_ KP.out ?_
  · intro wq hSw; go_simp
  (try simp only [zzp, zza, zzb, zzc])
  refine Ix.tk 6 ⟨some 255, .move (.tmp 0), 37, "law.go:138", #[], none⟩ (.pointer (some ⟨pb, 0, none⟩)) [13] ?_ KP.out ?_
  · intro wq hSw; go_simp
  (try simp only [zzp, zza, zzb, zzc])
  refine Ix.tk 7 ⟨some 256, .nilCheck (.tmp 255), 0, "law.go:138", #[⟨6,.data⟩], none⟩ (.pointer (some ⟨pb, 0, none⟩)) [13] ?_ KP.out ?_
  · intro wq hSw; go_simp
  (try simp only [zzp, zza, zzb, zzc])
  refine Ix.tk 8 ⟨some 257, .fieldAddr 29 (.tmp 256) 1, 0, "law.go:138", #[⟨7,.data⟩], none⟩ (.pointer (some ⟨pb, 1, none⟩)) [13] ?_ KP.out ?_
  · intro wq hSw; go_simp
  (try simp only [zzp, zza, zzb, zzc])
  refine Ix.tk 9 ⟨some 258, .load 26 (.tmp 257), 26, "law.go:138", #[⟨8,.data⟩], none⟩ (.pointer (some ⟨rb, 0, none⟩)) [13] ?_ KP.out ?_
  · intro wq hSw
    obtain ⟨x1, x2⟩ := two_cells hSw.p
    obtain ⟨y0, y1, y2, y3, y4, y5, y6, y7, y8, y9⟩ := ten_cells hSw.o
    go_simp
  (try simp only [zzp, zza, zzb, zzc])
  refine Ix.tk 10 ⟨some 259, .move (.tmp 18), 31, "law.go:138", #[], none⟩ (.slice ca cn cc) [13] ?_ KP.out ?_
  · intro wq hSw; go_simp
  (try simp only [zzp, zza, zzb, zzc])
  refine wpAnyT_one (i := 5) (o := ⟨some 254, .call { callee := .value (.func 59), args := #[.tmp 252, .tmp 253], argTypes := #[24, 31] }, 41, "law.go:138", #[⟨3, .data⟩, ⟨4, .data⟩], none⟩) (by kernel_rfl) rfl (fun K hK => ?_)
  go_simp
  go_at_call 59
  refine (hA.out q _ (⟨CQ.out.1, CQ.out.2.imp id fun ⟨g, cap, cur, e, _, r⟩ => ⟨g, cap, cur, e, Nat.zero_le _, r⟩⟩) PQ.out).mono ?_
  rintro e w1 ⟨O1, rfl, P1, G1⟩
  replace P1 := hide P1
  replace G1 := hide G1
  have K1 : Hid (Bxs pb w.heap.size b rb ⟨9, os, on, ot, ov, oD, oo, onn, .slice fa ofs.length fc, ofs, od, ovk, oks⟩ w1) := ⟨P1.out.box, G1.out.but.at KP.out.o hob.out⟩
  have C1 : Hid (w1.ownsRow wf.heap.size 118 3 (.slice ca cn cc) cf.length (acells cf)) := ownsRow_but CQ.out G1.out.but (fun k hk c => by have q1 := (World.ownsRow.lt CQ.out k hk).1; have q2 := hlt.out k c; have q3 := BF.out.size; omega)
  (try go_simp)
  refine hK.out _ _ (fun _ => K1.out) ?_
  clear hK K
  (try simp only [zzp, zza, zzb, zzc])
  refine wpAnyT_one (i := 11) (o := ⟨some 260, .call { callee := .value (.func 60), args := #[.tmp 258, .tmp 259], argTypes := #[26, 31] }, 41, "law.go:138", #[⟨9, .data⟩, ⟨10, .data⟩, ⟨5, .chain⟩], none⟩) (by kernel_rfl) rfl (fun K hK => ?_)
  go_simp
  go_at_call 60
  refine (hB.out w1 _ _ _ (⟨C1.out.1, C1.out.2.imp id fun ⟨g, cap, cur, e, _, r⟩ => ⟨g, cap, cur, e, Nat.zero_le _, r⟩⟩) P1.out).mono ?_
  rintro e w2 ⟨V2, rfl, P2, G2⟩
  replace P2 := hide P2
  replace G2 := hide G2
  have hob1 : ¬ own pb O1 rb V w.heap.size := fun c => (G1.out.own _ c).elim hob.out (fun c => by have := heap_lt KP.out.o; omega)
  have K2 : Hid (Bxs pb w.heap.size b rb ⟨9, os, on, ot, ov, oD, oo, onn, .slice fa ofs.length fc, ofs, od, ovk, oks⟩ w2) := ⟨P2.out.box, G2.out.but.at K1.out.o hob1⟩
  (try go_simp)
  refine hK.out _ _ (fun _ => K2.out) ?_
  clear hK K
  (try simp only [zzp, zza, zzb, zzc])
  refine Ix.tk 12 ⟨some 261, .binOp .eql 41 (.tmp 254) (.tmp 260) 41, 4, "law.go:138", #[⟨5,.data⟩,⟨11,.data⟩], none⟩ (.bool (RS.2 == RR.2)) [13] ?_ K2.out ?_
  · intro wq hSw
    obtain ⟨x1, x2⟩ := two_cells hSw.p
    obtain ⟨y0, y1, y2, y3, y4, y5, y6, y7, y8, y9⟩ := ten_cells hSw.o
    go_simp
  (try simp only [zzp, zza, zzb, zzc])
  refine wpAnyT_one (i := 13) (o := ⟨some 4, .assign (.tmp 261), 4, "law.go:138", #[⟨12, .data⟩, ⟨11, .chain⟩, ⟨0, .phase⟩, ⟨1, .phase⟩, ⟨2, .phase⟩, ⟨3, .phase⟩, ⟨4, .phase⟩, ⟨5, .phase⟩, ⟨6, .phase⟩, ⟨7, .phase⟩, ⟨8, .phase⟩, ⟨9, .phase⟩, ⟨10, .phase⟩, ⟨11, .phase⟩, ⟨12, .phase⟩], none⟩) (by kernel_rfl) rfl (fun K hK => ?_)
  go_simp
  refine hK.out _ _ (vac (by kernel_rfl)) ?_
  clear hK K
  (try simp only [zzp, zza, zzb, zzc])
  refine wpAnyT_done (by kernel_rfl) ?_ _
  obtain ⟨bb, hbb⟩ : ∃ bb, Hid ((RS.2 == RR.2) = bb) := ⟨_, rfl⟩
  rw [hbb.out]
  go_wp2_with fail
  go_ret
  refine ⟨⟨bb, RS.1, _, b, rfl, by rw [hpR.out]; exact P2.out.toPW, ?_, hpS.out, fun hr => ?_, fun _ => rfl⟩⟩
  · have hG := (Sgo.of_below (O := own pb O rb V) ((BF.out.trans (LB.out.mono BF.out.size)).trans (GQ.out.mono (Nat.le_trans BF.out.size LB.out.size)))).trans (G1.out.trans G2.out)
    first | exact hG | (rw [hQ]; exact hG)
  · rw [← hbb.out]
    simpa using hRel.out hr
end Go.Proofs.YtjehpijjneghpaaGreat.Re
namespace Go.Proofs.YtjehpijjneghpaaGreat.Re
open Go.RowKit Go.Maps Go.Sort Go.Shelf Go.Proofs.YtjehpijjneghpaaGreat.Nm Go.Proofs.YtjehpijjneghpaaGreat.Dk
open Ix (wp_region_T wpAnyT wpAnyT_take wpAnyT_one wpAnyT_done vac)
set_option linter.unusedVariables false
variable {W0 w : World} {pb b : Nat} {S : DS} {R : RB} {Q : Nat → Prop}
set_option maxRecDepth 100000 in
set_option maxHeartbeats 2000000 in
theorem pl_tails (o : Dop) (hk : o.kind = 12) (h : PlI W0 w pb b S R o Q) : Calls Tryz.prog 11 #[.pointer (some ⟨pb, 0, none⟩), opV o] w (PlP w pb b S R o Q) := by
  obtain ⟨rb, O, V, hx, hQ⟩ := h.pw
  have hI := hide h
  have HX := hide hx
  have hlt := hide hx.lt
  have hpR : Hid (R.play o = R) := by show _ = _; unfold RB.play; simp [hk]
  have hpS : Hid (DS.play S o S) := by show DS.play S o S; unfold DS.play; simp [hk]
  have hA : Hid (∀ q, PX q pb b rb S R O V → Calls Tryz.prog 27 #[.pointer (some ⟨b, 0, none⟩), .int .i64 o.n] q fun e w' => ∃ v, e = .returned v ∧ Tl q.heap.size w' v (S.tails o.n) ∧ Below q.heap.size q w') := fun q hq => tails_dskE hq.d (by have := hI.out.cs; omega) o.n hI.out.ok.n.1 hI.out.ok.n.2
  have hB : Hid (∀ q, PX q pb b rb S R O V → Calls Tryz.prog 63 #[.pointer (some ⟨rb, 0, none⟩), .int .i64 o.n] q fun e w' => ∃ v, e = .returned v ∧ Tl q.heap.size w' v (R.tails o.n) ∧ Below q.heap.size q w') := fun q hq => tails_rm hq.r (by have := hI.out.ri.cnt; have := hI.out.cr; omega) (hI.out.ri.pf (by have := hI.out.cr; omega)) o.n (hI.out.ri.front _) hI.out.ri.la
  have hRel : Hid (Rel S R → S.tails o.n = R.tails o.n) := fun hr => hr.tails _
  obtain ⟨TA, hTA⟩ : ∃ TA, Hid (S.tails o.n = TA) := ⟨_, rfl⟩
  obtain ⟨TB, hTB⟩ : ∃ TB, Hid (R.tails o.n = TB) := ⟨_, rfl⟩
  rw [hTA.out] at hA hRel
  rw [hTB.out] at hB hRel
  clear hTA hTB
  obtain ⟨ok, os, on, ot, ov, oD, oo, onn, of, ofs, od, ovk, oks⟩ := o
  dsimp only at *
  subst hk
  have BF := hide (box_below w (.cells #[.int .i64 12, .bool os, .string on, .string ot, ov, .int .i64 oo, .int .i64 onn, of, .int .i64 od, ovk] 36))
  have NF := heap_alloc_new w (.cells #[.int .i64 12, .bool os, .string on, .string ot, ov, .int .i64 oo, .int .i64 onn, of, .int .i64 od, ovk] 36)
  clear hx h
  unfold opV
  go_enter Tryz.func11, Tryz.ntmps11
  obtain ⟨wf, hwf⟩ : ∃ wf, Hid (w.alloc (.cells #[.int .i64 12, .bool os, .string on, .string ot, ov, .int .i64 oo, .int .i64 onn, of, .int .i64 od, ovk] 36) = wf) := ⟨_, rfl⟩
  have c0 : (w.alloc (.cells #[.int .i64 12, .bool os, .string on, .string ot, ov, .int .i64 oo, .int .i64 onn, of, .int .i64 od, ovk] 36)).cell? ⟨w.heap.size, 0, none⟩ = some (.int .i64 12) := (ten_cells NF).1
  have c4 : (w.alloc (.cells #[.int .i64 12, .bool os, .string on, .string ot, ov, .int .i64 oo, .int .i64 onn, of, .int .i64 od, ovk] 36)).cell? ⟨w.heap.size, 4, none⟩ = some (ov) := (ten_cells NF).2.2.2.2.1
  have c7 : (w.alloc (.cells #[.int .i64 12, .bool os, .string on, .string ot, ov, .int .i64 oo, .int .i64 onn, of, .int .i64 od, ovk] 36)).cell? ⟨w.heap.size, 7, none⟩ = some (of) := (ten_cells NF).2.2.2.2.2.2.2.1
  go_upto_region 48 with fail
  rw [hwf.out] at BF NF ⊢
  clear c0 c4 c7
  have MX := hide (HX.out.below BF.out)
  have hob : Hid (¬ own pb O rb V w.heap.size) := fun c => Nat.lt_irrefl _ (hlt.out _ c)
  have B0 : Hid (Bxs pb w.heap.size b rb ⟨12, os, on, ot, ov, oD, oo, onn, of, ofs, od, ovk, oks⟩ wf) := ⟨MX.out.box, NF⟩
  have KB : Hid (∀ u u', Bxs pb w.heap.size b rb ⟨12, os, on, ot, ov, oD, oo, onn, of, ofs, od, ovk, oks⟩ u → Below u.heap.size u u' → Bxs pb w.heap.size b rb ⟨12, os, on, ot, ov, oD, oo, onn, of, ofs, od, ovk, oks⟩ u') := fun u u' h hb => h.go (But.of_below hb fun _ => False) (fun c => c) (fun c => c)
  have KP : Hid (Bxs pb w.heap.size b rb ⟨12, os, on, ot, ov, oD, oo, onn, of, ofs, od, ovk, oks⟩ wf.drew) := KB.out _ _ B0.out (Below.refl _ _).drew
  have PQ : Hid (PX wf.drew pb b rb S R O V) := MX.out.below (Below.refl _ _).drew
  have GQ : Hid (Below wf.heap.size wf wf.drew) := (Below.refl _ _).drew
  refine wp_region_T (fun q => Bxs pb w.heap.size b rb ⟨12, os, on, ot, ov, oD, oo, onn, of, ofs, od, ovk, oks⟩ q) 15 (by kernel_rfl) ?_
  generalize wf.drew = q at *
  refine Ix.tk 0 ⟨some 337, .move (.tmp 0), 37, "law.go:158", #[], none⟩ (.pointer (some ⟨pb, 0, none⟩)) [15] ?_ KP.out ?_
  · intro wq hSw; go_simp
  (try simp only [zzp, zza, zzb, zzc])
  refine Ix.tk 1 ⟨some 338, .nilCheck (.tmp 337), 0, "law.go:158", #[⟨0,.data⟩], none⟩ (.pointer (some ⟨pb, 0, none⟩)) [15] ?_ KP.out ?_
  · intro wq hSw; go_simp
  (try simp only [zzp, zza, zzb, zzc])
  refine Ix.tk 2 ⟨some 339, .fieldAddr 29 (.tmp 338) 0, 0, "law.go:158", #[⟨1,.data⟩], none⟩ (.pointer (some ⟨pb, 0, none⟩)) [15] ?_ KP.out ?_
  · intro wq hSw; go_simp
  (try simp only [zzp, zza, zzb, zzc])
  refine Ix.tk 3 ⟨some 340, .load 24 (.tmp 339), 24, "law.go:158", #[⟨2,.data⟩], none⟩ (.pointer (some ⟨b, 0, none⟩)) [15] ?_ KP.out ?_
  · intro wq hSw
    obtain ⟨x1, x2⟩ := two_cells hSw.p
    obtain ⟨y0, y1, y2, y3, y4, y5, y6, y7, y8, y9⟩ := ten_cells hSw.o
    go_simp
  (try simp only [zzp, zza, zzb, zzc])
  refine Ix.tk 4 ⟨some 341, .fieldAddr 36 (.tmp 3) 6, 0, "law.go:158", #[], none⟩ (.pointer (some ⟨w.heap.size, 6, none⟩)) [15] ?_ KP.out ?_
  · intro wq hSw; go_simp
  (try simp only [zzp, zza, zzb, zzc])
  refine Ix.tk 5 ⟨some 342, .load 3 (.tmp 341), 3, "law.go:158", #[⟨4,.data⟩], none⟩ (.int .i64 onn) [15] ?_ KP.out ?_
  · intro wq hSw
    obtain ⟨x1, x2⟩ := two_cells hSw.p
    obtain ⟨y0, y1, y2, y3, y4, y5, y6, y7, y8, y9⟩ := ten_cells hSw.o
    go_simp
  (try simp only [zzp, zza, zzb, zzc])
  refine Ix.tk 7 ⟨some 344, .move (.tmp 0), 37, "law.go:158", #[], none⟩ (.pointer (some ⟨pb, 0, none⟩)) [15] ?_ KP.out ?_
  · intro wq hSw; go_simp
  (try simp only [zzp, zza, zzb, zzc])
  refine Ix.tk 8 ⟨some 345, .nilCheck (.tmp 344), 0, "law.go:158", #[⟨7,.data⟩], none⟩ (.pointer (some ⟨pb, 0, none⟩)) [15] ?_ KP.out ?_
  · intro wq hSw; go_simp
  (try simp only [zzp, zza, zzb, zzc])
  refine Ix.tk 9 ⟨some 346, .fieldAddr 29 (.tmp 345) 1, 0, "law.go:158", #[⟨8,.data⟩], none⟩ (.pointer (some ⟨pb, 1, none⟩)) [15] ?_ KP.out ?_
  · intro wq hSw; go_simp
  (try simp only [zzp, zza, zzb, zzc])
  refine Ix.tk 10 ⟨some 347, .load 26 (.tmp 346), 26, "law.go:158", #[⟨9,.data⟩], none⟩ (.pointer (some ⟨rb, 0, none⟩)) [15] ?_ KP.out ?_
  · intro wq hSw
    obtain ⟨x1, x2⟩ := two_cells hSw.p
    obtain ⟨y0, y1, y2, y3, y4, y5, y6, y7, y8, y9⟩ := ten_cells hSw.o
    go_simp
  (try simp only [zzp, zza, zzb, zzc])
  refine Ix.tk 11 ⟨some 348, .fieldAddr 36 (.tmp 3) 6, 0, "law.go:158", #[], none⟩ (.pointer (some ⟨w.heap.size, 6, none⟩)) [15] ?_ KP.out ?_
  · intro wq hSw; go_simp
  (try simp only [zzp, zza, zzb, zzc])
  refine Ix.tk 12 ⟨some 349, .load 3 (.tmp 348), 3, "law.go:158", #[⟨11,.data⟩], none⟩ (.int .i64 onn) [15] ?_ KP.out ?_
  · intro wq hSw
    obtain ⟨x1, x2⟩ := two_cells hSw.p
    obtain ⟨y0, y1, y2, y3, y4, y5, y6, y7, y8, y9⟩ := ten_cells hSw.o
    go_simp
  (try simp only [zzp, zza, zzb, zzc])
  refine wpAnyT_one (i := 6) (o := ⟨some 343, .call { callee := .value (.func 27), args := #[.tmp 340, .tmp 342], argTypes := #[24, 3] }, 65, "law.go:158", #[⟨3, .data⟩, ⟨5, .data⟩], none⟩) (by kernel_rfl) rfl (fun K hK => ?_)
  go_simp
  go_at_call 27
  refine (hA.out q PQ.out).mono ?_
  rintro e w1 ⟨v1, rfl, T1, b1⟩
  obtain ⟨a1, c1, rfl, _⟩ := T1.tr
  replace T1 := hide T1
  replace b1 := hide b1
  have K1 : Hid (Bxs pb w.heap.size b rb ⟨12, os, on, ot, ov, oD, oo, onn, of, ofs, od, ovk, oks⟩ w1) := KB.out _ _ KP.out b1.out
  have P1 : Hid (PX w1 pb b rb S R O V) := PQ.out.below b1.out
  (try go_simp)
  refine hK.out _ _ (fun _ => K1.out) ?_
  clear hK K
  (try simp only [zzp, zza, zzb, zzc])
  refine wpAnyT_one (i := 13) (o := ⟨some 350, .call { callee := .value (.func 63), args := #[.tmp 347, .tmp 349], argTypes := #[26, 3] }, 65, "law.go:158", #[⟨10, .data⟩, ⟨12, .data⟩, ⟨6, .chain⟩], none⟩) (by kernel_rfl) rfl (fun K hK => ?_)
  go_simp
  go_at_call 63
  refine (hB.out w1 P1.out).mono ?_
  rintro e w2 ⟨v2, rfl, T2, b2⟩
  obtain ⟨a2, c2, rfl, _⟩ := T2.tr
  replace T2 := hide T2
  replace b2 := hide b2
  have K2 : Hid (Bxs pb w.heap.size b rb ⟨12, os, on, ot, ov, oD, oo, onn, of, ofs, od, ovk, oks⟩ w2) := KB.out _ _ K1.out b2.out
  (try go_simp)
  refine hK.out _ _ (fun _ => K2.out) ?_
  clear hK K
  (try simp only [zzp, zza, zzb, zzc])
  refine wpAnyT_one (i := 14) (o := ⟨some 351, .call { callee := .value (.func 62), args := #[.tmp 343, .tmp 350], argTypes := #[65, 65] }, 4, "law.go:158", #[⟨6, .data⟩, ⟨13, .data⟩, ⟨13, .chain⟩], none⟩) (by kernel_rfl) rfl (fun K hK => ?_)
  go_simp
  go_at_call 62
  refine (tails_eq w2 _ _ TA TB (T1.out.tr.below b2.out) T2.out.tr).mono ?_
  rintro e w3 ⟨⟨rr, rfl, hrr, b3⟩⟩
  replace b3 := hide b3
  replace hrr := hide hrr
  have K3 : Hid (Bxs pb w.heap.size b rb ⟨12, os, on, ot, ov, oD, oo, onn, of, ofs, od, ovk, oks⟩ w3) := KB.out _ _ K2.out b3.out
  (try go_simp)
  refine hK.out _ _ (fun _ => K3.out) ?_
  clear hK K
  (try simp only [zzp, zza, zzb, zzc])
  refine wpAnyT_one (i := 15) (o := ⟨some 4, .assign (.tmp 351), 4, "law.go:158", #[⟨14, .data⟩, ⟨14, .chain⟩, ⟨0, .phase⟩, ⟨1, .phase⟩, ⟨2, .phase⟩, ⟨3, .phase⟩, ⟨4, .phase⟩, ⟨5, .phase⟩, ⟨6, .phase⟩, ⟨7, .phase⟩, ⟨8, .phase⟩, ⟨9, .phase⟩, ⟨10, .phase⟩, ⟨11, .phase⟩, ⟨12, .phase⟩, ⟨13, .phase⟩, ⟨14, .phase⟩], none⟩) (by kernel_rfl) rfl (fun K hK => ?_)
  go_simp
  refine hK.out _ _ (vac (by kernel_rfl)) ?_
  clear hK K
  (try simp only [zzp, zza, zzb, zzc])
  refine wpAnyT_done (by kernel_rfl) ?_ _
  go_wp2_with fail
  go_ret
  have hb : Below w.heap.size w w3 := (BF.out.trans (GQ.out.mono BF.out.size)).trans ((b1.out.trans ((b2.out.trans (b3.out.mono b2.out.size)).mono b1.out.size)).mono (Nat.le_trans BF.out.size GQ.out.size))
  refine ⟨⟨rr, S, Q, b, rfl, ?_, Sgo.of_below hb, hpS.out, fun hr => hrr.out (hRel.out hr), fun _ => rfl⟩⟩
  rw [hpR.out]
  exact ⟨rb, O, V, HX.out.below hb, hQ⟩
set_option maxRecDepth 100000 in
set_option maxHeartbeats 2000000 in
theorem pl_none (o : Dop) (hk : o.kind ≠ 1 ∧ o.kind ≠ 2 ∧ o.kind ≠ 3 ∧ o.kind ≠ 4 ∧ o.kind ≠ 5 ∧ o.kind ≠ 6 ∧ o.kind ≠ 7 ∧ o.kind ≠ 8 ∧ o.kind ≠ 9 ∧ o.kind ≠ 10 ∧ o.kind ≠ 11 ∧ o.kind ≠ 12) (h : PlI W0 w pb b S R o Q) : Calls Tryz.prog 11 #[.pointer (some ⟨pb, 0, none⟩), opV o] w (PlP w pb b S R o Q) := by
  obtain ⟨k1, k2, k3, k4, k5, k6, k7, k8, k9, k10, k11, k12⟩ := hk
  have hpR : Hid (R.play o = R) := by show _ = _; unfold RB.play; simp [k1, k2, k3, k4, k5, k6, k7, k9, k10]
  have hpS : Hid (DS.play S o S) := by show DS.play S o S; unfold DS.play; simp [k1, k2, k3, k4, k5, k6, k7, k9, k10, k11]
  have hI := hide h
  obtain ⟨ok, os, on, ot, ov, oD, oo, onn, of, ofs, od, ovk, oks⟩ := o
  dsimp only at *
  have BF := hide (box_below w (.cells #[.int .i64 ok, .bool os, .string on, .string ot, ov, .int .i64 oo, .int .i64 onn, of, .int .i64 od, ovk] 36))
  have NF := heap_alloc_new w (.cells #[.int .i64 ok, .bool os, .string on, .string ot, ov, .int .i64 oo, .int .i64 onn, of, .int .i64 od, ovk] 36)
  have c0 : (w.alloc (.cells #[.int .i64 ok, .bool os, .string on, .string ot, ov, .int .i64 oo, .int .i64 onn, of, .int .i64 od, ovk] 36)).cell? ⟨w.heap.size, 0, none⟩ = some (.int .i64 ok) := (ten_cells NF).1
  have j1 : (ok == 1) = false := by simpa using k1
  have j2 : (ok == 2) = false := by simpa using k2
  have j3 : (ok == 3) = false := by simpa using k3
  have j4 : (ok == 4) = false := by simpa using k4
  have j5 : (ok == 5) = false := by simpa using k5
  have j6 : (ok == 6) = false := by simpa using k6
  have j7 : (ok == 7) = false := by simpa using k7
  have j8 : (ok == 8) = false := by simpa using k8
  have j9 : (ok == 9) = false := by simpa using k9
  have j10 : (ok == 10) = false := by simpa using k10
  have j11 : (ok == 11) = false := by simpa using k11
  have j12 : (ok == 12) = false := by simpa using k12
  clear h NF k1 k2 k3 k4 k5 k6 k7 k8 k9 k10 k11 k12
  unfold opV
  go_enter Tryz.func11, Tryz.ntmps11
  go_wp2_with fail
  go_ret
  exact ⟨⟨true, S, Q, b, rfl, by rw [hpR.out]; exact hI.out.pw.below BF.out, Sgo.of_below BF.out, hpS.out, fun _ => rfl, fun _ => rfl⟩⟩
end Go.Proofs.YtjehpijjneghpaaGreat.Re
namespace Go.Proofs.YtjehpijjneghpaaGreat.Re
open Go.RowKit Go.Maps Go.Sort Go.Shelf Go.Proofs.YtjehpijjneghpaaGreat.Nm Go.Proofs.YtjehpijjneghpaaGreat.Dk
set_option linter.unusedVariables false
variable {W0 w : World} {pb b : Nat} {S : DS} {R : RB} {Q : Nat → Prop}
theorem pl_most (o : Dop) (h : PlI W0 w pb b S R o Q) (k10 : o.kind ≠ 10) (k11 : o.kind ≠ 11) : Calls Tryz.prog 11 #[.pointer (some ⟨pb, 0, none⟩), opV o] w (PlP w pb b S R o Q) := by
  by_cases k1 : o.kind = 1
  · exact pl_create o k1 h
  by_cases k2 : o.kind = 2
  · exact pl_append o k2 h
  by_cases k3 : o.kind = 3
  · exact pl_sync o k3 h
  by_cases k4 : o.kind = 4
  · exact pl_cut o k4 h
  by_cases k5 : o.kind = 5
  · exact pl_rename o k5 h
  by_cases k6 : o.kind = 6
  · exact pl_remove o k6 h
  by_cases k7 : o.kind = 7
  · exact pl_syncDir o k7 h
  by_cases k8 : o.kind = 8
  · exact pl_read o k8 h
  by_cases k9 : o.kind = 9
  · exact pl_arm o k9 h
  by_cases k12 : o.kind = 12
  · exact pl_tails o k12 h
  exact pl_none o ⟨k1, k2, k3, k4, k5, k6, k7, k8, k9, k10, k11, k12⟩ h
structure KL (w q : World) (fb pb b p : Nat) (A B : List UInt8) (d : Int) (vk : Value) (k : Nat) : Prop where
  out : ∃ S R Q, PW q pb b S R Q ∧ Kpt S kl p ⟨A ++ B, A, 0⟩ ∧ RI R ∧ S.c7 ≤ 10 + (k : Int) ∧ R.c7 ≤ (k : Int) ∧ (∀ k, Q k → w.heap.size ≤ k) ∧ ¬ Q fb
  bel : Below w.heap.size w q
  box : q.heap[fb]? = some (.cells #[.int .i64 d, vk] 34 (0, 0))
theorem KL.below {w q q' : World} {fb pb b p : Nat} {A B : List UInt8} {d : Int} {vk : Value} {k : Nat} (h : KL w q fb pb b p A B d vk k) (hb : Below q.heap.size q q') : KL w q' fb pb b p A B d vk k := by
  obtain ⟨S, R, Q, h1, h2⟩ := h.out
  exact ⟨⟨S, R, Q, h1.below hb, h2⟩, h.bel.trans (hb.mono h.bel.size), (hb.block _ (heap_lt h.box)).trans h.box⟩
theorem blk_nil {b x k : Nat} (h : blk b RV.nil x = some k) : k = b := by
  match x with
  | 0 => simp [blk] at h; exact h.symm
  | 1 => simp [blk, RV.nil, Value.ownBlock] at h
  | 2 => simp [blk, RV.nil, Value.ownBlock] at h
  | 3 => simp [blk, RV.nil, Value.ownBlock] at h
  | 4 => simp [blk, RV.nil, Value.ownBlock] at h
  | 5 => simp [blk, RV.nil, Value.ownBlock] at h
  | n + 6 => simp [blk, RV.nil] at h
theorem px_new {u q : World} {b : Nat} {S : DS} {O : Nat → Prop} {most : Int} (hD : DskE u b S O) (hq : Below u.heap.size u q) (hR : RM q u.heap.size (RB.new most) RV.nil) :
    PX (q.alloc (.cells #[.pointer (some ⟨b, 0, none⟩), .pointer (some ⟨u.heap.size, 0, none⟩)] 29)) q.heap.size b u.heap.size S (RB.new most) O RV.nil := by
  have hb2 := box_below q (.cells #[.pointer (some ⟨b, 0, none⟩), .pointer (some ⟨u.heap.size, 0, none⟩)] 29)
  have hz := heap_lt hR.box
  refine ⟨heap_alloc_new _ _, (hD.below hq).below hb2, hR.below hb2, fun k hk x c => ?_, fun c => ?_, fun x c => ?_⟩
  · have := hD.lt k hk
    have := blk_nil c
    omega
  · have := hD.lt _ c
    omega
  · have := blk_nil c
    omega
end Go.Proofs.YtjehpijjneghpaaGreat.Re
