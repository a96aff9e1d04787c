/-
  Plays: Append.
-/
import Derived.Test.YtjehpijjneghpaaGreatL08
import Derived.Lib.SmallJoins
import Derived.Test.YtjehpijjneghpaaGreatL07
set_option maxRecDepth 100000
set_option maxHeartbeats 40000000
set_option linter.unusedVariables false
namespace Go.Proofs.YtjehpijjneghpaaGreat.Re
open Go.RowKit Go.Maps Go.Sort Go.Shelf Go.Proofs.YtjehpijjneghpaaGreat.Nm Go.Proofs.YtjehpijjneghpaaGreat.Dk
open Ix (wp_region_T wpAnyT wpAnyT_take wpAnyT_one wpAnyT_done vac)
variable {W0 w : World} {pb b : Nat} {S : DS} {R : RB} {Q : Nat → Prop}
theorem pl_append (o : Dop) (hk : o.kind = 2) (h : PlI W0 w pb b S R o Q) : Calls Tryz.prog 11 #[.pointer (some ⟨pb, 0, none⟩), opV o] w (PlP w pb b S R o Q) := by
 obtain ⟨rb, O, V, hx, hQ⟩ := h.pw
 have hI := hide h
 have HX := hide hx
 have hlt := hide hx.lt
 have hpR : Hid (R.play o = if 32768 < o.dat.length then R else (R.append o.nm o.dat).1) := by show _ = _; unfold RB.play; simp [hk]
 have hpS : Hid (∀ S', S' = (if 32768 < o.dat.length then S else (S.append o.nm o.dat).1) → DS.play S o S') := fun S' hs => by unfold DS.play; simp [hk, hs]
 have hD : Sl w o.vd o.dat := Below.sl h.bel h.ok.dat
 have hDo : Hid (SOff (own pb O rb V) o.vd) := fun g off n c e hn hc => by
  have q1 := h.lo g (by rw [hQ]; exact hc)
  have hS0 := h.ok.dat
  obtain ⟨ao, ca, e1, _, _, _, h5⟩ := hS0
  rw [e] at e1
  simp only [Value.slice.injEq] at e1
  obtain ⟨rfl, rfl, rfl⟩ := e1
  obtain ⟨g', off', e2, hcl⟩ := h5 0 hn
  simp only [Option.some.injEq, Addr.mk.injEq] at e2
  obtain ⟨rfl, _⟩ := e2
  have := lt_of_cell hcl
  simp only at this
  omega
 obtain ⟨ok, os, on, ot, ov, oD, oo, onn, of, ofs, od, ovk, oks⟩ := o
 dsimp only at *
 subst hk
 have DD := hide hD
 obtain ⟨va, vc, rfl, _, v3, v4, _⟩ := hD
 have v4' : vc ≤ 9223372036854775807 := by unfold maxLen at v4; omega
 have lenD : (oD.length : Int) ≤ 140737488355328 := by have := hI.out.ok.datl; dsimp only at this; omega
 have BF := hide (box_below w (.cells #[.int .i64 2, .bool os, .string on, .string ot, .slice va oD.length vc, .int .i64 oo, .int .i64 onn, of, .int .i64 od, ovk] 36))
 have NF := heap_alloc_new w (.cells #[.int .i64 2, .bool os, .string on, .string ot, .slice va oD.length vc, .int .i64 oo, .int .i64 onn, of, .int .i64 od, ovk] 36)
 clear hx h
 unfold opV
 go_enter Tryz.func11, Tryz.ntmps11
 obtain ⟨wf, hwf⟩ : ∃ wf, Hid (w.alloc (.cells #[.int .i64 2, .bool os, .string on, .string ot, .slice va oD.length vc, .int .i64 oo, .int .i64 onn, of, .int .i64 od, ovk] 36) = wf) := ⟨_, rfl⟩
 have c0 : (w.alloc (.cells #[.int .i64 2, .bool os, .string on, .string ot, .slice va oD.length vc, .int .i64 oo, .int .i64 onn, of, .int .i64 od, ovk] 36)).cell? ⟨w.heap.size, 0, none⟩ = some (.int .i64 2) := (ten_cells NF).1
 have c4 : (w.alloc (.cells #[.int .i64 2, .bool os, .string on, .string ot, .slice va oD.length vc, .int .i64 oo, .int .i64 onn, of, .int .i64 od, ovk] 36)).cell? ⟨w.heap.size, 4, none⟩ = some (.slice va oD.length vc) := (ten_cells NF).2.2.2.2.1
 have c7 : (w.alloc (.cells #[.int .i64 2, .bool os, .string on, .string ot, .slice va oD.length vc, .int .i64 oo, .int .i64 onn, of, .int .i64 od, ovk] 36)).cell? ⟨w.heap.size, 7, none⟩ = some (of) := (ten_cells NF).2.2.2.2.2.2.2.1
 by_cases hbig : 32768 < oD.length
 ·have i1 : (oD.length : Int) > 32768 := by omega
  have hE : Hid ((if 32768 < oD.length then R else (R.append on oD).1) = R) := if_pos hbig
  rw [hE.out] at hpR
  go_wp2_with fail
  go_ret
  refine ⟨⟨true, S, Q, b, rfl, ?_, ?_, hpS.out S (by rw [if_pos hbig]), fun _ => rfl, fun _ => rfl⟩⟩
  ·rw [hpR.out]; exact ⟨rb, O, V, HX.out.below BF.out, hQ⟩
  ·exact Sgo.of_below BF.out
 ·have i1 : ¬ ((oD.length : Int) > 32768) := by omega
  rw [if_neg hbig] at hpR
  replace hpS : Hid (∀ S', S' = (S.append on oD).1 → DS.play S ⟨2, os, on, ot, .slice va oD.length vc, oD, oo, onn, of, ofs, od, ovk, oks⟩ S') := fun S' hs => hpS.out S' (by rw [if_neg hbig]; exact hs)
  have hLe : Hid (∀ q, Below w.heap.size w q → Calls Tryz.prog 45 #[.slice va oD.length vc] q fun e w' => ∃ g v', e = .returned v' ∧ LentAt w' g v' oD ∧ Below q.heap.size q w' ∧ q.heap.size ≤ g) := fun q hq => lent_any q _ oD (Below.sl hq DD.out) (by omega)
  have BFo := BF.out
  go_upto_region 8 with (go_at_call 45; refine (hLe.out _ BFo).mono ?_; rintro e wl ⟨lg, lv, rfl, LA, LB, LZ⟩; obtain ⟨lcap, el, lo⟩ := id LA; subst el; replace LA := hide LA; replace LB := hide LB; replace LZ := hide LZ; replace lo := hide lo)
  rw [hwf.out] at BF NF LB LZ
  clear c0 c4 c7 BFo
  have MX := hide (HX.out.below BF.out)
  have hob : Hid (¬ own pb O rb V w.heap.size) := fun c => Nat.lt_irrefl _ (hlt.out _ c)
  have B0 : Hid (Bxs pb w.heap.size b rb ⟨2, os, on, ot, .slice va oD.length vc, oD, oo, onn, of, ofs, od, ovk, oks⟩ wf) := ⟨MX.out.box, NF⟩
  have KB : Hid (∀ u u', Bxs pb w.heap.size b rb ⟨2, os, on, ot, .slice va oD.length vc, oD, oo, onn, of, ofs, od, ovk, oks⟩ u → Below u.heap.size u u' → Bxs pb w.heap.size b rb ⟨2, os, on, ot, .slice va oD.length vc, oD, oo, onn, of, ofs, od, ovk, oks⟩ u') := fun u u' h hb => h.go (But.of_below hb fun _ => False) (fun c => c) (fun c => c)
  have ML := hide (MX.out.below LB.out)
  have BL : Hid (Bxs pb w.heap.size b rb ⟨2, os, on, ot, .slice va oD.length vc, oD, oo, onn, of, ofs, od, ovk, oks⟩ wl) := KB.out _ _ B0.out LB.out
  have LN : Hid (¬ own pb O rb V lg) := fun c => by have := MX.out.lt _ c; have := LZ.out; omega
  have hA : Hid (∀ q, Below wl.heap.size wl q → PX q pb b rb S R O V → Calls Tryz.prog 16 #[.pointer (some ⟨b, 0, none⟩), .string on, .slice (some ⟨lg, 0, none⟩) oD.length lcap] q fun e w' => ∃ O', e = .returned (.tuple #[.int .i64 (S.append on oD).2.1, .int .i64 (S.append on oD).2.2]) ∧ PX w' pb b rb (S.append on oD).1 R O' V ∧ Sgo q w' (own pb O rb V) (own pb O' rb V)) := fun q hb hq => by
   refine (append_dsk hq.d on (by have := hI.out.ok.nm; unfold maxLen; dsimp only at this; omega) _ oD (LA.out.below hb).sl (fun g off n c e _ hc => ?_) (by have := hI.out.cs; omega)).mono ?_
   ·simp only [Value.slice.injEq, Option.some.injEq, Addr.mk.injEq] at e
    obtain ⟨⟨rfl, _⟩, _⟩ := e
    exact LN.out (.inr (.inl hc))
   ·rintro e w' ⟨rfl, O', hd, hg⟩
    obtain ⟨px, gx⟩ := hq.stepA hd hg
    exact ⟨O', rfl, px, gx⟩
  have hB : Hid (∀ q S' O', Sl q (.slice va oD.length vc) oD → PX q pb b rb S' R O' V → Calls Tryz.prog 46 #[.pointer (some ⟨rb, 0, none⟩), .string on, .slice va oD.length vc] q fun e w' => ∃ V', e = .returned (.tuple #[.int .i64 (R.append on oD).2.1, .int .i64 (R.append on oD).2.2]) ∧ PX w' pb b rb S' (R.append on oD).1 O' V' ∧ Sgo q w' (own pb O' rb V) (own pb O' rb V')) := fun q S' O' hs hq => by
   have Ri := hI.out.ri
   have hsum := sum_le Ri R.dir.length
   have hdl := Ri.dlen
   have hc8 := Ri.c8
   have hcr := hI.out.cr
   refine (append_rm hq.r Ri.ok (by omega) Ri.dirF Ri.flt.2 Ri.most.1 Ri.most.2 (by omega) (by omega) on (by have := hI.out.ok.nm; unfold maxLen; dsimp only at this; omega) _ oD hs (fun g off n c e hn hc => ?_) ?_).mono ?_
   ·obtain ⟨x, hx⟩ := hc
    exact hDo.out g off n c e hn (.inr (.inr ⟨x, hx⟩))
   ·by_cases h0 : refN R.down R.dir on true = 0
    ·have := ap_size Ri h0 oD.length; omega
    ·have h1 := (rapN_le R oD.length).1
     have h2 := (fOf_la Ri (R.pOf on)).2
     rw [← lenOf_fOf] at h2
     omega
   ·rintro e w' ⟨rfl, hg⟩
    obtain ⟨V', px, gx⟩ := hq.stepB hg
    exact ⟨V', rfl, px, gx⟩
  obtain ⟨RS, hRS⟩ : ∃ RS, Hid (S.append on oD = RS) := ⟨_, rfl⟩
  obtain ⟨RR, hRR⟩ : ∃ RR, Hid (R.append on oD = RR) := ⟨_, rfl⟩
  rw [hRS.out] at hA hpS
  rw [hRR.out] at hB hpR
  have hRel : Hid (Rel S R → RS.2 = RR.2) := fun hr => by rw [← hRS.out, ← hRR.out]; exact (hr.append on oD).2
  have KP : Hid (Bxs pb w.heap.size b rb ⟨2, os, on, ot, .slice va oD.length vc, oD, oo, onn, of, ofs, od, ovk, oks⟩ wl.drew) := KB.out _ _ BL.out (Below.refl _ _).drew
  have PQ : Hid (PX wl.drew pb b rb S R O V) := ML.out.below (Below.refl _ _).drew
  have GQ : Hid (Below wl.heap.size wl wl.drew) := (Below.refl _ _).drew
  refine wp_region_T (fun q => Bxs pb w.heap.size b rb ⟨2, os, on, ot, .slice va oD.length vc, oD, oo, onn, of, ofs, od, ovk, oks⟩ q) 12 (by kernel_rfl) ?_
  generalize wl.drew = q at *
  refine Ix.tk 0 ⟨some 51, .move (.tmp 0), _, _, _, _⟩ (.pointer (some ⟨pb, 0, none⟩)) [12] ?_ KP.out ?_
  ·intro wq hSw; go_simp
  (try simp only [zzp, zzb, zzc])
  refine Ix.tk 1 ⟨some 52, .nilCheck (.tmp 51), _, _, _, _⟩ (.pointer (some ⟨pb, 0, none⟩)) [12] ?_ KP.out ?_
  ·intro wq hSw; go_simp
  (try simp only [zzp, zzb, zzc])
  refine Ix.tk 2 ⟨some 53, .fieldAddr 29 (.tmp 52) 0, _, _, _, _⟩ (.pointer (some ⟨pb, 0, none⟩)) [12] ?_ KP.out ?_
  ·intro wq hSw; go_simp
  (try simp only [zzp, zzb, zzc])
  refine Ix.tk 3 ⟨some 54, .load 24 (.tmp 53), _, _, _, _⟩ (.pointer (some ⟨b, 0, none⟩)) [12] ?_ KP.out ?_
  ·intro wq hSw
   obtain ⟨x1, x2⟩ := two_cells hSw.p
   obtain ⟨y0, y1, y2, y3, y4, y5, y6, y7, y8, y9⟩ := ten_cells hSw.o
   go_simp
  (try simp only [zzp, zzb, zzc])
  refine Ix.tk 4 ⟨some 55, .fieldAddr 36 (.tmp 3) 2, _, _, _, _⟩ (.pointer (some ⟨w.heap.size, 2, none⟩)) [12] ?_ KP.out ?_
  ·intro wq hSw; go_simp
  (try simp only [zzp, zzb, zzc])
  refine Ix.tk 5 ⟨some 56, .load 9 (.tmp 55), _, _, _, _⟩ (.string on) [12] ?_ KP.out ?_
  ·intro wq hSw
   obtain ⟨x1, x2⟩ := two_cells hSw.p
   obtain ⟨y0, y1, y2, y3, y4, y5, y6, y7, y8, y9⟩ := ten_cells hSw.o
   go_simp
  (try simp only [zzp, zzb, zzc])
  refine Ix.tk 6 ⟨some 57, .move (.tmp 5), _, _, _, _⟩ (.slice (some ⟨lg, 0, none⟩) oD.length lcap) [12] ?_ KP.out ?_
  ·intro wq hSw; go_simp
  (try simp only [zzp, zzb, zzc])
  refine wpAnyT_one (i := 7) (o := ⟨some 58, .call { callee := .value (.func 16), args := #[.tmp 54, .tmp 56, .tmp 57], argTypes := #[24, 9, 30] }, _, _, _, _⟩) (by kernel_rfl) rfl (fun K hK => ?_)
  go_simp
  go_at_call 16
  refine (hA.out q GQ.out PQ.out).mono ?_
  rintro e w1 ⟨O1, rfl, P1, G1⟩
  replace P1 := hide P1
  replace G1 := hide G1
  have K1 : Hid (Bxs pb w.heap.size b rb ⟨2, os, on, ot, .slice va oD.length vc, oD, oo, onn, of, ofs, od, ovk, oks⟩ w1) := ⟨P1.out.box, G1.out.but.at KP.out.o hob.out⟩
  (try go_simp)
  refine hK.out _ _ (fun _ => K1.out) ?_
  clear hK K
  (try simp only [zzp, zzb, zzc])
  refine Ix.tk 8 ⟨some 50, .move (.tmp 58), _, _, _, _⟩ (.tuple #[.int .i64 RS.2.1, .int .i64 RS.2.2]) [12] ?_ K1.out ?_
  ·intro wq hSw; go_simp
  (try simp only [zzp, zzb, zzc])
  refine Ix.tk 9 ⟨some 59, .extract (.tmp 50) 0, _, _, _, _⟩ (.int .i64 RS.2.1) [12] ?_ K1.out ?_
  ·intro wq hSw
   obtain ⟨x1, x2⟩ := two_cells hSw.p
   obtain ⟨y0, y1, y2, y3, y4, y5, y6, y7, y8, y9⟩ := ten_cells hSw.o
   go_simp
  (try simp only [zzp, zzb, zzc])
  refine Ix.tk 10 ⟨some 60, .extract (.tmp 50) 1, _, _, _, _⟩ (.int .i64 RS.2.2) [12] ?_ K1.out ?_
  ·intro wq hSw
   obtain ⟨x1, x2⟩ := two_cells hSw.p
   obtain ⟨y0, y1, y2, y3, y4, y5, y6, y7, y8, y9⟩ := ten_cells hSw.o
   go_simp
  (try simp only [zzp, zzb, zzc])
  refine Ix.tk 11 ⟨some 6, .assign (.tmp 59), _, _, _, _⟩ (.int .i64 RS.2.1) [12] ?_ K1.out ?_
  ·intro wq hSw
   obtain ⟨x1, x2⟩ := two_cells hSw.p
   obtain ⟨y0, y1, y2, y3, y4, y5, y6, y7, y8, y9⟩ := ten_cells hSw.o
   go_simp
  (try simp only [zzp, zzb, zzc])
  refine wpAnyT_one (i := 12) (o := ⟨some 7, .assign (.tmp 60), _, _, _, _⟩) (by kernel_rfl) rfl (fun K hK => ?_)
  go_simp
  refine hK.out _ _ (vac (by kernel_rfl)) ?_
  clear hK K
  (try simp only [zzp, zzb, zzc])
  refine wpAnyT_done (by kernel_rfl) ?_ _
  have S1 : Hid (Sl w1 (.slice va oD.length vc) oD) := sl_but (Below.sl GQ.out (Below.sl LB.out (Below.sl BF.out DD.out))) G1.out.but hDo.out
  have hob1 : Hid (¬ own pb O1 rb V w.heap.size) := fun c => (G1.out.own _ c).elim hob.out (fun c => by have := heap_lt KP.out.o; omega)
  have lgq : Hid (lg < q.heap.size) := Nat.lt_of_lt_of_le LA.out.lt GQ.out.size
  have LN1 : Hid (¬ own pb O1 rb V lg) := fun c => (G1.out.own _ c).elim LN.out (fun c => by have := lgq.out; omega)
  have LW1 : Hid (LentAt w1 lg (.slice (some ⟨lg, 0, none⟩) oD.length lcap) oD) := ⟨lcap, rfl, ownsRow_but (ownsRow_below lo.out GQ.out) G1.out.but (fun k hk c => by simp [Value.ownBlock] at hk; subst hk; exact LN.out c)⟩
  have KP1 : Hid (Bxs pb w.heap.size b rb ⟨2, os, on, ot, .slice va oD.length vc, oD, oo, onn, of, ofs, od, ovk, oks⟩ w1.drew) := KB.out _ _ K1.out (Below.refl _ _).drew
  have PQ1 : Hid (PX w1.drew pb b rb RS.1 R O1 V) := P1.out.below (Below.refl _ _).drew
  have GQ1 : Hid (Below w1.heap.size w1 w1.drew) := (Below.refl _ _).drew
  have SQ1 : Hid (Sl w1.drew (.slice va oD.length vc) oD) := Below.sl GQ1.out S1.out
  go_upto_region 9 with fail
  refine wp_region_T (fun q => Bxs pb w.heap.size b rb ⟨2, os, on, ot, .slice va oD.length vc, oD, oo, onn, of, ofs, od, ovk, oks⟩ q) 13 (by kernel_rfl) ?_
  generalize w1.drew = q1 at *
  refine Ix.tk 0 ⟨some 62, .move (.tmp 0), _, _, _, _⟩ (.pointer (some ⟨pb, 0, none⟩)) [13] ?_ KP1.out ?_
  ·intro wq hSw; go_simp
  (try simp only [zzp, zzb, zzc])
  refine Ix.tk 1 ⟨some 63, .nilCheck (.tmp 62), _, _, _, _⟩ (.pointer (some ⟨pb, 0, none⟩)) [13] ?_ KP1.out ?_
  ·intro wq hSw; go_simp
  (try simp only [zzp, zzb, zzc])
  refine Ix.tk 2 ⟨some 64, .fieldAddr 29 (.tmp 63) 1, _, _, _, _⟩ (.pointer (some ⟨pb, 1, none⟩)) [13] ?_ KP1.out ?_
  ·intro wq hSw; go_simp
  (try simp only [zzp, zzb, zzc])
  refine Ix.tk 3 ⟨some 65, .load 26 (.tmp 64), _, _, _, _⟩ (.pointer (some ⟨rb, 0, none⟩)) [13] ?_ KP1.out ?_
  ·intro wq hSw
   obtain ⟨x1, x2⟩ := two_cells hSw.p
   obtain ⟨y0, y1, y2, y3, y4, y5, y6, y7, y8, y9⟩ := ten_cells hSw.o
   go_simp
  (try simp only [zzp, zzb, zzc])
  refine Ix.tk 4 ⟨some 66, .fieldAddr 36 (.tmp 3) 2, _, _, _, _⟩ (.pointer (some ⟨w.heap.size, 2, none⟩)) [13] ?_ KP1.out ?_
  ·intro wq hSw; go_simp
  (try simp only [zzp, zzb, zzc])
  refine Ix.tk 5 ⟨some 67, .load 9 (.tmp 66), _, _, _, _⟩ (.string on) [13] ?_ KP1.out ?_
  ·intro wq hSw
   obtain ⟨x1, x2⟩ := two_cells hSw.p
   obtain ⟨y0, y1, y2, y3, y4, y5, y6, y7, y8, y9⟩ := ten_cells hSw.o
   go_simp
  (try simp only [zzp, zzb, zzc])
  refine Ix.tk 6 ⟨some 68, .fieldAddr 36 (.tmp 3) 4, _, _, _, _⟩ (.pointer (some ⟨w.heap.size, 4, none⟩)) [13] ?_ KP1.out ?_
  ·intro wq hSw; go_simp
  (try simp only [zzp, zzb, zzc])
  refine Ix.tk 7 ⟨some 69, .load 30 (.tmp 68), _, _, _, _⟩ (.slice va oD.length vc) [13] ?_ KP1.out ?_
  ·intro wq hSw
   obtain ⟨x1, x2⟩ := two_cells hSw.p
   obtain ⟨y0, y1, y2, y3, y4, y5, y6, y7, y8, y9⟩ := ten_cells hSw.o
   go_simp
  (try simp only [zzp, zzb, zzc])
  refine wpAnyT_one (i := 8) (o := ⟨some 70, .call { callee := .value (.func 46), args := #[.tmp 65, .tmp 67, .tmp 69], argTypes := #[26, 9, 30] }, _, _, _, _⟩) (by kernel_rfl) rfl (fun K hK => ?_)
  go_simp
  go_at_call 46
  refine (hB.out q1 _ _ SQ1.out PQ1.out).mono ?_
  rintro e w2 ⟨V2, rfl, P2, G2⟩
  replace P2 := hide P2
  replace G2 := hide G2
  have K2 : Hid (Bxs pb w.heap.size b rb ⟨2, os, on, ot, .slice va oD.length vc, oD, oo, onn, of, ofs, od, ovk, oks⟩ w2) := ⟨P2.out.box, G2.out.but.at KP1.out.o hob1.out⟩
  (try go_simp)
  refine hK.out _ _ (fun _ => K2.out) ?_
  clear hK K
  (try simp only [zzp, zzb, zzc])
  refine Ix.tk 9 ⟨some 61, .move (.tmp 70), _, _, _, _⟩ (.tuple #[.int .i64 RR.2.1, .int .i64 RR.2.2]) [13] ?_ K2.out ?_
  ·intro wq hSw; go_simp
  (try simp only [zzp, zzb, zzc])
  refine Ix.tk 10 ⟨some 71, .extract (.tmp 61) 0, _, _, _, _⟩ (.int .i64 RR.2.1) [13] ?_ K2.out ?_
  ·intro wq hSw
   obtain ⟨x1, x2⟩ := two_cells hSw.p
   obtain ⟨y0, y1, y2, y3, y4, y5, y6, y7, y8, y9⟩ := ten_cells hSw.o
   go_simp
  (try simp only [zzp, zzb, zzc])
  refine Ix.tk 11 ⟨some 72, .extract (.tmp 61) 1, _, _, _, _⟩ (.int .i64 RR.2.2) [13] ?_ K2.out ?_
  ·intro wq hSw
   obtain ⟨x1, x2⟩ := two_cells hSw.p
   obtain ⟨y0, y1, y2, y3, y4, y5, y6, y7, y8, y9⟩ := ten_cells hSw.o
   go_simp
  (try simp only [zzp, zzb, zzc])
  refine Ix.tk 12 ⟨some 8, .assign (.tmp 71), _, _, _, _⟩ (.int .i64 RR.2.1) [13] ?_ K2.out ?_
  ·intro wq hSw
   obtain ⟨x1, x2⟩ := two_cells hSw.p
   obtain ⟨y0, y1, y2, y3, y4, y5, y6, y7, y8, y9⟩ := ten_cells hSw.o
   go_simp
  (try simp only [zzp, zzb, zzc])
  refine wpAnyT_one (i := 13) (o := ⟨some 9, .assign (.tmp 72), _, _, _, _⟩) (by kernel_rfl) rfl (fun K hK => ?_)
  go_simp
  refine hK.out _ _ (vac (by kernel_rfl)) ?_
  clear hK K
  (try simp only [zzp, zzb, zzc])
  refine wpAnyT_done (by kernel_rfl) ?_ _
  have d4 := (ten_cells K2.out.o).2.2.2.2.1
  have LN2 : Hid (¬ own pb O1 rb V2 lg) := fun c => (G2.out.own _ c).elim LN1.out (fun c => by have q1 := LW1.out.lt; have q2 := GQ1.out.size; omega)
  have LW2 : Hid (LentAt w2 lg (.slice (some ⟨lg, 0, none⟩) oD.length lcap) oD) := by
   obtain ⟨cap, e, hr⟩ := LW1.out
   exact ⟨cap, e, ownsRow_but (ownsRow_below hr GQ1.out) G2.out.but (fun k hk c => by simp [Value.ownBlock] at hk; subst hk; exact LN1.out c)⟩
  have lgw : Hid (w.heap.size ≤ lg) := by show _ ≤ _; have q1 := LZ.out; have q2 := BF.out.size; omega
  have GA : Hid (Sgo w w2 (own pb O rb V) (own pb O1 rb V2)) := (Sgo.of_below ((BF.out.trans (LB.out.mono BF.out.size)).trans (GQ.out.mono (Nat.le_trans BF.out.size LB.out.size)))).trans (G1.out.trans ((Sgo.of_below GQ1.out).trans G2.out))
  have hfin : Hid (PW w2 pb b RS.1 (R.play ⟨2, os, on, ot, .slice va oD.length vc, oD, oo, onn, of, ofs, od, ovk, oks⟩) (own pb O1 rb V2)) := by show PW _ _ _ _ _ _; rw [hpR.out]; exact P2.out.toPW
  by_cases e1 : RS.2.1 = RR.2.1
  ·by_cases e2 : RS.2.2 = RR.2.2
   ·have BW : Hid (Below W0.heap.size W0 w2) := GA.out.under (fun k hk => hI.out.lo k (by rw [hQ]; exact hk)) (Nat.le_refl _) hI.out.bel
    have hBk : Hid (Calls Tryz.prog 47 #[.slice (some ⟨lg, 0, none⟩) oD.length lcap, .slice va oD.length vc] w2 fun e w' => e = .returned (.bool true) ∧ w2.grownBy w' (some lg)) := back_any W0 w2 lg _ _ oD BW.out hI.out.ok.dat LW2.out (by have q1 := lgw.out; have q2 := hI.out.bel.size; omega) (by omega)
    have i3 : (RS.2.1 == RR.2.1) = true := by simpa using e1
    have i4 : (RS.2.2 == RR.2.2) = true := by simpa using e2
    clear hA hB hLe e1 e2
    go_wp2_with (go_at_call 47; refine hBk.out.mono ?_; rintro e w3 ⟨rfl, gr⟩)
    go_ret
    have gB := But.of_grownBy (X := fun k => k = lg) gr fun k e => by cases e; rfl
    refine ⟨⟨true, RS.1, _, b, rfl, hfin.out.but gB (fun k hk e => LN2.out (by rw [← e]; exact hk)), ?_, hpS.out _ rfl, fun _ => rfl, fun _ => rfl⟩⟩
    have hG : Sgo w w3 (own pb O rb V) (own pb O1 rb V2) := ⟨but_trans_new GA.out.but gB (fun k e => .inr (by rw [e]; exact lgw.out)), GA.out.own⟩
    first | exact hG | (rw [hQ]; exact hG)
   ·have i3 : (RS.2.1 == RR.2.1) = true := by simpa using e1
    have i4 : (RS.2.2 == RR.2.2) = false := by simpa using e2
    replace e2 := hide e2
    clear hA hB hLe e1
    go_wp2_with fail
    go_ret
    refine ⟨⟨false, RS.1, _, b, rfl, hfin.out, ?_, hpS.out _ rfl, fun hr => absurd (congrArg (·.2) (hRel.out hr)) e2.out, fun _ => rfl⟩⟩
    first | exact GA.out | (rw [hQ]; exact GA.out)
  ·have i3 : (RS.2.1 == RR.2.1) = false := by simpa using e1
   replace e1 := hide e1
   clear hA hB hLe
   go_wp2_with fail
   go_ret
   refine ⟨⟨false, RS.1, _, b, rfl, hfin.out, ?_, hpS.out _ rfl, fun hr => absurd (congrArg (·.1) (hRel.out hr)) e1.out, fun _ => rfl⟩⟩
   first | exact GA.out | (rw [hQ]; exact GA.out)
end Go.Proofs.YtjehpijjneghpaaGreat.Re
namespace Go.Proofs.YtjehpijjneghpaaGreat.Re
open Go.RowKit Go.Maps Go.Sort Go.Shelf Go.Proofs.YtjehpijjneghpaaGreat.Nm Go.Proofs.YtjehpijjneghpaaGreat.Dk
open Ix (wp_region_T wpAnyT wpAnyT_take wpAnyT_one wpAnyT_done vac)
variable {W0 w : World} {pb b : Nat} {S : DS} {R : RB} {Q : Nat → Prop}
theorem read_rm {w : World} {b : Nat} {R : RB} {V : RV} (h : RM w b R V) (I : RI R) (s : ByteArray) (hs : s.size ≤ maxLen) (o n : Int) (g0 : -9223372036854775808 ≤ n) (g1 : n ≤ 9223372036854775807) :
    Calls Tryz.prog 56 #[.pointer (some ⟨b, 0, none⟩), .string s, .int .i64 o, .int .i64 n] w fun e w' => ∃ v, e = .returned (.tuple #[v, .int .i64 (R.read s o n).2]) ∧ Ob w.heap.size w' v (R.read s o n).1 ∧ Below w.heap.size w w' := by
 have hz : (R.lenOf (R.pOf s) : Int) ≤ 1000000000 := by have := (fOf_la I (R.pOf s)).2; rw [← lenOf_fOf] at this; omega
 by_cases h0 : refN R.down R.dir s true = 0
 ·by_cases h1 : 0 ≤ o ∧ 0 ≤ n ∧ o + n ≤ (R.lenOf (R.pOf s) : Int)
  ·have e1 : R.read s o n = (((R.byOf (R.pOf s)).drop o.toNat).take n.toNat, 0) := by unfold RB.read; rw [if_neg (by simp [h0]), if_pos h1]
   rw [e1]
   obtain ⟨o', rfl⟩ : ∃ o' : Nat, o = (o' : Int) := ⟨o.toNat, by omega⟩
   obtain ⟨n', rfl⟩ : ∃ n' : Nat, n = (n' : Int) := ⟨n.toNat, by omega⟩
   exact read_rm_ok h I.dirF s hs o' n' h0 (by omega) hz
  ·have e1 : R.read s o n = ([], 8) := by unfold RB.read; rw [if_neg (by simp [h0]), if_neg h1]
   rw [e1]
   refine (read_rm_out h I.dirF s hs o n g0 g1 h0 h1 hz).mono ?_
   rintro e w' ⟨rfl, hb⟩
   exact ⟨_, rfl, Ob.nil _ _, hb⟩
 ·have e1 : R.read s o n = ([], refN R.down R.dir s true) := by unfold RB.read; rw [if_pos h0]
  rw [e1]
  refine (read_rm_no h s hs o n h0).mono ?_
  rintro e w' ⟨rfl, rfl⟩
  exact ⟨_, rfl, Ob.nil _ _, Below.refl _ _⟩
theorem pl_read (o : Dop) (hk : o.kind = 8) (h : PlI W0 w pb b S R o Q) : Calls Tryz.prog 11 #[.pointer (some ⟨pb, 0, none⟩), opV o] w (PlP w pb b S R o Q) := by
 obtain ⟨rb, O, V, hx, hQ⟩ := h.pw
 have hI := hide h
 have HX := hide hx
 have hlt := hide hx.lt
 have hpR : Hid (R.play o = R) := by show _ = _; unfold RB.play; simp [hk]
 have hpS : Hid (DS.play S o S) := by show DS.play S o S; unfold DS.play; simp [hk]
 have hn1 := hide h.ok.n
 have hnm : Hid (o.nm.size ≤ maxLen) := by show _ ≤ _; have := h.ok.nm; unfold maxLen; omega
 have hA : Hid (∀ q, PX q pb b rb S R O V → Calls Tryz.prog 20 #[.pointer (some ⟨b, 0, none⟩), .string o.nm, .int .i64 o.off, .int .i64 o.n] q fun e w' => ∃ v, e = .returned (.tuple #[v, .int .i64 (S.read o.nm o.off o.n).2]) ∧ Ob q.heap.size w' v (S.read o.nm o.off o.n).1 ∧ Below q.heap.size q w') := fun q hq => read_dsk hq.d o.nm hnm.out o.off o.n
 have hB : Hid (∀ q, PX q pb b rb S R O V → Calls Tryz.prog 56 #[.pointer (some ⟨rb, 0, none⟩), .string o.nm, .int .i64 o.off, .int .i64 o.n] q fun e w' => ∃ v, e = .returned (.tuple #[v, .int .i64 (R.read o.nm o.off o.n).2]) ∧ Ob q.heap.size w' v (R.read o.nm o.off o.n).1 ∧ Below q.heap.size q w') := fun q hq => read_rm hq.r hI.out.ri o.nm hnm.out o.off o.n hn1.out.1 hn1.out.2
 have hC : Hid (∀ q, PX q pb b rb S R O V → Calls Tryz.prog 19 #[.pointer (some ⟨b, 0, none⟩), .string o.nm] q fun e w' => e = .returned (.tuple #[.int .i64 (S.size o.nm).1, .int .i64 (S.size o.nm).2]) ∧ Below q.heap.size q w') := fun q hq => size_dsk hq.d o.nm hnm.out
 have hDD : Hid (∀ q, PX q pb b rb S R O V → Calls Tryz.prog 57 #[.pointer (some ⟨rb, 0, none⟩), .string o.nm] q fun e w' => e = .returned (.tuple #[.int .i64 (R.size o.nm).1, .int .i64 (R.size o.nm).2]) ∧ Below q.heap.size q w') := fun q hq => size_rm hq.r hI.out.ri.dirF o.nm hnm.out
 have hRel : Hid (Rel S R → S.read o.nm o.off o.n = R.read o.nm o.off o.n ∧ S.size o.nm = R.size o.nm) := fun hr => ⟨hr.read _ _ _, hr.size _⟩
 have hL1 : Hid ((S.read o.nm o.off o.n).1.length ≤ maxLen) := by
  show _ ≤ _
  have hk := hx.d.ok
  unfold DS.read
  split
  ·rename_i p e heq
   split
   ·have hp := find_mem heq
    have := hk.sz p hp
    simp only [List.length_take, List.length_drop]
    unfold maxLen
    omega
   ·exact Nat.zero_le _
  ·exact Nat.zero_le _
 have hL2 : Hid ((R.read o.nm o.off o.n).1.length ≤ maxLen) := by
  show _ ≤ _
  unfold RB.read
  split
  ·exact Nat.zero_le _
  ·split
   ·have := (fOf_la h.ri (R.pOf o.nm)).2
    rw [byOf_fOf]
    simp only [List.length_take, List.length_drop]
    unfold maxLen
    omega
   ·exact Nat.zero_le _
 obtain ⟨A, hAe⟩ : ∃ A, Hid (S.read o.nm o.off o.n = A) := ⟨_, rfl⟩
 obtain ⟨B, hBe⟩ : ∃ B, Hid (R.read o.nm o.off o.n = B) := ⟨_, rfl⟩
 obtain ⟨C, hCe⟩ : ∃ C, Hid (S.size o.nm = C) := ⟨_, rfl⟩
 obtain ⟨D, hDe⟩ : ∃ D, Hid (R.size o.nm = D) := ⟨_, rfl⟩
 rw [hAe.out] at hA hRel hL1
 rw [hBe.out] at hB hRel hL2
 rw [hCe.out] at hC hRel
 rw [hDe.out] at hDD hRel
 clear hAe hBe hCe hDe
 obtain ⟨ok, os, on, ot, ov, oD, oo, onn, of, ofs, od, ovk, oks⟩ := o
 dsimp only at *
 subst hk
 have BF := hide (box_below w (.cells #[.int .i64 8, .bool os, .string on, .string ot, ov, .int .i64 oo, .int .i64 onn, of, .int .i64 od, ovk] 36))
 have NF := heap_alloc_new w (.cells #[.int .i64 8, .bool os, .string on, .string ot, ov, .int .i64 oo, .int .i64 onn, of, .int .i64 od, ovk] 36)
 clear hx h
 unfold opV
 go_enter Tryz.func11, Tryz.ntmps11
 obtain ⟨wf, hwf⟩ : ∃ wf, Hid (w.alloc (.cells #[.int .i64 8, .bool os, .string on, .string ot, ov, .int .i64 oo, .int .i64 onn, of, .int .i64 od, ovk] 36) = wf) := ⟨_, rfl⟩
 have c0 : (w.alloc (.cells #[.int .i64 8, .bool os, .string on, .string ot, ov, .int .i64 oo, .int .i64 onn, of, .int .i64 od, ovk] 36)).cell? ⟨w.heap.size, 0, none⟩ = some (.int .i64 8) := (ten_cells NF).1
 have c4 : (w.alloc (.cells #[.int .i64 8, .bool os, .string on, .string ot, ov, .int .i64 oo, .int .i64 onn, of, .int .i64 od, ovk] 36)).cell? ⟨w.heap.size, 4, none⟩ = some (ov) := (ten_cells NF).2.2.2.2.1
 have c7 : (w.alloc (.cells #[.int .i64 8, .bool os, .string on, .string ot, ov, .int .i64 oo, .int .i64 onn, of, .int .i64 od, ovk] 36)).cell? ⟨w.heap.size, 7, none⟩ = some (of) := (ten_cells NF).2.2.2.2.2.2.2.1
 go_upto_region 22 with fail
 rw [hwf.out] at BF NF ⊢
 clear c0 c4 c7
 have MX := hide (HX.out.below BF.out)
 have hob : Hid (¬ own pb O rb V w.heap.size) := fun c => Nat.lt_irrefl _ (hlt.out _ c)
 have B0 : Hid (Bxs pb w.heap.size b rb ⟨8, os, on, ot, ov, oD, oo, onn, of, ofs, od, ovk, oks⟩ wf) := ⟨MX.out.box, NF⟩
 have KB : Hid (∀ u u', Bxs pb w.heap.size b rb ⟨8, os, on, ot, ov, oD, oo, onn, of, ofs, od, ovk, oks⟩ u → Below u.heap.size u u' → Bxs pb w.heap.size b rb ⟨8, os, on, ot, ov, oD, oo, onn, of, ofs, od, ovk, oks⟩ u') := fun u u' h hb => h.go (But.of_below hb fun _ => False) (fun c => c) (fun c => c)
 have KP1 : Hid (Bxs pb w.heap.size b rb ⟨8, os, on, ot, ov, oD, oo, onn, of, ofs, od, ovk, oks⟩ wf.drew) := KB.out _ _ B0.out (Below.refl _ _).drew
 have PQ1 : Hid (PX wf.drew pb b rb S R O V) := MX.out.below (Below.refl _ _).drew
 have GQ1 : Hid (Below wf.heap.size wf wf.drew) := (Below.refl _ _).drew
 refine wp_region_T (fun q => Bxs pb w.heap.size b rb ⟨8, os, on, ot, ov, oD, oo, onn, of, ofs, od, ovk, oks⟩ q) 15 (by kernel_rfl) ?_
 generalize wf.drew = q1 at *
 refine Ix.tk 0 ⟨some 179, .move (.tmp 0), _, _, _, _⟩ (.pointer (some ⟨pb, 0, none⟩)) [15] ?_ KP1.out ?_
 ·intro wq hSw; go_simp
 (try simp only [zzp, zzb, zzc])
 refine Ix.tk 1 ⟨some 180, .nilCheck (.tmp 179), _, _, _, _⟩ (.pointer (some ⟨pb, 0, none⟩)) [15] ?_ KP1.out ?_
 ·intro wq hSw; go_simp
 (try simp only [zzp, zzb, zzc])
 refine Ix.tk 2 ⟨some 181, .fieldAddr 29 (.tmp 180) 0, _, _, _, _⟩ (.pointer (some ⟨pb, 0, none⟩)) [15] ?_ KP1.out ?_
 ·intro wq hSw; go_simp
 (try simp only [zzp, zzb, zzc])
 refine Ix.tk 3 ⟨some 182, .load 24 (.tmp 181), _, _, _, _⟩ (.pointer (some ⟨b, 0, none⟩)) [15] ?_ KP1.out ?_
 ·intro wq hSw
  obtain ⟨x1, x2⟩ := two_cells hSw.p
  obtain ⟨y0, y1, y2, y3, y4, y5, y6, y7, y8, y9⟩ := ten_cells hSw.o
  go_simp
 (try simp only [zzp, zzb, zzc])
 refine Ix.tk 4 ⟨some 183, .fieldAddr 36 (.tmp 3) 2, _, _, _, _⟩ (.pointer (some ⟨w.heap.size, 2, none⟩)) [15] ?_ KP1.out ?_
 ·intro wq hSw; go_simp
 (try simp only [zzp, zzb, zzc])
 refine Ix.tk 5 ⟨some 184, .load 9 (.tmp 183), _, _, _, _⟩ (.string on) [15] ?_ KP1.out ?_
 ·intro wq hSw
  obtain ⟨x1, x2⟩ := two_cells hSw.p
  obtain ⟨y0, y1, y2, y3, y4, y5, y6, y7, y8, y9⟩ := ten_cells hSw.o
  go_simp
 (try simp only [zzp, zzb, zzc])
 refine Ix.tk 6 ⟨some 185, .fieldAddr 36 (.tmp 3) 5, _, _, _, _⟩ (.pointer (some ⟨w.heap.size, 5, none⟩)) [15] ?_ KP1.out ?_
 ·intro wq hSw; go_simp
 (try simp only [zzp, zzb, zzc])
 refine Ix.tk 7 ⟨some 186, .load 3 (.tmp 185), _, _, _, _⟩ (.int .i64 oo) [15] ?_ KP1.out ?_
 ·intro wq hSw
  obtain ⟨x1, x2⟩ := two_cells hSw.p
  obtain ⟨y0, y1, y2, y3, y4, y5, y6, y7, y8, y9⟩ := ten_cells hSw.o
  go_simp
 (try simp only [zzp, zzb, zzc])
 refine Ix.tk 8 ⟨some 187, .fieldAddr 36 (.tmp 3) 6, _, _, _, _⟩ (.pointer (some ⟨w.heap.size, 6, none⟩)) [15] ?_ KP1.out ?_
 ·intro wq hSw; go_simp
 (try simp only [zzp, zzb, zzc])
 refine Ix.tk 9 ⟨some 188, .load 3 (.tmp 187), _, _, _, _⟩ (.int .i64 onn) [15] ?_ KP1.out ?_
 ·intro wq hSw
  obtain ⟨x1, x2⟩ := two_cells hSw.p
  obtain ⟨y0, y1, y2, y3, y4, y5, y6, y7, y8, y9⟩ := ten_cells hSw.o
  go_simp
 (try simp only [zzp, zzb, zzc])
 refine wpAnyT_one (i := 10) (o := ⟨some 189, .call { callee := .value (.func 20), args := #[.tmp 182, .tmp 184, .tmp 186, .tmp 188], argTypes := #[24, 9, 3, 3] }, _, _, _, _⟩) (by kernel_rfl) rfl (fun K hK => ?_)
 go_simp
 go_at_call 20
 refine (hA.out q1 PQ1.out).mono ?_
 rintro e w1 ⟨v1, rfl, O1, bb1⟩
 obtain ⟨a1, c1, rfl, _, _⟩ := O1.form
 replace O1 := hide O1
 replace bb1 := hide bb1
 have P1 := hide (PQ1.out.below bb1.out)
 have K1 : Hid (Bxs pb w.heap.size b rb ⟨8, os, on, ot, ov, oD, oo, onn, of, ofs, od, ovk, oks⟩ w1) := KB.out _ _ KP1.out bb1.out
 (try go_simp)
 refine hK.out _ _ (fun _ => K1.out) ?_
 clear hK K
 (try simp only [zzp, zzb, zzc])
 refine Ix.tk 11 ⟨some 178, .move (.tmp 189), _, _, _, _⟩ (.tuple #[.slice a1 A.1.length c1, .int .i64 A.2]) [15] ?_ K1.out ?_
 ·intro wq hSw; go_simp
 (try simp only [zzp, zzb, zzc])
 refine Ix.tk 12 ⟨some 190, .extract (.tmp 178) 0, _, _, _, _⟩ (.slice a1 A.1.length c1) [15] ?_ K1.out ?_
 ·intro wq hSw
  obtain ⟨x1, x2⟩ := two_cells hSw.p
  obtain ⟨y0, y1, y2, y3, y4, y5, y6, y7, y8, y9⟩ := ten_cells hSw.o
  go_simp
 (try simp only [zzp, zzb, zzc])
 refine Ix.tk 13 ⟨some 191, .extract (.tmp 178) 1, _, _, _, _⟩ (.int .i64 A.2) [15] ?_ K1.out ?_
 ·intro wq hSw
  obtain ⟨x1, x2⟩ := two_cells hSw.p
  obtain ⟨y0, y1, y2, y3, y4, y5, y6, y7, y8, y9⟩ := ten_cells hSw.o
  go_simp
 (try simp only [zzp, zzb, zzc])
 refine Ix.tk 14 ⟨some 10, .assign (.tmp 190), _, _, _, _⟩ (.slice a1 A.1.length c1) [15] ?_ K1.out ?_
 ·intro wq hSw
  obtain ⟨x1, x2⟩ := two_cells hSw.p
  obtain ⟨y0, y1, y2, y3, y4, y5, y6, y7, y8, y9⟩ := ten_cells hSw.o
  go_simp
 (try simp only [zzp, zzb, zzc])
 refine wpAnyT_one (i := 15) (o := ⟨some 11, .assign (.tmp 191), _, _, _, _⟩) (by kernel_rfl) rfl (fun K hK => ?_)
 go_simp
 refine hK.out _ _ (vac (by kernel_rfl)) ?_
 clear hK K
 (try simp only [zzp, zzb, zzc])
 refine wpAnyT_done (by kernel_rfl) ?_ _
 go_upto_region 23 with fail
 have KP2 : Hid (Bxs pb w.heap.size b rb ⟨8, os, on, ot, ov, oD, oo, onn, of, ofs, od, ovk, oks⟩ w1.drew) := KB.out _ _ K1.out (Below.refl _ _).drew
 have PQ2 : Hid (PX w1.drew pb b rb S R O V) := P1.out.below (Below.refl _ _).drew
 have GQ2 : Hid (Below w1.heap.size w1 w1.drew) := (Below.refl _ _).drew
 refine wp_region_T (fun q => Bxs pb w.heap.size b rb ⟨8, os, on, ot, ov, oD, oo, onn, of, ofs, od, ovk, oks⟩ q) 15 (by kernel_rfl) ?_
 generalize w1.drew = q2 at *
 refine Ix.tk 0 ⟨some 193, .move (.tmp 0), _, _, _, _⟩ (.pointer (some ⟨pb, 0, none⟩)) [15] ?_ KP2.out ?_
 ·intro wq hSw; go_simp
 (try simp only [zzp, zzb, zzc])
 refine Ix.tk 1 ⟨some 194, .nilCheck (.tmp 193), _, _, _, _⟩ (.pointer (some ⟨pb, 0, none⟩)) [15] ?_ KP2.out ?_
 ·intro wq hSw; go_simp
 (try simp only [zzp, zzb, zzc])
 refine Ix.tk 2 ⟨some 195, .fieldAddr 29 (.tmp 194) 1, _, _, _, _⟩ (.pointer (some ⟨pb, 1, none⟩)) [15] ?_ KP2.out ?_
 ·intro wq hSw; go_simp
 (try simp only [zzp, zzb, zzc])
 refine Ix.tk 3 ⟨some 196, .load 26 (.tmp 195), _, _, _, _⟩ (.pointer (some ⟨rb, 0, none⟩)) [15] ?_ KP2.out ?_
 ·intro wq hSw
  obtain ⟨x1, x2⟩ := two_cells hSw.p
  obtain ⟨y0, y1, y2, y3, y4, y5, y6, y7, y8, y9⟩ := ten_cells hSw.o
  go_simp
 (try simp only [zzp, zzb, zzc])
 refine Ix.tk 4 ⟨some 197, .fieldAddr 36 (.tmp 3) 2, _, _, _, _⟩ (.pointer (some ⟨w.heap.size, 2, none⟩)) [15] ?_ KP2.out ?_
 ·intro wq hSw; go_simp
 (try simp only [zzp, zzb, zzc])
 refine Ix.tk 5 ⟨some 198, .load 9 (.tmp 197), _, _, _, _⟩ (.string on) [15] ?_ KP2.out ?_
 ·intro wq hSw
  obtain ⟨x1, x2⟩ := two_cells hSw.p
  obtain ⟨y0, y1, y2, y3, y4, y5, y6, y7, y8, y9⟩ := ten_cells hSw.o
  go_simp
 (try simp only [zzp, zzb, zzc])
 refine Ix.tk 6 ⟨some 199, .fieldAddr 36 (.tmp 3) 5, _, _, _, _⟩ (.pointer (some ⟨w.heap.size, 5, none⟩)) [15] ?_ KP2.out ?_
 ·intro wq hSw; go_simp
 (try simp only [zzp, zzb, zzc])
 refine Ix.tk 7 ⟨some 200, .load 3 (.tmp 199), _, _, _, _⟩ (.int .i64 oo) [15] ?_ KP2.out ?_
 ·intro wq hSw
  obtain ⟨x1, x2⟩ := two_cells hSw.p
  obtain ⟨y0, y1, y2, y3, y4, y5, y6, y7, y8, y9⟩ := ten_cells hSw.o
  go_simp
 (try simp only [zzp, zzb, zzc])
 refine Ix.tk 8 ⟨some 201, .fieldAddr 36 (.tmp 3) 6, _, _, _, _⟩ (.pointer (some ⟨w.heap.size, 6, none⟩)) [15] ?_ KP2.out ?_
 ·intro wq hSw; go_simp
 (try simp only [zzp, zzb, zzc])
 refine Ix.tk 9 ⟨some 202, .load 3 (.tmp 201), _, _, _, _⟩ (.int .i64 onn) [15] ?_ KP2.out ?_
 ·intro wq hSw
  obtain ⟨x1, x2⟩ := two_cells hSw.p
  obtain ⟨y0, y1, y2, y3, y4, y5, y6, y7, y8, y9⟩ := ten_cells hSw.o
  go_simp
 (try simp only [zzp, zzb, zzc])
 refine wpAnyT_one (i := 10) (o := ⟨some 203, .call { callee := .value (.func 56), args := #[.tmp 196, .tmp 198, .tmp 200, .tmp 202], argTypes := #[26, 9, 3, 3] }, _, _, _, _⟩) (by kernel_rfl) rfl (fun K hK => ?_)
 go_simp
 go_at_call 56
 refine (hB.out q2 PQ2.out).mono ?_
 rintro e w2 ⟨v2, rfl, O2, bb2⟩
 obtain ⟨a2, c2, rfl, _, _⟩ := O2.form
 replace O2 := hide O2
 replace bb2 := hide bb2
 have P2 := hide (PQ2.out.below bb2.out)
 have K2 : Hid (Bxs pb w.heap.size b rb ⟨8, os, on, ot, ov, oD, oo, onn, of, ofs, od, ovk, oks⟩ w2) := KB.out _ _ KP2.out bb2.out
 (try go_simp)
 refine hK.out _ _ (fun _ => K2.out) ?_
 clear hK K
 (try simp only [zzp, zzb, zzc])
 refine Ix.tk 11 ⟨some 192, .move (.tmp 203), _, _, _, _⟩ (.tuple #[.slice a2 B.1.length c2, .int .i64 B.2]) [15] ?_ K2.out ?_
 ·intro wq hSw; go_simp
 (try simp only [zzp, zzb, zzc])
 refine Ix.tk 12 ⟨some 204, .extract (.tmp 192) 0, _, _, _, _⟩ (.slice a2 B.1.length c2) [15] ?_ K2.out ?_
 ·intro wq hSw
  obtain ⟨x1, x2⟩ := two_cells hSw.p
  obtain ⟨y0, y1, y2, y3, y4, y5, y6, y7, y8, y9⟩ := ten_cells hSw.o
  go_simp
 (try simp only [zzp, zzb, zzc])
 refine Ix.tk 13 ⟨some 205, .extract (.tmp 192) 1, _, _, _, _⟩ (.int .i64 B.2) [15] ?_ K2.out ?_
 ·intro wq hSw
  obtain ⟨x1, x2⟩ := two_cells hSw.p
  obtain ⟨y0, y1, y2, y3, y4, y5, y6, y7, y8, y9⟩ := ten_cells hSw.o
  go_simp
 (try simp only [zzp, zzb, zzc])
 refine Ix.tk 14 ⟨some 12, .assign (.tmp 204), _, _, _, _⟩ (.slice a2 B.1.length c2) [15] ?_ K2.out ?_
 ·intro wq hSw
  obtain ⟨x1, x2⟩ := two_cells hSw.p
  obtain ⟨y0, y1, y2, y3, y4, y5, y6, y7, y8, y9⟩ := ten_cells hSw.o
  go_simp
 (try simp only [zzp, zzb, zzc])
 refine wpAnyT_one (i := 15) (o := ⟨some 13, .assign (.tmp 205), _, _, _, _⟩) (by kernel_rfl) rfl (fun K hK => ?_)
 go_simp
 refine hK.out _ _ (vac (by kernel_rfl)) ?_
 clear hK K
 (try simp only [zzp, zzb, zzc])
 refine wpAnyT_done (by kernel_rfl) ?_ _
 go_upto_region 24 with fail
 have KP3 : Hid (Bxs pb w.heap.size b rb ⟨8, os, on, ot, ov, oD, oo, onn, of, ofs, od, ovk, oks⟩ w2.drew) := KB.out _ _ K2.out (Below.refl _ _).drew
 have PQ3 : Hid (PX w2.drew pb b rb S R O V) := P2.out.below (Below.refl _ _).drew
 have GQ3 : Hid (Below w2.heap.size w2 w2.drew) := (Below.refl _ _).drew
 refine wp_region_T (fun q => Bxs pb w.heap.size b rb ⟨8, os, on, ot, ov, oD, oo, onn, of, ofs, od, ovk, oks⟩ q) 11 (by kernel_rfl) ?_
 generalize w2.drew = q3 at *
 refine Ix.tk 0 ⟨some 207, .move (.tmp 0), _, _, _, _⟩ (.pointer (some ⟨pb, 0, none⟩)) [11] ?_ KP3.out ?_
 ·intro wq hSw; go_simp
 (try simp only [zzp, zzb, zzc])
 refine Ix.tk 1 ⟨some 208, .nilCheck (.tmp 207), _, _, _, _⟩ (.pointer (some ⟨pb, 0, none⟩)) [11] ?_ KP3.out ?_
 ·intro wq hSw; go_simp
 (try simp only [zzp, zzb, zzc])
 refine Ix.tk 2 ⟨some 209, .fieldAddr 29 (.tmp 208) 0, _, _, _, _⟩ (.pointer (some ⟨pb, 0, none⟩)) [11] ?_ KP3.out ?_
 ·intro wq hSw; go_simp
 (try simp only [zzp, zzb, zzc])
 refine Ix.tk 3 ⟨some 210, .load 24 (.tmp 209), _, _, _, _⟩ (.pointer (some ⟨b, 0, none⟩)) [11] ?_ KP3.out ?_
 ·intro wq hSw
  obtain ⟨x1, x2⟩ := two_cells hSw.p
  obtain ⟨y0, y1, y2, y3, y4, y5, y6, y7, y8, y9⟩ := ten_cells hSw.o
  go_simp
 (try simp only [zzp, zzb, zzc])
 refine Ix.tk 4 ⟨some 211, .fieldAddr 36 (.tmp 3) 2, _, _, _, _⟩ (.pointer (some ⟨w.heap.size, 2, none⟩)) [11] ?_ KP3.out ?_
 ·intro wq hSw; go_simp
 (try simp only [zzp, zzb, zzc])
 refine Ix.tk 5 ⟨some 212, .load 9 (.tmp 211), _, _, _, _⟩ (.string on) [11] ?_ KP3.out ?_
 ·intro wq hSw
  obtain ⟨x1, x2⟩ := two_cells hSw.p
  obtain ⟨y0, y1, y2, y3, y4, y5, y6, y7, y8, y9⟩ := ten_cells hSw.o
  go_simp
 (try simp only [zzp, zzb, zzc])
 refine wpAnyT_one (i := 6) (o := ⟨some 213, .call { callee := .value (.func 19), args := #[.tmp 210, .tmp 212], argTypes := #[24, 9] }, _, _, _, _⟩) (by kernel_rfl) rfl (fun K hK => ?_)
 go_simp
 go_at_call 19
 refine (hC.out q3 PQ3.out).mono ?_
 rintro e w3 ⟨rfl, bb3⟩
 replace bb3 := hide bb3
 have P3 := hide (PQ3.out.below bb3.out)
 have K3 : Hid (Bxs pb w.heap.size b rb ⟨8, os, on, ot, ov, oD, oo, onn, of, ofs, od, ovk, oks⟩ w3) := KB.out _ _ KP3.out bb3.out
 (try go_simp)
 refine hK.out _ _ (fun _ => K3.out) ?_
 clear hK K
 (try simp only [zzp, zzb, zzc])
 refine Ix.tk 7 ⟨some 206, .move (.tmp 213), _, _, _, _⟩ (.tuple #[.int .i64 C.1, .int .i64 C.2]) [11] ?_ K3.out ?_
 ·intro wq hSw; go_simp
 (try simp only [zzp, zzb, zzc])
 refine Ix.tk 8 ⟨some 214, .extract (.tmp 206) 0, _, _, _, _⟩ (.int .i64 C.1) [11] ?_ K3.out ?_
 ·intro wq hSw
  obtain ⟨x1, x2⟩ := two_cells hSw.p
  obtain ⟨y0, y1, y2, y3, y4, y5, y6, y7, y8, y9⟩ := ten_cells hSw.o
  go_simp
 (try simp only [zzp, zzb, zzc])
 refine Ix.tk 9 ⟨some 215, .extract (.tmp 206) 1, _, _, _, _⟩ (.int .i64 C.2) [11] ?_ K3.out ?_
 ·intro wq hSw
  obtain ⟨x1, x2⟩ := two_cells hSw.p
  obtain ⟨y0, y1, y2, y3, y4, y5, y6, y7, y8, y9⟩ := ten_cells hSw.o
  go_simp
 (try simp only [zzp, zzb, zzc])
 refine Ix.tk 10 ⟨some 14, .assign (.tmp 214), _, _, _, _⟩ (.int .i64 C.1) [11] ?_ K3.out ?_
 ·intro wq hSw
  obtain ⟨x1, x2⟩ := two_cells hSw.p
  obtain ⟨y0, y1, y2, y3, y4, y5, y6, y7, y8, y9⟩ := ten_cells hSw.o
  go_simp
 (try simp only [zzp, zzb, zzc])
 refine wpAnyT_one (i := 11) (o := ⟨some 15, .assign (.tmp 215), _, _, _, _⟩) (by kernel_rfl) rfl (fun K hK => ?_)
 go_simp
 refine hK.out _ _ (vac (by kernel_rfl)) ?_
 clear hK K
 (try simp only [zzp, zzb, zzc])
 refine wpAnyT_done (by kernel_rfl) ?_ _
 go_upto_region 25 with fail
 have KP4 : Hid (Bxs pb w.heap.size b rb ⟨8, os, on, ot, ov, oD, oo, onn, of, ofs, od, ovk, oks⟩ w3.drew) := KB.out _ _ K3.out (Below.refl _ _).drew
 have PQ4 : Hid (PX w3.drew pb b rb S R O V) := P3.out.below (Below.refl _ _).drew
 have GQ4 : Hid (Below w3.heap.size w3 w3.drew) := (Below.refl _ _).drew
 refine wp_region_T (fun q => Bxs pb w.heap.size b rb ⟨8, os, on, ot, ov, oD, oo, onn, of, ofs, od, ovk, oks⟩ q) 11 (by kernel_rfl) ?_
 generalize w3.drew = q4 at *
 refine Ix.tk 0 ⟨some 217, .move (.tmp 0), _, _, _, _⟩ (.pointer (some ⟨pb, 0, none⟩)) [11] ?_ KP4.out ?_
 ·intro wq hSw; go_simp
 (try simp only [zzp, zzb, zzc])
 refine Ix.tk 1 ⟨some 218, .nilCheck (.tmp 217), _, _, _, _⟩ (.pointer (some ⟨pb, 0, none⟩)) [11] ?_ KP4.out ?_
 ·intro wq hSw; go_simp
 (try simp only [zzp, zzb, zzc])
 refine Ix.tk 2 ⟨some 219, .fieldAddr 29 (.tmp 218) 1, _, _, _, _⟩ (.pointer (some ⟨pb, 1, none⟩)) [11] ?_ KP4.out ?_
 ·intro wq hSw; go_simp
 (try simp only [zzp, zzb, zzc])
 refine Ix.tk 3 ⟨some 220, .load 26 (.tmp 219), _, _, _, _⟩ (.pointer (some ⟨rb, 0, none⟩)) [11] ?_ KP4.out ?_
 ·intro wq hSw
  obtain ⟨x1, x2⟩ := two_cells hSw.p
  obtain ⟨y0, y1, y2, y3, y4, y5, y6, y7, y8, y9⟩ := ten_cells hSw.o
  go_simp
 (try simp only [zzp, zzb, zzc])
 refine Ix.tk 4 ⟨some 221, .fieldAddr 36 (.tmp 3) 2, _, _, _, _⟩ (.pointer (some ⟨w.heap.size, 2, none⟩)) [11] ?_ KP4.out ?_
 ·intro wq hSw; go_simp
 (try simp only [zzp, zzb, zzc])
 refine Ix.tk 5 ⟨some 222, .load 9 (.tmp 221), _, _, _, _⟩ (.string on) [11] ?_ KP4.out ?_
 ·intro wq hSw
  obtain ⟨x1, x2⟩ := two_cells hSw.p
  obtain ⟨y0, y1, y2, y3, y4, y5, y6, y7, y8, y9⟩ := ten_cells hSw.o
  go_simp
 (try simp only [zzp, zzb, zzc])
 refine wpAnyT_one (i := 6) (o := ⟨some 223, .call { callee := .value (.func 57), args := #[.tmp 220, .tmp 222], argTypes := #[26, 9] }, _, _, _, _⟩) (by kernel_rfl) rfl (fun K hK => ?_)
 go_simp
 go_at_call 57
 refine (hDD.out q4 PQ4.out).mono ?_
 rintro e w4 ⟨rfl, bb4⟩
 replace bb4 := hide bb4
 have P4 := hide (PQ4.out.below bb4.out)
 have K4 : Hid (Bxs pb w.heap.size b rb ⟨8, os, on, ot, ov, oD, oo, onn, of, ofs, od, ovk, oks⟩ w4) := KB.out _ _ KP4.out bb4.out
 (try go_simp)
 refine hK.out _ _ (fun _ => K4.out) ?_
 clear hK K
 (try simp only [zzp, zzb, zzc])
 refine Ix.tk 7 ⟨some 216, .move (.tmp 223), _, _, _, _⟩ (.tuple #[.int .i64 D.1, .int .i64 D.2]) [11] ?_ K4.out ?_
 ·intro wq hSw; go_simp
 (try simp only [zzp, zzb, zzc])
 refine Ix.tk 8 ⟨some 224, .extract (.tmp 216) 0, _, _, _, _⟩ (.int .i64 D.1) [11] ?_ K4.out ?_
 ·intro wq hSw
  obtain ⟨x1, x2⟩ := two_cells hSw.p
  obtain ⟨y0, y1, y2, y3, y4, y5, y6, y7, y8, y9⟩ := ten_cells hSw.o
  go_simp
 (try simp only [zzp, zzb, zzc])
 refine Ix.tk 9 ⟨some 225, .extract (.tmp 216) 1, _, _, _, _⟩ (.int .i64 D.2) [11] ?_ K4.out ?_
 ·intro wq hSw
  obtain ⟨x1, x2⟩ := two_cells hSw.p
  obtain ⟨y0, y1, y2, y3, y4, y5, y6, y7, y8, y9⟩ := ten_cells hSw.o
  go_simp
 (try simp only [zzp, zzb, zzc])
 refine Ix.tk 10 ⟨some 16, .assign (.tmp 224), _, _, _, _⟩ (.int .i64 D.1) [11] ?_ K4.out ?_
 ·intro wq hSw
  obtain ⟨x1, x2⟩ := two_cells hSw.p
  obtain ⟨y0, y1, y2, y3, y4, y5, y6, y7, y8, y9⟩ := ten_cells hSw.o
  go_simp
 (try simp only [zzp, zzb, zzc])
 refine wpAnyT_one (i := 11) (o := ⟨some 17, .assign (.tmp 225), _, _, _, _⟩) (by kernel_rfl) rfl (fun K hK => ?_)
 go_simp
 refine hK.out _ _ (vac (by kernel_rfl)) ?_
 clear hK K
 (try simp only [zzp, zzb, zzc])
 refine wpAnyT_done (by kernel_rfl) ?_ _
 have G1 : Hid (Below q1.heap.size q1 w4) := bb1.out.trans (((GQ2.out.trans (bb2.out.mono GQ2.out.size)).trans (((GQ3.out.trans (bb3.out.mono GQ3.out.size)).trans ((GQ4.out.trans (bb4.out.mono GQ4.out.size)).mono (Nat.le_trans GQ3.out.size bb3.out.size))).mono (Nat.le_trans GQ2.out.size bb2.out.size))).mono bb1.out.size)
 have G14 : Hid (Below w1.heap.size w1 w4) := (GQ2.out.trans (bb2.out.mono GQ2.out.size)).trans (((GQ3.out.trans (bb3.out.mono GQ3.out.size)).trans ((GQ4.out.trans (bb4.out.mono GQ4.out.size)).mono (Nat.le_trans GQ3.out.size bb3.out.size))).mono (Nat.le_trans GQ2.out.size bb2.out.size))
 have G24 : Hid (Below w2.heap.size w2 w4) := (GQ3.out.trans (bb3.out.mono GQ3.out.size)).trans ((GQ4.out.trans (bb4.out.mono GQ4.out.size)).mono (Nat.le_trans GQ3.out.size bb3.out.size))
 have GA : Hid (Below w.heap.size w w4) := BF.out.trans ((GQ1.out.trans (G1.out.mono GQ1.out.size)).mono BF.out.size)
 have OA := O1.out.below G14.out
 have OB_ := O2.out.below G24.out
 have hEq : Hid (Calls Tryz.prog 21 #[.slice a1 A.1.length c1, .slice a2 B.1.length c2] w4 fun e w' => e = .returned (.bool (decide (A.1 = B.1))) ∧ Qt w4 w') := by
  obtain ⟨ao, ca, e1, _, _, _, r1⟩ := OA.sl
  obtain ⟨bo, cb, e2, _, _, _, r2⟩ := OB_.sl
  simp only [Value.slice.injEq] at e1 e2
  obtain ⟨rfl, _, rfl⟩ := e1
  obtain ⟨rfl, _, rfl⟩ := e2
  exact eq_any w4 _ _ _ _ _ _ hL1.out hL2.out r1 r2
 have P4' := hide (PQ4.out.below bb4.out)
 have hfin : Hid (∀ u r, Below w4.heap.size w4 u → (Rel S R → r = true) → PlP w pb b S R ⟨8, os, on, ot, ov, oD, oo, onn, of, ofs, od, ovk, oks⟩ Q (.returned (.bool r)) u) := fun u r hu hr => by
  have hb : Below w.heap.size w u := GA.out.trans (hu.mono GA.out.size)
  refine ⟨⟨r, S, Q, b, rfl, ?_, Sgo.of_below hb, hpS.out, hr, fun _ => rfl⟩⟩
  rw [hpR.out]
  exact ⟨rb, O, V, HX.out.below hb, hQ⟩
 clear OA OB_ hA hB hC hDD
 by_cases e1 : A.1 = B.1
 ·have dE : decide (A.1 = B.1) = true := by simpa using e1
  rw [dE] at hEq
  by_cases e2 : A.2 = B.2
  ·have i2 : (A.2 == B.2) = true := by simpa using e2
   by_cases e3 : C.1 = D.1
   ·have i3 : (C.1 == D.1) = true := by simpa using e3
    by_cases e4 : C.2 = D.2
    ·have i4 : (C.2 == D.2) = true := by simpa using e4
     clear e1 e2 e3 e4 dE
     go_wp2_with (go_at_call 21; refine hEq.out.mono ?_; rintro e w5 ⟨rfl, B5⟩)
     go_ret
     exact hfin.out _ _ (Qt.below B5 _) (fun _ => rfl)
    ·have i4 : (C.2 == D.2) = false := by simpa using e4
     have hno : Hid (¬ Rel S R) := fun hr => e4 (by rw [(hRel.out hr).2])
     clear e1 e2 e3 e4 dE
     go_wp2_with (go_at_call 21; refine hEq.out.mono ?_; rintro e w5 ⟨rfl, B5⟩)
     go_ret
     exact hfin.out _ _ (Qt.below B5 _) (fun hr => absurd hr hno.out)
   ·have i3 : (C.1 == D.1) = false := by simpa using e3
    have hno : Hid (¬ Rel S R) := fun hr => e3 (by rw [(hRel.out hr).2])
    clear e1 e2 e3 dE
    go_wp2_with (go_at_call 21; refine hEq.out.mono ?_; rintro e w5 ⟨rfl, B5⟩)
    go_ret
    exact hfin.out _ _ (Qt.below B5 _) (fun hr => absurd hr hno.out)
  ·have i2 : (A.2 == B.2) = false := by simpa using e2
   have hno : Hid (¬ Rel S R) := fun hr => e2 (by rw [(hRel.out hr).1])
   clear e1 e2 dE
   go_wp2_with (go_at_call 21; refine hEq.out.mono ?_; rintro e w5 ⟨rfl, B5⟩)
   go_ret
   exact hfin.out _ _ (Qt.below B5 _) (fun hr => absurd hr hno.out)
 ·have dE : decide (A.1 = B.1) = false := by simpa using e1
  rw [dE] at hEq
  have hno : Hid (¬ Rel S R) := fun hr => e1 (by rw [(hRel.out hr).1])
  clear e1 dE
  go_wp2_with (go_at_call 21; refine hEq.out.mono ?_; rintro e w5 ⟨rfl, B5⟩)
  go_ret
  exact hfin.out _ _ (Qt.below B5 _) (fun hr => absurd hr hno.out)
end Go.Proofs.YtjehpijjneghpaaGreat.Re
namespace Go.Proofs.YtjehpijjneghpaaGreat.Re
open Go.RowKit Go.Maps Go.Sort Go.Shelf Go.Proofs.YtjehpijjneghpaaGreat.Nm Go.Proofs.YtjehpijjneghpaaGreat.Dk
open Ix (wp_region_T wpAnyT wpAnyT_take wpAnyT_one wpAnyT_done vac)
variable {W0 w : World} {pb b : Nat} {S : DS} {R : RB} {Q : Nat → Prop}
theorem arm_dskE {O : Nat → Prop} (h : DskE w b S O) (hc : S.c7 < 900000000) (v : Value) (fs : List Ft) (hv : Fts w v fs) (h4 : ∀ t ∈ fs, t.2.1 ≠ 4) : Calls Tryz.prog 59 #[.pointer (some ⟨b, 0, none⟩), v] w (Does w b O (S.arm fs)) := by obtain ⟨f, g, pd, am, VB, VL, hd⟩ := h; exact arm_any hd hc v fs hv h4
theorem tails_dskE {O : Nat → Prop} (h : DskE w b S O) (hc : S.c7 < 1000000000) (n : Int) (n0 : -9223372036854775808 ≤ n) (n1 : n ≤ 9223372036854775807) : Calls Tryz.prog 27 #[.pointer (some ⟨b, 0, none⟩), .int .i64 n] w fun e w' => ∃ v, e = .returned v ∧ Tl w.heap.size w' v (S.tails n) ∧ Below w.heap.size w w' := by obtain ⟨f, g, pd, am, VB, VL, hd⟩ := h; exact tails_any hd hc n n0 n1
theorem arm_rmE {V : RV} (h : RM w b R V) (v : Value) (fs : List Ft) (hv : w.ownsRow 0 118 3 v fs.length (acells fs)) : Calls Tryz.prog 60 #[.pointer (some ⟨b, 0, none⟩), v] w fun e w' => e = .returned (.int .i64 (R.arm fs).2) ∧ Rgo w w' b V (R.arm fs).1 := by
 refine (arm_rm h v fs (fts_of hv) (fun n c e => ?_)).mono ?_
 ·rcases hv.2 with ⟨e2, _⟩ | ⟨g, cap, cur, e2, _⟩
  ·rw [e2] at e; simp only [Value.slice.injEq] at e; omega
  ·rw [e2] at e; simp at e
 ·rintro e w' ⟨R', er, rfl, hh⟩
  obtain ⟨h1, h2, h3⟩ := hh.out
  unfold RB.arm
  by_cases hc : fs.length ≤ 64 ∧ MayL fs fs.length
  ·rw [if_pos hc]; obtain ⟨rfl, rfl⟩ := h2 hc; exact ⟨rfl, h1⟩
  ·rw [if_neg hc]; obtain ⟨rfl, rfl⟩ := h3 hc; exact ⟨rfl, h1⟩
theorem pl_arm (o : Dop) (hk : o.kind = 9) (h : PlI W0 w pb b S R o Q) : Calls Tryz.prog 11 #[.pointer (some ⟨pb, 0, none⟩), opV o] w (PlP w pb b S R o Q) := by
 obtain ⟨rb, O, V, hx, hQ⟩ := h.pw
 have hI := hide h
 have HX := hide hx
 have hlt := hide hx.lt
 have hpR : Hid (R.play o = (R.arm (calm o.fs)).1) := by show _ = _; unfold RB.play; simp [hk]
 have hpS : Hid (DS.play S o (S.arm (calm o.fs)).1) := by show DS.play S o _; unfold DS.play; simp [hk]
 have hCa : Hid (∀ q, Below w.heap.size w q → Calls Tryz.prog 58 #[o.vf] q fun e w' => ∃ v', e = .returned v' ∧ w'.ownsRow q.heap.size 118 3 v' (calm o.fs).length (acells (calm o.fs)) ∧ Below q.heap.size q w') := fun q hq => calm_any q _ _ ((h.ok.fs.below h.bel).below hq) h.ok.fsl
 have hA : Hid (∀ q v, q.ownsRow 0 118 3 v (calm o.fs).length (acells (calm o.fs)) → PX q pb b rb S R O V → Calls Tryz.prog 59 #[.pointer (some ⟨b, 0, none⟩), v] q fun e w' => ∃ O', e = .returned (.int .i64 (S.arm (calm o.fs)).2) ∧ PX w' pb b rb (S.arm (calm o.fs)).1 R O' V ∧ Sgo q w' (own pb O rb V) (own pb O' rb V)) := fun q v hv hq => by
  refine (arm_dskE hq.d (by have := hI.out.cs; omega) v _ (fts_of hv) (calm_no4 _)).mono ?_
  rintro e w' ⟨rfl, O', hd, hg⟩
  obtain ⟨px, gx⟩ := hq.stepA hd hg
  exact ⟨O', rfl, px, gx⟩
 have hB : Hid (∀ q v S' O', q.ownsRow 0 118 3 v (calm o.fs).length (acells (calm o.fs)) → PX q pb b rb S' R O' V → Calls Tryz.prog 60 #[.pointer (some ⟨rb, 0, none⟩), v] q fun e w' => ∃ V', e = .returned (.int .i64 (R.arm (calm o.fs)).2) ∧ PX w' pb b rb S' (R.arm (calm o.fs)).1 O' V' ∧ Sgo q w' (own pb O' rb V) (own pb O' rb V')) := fun q v S' O' hv hq => by
  refine (arm_rmE hq.r v _ hv).mono ?_
  rintro e w' ⟨rfl, hg⟩
  obtain ⟨V', px, gx⟩ := hq.stepB hg
  exact ⟨V', rfl, px, gx⟩
 have hRel : Hid (Rel S R → (S.arm (calm o.fs)).2 = (R.arm (calm o.fs)).2) := fun hr => (hr.armed _ (calm_no4 _)).2
 obtain ⟨RS, hRS⟩ : ∃ RS, Hid (S.arm (calm o.fs) = RS) := ⟨_, rfl⟩
 obtain ⟨RR, hRR⟩ : ∃ RR, Hid (R.arm (calm o.fs) = RR) := ⟨_, rfl⟩
 rw [hRS.out] at hA hRel hpS
 rw [hRR.out] at hB hRel hpR
 have hfs := h.ok.fs
 clear hRS hRR
 generalize calm o.fs = cf at *
 obtain ⟨ok, os, on, ot, ov, oD, oo, onn, of, ofs, od, ovk, oks⟩ := o
 dsimp only at *
 subst hk
 obtain ⟨fa, fc, rfl, _, _, _⟩ := hfs
 have BF := hide (box_below w (.cells #[.int .i64 9, .bool os, .string on, .string ot, ov, .int .i64 oo, .int .i64 onn, .slice fa ofs.length fc, .int .i64 od, ovk] 36))
 have NF := heap_alloc_new w (.cells #[.int .i64 9, .bool os, .string on, .string ot, ov, .int .i64 oo, .int .i64 onn, .slice fa ofs.length fc, .int .i64 od, ovk] 36)
 clear hx h
 unfold opV
 go_enter Tryz.func11, Tryz.ntmps11
 obtain ⟨wf, hwf⟩ : ∃ wf, Hid (w.alloc (.cells #[.int .i64 9, .bool os, .string on, .string ot, ov, .int .i64 oo, .int .i64 onn, .slice fa ofs.length fc, .int .i64 od, ovk] 36) = wf) := ⟨_, rfl⟩
 have c0 : (w.alloc (.cells #[.int .i64 9, .bool os, .string on, .string ot, ov, .int .i64 oo, .int .i64 onn, .slice fa ofs.length fc, .int .i64 od, ovk] 36)).cell? ⟨w.heap.size, 0, none⟩ = some (.int .i64 9) := (ten_cells NF).1
 have c4 : (w.alloc (.cells #[.int .i64 9, .bool os, .string on, .string ot, ov, .int .i64 oo, .int .i64 onn, .slice fa ofs.length fc, .int .i64 od, ovk] 36)).cell? ⟨w.heap.size, 4, none⟩ = some (ov) := (ten_cells NF).2.2.2.2.1
 have c7 : (w.alloc (.cells #[.int .i64 9, .bool os, .string on, .string ot, ov, .int .i64 oo, .int .i64 onn, .slice fa ofs.length fc, .int .i64 od, ovk] 36)).cell? ⟨w.heap.size, 7, none⟩ = some (.slice fa ofs.length fc) := (ten_cells NF).2.2.2.2.2.2.2.1
 have BFo := BF.out
 go_upto_region 29 with (go_at_call 58; refine (hCa.out _ BFo).mono ?_; rintro e wl ⟨cv, rfl, CR, LB⟩; replace CR := hide CR; replace LB := hide LB)
 rw [hwf.out] at BF NF LB CR
 clear c0 c4 c7 BFo
 have MX := hide (HX.out.below BF.out)
 have hob : Hid (¬ own pb O rb V w.heap.size) := fun c => Nat.lt_irrefl _ (hlt.out _ c)
 have B0 : Hid (Bxs pb w.heap.size b rb ⟨9, os, on, ot, ov, oD, oo, onn, .slice fa ofs.length fc, ofs, od, ovk, oks⟩ wf) := ⟨MX.out.box, NF⟩
 have KB : Hid (∀ u u', Bxs pb w.heap.size b rb ⟨9, os, on, ot, ov, oD, oo, onn, .slice fa ofs.length fc, ofs, od, ovk, oks⟩ u → Below u.heap.size u u' → Bxs pb w.heap.size b rb ⟨9, os, on, ot, ov, oD, oo, onn, .slice fa ofs.length fc, ofs, od, ovk, oks⟩ u') := fun u u' h hb => h.go (But.of_below hb fun _ => False) (fun c => c) (fun c => c)
 have ML := hide (MX.out.below LB.out)
 have BL : Hid (Bxs pb w.heap.size b rb ⟨9, os, on, ot, ov, oD, oo, onn, .slice fa ofs.length fc, ofs, od, ovk, oks⟩ wl) := KB.out _ _ B0.out LB.out
 have KP : Hid (Bxs pb w.heap.size b rb ⟨9, os, on, ot, ov, oD, oo, onn, .slice fa ofs.length fc, ofs, od, ovk, oks⟩ wl.drew) := KB.out _ _ BL.out (Below.refl _ _).drew
 have PQ : Hid (PX wl.drew pb b rb S R O V) := ML.out.below (Below.refl _ _).drew
 have GQ : Hid (Below wl.heap.size wl wl.drew) := (Below.refl _ _).drew
 have CQ : Hid (wl.drew.ownsRow wf.heap.size 118 3 cv cf.length (acells cf)) := owns_belowN CR.out GQ.out
 have hcv : ∃ ca cn cc, cv = .slice ca cn cc := by rcases CR.out.2 with ⟨e, _⟩ | ⟨g, cap, cur, e, _⟩ <;> exact ⟨_, _, _, e⟩
 obtain ⟨ca, cn, cc, rfl⟩ := hcv
 refine wp_region_T (fun q => Bxs pb w.heap.size b rb ⟨9, os, on, ot, ov, oD, oo, onn, .slice fa ofs.length fc, ofs, od, ovk, oks⟩ q) 13 (by kernel_rfl) ?_
 generalize wl.drew = q at *
 refine Ix.tk 0 ⟨some 249, .move (.tmp 0), _, _, _, _⟩ (.pointer (some ⟨pb, 0, none⟩)) [13] ?_ KP.out ?_
 ·intro wq hSw; go_simp
 (try simp only [zzp, zzb, zzc])
 refine Ix.tk 1 ⟨some 250, .nilCheck (.tmp 249), _, _, _, _⟩ (.pointer (some ⟨pb, 0, none⟩)) [13] ?_ KP.out ?_
 ·intro wq hSw; go_simp
 (try simp only [zzp, zzb, zzc])
 refine Ix.tk 2 ⟨some 251, .fieldAddr 29 (.tmp 250) 0, _, _, _, _⟩ (.pointer (some ⟨pb, 0, none⟩)) [13] ?_ KP.out ?_
 ·intro wq hSw; go_simp
 (try simp only [zzp, zzb, zzc])
 refine Ix.tk 3 ⟨some 252, .load 24 (.tmp 251), _, _, _, _⟩ (.pointer (some ⟨b, 0, none⟩)) [13] ?_ KP.out ?_
 ·intro wq hSw
  obtain ⟨x1, x2⟩ := two_cells hSw.p
  obtain ⟨y0, y1, y2, y3, y4, y5, y6, y7, y8, y9⟩ := ten_cells hSw.o
  go_simp
 (try simp only [zzp, zzb, zzc])
 refine Ix.tk 4 ⟨some 253, .move (.tmp 18), _, _, _, _⟩ (.slice ca cn cc) [13] ?_ KP.out ?_
 ·intro wq hSw; go_simp
 (try simp only [zzp, zzb, zzc])
 refine Ix.tk 6 ⟨some 255, .move (.tmp 0), _, _, _, _⟩ (.pointer (some ⟨pb, 0, none⟩)) [13] ?_ KP.out ?_
 ·intro wq hSw; go_simp
 (try simp only [zzp, zzb, zzc])
 refine Ix.tk 7 ⟨some 256, .nilCheck (.tmp 255), _, _, _, _⟩ (.pointer (some ⟨pb, 0, none⟩)) [13] ?_ KP.out ?_
 ·intro wq hSw; go_simp
 (try simp only [zzp, zzb, zzc])
 refine Ix.tk 8 ⟨some 257, .fieldAddr 29 (.tmp 256) 1, _, _, _, _⟩ (.pointer (some ⟨pb, 1, none⟩)) [13] ?_ KP.out ?_
 ·intro wq hSw; go_simp
 (try simp only [zzp, zzb, zzc])
 refine Ix.tk 9 ⟨some 258, .load 26 (.tmp 257), _, _, _, _⟩ (.pointer (some ⟨rb, 0, none⟩)) [13] ?_ KP.out ?_
 ·intro wq hSw
  obtain ⟨x1, x2⟩ := two_cells hSw.p
  obtain ⟨y0, y1, y2, y3, y4, y5, y6, y7, y8, y9⟩ := ten_cells hSw.o
  go_simp
 (try simp only [zzp, zzb, zzc])
 refine Ix.tk 10 ⟨some 259, .move (.tmp 18), _, _, _, _⟩ (.slice ca cn cc) [13] ?_ KP.out ?_
 ·intro wq hSw; go_simp
 (try simp only [zzp, zzb, zzc])
 refine wpAnyT_one (i := 5) (o := ⟨some 254, .call { callee := .value (.func 59), args := #[.tmp 252, .tmp 253], argTypes := #[24, 31] }, _, _, _, _⟩) (by kernel_rfl) rfl (fun K hK => ?_)
 go_simp
 go_at_call 59
 refine (hA.out q _ (⟨CQ.out.1, CQ.out.2.imp id fun ⟨g, cap, cur, e, _, r⟩ => ⟨g, cap, cur, e, Nat.zero_le _, r⟩⟩) PQ.out).mono ?_
 rintro e w1 ⟨O1, rfl, P1, G1⟩
 replace P1 := hide P1
 replace G1 := hide G1
 have K1 : Hid (Bxs pb w.heap.size b rb ⟨9, os, on, ot, ov, oD, oo, onn, .slice fa ofs.length fc, ofs, od, ovk, oks⟩ w1) := ⟨P1.out.box, G1.out.but.at KP.out.o hob.out⟩
 have C1 : Hid (w1.ownsRow wf.heap.size 118 3 (.slice ca cn cc) cf.length (acells cf)) := ownsRow_but CQ.out G1.out.but (fun k hk c => by have q1 := (World.ownsRow.lt CQ.out k hk).1; have q2 := hlt.out k c; have q3 := BF.out.size; omega)
 (try go_simp)
 refine hK.out _ _ (fun _ => K1.out) ?_
 clear hK K
 (try simp only [zzp, zzb, zzc])
 refine wpAnyT_one (i := 11) (o := ⟨some 260, .call { callee := .value (.func 60), args := #[.tmp 258, .tmp 259], argTypes := #[26, 31] }, _, _, _, _⟩) (by kernel_rfl) rfl (fun K hK => ?_)
 go_simp
 go_at_call 60
 refine (hB.out w1 _ _ _ (⟨C1.out.1, C1.out.2.imp id fun ⟨g, cap, cur, e, _, r⟩ => ⟨g, cap, cur, e, Nat.zero_le _, r⟩⟩) P1.out).mono ?_
 rintro e w2 ⟨V2, rfl, P2, G2⟩
 replace P2 := hide P2
 replace G2 := hide G2
 have hob1 : ¬ own pb O1 rb V w.heap.size := fun c => (G1.out.own _ c).elim hob.out (fun c => by have := heap_lt KP.out.o; omega)
 have K2 : Hid (Bxs pb w.heap.size b rb ⟨9, os, on, ot, ov, oD, oo, onn, .slice fa ofs.length fc, ofs, od, ovk, oks⟩ w2) := ⟨P2.out.box, G2.out.but.at K1.out.o hob1⟩
 (try go_simp)
 refine hK.out _ _ (fun _ => K2.out) ?_
 clear hK K
 (try simp only [zzp, zzb, zzc])
 refine Ix.tk 12 ⟨some 261, .binOp .eql 41 (.tmp 254) (.tmp 260) 41, _, _, _, _⟩ (.bool (RS.2 == RR.2)) [13] ?_ K2.out ?_
 ·intro wq hSw
  obtain ⟨x1, x2⟩ := two_cells hSw.p
  obtain ⟨y0, y1, y2, y3, y4, y5, y6, y7, y8, y9⟩ := ten_cells hSw.o
  go_simp
 (try simp only [zzp, zzb, zzc])
 refine wpAnyT_one (i := 13) (o := ⟨some 4, .assign (.tmp 261), _, _, _, _⟩) (by kernel_rfl) rfl (fun K hK => ?_)
 go_simp
 refine hK.out _ _ (vac (by kernel_rfl)) ?_
 clear hK K
 (try simp only [zzp, zzb, zzc])
 refine wpAnyT_done (by kernel_rfl) ?_ _
 obtain ⟨bb, hbb⟩ : ∃ bb, Hid ((RS.2 == RR.2) = bb) := ⟨_, rfl⟩
 rw [hbb.out]
 go_wp2_with fail
 go_ret
 refine ⟨⟨bb, RS.1, _, b, rfl, by rw [hpR.out]; exact P2.out.toPW, ?_, hpS.out, fun hr => ?_, fun _ => rfl⟩⟩
 ·have hG := (Sgo.of_below (O := own pb O rb V) ((BF.out.trans (LB.out.mono BF.out.size)).trans (GQ.out.mono (Nat.le_trans BF.out.size LB.out.size)))).trans (G1.out.trans G2.out)
  first | exact hG | (rw [hQ]; exact hG)
 ·rw [← hbb.out]
  simpa using hRel.out hr
end Go.Proofs.YtjehpijjneghpaaGreat.Re
namespace Go.Proofs.YtjehpijjneghpaaGreat.Re
open Go.RowKit Go.Maps Go.Sort Go.Shelf Go.Proofs.YtjehpijjneghpaaGreat.Nm Go.Proofs.YtjehpijjneghpaaGreat.Dk
open Ix (wp_region_T wpAnyT wpAnyT_take wpAnyT_one wpAnyT_done vac)
variable {W0 w : World} {pb b : Nat} {S : DS} {R : RB} {Q : Nat → Prop}
theorem pl_tails (o : Dop) (hk : o.kind = 12) (h : PlI W0 w pb b S R o Q) : Calls Tryz.prog 11 #[.pointer (some ⟨pb, 0, none⟩), opV o] w (PlP w pb b S R o Q) := by
 obtain ⟨rb, O, V, hx, hQ⟩ := h.pw
 have hI := hide h
 have HX := hide hx
 have hlt := hide hx.lt
 have hpR : Hid (R.play o = R) := by show _ = _; unfold RB.play; simp [hk]
 have hpS : Hid (DS.play S o S) := by show DS.play S o S; unfold DS.play; simp [hk]
 have hA : Hid (∀ q, PX q pb b rb S R O V → Calls Tryz.prog 27 #[.pointer (some ⟨b, 0, none⟩), .int .i64 o.n] q fun e w' => ∃ v, e = .returned v ∧ Tl q.heap.size w' v (S.tails o.n) ∧ Below q.heap.size q w') := fun q hq => tails_dskE hq.d (by have := hI.out.cs; omega) o.n hI.out.ok.n.1 hI.out.ok.n.2
 have hB : Hid (∀ q, PX q pb b rb S R O V → Calls Tryz.prog 63 #[.pointer (some ⟨rb, 0, none⟩), .int .i64 o.n] q fun e w' => ∃ v, e = .returned v ∧ Tl q.heap.size w' v (R.tails o.n) ∧ Below q.heap.size q w') := fun q hq => tails_rm hq.r (by have := hI.out.ri.cnt; have := hI.out.cr; omega) (hI.out.ri.pf (by have := hI.out.cr; omega)) o.n (hI.out.ri.front _) hI.out.ri.la
 have hRel : Hid (Rel S R → S.tails o.n = R.tails o.n) := fun hr => hr.tails _
 obtain ⟨TA, hTA⟩ : ∃ TA, Hid (S.tails o.n = TA) := ⟨_, rfl⟩
 obtain ⟨TB, hTB⟩ : ∃ TB, Hid (R.tails o.n = TB) := ⟨_, rfl⟩
 rw [hTA.out] at hA hRel
 rw [hTB.out] at hB hRel
 clear hTA hTB
 obtain ⟨ok, os, on, ot, ov, oD, oo, onn, of, ofs, od, ovk, oks⟩ := o
 dsimp only at *
 subst hk
 have BF := hide (box_below w (.cells #[.int .i64 12, .bool os, .string on, .string ot, ov, .int .i64 oo, .int .i64 onn, of, .int .i64 od, ovk] 36))
 have NF := heap_alloc_new w (.cells #[.int .i64 12, .bool os, .string on, .string ot, ov, .int .i64 oo, .int .i64 onn, of, .int .i64 od, ovk] 36)
 clear hx h
 unfold opV
 go_enter Tryz.func11, Tryz.ntmps11
 obtain ⟨wf, hwf⟩ : ∃ wf, Hid (w.alloc (.cells #[.int .i64 12, .bool os, .string on, .string ot, ov, .int .i64 oo, .int .i64 onn, of, .int .i64 od, ovk] 36) = wf) := ⟨_, rfl⟩
 have c0 : (w.alloc (.cells #[.int .i64 12, .bool os, .string on, .string ot, ov, .int .i64 oo, .int .i64 onn, of, .int .i64 od, ovk] 36)).cell? ⟨w.heap.size, 0, none⟩ = some (.int .i64 12) := (ten_cells NF).1
 have c4 : (w.alloc (.cells #[.int .i64 12, .bool os, .string on, .string ot, ov, .int .i64 oo, .int .i64 onn, of, .int .i64 od, ovk] 36)).cell? ⟨w.heap.size, 4, none⟩ = some (ov) := (ten_cells NF).2.2.2.2.1
 have c7 : (w.alloc (.cells #[.int .i64 12, .bool os, .string on, .string ot, ov, .int .i64 oo, .int .i64 onn, of, .int .i64 od, ovk] 36)).cell? ⟨w.heap.size, 7, none⟩ = some (of) := (ten_cells NF).2.2.2.2.2.2.2.1
 go_upto_region 48 with fail
 rw [hwf.out] at BF NF ⊢
 clear c0 c4 c7
 have MX := hide (HX.out.below BF.out)
 have hob : Hid (¬ own pb O rb V w.heap.size) := fun c => Nat.lt_irrefl _ (hlt.out _ c)
 have B0 : Hid (Bxs pb w.heap.size b rb ⟨12, os, on, ot, ov, oD, oo, onn, of, ofs, od, ovk, oks⟩ wf) := ⟨MX.out.box, NF⟩
 have KB : Hid (∀ u u', Bxs pb w.heap.size b rb ⟨12, os, on, ot, ov, oD, oo, onn, of, ofs, od, ovk, oks⟩ u → Below u.heap.size u u' → Bxs pb w.heap.size b rb ⟨12, os, on, ot, ov, oD, oo, onn, of, ofs, od, ovk, oks⟩ u') := fun u u' h hb => h.go (But.of_below hb fun _ => False) (fun c => c) (fun c => c)
 have KP : Hid (Bxs pb w.heap.size b rb ⟨12, os, on, ot, ov, oD, oo, onn, of, ofs, od, ovk, oks⟩ wf.drew) := KB.out _ _ B0.out (Below.refl _ _).drew
 have PQ : Hid (PX wf.drew pb b rb S R O V) := MX.out.below (Below.refl _ _).drew
 have GQ : Hid (Below wf.heap.size wf wf.drew) := (Below.refl _ _).drew
 refine wp_region_T (fun q => Bxs pb w.heap.size b rb ⟨12, os, on, ot, ov, oD, oo, onn, of, ofs, od, ovk, oks⟩ q) 15 (by kernel_rfl) ?_
 generalize wf.drew = q at *
 refine Ix.tk 0 ⟨some 337, .move (.tmp 0), _, _, _, _⟩ (.pointer (some ⟨pb, 0, none⟩)) [15] ?_ KP.out ?_
 ·intro wq hSw; go_simp
 (try simp only [zzp, zzb, zzc])
 refine Ix.tk 1 ⟨some 338, .nilCheck (.tmp 337), _, _, _, _⟩ (.pointer (some ⟨pb, 0, none⟩)) [15] ?_ KP.out ?_
 ·intro wq hSw; go_simp
 (try simp only [zzp, zzb, zzc])
 refine Ix.tk 2 ⟨some 339, .fieldAddr 29 (.tmp 338) 0, _, _, _, _⟩ (.pointer (some ⟨pb, 0, none⟩)) [15] ?_ KP.out ?_
 ·intro wq hSw; go_simp
 (try simp only [zzp, zzb, zzc])
 refine Ix.tk 3 ⟨some 340, .load 24 (.tmp 339), _, _, _, _⟩ (.pointer (some ⟨b, 0, none⟩)) [15] ?_ KP.out ?_
 ·intro wq hSw
  obtain ⟨x1, x2⟩ := two_cells hSw.p
  obtain ⟨y0, y1, y2, y3, y4, y5, y6, y7, y8, y9⟩ := ten_cells hSw.o
  go_simp
 (try simp only [zzp, zzb, zzc])
 refine Ix.tk 4 ⟨some 341, .fieldAddr 36 (.tmp 3) 6, _, _, _, _⟩ (.pointer (some ⟨w.heap.size, 6, none⟩)) [15] ?_ KP.out ?_
 ·intro wq hSw; go_simp
 (try simp only [zzp, zzb, zzc])
 refine Ix.tk 5 ⟨some 342, .load 3 (.tmp 341), _, _, _, _⟩ (.int .i64 onn) [15] ?_ KP.out ?_
 ·intro wq hSw
  obtain ⟨x1, x2⟩ := two_cells hSw.p
  obtain ⟨y0, y1, y2, y3, y4, y5, y6, y7, y8, y9⟩ := ten_cells hSw.o
  go_simp
 (try simp only [zzp, zzb, zzc])
 refine Ix.tk 7 ⟨some 344, .move (.tmp 0), _, _, _, _⟩ (.pointer (some ⟨pb, 0, none⟩)) [15] ?_ KP.out ?_
 ·intro wq hSw; go_simp
 (try simp only [zzp, zzb, zzc])
 refine Ix.tk 8 ⟨some 345, .nilCheck (.tmp 344), _, _, _, _⟩ (.pointer (some ⟨pb, 0, none⟩)) [15] ?_ KP.out ?_
 ·intro wq hSw; go_simp
 (try simp only [zzp, zzb, zzc])
 refine Ix.tk 9 ⟨some 346, .fieldAddr 29 (.tmp 345) 1, _, _, _, _⟩ (.pointer (some ⟨pb, 1, none⟩)) [15] ?_ KP.out ?_
 ·intro wq hSw; go_simp
 (try simp only [zzp, zzb, zzc])
 refine Ix.tk 10 ⟨some 347, .load 26 (.tmp 346), _, _, _, _⟩ (.pointer (some ⟨rb, 0, none⟩)) [15] ?_ KP.out ?_
 ·intro wq hSw
  obtain ⟨x1, x2⟩ := two_cells hSw.p
  obtain ⟨y0, y1, y2, y3, y4, y5, y6, y7, y8, y9⟩ := ten_cells hSw.o
  go_simp
 (try simp only [zzp, zzb, zzc])
 refine Ix.tk 11 ⟨some 348, .fieldAddr 36 (.tmp 3) 6, _, _, _, _⟩ (.pointer (some ⟨w.heap.size, 6, none⟩)) [15] ?_ KP.out ?_
 ·intro wq hSw; go_simp
 (try simp only [zzp, zzb, zzc])
 refine Ix.tk 12 ⟨some 349, .load 3 (.tmp 348), _, _, _, _⟩ (.int .i64 onn) [15] ?_ KP.out ?_
 ·intro wq hSw
  obtain ⟨x1, x2⟩ := two_cells hSw.p
  obtain ⟨y0, y1, y2, y3, y4, y5, y6, y7, y8, y9⟩ := ten_cells hSw.o
  go_simp
 (try simp only [zzp, zzb, zzc])
 refine wpAnyT_one (i := 6) (o := ⟨some 343, .call { callee := .value (.func 27), args := #[.tmp 340, .tmp 342], argTypes := #[24, 3] }, _, _, _, _⟩) (by kernel_rfl) rfl (fun K hK => ?_)
 go_simp
 go_at_call 27
 refine (hA.out q PQ.out).mono ?_
 rintro e w1 ⟨v1, rfl, T1, b1⟩
 obtain ⟨a1, c1, rfl, _⟩ := T1.tr
 replace T1 := hide T1
 replace b1 := hide b1
 have K1 : Hid (Bxs pb w.heap.size b rb ⟨12, os, on, ot, ov, oD, oo, onn, of, ofs, od, ovk, oks⟩ w1) := KB.out _ _ KP.out b1.out
 have P1 : Hid (PX w1 pb b rb S R O V) := PQ.out.below b1.out
 (try go_simp)
 refine hK.out _ _ (fun _ => K1.out) ?_
 clear hK K
 (try simp only [zzp, zzb, zzc])
 refine wpAnyT_one (i := 13) (o := ⟨some 350, .call { callee := .value (.func 63), args := #[.tmp 347, .tmp 349], argTypes := #[26, 3] }, _, _, _, _⟩) (by kernel_rfl) rfl (fun K hK => ?_)
 go_simp
 go_at_call 63
 refine (hB.out w1 P1.out).mono ?_
 rintro e w2 ⟨v2, rfl, T2, b2⟩
 obtain ⟨a2, c2, rfl, _⟩ := T2.tr
 replace T2 := hide T2
 replace b2 := hide b2
 have K2 : Hid (Bxs pb w.heap.size b rb ⟨12, os, on, ot, ov, oD, oo, onn, of, ofs, od, ovk, oks⟩ w2) := KB.out _ _ K1.out b2.out
 (try go_simp)
 refine hK.out _ _ (fun _ => K2.out) ?_
 clear hK K
 (try simp only [zzp, zzb, zzc])
 refine wpAnyT_one (i := 14) (o := ⟨some 351, .call { callee := .value (.func 62), args := #[.tmp 343, .tmp 350], argTypes := #[65, 65] }, _, _, _, _⟩) (by kernel_rfl) rfl (fun K hK => ?_)
 go_simp
 go_at_call 62
 refine (tails_eq w2 _ _ TA TB (T1.out.tr.below b2.out) T2.out.tr).mono ?_
 rintro e w3 ⟨⟨rr, rfl, hrr, b3⟩⟩
 replace b3 := hide b3
 replace hrr := hide hrr
 have K3 : Hid (Bxs pb w.heap.size b rb ⟨12, os, on, ot, ov, oD, oo, onn, of, ofs, od, ovk, oks⟩ w3) := KB.out _ _ K2.out b3.out
 (try go_simp)
 refine hK.out _ _ (fun _ => K3.out) ?_
 clear hK K
 (try simp only [zzp, zzb, zzc])
 refine wpAnyT_one (i := 15) (o := ⟨some 4, .assign (.tmp 351), _, _, _, _⟩) (by kernel_rfl) rfl (fun K hK => ?_)
 go_simp
 refine hK.out _ _ (vac (by kernel_rfl)) ?_
 clear hK K
 (try simp only [zzp, zzb, zzc])
 refine wpAnyT_done (by kernel_rfl) ?_ _
 go_wp2_with fail
 go_ret
 have hb : Below w.heap.size w w3 := (BF.out.trans (GQ.out.mono BF.out.size)).trans ((b1.out.trans ((b2.out.trans (b3.out.mono b2.out.size)).mono b1.out.size)).mono (Nat.le_trans BF.out.size GQ.out.size))
 refine ⟨⟨rr, S, Q, b, rfl, ?_, Sgo.of_below hb, hpS.out, fun hr => hrr.out (hRel.out hr), fun _ => rfl⟩⟩
 rw [hpR.out]
 exact ⟨rb, O, V, HX.out.below hb, hQ⟩
theorem pl_none (o : Dop) (hk : o.kind ≠ 1 ∧ o.kind ≠ 2 ∧ o.kind ≠ 3 ∧ o.kind ≠ 4 ∧ o.kind ≠ 5 ∧ o.kind ≠ 6 ∧ o.kind ≠ 7 ∧ o.kind ≠ 8 ∧ o.kind ≠ 9 ∧ o.kind ≠ 10 ∧ o.kind ≠ 11 ∧ o.kind ≠ 12) (h : PlI W0 w pb b S R o Q) : Calls Tryz.prog 11 #[.pointer (some ⟨pb, 0, none⟩), opV o] w (PlP w pb b S R o Q) := by
 obtain ⟨k1, k2, k3, k4, k5, k6, k7, k8, k9, k10, k11, k12⟩ := hk
 have hpR : Hid (R.play o = R) := by show _ = _; unfold RB.play; simp [k1, k2, k3, k4, k5, k6, k7, k9, k10]
 have hpS : Hid (DS.play S o S) := by show DS.play S o S; unfold DS.play; simp [k1, k2, k3, k4, k5, k6, k7, k9, k10, k11]
 have hI := hide h
 obtain ⟨ok, os, on, ot, ov, oD, oo, onn, of, ofs, od, ovk, oks⟩ := o
 dsimp only at *
 have BF := hide (box_below w (.cells #[.int .i64 ok, .bool os, .string on, .string ot, ov, .int .i64 oo, .int .i64 onn, of, .int .i64 od, ovk] 36))
 have NF := heap_alloc_new w (.cells #[.int .i64 ok, .bool os, .string on, .string ot, ov, .int .i64 oo, .int .i64 onn, of, .int .i64 od, ovk] 36)
 have c0 : (w.alloc (.cells #[.int .i64 ok, .bool os, .string on, .string ot, ov, .int .i64 oo, .int .i64 onn, of, .int .i64 od, ovk] 36)).cell? ⟨w.heap.size, 0, none⟩ = some (.int .i64 ok) := (ten_cells NF).1
 have j1 : (ok == 1) = false := by simpa using k1
 have j2 : (ok == 2) = false := by simpa using k2
 have j3 : (ok == 3) = false := by simpa using k3
 have j4 : (ok == 4) = false := by simpa using k4
 have j5 : (ok == 5) = false := by simpa using k5
 have j6 : (ok == 6) = false := by simpa using k6
 have j7 : (ok == 7) = false := by simpa using k7
 have j8 : (ok == 8) = false := by simpa using k8
 have j9 : (ok == 9) = false := by simpa using k9
 have j10 : (ok == 10) = false := by simpa using k10
 have j11 : (ok == 11) = false := by simpa using k11
 have j12 : (ok == 12) = false := by simpa using k12
 clear h NF k1 k2 k3 k4 k5 k6 k7 k8 k9 k10 k11 k12
 unfold opV
 go_enter Tryz.func11, Tryz.ntmps11
 go_wp2_with fail
 go_ret
 exact ⟨⟨true, S, Q, b, rfl, by rw [hpR.out]; exact hI.out.pw.below BF.out, Sgo.of_below BF.out, hpS.out, fun _ => rfl, fun _ => rfl⟩⟩
end Go.Proofs.YtjehpijjneghpaaGreat.Re
namespace Go.Proofs.YtjehpijjneghpaaGreat.Re
open Go.RowKit Go.Maps Go.Sort Go.Shelf Go.Proofs.YtjehpijjneghpaaGreat.Nm Go.Proofs.YtjehpijjneghpaaGreat.Dk
variable {W0 w : World} {pb b : Nat} {S : DS} {R : RB} {Q : Nat → Prop}
theorem pl_most (o : Dop) (h : PlI W0 w pb b S R o Q) (k10 : o.kind ≠ 10) (k11 : o.kind ≠ 11) : Calls Tryz.prog 11 #[.pointer (some ⟨pb, 0, none⟩), opV o] w (PlP w pb b S R o Q) := by
 by_cases k1 : o.kind = 1
 ·exact pl_create o k1 h
 by_cases k2 : o.kind = 2
 ·exact pl_append o k2 h
 by_cases k3 : o.kind = 3
 ·exact pl_sync o k3 h
 by_cases k4 : o.kind = 4
 ·exact pl_cut o k4 h
 by_cases k5 : o.kind = 5
 ·exact pl_rename o k5 h
 by_cases k6 : o.kind = 6
 ·exact pl_remove o k6 h
 by_cases k7 : o.kind = 7
 ·exact pl_syncDir o k7 h
 by_cases k8 : o.kind = 8
 ·exact pl_read o k8 h
 by_cases k9 : o.kind = 9
 ·exact pl_arm o k9 h
 by_cases k12 : o.kind = 12
 ·exact pl_tails o k12 h
 exact pl_none o ⟨k1, k2, k3, k4, k5, k6, k7, k8, k9, k10, k11, k12⟩ h
theorem blk_nil {b x k : Nat} (h : blk b RV.nil x = some k) : k = b := by
 match x with
 | 0 => simp [blk] at h; exact h.symm
 | 1 => simp [blk, RV.nil, Value.ownBlock] at h
 | 2 => simp [blk, RV.nil, Value.ownBlock] at h
 | 3 => simp [blk, RV.nil, Value.ownBlock] at h
 | 4 => simp [blk, RV.nil, Value.ownBlock] at h
 | 5 => simp [blk, RV.nil, Value.ownBlock] at h
 | n + 6 => simp [blk, RV.nil] at h
theorem px_new {u q : World} {b : Nat} {S : DS} {O : Nat → Prop} {most : Int} (hD : DskE u b S O) (hq : Below u.heap.size u q) (hR : RM q u.heap.size (RB.new most) RV.nil) :
    PX (q.alloc (.cells #[.pointer (some ⟨b, 0, none⟩), .pointer (some ⟨u.heap.size, 0, none⟩)] 29)) q.heap.size b u.heap.size S (RB.new most) O RV.nil := by
 have hb2 := box_below q (.cells #[.pointer (some ⟨b, 0, none⟩), .pointer (some ⟨u.heap.size, 0, none⟩)] 29)
 have hz := heap_lt hR.box
 refine ⟨heap_alloc_new _ _, (hD.below hq).below hb2, hR.below hb2, fun k hk x c => ?_, fun c => ?_, fun x c => ?_⟩
 ·have := hD.lt k hk
  have := blk_nil c
  omega
 ·have := hD.lt _ c
  omega
 ·have := blk_nil c
  omega
end Go.Proofs.YtjehpijjneghpaaGreat.Re
namespace Go.Proofs.YtjehpijjneghpaaGreat.Re
open Go.RowKit Go.Maps Go.Sort Go.Shelf Go.Proofs.YtjehpijjneghpaaGreat.Nm Go.Proofs.YtjehpijjneghpaaGreat.Dk
open Ix (wp_region_T wpAnyT wpAnyT_take wpAnyT_one wpAnyT_done vac)
variable {W0 w : World} {pb b : Nat} {S : DS} {R : RB} {Q : Nat → Prop}
theorem create_c7 (S : DS) (s : ByteArray) (p : Nat) : (S.create s p).1.c7 ≤ S.c7 + 1 := by
 unfold DS.create
 split
 ·simp only; omega
 ·split
  ·simp only; omega
  ·split
   ·simp only; omega
   ·split
    ·simp only [str_c7, beg_c7]; omega
    ·simp only [str_c7, beg_c7]; omega
theorem append_c7 (S : DS) (s : ByteArray) (D : List UInt8) : (S.append s D).1.c7 ≤ S.c7 + 1 := by
 unfold DS.append
 split
 ·simp only; omega
 ·simp only [str_c7, beg_c7]; omega
def sElder : ByteArray := ⟨#[101, 108, 100, 101, 114]⟩
theorem PX.other {w' : World} {rb b' : Nat} {O O' : Nat → Prop} {V : RV} {S' : DS} (h : PX w pb b rb S R O V) (hd : DskE w' b' S' O') (hb : Below w.heap.size w w') (lo : ∀ k, O' k → w.heap.size ≤ k) : ∀ k, O' k → ¬ own pb O rb V k := fun k hk c => by
 have := h.lt k c
 have := lo k hk
 omega
theorem pl_copy (o : Dop) (hk : o.kind = 11) (h : PlI W0 w pb b S R o Q) : Calls Tryz.prog 11 #[.pointer (some ⟨pb, 0, none⟩), opV o] w (PlP w pb b S R o Q) := by
 obtain ⟨rb, O, V, hx, hQ⟩ := h.pw
 have hI := hide h
 have HX := hide hx
 have hlt := hide hx.lt
 have hpR : Hid (R.play o = R) := by show _ = _; unfold RB.play; simp [hk]
 have hpS : Hid (∀ S', (∃ σ, Dk.Alike σ S S') → DS.play S o S') := fun S' hs => by unfold DS.play; simp [hk, hs]
 have hnm : Hid (o.nm.size ≤ maxLen) := by show _ ≤ _; have := h.ok.nm; unfold maxLen; omega
 have hCp : Hid (∀ q, PX q pb b rb S R O V → Calls Tryz.prog 41 #[.pointer (some ⟨b, 0, none⟩)] q fun e w' => ∃ b' σ S' O', e = .returned (.pointer (some ⟨b', 0, none⟩)) ∧ Dk.Alike σ S S' ∧ DskE w' b' S' O' ∧ (∀ k, O' k → q.heap.size ≤ k) ∧ Below q.heap.size q w') := fun q hq => copy_dsk hq.d hI.out.uq (by have := hI.out.cs; omega)
 have hCr : Hid (∀ q, PX q pb b rb S R O V → Calls Tryz.prog 14 #[.pointer (some ⟨b, 0, none⟩), .string ⟨#[101, 108, 100, 101, 114]⟩] q fun e w' => ∃ er S1 O1, e = .returned (.int .i64 er) ∧ S1.c7 ≤ S.c7 + 1 ∧ PX w' pb b rb S1 R O1 V ∧ Sgo q w' (own pb O rb V) (own pb O1 rb V)) := fun q hq => by
  refine (create_dsk hq.d sElder (by decide) (by have := hI.out.cs; omega)).mono ?_
  rintro e w' ⟨p, _, hp, rfl, O', hd, hg⟩
  obtain ⟨px, gx⟩ := hq.stepA hd hg
  refine ⟨_, _, _, rfl, ?_, px, gx⟩
  exact create_c7 S sElder p
 have hAp : Hid (∀ q S1 O1 v, S1.c7 ≤ S.c7 + 1 → Sl q v [101, 108, 100, 101, 114] → SOff O1 v → PX q pb b rb S1 R O1 V → Calls Tryz.prog 16 #[.pointer (some ⟨b, 0, none⟩), .string o.nm, v] q fun e w' => ∃ u S2 O2, e = .returned u ∧ S2.c7 ≤ S1.c7 + 1 ∧ PX w' pb b rb S2 R O2 V ∧ Sgo q w' (own pb O1 rb V) (own pb O2 rb V)) := fun q S1 O1 v hc hv ho hq => by
  refine (append_dsk hq.d o.nm hnm.out v _ hv ho (by have := hI.out.cs; omega)).mono ?_
  rintro e w' ⟨rfl, O', hd, hg⟩
  obtain ⟨px, gx⟩ := hq.stepA hd hg
  exact ⟨_, _, _, rfl, append_c7 S1 o.nm _, px, gx⟩
 have hKr : Hid (∀ q S2 O2, S2.c7 ≤ S.c7 + 2 → PX q pb b rb S2 R O2 V → Calls Tryz.prog 18 #[.pointer (some ⟨b, 0, none⟩), .agg #[.int .i64 0, .slice none 0 0]] q fun e w' => ∃ S3 O3, e = .returned (.tuple #[]) ∧ PX w' pb b rb S3 R O3 V ∧ Sgo q w' (own pb O2 rb V) (own pb O3 rb V)) := fun q S2 O2 hc hq => by
  refine (crash_dsk hq.d (by have := hI.out.cs; omega) 0 (by decide) (by decide) (.slice none 0 0) (fun _ => False) [] ⟨none, 0, rfl, Nat.le_refl _, Nat.zero_le _, fun i hi => by simp at hi⟩ (fun k c => c.elim)).mono ?_
  rintro e w' ⟨rfl, O', hd, hg⟩
  obtain ⟨px, gx⟩ := hq.stepA hd hg
  exact ⟨_, _, rfl, px, gx⟩
 obtain ⟨ok, os, on, ot, ov, oD, oo, onn, of, ofs, od, ovk, oks⟩ := o
 dsimp only at *
 subst hk
 have BF := hide (box_below w (.cells #[.int .i64 11, .bool os, .string on, .string ot, ov, .int .i64 oo, .int .i64 onn, of, .int .i64 od, ovk] 36))
 have NF := heap_alloc_new w (.cells #[.int .i64 11, .bool os, .string on, .string ot, ov, .int .i64 oo, .int .i64 onn, of, .int .i64 od, ovk] 36)
 clear hx h
 unfold opV
 go_enter Tryz.func11, Tryz.ntmps11
 obtain ⟨wf, hwf⟩ : ∃ wf, Hid (w.alloc (.cells #[.int .i64 11, .bool os, .string on, .string ot, ov, .int .i64 oo, .int .i64 onn, of, .int .i64 od, ovk] 36) = wf) := ⟨_, rfl⟩
 have c0 : (w.alloc (.cells #[.int .i64 11, .bool os, .string on, .string ot, ov, .int .i64 oo, .int .i64 onn, of, .int .i64 od, ovk] 36)).cell? ⟨w.heap.size, 0, none⟩ = some (.int .i64 11) := (ten_cells NF).1
 have c4 : (w.alloc (.cells #[.int .i64 11, .bool os, .string on, .string ot, ov, .int .i64 oo, .int .i64 onn, of, .int .i64 od, ovk] 36)).cell? ⟨w.heap.size, 4, none⟩ = some (ov) := (ten_cells NF).2.2.2.2.1
 have c7 : (w.alloc (.cells #[.int .i64 11, .bool os, .string on, .string ot, ov, .int .i64 oo, .int .i64 onn, of, .int .i64 od, ovk] 36)).cell? ⟨w.heap.size, 7, none⟩ = some (of) := (ten_cells NF).2.2.2.2.2.2.2.1
 have MX0 := HX.out.below BF.out
 rw [hwf.out] at BF NF c0 c4 c7 MX0
 have hwf2 := hwf.out
 clear c4 c7
 obtain ⟨x1, x2⟩ := two_cells MX0.box
 go_upto_region 41 with (go_at_call 41; refine (hCp.out _ MX0).mono ?_; rintro e w1 ⟨b', σ, S', O', rfl, L1, D1, lo1, B1⟩; replace L1 := hide L1; replace D1 := hide D1; replace lo1 := hide lo1; replace B1 := hide B1)
 clear x1 x2 c0 hwf2
 have MX := hide MX0
 clear MX0
 have P1 := hide (MX.out.below B1.out)
 have hob : Hid (¬ own pb O rb V w.heap.size) := fun c => Nat.lt_irrefl _ (hlt.out _ c)
 have K1 : Hid (Bxs pb w.heap.size b rb ⟨11, os, on, ot, ov, oD, oo, onn, of, ofs, od, ovk, oks⟩ w1) := ⟨P1.out.box, (B1.out.block _ (heap_lt NF)).trans NF⟩
 obtain ⟨x1, x2⟩ := two_cells P1.out.box
 go_upto_region 44 with (go_at_call 14; refine (hCr.out _ P1.out).mono ?_; rintro e w2 ⟨er, S1, O1, rfl, hc1, P2, G2⟩; replace P2 := hide P2; replace G2 := hide G2; replace hc1 := hide hc1)
 clear x1 x2
 have K2 : Hid (Bxs pb w.heap.size b rb ⟨11, os, on, ot, ov, oD, oo, onn, of, ofs, od, ovk, oks⟩ w2) := ⟨P2.out.box, G2.out.but.at K1.out.o hob.out⟩
 have nO1 : Hid (∀ k, O' k → ¬ own pb O rb V k) := MX.out.other D1.out B1.out lo1.out
 have D2 := hide (D1.out.but G2.out.but nO1.out)
 have KP : Hid (Bxs pb w.heap.size b rb ⟨11, os, on, ot, ov, oD, oo, onn, of, ofs, od, ovk, oks⟩ w2.drew) := K2.out.go (But.of_below (Below.refl _ _).drew fun _ => False) (fun c => c) (fun c => c)
 have PQ : Hid (PX w2.drew pb b rb S1 R O1 V) := P2.out.below (Below.refl _ _).drew
 have GQ : Hid (Below w2.heap.size w2 w2.drew) := (Below.refl _ _).drew
 refine wp_region_T (fun q => Bxs pb w.heap.size b rb ⟨11, os, on, ot, ov, oD, oo, onn, of, ofs, od, ovk, oks⟩ q) 8 (by kernel_rfl) ?_
 generalize w2.drew = q at *
 refine Ix.tk 0 ⟨some 316, .move (.tmp 0), _, _, _, _⟩ (.pointer (some ⟨pb, 0, none⟩)) [1,2,3,8] ?_ KP.out ?_
 ·intro wq hSw; go_simp
 (try simp only [zzp, zzb, zzc])
 refine Ix.tk 1 ⟨some 317, .nilCheck (.tmp 316), _, _, _, _⟩ (.pointer (some ⟨pb, 0, none⟩)) [2,3,8] ?_ KP.out ?_
 ·intro wq hSw; go_simp
 (try simp only [zzp, zzb, zzc])
 refine Ix.tk 2 ⟨some 318, .fieldAddr 29 (.tmp 317) 0, _, _, _, _⟩ (.pointer (some ⟨pb, 0, none⟩)) [3,8] ?_ KP.out ?_
 ·intro wq hSw; go_simp
 (try simp only [zzp, zzb, zzc])
 refine Ix.tk 3 ⟨some 319, .load 24 (.tmp 318), _, _, _, _⟩ (.pointer (some ⟨b, 0, none⟩)) [8] ?_ KP.out ?_
 ·intro wq hSw
  obtain ⟨x1, x2⟩ := two_cells hSw.p
  obtain ⟨y0, y1, y2, y3, y4, y5, y6, y7, y8, y9⟩ := ten_cells hSw.o
  go_simp
 (try simp only [zzp, zzb, zzc])
 refine Ix.tk 4 ⟨some 320, .fieldAddr 36 (.tmp 3) 2, _, _, _, _⟩ (.pointer (some ⟨w.heap.size, 2, none⟩)) [5,8] ?_ KP.out ?_
 ·intro wq hSw; go_simp
 (try simp only [zzp, zzb, zzc])
 refine Ix.tk 5 ⟨some 321, .load 9 (.tmp 320), _, _, _, _⟩ (.string on) [8] ?_ KP.out ?_
 ·intro wq hSw
  obtain ⟨x1, x2⟩ := two_cells hSw.p
  obtain ⟨y0, y1, y2, y3, y4, y5, y6, y7, y8, y9⟩ := ten_cells hSw.o
  go_simp
 (try simp only [zzp, zzb, zzc])
 have kc := Lib.run_convert_bytes_const (P := Tryz.prog) q 30 5 #[.int .u8 101, .int .u8 108, .int .u8 100, .int .u8 101, .int .u8 114] 5 5 Tryz.underlying30 Tryz.underlying5
 have B3 := hide (box_below q (.cells #[.int .u8 101, .int .u8 108, .int .u8 100, .int .u8 101, .int .u8 114] 5))
 have B4 := hide (box_below q (.cells #[.int .u8 101, .int .u8 108, .int .u8 100, .int .u8 101, .int .u8 114] 5 (5, 6)))
 have KB : Hid (∀ u, Below q.heap.size q u → Bxs pb w.heap.size b rb ⟨11, os, on, ot, ov, oD, oo, onn, of, ofs, od, ovk, oks⟩ u) := fun u hu => KP.out.go (But.of_below hu fun _ => False) (fun c => c) (fun c => c)
 have S4 : Hid (Sl (q.alloc (.cells #[.int .u8 101, .int .u8 108, .int .u8 100, .int .u8 101, .int .u8 114] 5 (5, 6))) (.slice (some ⟨q.heap.size, 0, none⟩) 5 5) [101, 108, 100, 101, 114]) := sl_lit_mark q [101, 108, 100, 101, 114] 5 (5, 6) (by decide) _ rfl
 refine wpAnyT_one (i := 6) (o := ⟨some 322, .buildSlice 30 5 #[(0, .const (Value.int IntKind.u8 101)), (1, .const (Value.int IntKind.u8 108)), (2, .const (Value.int IntKind.u8 100)), (3, .const (Value.int IntKind.u8 101)), (4, .const (Value.int IntKind.u8 114))], _, _, _, _⟩) (by kernel_rfl) rfl (fun K hK => ?_)
 go_simp
 refine hK.out _ _ (fun _ => KB.out _ B3.out) ?_
 clear hK K
 (try simp only [zzp, zzb, zzc])
 refine wpAnyT_one (i := 7) (o := ⟨some 323, .convert 30 30 (.tmp 322), _, _, _, _⟩) (by kernel_rfl) rfl (fun K hK => ?_)
 go_simp
 refine hK.out _ _ (fun _ => KB.out _ B4.out) ?_
 clear hK K
 (try simp only [zzp, zzb, zzc])
 have P4 := hide (PQ.out.below B4.out)
 have F4 : Hid (SOff O1 (.slice (some ⟨q.heap.size, 0, none⟩) 5 5)) := fun g off n c e _ k => by
  simp only [Value.slice.injEq, Option.some.injEq, Addr.mk.injEq] at e
  have := PQ.out.d.lt _ k
  omega
 have hApp := hAp.out _ _ _ _ hc1.out S4.out F4.out P4.out
 generalize hq4 : (q.alloc (.cells #[.int .u8 101, .int .u8 108, .int .u8 100, .int .u8 101, .int .u8 114] 5 (5, 6))) = w4 at *
 generalize hqs : q.heap.size = qs at *
 refine wpAnyT_one (i := 8) (o := ⟨some 324, .call { callee := .value (.func 16), args := #[.tmp 319, .tmp 321, .tmp 323], argTypes := #[24, 9, 30] }, _, _, _, _⟩) (by kernel_rfl) rfl (fun K hK => ?_)
 go_simp
 go_at_call 16
 refine hApp.mono ?_
 rintro e w5 ⟨u5, S2, O2, rfl, hc2, P5, G5⟩
 replace P5 := hide P5
 replace G5 := hide G5
 replace hc2 := hide hc2
 (try go_simp)
 refine hK.out _ _ (vac (by kernel_rfl)) ?_
 clear hK K hApp
 (try simp only [zzp, zzb, zzc])
 refine wpAnyT_done (by kernel_rfl) ?_ _
 have hKk := hKr.out w5 S2 O2 (by have := hc1.out; have := hc2.out; omega) P5.out
 obtain ⟨x1, x2⟩ := two_cells P5.out.box
 go_upto_region 46 with (go_at_call 18; refine hKk.mono ?_; rintro e w6 ⟨S3, O3, rfl, P6, G6⟩; replace P6 := hide P6; replace G6 := hide G6)
 clear x1 x2
 obtain ⟨x1, x2⟩ := two_cells P6.out.box
 have fz : w6.frozen? ⟨pb, 0, none⟩ = false := by simp [World.frozen?, P6.out.box]
 have h7 := heap_setCell_same w6 pb 0 _ _ (.pointer (some ⟨b', 0, none⟩)) P6.out.box
 have g7 := But.of_grownBy (X := fun k => k = pb) (grown_setCell w6 pb 0 (.pointer (some ⟨b', 0, none⟩))) fun k e => by cases e; rfl
 have Bq4 : Below w2.heap.size w2 w4 := by rw [← hq4]; exact GQ.out.trans ((box_below q _).mono GQ.out.size)
 -- the copy lies apart from all that was done to the elder one
 have nO2 : ∀ k, O' k → ¬ own pb O1 rb V k := fun k hk c => (G2.out.own k c).elim (nO1.out k hk) (fun c => by have := D1.out.lt k hk; omega)
 have nO5 : ∀ k, O' k → ¬ own pb O2 rb V k := fun k hk c => (G5.out.own k c).elim (nO2 k hk) (fun c => by have q1 := D2.out.lt k hk; have q2 := Bq4.size; omega)
 have D4 := D2.out.below Bq4
 have D5 := D4.but G5.out.but nO2
 have D6 := D5.but G6.out.but nO5
 have nO6 : ∀ k, O' k → ¬ own pb O3 rb V k := fun k hk c => (G6.out.own k c).elim (nO5 k hk) (fun c => by have := D5.lt k hk; omega)
 have D7 := D6.but g7 (fun k hk e => nO6 k hk (.inl e))
 have R7 := P6.out.r.but g7 (fun x k hk e => P6.out.nr x (by rw [hk, e]))
 have PX7 : PX (w6.setCell ⟨pb, 0, none⟩ (.pointer (some ⟨b', 0, none⟩))) pb b' rb S' R O' V := ⟨h7, D7, R7, fun k hk x c => nO6 k hk (.inr (.inr ⟨x, c⟩)), fun c => nO6 pb c (.inl rfl), P6.out.nr⟩
 have GA : Sgo w w6 (own pb O rb V) (own pb O3 rb V) := (Sgo.of_below (BF.out.trans (B1.out.mono BF.out.size))).trans (G2.out.trans ((Sgo.of_below Bq4).trans (G5.out.trans G6.out)))
 have GB : Hid (Sgo w (w6.setCell ⟨pb, 0, none⟩ (.pointer (some ⟨b', 0, none⟩))) (own pb O rb V) (own pb O' rb V)) := by
  refine ⟨but_trans_new GA.but g7 (fun k e => .inl (.inl e)), fun k hk => ?_⟩
  rcases hk with e | c | c
  ·exact .inl (.inl e)
  ·right
   have q1 := lo1.out k c
   have q2 := BF.out.size
   omega
  ·exact .inl (.inr (.inr c))
 have PW7 := hide PX7.toPW
 clear PX7 R7 D7 D6 D5 D4 nO6 nO5 nO2 g7 h7 GA kc
 go_wp2_with fail
 go_ret
 refine ⟨⟨true, S', _, b', rfl, by rw [hpR.out]; exact PW7.out, ?_, hpS.out S' ⟨σ, L1.out⟩, fun _ => rfl, fun c => absurd rfl c⟩⟩
 first | exact GB.out | (rw [hQ]; exact GB.out)
end Go.Proofs.YtjehpijjneghpaaGreat.Re
namespace Go.Proofs.YtjehpijjneghpaaGreat.Re
open Go.RowKit Go.Maps Go.Sort Go.Shelf Go.Proofs.YtjehpijjneghpaaGreat.Nm Go.Proofs.YtjehpijjneghpaaGreat.Dk
open Ix (wp_region_T wpAnyT wpAnyT_take wpAnyT_one wpAnyT_done vac)
def kcs : List Kep → List Value → List Value
 | k :: r, u :: us => .int .i64 k.1 :: u :: kcs r us
 | _, _ => []
theorem kcs_snoc : ∀ (L : List Kep) (vs : List Value) (l : Kep) (u : Value), vs.length = L.length → kcs (L ++ [l]) (vs ++ [u]) = kcs L vs ++ [.int .i64 l.1, u]
 | [], [], l, u, _ => rfl
 | a :: r, b :: s, l, u, h => by
  simp only [List.cons_append, kcs]
  rw [kcs_snoc r s l u (by simpa using h)]
 | [], _ :: _, _, _, h => by simp at h
 | _ :: _, [], _, _, h => by simp at h
theorem kcs_at : ∀ (L : List Kep) (vs : List Value), vs.length = L.length → ∀ i k u, L[i]? = some k → vs[i]? = some u → (kcs L vs)[i * 2]? = some (.int .i64 k.1) ∧ (kcs L vs)[i * 2 + 1]? = some u
 | [], [], _, i, k, u, h, _ => by simp at h
 | a :: r, b :: s, h, i, k, u, h1, h2 => by
  cases i with
  | zero => simp at h1 h2; subst h1 h2; exact ⟨rfl, rfl⟩
  | succ i =>
   have := kcs_at r s (by simpa using h) i k u (by simpa using h1) (by simpa using h2)
   rw [show (i + 1) * 2 = i * 2 + 1 + 1 by omega]
   simpa [kcs] using this
 | [], _ :: _, h, _, _, _, _, _ => by simp at h
 | _ :: _, [], h, _, _, _, _, _ => by simp at h
structure LF (B : Nat) (w : World) (v : Value) (ks : List Kep) (vs : List Value) (gs : List Nat) : Prop where
 len : vs.length = ks.length
 len2 : gs.length = ks.length
 row : w.ownsRow B 88 2 v ks.length (kcs ks vs)
 at_ : ∀ (i : Nat) (k : Kep) (u : Value) (g : Nat), ks[i]? = some k → vs[i]? = some u → gs[i]? = some g → LentAt w g u k.2
 lo : ∀ g ∈ gs, B ≤ g
 ap : ∀ (i j g : Nat), i ≠ j → gs[i]? = some g → gs[j]? ≠ some g
 no : ∀ g ∈ gs, v.ownBlock ≠ some g
theorem LF.nil (B : Nat) (w : World) : LF B w (.slice none 0 0) [] [] [] := ⟨rfl, rfl, World.ownsRow_nil _ _ _ _, fun i k u g h => by simp at h, fun g h => (by cases h), fun i j g _ h => by simp at h, fun g h => (by cases h)⟩
theorem lent_but {w w' : World} {g : Nat} {u : Value} {l : List UInt8} {X : Nat → Prop} (h : LentAt w g u l) (hb : But X w w') (hx : ¬ X g) : LentAt w' g u l := by
 obtain ⟨cap, e, hr⟩ := h
 exact ⟨cap, e, ownsRow_but hr hb (fun k hk c => by simp [Value.ownBlock] at hk; subst hk; exact hx c)⟩
theorem LF.but {B : Nat} {w w' : World} {v : Value} {ks : List Kep} {vs : List Value} {gs : List Nat} {X : Nat → Prop} (h : LF B w v ks vs gs) (hb : But X w w') (hx : ∀ k, B ≤ k → k < w.heap.size → ¬ X k) : LF B w' v ks vs gs :=
 ⟨h.len, h.len2, ownsRow_but h.row hb (fun k hk => hx k (World.ownsRow.lt h.row k hk).1 (World.ownsRow.lt h.row k hk).2), fun i k u g h1 h2 h3 => lent_but (h.at_ i k u g h1 h2 h3) hb (hx g (h.lo g (List.mem_of_getElem? h3)) (h.at_ i k u g h1 h2 h3).lt), h.lo, h.ap, h.no⟩
theorem LF.below {B : Nat} {w w' : World} {v : Value} {ks : List Kep} {vs : List Value} {gs : List Nat} (h : LF B w v ks vs gs) (hb : Below w.heap.size w w') : LF B w' v ks vs gs := h.but (But.of_below hb fun _ => False) (fun _ _ _ c => c)
theorem ownsRow_low {w : World} {B B' : Nat} {e : TypeId} {s : Nat} {v : Value} {n : Nat} {xs : List Value} (h : w.ownsRow B e s v n xs) (hb : B' ≤ B) : w.ownsRow B' e s v n xs := by
 obtain ⟨h1, h2 | ⟨g, cap, cur, e1, e2, e3⟩⟩ := h
 ·exact ⟨h1, .inl h2⟩
 ·exact ⟨h1, .inr ⟨g, cap, cur, e1, Nat.le_trans hb e2, e3⟩⟩
theorem LF.low {B B' : Nat} {w : World} {v : Value} {ks : List Kep} {vs : List Value} {gs : List Nat} (h : LF B w v ks vs gs) (hb : B' ≤ B) : LF B' w v ks vs gs := ⟨h.len, h.len2, ownsRow_low h.row hb, h.at_, fun g hg => Nat.le_trans hb (h.lo g hg), h.ap, h.no⟩
theorem LF.snoc {B : Nat} {w wc w' : World} {v v' : Value} {ks : List Kep} {vs : List Value} {gs : List Nat} {l : Kep} {u : Value} {g : Nat} (h : LF B w v ks vs gs) (hB : B ≤ w.heap.size) (hu : LentAt wc g u l.2) (hg : w.heap.size ≤ g) (hbc : Below w.heap.size w wc)
    (hr : w'.ownsRow B 88 2 v' (ks.length + 1) (kcs ks vs ++ [.int .i64 l.1, u])) (hgr : wc.grownBy w' v.ownBlock) (hv : v'.ownBlock = v.ownBlock ∨ ∃ k, v'.ownBlock = some k ∧ wc.heap.size ≤ k) : LF B w' v' (ks ++ [l]) (vs ++ [u]) (gs ++ [g]) := by
 have hb : But (fun k => v.ownBlock = some k) wc w' := But.of_grownBy hgr fun k e => e
 have vlt : ∀ k, v.ownBlock = some k → k < w.heap.size := fun k hk => (World.ownsRow.lt h.row k hk).2
 have glt : ∀ x ∈ gs, x < w.heap.size := fun x hx => by
  obtain ⟨i, hi, rfl⟩ := List.getElem_of_mem hx
  have h1 : i < ks.length := by rw [← h.len2]; exact hi
  exact (h.at_ i ks[i] (vs[i]'(by rw [h.len]; exact h1)) gs[i] (List.getElem?_eq_getElem h1) (List.getElem?_eq_getElem _) (List.getElem?_eq_getElem hi)).lt
 refine ⟨by rw [List.length_append, List.length_append, h.len]; rfl, by rw [List.length_append, List.length_append, h.len2]; rfl, ?_, fun i k u' g' h1 h2 h3 => ?_, fun x hx => ?_, fun i j x hij h1 h2 => ?_, fun x hx c => ?_⟩
 ·rw [List.length_append, kcs_snoc _ _ _ _ h.len]; exact hr
 ·by_cases hi : i < ks.length
  ·rw [List.getElem?_append_left hi] at h1
   rw [List.getElem?_append_left (by rw [h.len]; exact hi)] at h2
   rw [List.getElem?_append_left (by rw [h.len2]; exact hi)] at h3
   have q := h.at_ i k u' g' h1 h2 h3
   exact lent_but (q.below hbc) hb (h.no g' (List.mem_of_getElem? h3))
  ·have hi2 : i = ks.length := by have := (List.getElem?_eq_some_iff.1 h1).1; rw [List.length_append] at this; simp at this; omega
   subst hi2
   rw [List.getElem?_append_right (Nat.le_refl _)] at h1
   rw [List.getElem?_append_right (by rw [h.len]; exact Nat.le_refl _), h.len] at h2
   rw [List.getElem?_append_right (by rw [h.len2]; exact Nat.le_refl _), h.len2] at h3
   simp at h1 h2 h3
   subst h1 h2 h3
   exact lent_but hu hb (fun c => by have := vlt _ c; omega)
 ·rcases List.mem_append.1 hx with q | q
  ·exact h.lo x q
  ·rw [List.mem_singleton.1 q]; omega
 ·have key : ∀ i x, (gs ++ [g])[i]? = some x → (i < gs.length ∧ gs[i]? = some x) ∨ (i = gs.length ∧ x = g) := fun i x hx => by
    by_cases hi : i < gs.length
    ·rw [List.getElem?_append_left hi] at hx; exact .inl ⟨hi, hx⟩
    ·have hi2 : i = gs.length := by have := (List.getElem?_eq_some_iff.1 hx).1; rw [List.length_append] at this; simp at this; omega
     subst hi2
     rw [List.getElem?_append_right (Nat.le_refl _)] at hx
     simp at hx
     exact .inr ⟨rfl, hx.symm⟩
  rcases key i x h1 with ⟨a1, a2⟩ | ⟨a1, a2⟩
  ·rcases key j x h2 with ⟨b1, b2⟩ | ⟨b1, b2⟩
   ·exact h.ap i j x hij a2 b2
   ·have := glt x (List.mem_of_getElem? a2); omega
  ·rcases key j x h2 with ⟨b1, b2⟩ | ⟨b1, b2⟩
   ·have := glt x (List.mem_of_getElem? b2); omega
   ·omega
 ·rcases List.mem_append.1 hx with q | q
  ·rcases hv with e | ⟨k, e, hk⟩
   ·exact h.no x q (by rw [← e]; exact c)
   ·have q1 := glt x q
    have q2 := hbc.size
    rw [e] at c
    simp at c
    omega
  ·rw [List.mem_singleton.1 q] at c
   rcases hv with e | ⟨k, e, hk⟩
   ·have := vlt g (by rw [← e]; exact c); omega
   ·have q1 := hu.lt
    rw [e] at c
    simp at c
    omega
theorem infoKe : (Tryz.prog.info? 88).map (fun i => (i.zero, i.size, i.bytes)) = some (some (.agg #[.int .i64 0, .slice none 0 0]), 2, 32) := by kernel_rfl
structure Lx (fb gb : Nat) (d : Int) (vk vc : Value) (kb ko : Nat) (N : Int) (vj : Value) (q : World) : Prop where
 f : q.heap[fb]? = some (.cells #[.int .i64 d, vk] 34 (0, 0))
 g : q.heap[gb]? = some (.cells #[.int .i64 d, vc] 34 (0, 0))
 n : q.cell? ⟨kb, ko, none⟩ = some (.int .i64 N)
 j : q.cell? ⟨kb, ko + 1, none⟩ = some vj
theorem Lx.but {fb gb : Nat} {d : Int} {vk vc : Value} {kb ko : Nat} {N : Int} {vj : Value} {q q' : World} {X : Nat → Prop} (h : Lx fb gb d vk vc kb ko N vj q) (hb : But X q q') (h1 : ¬ X fb) (h2 : ¬ X gb) (h3 : ¬ X kb) : Lx fb gb d vk vc kb ko N vj q' := ⟨hb.at h.f h1, hb.at h.g h2, cell_but h.n hb h3, cell_but h.j hb h3⟩
theorem lent_fate (w : World) (d : Int) (vk : Value) (ks : List Kep) (hK : Kp (fun k => k < w.heap.size) w vk ks) (hl : ks.length * 32 ≤ 140737488351232) (hj : ∀ k ∈ ks, k.2.length ≤ 140737488351232) :
    Calls Tryz.prog 61 #[.agg #[.int .i64 d, vk]] w fun e w' => ∃ v vs gs, e = .returned (.agg #[.int .i64 d, v]) ∧ LF w.heap.size w' v ks vs gs ∧ Below w.heap.size w w' := by
 obtain ⟨ka, kc, rfl, k1, k2, k3⟩ := id hK
 have k2' : kc ≤ 9223372036854775807 := by unfold maxLen at k2; omega
 replace hK := hide hK
 replace k3 := hide k3
 replace hl := hide hl
 replace hj := hide hj
 obtain ⟨N, hN⟩ : ∃ N, Hid (ks.length = N) := ⟨_, rfl⟩
 rw [hN.out] at k1 hl ⊢
 have B1 := hide (box_below w (.cells #[.int .i64 d, .slice ka N kc] 34))
 have N1 := heap_alloc_new w (.cells #[.int .i64 d, .slice ka N kc] 34)
 obtain ⟨w1, hw1⟩ : ∃ w1, Hid (w.alloc (.cells #[.int .i64 d, .slice ka N kc] 34) = w1) := ⟨_, rfl⟩
 rw [hw1.out] at B1 N1
 have s1 : w1.heap.size = w.heap.size + 1 := by rw [← hw1.out]; simp
 have B2 := hide (box_below w1 (.cells #[.int .i64 0, .slice none 0 0] 34))
 have N2 := heap_alloc_new w1 (.cells #[.int .i64 0, .slice none 0 0] 34)
 obtain ⟨w2, hw2⟩ : ∃ w2, Hid (w1.alloc (.cells #[.int .i64 0, .slice none 0 0] 34) = w2) := ⟨_, rfl⟩
 rw [hw2.out] at B2 N2
 have s2 : w2.heap.size = w.heap.size + 2 := by rw [← hw2.out]; simp [s1]
 have N12 : w2.heap[w.heap.size]? = some (.cells #[.int .i64 d, .slice ka N kc] 34 (0, 0)) := (B2.out.block _ (heap_lt N1)).trans N1
 have c0 : w2.cell? ⟨w.heap.size, 0, none⟩ = some (.int .i64 d) := (two_cells N12).1
 obtain ⟨i0, hi, hz0, hz1, hz2⟩ := info_parts infoKe
 replace hi := hide hi
 clear k2
 go_enter Tryz.func61, Tryz.ntmps61
 go_upto_region 1 with fail
 rw [hw1.out]
 rw [s1] at N2
 rw [hw2.out]
 have B3 := hide (box_below w2 (.cells #[.int .i64 d, .slice none 0 0] 34))
 have N3 := heap_alloc_new w2 (.cells #[.int .i64 d, .slice none 0 0] 34)
 rw [s2] at N3
 go_upto_region 2 with fail
 try rw [s2]
 obtain ⟨w3, hw3⟩ : ∃ w3, Hid (w2.alloc (.cells #[.int .i64 d, .slice none 0 0] 34) = w3) := ⟨_, rfl⟩
 rw [hw3.out] at B3 N3 ⊢
 have s3 : w3.heap.size = w.heap.size + 3 := by rw [← hw3.out]; simp [s2]
 have f3 : Hid (w3.heap[w.heap.size]? = some (.cells #[.int .i64 d, .slice ka N kc] 34 (0, 0))) := (B3.out.block _ (by omega)).trans N12
 have r3 : Hid (w3.heap[w.heap.size + 1]? = some (.cells #[.int .i64 0, .slice none 0 0] 34 (0, 0))) := (B3.out.block _ (by omega)).trans N2
 have bel3 : Hid (Below w.heap.size w w3) := B1.out.trans ((B2.out.trans (B3.out.mono B2.out.size)).mono B1.out.size)
 have K3 := hide (hK.out.below bel3.out)
 replace s3 := hide s3
 clear c0 N1 N2 N12 s1 s2
 go_wp2_with fail
 go_loopw [4] (fun i wr => ∃ k : Nat, i = .int .i64 k ∧ k ≤ N ∧ Hid (∃ vc vs gs, wr.heap[w.heap.size + 2]? = some (.cells #[.int .i64 d, vc] 34 (0, 0)) ∧ LF w3.heap.size wr vc (ks.take k) vs gs ∧ But (fun k => k = w.heap.size + 2) w3 wr)) (fun i _ => N - (intOf i).toNat)
 case atStart => exact ⟨0, rfl, Nat.zero_le _, .slice none 0 0, [], [], N3, LF.nil _ _, But.of_below (Below.refl _ _) _⟩
 case round =>
  obtain ⟨k, rfl, hk, hQ⟩ := hrel
  obtain ⟨vc, vs, gs, gx, hF, hb⟩ := hQ.out
  clear hQ
  have fw : wr.heap[w.heap.size]? = some (.cells #[.int .i64 d, .slice ka N kc] 34 (0, 0)) := hb.at f3.out (by omega)
  have rw_ : Hid (wr.heap[w.heap.size + 1]? = some (.cells #[.int .i64 0, .slice none 0 0] 34 (0, 0))) := hb.at r3.out (by omega)
  obtain ⟨x0, x1⟩ := two_cells fw
  by_cases hlt : k < N
  ·have i1 : (k : Int) < (N : Int) := by omega
   have hkl : k < ks.length := by rw [hN.out]; exact hlt
   obtain ⟨ka2, kc2, e3, _, _, kk⟩ := (K3.out.but hb (fun j hj e => by omega))
   simp only [Value.slice.injEq] at e3
   obtain ⟨e31, _, e33⟩ := e3
   subst e31
   subst e33
   obtain ⟨kb, ko, vj, rfl, hkz, n0, n1, hsj, hsi, nb0, nb1⟩ := kk k hkl
   obtain ⟨ja, jc, rfl, _, j3, j4, _⟩ := id hsj
   have hjl := hj.out _ (List.getElem_mem hkl)
   have hsn : Hid (ks.take (k + 1) = ks.take k ++ [ks[k]]) := by show _ = _; rw [List.take_succ_eq_append_getElem hkl]
   have hll : Hid ((ks.take k).length = k) := by show _ = _; rw [List.length_take]; omega
   have SJ := hide hsj
   obtain ⟨ca, cn, cc, rfl⟩ : ∃ ca cn cc, vc = .slice ca cn cc := by rcases hF.row.2 with ⟨e, _⟩ | ⟨g, cap, cur, e, _⟩ <;> exact ⟨_, _, _, e⟩
   generalize hkk : ks[k] = kp at *
   obtain ⟨kn, J⟩ := kp
   dsimp only at n0 n1 SJ nb0 nb1 hjl
   generalize hJ : J.length = jl at *
   replace hF := hide hF
   replace hb := hide hb
   have Z0 : Hid (Lx w.heap.size (w.heap.size + 2) d (.slice (some ⟨kb, ko, none⟩) N kc) (.slice ca cn cc) kb (ko + k * 2) kn (.slice ja jl jc) wr) := ⟨fw, gx, n0, n1⟩
   have hkz2 : Hid (kb < w.heap.size) := hkz
   clear hkk hsj kk nb0 nb1 hsi j3
   go_upto_region 5 with fail
   clear x0 x1
   have KP : Hid (Lx w.heap.size (w.heap.size + 2) d (.slice (some ⟨kb, ko, none⟩) N kc) (.slice ca cn cc) kb (ko + k * 2) kn (.slice ja jl jc) wr.drew) := Z0.out.but (But.of_below (Below.refl _ _).drew fun _ => False) (fun c => c) (fun c => c) (fun c => c)
   have GQ : Hid (Below wr.heap.size wr wr.drew) := (Below.refl _ _).drew
   refine wp_region_T (fun q => Lx w.heap.size (w.heap.size + 2) d (.slice (some ⟨kb, ko, none⟩) N kc) (.slice ca cn cc) kb (ko + k * 2) kn (.slice ja jl jc) q) 19 (by kernel_rfl) ?_
   generalize wr.drew = q at *
   refine Ix.tk 0 ⟨some 15, .fieldAddr 34 (.tmp 3) 1, _, _, _, _⟩ (.pointer (some ⟨w.heap.size + 2, 1, none⟩)) [1,17,19] ?_ KP.out ?_
   ·intro wq hSw; go_simp
   (try simp only [zzp, zzb, zzc])
   refine Ix.tk 1 ⟨some 16, .load 32 (.tmp 15), _, _, _, _⟩ (.slice ca cn cc) [17,19] ?_ KP.out ?_
   ·intro wq hSw
    obtain ⟨y0, y1⟩ := two_cells hSw.f
    obtain ⟨z0, z1⟩ := two_cells hSw.g
    have t0 := hSw.n
    have t1 := hSw.j
    go_simp
   (try simp only [zzp, zzb, zzc])
   refine Ix.tk 2 ⟨some 17, .fieldAddr 34 (.tmp 1) 1, _, _, _, _⟩ (.pointer (some ⟨w.heap.size, 1, none⟩)) [3,5,6,7,15,16,17,19] ?_ KP.out ?_
   ·intro wq hSw; go_simp
   (try simp only [zzp, zzb, zzc])
   refine Ix.tk 3 ⟨some 18, .load 32 (.tmp 17), _, _, _, _⟩ (.slice (some ⟨kb, ko, none⟩) N kc) [5,6,7,15,16,17,19] ?_ KP.out ?_
   ·intro wq hSw
    obtain ⟨y0, y1⟩ := two_cells hSw.f
    obtain ⟨z0, z1⟩ := two_cells hSw.g
    have t0 := hSw.n
    have t1 := hSw.j
    go_simp
   (try simp only [zzp, zzb, zzc])
   refine Ix.tk 4 ⟨some 19, .move (.tmp 4), _, _, _, _⟩ (.int .i64 (k : Int)) [5,6,7,15,16,17,19] ?_ KP.out ?_
   ·intro wq hSw; go_simp
   (try simp only [zzp, zzb, zzc])
   refine Ix.tk 5 ⟨some 20, .indexAddr 32 (.tmp 18) (.tmp 19), _, _, _, _⟩ (.pointer (some ⟨kb, ko + k * 2, none⟩)) [6,7,15,16,17,19] ?_ KP.out ?_
   ·intro wq hSw
    obtain ⟨y0, y1⟩ := two_cells hSw.f
    obtain ⟨z0, z1⟩ := two_cells hSw.g
    have t0 := hSw.n
    have t1 := hSw.j
    go_simp
   (try simp only [zzp, zzb, zzc])
   refine Ix.tk 6 ⟨some 21, .fieldAddr 88 (.tmp 20) 0, _, _, _, _⟩ (.pointer (some ⟨kb, ko + k * 2, none⟩)) [7,15,16,17,19] ?_ KP.out ?_
   ·intro wq hSw; go_simp
   (try simp only [zzp, zzb, zzc])
   refine Ix.tk 7 ⟨some 22, .load 3 (.tmp 21), _, _, _, _⟩ (.int .i64 kn) [15,16,17,19] ?_ KP.out ?_
   ·intro wq hSw
    obtain ⟨y0, y1⟩ := two_cells hSw.f
    obtain ⟨z0, z1⟩ := two_cells hSw.g
    have t0 := hSw.n
    have t1 := hSw.j
    go_simp
   (try simp only [zzp, zzb, zzc])
   refine Ix.tk 8 ⟨some 23, .fieldAddr 34 (.tmp 1) 1, _, _, _, _⟩ (.pointer (some ⟨w.heap.size, 1, none⟩)) [9,11,12,13,14,15,16,17,19] ?_ KP.out ?_
   ·intro wq hSw; go_simp
   (try simp only [zzp, zzb, zzc])
   refine Ix.tk 9 ⟨some 24, .load 32 (.tmp 23), _, _, _, _⟩ (.slice (some ⟨kb, ko, none⟩) N kc) [11,12,13,14,15,16,17,19] ?_ KP.out ?_
   ·intro wq hSw
    obtain ⟨y0, y1⟩ := two_cells hSw.f
    obtain ⟨z0, z1⟩ := two_cells hSw.g
    have t0 := hSw.n
    have t1 := hSw.j
    go_simp
   (try simp only [zzp, zzb, zzc])
   refine Ix.tk 10 ⟨some 25, .move (.tmp 4), _, _, _, _⟩ (.int .i64 (k : Int)) [11,12,13,14,15,16,17,19] ?_ KP.out ?_
   ·intro wq hSw; go_simp
   (try simp only [zzp, zzb, zzc])
   refine Ix.tk 11 ⟨some 26, .indexAddr 32 (.tmp 24) (.tmp 25), _, _, _, _⟩ (.pointer (some ⟨kb, ko + k * 2, none⟩)) [12,13,14,15,16,17,19] ?_ KP.out ?_
   ·intro wq hSw
    obtain ⟨y0, y1⟩ := two_cells hSw.f
    obtain ⟨z0, z1⟩ := two_cells hSw.g
    have t0 := hSw.n
    have t1 := hSw.j
    go_simp
   (try simp only [zzp, zzb, zzc])
   refine Ix.tk 12 ⟨some 27, .fieldAddr 88 (.tmp 26) 1, _, _, _, _⟩ (.pointer (some ⟨kb, ko + k * 2 + 1, none⟩)) [13,14,15,16,17,19] ?_ KP.out ?_
   ·intro wq hSw; go_simp
   (try simp only [zzp, zzb, zzc])
   refine Ix.tk 13 ⟨some 28, .load 30 (.tmp 27), _, _, _, _⟩ (.slice ja jl jc) [14,15,16,17,19] ?_ KP.out ?_
   ·intro wq hSw
    obtain ⟨y0, y1⟩ := two_cells hSw.f
    obtain ⟨z0, z1⟩ := two_cells hSw.g
    have t0 := hSw.n
    have t1 := hSw.j
    go_simp
   (try simp only [zzp, zzb, zzc])
   refine wpAnyT_one (i := 14) (o := ⟨some 29, .call { callee := .value (.func 45), args := #[.tmp 28], argTypes := #[30] }, _, _, _, _⟩) (by kernel_rfl) rfl (fun K hK => ?_)
   go_simp
   go_at_call 45
   refine (lent_any q _ J (by have := Below.sl GQ.out SJ.out; exact this) (by omega)).mono ?_
   rintro e w5 ⟨lg, lv, rfl, LA, LB, LZ⟩
   obtain ⟨lcap, el, lo⟩ := id LA
   subst el
   rw [hJ] at *
   replace LA := hide LA
   replace LB := hide LB
   replace LZ := hide LZ
   have K5 : Hid (Lx w.heap.size (w.heap.size + 2) d (.slice (some ⟨kb, ko, none⟩) N kc) (.slice ca cn cc) kb (ko + k * 2) kn (.slice ja jl jc) w5) := KP.out.but (But.of_below LB.out fun _ => False) (fun c => c) (fun c => c) (fun c => c)
   (try go_simp)
   refine hK.out _ _ (fun _ => K5.out) ?_
   clear hK K lo
   (try simp only [zzp, zzb, zzc])
   refine Ix.tk 15 ⟨some 30, .build 88 #[(0, .tmp 22), (1, .tmp 29)], _, _, _, _⟩ (.agg #[.int .i64 kn, .slice (some ⟨lg, 0, none⟩) jl lcap]) [16,17,19] ?_ K5.out ?_
   ·intro wq hSw
    obtain ⟨y0, y1⟩ := two_cells hSw.f
    obtain ⟨z0, z1⟩ := two_cells hSw.g
    have t0 := hSw.n
    have t1 := hSw.j
    go_simp
   (try simp only [zzp, zzb, zzc])
   have B6 := hide (box_below w5 (.cells #[.int .i64 kn, .slice (some ⟨lg, 0, none⟩) jl lcap] 88))
   have N6 := hide (heap_alloc_new w5 (.cells #[.int .i64 kn, .slice (some ⟨lg, 0, none⟩) jl lcap] 88))
   have K6 : Hid (Lx w.heap.size (w.heap.size + 2) d (.slice (some ⟨kb, ko, none⟩) N kc) (.slice ca cn cc) kb (ko + k * 2) kn (.slice ja jl jc) (w5.alloc (.cells #[.int .i64 kn, .slice (some ⟨lg, 0, none⟩) jl lcap] 88))) := K5.out.but (But.of_below B6.out fun _ => False) (fun c => c) (fun c => c) (fun c => c)
   have W6 : Hid (Below wr.heap.size wr (w5.alloc (.cells #[.int .i64 kn, .slice (some ⟨lg, 0, none⟩) jl lcap] 88))) := (GQ.out.trans (LB.out.mono GQ.out.size)).trans (B6.out.mono (Nat.le_trans GQ.out.size LB.out.size))
   have L6 : Hid (LentAt (w5.alloc (.cells #[.int .i64 kn, .slice (some ⟨lg, 0, none⟩) jl lcap] 88)) lg (.slice (some ⟨lg, 0, none⟩) jl lcap) J) := LA.out.below B6.out
   refine wpAnyT_one (i := 16) (o := ⟨some 31, .buildSlice 32 1 #[(0, .tmp 30)], _, _, _, _⟩) (by kernel_rfl) rfl (fun K hK => ?_)
   go_simp
   refine hK.out _ _ (fun _ => K6.out) ?_
   clear hK K
   (try simp only [zzp, zzb, zzc])
   generalize hne : w5.heap.size = ne at *
   generalize (w5.alloc (.cells #[.int .i64 kn, .slice (some ⟨lg, 0, none⟩) jl lcap] 88)) = w6 at *
   have R6 := hide (hF.out.below W6.out).row
   have w3z : Hid (w3.heap.size ≤ wr.heap.size) := hb.out.size
   have z6 : Hid (w3.heap.size ≤ w6.heap.size) := Nat.le_trans hb.out.size W6.out.size
   refine wpAnyT_one (i := 17) (o := ⟨some 32, .call { callee := .builtin .append, args := #[.tmp 16, .tmp 31], argTypes := #[32, 32] }, _, _, _, _⟩) (by kernel_rfl) rfl (fun K hK => ?_)
   refine step_append_lies _ rfl (.tmp 16) (.tmp 31) 32 rfl w3.heap.size 88 i0 (.agg #[.int .i64 0, .slice none 0 0]) 2 32 Tryz.underlying32 hi.out hz0 hz1 hz2 rfl (by decide) (.slice ca cn cc) (ks.take k).length (kcs (ks.take k) vs) (by simp [Act.eval]) R6.out ⟨ne, 0, none⟩ 1 1 [.int .i64 kn, .slice (some ⟨lg, 0, none⟩) jl lcap] (by simp [Act.eval]) rfl (two_new N6.out) (by simp [Value.oneCell']) (by decide) (by have := hll.out; have := hl.out; unfold maxLen; omega) (by have := hll.out; have := hl.out; omega) z6.out w6.heap.size rfl ?_
   intro g2 cap2 w8 ho8 hg8 hat hlt8
   have b8 : But (fun j => (Value.slice ca cn cc).ownBlock = some j) w6 w8 := But.of_grownBy hg8 fun j e => e
   have nob : ∀ j, (Value.slice ca cn cc).ownBlock = some j → w.heap.size + 3 ≤ j := fun j hj => by have q1 := (World.ownsRow.lt R6.out j hj).1; have q2 := s3.out; omega
   have K8 : Hid (Lx w.heap.size (w.heap.size + 2) d (.slice (some ⟨kb, ko, none⟩) N kc) (.slice ca cn cc) kb (ko + k * 2) kn (.slice ja jl jc) w8) := K6.out.but b8 (fun c => by have := nob _ c; omega) (fun c => by have := nob _ c; omega) (fun c => by have q1 := nob _ c; have q2 := hkz2.out; omega)
   have F8 : Hid (LF w3.heap.size w8 (.slice (some ⟨g2, 0, none⟩) ((ks.take k).length + 1) cap2) (ks.take k ++ [(kn, J)]) (vs ++ [.slice (some ⟨lg, 0, none⟩) jl lcap]) (gs ++ [lg])) := by
    refine hF.out.snoc w3z.out L6.out (by have q1 := LZ.out; have q2 := GQ.out.size; omega) W6.out ho8 hg8 ?_
    rcases hat with e | e
    ·exact .inl (by rw [e]; rfl)
    ·exact .inr ⟨g2, rfl, by rw [e]; exact Nat.le_refl _⟩
   have b38 : Hid (But (fun j => j = w.heap.size + 2) w3 w8) := by
    have h1 := hb.out.trans (But.of_below W6.out _)
    exact but_trans_new h1 b8 (fun j c => .inr (World.ownsRow.lt R6.out j c).1)
   refine hK.out _ _ (fun _ => K8.out) ?_
   clear hK K
   (try simp only [zzp, zzb, zzc])
   refine Ix.tk 18 ⟨some 33, .fieldAddr 34 (.tmp 3) 1, _, _, _, _⟩ (.pointer (some ⟨w.heap.size + 2, 1, none⟩)) [19] ?_ K8.out ?_
   ·intro wq hSw; go_simp
   (try simp only [zzp, zzb, zzc])
   obtain ⟨z0, z1⟩ := two_cells K8.out.g
   have fz : w8.frozen? ⟨w.heap.size + 2, 1, none⟩ = false := by simp [World.frozen?, K8.out.g]
   have h9 := heap_setCell_same w8 (w.heap.size + 2) 1 _ _ (.slice (some ⟨g2, 0, none⟩) ((ks.take k).length + 1) cap2) K8.out.g
   have g9 := But.of_grownBy (X := fun j => j = w.heap.size + 2) (grown_setCell w8 (w.heap.size + 2) 1 (.slice (some ⟨g2, 0, none⟩) ((ks.take k).length + 1) cap2)) fun j e => by cases e; rfl
   have F9 := hide (F8.out.but g9 (fun j h1 _ e => by have := s3.out; omega))
   have b39 := hide (b38.out.trans g9)
   replace h9 := hide h9
   rw [hll.out] at F9 b39 h9
   rw [hll.out]
   refine wpAnyT_one (i := 19) (o := ⟨none, .store 32 (.tmp 33) (.tmp 32), _, _, _, _⟩) (by kernel_rfl) rfl (fun K hK => ?_)
   go_simp
   refine hK.out _ _ (vac (by kernel_rfl)) ?_
   clear hK K z0 z1 fz g9
   (try simp only [zzq])
   refine wpAnyT_done (by kernel_rfl) ?_ _
   go_wp2_with fail
   go_roundw
   case rel =>
    refine ⟨k + 1, by go_num, by omega, .slice (some ⟨g2, 0, none⟩) (k + 1) cap2, vs ++ [.slice (some ⟨lg, 0, none⟩) jl lcap], gs ++ [lg], ?_, ?_, b39.out⟩
    ·exact h9.out
    ·rw [hsn.out]; exact F9.out
   case measure => simp [intOf]; omega
  ·have i1 : ¬ ((k : Int) < (N : Int)) := by omega
   obtain rfl : k = N := by omega
   rw [List.take_of_length_le (by rw [hN.out]; omega)] at hF
   have FF := hide hF
   obtain ⟨ca, cn, cc, rfl⟩ : ∃ ca cn cc, vc = .slice ca cn cc := by rcases hF.row.2 with ⟨e, _⟩ | ⟨g, cap, cur, e, _⟩ <;> exact ⟨_, _, _, e⟩
   obtain ⟨g0, g1⟩ := two_cells gx
   obtain ⟨y1, y2, y3, y4, y5, y6, y7, y8⟩ := two_store (.int .i64 d) (.slice ca cn cc) rw_.out
   replace y6 := hide y6
   replace y5 := hide y5
   replace hb := hide hb
   clear hF gx fw
   go_wp2_with fail
   try simp only [Exit.inBlock, Exit.then]
   refine bodyPost_ret (v := .agg #[.int .i64 d, .slice ca cn cc]) (by simp [results, Tryz.results61, go_sem, y7, y8]; try rfl) rfl ?_
   have bw : Below w.heap.size w wr := but_new bel3.out hb.out (by omega)
   have F2 := FF.out.but y6.out (fun k h1 _ e => by have := s3.out; omega)
   have F3 := F2.low (B' := w.heap.size) (by have := s3.out; omega)
   have b3 := but_new bw y6.out (by omega)
   first | exact ⟨_, rfl, ⟨vs, gs, F3⟩, b3⟩ | exact ⟨_, ⟨rfl, vs, gs, F3⟩, b3⟩ | exact ⟨_, rfl, ⟨⟨vs, gs, F3⟩, b3⟩⟩ | exact ⟨_, ⟨rfl, ⟨vs, gs, F3⟩⟩, b3⟩
end Go.Proofs.YtjehpijjneghpaaGreat.Re
