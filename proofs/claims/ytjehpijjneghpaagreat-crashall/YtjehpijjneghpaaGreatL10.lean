/-
  Plays: Crash.
-/
import Derived.Test.YtjehpijjneghpaaGreatL08
import Derived.Test.YtjehpijjneghpaaGreatL09
import Derived.Test.YtjehpijjneghpaaGreatL07
import Derived.Test.YtjehpijjneghpaaGreatL03
import Derived.Test.YtjehpijjneghpaaGreatL04
import Derived.BigQuiet
set_option maxRecDepth 100000
set_option maxHeartbeats 40000000
set_option linter.unusedVariables false
namespace Go.Proofs.YtjehpijjneghpaaGreat.Re
open Go.RowKit Go.Maps Go.Sort Go.Shelf Go.Proofs.YtjehpijjneghpaaGreat.Nm Go.Proofs.YtjehpijjneghpaaGreat.Dk
open Ix (wp_region_T wpAnyT wpAnyT_take wpAnyT_one wpAnyT_done vac)
variable {W0 w : World} {pb b : Nat} {S : DS} {R : RB} {Q : Nat → Prop}
theorem LF.glt {B : Nat} {w : World} {v : Value} {ks : List Kep} {vs : List Value} {gs : List Nat} (h : LF B w v ks vs gs) : ∀ x ∈ gs, B ≤ x ∧ x < w.heap.size := fun x hx => by
 refine ⟨h.lo x hx, ?_⟩
 obtain ⟨i, hi, rfl⟩ := List.getElem_of_mem hx
 have h1 : i < ks.length := by rw [← h.len2]; exact hi
 exact (h.at_ i ks[i] (vs[i]'(by rw [h.len]; exact h1)) gs[i] (List.getElem?_eq_getElem h1) (List.getElem?_eq_getElem _) (List.getElem?_eq_getElem hi)).lt
theorem add_zero (g j : Nat) : (⟨g, 0, none⟩ : Addr).add j = ⟨g, j, none⟩ := by
 cases j with
 | zero => rfl
 | succ j => simp [Addr.add]
theorem LF.nth {B : Nat} {w : World} {v : Value} {ks : List Kep} {vs : List Value} {gs : List Nat} (h : LF B w v ks vs gs) (i : Nat) (hi : i < ks.length) : ∃ lb cap u g, v = .slice (some ⟨lb, 0, none⟩) ks.length cap ∧ ks.length ≤ cap ∧ cap ≤ maxLen ∧ B ≤ lb ∧ lb < w.heap.size ∧ w.cell? ⟨lb, i * 2, none⟩ = some (.int .i64 ks[i].1) ∧ w.cell? ⟨lb, i * 2 + 1, none⟩ = some u ∧ gs[i]? = some g ∧ LentAt w g u ks[i].2 ∧ (∀ g ∈ gs, g ≠ lb) := by
 have hv : i < vs.length := by rw [h.len]; exact hi
 have hg : i < gs.length := by rw [h.len2]; exact hi
 have q := kcs_at ks vs h.len i ks[i] vs[i] (List.getElem?_eq_getElem hi) (List.getElem?_eq_getElem hv)
 have hL := h.at_ i _ _ _ (List.getElem?_eq_getElem hi) (List.getElem?_eq_getElem hv) (List.getElem?_eq_getElem hg)
 rcases id h.row with ⟨h0, ⟨e, hz⟩ | ⟨g, cap, cur, e, hB, hc, h1, h2, h3, h4⟩⟩
 ·omega
 ·have ce := World.ownsRow.cells h.row (g := g) (by rw [e]; rfl)
  have c1 := ce _ _ q.1
  have c2 := ce _ _ q.2
  refine ⟨g, cap, vs[i], gs[i], e, h1, h2, hB, heap_lt hc, ?_, ?_, List.getElem?_eq_getElem hg, hL, fun x hx c => h.no x hx (by rw [e, c]; rfl)⟩
  ·rw [← add_zero g (i * 2)]; exact c1
  ·rw [← add_zero g (i * 2 + 1)]; exact c2
theorem LF.kp {B : Nat} {w : World} {v : Value} {ks : List Kep} {vs : List Value} {gs : List Nat} (h : LF B w v ks vs gs) (hn : ∀ k ∈ ks, -9223372036854775808 ≤ k.1 ∧ k.1 ≤ 9223372036854775807) : Kp (fun k => B ≤ k ∧ k < w.heap.size) w v ks := by
 rcases id h.row with ⟨h0, ⟨e, hz⟩ | ⟨g, cap, cur, e, hB, hc, h1, h2, h3, h4⟩⟩
 ·exact ⟨none, 0, by rw [hz]; exact e, by omega, Nat.zero_le _, fun i hi => by omega⟩
 ·refine ⟨some ⟨g, 0, none⟩, cap, e, h1, h2, fun i hi => ?_⟩
  obtain ⟨lb, cap2, u, g2, e2, _, _, b1, b2, c1, c2, hg, hL, _⟩ := h.nth i hi
  rw [e] at e2
  simp only [Value.slice.injEq, Option.some.injEq, Addr.mk.injEq] at e2
  obtain ⟨⟨rfl, _, _⟩, _, rfl⟩ := e2
  refine ⟨g, 0, u, rfl, ⟨b1, b2⟩, by rw [Nat.zero_add]; exact c1, by rw [Nat.zero_add]; exact c2, hL.sl, fun b off n c e3 _ => ?_, hn _ (List.getElem_mem hi)⟩
  obtain ⟨cap3, e4, _⟩ := hL
  rw [e3] at e4
  simp only [Value.slice.injEq, Option.some.injEq, Addr.mk.injEq] at e4
  obtain ⟨⟨rfl, _, _⟩, _, _⟩ := e4
  exact h.glt _ (List.mem_of_getElem? hg)
theorem kp_ints {Z : Nat → Prop} {w : World} {v : Value} {ks : List Kep} (h : Kp Z w v ks) : ∀ k ∈ ks, -9223372036854775808 ≤ k.1 ∧ k.1 ≤ 9223372036854775807 := fun k hk => by
 obtain ⟨i, hi, rfl⟩ := List.getElem_of_mem hk
 obtain ⟨ao, cap, e, h1, h2, h3⟩ := h
 obtain ⟨b, off, vj, _, _, _, _, _, _, n0, n1⟩ := h3 i hi
 exact ⟨n0, n1⟩
structure By (pb ob b rb : Nat) (o : Dop) (fb : Nat) (d : Int) (v : Value) (q : World) : Prop where
 p : q.heap[pb]? = some (.cells #[.pointer (some ⟨b, 0, none⟩), .pointer (some ⟨rb, 0, none⟩)] 29 (0, 0))
 o : q.heap[ob]? = some (.cells #[.int .i64 o.kind, .bool o.sec, .string o.nm, .string o.tn, o.vd, .int .i64 o.off, .int .i64 o.n, o.vf, .int .i64 o.dir, o.vk] 36 (0, 0))
 f : q.heap[fb]? = some (.cells #[.int .i64 d, v] 34 (0, 0))
theorem By.go {pb ob b rb : Nat} {o : Dop} {fb : Nat} {d : Int} {v : Value} {q q' : World} {X : Nat → Prop} (h : By pb ob b rb o fb d v q) (hb : But X q q') (h1 : ¬ X pb) (h2 : ¬ X ob) (h3 : ¬ X fb) : By pb ob b rb o fb d v q' := ⟨hb.at h.p h1, hb.at h.o h2, hb.at h.f h3⟩
structure Bz (ob : Nat) (o : Dop) (fb : Nat) (d : Int) (v : Value) (lb lo : Nat) (u : Value) (kb ko : Nat) (y : Value) (q : World) : Prop where
 o : q.heap[ob]? = some (.cells #[.int .i64 o.kind, .bool o.sec, .string o.nm, .string o.tn, o.vd, .int .i64 o.off, .int .i64 o.n, o.vf, .int .i64 o.dir, o.vk] 36 (0, 0))
 f : q.heap[fb]? = some (.cells #[.int .i64 d, v] 34 (0, 0))
 n : q.cell? ⟨lb, lo, none⟩ = some u
 j : q.cell? ⟨kb, ko, none⟩ = some y
theorem Bz.go {ob : Nat} {o : Dop} {fb : Nat} {d : Int} {v : Value} {lb lo : Nat} {u : Value} {kb ko : Nat} {y : Value} {q q' : World} {X : Nat → Prop} (h : Bz ob o fb d v lb lo u kb ko y q) (hb : But X q q') (h1 : ¬ X ob) (h2 : ¬ X fb) (h3 : ¬ X lb) (h4 : ¬ X kb) : Bz ob o fb d v lb lo u kb ko y q' := ⟨hb.at h.o h1, hb.at h.f h2, cell_but h.n hb h3, cell_but h.j hb h4⟩
theorem pl_crash (o : Dop) (hk : o.kind = 10) (h : PlI W0 w pb b S R o Q) : Calls Tryz.prog 11 #[.pointer (some ⟨pb, 0, none⟩), opV o] w (PlP w pb b S R o Q) := by
 obtain ⟨rb, O, V, hx, hQ⟩ := h.pw
 have hI := hide h
 have HX := hide hx
 have hlt := hide hx.lt
 have hpR : Hid (R.play o = R.crash o.dir o.ks) := by show _ = _; unfold RB.play; simp [hk]
 have hpS : Hid (DS.play S o (S.crash o.dir o.ks)) := by show DS.play _ _ _; unfold DS.play; simp [hk]
 have hKi := hide (kp_ints h.ok.ks)
 have hA : Hid (∀ q v, PX q pb b rb S R O V → Kp (fun k => w.heap.size ≤ k ∧ k < q.heap.size) q v o.ks → Calls Tryz.prog 18 #[.pointer (some ⟨b, 0, none⟩), .agg #[.int .i64 o.dir, v]] q fun e w' => ∃ O', e = .returned (.tuple #[]) ∧ PX w' pb b rb (S.crash o.dir o.ks) R O' V ∧ Sgo q w' (own pb O rb V) (own pb O' rb V)) := fun q v hq hK => by
  refine (crash_dsk hq.d (by have := hI.out.cs; omega) o.dir hI.out.ok.dir.1 hI.out.ok.dir.2 v _ o.ks hK (fun k hk => ⟨fun c => by have := hlt.out k (.inr (.inl c)); omega, hk.2⟩)).mono ?_
  rintro e w' ⟨rfl, O', hd, hg⟩
  obtain ⟨px, gx⟩ := hq.stepA hd hg
  exact ⟨_, rfl, px, gx⟩
 have hlo : Hid (∀ k, own pb O rb V k → W0.heap.size ≤ k) := fun k hk => h.lo k (by rw [hQ]; exact hk)
 have hB : Hid (∀ q S' O', PX q pb b rb S' R O' V → W0.heap.size ≤ q.heap.size → Kp (fun k => k < W0.heap.size) q o.vk o.ks → Calls Tryz.prog 38 #[.pointer (some ⟨rb, 0, none⟩), .agg #[.int .i64 o.dir, o.vk]] q fun e w' => ∃ V', e = .returned (.tuple #[]) ∧ PX w' pb b rb S' (R.crash o.dir o.ks) O' V' ∧ Sgo q w' (own pb O' rb V) (own pb O' rb V')) := fun q S' O' hq hz hK => by
  refine (crash_rm hq.r (by have := hI.out.ri.cnt; have := hI.out.cr; omega) (hI.out.ri.pf (by have := hI.out.cr; omega)) o.dir (hI.out.ri.front _) hI.out.ri.la o.vk _ o.ks hK (fun k hk => ⟨fun x c => by have := hlo.out k (.inr (.inr ⟨x, c⟩)); omega, by omega⟩)).mono ?_
  rintro e w' ⟨rfl, hg⟩
  obtain ⟨V', px, gx⟩ := hq.stepB hg
  exact ⟨V', rfl, px, gx⟩
 obtain ⟨ok, os, on, ot, ov, oD, oo, onn, of, ofs, od, ovk, oks⟩ := o
 dsimp only at *
 subst hk
 have hk0 : Kp (fun k => k < W0.heap.size) W0 ovk oks := h.ok.ks
 obtain ⟨ka, kc, rfl, k1, k2, k3⟩ := hk0
 have k2' : kc ≤ 9223372036854775807 := by unfold maxLen at k2; omega
 replace k3 := hide k3
 clear k2
 have BF := hide (box_below w (.cells #[.int .i64 10, .bool os, .string on, .string ot, ov, .int .i64 oo, .int .i64 onn, of, .int .i64 od, .slice ka oks.length kc] 36))
 have NF := heap_alloc_new w (.cells #[.int .i64 10, .bool os, .string on, .string ot, ov, .int .i64 oo, .int .i64 onn, of, .int .i64 od, .slice ka oks.length kc] 36)
 clear hx h
 unfold opV
 go_enter Tryz.func11, Tryz.ntmps11
 obtain ⟨wf, hwf⟩ : ∃ wf, Hid (w.alloc (.cells #[.int .i64 10, .bool os, .string on, .string ot, ov, .int .i64 oo, .int .i64 onn, of, .int .i64 od, .slice ka oks.length kc] 36) = wf) := ⟨_, rfl⟩
 have c0 : (w.alloc (.cells #[.int .i64 10, .bool os, .string on, .string ot, ov, .int .i64 oo, .int .i64 onn, of, .int .i64 od, .slice ka oks.length kc] 36)).cell? ⟨w.heap.size, 0, none⟩ = some (.int .i64 10) := (ten_cells NF).1
 have c4 : (w.alloc (.cells #[.int .i64 10, .bool os, .string on, .string ot, ov, .int .i64 oo, .int .i64 onn, of, .int .i64 od, .slice ka oks.length kc] 36)).cell? ⟨w.heap.size, 4, none⟩ = some (ov) := (ten_cells NF).2.2.2.2.1
 have c7 : (w.alloc (.cells #[.int .i64 10, .bool os, .string on, .string ot, ov, .int .i64 oo, .int .i64 onn, of, .int .i64 od, .slice ka oks.length kc] 36)).cell? ⟨w.heap.size, 7, none⟩ = some (of) := (ten_cells NF).2.2.2.2.2.2.2.1
 have c8 : (w.alloc (.cells #[.int .i64 10, .bool os, .string on, .string ot, ov, .int .i64 oo, .int .i64 onn, of, .int .i64 od, .slice ka oks.length kc] 36)).cell? ⟨w.heap.size, 8, none⟩ = some (.int .i64 od) := (ten_cells NF).2.2.2.2.2.2.2.2.1
 have c9 : (w.alloc (.cells #[.int .i64 10, .bool os, .string on, .string ot, ov, .int .i64 oo, .int .i64 onn, of, .int .i64 od, .slice ka oks.length kc] 36)).cell? ⟨w.heap.size, 9, none⟩ = some (.slice ka oks.length kc) := (ten_cells NF).2.2.2.2.2.2.2.2.2
 have MX0 := hide (HX.out.below BF.out)
 have hsz : (w.alloc (.cells #[.int .i64 10, .bool os, .string on, .string ot, ov, .int .i64 oo, .int .i64 onn, of, .int .i64 od, .slice ka oks.length kc] 36)).heap.size = w.heap.size + 1 := by simp
 rw [hwf.out] at BF NF c0 c4 c7 MX0 c8 c9 hsz
 have hwf2 := hwf.out
 clear c4 c7
 have WF := hide (hI.out.bel.trans (BF.out.mono hI.out.bel.size))
 have KF : Hid (Kp (fun k => k < wf.heap.size) wf (.slice ka oks.length kc) oks) := kp_mono (hI.out.ok.ks.but (But.of_below (WF.out) fun _ => False) (fun _ _ c => c)) (fun k hk => by have := WF.out.size; omega)
 go_upto_region 32 with (go_at_call 61; refine (lent_fate wf od _ oks KF.out hI.out.ok.ksn hI.out.ok.ksl).mono ?_; rintro e w1 ⟨v, vs, gs, rfl, L1, B1⟩; obtain ⟨ca, cn, cc, rfl⟩ : ∃ ca cn cc, v = .slice ca cn cc := (by rcases L1.row.2 with ⟨e, _⟩ | ⟨g, cap, cur, e, _⟩ <;> exact ⟨_, _, _, e⟩); replace L1 := hide L1; replace B1 := hide B1)
 clear c0 c8 c9 hwf2
 have B2 := hide (box_below w1 (.cells #[.int .i64 od, .slice ca cn cc] 34))
 have N2 := heap_alloc_new w1 (.cells #[.int .i64 od, .slice ca cn cc] 34)
 have hz2 : (w1.alloc (.cells #[.int .i64 od, .slice ca cn cc] 34)).heap.size = w1.heap.size + 1 := by simp
 generalize hw2 : w1.alloc (.cells #[.int .i64 od, .slice ca cn cc] 34) = w2 at *
 generalize hfb : w1.heap.size = fb at *
 have b1z := B1.out.size
 rw [hfb] at b1z
 have W2 := hide (BF.out.trans ((B1.out.trans (B2.out.mono b1z)).mono BF.out.size))
 have P2 := hide (HX.out.below W2.out)
 have K2 : Hid (By pb w.heap.size b rb ⟨10, os, on, ot, ov, oD, oo, onn, of, ofs, od, .slice ka oks.length kc, oks⟩ fb od (.slice ca cn cc) w2) := ⟨P2.out.box, ((B1.out.trans (B2.out.mono b1z)).block _ (heap_lt NF)).trans NF, N2⟩
 have hfz : Hid (w.heap.size + 1 ≤ fb) := by show _ ≤ _; omega
 have hob : Hid (¬ own pb O rb V w.heap.size) := fun c => Nat.lt_irrefl _ (hlt.out _ c)
 have hof : Hid (¬ own pb O rb V fb) := fun c => by have q1 := hlt.out _ c; have q2 := hfz.out; omega
 have L2 := hide (L1.out.below (by rw [hfb]; exact B2.out))
 have gl1 : Hid (∀ x ∈ gs, wf.heap.size ≤ x ∧ x < fb) := fun x hx => by have := L1.out.glt x hx; rw [hfb] at this; exact this
 have GQ : Hid (Below w.heap.size w w2.drew) := W2.out.drew
 have KP : Hid (By pb w.heap.size b rb ⟨10, os, on, ot, ov, oD, oo, onn, of, ofs, od, .slice ka oks.length kc, oks⟩ fb od (.slice ca cn cc) w2.drew) := K2.out.go (But.of_below (Below.refl _ _).drew fun _ => False) (fun c => c) (fun c => c) (fun c => c)
 have PQ : Hid (PX w2.drew pb b rb S R O V) := P2.out.below (Below.refl _ _).drew
 have LQ := hide (L2.out.below (Below.refl _ _).drew)
 have hz3 : Hid (w2.drew.heap.size = fb + 1) := hz2
 have hsz2 : Hid (wf.heap.size = w.heap.size + 1) := hsz
 clear N2 NF hw2 hfb b1z hz2 hsz B2
 refine wp_region_T (fun q => By pb w.heap.size b rb ⟨10, os, on, ot, ov, oD, oo, onn, of, ofs, od, .slice ka oks.length kc, oks⟩ fb od (.slice ca cn cc) q) 5 (by kernel_rfl) ?_
 generalize w2.drew = q at *
 refine Ix.tk 0 ⟨some 267, .move (.tmp 0), _, _, _, _⟩ (.pointer (some ⟨pb, 0, none⟩)) [1,2,3,5] ?_ KP.out ?_
 ·intro wq hSw; go_simp
 (try simp only [zzp, zzb, zzc])
 refine Ix.tk 1 ⟨some 268, .nilCheck (.tmp 267), _, _, _, _⟩ (.pointer (some ⟨pb, 0, none⟩)) [2,3,5] ?_ KP.out ?_
 ·intro wq hSw; go_simp
 (try simp only [zzp, zzb, zzc])
 refine Ix.tk 2 ⟨some 269, .fieldAddr 29 (.tmp 268) 0, _, _, _, _⟩ (.pointer (some ⟨pb, 0, none⟩)) [3,5] ?_ KP.out ?_
 ·intro wq hSw; go_simp
 (try simp only [zzp, zzb, zzc])
 refine Ix.tk 3 ⟨some 270, .load 24 (.tmp 269), _, _, _, _⟩ (.pointer (some ⟨b, 0, none⟩)) [5] ?_ KP.out ?_
 ·intro wq hSw
  obtain ⟨x1, x2⟩ := two_cells hSw.p
  obtain ⟨y0, y1, y2, y3, y4, y5, y6, y7, y8, y9⟩ := ten_cells hSw.o
  obtain ⟨z0, z1⟩ := two_cells hSw.f
  go_simp
 (try simp only [zzp, zzb, zzc])
 refine Ix.tk 4 ⟨some 271, .load 34 (.tmp 19), _, _, _, _⟩ (.agg #[.int .i64 od, .slice ca cn cc]) [5] ?_ KP.out ?_
 ·intro wq hSw
  obtain ⟨x1, x2⟩ := two_cells hSw.p
  obtain ⟨y0, y1, y2, y3, y4, y5, y6, y7, y8, y9⟩ := ten_cells hSw.o
  obtain ⟨z0, z1⟩ := two_cells hSw.f
  go_simp
 (try simp only [zzp, zzb, zzc])
 have LK : Hid (Kp (fun k => w.heap.size ≤ k ∧ k < q.heap.size) q (.slice ca cn cc) oks) := kp_mono (LQ.out.kp hKi.out) (fun k hk => ⟨by have := hsz2.out; omega, hk.2⟩)
 refine wpAnyT_one (i := 5) (o := ⟨some 272, .call { callee := .value (.func 18), args := #[.tmp 270, .tmp 271], argTypes := #[24, 34] }, _, _, _, _⟩) (by kernel_rfl) rfl (fun K hK => ?_)
 go_simp
 go_at_call 18
 refine (hA.out q _ PQ.out LK.out).mono ?_
 rintro e w3 ⟨O3, rfl, P3, G3⟩
 replace P3 := hide P3
 replace G3 := hide G3
 (try go_simp)
 refine hK.out _ _ (vac (by kernel_rfl)) ?_
 clear hK K
 (try simp only [zzp, zzb, zzc])
 refine wpAnyT_done (by kernel_rfl) ?_ _
 have K3 : Hid (By pb w.heap.size b rb ⟨10, os, on, ot, ov, oD, oo, onn, of, ofs, od, .slice ka oks.length kc, oks⟩ fb od (.slice ca cn cc) w3) := ⟨P3.out.box, G3.out.but.at KP.out.o hob.out, G3.out.but.at KP.out.f hof.out⟩
 have W0q : Hid (Below W0.heap.size W0 q) := hI.out.bel.trans (GQ.out.mono hI.out.bel.size)
 have W03 : Hid (Below W0.heap.size W0 w3) := W0q.out.trans (G3.out.but.below W0q.out.size hlo.out)
 go_upto_region 33 with fail
 have K3q : Hid (By pb w.heap.size b rb ⟨10, os, on, ot, ov, oD, oo, onn, of, ofs, od, .slice ka oks.length kc, oks⟩ fb od (.slice ca cn cc) w3.drew) := K3.out.go (But.of_below (Below.refl _ _).drew fun _ => False) (fun c => c) (fun c => c) (fun c => c)
 have P3q : Hid (PX w3.drew pb b rb (S.crash od oks) R O3 V) := P3.out.below (Below.refl _ _).drew
 have G3q : Hid (Sgo q w3.drew (own pb O rb V) (own pb O3 rb V)) := G3.out.trans (Sgo.of_below (Below.refl _ _).drew)
 have W03q : Hid (Below W0.heap.size W0 w3.drew) := W03.out.drew
 refine wp_region_T (fun q => By pb w.heap.size b rb ⟨10, os, on, ot, ov, oD, oo, onn, of, ofs, od, .slice ka oks.length kc, oks⟩ fb od (.slice ca cn cc) q) 6 (by kernel_rfl) ?_
 generalize w3.drew = q3 at *
 refine Ix.tk 0 ⟨some 273, .move (.tmp 0), _, _, _, _⟩ (.pointer (some ⟨pb, 0, none⟩)) [1,2,3,6] ?_ K3q.out ?_
 ·intro wq hSw; go_simp
 (try simp only [zzp, zzb, zzc])
 refine Ix.tk 1 ⟨some 274, .nilCheck (.tmp 273), _, _, _, _⟩ (.pointer (some ⟨pb, 0, none⟩)) [2,3,6] ?_ K3q.out ?_
 ·intro wq hSw; go_simp
 (try simp only [zzp, zzb, zzc])
 refine Ix.tk 2 ⟨some 275, .fieldAddr 29 (.tmp 274) 1, _, _, _, _⟩ (.pointer (some ⟨pb, 1, none⟩)) [3,6] ?_ K3q.out ?_
 ·intro wq hSw; go_simp
 (try simp only [zzp, zzb, zzc])
 refine Ix.tk 3 ⟨some 276, .load 26 (.tmp 275), _, _, _, _⟩ (.pointer (some ⟨rb, 0, none⟩)) [6] ?_ K3q.out ?_
 ·intro wq hSw
  obtain ⟨x1, x2⟩ := two_cells hSw.p
  obtain ⟨y0, y1, y2, y3, y4, y5, y6, y7, y8, y9⟩ := ten_cells hSw.o
  obtain ⟨z0, z1⟩ := two_cells hSw.f
  go_simp
 (try simp only [zzp, zzb, zzc])
 refine Ix.tk 4 ⟨some 277, .fieldAddr 36 (.tmp 3) 8, _, _, _, _⟩ (.pointer (some ⟨w.heap.size, 8, none⟩)) [5,6] ?_ K3q.out ?_
 ·intro wq hSw; go_simp
 (try simp only [zzp, zzb, zzc])
 refine Ix.tk 5 ⟨some 278, .load 34 (.tmp 277), _, _, _, _⟩ (.agg #[.int .i64 od, .slice ka oks.length kc]) [6] ?_ K3q.out ?_
 ·intro wq hSw
  obtain ⟨x1, x2⟩ := two_cells hSw.p
  obtain ⟨y0, y1, y2, y3, y4, y5, y6, y7, y8, y9⟩ := ten_cells hSw.o
  obtain ⟨z0, z1⟩ := two_cells hSw.f
  go_simp
 (try simp only [zzp, zzb, zzc])
 have KO : Hid (Kp (fun k => k < W0.heap.size) q3 (.slice ka oks.length kc) oks) := Kp.but hI.out.ok.ks (But.of_below W03q.out fun _ => False) (fun _ _ c => c)
 refine wpAnyT_one (i := 6) (o := ⟨some 279, .call { callee := .value (.func 38), args := #[.tmp 276, .tmp 278], argTypes := #[26, 34] }, _, _, _, _⟩) (by kernel_rfl) rfl (fun K hK => ?_)
 go_simp
 go_at_call 38
 refine (hB.out q3 _ _ P3q.out W03q.out.size KO.out).mono ?_
 rintro e w4 ⟨V4, rfl, P4, G4⟩
 replace P4 := hide P4
 replace G4 := hide G4
 (try go_simp)
 refine hK.out _ _ (vac (by kernel_rfl)) ?_
 clear hK K
 (try simp only [zzp, zzb, zzc])
 refine wpAnyT_done (by kernel_rfl) ?_ _
 have G34 := hide (G3q.out.trans G4.out)
 have K4 : Hid (By pb w.heap.size b rb ⟨10, os, on, ot, ov, oD, oo, onn, of, ofs, od, .slice ka oks.length kc, oks⟩ fb od (.slice ca cn cc) w4) := ⟨P4.out.box, G34.out.but.at KP.out.o hob.out, G34.out.but.at KP.out.f hof.out⟩
 have L4 : Hid (LF wf.heap.size w4 (.slice ca cn cc) oks vs gs) := LQ.out.but G34.out.but (fun k h1 _ c => by have q1 := hlt.out _ c; have q2 := hsz2.out; omega)
 have W04 : Hid (Below W0.heap.size W0 w4) := W0q.out.trans (G34.out.but.below W0q.out.size hlo.out)
 have hlw : Hid (W0.heap.size ≤ w.heap.size) := hI.out.bel.size
 have hpbl : Hid (pb < w.heap.size) := hlt.out _ (.inl rfl)
 go_wp2_with fail
 go_loopw [20] (fun i wr => ∃ k : Nat, i = .int .i64 k ∧ k ≤ oks.length ∧ Hid (But (fun j => ∃ i, i < k ∧ gs[i]? = some j) w4 wr)) (fun i _ => oks.length - (intOf i).toNat)
 case atStart => exact ⟨0, rfl, Nat.zero_le _, But.of_below (Below.refl _ _) _⟩
 case round =>
  obtain ⟨k, rfl, hk, hb⟩ := hrel
  have xg : Hid (∀ x, (∃ i, i < k ∧ gs[i]? = some x) → wf.heap.size ≤ x ∧ x < fb) := fun x ⟨i, _, hi⟩ => gl1.out x (List.mem_of_getElem? hi)
  have ow : wr.heap[w.heap.size]? = _ := hb.out.at K4.out.o (fun c => by have q1 := xg.out _ c; have q2 := hsz2.out; omega)
  have fw : wr.heap[fb]? = _ := hb.out.at K4.out.f (fun c => by have q1 := xg.out _ c; omega)
  obtain ⟨z0, z1⟩ := two_cells fw
  have hcl : cn = oks.length := by
   obtain ⟨la, lc, e, _⟩ := L4.out.kp hKi.out
   simp only [Value.slice.injEq] at e
   exact e.2.1
  subst hcl
  by_cases hlt2 : k < oks.length
  ·have i1 : (k : Int) < (oks.length : Int) := by omega
   obtain ⟨lb, lcap, u, g, e1, lk1, lk2, lB, lz, lc0, lc1, hg, hL, hne⟩ := L4.out.nth k hlt2
   simp only [Value.slice.injEq] at e1
   obtain ⟨rfl, _, rfl⟩ := e1
   obtain ⟨kb, ko, vj, rfl, hkz, n0, n1, hsj, hsi, nb0, nb1⟩ := k3.out k hlt2
   have hjl := hI.out.ok.ksl _ (List.getElem_mem hlt2)
   generalize hkk : oks[k] = kp at *
   obtain ⟨kn, J⟩ := kp
   dsimp only at *
   have gx : ¬ ∃ i, i < k ∧ gs[i]? = some g := fun ⟨i, h1, h2⟩ => L4.out.ap i k g (by omega) h2 hg
   have glg := gl1.out g (List.mem_of_getElem? hg)
   have lbn : ¬ ∃ i, i < k ∧ gs[i]? = some lb := fun ⟨i, h1, h2⟩ => hne lb (List.mem_of_getElem? h2) rfl
   have Lw := lent_but hL hb.out gx
   have W0r : Hid (Below W0.heap.size W0 wr) := W04.out.trans (hb.out.below W04.out.size (fun x c => by have q1 := xg.out x c; have q2 := hsz2.out; have q3 := hlw.out; omega))
   have nw := cell_but n1 (But.of_below W0r.out fun _ => False) (fun c => c)
   have lw := cell_but lc1 hb.out lbn
   obtain ⟨ucap, rfl, _⟩ := id Lw
   obtain ⟨ja, jc, rfl, _, j3, j4, _⟩ := id hsj
   have SJ := hide hsj
   have LW := hide Lw
   have glh : Hid (wf.heap.size ≤ g ∧ g < fb) := glg
   have hgg : Hid (gs[k]? = some g) := hg
   have hgl : Hid (g ≠ lb) := hne g (List.mem_of_getElem? hg)
   have hkh : Hid (kb < W0.heap.size) := hkz
   have hjh : Hid (J.length ≤ 140737488351232) := hjl
   have kcx : oks.length ≤ 9223372036854775807 := by omega
   generalize hJ : J.length = jl at *
   have Z0 : Hid (Bz w.heap.size ⟨10, os, on, ot, ov, oD, oo, onn, of, ofs, od, .slice (some ⟨kb, ko, none⟩) oks.length kc, oks⟩ fb od (.slice (some ⟨lb, 0, none⟩) oks.length cc) lb (k * 2 + 1) (.slice (some ⟨g, 0, none⟩) jl ucap) kb (ko + k * 2 + 1) (.slice ja jl jc) wr) := ⟨ow, fw, lw, nw⟩
   clear ow fw nw lw hsj hsi n0 n1 nb0 nb1 lc0 lc1 hg hL Lw glg lbn gx hkz hne
   go_upto_region 37 with fail
   clear z0 z1
   have KZ : Hid (Bz w.heap.size ⟨10, os, on, ot, ov, oD, oo, onn, of, ofs, od, .slice (some ⟨kb, ko, none⟩) oks.length kc, oks⟩ fb od (.slice (some ⟨lb, 0, none⟩) oks.length cc) lb (k * 2 + 1) (.slice (some ⟨g, 0, none⟩) jl ucap) kb (ko + k * 2 + 1) (.slice ja jl jc) wr.drew) := Z0.out.go (But.of_below (Below.refl _ _).drew fun _ => False) (fun c => c) (fun c => c) (fun c => c) (fun c => c)
   have LZ : Hid (LentAt wr.drew g (.slice (some ⟨g, 0, none⟩) jl ucap) J) := LW.out.below (Below.refl _ _).drew
   have WZ : Hid (Below W0.heap.size W0 wr.drew) := W0r.out.drew
   have bZ : Hid (But (fun j => ∃ i, i < k ∧ gs[i]? = some j) w4 wr.drew) := hb.out.trans (But.of_below (Below.refl _ _).drew _)
   refine wp_region_T (fun q => Bz w.heap.size ⟨10, os, on, ot, ov, oD, oo, onn, of, ofs, od, .slice (some ⟨kb, ko, none⟩) oks.length kc, oks⟩ fb od (.slice (some ⟨lb, 0, none⟩) oks.length cc) lb (k * 2 + 1) (.slice (some ⟨g, 0, none⟩) jl ucap) kb (ko + k * 2 + 1) (.slice ja jl jc) q) 14 (by kernel_rfl) ?_
   generalize wr.drew = q5 at *
   refine Ix.tk 0 ⟨some 287, .fieldAddr 34 (.tmp 19) 1, _, _, _, _⟩ (.pointer (some ⟨fb, 1, none⟩)) [1,3,4,5,13,14] ?_ KZ.out ?_
   ·intro wq hSw; go_simp
   (try simp only [zzp, zzb, zzc])
   refine Ix.tk 1 ⟨some 288, .load 32 (.tmp 287), _, _, _, _⟩ (.slice (some ⟨lb, 0, none⟩) oks.length cc) [3,4,5,13,14] ?_ KZ.out ?_
   ·intro wq hSw
    obtain ⟨y0, y1, y2, y3, y4, y5, y6, y7, y8, y9⟩ := ten_cells hSw.o
    obtain ⟨z0, z1⟩ := two_cells hSw.f
    have t0 := hSw.n
    have t1 := hSw.j
    go_simp
   (try simp only [zzp, zzb, zzc])
   refine Ix.tk 2 ⟨some 289, .move (.tmp 20), _, _, _, _⟩ (.int .i64 (k : Int)) [3,4,5,13,14] ?_ KZ.out ?_
   ·intro wq hSw; go_simp
   (try simp only [zzp, zzb, zzc])
   refine Ix.tk 3 ⟨some 290, .indexAddr 32 (.tmp 288) (.tmp 289), _, _, _, _⟩ (.pointer (some ⟨lb, k * 2, none⟩)) [4,5,13,14] ?_ KZ.out ?_
   ·intro wq hSw
    obtain ⟨y0, y1, y2, y3, y4, y5, y6, y7, y8, y9⟩ := ten_cells hSw.o
    obtain ⟨z0, z1⟩ := two_cells hSw.f
    have t0 := hSw.n
    have t1 := hSw.j
    go_simp
   (try simp only [zzp, zzb, zzc])
   refine Ix.tk 4 ⟨some 291, .fieldAddr 88 (.tmp 290) 1, _, _, _, _⟩ (.pointer (some ⟨lb, k * 2 + 1, none⟩)) [5,13,14] ?_ KZ.out ?_
   ·intro wq hSw; go_simp
   (try simp only [zzp, zzb, zzc])
   refine Ix.tk 5 ⟨some 292, .load 30 (.tmp 291), _, _, _, _⟩ (.slice (some ⟨g, 0, none⟩) jl ucap) [13,14] ?_ KZ.out ?_
   ·intro wq hSw
    obtain ⟨y0, y1, y2, y3, y4, y5, y6, y7, y8, y9⟩ := ten_cells hSw.o
    obtain ⟨z0, z1⟩ := two_cells hSw.f
    have t0 := hSw.n
    have t1 := hSw.j
    go_simp
   (try simp only [zzp, zzb, zzc])
   refine Ix.tk 6 ⟨some 293, .fieldAddr 36 (.tmp 3) 8, _, _, _, _⟩ (.pointer (some ⟨w.heap.size, 8, none⟩)) [7,8,10,11,12,13,14] ?_ KZ.out ?_
   ·intro wq hSw; go_simp
   (try simp only [zzp, zzb, zzc])
   refine Ix.tk 7 ⟨some 294, .fieldAddr 34 (.tmp 293) 1, _, _, _, _⟩ (.pointer (some ⟨w.heap.size, 9, none⟩)) [8,10,11,12,13,14] ?_ KZ.out ?_
   ·intro wq hSw; go_simp
   (try simp only [zzp, zzb, zzc])
   refine Ix.tk 8 ⟨some 295, .load 32 (.tmp 294), _, _, _, _⟩ (.slice (some ⟨kb, ko, none⟩) oks.length kc) [10,11,12,13,14] ?_ KZ.out ?_
   ·intro wq hSw
    obtain ⟨y0, y1, y2, y3, y4, y5, y6, y7, y8, y9⟩ := ten_cells hSw.o
    obtain ⟨z0, z1⟩ := two_cells hSw.f
    have t0 := hSw.n
    have t1 := hSw.j
    go_simp
   (try simp only [zzp, zzb, zzc])
   refine Ix.tk 9 ⟨some 296, .move (.tmp 20), _, _, _, _⟩ (.int .i64 (k : Int)) [10,11,12,13,14] ?_ KZ.out ?_
   ·intro wq hSw; go_simp
   (try simp only [zzp, zzb, zzc])
   refine Ix.tk 10 ⟨some 297, .indexAddr 32 (.tmp 295) (.tmp 296), _, _, _, _⟩ (.pointer (some ⟨kb, ko + k * 2, none⟩)) [11,12,13,14] ?_ KZ.out ?_
   ·intro wq hSw
    obtain ⟨y0, y1, y2, y3, y4, y5, y6, y7, y8, y9⟩ := ten_cells hSw.o
    obtain ⟨z0, z1⟩ := two_cells hSw.f
    have t0 := hSw.n
    have t1 := hSw.j
    go_simp
   (try simp only [zzp, zzb, zzc])
   refine Ix.tk 11 ⟨some 298, .fieldAddr 88 (.tmp 297) 1, _, _, _, _⟩ (.pointer (some ⟨kb, ko + k * 2 + 1, none⟩)) [12,13,14] ?_ KZ.out ?_
   ·intro wq hSw; go_simp
   (try simp only [zzp, zzb, zzc])
   refine Ix.tk 12 ⟨some 299, .load 30 (.tmp 298), _, _, _, _⟩ (.slice ja jl jc) [13,14] ?_ KZ.out ?_
   ·intro wq hSw
    obtain ⟨y0, y1, y2, y3, y4, y5, y6, y7, y8, y9⟩ := ten_cells hSw.o
    obtain ⟨z0, z1⟩ := two_cells hSw.f
    have t0 := hSw.n
    have t1 := hSw.j
    go_simp
   (try simp only [zzp, zzb, zzc])
   refine wpAnyT_one (i := 13) (o := ⟨some 300, .call { callee := .value (.func 47), args := #[.tmp 292, .tmp 299], argTypes := #[30, 30] }, _, _, _, _⟩) (by kernel_rfl) rfl (fun K hK => ?_)
   go_simp
   go_at_call 47
   refine (back_any W0 q5 g _ _ J WZ.out SJ.out LZ.out (by have q1 := glh.out.1; have q2 := hsz2.out; have q3 := hlw.out; omega) (by have := hjh.out; omega)).mono ?_
   rintro e w5 ⟨rfl, g5⟩
   have b5 : Hid (But (fun j => j = g) q5 w5) := But.of_grownBy g5 fun j e => by cases e; rfl
   have K5 : Hid (Bz w.heap.size ⟨10, os, on, ot, ov, oD, oo, onn, of, ofs, od, .slice (some ⟨kb, ko, none⟩) oks.length kc, oks⟩ fb od (.slice (some ⟨lb, 0, none⟩) oks.length cc) lb (k * 2 + 1) (.slice (some ⟨g, 0, none⟩) jl ucap) kb (ko + k * 2 + 1) (.slice ja jl jc) w5) := KZ.out.go b5.out (fun e => by have q1 := glh.out; have q2 := hsz2.out; omega) (fun e => by have q1 := glh.out; omega) (fun e => hgl.out e.symm) (fun e => by have q1 := glh.out; have q2 := hsz2.out; have q3 := hlw.out; have q4 := hkh.out; omega)
   clear g5
   (try go_simp)
   refine hK.out _ _ (fun _ => K5.out) ?_
   clear hK K
   (try simp only [zzp, zzb, zzc])
   refine wpAnyT_one (i := 14) (o := ⟨some 301, .unOp .not 4 (.tmp 300), _, _, _, _⟩) (by kernel_rfl) rfl (fun K hK => ?_)
   go_simp
   refine hK.out _ _ (vac (by kernel_rfl)) ?_
   clear hK K
   (try simp only [zzp, zzb, zzc])
   refine wpAnyT_done (by kernel_rfl) ?_ _
   go_wp2_with fail
   go_roundw
   case rel =>
    refine ⟨k + 1, by go_num, by omega, ?_⟩
    exact (bZ.out.mono fun j _ ⟨i, h1, h2⟩ => ⟨i, by omega, h2⟩).trans (b5.out.mono fun j _ e => ⟨k, by omega, by rw [e]; exact hgg.out⟩)
   case measure => simp [intOf]; omega
  ·have i1 : ¬ ((k : Int) < (oks.length : Int)) := by omega
   have b4 : Hid (But (fun j => wf.heap.size ≤ j ∧ j < fb) w4 wr) := hb.out.mono fun j _ c => xg.out j c
   have hno : Hid (∀ j, own pb O3 rb V4 j → ¬ (wf.heap.size ≤ j ∧ j < fb)) := fun j hj c => by
    rcases G34.out.own j hj with q | q
    ·have q1 := hlt.out j q; have q2 := hsz2.out; omega
    ·have q1 := hz3.out; omega
   have PE := hide (P4.out.but b4.out hno.out).toPW
   have GE : Hid (Sgo w wr (own pb O rb V) (own pb O3 rb V4)) := by
    have GA : Sgo w w4 (own pb O rb V) (own pb O3 rb V4) := (Sgo.of_below GQ.out).trans G34.out
    exact ⟨but_trans_new GA.but b4.out (fun j c => .inr (by have q2 := hsz2.out; omega)), GA.own⟩
   clear ow fw
   go_wp2_with fail
   go_ret
   refine ⟨⟨true, _, _, b, rfl, by rw [hpR.out]; exact PE.out, ?_, hpS.out, fun _ => rfl, fun _ => rfl⟩⟩
   first | exact GE.out | (rw [hQ]; exact GE.out)
end Go.Proofs.YtjehpijjneghpaaGreat.Re
namespace Go.Proofs.YtjehpijjneghpaaGreat.Re
open Go.RowKit Go.Maps Go.Sort Go.Shelf Go.Proofs.YtjehpijjneghpaaGreat.Nm Go.Proofs.YtjehpijjneghpaaGreat.Dk
theorem pl_all {W0 w : World} {pb b : Nat} {S : DS} {R : RB} {Q : Nat → Prop} (o : Dop) (h : PlI W0 w pb b S R o Q) : Calls Tryz.prog 11 #[.pointer (some ⟨pb, 0, none⟩), opV o] w (PlP w pb b S R o Q) := by
 by_cases k10 : o.kind = 10
 ·exact pl_crash o k10 h
 by_cases k11 : o.kind = 11
 ·exact pl_copy o k11 h
 exact pl_most o h k10 k11
theorem eqT (w : World) (x y : Value) (l : List UInt8) (hx : Sl w x l) (hy : Sl w y l) : Calls Tryz.prog 21 #[x, y] w fun e w' => e = .returned (.bool true) ∧ Qt w w' := by
 obtain ⟨ao, ca, rfl, g2, g3, g4, g5⟩ := hx
 obtain ⟨bo, cb, rfl, k2, k3, k4, k5⟩ := hy
 refine (eq_any w ao bo l l ca cb (by omega) (by omega) g5 k5).mono ?_
 rintro e w' ⟨rfl, q⟩
 exact ⟨by simp, q⟩
def Fr (w : World) (v : Value) (L : Fil2) : Prop := ∃ ao ca, v = .slice ao L.length ca ∧ L.length ≤ ca ∧ ca ≤ 9223372036854775807 ∧ ∀ i (h : i < L.length), ∃ b off vj, ao = some ⟨b, off, none⟩ ∧ w.cell? ⟨b, off + i * 2, none⟩ = some (.string (bsOf L[i].1)) ∧ w.cell? ⟨b, off + i * 2 + 1, none⟩ = some vj ∧ Sl w vj L[i].2
theorem ficells_at : ∀ (L : Fil2) (vs : List Value), vs.length = L.length → ∀ i l u, L[i]? = some l → vs[i]? = some u → (Dk.fcells L vs)[i * 2]? = some (encStr l.1) ∧ (Dk.fcells L vs)[i * 2 + 1]? = some u
 | [], [], _, i, k, u, h, _ => by simp at h
 | a :: r, b :: s, h, i, k, u, h1, h2 => by
  cases i with
  | zero => simp at h1 h2; subst h1 h2; exact ⟨rfl, rfl⟩
  | succ i =>
   have := ficells_at r s (by simpa using h) i k u (by simpa using h1) (by simpa using h2)
   rw [show (i + 1) * 2 = i * 2 + 1 + 1 by omega]
   simpa [Dk.fcells] using this
 | [], _ :: _, h, _, _, _, _, _ => by simp at h
 | _ :: _, [], h, _, _, _, _, _ => by simp at h
theorem fr_of {B : Nat} {w : World} {v : Value} {L : Fil2} {vs : List Value} (h : FlI B w v L vs) : Fr w v L := by
 rcases id h.row with ⟨h0, ⟨e, hz⟩ | ⟨g, cap, cur, e, hB, hc, h1, h2, h3, h4⟩⟩
 ·exact ⟨none, 0, by rw [hz]; exact e, by omega, by omega, fun i hi => by omega⟩
 ·refine ⟨some ⟨g, 0, none⟩, cap, e, h1, by unfold maxLen at h2; omega, fun i hi => ?_⟩
  have hv : i < vs.length := by rw [h.len]; exact hi
  have q := ficells_at L vs h.len i L[i] vs[i] (List.getElem?_eq_getElem hi) (List.getElem?_eq_getElem hv)
  have ce := World.ownsRow.cells h.row (g := g) (by rw [e]; rfl)
  have c1 := ce _ _ q.1
  have c2 := ce _ _ q.2
  rw [addr_add] at c1 c2
  exact ⟨g, 0, vs[i], rfl, c1, c2, (h.ob i _ _ (List.getElem?_eq_getElem hv) (List.getElem?_eq_getElem hi)).sl⟩
theorem Fr.below {w w' : World} {v : Value} {L : Fil2} (h : Fr w v L) (hb : Below w.heap.size w w') : Fr w' v L := by
 obtain ⟨ao, ca, e, h1, h2, h3⟩ := h
 refine ⟨ao, ca, e, h1, h2, fun i hi => ?_⟩
 obtain ⟨b, off, vj, e1, c1, c2, s⟩ := h3 i hi
 exact ⟨b, off, vj, e1, by rw [hb.cell (lt_of_cell c1)]; exact c1, by rw [hb.cell (lt_of_cell c2)]; exact c2, Below.sl hb s⟩
theorem files_eq (w : World) (va vb : Value) (L : Fil2) (ha : Fr w va L) (hb : Fr w vb L) :
    Calls Tryz.prog 42 #[va, vb] w fun e w' => e = .returned (.bool true) ∧ Below w.heap.size w w' := by
 obtain ⟨aa, ac, rfl, a1, a2, a3⟩ := ha
 obtain ⟨ba, bc, rfl, b1, b2, b3⟩ := hb
 obtain ⟨N, hN⟩ : ∃ N, Hid (L.length = N) := ⟨_, rfl⟩
 rw [hN.out] at a1 b1 ⊢
 replace a3 := hide a3
 replace b3 := hide b3
 go_enter Tryz.func42, Tryz.ntmps42
 go_wp2_with fail
 go_loopw [5] (fun i wr => ∃ k : Nat, i = .int .i64 k ∧ k ≤ N ∧ Hid (Below w.heap.size w wr)) (fun i _ => N - (intOf i).toNat)
 case atStart => exact ⟨0, rfl, Nat.zero_le _, Below.refl _ _⟩
 case round =>
  obtain ⟨k, rfl, hk, hB⟩ := hrel
  by_cases hlt : k < N
  ·have i1 : (k : Int) < (N : Int) := by omega
   have hkl : k < L.length := by rw [hN.out]; exact hlt
   obtain ⟨ga, oa, vx, rfl, x0, x1, sx⟩ := a3.out k hkl
   obtain ⟨gb, ob, vy, rfl, y0, y1, sy⟩ := b3.out k hkl
   rw [← hB.out.cell (p := ⟨ga, oa + k * 2, none⟩) (lt_of_cell x0)] at x0
   rw [← hB.out.cell (p := ⟨ga, oa + k * 2 + 1, none⟩) (lt_of_cell x1)] at x1
   rw [← hB.out.cell (p := ⟨gb, ob + k * 2, none⟩) (lt_of_cell y0)] at y0
   rw [← hB.out.cell (p := ⟨gb, ob + k * 2 + 1, none⟩) (lt_of_cell y1)] at y1
   have SX := hide (Below.sl hB.out sx)
   have SY := hide (Below.sl hB.out sy)
   clear sx sy
   obtain ⟨_, _, rfl, _⟩ := id SX.out
   obtain ⟨_, _, rfl, _⟩ := id SY.out
   generalize bsOf L[k].1 = t at *
   generalize L[k].2 = D at *
   go_wp2_with fail
   go_quiet ((go_at_call 21; exact Calls.quiet_of (eqT _ _ _ D (Qt.sl ⟨_, rfl⟩ SX.out) (Qt.sl ⟨_, rfl⟩ SY.out))))
   have B3 : Hid (Below w.heap.size w (wr.drewN nq)) := hB.out.trans ((Qt.below ⟨nq, rfl⟩ _).mono hB.out.size)
   generalize wr.drewN nq = wy at *
   go_wp2_with fail
   go_roundw
   case rel => exact ⟨k + 1, by go_num, by omega, B3⟩
   case measure => simp [intOf]; omega
  ·have i1 : ¬ ((k : Int) < (N : Int)) := by omega
   go_wp2_with fail
   go_ret
   exact ⟨rfl, hB.out⟩
open Ix (wp_region_T wpAnyT wpAnyT_take wpAnyT_one wpAnyT_done vac)
theorem files_dskE {w : World} {b : Nat} {S : DS} {O : Nat → Prop} (h : DskE w b S O) (hc : S.c7 < 1000000000) : Calls Tryz.prog 23 #[.pointer (some ⟨b, 0, none⟩)] w fun e w' => ∃ v, e = .returned v ∧ Fr w' v S.files ∧ Below w.heap.size w w' := by
 obtain ⟨f, g, pd, am, VB, VL, hd⟩ := h
 refine (files_any hd hc).mono ?_
 rintro e w' ⟨v, vs, rfl, h1, h2⟩
 exact ⟨v, rfl, fr_of h1, h2⟩
theorem lasts_dskE {w : World} {b : Nat} {S : DS} {O : Nat → Prop} (h : DskE w b S O) (hc : S.c7 < 1000000000) : Calls Tryz.prog 24 #[.pointer (some ⟨b, 0, none⟩)] w fun e w' => ∃ v, e = .returned v ∧ Fr w' v S.lasts ∧ Below w.heap.size w w' := by
 obtain ⟨f, g, pd, am, VB, VL, hd⟩ := h
 refine (lasts_any hd hc).mono ?_
 rintro e w' ⟨v, vs, rfl, h1, h2⟩
 exact ⟨v, rfl, fr_of h1, h2⟩
structure Ic (w : World) (rb : Nat) (R : RB) (pa : Option Addr) (np pc : Nat) (q : World) : Prop where
 bel : Below w.heap.size w q
 c4 : q.cell? ⟨rb, 4, none⟩ = some (.slice pa np pc)
 c7 : q.cell? ⟨rb, 7, none⟩ = some (.int .i64 R.c0)
 c8 : q.cell? ⟨rb, 8, none⟩ = some (.int .i64 R.c1)
 c9 : q.cell? ⟨rb, 9, none⟩ = some (.int .i64 R.c2)
 c10 : q.cell? ⟨rb, 10, none⟩ = some (.int .i64 R.c3)
 c11 : q.cell? ⟨rb, 11, none⟩ = some (.int .i64 R.c4)
 c12 : q.cell? ⟨rb, 12, none⟩ = some (.int .i64 R.c5)
 c13 : q.cell? ⟨rb, 13, none⟩ = some (.int .i64 R.c6)
 c14 : q.cell? ⟨rb, 14, none⟩ = some (.int .i64 R.c7)
 c15 : q.cell? ⟨rb, 15, none⟩ = some (.int .i64 R.c8)
 c16 : q.cell? ⟨rb, 16, none⟩ = some (.bool R.down)
theorem is_any {w : World} {b rb : Nat} {S : DS} {R : RB} {O : Nat → Prop} {V : RV} (hd : DskE w b S O) (hm : RM w rb R V) (hr : Rel S R) (cs : S.c7 ≤ 100000) :
    Calls Tryz.prog 13 #[.pointer (some ⟨b, 0, none⟩), .pointer (some ⟨rb, 0, none⟩)] w fun e w' => e = .returned (.bool true) ∧ Below w.heap.size w w' := by
 have I := hide hr.ri
 have hc7 : R.c7 ≤ 100000 := by have := hr.cnts; omega
 obtain ⟨pa, pc, hvp, hpc⟩ : ∃ pa pc, V.vP = .slice pa R.pe.length pc ∧ pc ≤ 9223372036854775807 := by
  rcases hm.pp.2 with ⟨e, h0⟩ | ⟨g, cap, cur, e, _, _, _, h2, _⟩
  ·exact ⟨none, 0, by rw [h0]; exact e, by omega⟩
  ·exact ⟨_, cap, e, by unfold maxLen at h2; omega⟩
 have hnp : R.pe.length ≤ 1000000000 := by have := hr.ri.cnt; omega
 have hUp : Hid (∀ q, Below w.heap.size w q → Calls Tryz.prog 43 #[.pointer (some ⟨b, 0, none⟩)] q fun e w' => e = .returned (.bool (!R.down)) ∧ w' = q) := fun q hq => by rw [← hr.up]; exact up_dsk (hd.below hq)
 have hCo : Hid (∀ q, Below w.heap.size w q → Calls Tryz.prog 65 #[.pointer (some ⟨b, 0, none⟩)] q fun e w' => e = .returned (.agg #[.int .i64 R.c0, .int .i64 R.c1, .int .i64 R.c2, .int .i64 R.c3, .int .i64 R.c4, .int .i64 R.c5, .int .i64 R.c6, .int .i64 R.c7, .int .i64 R.c8]) ∧ Below q.heap.size q w') := fun q hq => by
  obtain ⟨e0, e1, e2, e3, e4, e5, e6, e7, e8⟩ := hr.cnts
  have := count_dsk (hd.below hq)
  unfold DS.cs at this
  rw [e0, e1, e2, e3, e4, e5, e6, e7, e8] at this
  exact this
 have hPe : Hid (∀ q, Below w.heap.size w q → Calls Tryz.prog 22 #[.pointer (some ⟨b, 0, none⟩)] q fun e w' => e = .returned (.int .i64 (R.pe.length : Int)) ∧ w' = q) := fun q hq => by rw [← hr.pend]; exact pending_dsk (hd.below hq)
 have hFi : Hid (∀ q, Below w.heap.size w q → Calls Tryz.prog 23 #[.pointer (some ⟨b, 0, none⟩)] q fun e w' => ∃ v, e = .returned v ∧ Fr w' v R.all ∧ Below q.heap.size q w') := fun q hq => by rw [← hr.files]; exact files_dskE (hd.below hq) (by omega)
 have hLa : Hid (∀ q, Below w.heap.size w q → Calls Tryz.prog 24 #[.pointer (some ⟨b, 0, none⟩)] q fun e w' => ∃ v, e = .returned v ∧ Fr w' v R.lasts ∧ Below q.heap.size q w') := fun q hq => by rw [← hr.lasts]; exact lasts_dskE (hd.below hq) (by omega)
 have hTa : Hid (∀ q, Below w.heap.size w q → Calls Tryz.prog 27 #[.pointer (some ⟨b, 0, none⟩), .int .i64 (R.pe.length : Int)] q fun e w' => ∃ v, e = .returned v ∧ Tr w' v (R.tails (R.pe.length : Int)) ∧ Below q.heap.size q w') := fun q hq => by
  rw [← hr.tails]
  refine (tails_dskE (hd.below hq) (by omega) _ (by omega) (by omega)).mono ?_
  rintro e w' ⟨v, rfl, h1, h2⟩
  exact ⟨v, rfl, h1.tr, h2⟩
 have hAl : Hid (∀ q, Below w.heap.size w q → Calls Tryz.prog 66 #[.pointer (some ⟨rb, 0, none⟩)] q fun e w' => ∃ v, e = .returned v ∧ Fr w' v R.all ∧ Below q.heap.size q w') := fun q hq => by
  refine (all_rm (hm.below hq) (by have := I.out.dlen; omega) I.out.dirF I.out.la).mono ?_
  rintro e w' ⟨v, vs, rfl, h1, h2⟩
  exact ⟨v, rfl, fr_of h1, h2⟩
 have hRl : Hid (∀ q, Below w.heap.size w q → Calls Tryz.prog 67 #[.pointer (some ⟨rb, 0, none⟩)] q fun e w' => ∃ v, e = .returned v ∧ Fr w' v R.lasts ∧ Below q.heap.size q w') := fun q hq => by
  refine (lasting_rm (hm.below hq) (by have := I.out.cnt; omega) I.out.old I.out.la).mono ?_
  rintro e w' ⟨v, vs, rfl, h1, h2⟩
  exact ⟨v, rfl, fr_of h1, h2⟩
 have hRt : Hid (∀ q, Below w.heap.size w q → Calls Tryz.prog 63 #[.pointer (some ⟨rb, 0, none⟩), .int .i64 (R.pe.length : Int)] q fun e w' => ∃ v, e = .returned v ∧ Tr w' v (R.tails (R.pe.length : Int)) ∧ Below q.heap.size q w') := fun q hq => by
  refine (tails_rm (hm.below hq) (by have := I.out.cnt; omega) (I.out.pf (by omega)) _ (I.out.front _) I.out.la).mono ?_
  rintro e w' ⟨v, rfl, h1, h2⟩
  exact ⟨v, rfl, h1.tr, h2⟩
 have hIc : Hid (∀ q, Below w.heap.size w q → Ic w rb R pa R.pe.length pc q) := fun q hq => by
  have M := hm.below hq
  exact ⟨hq, by rw [← hvp]; exact (M.cell 4).trans rfl, (M.cell 7).trans rfl, (M.cell 8).trans rfl, (M.cell 9).trans rfl, (M.cell 10).trans rfl, (M.cell 11).trans rfl, (M.cell 12).trans rfl, (M.cell 13).trans rfl, (M.cell 14).trans rfl, (M.cell 15).trans rfl, (M.cell 16).trans rfl⟩
 have hne : Hid (((!R.down) != R.down) = true) := by show _ = _; cases R.down <;> rfl
 obtain ⟨np, enp⟩ : ∃ np, Hid (R.pe.length = np) := ⟨_, rfl⟩
 obtain ⟨TL, eTL⟩ : ∃ TL, Hid (R.tails (R.pe.length : Int) = TL) := ⟨_, rfl⟩
 rw [eTL.out] at hTa hRt
 rw [enp.out] at hTa hRt hIc hPe hnp
 clear hd hm hr I cs hvp
 go_enter Tryz.func13, Tryz.ntmps13
 go_upto_region 1 with fail
 have B0 : Hid (Below w.heap.size w w.drew) := (Below.refl _ _).drew
 have KP := hide (hIc.out _ B0.out)
 refine wp_region_T (fun q => Ic w rb R pa np pc q) 57 (by kernel_rfl) ?_
 generalize w.drew = q0 at *
 refine Ix.tk 0 ⟨some 5, .move (.tmp 0), _, _, _, _⟩ (.pointer (some ⟨b, 0, none⟩)) [1,6,7,15,16,25,26,32,33,39,40,56,57] ?_ KP.out ?_
 ·intro wq hSw
  have ne := hne.out
  go_simp
 (try simp only [zzp, zzb, zzc])
 refine Ix.tk 2 ⟨some 7, .move (.tmp 1), _, _, _, _⟩ (.pointer (some ⟨rb, 0, none⟩)) [3,4,5,6,7,15,16,25,26,32,33,39,40,56,57] ?_ KP.out ?_
 ·intro wq hSw
  have ne := hne.out
  go_simp
 (try simp only [zzp, zzb, zzc])
 refine Ix.tk 3 ⟨some 8, .nilCheck (.tmp 7), _, _, _, _⟩ (.pointer (some ⟨rb, 0, none⟩)) [4,5,6,7,15,16,25,26,32,33,39,40,56,57] ?_ KP.out ?_
 ·intro wq hSw
  have ne := hne.out
  go_simp
 (try simp only [zzp, zzb, zzc])
 refine Ix.tk 4 ⟨some 9, .fieldAddr 103 (.tmp 8) 8, _, _, _, _⟩ (.pointer (some ⟨rb, 16, none⟩)) [5,6,7,15,16,25,26,32,33,39,40,56,57] ?_ KP.out ?_
 ·intro wq hSw
  have ne := hne.out
  go_simp
 (try simp only [zzp, zzb, zzc])
 refine Ix.tk 5 ⟨some 10, .load 4 (.tmp 9), _, _, _, _⟩ (.bool R.down) [6,7,15,16,25,26,32,33,39,40,56,57] ?_ KP.out ?_
 ·intro wq hSw
  obtain ⟨_, x4, x7, x8, x9, x10, x11, x12, x13, x14, x15, x16⟩ := hSw
  have ne := hne.out
  go_simp
 (try simp only [zzp, zzb, zzc])
 refine wpAnyT_one (i := 1) (o := ⟨some 6, .call { callee := .value (.func 43), args := #[.tmp 5], argTypes := #[24] }, _, _, _, _⟩) (by kernel_rfl) rfl (fun K hK => ?_)
 go_simp
 go_at_call 43
 refine (hUp.out q0 B0.out).mono ?_
 rintro e wx1 ⟨rfl, rfl⟩
 (try go_simp)
 refine hK.out _ _ (fun _ => KP.out) ?_
 clear hK K
 (try simp only [zzp, zzb, zzc])
 refine Ix.tk 6 ⟨some 11, .binOp .neq 4 (.tmp 6) (.tmp 10) 4, _, _, _, _⟩ (.bool true) [7,15,16,25,26,32,33,39,40,56,57] ?_ KP.out ?_
 ·intro wq hSw
  obtain ⟨_, x4, x7, x8, x9, x10, x11, x12, x13, x14, x15, x16⟩ := hSw
  have ne := hne.out
  go_simp
 (try simp only [zzp, zzb, zzc])
 refine Ix.tk 7 ⟨some 12, .move (.tmp 11), _, _, _, _⟩ (.bool true) [15,16,25,26,32,33,39,40,56,57] ?_ KP.out ?_
 ·intro wq hSw
  have ne := hne.out
  go_simp
 (try simp only [zzp, zzb, zzc])
 refine Ix.tk 8 ⟨some 13, .move (.tmp 0), _, _, _, _⟩ (.pointer (some ⟨b, 0, none⟩)) [9,14,15,16,25,26,32,33,39,40,56,57] ?_ KP.out ?_
 ·intro wq hSw
  have ne := hne.out
  go_simp
 (try simp only [zzp, zzb, zzc])
 refine Ix.tk 10 ⟨some 15, .move (.tmp 1), _, _, _, _⟩ (.pointer (some ⟨rb, 0, none⟩)) [11,12,13,14,15,16,25,26,32,33,39,40,56,57] ?_ KP.out ?_
 ·intro wq hSw
  have ne := hne.out
  go_simp
 (try simp only [zzp, zzb, zzc])
 refine Ix.tk 11 ⟨some 16, .nilCheck (.tmp 15), _, _, _, _⟩ (.pointer (some ⟨rb, 0, none⟩)) [12,13,14,15,16,25,26,32,33,39,40,56,57] ?_ KP.out ?_
 ·intro wq hSw
  have ne := hne.out
  go_simp
 (try simp only [zzp, zzb, zzc])
 refine Ix.tk 12 ⟨some 17, .fieldAddr 103 (.tmp 16) 7, _, _, _, _⟩ (.pointer (some ⟨rb, 7, none⟩)) [13,14,15,16,25,26,32,33,39,40,56,57] ?_ KP.out ?_
 ·intro wq hSw
  have ne := hne.out
  go_simp
 (try simp only [zzp, zzb, zzc])
 refine Ix.tk 13 ⟨some 18, .load 96 (.tmp 17), _, _, _, _⟩ (.agg #[.int .i64 R.c0, .int .i64 R.c1, .int .i64 R.c2, .int .i64 R.c3, .int .i64 R.c4, .int .i64 R.c5, .int .i64 R.c6, .int .i64 R.c7, .int .i64 R.c8]) [14,15,16,25,26,32,33,39,40,56,57] ?_ KP.out ?_
 ·intro wq hSw
  obtain ⟨_, x4, x7, x8, x9, x10, x11, x12, x13, x14, x15, x16⟩ := hSw
  have ne := hne.out
  go_simp
 (try simp only [zzp, zzb, zzc])
 refine wpAnyT_one (i := 9) (o := ⟨some 14, .call { callee := .value (.func 65), args := #[.tmp 13], argTypes := #[24] }, _, _, _, _⟩) (by kernel_rfl) rfl (fun K hK => ?_)
 go_simp
 go_at_call 65
 refine (hCo.out wx1 B0.out).mono ?_
 rintro e w2 ⟨rfl, L2⟩
 have B2 : Hid (Below w.heap.size w w2) := B0.out.trans (L2.mono B0.out.size)
 have K2 := hide (hIc.out _ B2.out)
 (try go_simp)
 refine hK.out _ _ (fun _ => K2.out) ?_
 clear hK K
 (try simp only [zzp, zzb, zzc])
 refine Ix.tk 14 ⟨some 19, .binOp .eql 96 (.tmp 14) (.tmp 18) 96, _, _, _, _⟩ (.bool true) [15,16,25,26,32,33,39,40,56,57] ?_ K2.out ?_
 ·intro wq hSw
  obtain ⟨_, x4, x7, x8, x9, x10, x11, x12, x13, x14, x15, x16⟩ := hSw
  have ne := hne.out
  go_simp
 (try simp only [zzp, zzb, zzc])
 refine Ix.tk 15 ⟨some 20, .pick (.tmp 12) (.tmp 19) (.const (Value.bool false)), _, _, _, _⟩ (.bool true) [16,25,26,32,33,39,40,56,57] ?_ K2.out ?_
 ·intro wq hSw
  obtain ⟨_, x4, x7, x8, x9, x10, x11, x12, x13, x14, x15, x16⟩ := hSw
  have ne := hne.out
  go_simp
 (try simp only [zzp, zzb, zzc])
 refine Ix.tk 16 ⟨some 21, .move (.tmp 20), _, _, _, _⟩ (.bool true) [25,26,32,33,39,40,56,57] ?_ K2.out ?_
 ·intro wq hSw
  have ne := hne.out
  go_simp
 (try simp only [zzp, zzb, zzc])
 refine Ix.tk 17 ⟨some 22, .move (.tmp 0), _, _, _, _⟩ (.pointer (some ⟨b, 0, none⟩)) [18,24,25,26,32,33,39,40,56,57] ?_ K2.out ?_
 ·intro wq hSw
  have ne := hne.out
  go_simp
 (try simp only [zzp, zzb, zzc])
 refine Ix.tk 19 ⟨some 24, .move (.tmp 1), _, _, _, _⟩ (.pointer (some ⟨rb, 0, none⟩)) [20,21,22,23,24,25,26,32,33,39,40,56,57] ?_ K2.out ?_
 ·intro wq hSw
  have ne := hne.out
  go_simp
 (try simp only [zzp, zzb, zzc])
 refine Ix.tk 20 ⟨some 25, .nilCheck (.tmp 24), _, _, _, _⟩ (.pointer (some ⟨rb, 0, none⟩)) [21,22,23,24,25,26,32,33,39,40,56,57] ?_ K2.out ?_
 ·intro wq hSw
  have ne := hne.out
  go_simp
 (try simp only [zzp, zzb, zzc])
 refine Ix.tk 21 ⟨some 26, .fieldAddr 103 (.tmp 25) 4, _, _, _, _⟩ (.pointer (some ⟨rb, 4, none⟩)) [22,23,24,25,26,32,33,39,40,56,57] ?_ K2.out ?_
 ·intro wq hSw
  have ne := hne.out
  go_simp
 (try simp only [zzp, zzb, zzc])
 refine Ix.tk 22 ⟨some 27, .load 101 (.tmp 26), _, _, _, _⟩ (.slice pa np pc) [23,24,25,26,32,33,39,40,56,57] ?_ K2.out ?_
 ·intro wq hSw
  obtain ⟨_, x4, x7, x8, x9, x10, x11, x12, x13, x14, x15, x16⟩ := hSw
  have ne := hne.out
  go_simp
 (try simp only [zzp, zzb, zzc])
 refine Ix.tk 23 ⟨some 28, .call { callee := .builtin .len, args := #[.tmp 27], argTypes := #[101] }, _, _, _, _⟩ (.int .i64 (np : Int)) [24,25,26,32,33,39,40,56,57] ?_ K2.out ?_
 ·intro wq hSw
  obtain ⟨_, x4, x7, x8, x9, x10, x11, x12, x13, x14, x15, x16⟩ := hSw
  have ne := hne.out
  go_simp
 (try simp only [zzp, zzb, zzc])
 refine wpAnyT_one (i := 18) (o := ⟨some 23, .call { callee := .value (.func 22), args := #[.tmp 22], argTypes := #[24] }, _, _, _, _⟩) (by kernel_rfl) rfl (fun K hK => ?_)
 go_simp
 go_at_call 22
 refine (hPe.out w2 B2.out).mono ?_
 rintro e wx3 ⟨rfl, rfl⟩
 (try go_simp)
 refine hK.out _ _ (fun _ => K2.out) ?_
 clear hK K
 (try simp only [zzp, zzb, zzc])
 refine Ix.tk 24 ⟨some 29, .binOp .eql 3 (.tmp 23) (.tmp 28) 3, _, _, _, _⟩ (.bool true) [25,26,32,33,39,40,56,57] ?_ K2.out ?_
 ·intro wq hSw
  obtain ⟨_, x4, x7, x8, x9, x10, x11, x12, x13, x14, x15, x16⟩ := hSw
  have ne := hne.out
  go_simp
 (try simp only [zzp, zzb, zzc])
 refine Ix.tk 25 ⟨some 30, .pick (.tmp 21) (.tmp 29) (.const (Value.bool false)), _, _, _, _⟩ (.bool true) [26,32,33,39,40,56,57] ?_ K2.out ?_
 ·intro wq hSw
  obtain ⟨_, x4, x7, x8, x9, x10, x11, x12, x13, x14, x15, x16⟩ := hSw
  have ne := hne.out
  go_simp
 (try simp only [zzp, zzb, zzc])
 refine Ix.tk 26 ⟨some 31, .move (.tmp 30), _, _, _, _⟩ (.bool true) [32,33,39,40,56,57] ?_ K2.out ?_
 ·intro wq hSw
  have ne := hne.out
  go_simp
 (try simp only [zzp, zzb, zzc])
 refine Ix.tk 27 ⟨some 32, .move (.tmp 0), _, _, _, _⟩ (.pointer (some ⟨b, 0, none⟩)) [28,31,32,33,39,40,56,57] ?_ K2.out ?_
 ·intro wq hSw
  have ne := hne.out
  go_simp
 (try simp only [zzp, zzb, zzc])
 refine Ix.tk 29 ⟨some 34, .move (.tmp 1), _, _, _, _⟩ (.pointer (some ⟨rb, 0, none⟩)) [30,31,32,33,39,40,56,57] ?_ K2.out ?_
 ·intro wq hSw
  have ne := hne.out
  go_simp
 (try simp only [zzp, zzb, zzc])
 refine wpAnyT_one (i := 28) (o := ⟨some 33, .call { callee := .value (.func 23), args := #[.tmp 32], argTypes := #[24] }, _, _, _, _⟩) (by kernel_rfl) rfl (fun K hK => ?_)
 go_simp
 go_at_call 23
 refine (hFi.out wx3 B2.out).mono ?_
 rintro e w4 ⟨v4, rfl, F4, L4⟩
 replace F4 := hide F4
 replace L4 := hide L4
 have B4 : Hid (Below w.heap.size w w4) := B2.out.trans (L4.out.mono B2.out.size)
 have K4 := hide (hIc.out _ B4.out)
 (try go_simp)
 refine hK.out _ _ (fun _ => K4.out) ?_
 clear hK K
 (try simp only [zzp, zzb, zzc])
 refine wpAnyT_one (i := 30) (o := ⟨some 35, .call { callee := .value (.func 66), args := #[.tmp 34], argTypes := #[26] }, _, _, _, _⟩) (by kernel_rfl) rfl (fun K hK => ?_)
 go_simp
 go_at_call 66
 refine (hAl.out w4 B4.out).mono ?_
 rintro e w5 ⟨v5, rfl, F5, L5⟩
 replace F5 := hide F5
 replace L5 := hide L5
 have B5 : Hid (Below w.heap.size w w5) := B4.out.trans (L5.out.mono B4.out.size)
 have K5 := hide (hIc.out _ B5.out)
 (try go_simp)
 refine hK.out _ _ (fun _ => K5.out) ?_
 clear hK K
 (try simp only [zzp, zzb, zzc])
 refine wpAnyT_one (i := 31) (o := ⟨some 36, .call { callee := .value (.func 42), args := #[.tmp 33, .tmp 35], argTypes := #[57, 57] }, _, _, _, _⟩) (by kernel_rfl) rfl (fun K hK => ?_)
 go_simp
 go_at_call 42
 refine (files_eq w5 _ _ _ (F4.out.below L5.out) F5.out).mono ?_
 rintro e w6 ⟨rfl, L6⟩
 have B6 : Hid (Below w.heap.size w w6) := B5.out.trans (L6.mono B5.out.size)
 have K6 := hide (hIc.out _ B6.out)
 (try go_simp)
 refine hK.out _ _ (fun _ => K6.out) ?_
 clear hK K
 (try simp only [zzp, zzb, zzc])
 refine Ix.tk 32 ⟨some 37, .pick (.tmp 31) (.tmp 36) (.const (Value.bool false)), _, _, _, _⟩ (.bool true) [33,39,40,56,57] ?_ K6.out ?_
 ·intro wq hSw
  obtain ⟨_, x4, x7, x8, x9, x10, x11, x12, x13, x14, x15, x16⟩ := hSw
  have ne := hne.out
  go_simp
 (try simp only [zzp, zzb, zzc])
 refine Ix.tk 33 ⟨some 38, .move (.tmp 37), _, _, _, _⟩ (.bool true) [39,40,56,57] ?_ K6.out ?_
 ·intro wq hSw
  have ne := hne.out
  go_simp
 (try simp only [zzp, zzb, zzc])
 refine Ix.tk 34 ⟨some 39, .move (.tmp 0), _, _, _, _⟩ (.pointer (some ⟨b, 0, none⟩)) [35,38,39,40,56,57] ?_ K6.out ?_
 ·intro wq hSw
  have ne := hne.out
  go_simp
 (try simp only [zzp, zzb, zzc])
 refine Ix.tk 36 ⟨some 41, .move (.tmp 1), _, _, _, _⟩ (.pointer (some ⟨rb, 0, none⟩)) [37,38,39,40,56,57] ?_ K6.out ?_
 ·intro wq hSw
  have ne := hne.out
  go_simp
 (try simp only [zzp, zzb, zzc])
 refine wpAnyT_one (i := 35) (o := ⟨some 40, .call { callee := .value (.func 24), args := #[.tmp 39], argTypes := #[24] }, _, _, _, _⟩) (by kernel_rfl) rfl (fun K hK => ?_)
 go_simp
 go_at_call 24
 refine (hLa.out w6 B6.out).mono ?_
 rintro e w7 ⟨v7, rfl, F7, L7⟩
 replace F7 := hide F7
 replace L7 := hide L7
 have B7 : Hid (Below w.heap.size w w7) := B6.out.trans (L7.out.mono B6.out.size)
 have K7 := hide (hIc.out _ B7.out)
 (try go_simp)
 refine hK.out _ _ (fun _ => K7.out) ?_
 clear hK K
 (try simp only [zzp, zzb, zzc])
 refine wpAnyT_one (i := 37) (o := ⟨some 42, .call { callee := .value (.func 67), args := #[.tmp 41], argTypes := #[26] }, _, _, _, _⟩) (by kernel_rfl) rfl (fun K hK => ?_)
 go_simp
 go_at_call 67
 refine (hRl.out w7 B7.out).mono ?_
 rintro e w8 ⟨v8, rfl, F8, L8⟩
 replace F8 := hide F8
 replace L8 := hide L8
 have B8 : Hid (Below w.heap.size w w8) := B7.out.trans (L8.out.mono B7.out.size)
 have K8 := hide (hIc.out _ B8.out)
 (try go_simp)
 refine hK.out _ _ (fun _ => K8.out) ?_
 clear hK K
 (try simp only [zzp, zzb, zzc])
 refine wpAnyT_one (i := 38) (o := ⟨some 43, .call { callee := .value (.func 42), args := #[.tmp 40, .tmp 42], argTypes := #[57, 57] }, _, _, _, _⟩) (by kernel_rfl) rfl (fun K hK => ?_)
 go_simp
 go_at_call 42
 refine (files_eq w8 _ _ _ (F7.out.below L8.out) F8.out).mono ?_
 rintro e w9 ⟨rfl, L9⟩
 have B9 : Hid (Below w.heap.size w w9) := B8.out.trans (L9.mono B8.out.size)
 have K9 := hide (hIc.out _ B9.out)
 (try go_simp)
 refine hK.out _ _ (fun _ => K9.out) ?_
 clear hK K
 (try simp only [zzp, zzb, zzc])
 refine Ix.tk 39 ⟨some 44, .pick (.tmp 38) (.tmp 43) (.const (Value.bool false)), _, _, _, _⟩ (.bool true) [40,56,57] ?_ K9.out ?_
 ·intro wq hSw
  obtain ⟨_, x4, x7, x8, x9, x10, x11, x12, x13, x14, x15, x16⟩ := hSw
  have ne := hne.out
  go_simp
 (try simp only [zzp, zzb, zzc])
 refine Ix.tk 40 ⟨some 45, .move (.tmp 44), _, _, _, _⟩ (.bool true) [56,57] ?_ K9.out ?_
 ·intro wq hSw
  have ne := hne.out
  go_simp
 (try simp only [zzp, zzb, zzc])
 refine Ix.tk 41 ⟨some 46, .move (.tmp 0), _, _, _, _⟩ (.pointer (some ⟨b, 0, none⟩)) [47,55,56,57] ?_ K9.out ?_
 ·intro wq hSw
  have ne := hne.out
  go_simp
 (try simp only [zzp, zzb, zzc])
 refine Ix.tk 42 ⟨some 47, .move (.tmp 1), _, _, _, _⟩ (.pointer (some ⟨rb, 0, none⟩)) [43,44,45,46,47,55,56,57] ?_ K9.out ?_
 ·intro wq hSw
  have ne := hne.out
  go_simp
 (try simp only [zzp, zzb, zzc])
 refine Ix.tk 43 ⟨some 48, .nilCheck (.tmp 47), _, _, _, _⟩ (.pointer (some ⟨rb, 0, none⟩)) [44,45,46,47,55,56,57] ?_ K9.out ?_
 ·intro wq hSw
  have ne := hne.out
  go_simp
 (try simp only [zzp, zzb, zzc])
 refine Ix.tk 44 ⟨some 49, .fieldAddr 103 (.tmp 48) 4, _, _, _, _⟩ (.pointer (some ⟨rb, 4, none⟩)) [45,46,47,55,56,57] ?_ K9.out ?_
 ·intro wq hSw
  have ne := hne.out
  go_simp
 (try simp only [zzp, zzb, zzc])
 refine Ix.tk 45 ⟨some 50, .load 101 (.tmp 49), _, _, _, _⟩ (.slice pa np pc) [46,47,55,56,57] ?_ K9.out ?_
 ·intro wq hSw
  obtain ⟨_, x4, x7, x8, x9, x10, x11, x12, x13, x14, x15, x16⟩ := hSw
  have ne := hne.out
  go_simp
 (try simp only [zzp, zzb, zzc])
 refine Ix.tk 46 ⟨some 51, .call { callee := .builtin .len, args := #[.tmp 50], argTypes := #[101] }, _, _, _, _⟩ (.int .i64 (np : Int)) [47,55,56,57] ?_ K9.out ?_
 ·intro wq hSw
  obtain ⟨_, x4, x7, x8, x9, x10, x11, x12, x13, x14, x15, x16⟩ := hSw
  have ne := hne.out
  go_simp
 (try simp only [zzp, zzb, zzc])
 refine Ix.tk 48 ⟨some 53, .move (.tmp 1), _, _, _, _⟩ (.pointer (some ⟨rb, 0, none⟩)) [54,55,56,57] ?_ K9.out ?_
 ·intro wq hSw
  have ne := hne.out
  go_simp
 (try simp only [zzp, zzb, zzc])
 refine Ix.tk 49 ⟨some 54, .move (.tmp 1), _, _, _, _⟩ (.pointer (some ⟨rb, 0, none⟩)) [50,51,52,53,54,55,56,57] ?_ K9.out ?_
 ·intro wq hSw
  have ne := hne.out
  go_simp
 (try simp only [zzp, zzb, zzc])
 refine Ix.tk 50 ⟨some 55, .nilCheck (.tmp 54), _, _, _, _⟩ (.pointer (some ⟨rb, 0, none⟩)) [51,52,53,54,55,56,57] ?_ K9.out ?_
 ·intro wq hSw
  have ne := hne.out
  go_simp
 (try simp only [zzp, zzb, zzc])
 refine Ix.tk 51 ⟨some 56, .fieldAddr 103 (.tmp 55) 4, _, _, _, _⟩ (.pointer (some ⟨rb, 4, none⟩)) [52,53,54,55,56,57] ?_ K9.out ?_
 ·intro wq hSw
  have ne := hne.out
  go_simp
 (try simp only [zzp, zzb, zzc])
 refine Ix.tk 52 ⟨some 57, .load 101 (.tmp 56), _, _, _, _⟩ (.slice pa np pc) [53,54,55,56,57] ?_ K9.out ?_
 ·intro wq hSw
  obtain ⟨_, x4, x7, x8, x9, x10, x11, x12, x13, x14, x15, x16⟩ := hSw
  have ne := hne.out
  go_simp
 (try simp only [zzp, zzb, zzc])
 refine Ix.tk 53 ⟨some 58, .call { callee := .builtin .len, args := #[.tmp 57], argTypes := #[101] }, _, _, _, _⟩ (.int .i64 (np : Int)) [54,55,56,57] ?_ K9.out ?_
 ·intro wq hSw
  obtain ⟨_, x4, x7, x8, x9, x10, x11, x12, x13, x14, x15, x16⟩ := hSw
  have ne := hne.out
  go_simp
 (try simp only [zzp, zzb, zzc])
 refine wpAnyT_one (i := 47) (o := ⟨some 52, .call { callee := .value (.func 27), args := #[.tmp 46, .tmp 51], argTypes := #[24, 3] }, _, _, _, _⟩) (by kernel_rfl) rfl (fun K hK => ?_)
 go_simp
 go_at_call 27
 refine (hTa.out w9 B9.out).mono ?_
 rintro e w10 ⟨v10, rfl, F10, L10⟩
 replace F10 := hide F10
 replace L10 := hide L10
 have B10 : Hid (Below w.heap.size w w10) := B9.out.trans (L10.out.mono B9.out.size)
 have K10 := hide (hIc.out _ B10.out)
 (try go_simp)
 refine hK.out _ _ (fun _ => K10.out) ?_
 clear hK K
 (try simp only [zzp, zzb, zzc])
 refine wpAnyT_one (i := 54) (o := ⟨some 59, .call { callee := .value (.func 63), args := #[.tmp 53, .tmp 58], argTypes := #[26, 3] }, _, _, _, _⟩) (by kernel_rfl) rfl (fun K hK => ?_)
 go_simp
 go_at_call 63
 refine (hRt.out w10 B10.out).mono ?_
 rintro e w11 ⟨v11, rfl, F11, L11⟩
 replace F11 := hide F11
 replace L11 := hide L11
 have B11 : Hid (Below w.heap.size w w11) := B10.out.trans (L11.out.mono B10.out.size)
 have K11 := hide (hIc.out _ B11.out)
 (try go_simp)
 refine hK.out _ _ (fun _ => K11.out) ?_
 clear hK K
 (try simp only [zzp, zzb, zzc])
 refine wpAnyT_one (i := 55) (o := ⟨some 60, .call { callee := .value (.func 62), args := #[.tmp 52, .tmp 59], argTypes := #[65, 65] }, _, _, _, _⟩) (by kernel_rfl) rfl (fun K hK => ?_)
 go_simp
 go_at_call 62
 refine (tails_eq w11 _ _ TL TL (F10.out.below L11.out) F11.out).mono ?_
 rintro e w12 ⟨r12, rfl, T12, L12⟩
 obtain rfl := T12 rfl
 clear T12
 have B12 : Hid (Below w.heap.size w w12) := B11.out.trans (L12.mono B11.out.size)
 have K12 := hide (hIc.out _ B12.out)
 (try go_simp)
 refine hK.out _ _ (fun _ => K12.out) ?_
 clear hK K
 (try simp only [zzp, zzb, zzc])
 refine Ix.tk 56 ⟨some 61, .pick (.tmp 45) (.tmp 60) (.const (Value.bool false)), _, _, _, _⟩ (.bool true) [57] ?_ K12.out ?_
 ·intro wq hSw
  obtain ⟨_, x4, x7, x8, x9, x10, x11, x12, x13, x14, x15, x16⟩ := hSw
  have ne := hne.out
  go_simp
 (try simp only [zzp, zzb, zzc])
 refine wpAnyT_one (i := 57) (o := ⟨some 4, .assign (.tmp 61), _, _, _, _⟩) (by kernel_rfl) rfl (fun K hK => ?_)
 go_simp
 refine hK.out _ _ (vac (by kernel_rfl)) ?_
 clear hK K
 (try simp only [zzp, zzb, zzc])
 refine wpAnyT_done (by kernel_rfl) ?_ _
 go_wp2_with fail
 go_ret
 exact ⟨rfl, B12.out⟩
theorem bt {w q : World} (h : Below w.heap.size w q) (o : Obj) : Below w.heap.size w (q.alloc o) := h.trans ((box_below q o).mono h.size)
theorem bs2 {w q q' : World} (h : Below w.heap.size w q) (h2 : Below q.heap.size q q') : Below w.heap.size w q' := h.trans (h2.mono h.size)
theorem pair_new {w u q : World} {b : Nat} {most : Int} {O : Nat → Prop} (hD : DskE u b (DS.new most) O) (hlo : ∀ k, O k → w.heap.size ≤ k) (hu : Below w.heap.size w u) (hq : Below u.heap.size u q) (hR : RM q u.heap.size (RB.new most) RV.nil) :
    PW (q.alloc (.cells #[.pointer (some ⟨b, 0, none⟩), .pointer (some ⟨u.heap.size, 0, none⟩)] 29)) q.heap.size b (DS.new most) (RB.new most) (own q.heap.size O u.heap.size RV.nil) ∧ ∀ k, own q.heap.size O u.heap.size RV.nil k → w.heap.size ≤ k := by
 refine ⟨(px_new hD hq hR).toPW, ?_⟩
 rintro k (e | c | ⟨x, c⟩)
 ·have := hu.size; have := hq.size; omega
 ·exact hlo k c
 ·have := blk_nil c; have := hu.size; omega
theorem play_fs {R : RB} (h : R.fs.length ≤ 64) (o : Dop) : (R.play o).fs.length ≤ 64 := by
 unfold RB.play
 repeat' split
 ·unfold RB.create; repeat' split
  all_goals exact h
 ·exact h
 ·unfold RB.append; repeat' split
  all_goals exact h
 ·unfold RB.sync; repeat' split
  all_goals exact h
 ·unfold RB.cut; repeat' split
  all_goals exact h
 ·unfold RB.rename; repeat' split
  all_goals exact h
 ·unfold RB.remove; repeat' split
  all_goals exact h
 ·unfold RB.syncDir; repeat' split
  all_goals exact h
 ·unfold RB.arm; split
  ·rename_i hc; exact hc.1
  ·exact h
 ·exact Nat.zero_le _
 ·exact h
structure D1 (w q : World) (B pb tb k : Nat) : Prop where
 out : ∃ b S R Q, PW q pb b S R Q ∧ Rel S R ∧ S.c7 ≤ (k : Int) ∧ (∀ j, Q j → B ≤ j) ∧ R.fs.length ≤ 64
 bel : Below w.heap.size w q
 hB : w.heap.size ≤ B ∧ B ≤ q.heap.size
 box : q.heap[tb]? = some (.cells #[.pointer none, .pointer none] 29 (0, 0))
 lt : tb < B
theorem D1.next {w q : World} {B pb tb k : Nat} (h : D1 w q B pb tb k) : D1 w q B pb tb (k + 1) := by
 obtain ⟨b, S, R, Q, p, r, c, l, f⟩ := h.out
 exact ⟨⟨b, S, R, Q, p, r, by omega, l, f⟩, h.bel, h.hB, h.box, h.lt⟩
theorem d1_plays {w q : World} {B pb tb k : Nat} (h : D1 w q B pb tb k) (hk : k ≤ 1000) (o : Dop) (ho : DopOk w o) : Calls Tryz.prog 11 #[.pointer (some ⟨pb, 0, none⟩), opV o] q fun e w' => e = .returned (.bool true) ∧ D1 w w' B pb tb (k + 1) := by
 obtain ⟨b, S, R, Q, p, r, c, l, f⟩ := h.out
 have l0 : ∀ j, Q j → w.heap.size ≤ j := fun j hj => Nat.le_trans h.hB.1 (l j hj)
 refine (pl_all (W0 := w) o ⟨p, ho, h.bel, l0, r.ri, r.uq, by omega, by have := r.cnts; omega⟩).mono ?_
 rintro e w' ⟨⟨rr, S', Q', b', rfl, pw, g, pl, hr, hb⟩⟩
 obtain rfl := hr r
 exact ⟨rfl, ⟨b', S', R.play o, Q', pw, rel_play r pl, by have := play_c7 pl; omega, g.low h.hB.2 l, play_fs f o⟩, g.under l0 (Nat.le_refl _) h.bel, ⟨h.hB.1, Nat.le_trans h.hB.2 g.but.size⟩, g.but.at h.box (fun c => by have := l _ c; have := h.lt; omega), h.lt⟩
structure Md (w : World) (e : Ending) (w' : World) : Prop where
 out : ∃ pb b rb S R O V, e = .returned (.tuple #[.agg #[.pointer (some ⟨b, 0, none⟩), .pointer (some ⟨rb, 0, none⟩)], .bool true]) ∧ PX w' pb b rb S R O V ∧ Rel S R ∧ S.c7 ≤ 60 ∧ (∀ j, own pb O rb V j → w.heap.size ≤ j) ∧ Below w.heap.size w w' ∧ R.fs.length ≤ 64
theorem made_any (w : World) (ao : Option Addr) (cap : Nat) (os : List Dop) (hos : os.length ≤ cap) (hcap : cap ≤ maxLen) (hat : AtDops w ao os) (hok : ∀ o ∈ os, DopOk w o) :
    Calls Tryz.prog 30 #[.int .i64 65536, .slice ao os.length cap] w (Md w) := by
 have hm : cap ≤ 9223372036854775807 := by unfold maxLen at hcap; omega
 replace hat := hide hat
 replace hok := hide hok
 obtain ⟨N, hN⟩ : ∃ N, Hid (os.length = N) := ⟨_, rfl⟩
 rw [hN.out] at hos ⊢
 clear hcap
 have BT := hide (box_below w (.cells #[.pointer none, .pointer none] 29))
 have NT := heap_alloc_new w (.cells #[.pointer none, .pointer none] 29)
 have zt : (w.alloc (.cells #[.pointer none, .pointer none] 29)).heap.size = w.heap.size + 1 := by simp
 obtain ⟨wt, hwt⟩ : ∃ wt, Hid (w.alloc (.cells #[.pointer none, .pointer none] 29) = wt) := ⟨_, rfl⟩
 rw [hwt.out] at BT NT zt
 replace zt := hide zt
 replace NT := hide NT
 have hN1 := new_dsk wt 65536 (by decide) (by decide)
 go_enter Tryz.func30, Tryz.ntmps30
 go_upto_region 1 with fail
 rw [hwt.out]
 go_upto_region 2 with (first
  | (go_at_call 9; refine hN1.mono ?_; rintro e wa ⟨ba, Oa, rfl, Da, Ba, la⟩; replace la := hide la; replace Da := hide Da; replace Ba := hide Ba)
  | (go_at_call 10; refine (new_ref _ 65536 (by decide) (by decide)).mono ?_; rintro e wb ⟨rfl, Rb, Bb⟩; replace Rb := hide Rb; replace Bb := hide Bb))
 clear hN1
 have P1 := hide (pair_new Da.out la.out Ba.out Bb.out Rb.out)
 have BP := hide (bt (bs2 Ba.out Bb.out) (.cells #[.pointer (some ⟨ba, 0, none⟩), .pointer (some ⟨wa.heap.size, 0, none⟩)] 29))
 have X1 := heap_alloc_new wb (.cells #[.pointer (some ⟨ba, 0, none⟩), .pointer (some ⟨wa.heap.size, 0, none⟩)] 29)
 generalize wb.alloc (.cells #[.pointer (some ⟨ba, 0, none⟩), .pointer (some ⟨wa.heap.size, 0, none⟩)] 29) = wp at *
 generalize hpb : wb.heap.size = pb at *
 have A0 : Hid (D1 w wp wt.heap.size pb w.heap.size 0) := ⟨⟨ba, _, _, _, P1.out.1, rel_new 65536 (by decide), Int.le_refl _, P1.out.2, Nat.zero_le _⟩, bs2 BT.out BP.out, ⟨BT.out.size, BP.out.size⟩, (BP.out.block _ (heap_lt NT.out)).trans NT.out, by have := zt.out; omega⟩
 obtain ⟨x1, x2⟩ := two_cells X1
 clear P1 BP X1 Da Ba la Rb Bb hpb
 go_wp2_with fail
 clear x1 x2
 go_loopw [7] (fun i wr => ∃ k : Nat, i = .int .i64 k ∧ k ≤ N ∧ k ≤ 60 ∧ Hid (D1 w wr wt.heap.size pb w.heap.size k)) (fun i _ => N - (intOf i).toNat)
 case atStart => exact ⟨0, rfl, Nat.zero_le _, Nat.zero_le _, A0⟩
 case round =>
  obtain ⟨k, rfl, hk, hk2, hD⟩ := hrel
  by_cases hgo : k < N ∧ k < 60
  ·obtain ⟨hlt, hlt2⟩ := hgo
   have j1 : (k : Int) < (N : Int) := by omega
   have j2 : (k : Int) < 60 := by omega
   have hkl : k < os.length := by rw [hN.out]; exact hlt
   obtain ⟨gb, off, rfl, hcl⟩ := hat.out k hkl
   have hdo := hide (hok.out _ (List.getElem_mem hkl))
   obtain ⟨da, dc, hvd, _, d3, d4, _⟩ := id hdo.out.dat
   obtain ⟨fa, fc, hvf, _⟩ := id hdo.out.fs
   obtain ⟨qa, qc, hvq, _⟩ := id hdo.out.ks
   have d4' : dc ≤ 9223372036854775807 := by unfold maxLen at d4; omega
   have hc : Hid (∀ j u, (os[k]).cells[j]? = some u → wr.cell? ⟨gb, off + k * 10 + j, none⟩ = some u) := fun j u hu => by have := hcl j u hu; rw [hD.out.bel.cell (lt_of_cell this)]; exact this
   generalize os[k] = o at *
   obtain ⟨okk, os_, on, ot, ov, oD, oo, onn, of, ofs, od, ovk, oks⟩ := o
   dsimp only at hvd hvf hvq
   subst hvd hvf hvq
   have x0 : wr.cell? ⟨gb, off + k * 10, none⟩ = some (.int .i64 okk) := hc.out 0 _ rfl
   have x1 : wr.cell? ⟨gb, off + k * 10 + 1, none⟩ = some (.bool os_) := hc.out 1 _ rfl
   have x2 : wr.cell? ⟨gb, off + k * 10 + 2, none⟩ = some (.string on) := hc.out 2 _ rfl
   have x3 : wr.cell? ⟨gb, off + k * 10 + 3, none⟩ = some (.string ot) := hc.out 3 _ rfl
   have x4 : wr.cell? ⟨gb, off + k * 10 + 4, none⟩ = some (.slice da oD.length dc) := hc.out 4 _ rfl
   have x5 : wr.cell? ⟨gb, off + k * 10 + 5, none⟩ = some (.int .i64 oo) := hc.out 5 _ rfl
   have x6 : wr.cell? ⟨gb, off + k * 10 + 6, none⟩ = some (.int .i64 onn) := hc.out 6 _ rfl
   have x7 : wr.cell? ⟨gb, off + k * 10 + 7, none⟩ = some (.slice fa ofs.length fc) := hc.out 7 _ rfl
   have x8 : wr.cell? ⟨gb, off + k * 10 + 8, none⟩ = some (.int .i64 od) := hc.out 8 _ rfl
   have x9 : wr.cell? ⟨gb, off + k * 10 + 9, none⟩ = some (.slice qa oks.length qc) := hc.out 9 _ rfl
   clear hcl d4
   by_cases e5 : (oD.length : Int) ≤ 8192
   ·have hP := d1_plays hD.out (by omega) ⟨okk, os_, on, ot, .slice da oD.length dc, oD, oo, onn, .slice fa ofs.length fc, ofs, od, .slice qa oks.length qc, oks⟩ hdo.out
    unfold opV at hP
    dsimp only at hP
    go_wp2_with (go_at_call 11; refine hP.mono ?_; rintro e w9 ⟨rfl, K9⟩; replace K9 := hide K9)
    go_roundw
    case rel => exact ⟨k + 1, by go_num, by omega, by omega, K9⟩
    case measure => simp [intOf]; omega
   ·go_wp2_with fail
    go_roundw
    case rel => exact ⟨k + 1, by go_num, by omega, by omega, hD.out.next⟩
    case measure => simp [intOf]; omega
  ·obtain ⟨b, S, R, Q, pw, hr, hc, lo, hfs⟩ := hD.out.out
   replace hfs := hide hfs
   obtain ⟨rb, O, V, px, rfl⟩ := pw
   obtain ⟨x1, x2⟩ := two_cells px.box
   obtain ⟨y1, y2, y3, y4, y5, y6, y7, y8⟩ := two_store (.pointer (some ⟨b, 0, none⟩)) (.pointer (some ⟨rb, 0, none⟩)) hD.out.box
   have nT : Hid (∀ j, own pb O rb V j → ¬ j = w.heap.size) := fun j hj e => by have q1 := lo j hj; have q2 := zt.out; omega
   have PE := hide (px.but y6 nT.out)
   have BE : Hid (Below w.heap.size w ((wr.setCell ⟨w.heap.size, 0, none⟩ (.pointer (some ⟨b, 0, none⟩))).setCell ⟨w.heap.size, 1, none⟩ (.pointer (some ⟨rb, 0, none⟩)))) := but_new hD.out.bel y6 (Nat.le_refl _)
   have lo' : Hid (∀ j, own pb O rb V j → w.heap.size ≤ j) := fun j hj => Nat.le_trans BT.out.size (lo j hj)
   have hr' := hide hr
   have hc' : Hid (S.c7 ≤ 60) := by show _ ≤ _; omega
   replace y5 := hide y5
   replace y6 := hide y6
   have hend : ¬ ((k : Int) < (N : Int)) ∨ ((k : Int) < (N : Int) ∧ ¬ ((k : Int) < 60)) := by omega
   clear hgo px lo hr hc hD
   rcases hend with j1 | ⟨j1, j2⟩
   ·go_wp2_with fail
    try simp only [Exit.inBlock, Exit.then]
    refine bodyPost_ret (v := .tuple #[.agg #[.pointer (some ⟨b, 0, none⟩), .pointer (some ⟨rb, 0, none⟩)], .bool true]) (by simp [results, Tryz.results30, go_sem, y7, y8]; try rfl) rfl ?_
    exact ⟨⟨pb, b, rb, S, R, O, V, rfl, PE.out, hr'.out, hc'.out, lo'.out, BE.out, hfs.out⟩⟩
   ·go_wp2_with fail
    try simp only [Exit.inBlock, Exit.then]
    refine bodyPost_ret (v := .tuple #[.agg #[.pointer (some ⟨b, 0, none⟩), .pointer (some ⟨rb, 0, none⟩)], .bool true]) (by simp [results, Tryz.results30, go_sem, y7, y8]; try rfl) rfl ?_
    exact ⟨⟨pb, b, rb, S, R, O, V, rfl, PE.out, hr'.out, hc'.out, lo'.out, BE.out, hfs.out⟩⟩
def Kr (w : World) (v : Value) (D : List Nat) : Prop := ∃ ao ca, v = .slice ao D.length ca ∧ D.length ≤ ca ∧ ca ≤ 9223372036854775807 ∧ ∀ i (h : i < D.length), ∃ b off, ao = some ⟨b, off, none⟩ ∧ w.cell? ⟨b, off + i * 2, none⟩ = some (.int .i64 (D[i] : Int)) ∧ w.cell? ⟨b, off + i * 2 + 1, none⟩ = some (.slice none 0 0)
theorem kr_of {B : Nat} {w : World} {v : Value} {D : List Nat} (h : Ks B w v D) : Kr w v D := by
 rcases id h with ⟨h0, ⟨e, hz⟩ | ⟨g, cap, cur, e, hB, hc, h1, h2, h3, h4⟩⟩
 ·exact ⟨none, 0, by rw [hz]; exact e, by omega, by omega, fun i hi => by omega⟩
 ·refine ⟨some ⟨g, 0, none⟩, cap, e, h1, by unfold maxLen at h2; omega, fun i hi => ?_⟩
  have ce := World.ownsRow.cells (show w.ownsRow B _ 2 v D.length (kcells D) from h) (g := g) (by rw [e]; rfl)
  have q := kcells_at D i hi
  have c1 := ce _ _ q.1
  have c2 := ce _ _ q.2
  rw [addr_add] at c1 c2
  exact ⟨g, 0, rfl, c1, c2⟩
theorem Kr.below {w w' : World} {v : Value} {D : List Nat} (h : Kr w v D) (hb : Below w.heap.size w w') : Kr w' v D := by
 obtain ⟨ao, ca, e, h1, h2, h3⟩ := h
 refine ⟨ao, ca, e, h1, h2, fun i hi => ?_⟩
 obtain ⟨b, off, e1, c1, c2⟩ := h3 i hi
 exact ⟨b, off, e1, by rw [hb.cell (lt_of_cell c1)]; exact c1, by rw [hb.cell (lt_of_cell c2)]; exact c2⟩
theorem fate_eq (w : World) (d d' : Int) (va vb : Value) (D E : List Nat) (ha : Kr w va D) (hb : Kr w vb E) :
    Calls Tryz.prog 36 #[.agg #[.int .i64 d, va], .agg #[.int .i64 d', vb]] w fun e w' => e = .returned (.bool (decide (d = d' ∧ D = E))) ∧ Below w.heap.size w w' := by
 obtain ⟨aa, ac, rfl, a1, a2, a3⟩ := ha
 obtain ⟨ba, bc, rfl, b1, b2, b3⟩ := hb
 obtain ⟨N, hN⟩ : ∃ N, Hid (D.length = N) := ⟨_, rfl⟩
 obtain ⟨N2, hN2⟩ : ∃ N2, Hid (E.length = N2) := ⟨_, rfl⟩
 rw [hN.out] at a1 ⊢
 rw [hN2.out] at b1 ⊢
 replace a3 := hide a3
 replace b3 := hide b3
 have B1 := hide (box_below w (.cells #[.int .i64 d, .slice aa N ac] 34))
 have X1 := heap_alloc_new w (.cells #[.int .i64 d, .slice aa N ac] 34)
 have z1 : (w.alloc (.cells #[.int .i64 d, .slice aa N ac] 34)).heap.size = w.heap.size + 1 := by simp
 obtain ⟨w1, hw1⟩ : ∃ w1, Hid (w.alloc (.cells #[.int .i64 d, .slice aa N ac] 34) = w1) := ⟨_, rfl⟩
 rw [hw1.out] at B1 X1 z1
 have B2 := hide (box_below w1 (.cells #[.int .i64 d', .slice ba N2 bc] 34))
 have X2 := heap_alloc_new w1 (.cells #[.int .i64 d', .slice ba N2 bc] 34)
 obtain ⟨w2, hw2⟩ : ∃ w2, Hid (w1.alloc (.cells #[.int .i64 d', .slice ba N2 bc] 34) = w2) := ⟨_, rfl⟩
 rw [hw2.out] at B2 X2
 rw [z1] at X2
 have X12 := (B2.out.block _ (heap_lt X1)).trans X1
 have B02 := hide (bs2 B1.out B2.out)
 obtain ⟨x0, x1⟩ := two_cells X12
 obtain ⟨y0, y1⟩ := two_cells X2
 by_cases hd : d = d' ∧ N = N2
 ·obtain ⟨rfl, rfl⟩ := hd
  go_enter Tryz.func36, Tryz.ntmps36
  go_upto_region 1 with fail
  rw [hw1.out, hw2.out]
  go_wp2_with fail
  clear x0 x1 y0 y1
  go_loopw [5] (fun i wr => ∃ k : Nat, i = .int .i64 k ∧ k ≤ N ∧ Hid (Below w2.heap.size w2 wr) ∧ Hid (D.take k = E.take k)) (fun i _ => N - (intOf i).toNat)
  case atStart => exact ⟨0, rfl, Nat.zero_le _, Below.refl _ _, rfl⟩
  case round =>
   obtain ⟨k, rfl, hk, hB, hT⟩ := hrel
   obtain ⟨x0, x1⟩ := two_cells ((hB.out.block _ (heap_lt X12)).trans X12)
   obtain ⟨y0, y1⟩ := two_cells ((hB.out.block _ (heap_lt X2)).trans X2)
   have BR := hide (bs2 B02.out hB.out)
   by_cases hlt : k < N
   ·have i1 : (k : Int) < (N : Int) := by omega
    have hkl : k < D.length := by rw [hN.out]; exact hlt
    have hkm : k < E.length := by rw [hN2.out]; exact hlt
    obtain ⟨ga, oa, rfl, p0, p1⟩ := a3.out k hkl
    obtain ⟨gb, ob, rfl, q0, q1⟩ := b3.out k hkm
    rw [← BR.out.cell (p := ⟨ga, oa + k * 2, none⟩) (lt_of_cell p0)] at p0
    rw [← BR.out.cell (p := ⟨ga, oa + k * 2 + 1, none⟩) (lt_of_cell p1)] at p1
    rw [← BR.out.cell (p := ⟨gb, ob + k * 2, none⟩) (lt_of_cell q0)] at q0
    rw [← BR.out.cell (p := ⟨gb, ob + k * 2 + 1, none⟩) (lt_of_cell q1)] at q1
    by_cases he : D[k] = E[k]
    ·have hT2 : Hid (D.take (k + 1) = E.take (k + 1)) := by
       show _ = _
       rw [List.take_succ_eq_append_getElem hkl, List.take_succ_eq_append_getElem hkm, hT.out, he]
     rw [← he] at q0
     generalize (D[k] : Int) = n at *
     go_wp2_with fail
     go_quiet (fail)
     have B3 : Hid (Below w2.heap.size w2 (wr.drewN nq)) := hB.out.trans ((Qt.below ⟨nq, rfl⟩ _).mono hB.out.size)
     generalize wr.drewN nq = wy at *
     go_wp2_with fail
     go_roundw
     case rel => exact ⟨k + 1, by go_num, by omega, B3, hT2⟩
     case measure => simp [intOf]; omega
    ·have hno : Hid (¬ D = E) := fun c => he (by subst c; rfl)
     have h3 : (((D[k] : Nat) : Int) == ((E[k] : Nat) : Int)) = false := by simpa using (fun c => he (by omega))
     have h4 : (((D[k] : Nat) : Int) != ((E[k] : Nat) : Int)) = true := by simpa using (fun c => he (by omega))
     generalize (D[k] : Int) = n at *
     generalize (E[k] : Int) = m at *
     go_wp2_with fail
     go_quiet (fail)
     have B3 : Hid (Below w2.heap.size w2 (wr.drewN nq)) := hB.out.trans ((Qt.below ⟨nq, rfl⟩ _).mono hB.out.size)
     generalize wr.drewN nq = wy at *
     go_wp2_with fail
     go_ret
     exact ⟨by simp [hno.out], bs2 B02.out B3.out⟩
   ·have i1 : ¬ ((k : Int) < (N : Int)) := by omega
    have hDE : Hid (D = E) := by
     show _ = _
     have := hT.out
     rw [List.take_of_length_le (by rw [hN.out]; omega), List.take_of_length_le (by rw [hN2.out]; omega)] at this
     exact this
    go_wp2_with fail
    go_ret
    exact ⟨by simp [hDE.out], BR.out⟩
 ·have hno : Hid (¬ (d = d' ∧ D = E)) := fun c => hd ⟨c.1, by rw [← hN.out, ← hN2.out, c.2]⟩
  by_cases h1 : d = d'
  ·subst h1
   have h2 : ¬ ((N : Int) = (N2 : Int)) := fun c => hd ⟨rfl, by omega⟩
   have h3 : ((N : Int) != (N2 : Int)) = true := by simpa using h2
   go_enter Tryz.func36, Tryz.ntmps36
   go_upto_region 1 with fail
   rw [hw1.out, hw2.out]
   go_wp2_with fail
   go_ret
   have hDE : ¬ D = E := fun c => hno.out ⟨by first | rfl | trivial, c⟩
   exact ⟨by rw [decide_eq_false hDE]; rfl, B02.out⟩
  ·have h3 : (d != d') = true := by simpa using h1
   go_enter Tryz.func36, Tryz.ntmps36
   go_upto_region 1 with fail
   rw [hw1.out, hw2.out]
   go_wp2_with fail
   go_ret
   exact ⟨by rw [decide_eq_false hno.out]; try rfl, B02.out⟩
end Go.Proofs.YtjehpijjneghpaaGreat.Re
namespace Go.Proofs.YtjehpijjneghpaaGreat.Dk
open Go.RowKit Go.Maps Go.Sort Go.Shelf Go.Proofs.YtjehpijjneghpaaGreat.Nm
def kdig : Tls → List Kep → List Nat
 | [], _ => []
 | e :: r, ks => wthn (ks.headD (0, [])).1 e.2 :: kdig r ks.tail
theorem kdig_get (L : Tls) (ks : List Kep) (k : Nat) (hk : k < L.length) : (kdig L ks).getD k 0 = wthn (ks.getD k (0, [])).1 L[k].2 := by
 induction L generalizing ks k with
 | nil => simp at hk
 | cons e r ih =>
  cases k with
  | zero => cases ks <;> simp [kdig]
  | succ k =>
   have := ih ks.tail k (by simpa using hk)
   cases ks with
   | nil => simpa [kdig] using this
   | cons x y => simpa [kdig] using this
theorem wthn_le (n : Int) (m : Nat) : wthn n m ≤ m := by unfold wthn; omega
def numK (L : Tls) (ks : List Kep) : Nat := numb L (kdig L ks)
theorem numK_take (L : Tls) (ks : List Kep) (k : Nat) (hk : k < L.length) : numb (L.take (k + 1)) (kdig L ks) = numb (L.take k) (kdig L ks) * (L[k].2 + 1) + wthn (ks.getD k (0, [])).1 L[k].2 := by
 rw [List.take_succ_eq_append_getElem hk, numb_snoc, List.length_take, Nat.min_eq_left (by omega), kdig_get L ks k hk]
theorem numK_lt (L : Tls) (ks : List Kep) (k : Nat) : numb (L.take k) (kdig L ks) < prodT L := by
 refine Nat.lt_of_lt_of_le (numb_lt (L.take k) _ fun i hi => ?_) (prodT_take L k)
 rw [List.length_take] at hi
 rw [kdig_get L ks i (by omega), List.getElem_take]
 exact wthn_le _ _
theorem withinC_any (w : World) (n : Int) (m : Nat) (h0 : -9223372036854775808 ≤ n) (h1 : n ≤ 9223372036854775807) (hm : (m : Int) ≤ 9223372036854775807) :
    Calls Tryz.prog 91 #[.int .i64 n, .int .i64 (m : Int)] w fun e w' => e = .returned (.int .i64 (wthn n m : Int)) ∧ w' = w := by
 obtain ⟨E, hE⟩ : ∃ E : Nat, Hid (wthn n m = E) := ⟨_, rfl⟩
 rw [hE.out]
 have hq := hE.out
 unfold wthn at hq
 go_enter Tryz.func91, Tryz.ntmps91
 go_wp2_with fail
 all_goals
  go_ret
  refine ⟨?_, rfl⟩
  show Ending.returned (Value.int .i64 _) = _
  congr 2
  omega
theorem together_any (w : World) (v vk : Value) (L : Tls) (ks : List Kep) (Z : Nat → Prop) (hv : Tr w v L) (hk : Kp Z w vk ks) (hs : ∀ e ∈ L, e.2 ≤ 16777216) (hp : prodT L ≤ M40) :
    Calls Tryz.prog 92 #[v, vk] w fun e w' => e = .returned (.int .i64 (numK L ks : Int)) ∧ Below w.heap.size w w' := by
 obtain ⟨R, hR⟩ : ∃ R, Hid (numK L ks = R) := ⟨_, rfl⟩
 rw [hR.out]
 obtain ⟨ao, ca, rfl, q1, q2, q3⟩ := hv
 obtain ⟨ak, ck, rfl, p1, p2, p3⟩ := hk
 have p2' : (ck : Int) ≤ 9223372036854775807 := by unfold maxLen at p2; omega
 clear p2
 obtain ⟨N, hN⟩ : ∃ N, Hid (L.length = N) := ⟨_, rfl⟩
 obtain ⟨M, hM⟩ : ∃ M, Hid (ks.length = M) := ⟨_, rfl⟩
 rw [hN.out] at q1 ⊢
 rw [hM.out] at p1 ⊢
 replace q3 := hide q3
 replace p3 := hide p3
 replace hs := hide hs
 have hp2 : Hid ((prodT L : Int) ≤ 1099511627776) := by show _ ≤ _; unfold M40 at hp; omega
 clear hp
 go_enter Tryz.func92, Tryz.ntmps92
 go_wp2_with fail
 go_loopw [5, 10] (fun v5 i wr => ∃ k x : Nat, i = .int .i64 k ∧ k ≤ N ∧ v5 = .int .i64 x ∧ Hid (x = numb (L.take k) (kdig L ks)) ∧ Hid (Below w.heap.size w wr)) (fun _ i _ => N - (intOf i).toNat)
 case atStart => exact ⟨0, 0, rfl, Nat.zero_le _, rfl, rfl, Below.refl _ _⟩
 case round =>
  obtain ⟨k, x, rfl, hk, rfl, ex, hB⟩ := hrel
  by_cases hlt : k < N
  ·have i1 : (k : Int) < (N : Int) := by omega
   have hkl : k < L.length := by rw [hN.out]; exact hlt
   obtain ⟨gb, off, rfl, c0, c1⟩ := q3.out k hkl
   rw [← hB.out.cell (p := ⟨gb, off + k * 2, none⟩) (lt_of_cell c0)] at c0
   rw [← hB.out.cell (p := ⟨gb, off + k * 2 + 1, none⟩) (lt_of_cell c1)] at c1
   have hn := hs.out L[k] (List.getElem_mem hkl)
   have ey := numK_take L ks k hkl
   have ez := numK_lt L ks (k + 1)
   have ez2 := hp2.out
   obtain ⟨y, ey2⟩ : ∃ y, Hid (y = numb (L.take (k + 1)) (kdig L ks)) := ⟨_, rfl⟩
   rw [← ey2.out, ← ex.out] at ey
   rw [← ey2.out] at ez
   have y1 : (y : Int) ≤ 1099511627776 := by omega
   generalize L[k].2 = n at *
   generalize bsOf L[k].1 = s at *
   obtain ⟨z, hz⟩ : ∃ z, Hid (z = x * (n + 1)) := ⟨_, rfl⟩
   rw [← hz.out] at ey
   have t5 : (x : Int) * ((n : Int) + 1) = (z : Int) := by rw [hz.out]; norm_cast
   have z1 : (z : Int) ≤ 1099511627776 := by omega
   obtain ⟨X, hX⟩ : ∃ X, Hid (wr.alloc (.cells #[.string s, .int .i64 (n : Int)] 68) = X) := ⟨_, rfl⟩
   have B0 : Hid (Below w.heap.size w X) := by
    rw [← hX.out]
    exact hB.out.trans ((box_below wr (.cells #[.string s, .int .i64 (n : Int)] 68)).mono hB.out.size)
   have z0 := heap_alloc_new wr (.cells #[.string s, .int .i64 (n : Int)] 68)
   rw [hX.out] at z0
   have hBase := base_any X s n hn
   have x0 : X.cell? ⟨wr.heap.size, 0, none⟩ = some (.string s) := by simp [World.cell?, z0]
   have x1 : X.cell? ⟨wr.heap.size, 1, none⟩ = some (.int .i64 (n : Int)) := by simp [World.cell?, z0]
   replace z0 := hide z0
   replace ez := hide ez
   replace ey := hide ey
   clear ez2
   by_cases hm : k < M
   ·have i2 : (k : Int) < (M : Int) := by omega
    obtain ⟨kb, koff, vj, rfl, _, k1, _, _, _, m0, m1⟩ := p3.out k (by rw [hM.out]; exact hm)
    have ed : Hid (ks.getD k (0, []) = ks[k]'(by rw [hM.out]; exact hm)) := by show _ = _; simp [List.getD_eq_getElem?_getD, List.getElem?_eq_getElem (show k < ks.length by rw [hM.out]; exact hm)]
    rw [ed.out] at ey
    generalize (ks[k]'(by rw [hM.out]; exact hm)).1 = kn at *
    obtain ⟨d, hd⟩ : ∃ d, Hid (wthn kn n = d) := ⟨_, rfl⟩
    rw [hd.out] at ey
    have d1 : (d : Int) ≤ 16777216 := by have := wthn_le kn n; rw [hd.out] at this; omega
    have hW := withinC_any
    go_upto_region 5 with fail
    rw [hX.out]
    go_upto_region 7 with (go_at_call 113; refine hBase.mono ?_; rintro e w2 ⟨rfl, b2⟩; have e2 := (b2.block _ (heap_lt z0.out)).trans z0.out; have g0 : w2.cell? ⟨wr.heap.size, 0, none⟩ = some (.string s) := (by simp [World.cell?, e2]); have g1 : w2.cell? ⟨wr.heap.size, 1, none⟩ = some (.int .i64 (n : Int)) := (by simp [World.cell?, e2]); have B2 : Hid (Below w.heap.size w w2) := B0.out.trans (b2.mono B0.out.size); have g2 : w2.cell? ⟨kb, koff + k * 2, none⟩ = some (.int .i64 kn) := (by rw [B2.out.cell (lt_of_cell k1)]; exact k1); clear e2 b2)
    have t6 : (z : Int) + (d : Int) = (y : Int) := by have := ey.out; omega
    have w6 : Hid (wrap64 ((z : Int) + (d : Int)) = (y : Int)) := by show _ = _; rw [t6]; unfold wrap64; omega
    have nn : (n : Int) ≤ 9223372036854775807 := by omega
    clear t5 x0 x1 hBase hn
    go_quiet ((go_at_call 91; exact Calls.quiet_of_same (withinC_any _ kn n m0 m1 nn)))
    rw [hd.out]
    go_wp2_with fail
    have B3 : Hid (Below w.heap.size w (w2.drewN nq)) := B2.out.trans ((Qt.below ⟨nq, rfl⟩ _).mono B2.out.size)
    generalize w2.drewN nq = w3 at *
    go_roundw
    case rel => exact ⟨k + 1, y, by go_num, by omega, by first | (rw [w6.out]) | (congr 1), ey2, B3⟩
    case measure => simp [intOf]; omega
   ·have i2 : ¬ ((k : Int) < (M : Int)) := by omega
    have ed : Hid (ks.getD k (0, []) = (0, [])) := by show _ = _; rw [List.getD_eq_getElem?_getD, List.getElem?_eq_none (by rw [hM.out]; omega)]; rfl
    rw [ed.out] at ey
    have e3 : z = y := by have := ey.out; unfold wthn at this; simp at this; omega
    go_upto_region 5 with fail
    rw [hX.out]
    go_wp2_with (go_at_call 113; refine hBase.mono ?_; rintro e w2 ⟨rfl, b2⟩; have B2 : Hid (Below w.heap.size w w2) := B0.out.trans (b2.mono B0.out.size); clear b2)
    go_roundw
    case rel => exact ⟨k + 1, z, by go_num, by omega, by go_num, by rw [e3]; exact ey2, B2⟩
    case measure => simp [intOf]; omega
  ·obtain rfl : k = N := by omega
   rw [List.take_of_length_le (by rw [hN.out]; omega)] at ex
   go_wp2_with fail
   go_ret
   refine ⟨?_, hB.out⟩
   rw [← hR.out, numK, ← ex.out]
   rfl
open Ix (wp_region_T wpAnyT wpAnyT_take wpAnyT_one wpAnyT_done vac)
def DS.numE (S : DS) (d : Int) (ks : List Kep) : Int × Int := if S.ways ≤ M40 then ((((S.cnts (wthn d S.P.length)).sum + numK (S.tails ((wthn d S.P.length : Nat) : Int)) ks : Nat) : Int), 0) else (0, 9)
theorem ways_tails {S : DS} (h : S.ways ≤ M40) {d : Nat} (hd : d ≤ S.P.length) : prodT (S.tails (d : Int)) ≤ M40 := by
 have h1 := cnts_mono S (show d + 1 ≤ S.P.length + 1 by omega)
 have h2 := cnts_sum S d
 unfold DS.ways at h
 omega
theorem number_dsk {w : World} {b : Nat} {S : DS} {O : Nat → Prop} (h : DskE w b S O) (hc : S.c7 < 900000000) (d : Int) (n0 : -9223372036854775808 ≤ d) (n1 : d ≤ 9223372036854775807) (vk : Value) (ks : List Kep) (Z : Nat → Prop) (hk : Kp Z w vk ks) :
    Calls Tryz.prog 39 #[.pointer (some ⟨b, 0, none⟩), .agg #[.int .i64 d, vk]] w fun e w' => e = .returned (.tuple #[.int .i64 (S.numE d ks).1, .int .i64 (S.numE d ks).2]) ∧ Below w.heap.size w w' := by
 have B0 := hide (box_below w (.cells #[.int .i64 d, vk] 34))
 have N0 := hide (heap_alloc_new w (.cells #[.int .i64 d, vk] 34))
 have HK := hide hk
 obtain ⟨ak, ck, rfl, _⟩ := hk
 obtain ⟨u, hu⟩ : ∃ u, Hid (w.alloc (.cells #[.int .i64 d, .slice ak ks.length ck] 34) = u) := ⟨_, rfl⟩
 rw [hu.out] at B0 N0
 have hok := h.ok
 have hC := ccount_dsk (h.below B0.out) hc
 obtain ⟨R, hR⟩ : ∃ R, Hid (S.numE d ks = R) := ⟨_, rfl⟩
 rw [hR.out]
 by_cases hw : S.ways ≤ M40
 ·have hcnt : S.cnt = (S.cnts (S.P.length + 1), (S.ways : Int), 0) := by unfold DS.cnt; rw [if_pos hw]
  rw [hcnt] at hC
  clear hcnt
  obtain ⟨N, hN⟩ : ∃ N, Hid (S.P.length = N) := ⟨_, rfl⟩
  rw [hN.out] at hC
  obtain ⟨D, hD⟩ : ∃ D, Hid (wthn d N = D) := ⟨_, rfl⟩
  have hDN : D ≤ N := by rw [← hD.out]; exact wthn_le _ _
  have hNb : (N : Int) ≤ 900000000 := by have := hok.cnt; rw [← hN.out]; omega
  have hRe : Hid (R = ((((S.cnts D).sum + numK (S.tails (D : Int)) ks : Nat) : Int), 0)) := by show _ = _; rw [← hR.out]; unfold DS.numE; rw [if_pos hw, hN.out, hD.out]
  have hWi := withinC_any
  have htot : Hid ((((S.cnts D).sum + numK (S.tails (D : Int)) ks : Nat) : Int) ≤ 1099511627776) := by
   show _ ≤ _
   have h1 := cnts_mono S (show D + 1 ≤ S.P.length + 1 by rw [hN.out]; omega)
   have h2 := cnts_sum S D
   have h3 := numK_lt (S.tails (D : Int)) ks (S.tails (D : Int)).length
   rw [List.take_length] at h3
   unfold DS.ways M40 at hw
   unfold numK
   omega
  have KT : Hid (∀ q, Below w.heap.size w q → Calls Tryz.prog 27 #[.pointer (some ⟨b, 0, none⟩), .int .i64 (D : Int)] q fun e w' => ∃ v, e = .returned v ∧ Tr w' v (S.tails (D : Int)) ∧ Below q.heap.size q w') := fun q hq => by
   refine (tails_dsk (h.below hq) (by omega) (D : Int) (by omega) (by omega)).mono ?_
   rintro e w' ⟨v, rfl, ht, hb⟩
   exact ⟨v, rfl, ht.tr, hb⟩
  have KG : Hid (∀ q v, Below w.heap.size w q → Tr q v (S.tails (D : Int)) → Calls Tryz.prog 92 #[v, .slice ak ks.length ck] q fun e w' => e = .returned (.int .i64 (numK (S.tails (D : Int)) ks : Int)) ∧ Below q.heap.size q w') := fun q v hq hv => together_any q v _ _ ks Z hv (HK.out.but (X := fun _ => False) (But.of_below (hq.mono (Nat.le_refl _)) _) (fun _ _ c => c)) (tails_small hok _) (ways_tails hw (by rw [hN.out]; exact hDN))
  clear h hok hc
  go_enter Tryz.func39, Tryz.ntmps39
  go_upto_region 1 with fail
  rw [hu.out]
  go_upto_region 4 with (go_at_call 86; refine hC.mono ?_; rintro e w1 ⟨v, rfl, c1, b1⟩; have z1 := hide ((b1.block _ (heap_lt N0.out)).trans N0.out); replace b1 := hide b1; replace c1 := hide c1)
  have B1 : Hid (Below w.heap.size w w1) := B0.out.trans (b1.out.mono B0.out.size)
  obtain ⟨av, cv, rfl, hf1, hf2⟩ := c1.out.form
  rw [cnts_len] at c1 hf1 ⊢
  have hM1 : ((N + 1 : Nat) : Int) - 1 = (N : Int) := by omega
  have y0 : w1.cell? ⟨w.heap.size, 0, none⟩ = some (.int .i64 d) := by simp [World.cell?, z1.out]
  have y1 : w1.cell? ⟨w.heap.size, 1, none⟩ = some (.slice ak ks.length ck) := by simp [World.cell?, z1.out]
  have hWi2 := hWi w1 d N n0 n1 (by omega)
  rw [hD.out] at hWi2
  clear hWi hC
  go_upto_region 5 with (go_at_call 91; refine hWi2.mono ?_; rintro e w2 ⟨rfl, e2⟩; subst w2)
  have KC : Hid (∀ q, Below w1.heap.size w1 q → q.cell? ⟨w.heap.size, 1, none⟩ = some (.slice ak ks.length ck)) := fun q hq => by rw [hq.cell (lt_of_cell y1)]; exact y1
  have bb := Below.refl w1.heap.size w1
  clear hWi2 y0
  go_region_with (first
   | (go_at_call 27; refine (KT.out _ (B1.out.trans ((by first | exact bb | exact bb.drew | exact bb.drew.drew | exact bb.drew.drew.drew : Below w1.heap.size w1 _).mono B1.out.size))).mono ?_; rintro e w2 ⟨v2, rfl, r2, b2⟩; have b3 : Below w1.heap.size w1 w2 := (by first | exact bb.trans b2 | exact bb.drew.trans b2 | exact bb.drew.drew.trans b2 | exact bb.drew.drew.drew.trans b2); have y2 := KC.out w2 b3; have b5 := Below.refl w2.heap.size w2; have B2 := B1.out.trans (b3.mono B1.out.size); replace b2 := hide b2)
   | (go_at_call 92; refine (KG.out _ v2 (by first | exact B2 | exact B2.drew | exact B2.drew.drew) (by first | exact r2 | exact r2.below b5.drew | exact r2.below b5.drew.drew)).mono ?_; rintro e w3 ⟨rfl, b4⟩; have b6 : Below w2.heap.size w2 w3 := (by first | exact b5.trans b4 | exact b5.drew.trans b4 | exact b5.drew.drew.trans b4)))
  all_goals
   have b7 : Hid (Below w1.heap.size w1 w3) := b3.trans (b6.mono b3.size)
   have B5 : Hid (Below w.heap.size w w3) := B1.out.trans (b7.out.mono B1.out.size)
   have c3 := hide (c1.out.below b7.out)
   clear b3 b6 b4 y2 b5 B2 r2 y1 bb hM1
   have tot : Hid ((((S.cnts D).sum + numK (S.tails (D : Int)) ks : Nat) : Int) ≤ 1099511627776) := htot
   have hmono : Hid (∀ k, k ≤ D → (S.cnts k).sum ≤ (S.cnts D).sum) := fun k hk => cnts_mono S hk
   generalize numK (S.tails (D : Int)) ks = nk at *
   have hDc : (D : Int) ≤ (cv : Int) := by omega
   have hDN2 : (D : Int) ≤ ((N + 1 : Nat) : Int) := by omega
   go_wp2_with fail
   go_loopw [10, 38] (fun v10 vi wr => ∃ k x : Nat, vi = .int .i64 k ∧ k ≤ D ∧ v10 = .int .i64 x ∧ Hid (x = (S.cnts k).sum + nk) ∧ wr = w3) (fun _ vi _ => D - (intOf vi).toNat)
   case atStart => exact ⟨0, nk, rfl, Nat.zero_le _, rfl, by show _ = _; simp [DS.cnts], rfl⟩
   case round =>
    obtain ⟨k, x, rfl, hk, rfl, ex, rfl⟩ := hrel
    by_cases hlt : k < D
    ·have i1 : (k : Int) < (D : Int) := by omega
     obtain ⟨g, cap, e, hcell⟩ := c3.out.at (cnts_get S (N + 1) k (by omega))
     rw [cnts_len] at e
     simp only [Value.slice.injEq] at e
     obtain ⟨rfl, _, rfl⟩ := e
     have hsum : Hid ((S.cnts (k + 1)).sum = (S.cnts k).sum + prodT (S.tails (k : Int))) := cnts_sum S k
     have hmo := hmono.out (k + 1) (by omega)
     obtain ⟨c, hcc⟩ : ∃ c, Hid (prodT (S.tails (k : Int)) = c) := ⟨_, rfl⟩
     rw [hcc.out] at hcell hsum
     have hb2 : (x : Int) + (c : Int) ≤ 1099511627776 := by have h1 := ex.out; have h2 := hsum.out; have h3 := tot.out; omega
     clear hmo
     go_wp2_with fail
     go_roundw
     case rel => exact ⟨k + 1, x + c, by go_num, by omega, by go_num, by show _ = _; have h1 := ex.out; have h2 := hsum.out; omega, trivial⟩
     case measure => simp [intOf]; omega
    ·obtain rfl : k = D := by omega
     go_wp2_with fail
     go_ret2
     rw [hRe.out, ← ex.out]
     exact ⟨rfl, B5.out⟩
 ·have hcnt : S.cnt = ([], 0, 9) := by unfold DS.cnt; rw [if_neg hw]
  rw [hcnt] at hC
  have hRe : Hid (R = (0, 9)) := by show _ = _; rw [← hR.out]; unfold DS.numE; rw [if_neg hw]
  clear h hok hw hcnt
  go_enter Tryz.func39, Tryz.ntmps39
  go_upto_region 1 with fail
  rw [hu.out]
  go_wp2_with (go_at_call 86; refine hC.mono ?_; rintro e w1 ⟨v, rfl, _, b1⟩; replace b1 := hide b1)
  go_ret2
  rw [hRe.out]
  exact ⟨rfl, B0.out.trans (b1.out.mono B0.out.size)⟩
theorem wthn_id {n m : Nat} (h : n ≤ m) : wthn (n : Int) m = n := by unfold wthn; omega
theorem kdig_digs (L : Tls) (j : Nat) (hj : j < prodT L) : kdig L (keps (digs L j)) = digs L j := by
 induction L generalizing j with
 | nil => rfl
 | cons e r ih =>
  have hp := prodT_pos r
  simp only [digs, keps, List.map_cons, kdig, List.headD_cons, List.tail_cons]
  have h1 := ih (j % prodT r) (Nat.mod_lt _ (by omega))
  unfold keps at h1
  rw [h1, wthn_id]
  have := Nat.mod_lt (j / prodT r) (show 0 < e.2 + 1 by omega)
  omega
theorem FateOf.num {S : DS} {i d j : Nat} (h : FateOf S i d j) (hw : S.ways ≤ M40) : S.numE (d : Int) (keps (digs (S.tails (d : Int)) j)) = ((i : Int), 0) := by
 unfold DS.numE numK
 rw [if_pos hw, wthn_id h.dl, kdig_digs _ _ h.lt, numb_digs _ _ h.lt, ← h.eq]
theorem atE_ok {S : DS} {i : Nat} (hw : S.ways ≤ M40) (hi : i < S.ways) : S.atE (i : Int) = 0 := by
 unfold DS.atE
 rw [if_pos hw, if_pos (by omega)]
end Go.Proofs.YtjehpijjneghpaaGreat.Dk
namespace Go.Proofs.YtjehpijjneghpaaGreat.Dk
open Go.RowKit Go.Proofs.YtjehpijjneghpaaGreat.Nm
end Go.Proofs.YtjehpijjneghpaaGreat.Dk
namespace Go.Proofs.YtjehpijjneghpaaGreat.Re
open Go.RowKit Go.Maps Go.Sort Go.Shelf Go.Proofs.YtjehpijjneghpaaGreat.Nm Go.Proofs.YtjehpijjneghpaaGreat.Dk
end Go.Proofs.YtjehpijjneghpaaGreat.Re
namespace Go.Proofs.YtjehpijjneghpaaGreat.Dk
open Go.RowKit Go.Maps Go.Sort Go.Shelf Go.Proofs.YtjehpijjneghpaaGreat.Nm
theorem ci_append_new {w q q' : World} {b M : Nat} {L2 : Dr} {PP : List Ch} {F : Nat → Fl} {c : Int} (h : CI w q b M L2 PP F c) (hb : Below q.heap.size q q') (hc : c < 800000000) (s : ByteArray) (hs : s.size ≤ maxLen) {p : Nat} (hm : may s.data.toList = true) (hg : get (runs L2 PP) s.data.toList = some p) (v : Value) (D : List UInt8) (hv : Sl q' v D) (ho : ∀ b off n c, v = .slice (some ⟨b, off, none⟩) n c → q.heap.size ≤ b) (hD : sumL F (runs L2 PP) + D.length ≤ M) :
    Calls Tryz.prog 16 #[.pointer (some ⟨b, 0, none⟩), .string s, v] q' fun e w' => e = .returned (.tuple #[.int .i64 (D.length : Int), .int .i64 0]) ∧ CI w w' b M L2 PP (upd F p (apF (F p) D)) (c + 1) := by
 obtain ⟨S, O, hd, hC, hB, hlo⟩ := h
 have hB' := hB.trans (hb.mono hB.size)
 refine (append_dsk (hd.below hb) s hs v D hv (fun b' off n c' e _ k => by have := hd.lt _ k; have := ho b' off n c' e; omega) (by rw [hC.c7]; omega)).mono ?_
 rintro e w' ⟨he, O', hd', hg'⟩
 obtain ⟨k1, k2, k3⟩ := hC.append hm hg D hD
 rw [k1, k2] at he
 exact ⟨he, _, O', hd', k3, hg'.under hlo (Nat.le_refl _) hB', hg'.low hB'.size hlo⟩
def EI (w q : World) (b : Nat) (S : DS) (m : UInt8) (A B C : List UInt8) : Prop := ∃ O p r, DskE q b S O ∧ EachD S m A B C p r ∧ S.c7 < 1000 ∧ Below w.heap.size w q ∧ ∀ k, O k → w.heap.size ≤ k
theorem EI.below {w q q' : World} {b : Nat} {S : DS} {m : UInt8} {A B C : List UInt8} (h : EI w q b S m A B C) (hb : Below q.heap.size q q') : EI w q' b S m A B C := by
 obtain ⟨O, p, r, hd, he, hc, hB, hl⟩ := h
 exact ⟨O, p, r, hd.below hb, he, hc, hB.trans (hb.mono hB.size), hl⟩
theorem EI.bel {w q : World} {b : Nat} {S : DS} {m : UInt8} {A B C : List UInt8} (h : EI w q b S m A B C) : Below w.heap.size w q := by
 obtain ⟨O, p, r, hd, he, hc, hB, hl⟩ := h
 exact hB
theorem CI.each {w q : World} {b M p r : Nat} {F : Nat → Fl} {c : Int} {m : UInt8} {A B C : List UInt8} (h : CI w q b M [([97], p)] [.cr (sM m) r] F c) (hm : m = 98 ∨ m = 110) (hp : F p = ⟨A ++ B, A, 0⟩) (hr : F r = ⟨C, [], 0⟩) (hn : p ≠ r) (hc : c < 1000) : ∃ S, EI w q b S m A B C := by
 obtain ⟨S, O, hd, hC, hB, hlo⟩ := h
 exact ⟨S, O, p, r, hd, ⟨hm, hC.up, hC.l2, hC.P, by rw [hC.F]; exact hp, by rw [hC.F]; exact hr, hn⟩, by rw [hC.c7]; exact hc, hB, hlo⟩
theorem EI.ways {w q : World} {b : Nat} {S : DS} {m : UInt8} {A B C : List UInt8} (h : EI w q b S m A B C) : S.ways = (B.length + 1) * (C.length + 2) := by
 obtain ⟨O, p, r, hd, he, hc, hB, hl⟩ := h
 exact he.ways
theorem ei_ways {w q : World} {b : Nat} {S : DS} {m : UInt8} {A B C : List UInt8} (h : EI w q b S m A B C) (hw : (B.length + 1) * (C.length + 2) ≤ M40) :
    Calls Tryz.prog 31 #[.pointer (some ⟨b, 0, none⟩)] q fun e w' => e = .returned (.tuple #[.int .i64 (((B.length + 1) * (C.length + 2) : Nat) : Int), .int .i64 0]) ∧ Below q.heap.size q w' := by
 have hW := h.ways
 obtain ⟨O, p, r, hd, he, hc, hB, hl⟩ := h
 have := ways_dsk hd (by omega)
 have e : S.cnt = (S.cnts (S.P.length + 1), (S.ways : Int), 0) := by unfold DS.cnt; rw [if_pos (by rw [hW]; exact hw)]
 rw [e, hW] at this
 exact this
theorem ei_at {w q : World} {b : Nat} {S : DS} {m : UInt8} {A B C : List UInt8} (h : EI w q b S m A B C) (hw : (B.length + 1) * (C.length + 2) ≤ M40) (i : Nat) (hi : i < (B.length + 1) * (C.length + 2)) :
    Calls Tryz.prog 33 #[.pointer (some ⟨b, 0, none⟩), .int .i64 (i : Int)] q fun e w' => ∃ (d j : Nat) (ao : Option Addr) (n ca : Nat), e = .returned (.tuple #[.agg #[.int .i64 (d : Int), .slice ao n ca], .int .i64 0]) ∧ FateOf S i d j ∧ n = (S.tails (d : Int)).length ∧ n ≤ ca ∧ ca ≤ 9223372036854775807 ∧ Kp (fun k => q.heap.size ≤ k ∧ k < w'.heap.size) w' (.slice ao n ca) (keps (digs (S.tails (d : Int)) j)) ∧ Below q.heap.size q w' := by
 have hW := h.ways
 obtain ⟨O, p, r, hd, he, hc, hB, hl⟩ := h
 have h40 : i < M40 := by omega
 unfold M40 at h40
 refine (at_dsk hd (by omega) (i : Int) (by omega) (by omega)).mono ?_
 have h0 : S.atE (i : Int) = 0 := atE_ok (by rw [hW]; exact hw) (by rw [hW]; exact hi)
 rintro e w' ⟨hb, ⟨c, _⟩ | ⟨_, d, j, v, hf, rfl, hk⟩⟩
 ·exact absurd h0 c
 ·rw [Int.toNat_natCast] at hf
  have hkp := hk.kp (digs_small hd.ok d j hf.lt)
  have hkp0 := hkp
  obtain ⟨ao, cap, rfl, k1, k2, _⟩ := hkp
  rw [digs_keps_len] at k1 hkp0 ⊢
  exact ⟨d, j, ao, _, cap, rfl, hf, rfl, k1, by unfold maxLen at k2; omega, hkp0, hb⟩
theorem ei_number {w q : World} {b : Nat} {S : DS} {m : UInt8} {A B C : List UInt8} (h : EI w q b S m A B C) (hw : (B.length + 1) * (C.length + 2) ≤ M40) {i d j : Nat} (hf : FateOf S i d j) (v : Value) (Z : Nat → Prop) (hk : Kp Z q v (keps (digs (S.tails (d : Int)) j))) :
    Calls Tryz.prog 39 #[.pointer (some ⟨b, 0, none⟩), .agg #[.int .i64 (d : Int), v]] q fun e w' => e = .returned (.tuple #[.int .i64 (i : Int), .int .i64 0]) ∧ Below q.heap.size q w' := by
 have hW := h.ways
 obtain ⟨O, p, r, hd, he, hc, hB, hl⟩ := h
 have hdl := hf.dl
 have hcnt := hd.ok.cnt
 have := number_dsk hd (by omega) (d : Int) (by omega) (by omega) v _ Z hk
 rw [hf.num (by rw [hW]; exact hw)] at this
 exact this
theorem ei_after {w q : World} {b : Nat} {S : DS} {m : UInt8} {A B C : List UInt8} (h : EI w q b S m A B C) (hw : (B.length + 1) * (C.length + 2) ≤ M40) (i : Nat) (hi : i < (B.length + 1) * (C.length + 2)) :
    Calls Tryz.prog 35 #[.pointer (some ⟨b, 0, none⟩), .int .i64 (i : Int)] q fun e w' => ∃ b', e = .returned (.tuple #[.pointer (some ⟨b', 0, none⟩), .int .i64 0]) ∧ (∃ d j σ S' O', FateOf S i d j ∧ Alike σ (S.after d j) S' ∧ DskE w' b' S' O' ∧ ∀ k, O' k → q.heap.size ≤ k) ∧ Below q.heap.size q w' := by
 have hW := h.ways
 obtain ⟨O, p, r, hd, he, hc, hB, hl⟩ := h
 have h40 : i < M40 := by omega
 unfold M40 at h40
 refine (after_dsk hd he.uq (by omega) (i : Int) (by omega) (by omega)).mono ?_
 have h0 : S.atE (i : Int) = 0 := atE_ok (by rw [hW]; exact hw) (by rw [hW]; exact hi)
 rintro e w' ⟨hb, ⟨c, _⟩ | ⟨_, d, j, b', σ, S', O', hf, rfl, hal, hd', hlo⟩⟩
 ·exact absurd h0 c
 ·rw [Int.toNat_natCast] at hf
  exact ⟨b', rfl, ⟨d, j, σ, S', O', hf, hal, hd', hlo⟩, hb⟩
theorem ways_nil (w : World) : Calls Tryz.prog 31 #[.pointer none] w fun e w' => e = .returned (.tuple #[.int .i64 0, .int .i64 1]) ∧ w' = w := by
 have hC : Calls Tryz.prog 86 #[.pointer none] w fun e w' => e = .returned (.tuple #[.slice none 0 0, .int .i64 0, .int .i64 1]) ∧ w' = w := by
  go_enter Tryz.func86, Tryz.ntmps86
  go_wp2_with fail
  go_returns
  exact ⟨rfl, rfl⟩
 go_enter Tryz.func31, Tryz.ntmps31
 go_wp2_with (go_at_call 86; refine hC.mono ?_; rintro e w1 ⟨rfl, e1⟩; subst w1)
 go_ret2
 exact ⟨rfl, rfl⟩
theorem get_am (p r : Nat) : get (runs [([97], p)] [.cr (sM 98) r]) (sM 98).data.toList = some r := rfl
theorem fate5 {S : DS} {p r d j : Nat} (h : EachD S 98 [] [97, 98, 99] [120] p r) (hf : FateOf S 5 d j) : d = 1 ∧ (S.tails (d : Int)).length = 2 := by
 have hd := hf.dl
 rw [h.P] at hd
 have h1 := hf.eq
 have h2 := hf.lt
 have hd2 : d = 0 ∨ d = 1 := by simp at hd; omega
 rcases hd2 with rfl | rfl
 ·rw [show ((0 : Nat) : Int) = 0 from rfl, h.tails0] at h2
  simp [DS.cnts, prodT] at h1 h2
  omega
 ·exact ⟨rfl, by rw [show ((1 : Nat) : Int) = 1 from rfl, h.tails1]; rfl⟩
theorem begun12_any (w : World) : Calls Tryz.prog 29 #[] w fun e w' => e = .returned (.bool true) ∧ Below w.heap.size w w' := by
 have s1 : sA.size ≤ 140737488355328 := by decide
 have s2 : (sM 98).size ≤ 140737488355328 := by decide
 have s3 : sA.size ≤ maxLen := by decide
 have s4 : (sM 98).size ≤ maxLen := by decide
 have hN := ci_new (w := w) w 100 (by decide) (Below.refl _ _)
 have h1 : Hid (∀ q b, CI w q b 100 [] [] noF 0 → Calls Tryz.prog 14 #[.pointer (some ⟨b, 0, none⟩), .string ⟨#[97]⟩] q fun e w' => e = .returned (.int .i64 0) ∧ ∃ p, CI w w' b 100 [] [.cr sA p] noF 1) := fun q b h => by
  refine (ci_create h (by decide) sA s1 may_a rfl (by decide)).mono ?_
  rintro e w' ⟨he, p, _, hc⟩
  rw [upd_noF] at hc
  exact ⟨he, p, hc⟩
 have h2 : Hid (∀ q b p, CI w q b 100 [] [.cr sA p] noF 1 → Calls Tryz.prog 15 #[.pointer (some ⟨b, 0, none⟩)] q fun e w' => e = .returned (.int .i64 0) ∧ CI w w' b 100 [([97], p)] [] noF 2) := fun q b p h => ci_syncDir h (by decide)
 have h3 : Hid (∀ q b p q' v, CI w q b 100 [([97], p)] [] noF 2 → Below q.heap.size q q' → Sl q' v [97, 98, 99] → (∀ b off n c, v = .slice (some ⟨b, off, none⟩) n c → q.heap.size ≤ b) → Calls Tryz.prog 16 #[.pointer (some ⟨b, 0, none⟩), .string ⟨#[97]⟩, v] q' fun e w' => e = .returned (.tuple #[.int .i64 3, .int .i64 0]) ∧ CI w w' b 100 [([97], p)] [] (upd noF p ⟨[97, 98, 99], [], 0⟩) 3) := fun q b p q' v h hb hv ho => ci_append_new h hb (by decide) sA s3 may_a (get_one _ _) v _ hv ho (by simp [sumL, noF, runs])
 have h4 : Hid (∀ q b p, CI w q b 100 [([97], p)] [] (upd noF p ⟨[97, 98, 99], [], 0⟩) 3 → Calls Tryz.prog 14 #[.pointer (some ⟨b, 0, none⟩), .string ⟨#[98]⟩] q fun e w' => e = .returned (.int .i64 0) ∧ ∃ r, p ≠ r ∧ CI w w' b 100 [([97], p)] [.cr (sM 98) r] (upd (upd noF p ⟨[97, 98, 99], [], 0⟩) r ⟨[], [], 0⟩) 4) := fun q b p h => by
  refine (ci_create h (by decide) (sM 98) s2 (may_m (.inl rfl)) rfl (by simp [runs])).mono ?_
  rintro e w' ⟨he, r, hr, hc⟩
  exact ⟨he, r, fun e => hr (by simp [e]), hc⟩
 have h5 : Hid (∀ q b p r q' v, p ≠ r → CI w q b 100 [([97], p)] [.cr (sM 98) r] (upd (upd noF p ⟨[97, 98, 99], [], 0⟩) r ⟨[], [], 0⟩) 4 → Below q.heap.size q q' → Sl q' v [120] → (∀ b off n c, v = .slice (some ⟨b, off, none⟩) n c → q.heap.size ≤ b) → Calls Tryz.prog 16 #[.pointer (some ⟨b, 0, none⟩), .string ⟨#[98]⟩, v] q' fun e w' => e = .returned (.tuple #[.int .i64 1, .int .i64 0]) ∧ ∃ S, EI w w' b S 98 [] [97, 98, 99] [120]) := fun q b p r q' v hn h hb hv ho => by
  refine (ci_append_new h hb (by decide) (sM 98) s4 (may_m (.inl rfl)) (get_am p r) v _ hv ho ?_).mono ?_
  ·show sumL _ [([97], p), ([98], r)] + 1 ≤ 100
   simp [sumL, upd, hn]
  ·rintro e w' ⟨he, hc⟩
   refine ⟨he, hc.each (.inl rfl) ?_ ?_ hn (by decide)⟩
   ·rw [upd_ne _ _ hn, upd_ne _ _ hn, upd_same]; rfl
   ·rw [upd_same, upd_same]; rfl
 have hw40 : ([97, 98, 99] : List UInt8).length + 1 ≤ 4 := by decide
 have e40 : ((([97, 98, 99] : List UInt8).length + 1) * (([120] : List UInt8).length + 2)) ≤ M40 := by decide
 have h6 : Hid (∀ q b S, EI w q b S 98 [] [97, 98, 99] [120] → Calls Tryz.prog 31 #[.pointer (some ⟨b, 0, none⟩)] q fun e w' => e = .returned (.tuple #[.int .i64 12, .int .i64 0]) ∧ Below q.heap.size q w') := fun q b S h => ei_ways h e40
 have h7 : Hid (∀ q b S, EI w q b S 98 [] [97, 98, 99] [120] → Calls Tryz.prog 33 #[.pointer (some ⟨b, 0, none⟩), .int .i64 5] q fun e w' => ∃ (j : Nat) (ao : Option Addr) (ca : Nat), e = .returned (.tuple #[.agg #[.int .i64 1, .slice ao 2 ca], .int .i64 0]) ∧ 2 ≤ ca ∧ ca ≤ 9223372036854775807 ∧ Hid (FateOf S 5 1 j) ∧ Hid (Kp (fun k => q.heap.size ≤ k ∧ k < w'.heap.size) w' (.slice ao 2 ca) (keps (digs (S.tails 1) j))) ∧ Hid (Below q.heap.size q w')) := fun q b S h => by
  refine (ei_at h e40 5 (by decide)).mono ?_
  rintro e w' ⟨d, j, ao, n, ca, rfl, hf, hn, k1, k2, hk, hb⟩
  obtain ⟨O, p, r, hd, he, _⟩ := h
  obtain ⟨rfl, h2⟩ := fate5 he hf
  rw [h2] at hn
  subst hn
  exact ⟨j, ao, ca, rfl, k1, k2, hf, hk, hb⟩
 have h8 : Hid (∀ q b S j v Z, EI w q b S 98 [] [97, 98, 99] [120] → FateOf S 5 1 j → Kp Z q v (keps (digs (S.tails 1) j)) → Calls Tryz.prog 39 #[.pointer (some ⟨b, 0, none⟩), .agg #[.int .i64 1, v]] q fun e w' => e = .returned (.tuple #[.int .i64 5, .int .i64 0]) ∧ Below q.heap.size q w') := fun q b S j v Z h hf hk => ei_number h e40 hf v Z hk
 have h9 : Hid (∀ q b S, EI w q b S 98 [] [97, 98, 99] [120] → Calls Tryz.prog 35 #[.pointer (some ⟨b, 0, none⟩), .int .i64 5] q fun e w' => ∃ b', e = .returned (.tuple #[.pointer (some ⟨b', 0, none⟩), .int .i64 0]) ∧ Hid (Below q.heap.size q w')) := fun q b S h => by
  refine (ei_after h e40 5 (by decide)).mono ?_
  rintro e w' ⟨b', rfl, _, hb⟩
  exact ⟨b', rfl, hb⟩
 have h10 : Hid (∀ q, Calls Tryz.prog 31 #[.pointer none] q fun e w' => e = .returned (.tuple #[.int .i64 0, .int .i64 1]) ∧ w' = q) := fun q => ways_nil q
 have kc := fun (w : World) (C : Array Value) (n c : Nat) => Lib.run_convert_bytes_const (P := Tryz.prog) w 30 5 C n c Tryz.underlying30 Tryz.underlying5
 clear s1 s2 s3 s4 hw40 e40
 go_enter Tryz.func29, Tryz.ntmps29
 go_upto_region 4 with (first
  | (go_at_call 9; refine hN.mono ?_; rintro e w1 ⟨b, rfl, D1⟩; replace D1 := hide D1)
  | (go_at_call 14; refine (h1.out _ _ D1.out).mono ?_; rintro e w2 ⟨rfl, p, D2⟩; replace D2 := hide D2)
  | (go_at_call 15; refine (h2.out _ _ _ D2.out).mono ?_; rintro e w3 ⟨rfl, D3⟩; replace D3 := hide D3))
 have B4 := hide (box_below w3 (.cells #[.int .u8 97, .int .u8 98, .int .u8 99] 5 (3, 4)))
 have S4 : Hid (Sl (w3.alloc (.cells #[.int .u8 97, .int .u8 98, .int .u8 99] 5 (3, 4))) (.slice (some ⟨w3.heap.size, 0, none⟩) 3 3) [97, 98, 99]) := sl_lit_mark w3 [97, 98, 99] 5 (3, 4) (by decide) _ rfl
 have F4 : Hid (∀ b off n c, Value.slice (some ⟨w3.heap.size, 0, none⟩) 3 3 = .slice (some ⟨b, off, none⟩) n c → w3.heap.size ≤ b) := fun b' off n c e => by
  simp only [Value.slice.injEq, Option.some.injEq, Addr.mk.injEq] at e
  omega
 go_upto_region 6 with (first
  | (go_at_call 16; refine (h3.out _ _ _ _ _ D3.out B4.out S4.out F4.out).mono ?_; rintro e w5 ⟨rfl, D5⟩; replace D5 := hide D5)
  | (go_at_call 14; refine (h4.out _ _ _ D5.out).mono ?_; rintro e w6 ⟨rfl, r, hn, D6⟩; replace D6 := hide D6; replace hn := hide hn))
 clear B4 S4 F4
 have B7 := hide (box_below w6 (.cells #[.int .u8 120] 5 (1, 2)))
 have S7 : Hid (Sl (w6.alloc (.cells #[.int .u8 120] 5 (1, 2))) (.slice (some ⟨w6.heap.size, 0, none⟩) 1 1) [120]) := sl_lit_mark w6 [120] 5 (1, 2) (by decide) _ rfl
 have F7 : Hid (∀ b off n c, Value.slice (some ⟨w6.heap.size, 0, none⟩) 1 1 = .slice (some ⟨b, off, none⟩) n c → w6.heap.size ≤ b) := fun b' off n c e => by
  simp only [Value.slice.injEq, Option.some.injEq, Addr.mk.injEq] at e
  omega
 go_upto_region 9 with (first
  | (go_at_call 16; refine (h5.out _ _ _ _ _ _ hn.out D6.out B7.out S7.out F7.out).mono ?_; rintro e w8 ⟨rfl, S, D8⟩; replace D8 := hide D8)
  | (go_at_call 31; refine (h6.out _ _ _ D8.out).mono ?_; rintro e w9 ⟨rfl, b9⟩; have D9 := hide (D8.out.below b9); clear b9)
  | (go_at_call 33; refine (h7.out _ _ _ D9.out).mono ?_; rintro e w10 ⟨j, ao, ca, rfl, c1, c2, hf, hk, b10⟩; have D10 := hide (D9.out.below b10.out)))
 have z2 := heap_alloc_new w10 (.cells #[.int .i64 1, .slice ao 2 ca] 34)
 have B11 := hide (box_below w10 (.cells #[.int .i64 1, .slice ao 2 ca] 34))
 obtain ⟨X, hX⟩ : ∃ X, Hid (w10.alloc (.cells #[.int .i64 1, .slice ao 2 ca] 34) = X) := ⟨_, rfl⟩
 rw [hX.out] at z2 B11 ⊢
 have D11 := hide (D10.out.below B11.out)
 have k11 := hide (hk.out.below B11.out)
 have KC : Hid (∀ q, Below X.heap.size X q → q.cell? ⟨w10.heap.size, 0, none⟩ = some (.int .i64 1) ∧ q.cell? ⟨w10.heap.size, 1, none⟩ = some (.slice ao 2 ca)) := fun q hq => by
  have z3 := (hq.block _ (heap_lt z2)).trans z2
  exact ⟨by simp [World.cell?, z3], by simp [World.cell?, z3]⟩
 obtain ⟨x0, x1⟩ := KC.out X (Below.refl _ _)
 clear z2 hk B7 S7 F7
 go_upto_region 12 with (first
  | (go_at_call 39; refine (h8.out _ _ _ _ _ _ D11.out hf.out k11.out).mono ?_; rintro e w12 ⟨rfl, b12⟩; have D12 := hide (D11.out.below b12); replace b12 := hide b12)
  | (go_at_call 35; refine (h9.out _ _ _ D12.out).mono ?_; rintro e w13 ⟨b', rfl, b13⟩; have D13 := hide (D12.out.below b13.out))
  | (go_at_call 31; refine (h10.out _).mono ?_; rintro e w14 ⟨rfl, e14⟩; subst w14))
 obtain ⟨y0, y1⟩ := KC.out w13 (b12.out.trans (b13.out.mono b12.out.size))
 go_wp2_with fail
 go_ret
 exact ⟨rfl, D13.out.bel⟩
end Go.Proofs.YtjehpijjneghpaaGreat.Dk
namespace Go.Proofs.YtjehpijjneghpaaGreat.Re
open Go.RowKit Go.Maps Go.Sort Go.Shelf Go.Proofs.YtjehpijjneghpaaGreat.Nm Go.Proofs.YtjehpijjneghpaaGreat.Dk
theorem DopOk.below {w w' : World} {o : Dop} (h : DopOk w o) (hb : Below w.heap.size w w') : DopOk w' o :=
 ⟨h.kind, h.nm, h.tn, Below.sl hb h.dat, h.datl, h.off, h.n, h.fs.below hb, h.fsl, h.dir, kp_mono (h.ks.below hb) (fun k hk => Nat.lt_of_lt_of_le hk hb.size), h.ksl, h.ksn⟩
theorem AtDops.below {w w' : World} {ao : Option Addr} {os : List Dop} (h : AtDops w ao os) (hb : Below w.heap.size w w') : AtDops w' ao os := fun i hi => by
 obtain ⟨b, off, e, hc⟩ := h i hi
 exact ⟨b, off, e, fun j u hu => by have := hc j u hu; rw [hb.cell (lt_of_cell this)]; exact this⟩
theorem fate_iff {S : DS} {a a' x y x' y' : Nat} (h : FateOf S a x y) (h' : FateOf S a' x' y') : ((x : Int) = (x' : Int) ∧ digs (S.tails (x : Int)) y = digs (S.tails (x' : Int)) y') ↔ a = a' := by
 constructor
 ·rintro ⟨e1, e2⟩
  obtain rfl : x = x' := by omega
  have := numb_digs _ _ h.lt
  rw [e2, numb_digs _ _ h'.lt] at this
  rw [h.eq, h'.eq, this]
 ·rintro rfl
  obtain ⟨rfl, rfl⟩ := h.uniq h'
  exact ⟨rfl, rfl⟩
theorem bk_eq {S : DS} {q : World} {a a' x y x' y' : Nat} (h : FateOf S a x y) (h' : FateOf S a' x' y') {va vb : Value} (ha : Kr q va (digs (S.tails (x : Int)) y)) (hb : Kr q vb (digs (S.tails (x' : Int)) y')) :
    Calls Tryz.prog 36 #[.agg #[.int .i64 (x : Int), va], .agg #[.int .i64 (x' : Int), vb]] q fun e w' => e = .returned (.bool (decide (a = a'))) ∧ Below q.heap.size q w' := by
 refine (fate_eq q _ _ va vb _ _ ha hb).mono ?_
 rintro e w' ⟨rfl, hb⟩
 exact ⟨by rw [decide_eq_decide.2 (fate_iff h h')], hb⟩
structure Rf (w : World) (rb : Nat) (S : DS) (R : RB) (V : RV) : Prop where
 rm : RM w rb R V
 rel : Rel S R
 c : S.c7 ≤ 100000
theorem Rf.below {w w' : World} {rb : Nat} {S : DS} {R : RB} {V : RV} (h : Rf w rb S R V) (hb : Below w.heap.size w w') : Rf w' rb S R V := ⟨h.rm.below hb, h.rel, h.c⟩
theorem Rf.few {w : World} {rb : Nat} {S : DS} {R : RB} {V : RV} (h : Rf w rb S R V) : ((R.old.length + R.pe.length : Nat) : Int) ≤ 100000 ∧ (S.P.length : Int) ≤ 100000 ∧ S.P.length = R.pe.length := by
 have a := h.rel.ri.cnt
 have b := h.rel.cnts
 have c := h.c
 have d := h.rel.pend
 have e : S.c7 = R.c7 := b.2.2.2.2.2.2.2.1
 omega
theorem rf_tails {w : World} {rb : Nat} {S : DS} {R : RB} {V : RV} (h : Rf w rb S R V) (n : Int) :
    Calls Tryz.prog 63 #[.pointer (some ⟨rb, 0, none⟩), .int .i64 n] w fun e w' => ∃ v, e = .returned v ∧ Tr w' v (S.tails n) ∧ Below w.heap.size w w' := by
 have hf := h.few
 refine (tails_rm h.rm (by omega) (h.rel.ri.pf (by have := h.rel.cnts; have := h.c; omega)) n (h.rel.ri.front n) h.rel.ri.la).mono ?_
 rintro e w' ⟨v, rfl, ht, hb⟩
 rw [← h.rel.tails] at ht
 exact ⟨v, rfl, ht.tr, hb⟩
theorem rf_small {w : World} {rb : Nat} {S : DS} {R : RB} {V : RV} (h : Rf w rb S R V) (n : Int) : ∀ e ∈ S.tails n, e.2 ≤ 16777216 := fun e he => by
 rw [h.rel.tails] at he
 unfold RB.tails at he
 obtain ⟨x, hx, rfl⟩ := List.mem_map.1 he
 show R.tlOf x.2 ≤ _
 unfold RB.tlOf
 cases hg : R.F[x.2]? with
 | none => exact Nat.zero_le _
 | some f =>
  have := (h.rel.ri.fi f (List.mem_of_getElem? hg)).2
  simp only
  omega
theorem rf_len {w : World} {rb : Nat} {S : DS} {R : RB} {V : RV} (h : Rf w rb S R V) (n : Int) : (S.tails n).length ≤ 100000 := by
 rw [h.rel.tails, RB.tails, List.length_map]
 have := front_len R n
 have := h.few
 omega
def capT (L : Tls) : Nat := if prodT L ≤ M40 then prodT L else M40 + 1
theorem capT_le (L : Tls) : capT L ≤ 1099511627777 := by unfold capT M40; split <;> omega
theorem rways_any {w : World} {rb : Nat} {S : DS} {R : RB} {V : RV} (h : Rf w rb S R V) (n : Int) :
    Calls Tryz.prog 87 #[.pointer (some ⟨rb, 0, none⟩), .int .i64 n] w fun e w' => e = .returned (.int .i64 (capT (S.tails n) : Int)) ∧ Below w.heap.size w w' := by
 have hT := rf_tails h n
 have hs := hide (rf_small h n)
 generalize S.tails n = L at *
 clear h
 obtain ⟨X, hX⟩ : ∃ X, Hid (capT L = X) := ⟨_, rfl⟩
 rw [hX.out]
 go_enter Tryz.func87, Tryz.ntmps87
 go_upto_region 3 with (first
  | (go_at_call 63; refine hT.mono ?_; rintro e w1 ⟨v1, rfl, t1, b1⟩; replace b1 := hide b1)
  | fail)
 clear hT
 obtain ⟨ao, ca, rfl, q1, q2, q3⟩ := t1
 obtain ⟨N, hN⟩ : ∃ N, Hid (L.length = N) := ⟨_, rfl⟩
 rw [hN.out] at q1 ⊢
 replace q3 := hide q3
 go_wp2_with fail
 go_loopw [5, 7] (fun v5 i wr => ∃ k x : Nat, i = .int .i64 k ∧ k ≤ N ∧ v5 = .int .i64 x ∧ x ≤ 1099511627776 ∧ Hid (x = prodT (L.take k)) ∧ Hid (Below w1.heap.size w1 wr)) (fun _ i _ => N - (intOf i).toNat)
 case atStart => exact ⟨0, 1, rfl, Nat.zero_le _, rfl, by omega, rfl, Below.refl _ _⟩
 case round =>
  obtain ⟨k, x, rfl, hk, rfl, hx, ex, hB⟩ := hrel
  by_cases hlt : k < N
  ·have i1 : (k : Int) < (N : Int) := by omega
   have hkl : k < L.length := by rw [hN.out]; exact hlt
   obtain ⟨gb, off, rfl, c0, c1⟩ := q3.out k hkl
   rw [← hB.out.cell (p := ⟨gb, off + k * 2, none⟩) (lt_of_cell c0)] at c0
   rw [← hB.out.cell (p := ⟨gb, off + k * 2 + 1, none⟩) (lt_of_cell c1)] at c1
   have hn := hs.out L[k] (List.getElem_mem hkl)
   have ey : Hid (prodT (L.take (k + 1)) = x * (L[k].2 + 1)) := by show _ = _; rw [List.take_succ_eq_append_getElem hkl, prodT_snoc, ex.out]
   have ez : Hid (prodT (L.take (k + 1)) ≤ prodT L) := prodT_take _ _
   obtain ⟨y, ey2⟩ : ∃ y, Hid (y = prodT (L.take (k + 1))) := ⟨_, rfl⟩
   rw [← ey2.out] at ey ez
   generalize L[k].2 = m at *
   generalize bsOf L[k].1 = s at *
   obtain ⟨Q, hQ⟩ : ∃ Q, Hid (Q = M40 / (m + 1)) := ⟨_, rfl⟩
   have t1 : (1099511627776 : Int).tdiv ((m : Int) + 1) = (Q : Int) := by
    rw [Int.tdiv_eq_ediv_of_nonneg (by omega), hQ.out]
    exact (Int.natCast_ediv 1099511627776 (m + 1)).symm
   have t2 : Q ≤ 1099511627776 := by rw [hQ.out]; exact Nat.div_le_self _ _
   have t3 := over_iff x (m + 1) (by omega)
   rw [← hQ.out, ← ey.out] at t3
   by_cases ho : y ≤ 1099511627776
   ·have t4 : ¬ ((x : Int) > (Q : Int)) := by unfold M40 at t3; omega
    have t5 : (x : Int) * ((m : Int) + 1) = (y : Int) := by rw [ey.out]; norm_cast
    clear t3
    have t6 : (y : Int) ≤ 9223372036854775807 := by omega
    replace ho := hide ho
    replace hx := hide hx
    go_wp2_with fail
    go_roundw
    case rel => exact ⟨k + 1, y, by go_num, by omega, rfl, ho.out, ey2, hB⟩
    case measure => simp [intOf]; omega
   ·have t4 : (x : Int) > (Q : Int) := by unfold M40 at t3; omega
    clear t3
    go_wp2_with fail
    go_ret
    refine ⟨?_, bs2 b1.out hB.out⟩
    rw [← hX.out, capT, if_neg (by have := ez.out; unfold M40; omega)]
    rfl
  ·obtain rfl : k = N := by omega
   have i1 : ¬ ((k : Int) < (k : Int)) := by omega
   rw [List.take_of_length_le (by rw [hN.out]; omega)] at ex
   go_wp2_with fail
   go_ret
   refine ⟨?_, bs2 b1.out hB.out⟩
   rw [← hX.out, capT, ← ex.out, if_pos (by unfold M40; exact hx)]
   rfl
theorem sum_cap {S : DS} {k : Nat} (h : (S.cnts k).sum ≤ M40) : capT (S.tails (k : Int)) + (S.cnts k).sum ≤ M40 ↔ (S.cnts (k + 1)).sum ≤ M40 := by
 rw [cnts_sum]
 unfold capT
 split <;> constructor <;> intro <;> omega
theorem cap_eq {S : DS} {k : Nat} (h : (S.cnts (k + 1)).sum ≤ M40) : capT (S.tails (k : Int)) = prodT (S.tails (k : Int)) := by
 rw [cnts_sum] at h
 unfold capT
 rw [if_pos (by omega)]
theorem RM.pend {w : World} {b : Nat} {R : RB} {V : RV} (h : RM w b R V) : ∃ pa pc, w.cell? ⟨b, 4, none⟩ = some (.slice pa R.pe.length pc) ∧ R.pe.length ≤ pc ∧ pc ≤ 9223372036854775807 := by
 have hp := h.pp
 have : ∃ pa pc, V.vP = .slice pa R.pe.length pc ∧ R.pe.length ≤ pc ∧ pc ≤ 9223372036854775807 := by
  rcases hp.2 with ⟨e, hz⟩ | ⟨g, cap, cur, e, hB, hc, h1, h2, h3, h4⟩
  ·exact ⟨none, 0, by rw [hz]; exact e, by omega, by omega⟩
  ·exact ⟨some ⟨g, 0, none⟩, cap, e, h1, by unfold maxLen at h2; omega⟩
 obtain ⟨pa, pc, e, a, b'⟩ := this
 refine ⟨pa, pc, ?_, a, b'⟩
 rw [← e]
 simp [World.cell?, h.box, RB.cs]
theorem rWays_any {w : World} {rb : Nat} {S : DS} {R : RB} {V : RV} (h : Rf w rb S R V) :
    Calls Tryz.prog 32 #[.pointer (some ⟨rb, 0, none⟩)] w fun e w' => e = .returned (.tuple #[.int .i64 S.cnt.2.1, .int .i64 S.cnt.2.2]) ∧ Below w.heap.size w w' := by
 obtain ⟨X, hX⟩ : ∃ X, Hid (S.cnt = X) := ⟨_, rfl⟩
 rw [hX.out]
 have hf := h.few
 replace h := hide h
 obtain ⟨N, hN⟩ : ∃ N, Hid (S.P.length = N) := ⟨_, rfl⟩
 have hPe : Hid (R.pe.length = N) := by show _ = _; rw [← hN.out, hf.2.2]
 have hP2 : (N : Int) ≤ 100000 := by have := hN.out; omega
 clear hf
 go_enter Tryz.func32, Tryz.ntmps32
 go_wp2_with fail
 go_loopw [4, 5] (fun v4 i wr => ∃ k x : Nat, i = .int .i64 k ∧ k ≤ N + 1 ∧ v4 = .int .i64 x ∧ x ≤ 1099511627776 ∧ Hid (x = (S.cnts k).sum) ∧ Hid (Below w.heap.size w wr)) (fun _ i _ => N + 1 - (intOf i).toNat)
 case atStart => exact ⟨0, 0, rfl, Nat.zero_le _, rfl, by omega, rfl, Below.refl _ _⟩
 case round =>
  obtain ⟨k, x, rfl, hk, rfl, hx, ex, hB⟩ := hrel
  have hR := hide (h.out.below hB.out)
  obtain ⟨pa, pc, p0, p1, p2⟩ := hR.out.rm.pend
  rw [hPe.out] at p0 p1
  by_cases hlt : k < N + 1
  ·have i1 : (k : Int) ≤ (N : Int) := by omega
   have hW := rways_any hR.out (k : Int)
   have s1 : Hid (capT (S.tails (k : Int)) + x ≤ M40 ↔ (S.cnts (k + 1)).sum ≤ M40) := by show _ ↔ _; rw [ex.out]; exact sum_cap (by rw [← ex.out]; unfold M40; exact hx)
   have s2 : Hid ((S.cnts (k + 1)).sum ≤ M40 → (S.cnts (k + 1)).sum = x + capT (S.tails (k : Int))) := fun c => by rw [cap_eq c, cnts_sum, ex.out]
   have s3 : Hid ((S.cnts (k + 1)).sum ≤ S.ways) := cnts_mono S (by rw [hN.out]; omega)
   have s4 := capT_le (S.tails (k : Int))
   obtain ⟨y, hy⟩ : ∃ y, Hid (capT (S.tails (k : Int)) = y) := ⟨_, rfl⟩
   rw [hy.out] at hW s1 s2 s4
   by_cases ho : x + y ≤ 1099511627776
   ·have t1 : ¬ ((x : Int) + (y : Int) > 1099511627776) := by omega
    go_wp2_with (first
     | (go_at_call 87; refine hW.mono ?_; rintro e w2 ⟨rfl, b2⟩; replace b2 := hide b2)
     | fail)
    go_roundw
    case rel => exact ⟨k + 1, x + y, by go_num, by omega, by go_num, ho, (s2.out (s1.out.1 (by unfold M40; omega))).symm, bs2 hB.out b2.out⟩
    case measure => simp [intOf]; omega
   ·have t1 : (x : Int) + (y : Int) > 1099511627776 := by omega
    go_wp2_with (first
     | (go_at_call 87; refine hW.mono ?_; rintro e w2 ⟨rfl, b2⟩; replace b2 := hide b2)
     | fail)
    go_ret2
    refine ⟨?_, bs2 hB.out b2.out⟩
    have : ¬ S.ways ≤ M40 := fun c => by
     have q1 := s3.out
     have q2 := s1.out.2 (by omega)
     unfold M40 at q2
     omega
    rw [← hX.out, DS.cnt, if_neg this]
    rfl
  ·obtain rfl : k = N + 1 := by omega
   have i1 : ¬ (((N + 1 : Nat) : Int) ≤ (N : Int)) := by omega
   have e1 : x = S.ways := by rw [ex.out, ← hN.out]; rfl
   go_wp2_with fail
   go_ret2
   refine ⟨?_, hB.out⟩
   rw [← hX.out, DS.cnt, ← e1, if_pos (by unfold M40; exact hx)]
   rfl
end Go.Proofs.YtjehpijjneghpaaGreat.Re
