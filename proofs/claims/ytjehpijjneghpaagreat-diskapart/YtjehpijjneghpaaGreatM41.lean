/-
  Plays: Crash.
-/
import Derived.Test.YtjehpijjneghpaaGreatM35
import Derived.Test.YtjehpijjneghpaaGreatM36
import Derived.Test.YtjehpijjneghpaaGreatM40
import Derived.Test.YtjehpijjneghpaaGreatM31
import Derived.Test.YtjehpijjneghpaaGreatM33
import Derived.Test.YtjehpijjneghpaaGreatM38
import Derived.Test.YtjehpijjneghpaaGreatM39
namespace Go.Proofs.YtjehpijjneghpaaGreat.Re
open Go.RowKit Go.Maps Go.Sort Go.Shelf Go.Proofs.YtjehpijjneghpaaGreat.Nm Go.Proofs.YtjehpijjneghpaaGreat.Dk
open Ix (wp_region_T wpAnyT wpAnyT_take wpAnyT_one wpAnyT_done vac)
set_option linter.unusedVariables false
variable {W0 w : World} {pb b : Nat} {S : DS} {R : RB} {Q : Nat → Prop}
theorem LF.glt {B : Nat} {w : World} {v : Value} {ks : List Kep} {vs : List Value} {gs : List Nat} (h : LF B w v ks vs gs) : ∀ x ∈ gs, B ≤ x ∧ x < w.heap.size := fun x hx => by
  refine ⟨h.lo x hx, ?_⟩
  obtain ⟨i, hi, rfl⟩ := List.getElem_of_mem hx
  have h1 : i < ks.length := by rw [← h.len2]; exact hi
  exact (h.at_ i ks[i] (vs[i]'(by rw [h.len]; exact h1)) gs[i] (List.getElem?_eq_getElem h1) (List.getElem?_eq_getElem _) (List.getElem?_eq_getElem hi)).lt
theorem add_zero (g j : Nat) : (⟨g, 0, none⟩ : Addr).add j = ⟨g, j, none⟩ := by
  cases j with
  | zero => rfl
  | succ j => simp [Addr.add]
theorem LF.nth {B : Nat} {w : World} {v : Value} {ks : List Kep} {vs : List Value} {gs : List Nat} (h : LF B w v ks vs gs) (i : Nat) (hi : i < ks.length) : ∃ lb cap u g, v = .slice (some ⟨lb, 0, none⟩) ks.length cap ∧ ks.length ≤ cap ∧ cap ≤ maxLen ∧ B ≤ lb ∧ lb < w.heap.size ∧ w.cell? ⟨lb, i * 2, none⟩ = some (.int .i64 ks[i].1) ∧ w.cell? ⟨lb, i * 2 + 1, none⟩ = some u ∧ gs[i]? = some g ∧ LentAt w g u ks[i].2 ∧ (∀ g ∈ gs, g ≠ lb) := by
  have hv : i < vs.length := by rw [h.len]; exact hi
  have hg : i < gs.length := by rw [h.len2]; exact hi
  have q := kcs_at ks vs h.len i ks[i] vs[i] (List.getElem?_eq_getElem hi) (List.getElem?_eq_getElem hv)
  have hL := h.at_ i _ _ _ (List.getElem?_eq_getElem hi) (List.getElem?_eq_getElem hv) (List.getElem?_eq_getElem hg)
  rcases id h.row with ⟨h0, ⟨e, hz⟩ | ⟨g, cap, cur, e, hB, hc, h1, h2, h3, h4⟩⟩
  · omega
  · have ce := World.ownsRow.cells h.row (g := g) (by rw [e]; rfl)
    have c1 := ce _ _ q.1
    have c2 := ce _ _ q.2
    refine ⟨g, cap, vs[i], gs[i], e, h1, h2, hB, heap_lt hc, ?_, ?_, List.getElem?_eq_getElem hg, hL, fun x hx c => h.no x hx (by rw [e, c]; rfl)⟩
    · rw [← add_zero g (i * 2)]; exact c1
    · rw [← add_zero g (i * 2 + 1)]; exact c2
theorem LF.kp {B : Nat} {w : World} {v : Value} {ks : List Kep} {vs : List Value} {gs : List Nat} (h : LF B w v ks vs gs) (hn : ∀ k ∈ ks, -9223372036854775808 ≤ k.1 ∧ k.1 ≤ 9223372036854775807) : Kp (fun k => B ≤ k ∧ k < w.heap.size) w v ks := by
  rcases id h.row with ⟨h0, ⟨e, hz⟩ | ⟨g, cap, cur, e, hB, hc, h1, h2, h3, h4⟩⟩
  · exact ⟨none, 0, by rw [hz]; exact e, by omega, Nat.zero_le _, fun i hi => by omega⟩
  · refine ⟨some ⟨g, 0, none⟩, cap, e, h1, h2, fun i hi => ?_⟩
    obtain ⟨lb, cap2, u, g2, e2, _, _, b1, b2, c1, c2, hg, hL, _⟩ := h.nth i hi
    rw [e] at e2
    simp only [Value.slice.injEq, Option.some.injEq, Addr.mk.injEq] at e2
    obtain ⟨⟨rfl, _, _⟩, _, rfl⟩ := e2
    refine ⟨g, 0, u, rfl, ⟨b1, b2⟩, by rw [Nat.zero_add]; exact c1, by rw [Nat.zero_add]; exact c2, hL.sl, fun b off n c e3 _ => ?_, hn _ (List.getElem_mem hi)⟩
    obtain ⟨cap3, e4, _⟩ := hL
    rw [e3] at e4
    simp only [Value.slice.injEq, Option.some.injEq, Addr.mk.injEq] at e4
    obtain ⟨⟨rfl, _, _⟩, _, _⟩ := e4
    exact h.glt _ (List.mem_of_getElem? hg)
theorem kp_ints {Z : Nat → Prop} {w : World} {v : Value} {ks : List Kep} (h : Kp Z w v ks) : ∀ k ∈ ks, -9223372036854775808 ≤ k.1 ∧ k.1 ≤ 9223372036854775807 := fun k hk => by
  obtain ⟨i, hi, rfl⟩ := List.getElem_of_mem hk
  obtain ⟨ao, cap, e, h1, h2, h3⟩ := h
  obtain ⟨b, off, vj, _, _, _, _, _, _, n0, n1⟩ := h3 i hi
  exact ⟨n0, n1⟩
structure By (pb ob b rb : Nat) (o : Dop) (fb : Nat) (d : Int) (v : Value) (q : World) : Prop where
  p : q.heap[pb]? = some (.cells #[.pointer (some ⟨b, 0, none⟩), .pointer (some ⟨rb, 0, none⟩)] 29 (0, 0))
  o : q.heap[ob]? = some (.cells #[.int .i64 o.kind, .bool o.sec, .string o.nm, .string o.tn, o.vd, .int .i64 o.off, .int .i64 o.n, o.vf, .int .i64 o.dir, o.vk] 36 (0, 0))
  f : q.heap[fb]? = some (.cells #[.int .i64 d, v] 34 (0, 0))
theorem By.go {pb ob b rb : Nat} {o : Dop} {fb : Nat} {d : Int} {v : Value} {q q' : World} {X : Nat → Prop} (h : By pb ob b rb o fb d v q) (hb : But X q q') (h1 : ¬ X pb) (h2 : ¬ X ob) (h3 : ¬ X fb) : By pb ob b rb o fb d v q' := ⟨hb.at h.p h1, hb.at h.o h2, hb.at h.f h3⟩
structure Bz (ob : Nat) (o : Dop) (fb : Nat) (d : Int) (v : Value) (lb lo : Nat) (u : Value) (kb ko : Nat) (y : Value) (q : World) : Prop where
  o : q.heap[ob]? = some (.cells #[.int .i64 o.kind, .bool o.sec, .string o.nm, .string o.tn, o.vd, .int .i64 o.off, .int .i64 o.n, o.vf, .int .i64 o.dir, o.vk] 36 (0, 0))
  f : q.heap[fb]? = some (.cells #[.int .i64 d, v] 34 (0, 0))
  n : q.cell? ⟨lb, lo, none⟩ = some u
  j : q.cell? ⟨kb, ko, none⟩ = some y
theorem Bz.go {ob : Nat} {o : Dop} {fb : Nat} {d : Int} {v : Value} {lb lo : Nat} {u : Value} {kb ko : Nat} {y : Value} {q q' : World} {X : Nat → Prop} (h : Bz ob o fb d v lb lo u kb ko y q) (hb : But X q q') (h1 : ¬ X ob) (h2 : ¬ X fb) (h3 : ¬ X lb) (h4 : ¬ X kb) : Bz ob o fb d v lb lo u kb ko y q' := ⟨hb.at h.o h1, hb.at h.f h2, cell_but h.n hb h3, cell_but h.j hb h4⟩
set_option maxRecDepth 100000 in
set_option maxHeartbeats 2000000 in
theorem pl_crash (o : Dop) (hk : o.kind = 10) (h : PlI W0 w pb b S R o Q) : Calls Tryz.prog 11 #[.pointer (some ⟨pb, 0, none⟩), opV o] w (PlP w pb b S R o Q) := by
  obtain ⟨rb, O, V, hx, hQ⟩ := h.pw
  have hI := hide h
  have HX := hide hx
  have hlt := hide hx.lt
  have hpR : Hid (R.play o = R.crash o.dir o.ks) := by show _ = _; unfold RB.play; simp [hk]
  have hpS : Hid (DS.play S o (S.crash o.dir o.ks)) := by show DS.play _ _ _; unfold DS.play; simp [hk]
  have hKi := hide (kp_ints h.ok.ks)
  have hA : Hid (∀ q v, PX q pb b rb S R O V → Kp (fun k => w.heap.size ≤ k ∧ k < q.heap.size) q v o.ks → Calls Tryz.prog 18 #[.pointer (some ⟨b, 0, none⟩), .agg #[.int .i64 o.dir, v]] q fun e w' => ∃ O', e = .returned (.tuple #[]) ∧ PX w' pb b rb (S.crash o.dir o.ks) R O' V ∧ Sgo q w' (own pb O rb V) (own pb O' rb V)) := fun q v hq hK => by
    refine (crash_dsk hq.d (by have := hI.out.cs; omega) o.dir hI.out.ok.dir.1 hI.out.ok.dir.2 v _ o.ks hK (fun k hk => ⟨fun c => by have := hlt.out k (.inr (.inl c)); omega, hk.2⟩)).mono ?_
    rintro e w' ⟨rfl, O', hd, hg⟩
    obtain ⟨px, gx⟩ := hq.stepA hd hg
    exact ⟨_, rfl, px, gx⟩
  have hlo : Hid (∀ k, own pb O rb V k → W0.heap.size ≤ k) := fun k hk => h.lo k (by rw [hQ]; exact hk)
  have hB : Hid (∀ q S' O', PX q pb b rb S' R O' V → W0.heap.size ≤ q.heap.size → Kp (fun k => k < W0.heap.size) q o.vk o.ks → Calls Tryz.prog 38 #[.pointer (some ⟨rb, 0, none⟩), .agg #[.int .i64 o.dir, o.vk]] q fun e w' => ∃ V', e = .returned (.tuple #[]) ∧ PX w' pb b rb S' (R.crash o.dir o.ks) O' V' ∧ Sgo q w' (own pb O' rb V) (own pb O' rb V')) := fun q S' O' hq hz hK => by
    refine (crash_rm hq.r (by have := hI.out.ri.cnt; have := hI.out.cr; omega) (hI.out.ri.pf (by have := hI.out.cr; omega)) o.dir (hI.out.ri.front _) hI.out.ri.la o.vk _ o.ks hK (fun k hk => ⟨fun x c => by have := hlo.out k (.inr (.inr ⟨x, c⟩)); omega, by omega⟩)).mono ?_
    rintro e w' ⟨rfl, hg⟩
    obtain ⟨V', px, gx⟩ := hq.stepB hg
    exact ⟨V', rfl, px, gx⟩
  obtain ⟨ok, os, on, ot, ov, oD, oo, onn, of, ofs, od, ovk, oks⟩ := o
  dsimp only at *
  subst hk
  have hk0 : Kp (fun k => k < W0.heap.size) W0 ovk oks := h.ok.ks
  obtain ⟨ka, kc, rfl, k1, k2, k3⟩ := hk0
  have k2' : kc ≤ 9223372036854775807 := by unfold maxLen at k2; omega
  replace k3 := hide k3
  clear k2
  have BF := hide (box_below w (.cells #[.int .i64 10, .bool os, .string on, .string ot, ov, .int .i64 oo, .int .i64 onn, of, .int .i64 od, .slice ka oks.length kc] 36))
  have NF := heap_alloc_new w (.cells #[.int .i64 10, .bool os, .string on, .string ot, ov, .int .i64 oo, .int .i64 onn, of, .int .i64 od, .slice ka oks.length kc] 36)
  clear hx h
  unfold opV
  go_enter Tryz.func11, Tryz.ntmps11
  obtain ⟨wf, hwf⟩ : ∃ wf, Hid (w.alloc (.cells #[.int .i64 10, .bool os, .string on, .string ot, ov, .int .i64 oo, .int .i64 onn, of, .int .i64 od, .slice ka oks.length kc] 36) = wf) := ⟨_, rfl⟩
  have c0 : (w.alloc (.cells #[.int .i64 10, .bool os, .string on, .string ot, ov, .int .i64 oo, .int .i64 onn, of, .int .i64 od, .slice ka oks.length kc] 36)).cell? ⟨w.heap.size, 0, none⟩ = some (.int .i64 10) := (ten_cells NF).1
  have c4 : (w.alloc (.cells #[.int .i64 10, .bool os, .string on, .string ot, ov, .int .i64 oo, .int .i64 onn, of, .int .i64 od, .slice ka oks.length kc] 36)).cell? ⟨w.heap.size, 4, none⟩ = some (ov) := (ten_cells NF).2.2.2.2.1
  have c7 : (w.alloc (.cells #[.int .i64 10, .bool os, .string on, .string ot, ov, .int .i64 oo, .int .i64 onn, of, .int .i64 od, .slice ka oks.length kc] 36)).cell? ⟨w.heap.size, 7, none⟩ = some (of) := (ten_cells NF).2.2.2.2.2.2.2.1
  have c8 : (w.alloc (.cells #[.int .i64 10, .bool os, .string on, .string ot, ov, .int .i64 oo, .int .i64 onn, of, .int .i64 od, .slice ka oks.length kc] 36)).cell? ⟨w.heap.size, 8, none⟩ = some (.int .i64 od) := (ten_cells NF).2.2.2.2.2.2.2.2.1
  have c9 : (w.alloc (.cells #[.int .i64 10, .bool os, .string on, .string ot, ov, .int .i64 oo, .int .i64 onn, of, .int .i64 od, .slice ka oks.length kc] 36)).cell? ⟨w.heap.size, 9, none⟩ = some (.slice ka oks.length kc) := (ten_cells NF).2.2.2.2.2.2.2.2.2
  have MX0 := hide (HX.out.below BF.out)
  have hsz : (w.alloc (.cells #[.int .i64 10, .bool os, .string on, .string ot, ov, .int .i64 oo, .int .i64 onn, of, .int .i64 od, .slice ka oks.length kc] 36)).heap.size = w.heap.size + 1 := by simp
  rw [hwf.out] at BF NF c0 c4 c7 MX0 c8 c9 hsz
  have hwf2 := hwf.out
  clear c4 c7
  have WF := hide (hI.out.bel.trans (BF.out.mono hI.out.bel.size))
  have KF : Hid (Kp (fun k => k < wf.heap.size) wf (.slice ka oks.length kc) oks) := kp_mono (hI.out.ok.ks.but (But.of_below (WF.out) fun _ => False) (fun _ _ c => c)) (fun k hk => by have := WF.out.size; omega)
  go_upto_region 32 with (go_at_call 61; refine (lent_fate wf od _ oks KF.out hI.out.ok.ksn hI.out.ok.ksl).mono ?_; rintro e w1 ⟨v, vs, gs, rfl, L1, B1⟩; obtain ⟨ca, cn, cc, rfl⟩ : ∃ ca cn cc, v = .slice ca cn cc := (by rcases L1.row.2 with ⟨e, _⟩ | ⟨g, cap, cur, e, _⟩ <;> exact ⟨_, _, _, e⟩); replace L1 := hide L1; replace B1 := hide B1)
  clear c0 c8 c9 hwf2
  have B2 := hide (box_below w1 (.cells #[.int .i64 od, .slice ca cn cc] 34))
  have N2 := heap_alloc_new w1 (.cells #[.int .i64 od, .slice ca cn cc] 34)
  have hz2 : (w1.alloc (.cells #[.int .i64 od, .slice ca cn cc] 34)).heap.size = w1.heap.size + 1 := by simp
  generalize hw2 : w1.alloc (.cells #[.int .i64 od, .slice ca cn cc] 34) = w2 at *
  generalize hfb : w1.heap.size = fb at *
  have b1z := B1.out.size
  rw [hfb] at b1z
  have W2 := hide (BF.out.trans ((B1.out.trans (B2.out.mono b1z)).mono BF.out.size))
  have P2 := hide (HX.out.below W2.out)
  have K2 : Hid (By pb w.heap.size b rb ⟨10, os, on, ot, ov, oD, oo, onn, of, ofs, od, .slice ka oks.length kc, oks⟩ fb od (.slice ca cn cc) w2) := ⟨P2.out.box, ((B1.out.trans (B2.out.mono b1z)).block _ (heap_lt NF)).trans NF, N2⟩
  have hfz : Hid (w.heap.size + 1 ≤ fb) := by show _ ≤ _; omega
  have hob : Hid (¬ own pb O rb V w.heap.size) := fun c => Nat.lt_irrefl _ (hlt.out _ c)
  have hof : Hid (¬ own pb O rb V fb) := fun c => by have q1 := hlt.out _ c; have q2 := hfz.out; omega
  have L2 := hide (L1.out.below (by rw [hfb]; exact B2.out))
  have gl1 : Hid (∀ x ∈ gs, wf.heap.size ≤ x ∧ x < fb) := fun x hx => by have := L1.out.glt x hx; rw [hfb] at this; exact this
  have GQ : Hid (Below w.heap.size w w2.drew) := W2.out.drew
  have KP : Hid (By pb w.heap.size b rb ⟨10, os, on, ot, ov, oD, oo, onn, of, ofs, od, .slice ka oks.length kc, oks⟩ fb od (.slice ca cn cc) w2.drew) := K2.out.go (But.of_below (Below.refl _ _).drew fun _ => False) (fun c => c) (fun c => c) (fun c => c)
  have PQ : Hid (PX w2.drew pb b rb S R O V) := P2.out.below (Below.refl _ _).drew
  have LQ := hide (L2.out.below (Below.refl _ _).drew)
  have hz3 : Hid (w2.drew.heap.size = fb + 1) := hz2
  have hsz2 : Hid (wf.heap.size = w.heap.size + 1) := hsz
  clear N2 NF hw2 hfb b1z hz2 hsz B2
  refine wp_region_T (fun q => By pb w.heap.size b rb ⟨10, os, on, ot, ov, oD, oo, onn, of, ofs, od, .slice ka oks.length kc, oks⟩ fb od (.slice ca cn cc) q) 5 (by kernel_rfl) ?_
  generalize w2.drew = q at *
  refine Ix.tk 0 ⟨some 267, .move (.tmp 0), 37, "law.go:141", #[], none⟩ (.pointer (some ⟨pb, 0, none⟩)) [1,2,3,5] ?_ KP.out ?_
  · intro wq hSw; go_simp
  (try simp only [zzp, zza, zzb, zzc])
  refine Ix.tk 1 ⟨some 268, .nilCheck (.tmp 267), 0, "law.go:141", #[⟨0,.data⟩], none⟩ (.pointer (some ⟨pb, 0, none⟩)) [2,3,5] ?_ KP.out ?_
  · intro wq hSw; go_simp
  (try simp only [zzp, zza, zzb, zzc])
  refine Ix.tk 2 ⟨some 269, .fieldAddr 29 (.tmp 268) 0, 0, "law.go:141", #[⟨1,.data⟩], none⟩ (.pointer (some ⟨pb, 0, none⟩)) [3,5] ?_ KP.out ?_
  · intro wq hSw; go_simp
  (try simp only [zzp, zza, zzb, zzc])
  refine Ix.tk 3 ⟨some 270, .load 24 (.tmp 269), 24, "law.go:141", #[⟨2,.data⟩], none⟩ (.pointer (some ⟨b, 0, none⟩)) [5] ?_ KP.out ?_
  · intro wq hSw
    obtain ⟨x1, x2⟩ := two_cells hSw.p
    obtain ⟨y0, y1, y2, y3, y4, y5, y6, y7, y8, y9⟩ := ten_cells hSw.o
    obtain ⟨z0, z1⟩ := two_cells hSw.f
    go_simp
  (try simp only [zzp, zza, zzb, zzc])
  refine Ix.tk 4 ⟨some 271, .load 34 (.tmp 19), 34, "law.go:141", #[], none⟩ (.agg #[.int .i64 od, .slice ca cn cc]) [5] ?_ KP.out ?_
  · intro wq hSw
    obtain ⟨x1, x2⟩ := two_cells hSw.p
    obtain ⟨y0, y1, y2, y3, y4, y5, y6, y7, y8, y9⟩ := ten_cells hSw.o
    obtain ⟨z0, z1⟩ := two_cells hSw.f
    go_simp
  (try simp only [zzp, zza, zzb, zzc])
  have LK : Hid (Kp (fun k => w.heap.size ≤ k ∧ k < q.heap.size) q (.slice ca cn cc) oks) := kp_mono (LQ.out.kp hKi.out) (fun k hk => ⟨by have := hsz2.out; omega, hk.2⟩)
  refine wpAnyT_one (i := 5) (o := ⟨some 272, .call { callee := .value (.func 18), args := #[.tmp 270, .tmp 271], argTypes := #[24, 34] }, 0, "law.go:141", #[⟨3, .data⟩, ⟨4, .data⟩], none⟩) (by kernel_rfl) rfl (fun K hK => ?_)
  go_simp
  go_at_call 18
  refine (hA.out q _ PQ.out LK.out).mono ?_
  rintro e w3 ⟨O3, rfl, P3, G3⟩
  replace P3 := hide P3
  replace G3 := hide G3
  (try go_simp)
  refine hK.out _ _ (vac (by kernel_rfl)) ?_
  clear hK K
  (try simp only [zzp, zza, zzb, zzc])
  refine wpAnyT_done (by kernel_rfl) ?_ _
  have K3 : Hid (By pb w.heap.size b rb ⟨10, os, on, ot, ov, oD, oo, onn, of, ofs, od, .slice ka oks.length kc, oks⟩ fb od (.slice ca cn cc) w3) := ⟨P3.out.box, G3.out.but.at KP.out.o hob.out, G3.out.but.at KP.out.f hof.out⟩
  have W0q : Hid (Below W0.heap.size W0 q) := hI.out.bel.trans (GQ.out.mono hI.out.bel.size)
  have W03 : Hid (Below W0.heap.size W0 w3) := W0q.out.trans (G3.out.but.below W0q.out.size hlo.out)
  go_upto_region 33 with fail
  have K3q : Hid (By pb w.heap.size b rb ⟨10, os, on, ot, ov, oD, oo, onn, of, ofs, od, .slice ka oks.length kc, oks⟩ fb od (.slice ca cn cc) w3.drew) := K3.out.go (But.of_below (Below.refl _ _).drew fun _ => False) (fun c => c) (fun c => c) (fun c => c)
  have P3q : Hid (PX w3.drew pb b rb (S.crash od oks) R O3 V) := P3.out.below (Below.refl _ _).drew
  have G3q : Hid (Sgo q w3.drew (own pb O rb V) (own pb O3 rb V)) := G3.out.trans (Sgo.of_below (Below.refl _ _).drew)
  have W03q : Hid (Below W0.heap.size W0 w3.drew) := W03.out.drew
  refine wp_region_T (fun q => By pb w.heap.size b rb ⟨10, os, on, ot, ov, oD, oo, onn, of, ofs, od, .slice ka oks.length kc, oks⟩ fb od (.slice ca cn cc) q) 6 (by kernel_rfl) ?_
  generalize w3.drew = q3 at *
  refine Ix.tk 0 ⟨some 273, .move (.tmp 0), 37, "law.go:142", #[], none⟩ (.pointer (some ⟨pb, 0, none⟩)) [1,2,3,6] ?_ K3q.out ?_
  · intro wq hSw; go_simp
  (try simp only [zzp, zza, zzb, zzc])
  refine Ix.tk 1 ⟨some 274, .nilCheck (.tmp 273), 0, "law.go:142", #[⟨0,.data⟩], none⟩ (.pointer (some ⟨pb, 0, none⟩)) [2,3,6] ?_ K3q.out ?_
  · intro wq hSw; go_simp
  (try simp only [zzp, zza, zzb, zzc])
  refine Ix.tk 2 ⟨some 275, .fieldAddr 29 (.tmp 274) 1, 0, "law.go:142", #[⟨1,.data⟩], none⟩ (.pointer (some ⟨pb, 1, none⟩)) [3,6] ?_ K3q.out ?_
  · intro wq hSw; go_simp
  (try simp only [zzp, zza, zzb, zzc])
  refine Ix.tk 3 ⟨some 276, .load 26 (.tmp 275), 26, "law.go:142", #[⟨2,.data⟩], none⟩ (.pointer (some ⟨rb, 0, none⟩)) [6] ?_ K3q.out ?_
  · intro wq hSw
    obtain ⟨x1, x2⟩ := two_cells hSw.p
    obtain ⟨y0, y1, y2, y3, y4, y5, y6, y7, y8, y9⟩ := ten_cells hSw.o
    obtain ⟨z0, z1⟩ := two_cells hSw.f
    go_simp
  (try simp only [zzp, zza, zzb, zzc])
  refine Ix.tk 4 ⟨some 277, .fieldAddr 36 (.tmp 3) 8, 0, "law.go:142", #[], none⟩ (.pointer (some ⟨w.heap.size, 8, none⟩)) [5,6] ?_ K3q.out ?_
  · intro wq hSw; go_simp
  (try simp only [zzp, zza, zzb, zzc])
  refine Ix.tk 5 ⟨some 278, .load 34 (.tmp 277), 34, "law.go:142", #[⟨4,.data⟩], none⟩ (.agg #[.int .i64 od, .slice ka oks.length kc]) [6] ?_ K3q.out ?_
  · intro wq hSw
    obtain ⟨x1, x2⟩ := two_cells hSw.p
    obtain ⟨y0, y1, y2, y3, y4, y5, y6, y7, y8, y9⟩ := ten_cells hSw.o
    obtain ⟨z0, z1⟩ := two_cells hSw.f
    go_simp
  (try simp only [zzp, zza, zzb, zzc])
  have KO : Hid (Kp (fun k => k < W0.heap.size) q3 (.slice ka oks.length kc) oks) := Kp.but hI.out.ok.ks (But.of_below W03q.out fun _ => False) (fun _ _ c => c)
  refine wpAnyT_one (i := 6) (o := ⟨some 279, .call { callee := .value (.func 38), args := #[.tmp 276, .tmp 278], argTypes := #[26, 34] }, 0, "law.go:142", #[⟨3, .data⟩, ⟨5, .data⟩], none⟩) (by kernel_rfl) rfl (fun K hK => ?_)
  go_simp
  go_at_call 38
  refine (hB.out q3 _ _ P3q.out W03q.out.size KO.out).mono ?_
  rintro e w4 ⟨V4, rfl, P4, G4⟩
  replace P4 := hide P4
  replace G4 := hide G4
  (try go_simp)
  refine hK.out _ _ (vac (by kernel_rfl)) ?_
  clear hK K
  (try simp only [zzp, zza, zzb, zzc])
  refine wpAnyT_done (by kernel_rfl) ?_ _
  have G34 := hide (G3q.out.trans G4.out)
  have K4 : Hid (By pb w.heap.size b rb ⟨10, os, on, ot, ov, oD, oo, onn, of, ofs, od, .slice ka oks.length kc, oks⟩ fb od (.slice ca cn cc) w4) := ⟨P4.out.box, G34.out.but.at KP.out.o hob.out, G34.out.but.at KP.out.f hof.out⟩
  have L4 : Hid (LF wf.heap.size w4 (.slice ca cn cc) oks vs gs) := LQ.out.but G34.out.but (fun k h1 _ c => by have q1 := hlt.out _ c; have q2 := hsz2.out; omega)
  have W04 : Hid (Below W0.heap.size W0 w4) := W0q.out.trans (G34.out.but.below W0q.out.size hlo.out)
  have hlw : Hid (W0.heap.size ≤ w.heap.size) := hI.out.bel.size
  have hpbl : Hid (pb < w.heap.size) := hlt.out _ (.inl rfl)
  go_wp2_with fail
  go_loopw [20] (fun i wr => ∃ k : Nat, i = .int .i64 k ∧ k ≤ oks.length ∧ Hid (But (fun j => ∃ i, i < k ∧ gs[i]? = some j) w4 wr)) (fun i _ => oks.length - (intOf i).toNat)
  case atStart => exact ⟨0, rfl, Nat.zero_le _, But.of_below (Below.refl _ _) _⟩
  case round =>
    obtain ⟨k, rfl, hk, hb⟩ := hrel
    have xg : Hid (∀ x, (∃ i, i < k ∧ gs[i]? = some x) → wf.heap.size ≤ x ∧ x < fb) := fun x ⟨i, _, hi⟩ => gl1.out x (List.mem_of_getElem? hi)
    have ow : wr.heap[w.heap.size]? = _ := hb.out.at K4.out.o (fun c => by have q1 := xg.out _ c; have q2 := hsz2.out; omega)
    have fw : wr.heap[fb]? = _ := hb.out.at K4.out.f (fun c => by have q1 := xg.out _ c; omega)
    obtain ⟨z0, z1⟩ := two_cells fw
    have hcl : cn = oks.length := by
      obtain ⟨la, lc, e, _⟩ := L4.out.kp hKi.out
      simp only [Value.slice.injEq] at e
      exact e.2.1
    subst hcl
    by_cases hlt2 : k < oks.length
    · have i1 : (k : Int) < (oks.length : Int) := by omega
      obtain ⟨lb, lcap, u, g, e1, lk1, lk2, lB, lz, lc0, lc1, hg, hL, hne⟩ := L4.out.nth k hlt2
      simp only [Value.slice.injEq] at e1
      obtain ⟨rfl, _, rfl⟩ := e1
      obtain ⟨kb, ko, vj, rfl, hkz, n0, n1, hsj, hsi, nb0, nb1⟩ := k3.out k hlt2
      have hjl := hI.out.ok.ksl _ (List.getElem_mem hlt2)
      generalize hkk : oks[k] = kp at *
      obtain ⟨kn, J⟩ := kp
      dsimp only at *
      have gx : ¬ ∃ i, i < k ∧ gs[i]? = some g := fun ⟨i, h1, h2⟩ => L4.out.ap i k g (by omega) h2 hg
      have glg := gl1.out g (List.mem_of_getElem? hg)
      have lbn : ¬ ∃ i, i < k ∧ gs[i]? = some lb := fun ⟨i, h1, h2⟩ => hne lb (List.mem_of_getElem? h2) rfl
      have Lw := lent_but hL hb.out gx
      have W0r : Hid (Below W0.heap.size W0 wr) := W04.out.trans (hb.out.below W04.out.size (fun x c => by have q1 := xg.out x c; have q2 := hsz2.out; have q3 := hlw.out; omega))
      have nw := cell_but n1 (But.of_below W0r.out fun _ => False) (fun c => c)
      have lw := cell_but lc1 hb.out lbn
      obtain ⟨ucap, rfl, _⟩ := id Lw
      obtain ⟨ja, jc, rfl, _, j3, j4, _⟩ := id hsj
      have SJ := hide hsj
      have LW := hide Lw
      have glh : Hid (wf.heap.size ≤ g ∧ g < fb) := glg
      have hgg : Hid (gs[k]? = some g) := hg
      have hgl : Hid (g ≠ lb) := hne g (List.mem_of_getElem? hg)
      have hkh : Hid (kb < W0.heap.size) := hkz
      have hjh : Hid (J.length ≤ 140737488351232) := hjl
      have kcx : oks.length ≤ 9223372036854775807 := by omega
      generalize hJ : J.length = jl at *
      have Z0 : Hid (Bz w.heap.size ⟨10, os, on, ot, ov, oD, oo, onn, of, ofs, od, .slice (some ⟨kb, ko, none⟩) oks.length kc, oks⟩ fb od (.slice (some ⟨lb, 0, none⟩) oks.length cc) lb (k * 2 + 1) (.slice (some ⟨g, 0, none⟩) jl ucap) kb (ko + k * 2 + 1) (.slice ja jl jc) wr) := ⟨ow, fw, lw, nw⟩
      clear ow fw nw lw hsj hsi n0 n1 nb0 nb1 lc0 lc1 hg hL Lw glg lbn gx hkz hne
      go_upto_region 37 with fail
      clear z0 z1
      have KZ : Hid (Bz w.heap.size ⟨10, os, on, ot, ov, oD, oo, onn, of, ofs, od, .slice (some ⟨kb, ko, none⟩) oks.length kc, oks⟩ fb od (.slice (some ⟨lb, 0, none⟩) oks.length cc) lb (k * 2 + 1) (.slice (some ⟨g, 0, none⟩) jl ucap) kb (ko + k * 2 + 1) (.slice ja jl jc) wr.drew) := Z0.out.go (But.of_below (Below.refl _ _).drew fun _ => False) (fun c => c) (fun c => c) (fun c => c) (fun c => c)
      have LZ : Hid (LentAt wr.drew g (.slice (some ⟨g, 0, none⟩) jl ucap) J) := LW.out.below (Below.refl _ _).drew
      have WZ : Hid (Below W0.heap.size W0 wr.drew) := W0r.out.drew
      have bZ : Hid (But (fun j => ∃ i, i < k ∧ gs[i]? = some j) w4 wr.drew) := hb.out.trans (But.of_below (Below.refl _ _).drew _)
      refine wp_region_T (fun q => Bz w.heap.size ⟨10, os, on, ot, ov, oD, oo, onn, of, ofs, od, .slice (some ⟨kb, ko, none⟩) oks.length kc, oks⟩ fb od (.slice (some ⟨lb, 0, none⟩) oks.length cc) lb (k * 2 + 1) (.slice (some ⟨g, 0, none⟩) jl ucap) kb (ko + k * 2 + 1) (.slice ja jl jc) q) 14 (by kernel_rfl) ?_
      generalize wr.drew = q5 at *
      refine Ix.tk 0 ⟨some 287, .fieldAddr 34 (.tmp 19) 1, 0, "law.go:144", #[], none⟩ (.pointer (some ⟨fb, 1, none⟩)) [1,3,4,5,13,14] ?_ KZ.out ?_
      · intro wq hSw; go_simp
      (try simp only [zzp, zza, zzb, zzc])
      refine Ix.tk 1 ⟨some 288, .load 32 (.tmp 287), 32, "law.go:144", #[⟨0,.data⟩], none⟩ (.slice (some ⟨lb, 0, none⟩) oks.length cc) [3,4,5,13,14] ?_ KZ.out ?_
      · intro wq hSw
        obtain ⟨y0, y1, y2, y3, y4, y5, y6, y7, y8, y9⟩ := ten_cells hSw.o
        obtain ⟨z0, z1⟩ := two_cells hSw.f
        have t0 := hSw.n
        have t1 := hSw.j
        go_simp
      (try simp only [zzp, zza, zzb, zzc])
      refine Ix.tk 2 ⟨some 289, .move (.tmp 20), 3, "law.go:144", #[], none⟩ (.int .i64 (k : Int)) [3,4,5,13,14] ?_ KZ.out ?_
      · intro wq hSw; go_simp
      (try simp only [zzp, zza, zzb, zzc])
      refine Ix.tk 3 ⟨some 290, .indexAddr 32 (.tmp 288) (.tmp 289), 0, "law.go:144", #[⟨1,.data⟩,⟨2,.data⟩], none⟩ (.pointer (some ⟨lb, k * 2, none⟩)) [4,5,13,14] ?_ KZ.out ?_
      · intro wq hSw
        obtain ⟨y0, y1, y2, y3, y4, y5, y6, y7, y8, y9⟩ := ten_cells hSw.o
        obtain ⟨z0, z1⟩ := two_cells hSw.f
        have t0 := hSw.n
        have t1 := hSw.j
        go_simp
      (try simp only [zzp, zza, zzb, zzc])
      refine Ix.tk 4 ⟨some 291, .fieldAddr 88 (.tmp 290) 1, 0, "law.go:144", #[⟨3,.data⟩], none⟩ (.pointer (some ⟨lb, k * 2 + 1, none⟩)) [5,13,14] ?_ KZ.out ?_
      · intro wq hSw; go_simp
      (try simp only [zzp, zza, zzb, zzc])
      refine Ix.tk 5 ⟨some 292, .load 30 (.tmp 291), 30, "law.go:144", #[⟨4,.data⟩], none⟩ (.slice (some ⟨g, 0, none⟩) jl ucap) [13,14] ?_ KZ.out ?_
      · intro wq hSw
        obtain ⟨y0, y1, y2, y3, y4, y5, y6, y7, y8, y9⟩ := ten_cells hSw.o
        obtain ⟨z0, z1⟩ := two_cells hSw.f
        have t0 := hSw.n
        have t1 := hSw.j
        go_simp
      (try simp only [zzp, zza, zzb, zzc])
      refine Ix.tk 6 ⟨some 293, .fieldAddr 36 (.tmp 3) 8, 0, "law.go:144", #[], none⟩ (.pointer (some ⟨w.heap.size, 8, none⟩)) [7,8,10,11,12,13,14] ?_ KZ.out ?_
      · intro wq hSw; go_simp
      (try simp only [zzp, zza, zzb, zzc])
      refine Ix.tk 7 ⟨some 294, .fieldAddr 34 (.tmp 293) 1, 0, "law.go:144", #[⟨6,.data⟩], none⟩ (.pointer (some ⟨w.heap.size, 9, none⟩)) [8,10,11,12,13,14] ?_ KZ.out ?_
      · intro wq hSw; go_simp
      (try simp only [zzp, zza, zzb, zzc])
      refine Ix.tk 8 ⟨some 295, .load 32 (.tmp 294), 32, "law.go:144", #[⟨7,.data⟩], none⟩ (.slice (some ⟨kb, ko, none⟩) oks.length kc) [10,11,12,13,14] ?_ KZ.out ?_
      · intro wq hSw
        obtain ⟨y0, y1, y2, y3, y4, y5, y6, y7, y8, y9⟩ := ten_cells hSw.o
        obtain ⟨z0, z1⟩ := two_cells hSw.f
        have t0 := hSw.n
        have t1 := hSw.j
        go_simp
      (try simp only [zzp, zza, zzb, zzc])
      refine Ix.tk 9 ⟨some 296, .move (.tmp 20), 3, "law.go:144", #[], none⟩ (.int .i64 (k : Int)) [10,11,12,13,14] ?_ KZ.out ?_
      · intro wq hSw; go_simp
      (try simp only [zzp, zza, zzb, zzc])
      refine Ix.tk 10 ⟨some 297, .indexAddr 32 (.tmp 295) (.tmp 296), 0, "law.go:144", #[⟨8,.data⟩,⟨9,.data⟩], none⟩ (.pointer (some ⟨kb, ko + k * 2, none⟩)) [11,12,13,14] ?_ KZ.out ?_
      · intro wq hSw
        obtain ⟨y0, y1, y2, y3, y4, y5, y6, y7, y8, y9⟩ := ten_cells hSw.o
        obtain ⟨z0, z1⟩ := two_cells hSw.f
        have t0 := hSw.n
        have t1 := hSw.j
        go_simp
      (try simp only [zzp, zza, zzb, zzc])
      refine Ix.tk 11 ⟨some 298, .fieldAddr 88 (.tmp 297) 1, 0, "law.go:144", #[⟨10,.data⟩], none⟩ (.pointer (some ⟨kb, ko + k * 2 + 1, none⟩)) [12,13,14] ?_ KZ.out ?_
      · intro wq hSw; go_simp
      (try simp only [zzp, zza, zzb, zzc])
      refine Ix.tk 12 ⟨some 299, .load 30 (.tmp 298), 30, "law.go:144", #[⟨11,.data⟩], none⟩ (.slice ja jl jc) [13,14] ?_ KZ.out ?_
      · intro wq hSw
        obtain ⟨y0, y1, y2, y3, y4, y5, y6, y7, y8, y9⟩ := ten_cells hSw.o
        obtain ⟨z0, z1⟩ := two_cells hSw.f
        have t0 := hSw.n
        have t1 := hSw.j
        go_simp
      (try simp only [zzp, zza, zzb, zzc])
      refine wpAnyT_one (i := 13) (o := ⟨some 300, .call { callee := .value (.func 47), args := #[.tmp 292, .tmp 299], argTypes := #[30, 30] }, 4, "law.go:144", #[⟨5, .data⟩, ⟨12, .data⟩], none⟩) (by kernel_rfl) rfl (fun K hK => ?_)
      go_simp
      go_at_call 47
      refine (back_any W0 q5 g _ _ J WZ.out SJ.out LZ.out (by have q1 := glh.out.1; have q2 := hsz2.out; have q3 := hlw.out; omega) (by have := hjh.out; omega)).mono ?_
      rintro e w5 ⟨rfl, g5⟩
      have b5 : Hid (But (fun j => j = g) q5 w5) := But.of_grownBy g5 fun j e => by cases e; rfl
      have K5 : Hid (Bz w.heap.size ⟨10, os, on, ot, ov, oD, oo, onn, of, ofs, od, .slice (some ⟨kb, ko, none⟩) oks.length kc, oks⟩ fb od (.slice (some ⟨lb, 0, none⟩) oks.length cc) lb (k * 2 + 1) (.slice (some ⟨g, 0, none⟩) jl ucap) kb (ko + k * 2 + 1) (.slice ja jl jc) w5) := KZ.out.go b5.out (fun e => by have q1 := glh.out; have q2 := hsz2.out; omega) (fun e => by have q1 := glh.out; omega) (fun e => hgl.out e.symm) (fun e => by have q1 := glh.out; have q2 := hsz2.out; have q3 := hlw.out; have q4 := hkh.out; omega)
      clear g5
      (try go_simp)
      refine hK.out _ _ (fun _ => K5.out) ?_
      clear hK K
      (try simp only [zzp, zza, zzb, zzc])
      refine wpAnyT_one (i := 14) (o := ⟨some 301, .unOp .not 4 (.tmp 300), 4, "law.go:144", #[⟨13, .data⟩], none⟩) (by kernel_rfl) rfl (fun K hK => ?_)
      go_simp
      refine hK.out _ _ (vac (by kernel_rfl)) ?_
      clear hK K
      (try simp only [zzp, zza, zzb, zzc])
      refine wpAnyT_done (by kernel_rfl) ?_ _
      go_wp2_with fail
      go_roundw
      case rel =>
        refine ⟨k + 1, by go_num, by omega, ?_⟩
        exact (bZ.out.mono fun j _ ⟨i, h1, h2⟩ => ⟨i, by omega, h2⟩).trans (b5.out.mono fun j _ e => ⟨k, by omega, by rw [e]; exact hgg.out⟩)
      case measure => simp [intOf]; omega
    · have i1 : ¬ ((k : Int) < (oks.length : Int)) := by omega
      have b4 : Hid (But (fun j => wf.heap.size ≤ j ∧ j < fb) w4 wr) := hb.out.mono fun j _ c => xg.out j c
      have hno : Hid (∀ j, own pb O3 rb V4 j → ¬ (wf.heap.size ≤ j ∧ j < fb)) := fun j hj c => by
        rcases G34.out.own j hj with q | q
        · have q1 := hlt.out j q; have q2 := hsz2.out; omega
        · have q1 := hz3.out; omega
      have PE := hide (P4.out.but b4.out hno.out).toPW
      have GE : Hid (Sgo w wr (own pb O rb V) (own pb O3 rb V4)) := by
        have GA : Sgo w w4 (own pb O rb V) (own pb O3 rb V4) := (Sgo.of_below GQ.out).trans G34.out
        exact ⟨but_trans_new GA.but b4.out (fun j c => .inr (by have q2 := hsz2.out; omega)), GA.own⟩
      clear ow fw
      go_wp2_with fail
      go_ret
      refine ⟨⟨true, _, _, b, rfl, by rw [hpR.out]; exact PE.out, ?_, hpS.out, fun _ => rfl, fun _ => rfl⟩⟩
      first | exact GE.out | (rw [hQ]; exact GE.out)
end Go.Proofs.YtjehpijjneghpaaGreat.Re
namespace Go.Proofs.YtjehpijjneghpaaGreat.Re
open Go.RowKit Go.Maps Go.Sort Go.Shelf Go.Proofs.YtjehpijjneghpaaGreat.Nm Go.Proofs.YtjehpijjneghpaaGreat.Dk
set_option linter.unusedVariables false
theorem pl_all {W0 w : World} {pb b : Nat} {S : DS} {R : RB} {Q : Nat → Prop} (o : Dop) (h : PlI W0 w pb b S R o Q) : Calls Tryz.prog 11 #[.pointer (some ⟨pb, 0, none⟩), opV o] w (PlP w pb b S R o Q) := by
  by_cases k10 : o.kind = 10
  · exact pl_crash o k10 h
  by_cases k11 : o.kind = 11
  · exact pl_copy o k11 h
  exact pl_most o h k10 k11
end Go.Proofs.YtjehpijjneghpaaGreat.Re
