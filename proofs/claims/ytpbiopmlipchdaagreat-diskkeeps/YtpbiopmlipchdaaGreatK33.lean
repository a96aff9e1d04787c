/-
  DiskKeeps: the walk.
-/
import Derived.Test.YtpbiopmlipchdaaGreatK28
import Derived.Test.YtpbiopmlipchdaaGreatK30
import Derived.Test.YtpbiopmlipchdaaGreatK31
import Derived.Test.YtpbiopmlipchdaaGreatK32
namespace Go.Proofs.YtpbiopmlipchdaaGreat.Re
open Go.RowKit Go.Maps Go.Sort Go.Shelf Go.Proofs.YtpbiopmlipchdaaGreat.Nm Go.Proofs.YtpbiopmlipchdaaGreat.Dk
set_option linter.unusedVariables false
variable {W0 w : World} {pb b : Nat} {S : DS} {R : RB} {Q : Nat → Prop}
theorem pl_most (o : Dop) (h : PlI W0 w pb b S R o Q) (k10 : o.kind ≠ 10) (k11 : o.kind ≠ 11) : Calls Tryz.prog 11 #[.pointer (some ⟨pb, 0, none⟩), opV o] w (PlP w pb b S R o Q) := by
  by_cases k1 : o.kind = 1
  · exact pl_create o k1 h
  by_cases k2 : o.kind = 2
  · exact pl_append o k2 h
  by_cases k3 : o.kind = 3
  · exact pl_sync o k3 h
  by_cases k4 : o.kind = 4
  · exact pl_cut o k4 h
  by_cases k5 : o.kind = 5
  · exact pl_rename o k5 h
  by_cases k6 : o.kind = 6
  · exact pl_remove o k6 h
  by_cases k7 : o.kind = 7
  · exact pl_syncDir o k7 h
  by_cases k8 : o.kind = 8
  · exact pl_read o k8 h
  by_cases k9 : o.kind = 9
  · exact pl_arm o k9 h
  by_cases k12 : o.kind = 12
  · exact pl_tails o k12 h
  exact pl_none o ⟨k1, k2, k3, k4, k5, k6, k7, k8, k9, k10, k11, k12⟩ h
theorem str_k {s : ByteArray} (h : s.data.toList ≠ kl) : (s.toList == ([107, 101, 112, 116] : List UInt8)) = false := by
  rw [ByteArray.toList_eq]
  simpa [kl] using h
theorem str_kt {s : ByteArray} (h : s.data.toList = kl) : (s.toList == ([107, 101, 112, 116] : List UInt8)) = true := by
  rw [ByteArray.toList_eq, h]
  rfl
theorem syF_first (A : List UInt8) : syF ⟨A, [], 0⟩ = ⟨A, A, 0⟩ := by simp [syF, svd]
theorem upd2 {α : Type} (F : Nat → α) (p : Nat) (s t : α) : upd (upd F p s) p t = upd F p t := by
  funext q
  unfold upd
  split <;> rfl
/-- What holds between the rounds. -/
structure KL (w q : World) (fb pb b p : Nat) (A B : List UInt8) (d : Int) (vk : Value) (k : Nat) : Prop where
  out : ∃ S R Q, PW q pb b S R Q ∧ Kpt S kl p ⟨A ++ B, A, 0⟩ ∧ RI R ∧ S.c7 ≤ 10 + (k : Int) ∧ R.c7 ≤ (k : Int) ∧ (∀ k, Q k → w.heap.size ≤ k) ∧ ¬ Q fb
  bel : Below w.heap.size w q
  box : q.heap[fb]? = some (.cells #[.int .i64 d, vk] 34 (0, 0))
theorem KL.below {w q q' : World} {fb pb b p : Nat} {A B : List UInt8} {d : Int} {vk : Value} {k : Nat} (h : KL w q fb pb b p A B d vk k) (hb : Below q.heap.size q q') : KL w q' fb pb b p A B d vk k := by
  obtain ⟨S, R, Q, h1, h2⟩ := h.out
  exact ⟨⟨S, R, Q, h1.below hb, h2⟩, h.bel.trans (hb.mono h.bel.size), (hb.block _ (heap_lt h.box)).trans h.box⟩
theorem KL.next {w q : World} {fb pb b p : Nat} {A B : List UInt8} {d : Int} {vk : Value} {k : Nat} (h : KL w q fb pb b p A B d vk k) : KL w q fb pb b p A B d vk (k + 1) := by
  obtain ⟨S, R, Q, h1, h2, h3, h4, h5, h6⟩ := h.out
  exact ⟨⟨S, R, Q, h1, h2, h3, by omega, by omega, h6⟩, h.bel, h.box⟩
theorem kl_plays {w q : World} {fb pb b p : Nat} {A B : List UInt8} {d : Int} {vk : Value} {k : Nat} (h : KL w q fb pb b p A B d vk k) (hk : k ≤ 40) (o : Dop) (ho : DopOk w o) (hn : o.nm.data.toList ≠ kl) (ht : o.tn.data.toList ≠ kl) (k10 : o.kind ≠ 10) (k11 : o.kind ≠ 11) :
    Calls Tryz.prog 11 #[.pointer (some ⟨pb, 0, none⟩), opV o] q fun e w' => ∃ r, e = .returned (.bool r) ∧ KL w w' fb pb b p A B d vk (k + 1) := by
  obtain ⟨S, R, Q, h1, h2, h3, h4, h5, h6, h7⟩ := h.out
  refine (pl_most (W0 := w) o ⟨h1, ho, h.bel, h6, h3, h2.uq, by omega, by omega⟩ k10 k11).mono ?_
  rintro e w' ⟨⟨r, S', Q', b', rfl, pw, g, pl, _, hb⟩⟩
  have e := hb k11
  subst e
  refine ⟨r, rfl, ⟨S', R.play o, Q', pw, kpt_play h2 hn ht k10 k11 pl, ri_play h3 o, ?_, ?_, g.low h.bel.size h6, fun c => ?_⟩, g.under h6 (Nat.le_refl _) h.bel, g.but.at h.box h7⟩
  · have := play_c7 pl; omega
  · have := rplay_c7 R o; omega
  · rcases g.own fb c with c | c
    · exact h7 c
    · have := heap_lt h.box; omega
theorem blk_nil {b x k : Nat} (h : blk b RV.nil x = some k) : k = b := by
  match x with
  | 0 => simp [blk] at h; exact h.symm
  | 1 => simp [blk, RV.nil, Value.ownBlock] at h
  | 2 => simp [blk, RV.nil, Value.ownBlock] at h
  | 3 => simp [blk, RV.nil, Value.ownBlock] at h
  | 4 => simp [blk, RV.nil, Value.ownBlock] at h
  | 5 => simp [blk, RV.nil, Value.ownBlock] at h
  | n + 6 => simp [blk, RV.nil] at h
/-- A pair of a disk and a new one of the document. -/
theorem px_new {u q : World} {b : Nat} {S : DS} {O : Nat → Prop} {most : Int} (hD : DskE u b S O) (hq : Below u.heap.size u q) (hR : RM q u.heap.size (RB.new most) RV.nil) :
    PX (q.alloc (.cells #[.pointer (some ⟨b, 0, none⟩), .pointer (some ⟨u.heap.size, 0, none⟩)] 29)) q.heap.size b u.heap.size S (RB.new most) O RV.nil := by
  have hb2 := box_below q (.cells #[.pointer (some ⟨b, 0, none⟩), .pointer (some ⟨u.heap.size, 0, none⟩)] 29)
  have hz := heap_lt hR.box
  refine ⟨heap_alloc_new _ _, (hD.below hq).below hb2, hR.below hb2, fun k hk x c => ?_, fun c => ?_, fun x c => ?_⟩
  · have := hD.lt k hk
    have := blk_nil c
    omega
  · have := hD.lt _ c
    omega
  · have := blk_nil c
    omega
theorem kl_start {w wf u q : World} {b p : Nat} {A B : List UInt8} {d : Int} {vk : Value} (hC : CI wf u b 1048576 [(kl, p)] [] (upd noF p ⟨A ++ B, A, 0⟩) 5) (hwf : Below w.heap.size w wf) (hz : w.heap.size < wf.heap.size) (hf : wf.heap[w.heap.size]? = some (.cells #[.int .i64 d, vk] 34 (0, 0))) (hq : Below u.heap.size u q) (hR : RM q u.heap.size (RB.new 1048576) RV.nil) :
    KL w (q.alloc (.cells #[.pointer (some ⟨b, 0, none⟩), .pointer (some ⟨u.heap.size, 0, none⟩)] 29)) w.heap.size q.heap.size b p A B d vk 0 := by
  obtain ⟨S, O, hD, cm, bel, lo⟩ := hC
  have px := px_new hD hq hR
  have hb2 := box_below q (.cells #[.pointer (some ⟨b, 0, none⟩), .pointer (some ⟨u.heap.size, 0, none⟩)] 29)
  have hall : Below wf.heap.size wf (q.alloc (.cells #[.pointer (some ⟨b, 0, none⟩), .pointer (some ⟨u.heap.size, 0, none⟩)] 29)) := bel.trans ((hq.trans (hb2.mono hq.size)).mono bel.size)
  have hown : ∀ k, own q.heap.size O u.heap.size RV.nil k → wf.heap.size ≤ k := by
    rintro k (e | c | ⟨x, c⟩)
    · have := bel.size; have := hq.size; omega
    · exact lo k c
    · have := blk_nil c; have := bel.size; omega
  refine ⟨⟨S, _, _, px.toPW, ⟨by rw [cm.l2]; rfl, by rw [cm.P]; exact fun c hc => (by cases hc), by rw [cm.F, upd_same], ?_⟩, ri_new _ (by decide), by rw [cm.c7]; decide, by decide, fun k hk => ?_, fun c => ?_⟩, hwf.trans (hall.mono hwf.size), (hall.block _ hz).trans hf⟩
  · unfold DS.uq
    rw [cm.l2, cm.P]
    refine ⟨fun e he e' he' _ => ?_, fun e _ c => (by simp [ptrs] at c), by simp [ptrs]⟩
    rw [List.mem_singleton.1 he, List.mem_singleton.1 he']
  · have := hown k hk; omega
  · have := hown _ c; omega
/-- The end: two losses. -/
theorem kl_end {w q : World} {fb pb b p : Nat} {A B : List UInt8} {d : Int} {vk : Value} {k : Nat} (h : KL w q fb pb b p A B d vk k) (hk : k ≤ 40) (n0 : -9223372036854775808 ≤ d) (n1 : d ≤ 9223372036854775807) (ks : List Kep) (hK : Kp (fun k => k < w.heap.size) w vk ks) :
    ∃ z S O, Good A B z ∧ DskE q b S O ∧ (∀ k, O k → w.heap.size ≤ k) ∧ ¬ O fb ∧ S.c7 ≤ 100 ∧ (S.crash d ks).size sK = ((z.length : Int), 0) ∧ (∀ n : Nat, n ≤ z.length → (S.crash d ks).read sK 0 (n : Int) = (z.take n, 0)) ∧ ((S.crash d ks).crash d ks).size sK = ((z.length : Int), 0) ∧ ((S.crash d ks).crash d ks).P.length = 0 := by
  obtain ⟨S, R, Q, ⟨rb, O, V, px, rfl⟩, h2, h3, h4, h5, h6, h7⟩ := h.out
  obtain ⟨z, g1, g2, g3, g4, g5⟩ := kept_crash h2 d ks
  exact ⟨z, S, O, g1, px.d, fun k hk => h6 k (.inr (.inl hk)), fun c => h7 (.inr (.inl c)), by omega, g2, g3, g4, g5⟩
set_option maxRecDepth 100000 in
set_option maxHeartbeats 8000000 in
theorem keeps_walk (w : World) (va vb : Value) (A B : List UInt8) (ao : Option Addr) (cap : Nat) (os : List Dop) (d : Int) (vk : Value) (ks : List Kep) (ha : Sl w va A) (hb : Sl w vb B) (hos : os.length ≤ cap) (hcap : cap ≤ maxLen) (hat : AtDops w ao os) (hok : ∀ o ∈ os, DopOk w o) (n0 : -9223372036854775808 ≤ d) (n1 : d ≤ 9223372036854775807) (hK : Kp (fun k => k < w.heap.size) w vk ks) :
    Calls Tryz.prog 4 #[va, vb, .slice ao os.length cap, .agg #[.int .i64 d, vk]] w fun e w' => e = .returned (.bool true) ∧ Below w.heap.size w w' := by
  have hm : cap ≤ 9223372036854775807 := by unfold maxLen at hcap; omega
  have HA := hide ha
  have HB := hide hb
  obtain ⟨aa, ac, rfl, _, a3, a4, _⟩ := ha
  obtain ⟨ba, bc, rfl, _, b3, b4, _⟩ := hb
  have a4' : ac ≤ 9223372036854775807 := by unfold maxLen at a4; omega
  have b4' : bc ≤ 9223372036854775807 := by unfold maxLen at b4; omega
  obtain ⟨ka, kc, rfl, _⟩ := id hK
  replace hK := hide hK
  have BF := hide (box_below w (.cells #[.int .i64 d, .slice ka ks.length kc] 34))
  have NF := hide (heap_alloc_new w (.cells #[.int .i64 d, .slice ka ks.length kc] 34))
  replace hat := hide hat
  replace hok := hide hok
  obtain ⟨N, hN⟩ : ∃ N, Hid (os.length = N) := ⟨_, rfl⟩
  rw [hN.out] at hos ⊢
  obtain ⟨wf, hwf⟩ : ∃ wf, Hid (w.alloc (.cells #[.int .i64 d, .slice ka ks.length kc] 34) = wf) := ⟨_, rfl⟩
  rw [hwf.out] at BF NF
  obtain ⟨KN, hKN⟩ : ∃ KN, Hid (ks.length = KN) := ⟨_, rfl⟩
  have hwf' : w.alloc (.cells #[.int .i64 d, .slice ka KN kc] 34) = wf := by rw [← hKN.out]; exact hwf.out
  rw [hKN.out] at NF hK ⊢
  clear hcap a4 b4
  by_cases hbig : A.length ≤ 32768 ∧ B.length ≤ 32768
  · obtain ⟨hA, hB⟩ := hbig
    have i1 : ¬ ((A.length : Int) > 32768) := by omega
    have i2 : ¬ ((B.length : Int) > 32768) := by omega
    have sA0 : sumL noF [(kl, 0)] = 0 := rfl
    have hA' := hide hA
    have hB' := hide hB
    clear sA0
    go_enter Tryz.func4, Tryz.ntmps4
    have hgk : Hid (∀ p, Dk.get (runs [(kl, p)] []) sK.data.toList = some p) := fun p => rfl
    go_upto_region 6 with (first
      | (go_at_call 8; refine (begun_any _).mono ?_; rintro e w0 ⟨rfl, B0⟩; replace B0 := hide B0)
      | (go_at_call 9; refine (ci_new (w := wf) w0 1048576 (by decide) B0.out).mono ?_; rintro e w1 ⟨b, rfl, C1⟩; replace C1 := hide C1))
    go_upto_region 8 with (first
      | (go_at_call 14; refine (ci_create C1.out (by decide) sK (by decide) may_k rfl (by decide)).mono ?_; rintro e w2 ⟨rfl, p, hp, C2⟩; rw [upd_noF] at C2; replace C2 := hide C2)
      | (go_at_call 15; refine (ci_syncDir C2.out (by decide)).mono ?_; rintro e w3 ⟨rfl, C3⟩; replace C3 := hide C3))
    replace C3 : Hid (CI wf w3 b 1048576 [(kl, p)] [] noF 2) := C3
    have hSA : Hid (Sl wf (.slice aa A.length ac) A) := Below.sl BF.out HA.out
    have hSB : Hid (Sl wf (.slice ba B.length bc) B) := Below.sl BF.out HB.out
    go_upto_region 9 with (go_at_call 16; refine (ci_append C3.out (by decide) sK (by decide) may_k (hgk.out p) _ A hSA.out (by show 0 + A.length ≤ 1048576; have := hA'.out; omega)).mono ?_; rintro e w4 ⟨rfl, C4⟩; replace C4 := hide C4)
    replace C4 : Hid (CI wf w4 b 1048576 [(kl, p)] [] (upd noF p ⟨A, [], 0⟩) 3) := C4
    go_upto_region 11 with (go_at_call 17; refine (ci_sync C4.out (by decide) sK (by decide) may_k (hgk.out p)).mono ?_; rintro e w5 ⟨rfl, C5⟩; rw [upd2, upd_same, syF_first] at C5; replace C5 := hide C5)
    go_upto_region 12 with (go_at_call 16; refine (ci_append C5.out (by decide) sK (by decide) may_k (hgk.out p) _ B hSB.out (by show sumL (upd noF p ⟨A, A, 0⟩) [(kl, p)] + B.length ≤ 1048576; have := hA'.out; have := hB'.out; simp only [sumL, List.map_cons, List.map_nil, List.sum_cons, List.sum_nil, upd_same]; omega)).mono ?_; rintro e w6 ⟨rfl, C6⟩; rw [upd2, upd_same] at C6; replace C6 := hide C6)
    replace C6 : Hid (CI wf w6 b 1048576 [(kl, p)] [] (upd noF p ⟨A ++ B, A, 0⟩) 5) := C6
    go_wp2_with (go_at_call 10; refine (new_ref w6 1048576 (by decide) (by decide)).mono ?_; rintro e w7 ⟨rfl, M7, B7⟩; replace M7 := hide M7; replace B7 := hide B7)
    have K0 := hide (kl_start C6.out BF.out (heap_lt NF.out) NF.out B7.out M7.out)
    obtain ⟨pb, hpb⟩ : ∃ pb, Hid (w7.heap.size = pb) := ⟨_, rfl⟩
    rw [hpb.out] at K0 ⊢
    generalize (w7.alloc (.cells #[.pointer (some ⟨b, 0, none⟩), .pointer (some ⟨w6.heap.size, 0, none⟩)] 29)) = w8 at *
    clear C1 C2 C3 C4 C5 C6 M7 B7 hSA hSB hwf'
    go_loopw [13] (fun i wr => ∃ k : Nat, i = .int .i64 k ∧ k ≤ N ∧ k ≤ 40 ∧ Hid (KL w wr w.heap.size pb b p A B d (.slice ka KN kc) k)) (fun i _ => N - (intOf i).toNat)
    case atStart => exact ⟨0, rfl, Nat.zero_le _, Nat.zero_le _, K0⟩
    case round =>
      obtain ⟨k, rfl, hk, hk40, hKL⟩ := hrel
      by_cases hgo : k < N ∧ k < 40
      · obtain ⟨hlt, hlt40⟩ := hgo
        have j1 : (k : Int) < (N : Int) := by omega
        have j2 : (k : Int) < 40 := by omega
        have hkl : k < os.length := by rw [hN.out]; exact hlt
        obtain ⟨gb, off, rfl, hcl⟩ := hat.out k hkl
        have hdo := hide (hok.out _ (List.getElem_mem hkl))
        obtain ⟨da, dc, hvd, _, d3, d4, _⟩ := id hdo.out.dat
        obtain ⟨fa, fc, hvf, _⟩ := id hdo.out.fs
        obtain ⟨qa, qc, hvq, _⟩ := id hdo.out.ks
        have d4' : dc ≤ 9223372036854775807 := by unfold maxLen at d4; omega
        have hc : Hid (∀ j u, (os[k]).cells[j]? = some u → wr.cell? ⟨gb, off + k * 10 + j, none⟩ = some u) := fun j u hu => by have := hcl j u hu; rw [hKL.out.bel.cell (lt_of_cell this)]; exact this
        generalize os[k] = o at *
        obtain ⟨okk, os_, on, ot, ov, oD, oo, onn, of, ofs, od, ovk, oks⟩ := o
        dsimp only at hvd hvf hvq
        subst hvd hvf hvq
        have x0 : wr.cell? ⟨gb, off + k * 10, none⟩ = some (.int .i64 okk) := hc.out 0 _ rfl
        have x1 : wr.cell? ⟨gb, off + k * 10 + 1, none⟩ = some (.bool os_) := hc.out 1 _ rfl
        have x2 : wr.cell? ⟨gb, off + k * 10 + 2, none⟩ = some (.string on) := hc.out 2 _ rfl
        have x3 : wr.cell? ⟨gb, off + k * 10 + 3, none⟩ = some (.string ot) := hc.out 3 _ rfl
        have x4 : wr.cell? ⟨gb, off + k * 10 + 4, none⟩ = some (.slice da oD.length dc) := hc.out 4 _ rfl
        have x5 : wr.cell? ⟨gb, off + k * 10 + 5, none⟩ = some (.int .i64 oo) := hc.out 5 _ rfl
        have x6 : wr.cell? ⟨gb, off + k * 10 + 6, none⟩ = some (.int .i64 onn) := hc.out 6 _ rfl
        have x7 : wr.cell? ⟨gb, off + k * 10 + 7, none⟩ = some (.slice fa ofs.length fc) := hc.out 7 _ rfl
        have x8 : wr.cell? ⟨gb, off + k * 10 + 8, none⟩ = some (.int .i64 od) := hc.out 8 _ rfl
        have x9 : wr.cell? ⟨gb, off + k * 10 + 9, none⟩ = some (.slice qa oks.length qc) := hc.out 9 _ rfl
        clear hcl d4
        go_upto_region 17 with fail
        have NB := heap_alloc_new wr (.cells #[.int .i64 okk, .bool os_, .string on, .string ot, .slice da oD.length dc, .int .i64 oo, .int .i64 onn, .slice fa ofs.length fc, .int .i64 od, .slice qa oks.length qc] 36)
        have BB := hide (box_below wr (.cells #[.int .i64 okk, .bool os_, .string on, .string ot, .slice da oD.length dc, .int .i64 oo, .int .i64 onn, .slice fa ofs.length fc, .int .i64 od, .slice qa oks.length qc] 36))
        obtain ⟨Y, hY⟩ : ∃ Y, Hid (wr.alloc (.cells #[.int .i64 okk, .bool os_, .string on, .string ot, .slice da oD.length dc, .int .i64 oo, .int .i64 onn, .slice fa ofs.length fc, .int .i64 od, .slice qa oks.length qc] 36) = Y) := ⟨_, rfl⟩
        rw [hY.out] at NB BB ⊢
        have KY := hide (hKL.out.below BB.out)
        obtain ⟨y0, y1, y2, y3, y4, y5, y6, y7, y8, y9⟩ := ten_cells NB
        clear NB x0 x1 x2 x3 x4 x5 x6 x7 x8 x9
        by_cases e1 : on.data.toList = kl
        · have t1 := str_kt e1
          go_wp2_with fail
          go_roundw
          case rel => exact ⟨k + 1, by go_num, by omega, by omega, (KY.out).next⟩
          case measure => simp [intOf]; omega
        have t1 := str_k e1
        by_cases e2 : ot.data.toList = kl
        · have t2 := str_kt e2
          go_wp2_with fail
          go_roundw
          case rel => exact ⟨k + 1, by go_num, by omega, by omega, (KY.out).next⟩
          case measure => simp [intOf]; omega
        have t2 := str_k e2
        by_cases e3 : okk = 10
        · subst e3
          go_wp2_with fail
          go_roundw
          case rel => exact ⟨k + 1, by go_num, by omega, by omega, (KY.out).next⟩
          case measure => simp [intOf]; omega
        by_cases e4 : okk = 11
        · subst e4
          go_wp2_with fail
          go_roundw
          case rel => exact ⟨k + 1, by go_num, by omega, by omega, (KY.out).next⟩
          case measure => simp [intOf]; omega
        have t3 : (okk == 10) = false := by simpa using e3
        have t4 : (okk == 11) = false := by simpa using e4
        by_cases e5 : (oD.length : Int) > 16384
        · go_wp2_with fail
          go_roundw
          case rel => exact ⟨k + 1, by go_num, by omega, by omega, (KY.out).next⟩
          case measure => simp [intOf]; omega
        have hP := kl_plays KY.out hk40 ⟨okk, os_, on, ot, .slice da oD.length dc, oD, oo, onn, .slice fa ofs.length fc, ofs, od, .slice qa oks.length qc, oks⟩ hdo.out e1 e2 e3 e4
        unfold opV at hP
        dsimp only at hP
        replace e1 := hide e1
        replace e2 := hide e2
        replace e3 := hide e3
        replace e4 := hide e4
        go_wp2_with (go_at_call 11; refine hP.mono ?_; rintro e w9 ⟨rr, rfl, K9⟩; replace K9 := hide K9)
        go_roundw
        case rel => exact ⟨k + 1, by go_num, by omega, by omega, K9⟩
        case measure => simp [intOf]; omega
      · obtain ⟨z, S, O, gz, hD, lo, nof, hc7, s1, s2, s3, s4⟩ := kl_end hKL.out hk40 n0 n1 ks hK.out
        have bx : Hid (wr.heap[w.heap.size]? = some (.cells #[.int .i64 d, .slice ka KN kc] 34 (0, 0))) := hKL.out.box
        have bel := hide hKL.out.bel
        have hCr := crash_dsk hD (by omega) d n0 n1 (.slice ka KN kc) (fun j => j < w.heap.size) ks (hK.out.below bel.out) (fun j hj => ⟨fun c => by have := lo j c; omega, Nat.lt_of_lt_of_le hj bel.out.size⟩)
        have zl := gz.lo
        have zh := gz.hi
        have m1 : min (A.length : Int) (z.length : Int) = (A.length : Int) := by omega
        have m2 : ¬ ((z.length : Int) < (A.length : Int)) := by omega
        have m3 : ¬ ((z.length : Int) > (A.length : Int) + (B.length : Int)) := by omega
        have m4 : IntKind.i64.wrap ((A.length : Int) + (B.length : Int)) = (A.length : Int) + (B.length : Int) := by rw [IntKind.wrap_i64]; omega
        have s2' : Hid ((S.crash d ks).read sK 0 (A.length : Int) = (z.take A.length, 0)) := s2 A.length zl
        replace s1 := hide s1
        replace s3 := hide s3
        replace s4 := hide s4
        replace lo := hide lo
        replace nof := hide nof
        replace hc7 := hide hc7
        replace gz := hide gz
        clear s2
        obtain ⟨x0, x1⟩ := two_cells bx.out
        have hend : ¬ ((k : Int) < (N : Int)) ∨ ((k : Int) < (N : Int) ∧ ¬ ((k : Int) < 40)) := by omega
        replace hD := hide hD
        clear hgo
        rcases hend with j1 | ⟨j1, j2⟩
        · go_upto_region 20 with (go_at_call 18; refine hCr.mono ?_; rintro e w9 ⟨rfl, O9, D9, G9⟩; replace D9 := hide D9; replace G9 := hide G9)
          have bx9 : Hid (w9.heap[w.heap.size]? = some (.cells #[.int .i64 d, .slice ka KN kc] 34 (0, 0))) := G9.out.but.at bx.out nof.out
          have hSz := size_dsk D9.out sK (by decide)
          rw [s1.out] at hSz
          go_upto_region 21 with (go_at_call 19; refine hSz.mono ?_; rintro e w10 ⟨rfl, B10⟩; replace B10 := hide B10)
          have D10 := hide (D9.out.below B10.out)
          have hRd := read_dsk D10.out sK (by decide) 0 (A.length : Int)
          rw [s2'.out, gz.out.eq] at hRd
          dsimp only at hRd
          go_upto_region 22 with (go_at_call 20; refine hRd.mono ?_; rintro e w11 ⟨v11, rfl, O11, B11⟩; obtain ⟨ra, rc, rfl, _, _⟩ := O11.form; replace O11 := hide O11; replace B11 := hide B11)
          have D11 := hide (D10.out.below B11.out)
          have bel9 : Hid (Below w.heap.size w w9) := G9.out.under lo.out (Nat.le_refl _) bel.out
          have bel11 : Hid (Below w.heap.size w w11) := (bel9.out.trans (B10.out.mono bel9.out.size)).trans (B11.out.mono (Nat.le_trans bel9.out.size B10.out.size))
          have hEq : Hid (Calls Tryz.prog 21 #[.slice ra A.length rc, .slice aa A.length ac] w11 fun e w' => e = .returned (.bool true) ∧ Qt w11 w') := by
            obtain ⟨r1, r2, e1, _, _, _, q1⟩ := O11.out.sl
            obtain ⟨t1, t2, e2, _, _, _, q2⟩ := Below.sl bel11.out HA.out
            simp only [Value.slice.injEq] at e1 e2
            obtain ⟨rfl, _, rfl⟩ := e1
            obtain ⟨rfl, _, rfl⟩ := e2
            have := eq_any w11 _ _ A A rc ac (by unfold maxLen; have := hA'.out; omega) (by unfold maxLen; have := hA'.out; omega) q1 q2
            rw [show decide (A = A) = true by simp] at this
            exact this
          go_upto_region 24 with (go_at_call 21; refine hEq.out.mono ?_; rintro e w12 ⟨rfl, B12⟩; replace B12 := hide (Qt.below B12 w11.heap.size))
          have D12 := hide (D11.out.below B12.out)
          have bel12 : Hid (Below w.heap.size w w12) := bel11.out.trans (B12.out.mono bel11.out.size)
          have bx12 : Hid (w12.heap[w.heap.size]? = some (.cells #[.int .i64 d, .slice ka KN kc] 34 (0, 0))) := by
            have h9 := heap_lt bx9.out
            have h10 := Nat.lt_of_lt_of_le h9 B10.out.size
            exact (B12.out.block _ (Nat.lt_of_lt_of_le h10 B11.out.size)).trans ((B11.out.block _ h10).trans ((B10.out.block _ h9).trans bx9.out))
          have lo9 : Hid (∀ j, O9 j → w.heap.size ≤ j) := G9.out.low bel.out.size lo.out
          have hCr2 := crash_dsk D12.out (by show S.c7 < _; have := hc7.out; omega) d n0 n1 (.slice ka KN kc) (fun j => j < w.heap.size) ks (hK.out.below bel12.out) (fun j hj => ⟨fun c => by have := lo9.out j c; omega, Nat.lt_of_lt_of_le hj bel12.out.size⟩)
          obtain ⟨z0, z1⟩ := two_cells bx12.out
          go_upto_region 25 with (go_at_call 18; refine hCr2.mono ?_; rintro e w13 ⟨rfl, O13, D13, G13⟩; replace D13 := hide D13; replace G13 := hide G13)
          have hSz2 := size_dsk D13.out sK (by decide)
          rw [s3.out] at hSz2
          go_upto_region 26 with (go_at_call 19; refine hSz2.mono ?_; rintro e w14 ⟨rfl, B14⟩; replace B14 := hide B14)
          have hPd := pending_dsk (D13.out.below B14.out)
          rw [s4.out] at hPd
          have bel13 : Hid (Below w.heap.size w w13) := G13.out.under lo9.out (Nat.le_refl _) bel12.out
          go_wp2_with (go_at_call 22; refine hPd.mono ?_; rintro e w15 ⟨rfl, e15⟩; subst w15)
          go_ret
          exact ⟨rfl, bel13.out.trans (B14.out.mono bel13.out.size)⟩
        · go_upto_region 20 with (go_at_call 18; refine hCr.mono ?_; rintro e w9 ⟨rfl, O9, D9, G9⟩; replace D9 := hide D9; replace G9 := hide G9)
          have bx9 : Hid (w9.heap[w.heap.size]? = some (.cells #[.int .i64 d, .slice ka KN kc] 34 (0, 0))) := G9.out.but.at bx.out nof.out
          have hSz := size_dsk D9.out sK (by decide)
          rw [s1.out] at hSz
          go_upto_region 21 with (go_at_call 19; refine hSz.mono ?_; rintro e w10 ⟨rfl, B10⟩; replace B10 := hide B10)
          have D10 := hide (D9.out.below B10.out)
          have hRd := read_dsk D10.out sK (by decide) 0 (A.length : Int)
          rw [s2'.out, gz.out.eq] at hRd
          dsimp only at hRd
          go_upto_region 22 with (go_at_call 20; refine hRd.mono ?_; rintro e w11 ⟨v11, rfl, O11, B11⟩; obtain ⟨ra, rc, rfl, _, _⟩ := O11.form; replace O11 := hide O11; replace B11 := hide B11)
          have D11 := hide (D10.out.below B11.out)
          have bel9 : Hid (Below w.heap.size w w9) := G9.out.under lo.out (Nat.le_refl _) bel.out
          have bel11 : Hid (Below w.heap.size w w11) := (bel9.out.trans (B10.out.mono bel9.out.size)).trans (B11.out.mono (Nat.le_trans bel9.out.size B10.out.size))
          have hEq : Hid (Calls Tryz.prog 21 #[.slice ra A.length rc, .slice aa A.length ac] w11 fun e w' => e = .returned (.bool true) ∧ Qt w11 w') := by
            obtain ⟨r1, r2, e1, _, _, _, q1⟩ := O11.out.sl
            obtain ⟨t1, t2, e2, _, _, _, q2⟩ := Below.sl bel11.out HA.out
            simp only [Value.slice.injEq] at e1 e2
            obtain ⟨rfl, _, rfl⟩ := e1
            obtain ⟨rfl, _, rfl⟩ := e2
            have := eq_any w11 _ _ A A rc ac (by unfold maxLen; have := hA'.out; omega) (by unfold maxLen; have := hA'.out; omega) q1 q2
            rw [show decide (A = A) = true by simp] at this
            exact this
          go_upto_region 24 with (go_at_call 21; refine hEq.out.mono ?_; rintro e w12 ⟨rfl, B12⟩; replace B12 := hide (Qt.below B12 w11.heap.size))
          have D12 := hide (D11.out.below B12.out)
          have bel12 : Hid (Below w.heap.size w w12) := bel11.out.trans (B12.out.mono bel11.out.size)
          have bx12 : Hid (w12.heap[w.heap.size]? = some (.cells #[.int .i64 d, .slice ka KN kc] 34 (0, 0))) := by
            have h9 := heap_lt bx9.out
            have h10 := Nat.lt_of_lt_of_le h9 B10.out.size
            exact (B12.out.block _ (Nat.lt_of_lt_of_le h10 B11.out.size)).trans ((B11.out.block _ h10).trans ((B10.out.block _ h9).trans bx9.out))
          have lo9 : Hid (∀ j, O9 j → w.heap.size ≤ j) := G9.out.low bel.out.size lo.out
          have hCr2 := crash_dsk D12.out (by show S.c7 < _; have := hc7.out; omega) d n0 n1 (.slice ka KN kc) (fun j => j < w.heap.size) ks (hK.out.below bel12.out) (fun j hj => ⟨fun c => by have := lo9.out j c; omega, Nat.lt_of_lt_of_le hj bel12.out.size⟩)
          obtain ⟨z0, z1⟩ := two_cells bx12.out
          go_upto_region 25 with (go_at_call 18; refine hCr2.mono ?_; rintro e w13 ⟨rfl, O13, D13, G13⟩; replace D13 := hide D13; replace G13 := hide G13)
          have hSz2 := size_dsk D13.out sK (by decide)
          rw [s3.out] at hSz2
          go_upto_region 26 with (go_at_call 19; refine hSz2.mono ?_; rintro e w14 ⟨rfl, B14⟩; replace B14 := hide B14)
          have hPd := pending_dsk (D13.out.below B14.out)
          rw [s4.out] at hPd
          have bel13 : Hid (Below w.heap.size w w13) := G13.out.under lo9.out (Nat.le_refl _) bel12.out
          go_wp2_with (go_at_call 22; refine hPd.mono ?_; rintro e w15 ⟨rfl, e15⟩; subst w15)
          go_ret
          exact ⟨rfl, bel13.out.trans (B14.out.mono bel13.out.size)⟩
  · have i3 : ((A.length : Int) > 32768) ∨ (¬ ((A.length : Int) > 32768) ∧ ((B.length : Int) > 32768)) := by omega
    rcases i3 with i1 | ⟨i1, i2⟩
    · go_enter Tryz.func4, Tryz.ntmps4
      go_wp2_with (go_at_call 8; refine (begun_any _).mono ?_; rintro e w0 ⟨rfl, B0⟩; replace B0 := hide B0)
      go_ret
      exact ⟨rfl, BF.out.trans (B0.out.mono BF.out.size)⟩
    · go_enter Tryz.func4, Tryz.ntmps4
      go_wp2_with (go_at_call 8; refine (begun_any _).mono ?_; rintro e w0 ⟨rfl, B0⟩; replace B0 := hide B0)
      go_ret
      exact ⟨rfl, BF.out.trans (B0.out.mono BF.out.size)⟩
end Go.Proofs.YtpbiopmlipchdaaGreat.Re

