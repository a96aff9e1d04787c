/-
  Crash.
-/
import Derived.Test.YtjehpijjneghpaaGreatM11
import Derived.Laws.BytesArg
namespace Go.Proofs.YtjehpijjneghpaaGreat.Dk
open Go.RowKit Go.Maps Go.Sort Go.Shelf Go.Proofs.YtjehpijjneghpaaGreat.Nm
open Ix (wp_region_T wpAnyT wpAnyT_take wpAnyT_one wpAnyT_done vac)
set_option maxRecDepth 100000 in
set_option maxHeartbeats 2000000 in
theorem crashD_any {w : World} {b : Nat} {S : DS} {O : Nat → Prop} {f g : Nat} {pd : Value} {am : Option Nat} {VB0 VL0 : Nat → Value} (h : Dsk w b S O f g pd am VB0 VL0) (hc : S.c7 < 1000000000) (n : Int) (n0 : -9223372036854775808 ≤ n) (n1 : n ≤ 9223372036854775807) (v : Value) (Z : Nat → Prop) (ks : List Kep) (hk : Kp Z w v ks) (hZ : ∀ k, Z k → ¬ O k ∧ k < w.heap.size) :
    Calls Tryz.prog 18 #[.pointer (some ⟨b, 0, none⟩), .agg #[.int .i64 n, v]] w fun e w' => e = .returned (.tuple #[]) ∧ ∃ O', DskE w' b (S.crash n ks) O' ∧ Sgo w w' O O' := by
  have hB0 := hide (box_below w (.cells #[.int .i64 n, v] 34))
  have hN0 := hide (heap_alloc_new w (.cells #[.int .i64 n, v] 34))
  have hK0 := hide (hk.below hB0.out)
  obtain ⟨ak, ck, rfl, q1, q2, _⟩ := hk
  obtain ⟨w1, hw1⟩ : ∃ w1, Hid (w.alloc (.cells #[.int .i64 n, .slice ak ks.length ck] 34) = w1) := ⟨_, rfl⟩
  rw [hw1.out] at hB0 hN0 hK0
  have H := hide h
  have H1 := hide (h.below hB0.out)
  have hM := made_any w1 _ _ H1.out.dk.dp
  rw [show madeD (some (S.dc f g pd am)) = true from rfl] at hM
  have hD := dsk_directory H1.out hc n n0 n1
  have hlen := front_len h.ok hc n
  have hfl : Hid (∀ p s, get (S.front n) s = some p → p ∈ S.ps) := fun p s hp => mem_front hp
  have hfs : Hid (∀ p ∈ (S.front n).map (·.2), p ∈ S.ps) := fun p hp => DS.mem_front hp
  have hl7 : Hid (((S.front n).length : Int) ≤ S.c7) := by
    show _ ≤ _
    have h1 := h.ok.cnt
    have h2 := runs_len S.l2 (S.P.take (wthn n S.P.length))
    rw [List.length_take] at h2
    unfold DS.front
    omega
  have hE : Hid (S.crash n ks = { S with up := true, l2 := S.front n, P := [], al := [], F := crashL (S.front n) (nms (S.front n)) ks S.F }) := rfl
  rw [hE.out]
  clear hE
  generalize S.front n = l at *
  have hmem : Hid (∀ k (hk : k < (nms l).length), ∃ p, get l (nms l)[k] = some p) := fun k hk => nms_get (List.getElem_mem hk)
  have x0 : w1.cell? ⟨w.heap.size, 0, none⟩ = some (.int .i64 n) := by simp [World.cell?, hN0.out]
  have d2 : Hid (∀ q, Below w1.heap.size w1 q → q.heap[b]? = some (.cells (dcells (S.dc f g pd am)) TD (0, 0))) := fun q hq => (hq.block b (heap_lt H1.out.dk.box)).trans H1.out.dk.box
  clear h
  go_enter Tryz.func18, Tryz.ntmps18
  go_upto_region 1 with fail
  rw [hw1.out]
  go_upto_region 3 with (first
    | (go_at_call 79; refine hM.mono ?_; rintro e w2 ⟨rfl, e1⟩; subst w2)
    | (go_at_call 80; refine hD.mono ?_; rintro e w2 ⟨rfl, M2, B2⟩; replace M2 := hide M2; replace B2 := hide B2; have b2 := hide (d2.out _ B2.out); have y1 : w2.cell? ⟨b, 2, none⟩ = some (.map (some f)) := (by simp [World.cell?, b2.out, dcells, DS.dc]); have y2 : w2.frozen? ⟨b, 2, none⟩ = false := (by simp [World.frozen?, b2.out])))
  clear y1 y2 x0 hM hD d2
  generalize hm0 : w1.heap.size = m at *
  replace hm0 := hide hm0
  have b3 := hide (heap_setCell_same w2 b 2 _ _ (.map (some m)) b2.out)
  obtain ⟨cs, hcs⟩ : ∃ cs, Hid ((dcells (S.dc f g pd am)).setIfInBounds 2 (.map (some m)) = cs) := ⟨_, rfl⟩
  rw [hcs.out] at b3
  have g3 := hide (But.of_grownBy (X := fun k => k = b) (grown_setCell w2 b 2 (.map (some m))) fun k e => by cases e; rfl)
  have hOb : Hid (O b) := H.out.ow b (.inl rfl)
  have hOl : Hid (∀ k, O k → k < w.heap.size) := H.out.lt
  have z1 := hide hB0.out.size
  have z2 : Hid (m ≤ w2.heap.size) := by have := B2.out.size; rw [hm0.out] at this; exact this
  have W2 : Hid (Below w.heap.size w w2) := hB0.out.trans (by have := B2.out; exact this.mono (by rw [← hm0.out] ; exact hB0.out.size))
  have M3 : Hid (Mp (w2.setCell ⟨b, 2, none⟩ (.map (some m))) m l) := M2.out.but g3.out (fun e => M2.out.ne b2.out e.symm)
  have I3 : Hid (CrI (w2.setCell ⟨b, 2, none⟩ (.map (some m))) (w2.setCell ⟨b, 2, none⟩ (.map (some m))) O b m cs l S.ps S.F VB0 VL0) := by
    have D2 := H.out.below W2.out
    have hsz : w2.heap.size ≤ (w2.setCell ⟨b, 2, none⟩ (.map (some m))).heap.size := g3.out.size
    refine ⟨b3.out, M3.out, ?_, But.of_below (Below.refl _ _) _, fun p hp k hk => .inl (H.out.of p hp k hk), H.out.ok.sz⟩
    have F2 : Fs (w2.setCell ⟨b, 2, none⟩ (.map (some m))) (Own b (S.dc f g pd am)) S.ps S.F VB0 VL0 := D2.fs.but g3.out (fun p hp k hk e => D2.fs.no p hp k hk (.inl e))
    refine ⟨F2.at_, F2.ap, fun p hp k hk c => ?_⟩
    rcases c with e | e
    · exact F2.no p hp k hk (.inl e)
    · have q1 := H.out.fs.lt hp k hk
      have q2 := z1.out
      rw [hm0.out] at q2
      omega
  have W3 : Hid (But O w (w2.setCell ⟨b, 2, none⟩ (.map (some m)))) := (But.of_below W2.out _).trans (g3.out.mono fun k _ e => by rw [e]; exact hOb.out)
  have N3 : Hid ((w2.setCell ⟨b, 2, none⟩ (.map (some m))).heap[w.heap.size]? = some (.cells #[.int .i64 n, .slice ak ks.length ck] 34 (0, 0))) := g3.out.at ((B2.out.block _ (by have := heap_lt hN0.out; rw [hm0.out] at this; exact this)).trans hN0.out) (fun e => by have := hOl.out b hOb.out; omega)
  have K3 : Hid (Kp Z (w2.setCell ⟨b, 2, none⟩ (.map (some m))) (.slice ak ks.length ck) ks) := ((hK0.out.below (by rw [hm0.out]; exact B2.out)).but g3.out (fun k hk e => (hZ k hk).1 (by rw [e]; exact hOb.out)))
  have y2 : (w2.setCell ⟨b, 2, none⟩ (.map (some m))).cell? ⟨b, 2, none⟩ = some (.map (some m)) := by simp [World.cell?, b3.out, ← hcs.out, dcells]
  clear b2 M2 B2 hK0 hN0 hB0 g3 W2
  generalize (w2.setCell ⟨b, 2, none⟩ (.map (some m))) = w3' at *
  go_wp2_with (go_at_call 81; refine (names_any m l w3' M3.out hlen).mono ?_; rintro e w3 ⟨v2, rfl, R2, _, B3⟩; have R3 := row_of_owns R2 (by simp); have hlow : Hid (∀ k, v2.ownBlock = some k → w3'.heap.size ≤ k) := (fun k hk => (World.ownsRow.lt R2 k hk).1); replace B3 := hide B3; obtain ⟨ao, ca, rfl, r2, r3, r4, r5⟩ := R3; rw [List.length_map] at *; replace r5 := hide r5; clear r2 R2)
  obtain ⟨N, hN2⟩ : ∃ N, Hid ((nms l).length = N) := ⟨_, rfl⟩
  rw [hN2.out] at r3 hlow ⊢
  have hN3 : Hid (N ≤ 1000000000) := by show _ ≤ _; rw [← hN2.out, nms_len]; exact hlen
  have i4 : (ca : Int) ≤ 9223372036854775807 := by unfold maxLen at r4; omega
  have i5 : (ck : Int) ≤ 9223372036854775807 := by unfold maxLen at q2; omega
  have I4 : Hid (CrI w3 w3 O b m cs l S.ps (crashL l ((nms l).take 0) ks S.F) VB0 VL0) := by
    have q := I3.out.below B3.out
    exact ⟨q.box, q.mp, q.fs, But.of_below (Below.refl _ _) _, fun p hp k hk => .inl (H.out.of p hp k hk), q.sz⟩
  have N4 : Hid (w3.heap[w.heap.size]? = some (.cells #[.int .i64 n, .slice ak ks.length ck] 34 (0, 0))) := (B3.out.block _ (heap_lt N3.out)).trans N3.out
  have K4 := hide (K3.out.below B3.out)
  have W4 : Hid (But O w w3) := W3.out.trans (But.of_below B3.out _)
  have zz : Hid (w.heap.size ≤ w3'.heap.size) := W3.out.size
  have hZ' : Hid (∀ k, Z k → ¬ O k) := fun k hk => (hZ k hk).1
  have hcs2 : Hid (cs[2]? = some (.map (some m))) := by show _ = _; rw [← hcs.out]; rfl
  have hcz : Hid (cs.size = 15) := by show _ = _; rw [← hcs.out]; rfl
  clear y2 I3 N3 K3 M3 hlen r4 hZ W3 q2
  go_loopw [23] (fun i wr => ∃ k : Nat, i = .int .i64 k ∧ k ≤ N ∧ ∃ (Fk : Nat → Fl) (VB VL : Nat → Value), Hid (crashL l ((nms l).take k) ks S.F = Fk) ∧ Hid (CrI w3 wr O b m cs l S.ps Fk VB VL)) (fun i _ => N - (intOf i).toNat)
  case atStart => exact ⟨0, rfl, Nat.zero_le _, _, _, _, rfl, I4.out⟩
  case round =>
    obtain ⟨k, rfl, hk, Fk, VB, VL, hFk, hI⟩ := hrel
    by_cases hlt : k < N
    · have i1 : (k : Int) < (N : Int) := by omega
      have hkl : k < (nms l).length := by rw [hN2.out]; exact hlt
      obtain ⟨p, hp⟩ := hmem.out k hkl
      obtain ⟨gb, off, rfl, hcl⟩ := r5.out k (by rw [List.length_map]; exact hkl)
      have hgb : ¬ O gb := fun c => by have q1 := hOl.out gb c; have q2 := hlow.out gb rfl; have q3 := zz.out; omega
      have hcell : wr.cell? ⟨gb, off + k, none⟩ = some (.string (bsOf (nms l)[k])) := by
        refine cell_but ?_ hI.out.but hgb
        rw [hcl, List.getElem_map]; rfl
      have hgp := hide hp
      have hps := hide (hfl.out p _ hp)
      have hsn : Hid ((nms l).take (k + 1) = (nms l).take k ++ [(nms l)[k]]) := List.take_succ_eq_append_getElem hkl
      have hlk : Hid (((nms l).take k).length = k) := by show _ = _; rw [List.length_take]; omega
      have hsz := hide (hI.out.mp.nlen (List.getElem_mem hkl))
      have Nr : Hid (wr.heap[w.heap.size]? = some (.cells #[.int .i64 n, .slice ak ks.length ck] 34 (0, 0))) := hI.out.but.at N4.out (fun c => Nat.lt_irrefl _ (hOl.out _ c))
      have Kr := hide (K4.out.but hI.out.but hZ'.out)
      clear hcl hp hgb
      generalize (nms l)[k] = s at *
      clear hkl
      have B5 := hide (box_below wr (.cells #[.int .i64 0, .slice none 0 0] 88))
      have N5 := hide (heap_alloc_new wr (.cells #[.int .i64 0, .slice none 0 0] 88))
      have x1 : (wr.alloc (.cells #[.int .i64 0, .slice none 0 0] 88)).cell? ⟨w.heap.size, 1, none⟩ = some (.slice ak ks.length ck) := by
        have : (wr.alloc (.cells #[.int .i64 0, .slice none 0 0] 88)).heap[w.heap.size]? = _ := (B5.out.block _ (heap_lt Nr.out)).trans Nr.out
        simp [World.cell?, this]
      by_cases hkk0 : k < ks.length
      · have i6 : (k : Int) < (ks.length : Int) := by omega
        obtain ⟨ao', cap', ek, ek1, ek2, ek3⟩ := Kr.out
        simp only [Value.slice.injEq] at ek
        obtain ⟨eka, _, ekc⟩ := ek
        subst eka
        subst ekc
        obtain ⟨kb', ko, vj, rfl, zb, kc1, kc2, ksl, ksi, kn0, kn1⟩ := ek3 k hkk0
        have kc1' := ((B5.out.cell (p := ⟨kb', ko + k * 2, none⟩) (lt_of_cell kc1)).trans kc1)
        have kc2' := ((B5.out.cell (p := ⟨kb', ko + k * 2 + 1, none⟩) (lt_of_cell kc2)).trans kc2)
        have hn0 := hide kn0
        have hn1 := hide kn1
        have hkk : Hid (ks.getD k (0, []) = ((ks[k]).1, (ks[k]).2)) := by show _ = _; rw [List.getD_eq_getElem?_getD, List.getElem?_eq_getElem hkk0]; rfl
        have hvj0 := hide ksl
        obtain ⟨aj, cj, rfl, _⟩ := ksl
        clear ek3 kc1 kc2 ek1 ek2 Kr zb ksi kn0 kn1
        generalize ks[k] = kk at *
        obtain ⟨NJ, J⟩ := kk
        dsimp only at *
        clear hkk0
        go_upto_region 9 with fail
        clear kc1' kc2' hcell B5 N5 x1
        have B6 := hide (box_below wr (.cells #[.int .i64 NJ, .slice aj J.length cj] 88))
        have N6 := hide (heap_alloc_new wr (.cells #[.int .i64 NJ, .slice aj J.length cj] 88))
        generalize wr.alloc (.cells #[.int .i64 NJ, .slice aj J.length cj] 88) = w6 at *
        have g3 : w6.drew.cell? ⟨wr.heap.size, 0, none⟩ = some (.int .i64 NJ) := by show w6.cell? _ = _; simp [World.cell?, N6.out]
        have g4 : w6.drew.cell? ⟨wr.heap.size, 1, none⟩ = some (.slice aj J.length cj) := by show w6.cell? _ = _; simp [World.cell?, N6.out]
        have I6 := hide (hI.out.below B6.out)
        have g2 : w6.drew.cell? ⟨b, 2, none⟩ = some (.map (some m)) := by show w6.cell? _ = _; simp [World.cell?, I6.out.box, hcs2.out]
        have gL : ∀ q, Mp q m l → (Instr.lookup 92 (.map (some m)) (.string (bsOf s)) false).run Tryz.prog q = .ok (.pointer (some ⟨p, 0, none⟩)) q := fun q hq => hq.look (s := bsOf s) hsz.out hgp.out
        have hvj := hide (Below.sl B6.out hvj0.out)
        generalize wr.heap.size = kb at *
        have KC : Hid (∀ q : World, q = w6.drew → q.cell? ⟨b, 2, none⟩ = some (.map (some m)) ∧ (Instr.lookup 92 (.map (some m)) (.string (bsOf s)) false).run Tryz.prog q = .ok (.pointer (some ⟨p, 0, none⟩)) q ∧ q.cell? ⟨kb, 0, none⟩ = some (.int .i64 NJ) ∧ q.cell? ⟨kb, 1, none⟩ = some (.slice aj J.length cj)) := fun q hq => by subst hq; exact ⟨g2, gL w6.drew I6.out.mp, g3, g4⟩
        have KP : Hid (w6.drew = w6.drew) := rfl
        refine wp_region_T (fun q => q = w6.drew) 7 (by kernel_rfl) ?_
        have I7 := hide (I6.out.below (Below.refl _ w6).drew)
        have hCr := crash_any w6.drew p (Fk p) (VB p) (VL p) (.slice aj J.length cj) NJ J (I7.out.fs.at_ p hps.out) (Below.sl (Below.refl _ w6).drew hvj.out) hn0.out hn1.out
        generalize w6.drew = w7 at *
        refine Ix.tk 0 ⟨some 38, .move (.tmp 0), 24, "directory.go:98", #[], none⟩ (.pointer (some ⟨b, 0, none⟩)) [1,2,3,5,7] ?_ KP.out ?_
        · intro wq hSw
          subst hSw
          obtain ⟨y2, y3, y4, y5⟩ := KC.out _ rfl
          go_simp
        (try simp only [zzp, zza, zzb, zzc])
        refine Ix.tk 1 ⟨some 39, .nilCheck (.tmp 38), 0, "directory.go:98", #[⟨0,.data⟩], none⟩ (.pointer (some ⟨b, 0, none⟩)) [2,3,5,7] ?_ KP.out ?_
        · intro wq hSw
          subst hSw
          obtain ⟨y2, y3, y4, y5⟩ := KC.out _ rfl
          go_simp
        (try simp only [zzp, zza, zzb, zzc])
        refine Ix.tk 2 ⟨some 40, .fieldAddr 98 (.tmp 39) 2, 0, "directory.go:98", #[⟨1,.data⟩], none⟩ (.pointer (some ⟨b, 2, none⟩)) [3,5,7] ?_ KP.out ?_
        · intro wq hSw
          subst hSw
          obtain ⟨y2, y3, y4, y5⟩ := KC.out _ rfl
          go_simp
        (try simp only [zzp, zza, zzb, zzc])
        refine Ix.tk 3 ⟨some 41, .load 92 (.tmp 40), 92, "directory.go:98", #[⟨2,.data⟩], none⟩ (.map (some m)) [5,7] ?_ KP.out ?_
        · intro wq hSw
          subst hSw
          obtain ⟨y2, y3, y4, y5⟩ := KC.out _ rfl
          go_simp
        (try simp only [zzp, zza, zzb, zzc])
        refine Ix.tk 4 ⟨some 42, .move (.tmp 5), 9, "directory.go:98", #[], none⟩ (.string (bsOf s)) [5,7] ?_ KP.out ?_
        · intro wq hSw
          subst hSw
          obtain ⟨y2, y3, y4, y5⟩ := KC.out _ rfl
          go_simp
        (try simp only [zzp, zza, zzb, zzc])
        refine Ix.tk 5 ⟨some 43, .lookup 92 (.tmp 41) (.tmp 42) false, 114, "directory.go:98", #[⟨3,.data⟩,⟨4,.data⟩], none⟩ (.pointer (some ⟨p, 0, none⟩)) [7] ?_ KP.out ?_
        · intro wq hSw
          subst hSw
          obtain ⟨y2, y3, y4, y5⟩ := KC.out _ rfl
          go_simp
        (try simp only [zzp, zza, zzb, zzc])
        refine Ix.tk 6 ⟨some 44, .load 88 (.tmp 6), 88, "directory.go:98", #[], none⟩ (.agg #[.int .i64 NJ, .slice aj J.length cj]) [7] ?_ KP.out ?_
        · intro wq hSw
          subst hSw
          obtain ⟨y2, y3, y4, y5⟩ := KC.out _ rfl
          go_simp
        (try simp only [zzp, zza, zzb, zzc])
        refine wpAnyT_one (i := 7) (o := ⟨some 45, .call { callee := .value (.func 82), args := #[.tmp 43, .tmp 44], argTypes := #[114, 88] }, 0, "directory.go:98", #[⟨5, .data⟩, ⟨6, .data⟩], none⟩) (by kernel_rfl) rfl (fun K hK => ?_)
        go_simp
        go_at_call 82
        refine hCr.mono ?_
        rintro e w8 ⟨rfl, vb', vl', F8, B8, O8⟩
        have I8 : Hid (CrI w3 w8 O b m cs l S.ps (upd Fk p (crFl (Fk p) (NJ, J))) (upd VB p vb') (upd VL p vl')) := I7.out.step (k := (NJ, J)) hps.out F8 B8 O8
        (try go_simp)
        refine hK.out _ _ (vac (by kernel_rfl)) ?_
        clear hK K F8 B8 O8 hCr KC
        refine wpAnyT_done (by kernel_rfl) ?_ _
        (try simp only [zzp, zza, zzb, zzc])
        go_wp2_with fail
        go_roundw
        case rel =>
          refine ⟨k + 1, by go_num, by omega, _, _, _, ?_, I8.out⟩
          rw [hsn.out, crashL_snoc, hlk.out, hFk.out]
          unfold crash1
          rw [hgp.out, hkk.out]
          exact rfl
        case measure => simp [intOf]; omega
      · have i6 : ¬ (k : Int) < (ks.length : Int) := by omega
        have hn0 : Hid (-9223372036854775808 ≤ (0 : Int)) := by show _ ≤ _; decide
        have hn1 : Hid ((0 : Int) ≤ 9223372036854775807) := by show _ ≤ _; decide
        have hkk : Hid (ks.getD k (0, []) = ((0 : Int), ([] : List UInt8))) := by show _ = _; rw [List.getD_eq_getElem?_getD, List.getElem?_eq_none (by omega)]; rfl
        go_upto_region 9 with fail
        clear hcell x1
        generalize wr.alloc (.cells #[.int .i64 0, .slice none 0 0] 88) = w6 at *
        have g3 : w6.drew.cell? ⟨wr.heap.size, 0, none⟩ = some (.int .i64 0) := by show w6.cell? _ = _; simp [World.cell?, N5.out]
        have g4 : w6.drew.cell? ⟨wr.heap.size, 1, none⟩ = some (.slice none 0 0) := by show w6.cell? _ = _; simp [World.cell?, N5.out]
        have I6 := hide (hI.out.below B5.out)
        have g2 : w6.drew.cell? ⟨b, 2, none⟩ = some (.map (some m)) := by show w6.cell? _ = _; simp [World.cell?, I6.out.box, hcs2.out]
        have gL : ∀ q, Mp q m l → (Instr.lookup 92 (.map (some m)) (.string (bsOf s)) false).run Tryz.prog q = .ok (.pointer (some ⟨p, 0, none⟩)) q := fun q hq => hq.look (s := bsOf s) hsz.out hgp.out
        have hvj : Hid (Sl w6 (.slice none 0 0) []) := (Ob.nil 0 w6).sl
        generalize wr.heap.size = kb at *
        have KC : Hid (∀ q : World, q = w6.drew → q.cell? ⟨b, 2, none⟩ = some (.map (some m)) ∧ (Instr.lookup 92 (.map (some m)) (.string (bsOf s)) false).run Tryz.prog q = .ok (.pointer (some ⟨p, 0, none⟩)) q ∧ q.cell? ⟨kb, 0, none⟩ = some (.int .i64 (0 : Int)) ∧ q.cell? ⟨kb, 1, none⟩ = some (.slice none 0 0)) := fun q hq => by subst hq; exact ⟨g2, gL w6.drew I6.out.mp, g3, g4⟩
        have KP : Hid (w6.drew = w6.drew) := rfl
        refine wp_region_T (fun q => q = w6.drew) 7 (by kernel_rfl) ?_
        have I7 := hide (I6.out.below (Below.refl _ w6).drew)
        have hCr := crash_any w6.drew p (Fk p) (VB p) (VL p) (.slice none 0 0) (0 : Int) ([] : List UInt8) (I7.out.fs.at_ p hps.out) (Below.sl (Below.refl _ w6).drew hvj.out) hn0.out hn1.out
        generalize w6.drew = w7 at *
        refine Ix.tk 0 ⟨some 38, .move (.tmp 0), 24, "directory.go:98", #[], none⟩ (.pointer (some ⟨b, 0, none⟩)) [1,2,3,5,7] ?_ KP.out ?_
        · intro wq hSw
          subst hSw
          obtain ⟨y2, y3, y4, y5⟩ := KC.out _ rfl
          go_simp
        (try simp only [zzp, zza, zzb, zzc])
        refine Ix.tk 1 ⟨some 39, .nilCheck (.tmp 38), 0, "directory.go:98", #[⟨0,.data⟩], none⟩ (.pointer (some ⟨b, 0, none⟩)) [2,3,5,7] ?_ KP.out ?_
        · intro wq hSw
          subst hSw
          obtain ⟨y2, y3, y4, y5⟩ := KC.out _ rfl
          go_simp
        (try simp only [zzp, zza, zzb, zzc])
        refine Ix.tk 2 ⟨some 40, .fieldAddr 98 (.tmp 39) 2, 0, "directory.go:98", #[⟨1,.data⟩], none⟩ (.pointer (some ⟨b, 2, none⟩)) [3,5,7] ?_ KP.out ?_
        · intro wq hSw
          subst hSw
          obtain ⟨y2, y3, y4, y5⟩ := KC.out _ rfl
          go_simp
        (try simp only [zzp, zza, zzb, zzc])
        refine Ix.tk 3 ⟨some 41, .load 92 (.tmp 40), 92, "directory.go:98", #[⟨2,.data⟩], none⟩ (.map (some m)) [5,7] ?_ KP.out ?_
        · intro wq hSw
          subst hSw
          obtain ⟨y2, y3, y4, y5⟩ := KC.out _ rfl
          go_simp
        (try simp only [zzp, zza, zzb, zzc])
        refine Ix.tk 4 ⟨some 42, .move (.tmp 5), 9, "directory.go:98", #[], none⟩ (.string (bsOf s)) [5,7] ?_ KP.out ?_
        · intro wq hSw
          subst hSw
          obtain ⟨y2, y3, y4, y5⟩ := KC.out _ rfl
          go_simp
        (try simp only [zzp, zza, zzb, zzc])
        refine Ix.tk 5 ⟨some 43, .lookup 92 (.tmp 41) (.tmp 42) false, 114, "directory.go:98", #[⟨3,.data⟩,⟨4,.data⟩], none⟩ (.pointer (some ⟨p, 0, none⟩)) [7] ?_ KP.out ?_
        · intro wq hSw
          subst hSw
          obtain ⟨y2, y3, y4, y5⟩ := KC.out _ rfl
          go_simp
        (try simp only [zzp, zza, zzb, zzc])
        refine Ix.tk 6 ⟨some 44, .load 88 (.tmp 6), 88, "directory.go:98", #[], none⟩ (.agg #[.int .i64 (0 : Int), .slice none 0 0]) [7] ?_ KP.out ?_
        · intro wq hSw
          subst hSw
          obtain ⟨y2, y3, y4, y5⟩ := KC.out _ rfl
          go_simp
        (try simp only [zzp, zza, zzb, zzc])
        refine wpAnyT_one (i := 7) (o := ⟨some 45, .call { callee := .value (.func 82), args := #[.tmp 43, .tmp 44], argTypes := #[114, 88] }, 0, "directory.go:98", #[⟨5, .data⟩, ⟨6, .data⟩], none⟩) (by kernel_rfl) rfl (fun K hK => ?_)
        go_simp
        go_at_call 82
        refine hCr.mono ?_
        rintro e w8 ⟨rfl, vb', vl', F8, B8, O8⟩
        have I8 : Hid (CrI w3 w8 O b m cs l S.ps (upd Fk p (crFl (Fk p) ((0 : Int), ([] : List UInt8)))) (upd VB p vb') (upd VL p vl')) := I7.out.step (k := ((0 : Int), ([] : List UInt8))) hps.out F8 B8 O8
        (try go_simp)
        refine hK.out _ _ (vac (by kernel_rfl)) ?_
        clear hK K F8 B8 O8 hCr KC
        refine wpAnyT_done (by kernel_rfl) ?_ _
        (try simp only [zzp, zza, zzb, zzc])
        go_wp2_with fail
        go_roundw
        case rel =>
          refine ⟨k + 1, by go_num, by omega, _, _, _, ?_, I8.out⟩
          rw [hsn.out, crashL_snoc, hlk.out, hFk.out]
          unfold crash1
          rw [hgp.out, hkk.out]
          exact rfl
        case measure => simp [intOf]; omega
    · obtain rfl : k = N := by omega
      rw [List.take_of_length_le (by rw [hN2.out]; omega)] at hFk
      have hS := settle_any wr b m cs l hI.out.box hcz.out hcs2.out hI.out.mp
      go_wp2_with (go_at_call 74; refine hS.mono ?_; rintro e w9 ⟨rfl, m', hm', M9, b9, B9⟩; replace M9 := hide M9; replace B9 := hide B9; replace b9 := hide b9; replace hm' := hide hm'; have t1 : w9.cell? ⟨b, 5, none⟩ = some (cs.getD 5 undef) := (by have := hcz.out; simp [World.cell?, b9.out, this]); have t2 : w9.frozen? ⟨b, 5, none⟩ = false := (by simp [World.frozen?, b9.out]); have b10 := hide (heap_setCell_same w9 b 5 _ _ (.map none) b9.out); have t3 : (w9.setCell ⟨b, 5, none⟩ (.map none)).cell? ⟨b, 1, none⟩ = some (cs.getD 1 undef) := (by have := hcz.out; simp [World.cell?, b10.out, this]); have t4 : (w9.setCell ⟨b, 5, none⟩ (.map none)).frozen? ⟨b, 1, none⟩ = false := (by simp [World.frozen?, b10.out]))
      go_end0
      have b11 := heap_setCell_same _ b 1 _ _ (.bool true) b10.out
      have gg := (But.of_grownBy (X := fun k => k = b) (grown_setCell w9 b 5 (.map none)) fun k e => by cases e; rfl).trans (But.of_grownBy (X := fun k => k = b) (grown_setCell (w9.setCell ⟨b, 5, none⟩ (.map none)) b 1 (.bool true)) fun k e => by cases e; rfl)
      have hne : m ≠ b := fun e => hI.out.mp.ne hI.out.box e.symm
      have hne' : m' ≠ b := fun e => by have q1 := heap_lt hI.out.box; have q2 := hm'.out; omega
      have Mm : Mp w9 m l := hI.out.mp.but B9.out hne
      refine ⟨rfl, hI.out.done (T := { S with up := true, l2 := l, P := [], al := [], F := crashL l (nms l) ks S.F }) H.out.dk H.out.ok hOl.out hOb.out (.inr W4.out) W4.out.size (by have := z1.out; rw [hm0.out] at this; exact this) (B9.out.trans gg) hm'.out ?_ (Mm.but gg hne) (M9.out.but gg hne') rfl rfl rfl rfl ⟨rfl, rfl, rfl, rfl, rfl, rfl, rfl, rfl, rfl⟩ hFk.out hl7.out hfs.out⟩
      unfold Bx
      rw [b11, ← hcs.out]
      rfl
end Go.Proofs.YtjehpijjneghpaaGreat.Dk
namespace Go.Proofs.YtjehpijjneghpaaGreat.Dk
open Go.RowKit Go.Maps Go.Sort Go.Shelf Go.Proofs.YtjehpijjneghpaaGreat.Nm
def noF : Nat → Fl := fun _ => ⟨[], [], 0⟩
def DS.new (most : Int) : DS := ⟨most, true, [], [], [], 0, 0, 0, 0, 0, 0, 0, 0, 0, noF⟩
theorem new_dsk (w : World) (most : Int) (h0 : 0 ≤ most) (h1 : most ≤ 16777216) :
    Calls Tryz.prog 9 #[.int .i64 most] w fun e w' => ∃ b O, e = .returned (.pointer (some ⟨b, 0, none⟩)) ∧ DskE w' b (DS.new most) O ∧ Below w.heap.size w w' ∧ (∀ k, O k → w.heap.size ≤ k) := by
  refine (new_any w most (by omega) (by omega)).mono ?_
  rintro e w' ⟨hB, ⟨hn, _⟩ | ⟨_, _, rfl, hb, m1, m2⟩⟩
  · exact absurd ⟨h0, h1⟩ hn
  · refine ⟨w.heap.size + 2, fun k => w.heap.size ≤ k ∧ k < w'.heap.size, rfl, ⟨w.heap.size, w.heap.size + 1, .slice none 0 0, none, fun _ => undef, fun _ => undef, ⟨?_, ⟨fun p hp => by simp [DS.ps, DS.new] at hp, fun p hp => by simp [DS.ps, DS.new] at hp, fun p hp => by simp [DS.ps, DS.new] at hp⟩, ?_, fun p hp => by simp [DS.ps, DS.new] at hp, fun k hk => hk.2, ?_⟩⟩, hB, fun k hk => hk.1⟩
    · exact ⟨hb, rfl, rfl, m1, m2, by omega, Pd.nil _, (fun _ e => by cases e), fun _ => rfl, rfl, trivial, (by simp [DS.new]), ⟨Int.le_refl _, Int.le_refl _, Int.le_refl _, Int.le_refl _, Int.le_refl _, Int.le_refl _, Int.le_refl _, Int.le_refl _⟩, ⟨Int.le_refl _, Int.le_refl _, Int.le_refl _, Int.le_refl _, Int.le_refl _, Int.le_refl _, Int.le_refl _⟩⟩
    · have z := heap_lt hb
      intro k hk
      rcases hk with c | c | c | c | c
      · rw [c]; exact ⟨by omega, z⟩
      · simp only [DS.dc, Option.some.injEq] at c; subst c; exact ⟨by omega, by omega⟩
      · simp only [DS.dc, Option.some.injEq] at c; subst c; exact ⟨by omega, by omega⟩
      · simp [DS.dc, Value.ownBlock] at c
      · simp [DS.dc] at c
    · exact ⟨⟨h0, h1⟩, fun p hp => by simp [DS.ps, DS.new] at hp, Int.le_refl _, (fun e he => by simp [DS.new] at he), ⟨Int.le_refl _, Int.le_refl _⟩⟩
theorem new_no (w : World) (most : Int) (g0 : -9223372036854775808 ≤ most) (g1 : most ≤ 9223372036854775807) (h : ¬ (0 ≤ most ∧ most ≤ 16777216)) : Calls Tryz.prog 9 #[.int .i64 most] w fun e w' => e = .returned (.pointer none) ∧ w' = w := by
  refine (new_any w most g0 g1).mono ?_
  rintro e w' ⟨_, ⟨_, rfl, rfl⟩ | ⟨a, b, _⟩⟩
  · exact ⟨rfl, rfl⟩
  · exact absurd ⟨a, b⟩ h
def sA : ByteArray := ⟨#[97]⟩
theorem upd_noF (p : Nat) : upd noF p ⟨[], [], 0⟩ = noF := by
  funext q
  unfold upd
  split <;> rfl
def bg1 (p : Nat) : DS := ⟨100, true, [], [.cr sA p], [], 1, 0, 0, 0, 0, 0, 0, 1, 0, noF⟩
def bg2 (p : Nat) : DS := ⟨100, true, [([97], p)], [], [], 1, 0, 0, 0, 0, 0, 1, 2, 0, noF⟩
def bg3 (p : Nat) : DS := ⟨100, true, [([97], p)], [], [], 1, 1, 0, 0, 0, 0, 1, 3, 3, upd noF p ⟨[97, 98, 99], [], 0⟩⟩
def bg4 (p : Nat) : DS := ⟨100, true, [([97], p)], [], [], 1, 1, 0, 0, 0, 0, 1, 3, 3, upd (upd noF p ⟨[97, 98, 99], [], 0⟩) p ⟨[97, 120, 121], [97, 120, 121], 0⟩⟩
theorem bg_create (p : Nat) : (DS.new 100).create sA p = (bg1 p, 0) := by
  have e : (DS.new 100).create sA p = (⟨100, true, [], [.cr sA p], [], 1, 0, 0, 0, 0, 0, 0, 1, 0, upd noF p ⟨[], [], 0⟩⟩, 0) := by kernel_rfl
  rw [e, upd_noF]
  rfl
theorem bg_sync (p : Nat) : (bg1 p).syncDir = (bg2 p, 0) := by kernel_rfl
theorem bg_append (p : Nat) : (bg2 p).append sA [97, 98, 99] = (bg3 p, 3, 0) := by kernel_rfl
theorem nms_one (n : List UInt8) (p : Nat) : nms [(n, p)] = [n] := by simp [nms]
theorem bg_front (p : Nat) : (bg3 p).front 0 = [([97], p)] := by kernel_rfl
theorem bg_tails (p : Nat) : (bg3 p).tails 0 = [([97], 3)] := by
  unfold DS.tails
  rw [bg_front, nms_one]
  have : tlOf (bg3 p).F [([97], p)] [97] = 3 := by
    have e : tlOf (bg3 p).F [([97], p)] [97] = ((bg3 p).F p).by_.length - ((bg3 p).F p).la.length := by kernel_rfl
    rw [e]
    show (upd noF p ⟨[97, 98, 99], [], 0⟩ p).by_.length - (upd noF p ⟨[97, 98, 99], [], 0⟩ p).la.length = 3
    rw [upd_same]
    rfl
  simp [this]
theorem bg_crash (p : Nat) : (bg3 p).crash 0 [(1, [120, 121, 122])] = bg4 p := by
  unfold DS.crash
  rw [bg_front, nms_one]
  have : crashL [([97], p)] [[97]] [(1, [120, 121, 122])] (bg3 p).F = upd (upd noF p ⟨[97, 98, 99], [], 0⟩) p ⟨[97, 120, 121], [97, 120, 121], 0⟩ := by
    have e : crashL [([97], p)] [[97]] [(1, [120, 121, 122])] (bg3 p).F = upd (upd noF p ⟨[97, 98, 99], [], 0⟩) p (crFl (upd noF p ⟨[97, 98, 99], [], 0⟩ p) (1, [120, 121, 122])) := by kernel_rfl
    rw [e, upd_same]
    rfl
  rw [this]
  rfl
theorem bg_read (p : Nat) : (bg4 p).read sA 0 3 = ([97, 120, 121], 0) := by
  have e : (bg4 p).find sA = (some p, 0) := by kernel_rfl
  unfold DS.read
  rw [e]
  have : (bg4 p).F p = ⟨[97, 120, 121], [97, 120, 121], 0⟩ := upd_same _ _ _
  simp [this]
theorem up_dsk {w : World} {b : Nat} {S : DS} {O : Nat → Prop} (h : DskE w b S O) : Calls Tryz.prog 43 #[.pointer (some ⟨b, 0, none⟩)] w fun e w' => e = .returned (.bool S.up) ∧ w' = w := by
  obtain ⟨f, g, pd, am, VB, VL, h⟩ := h
  exact up_any w _ _ h.dk.dp
theorem append_dsk {w : World} {b : Nat} {S : DS} {O : Nat → Prop} (h : DskE w b S O) (s : ByteArray) (hs : s.size ≤ maxLen) (v : Value) (D : List UInt8) (hv : Sl w v D) (ho : SOff O v) (hc : S.c7 < 900000000) :
    Calls Tryz.prog 16 #[.pointer (some ⟨b, 0, none⟩), .string s, v] w fun e w' => e = .returned (.tuple #[.int .i64 (S.append s D).2.1, .int .i64 (S.append s D).2.2]) ∧ ∃ O', DskE w' b (S.append s D).1 O' ∧ Sgo w w' O O' := by
  obtain ⟨f, g, pd, am, VB, VL, h⟩ := h
  exact append_any h s hs v D hv ho hc
theorem tails_dsk {w : World} {b : Nat} {S : DS} {O : Nat → Prop} (h : DskE w b S O) (hc : S.c7 < 1000000000) (n : Int) (n0 : -9223372036854775808 ≤ n) (n1 : n ≤ 9223372036854775807) :
    Calls Tryz.prog 27 #[.pointer (some ⟨b, 0, none⟩), .int .i64 n] w fun e w' => ∃ v, e = .returned v ∧ Tl w.heap.size w' v (S.tails n) ∧ Below w.heap.size w w' := by
  obtain ⟨f, g, pd, am, VB, VL, h⟩ := h
  exact tails_any h hc n n0 n1
theorem crash_dsk {w : World} {b : Nat} {S : DS} {O : Nat → Prop} (h : DskE w b S O) (hc : S.c7 < 1000000000) (n : Int) (n0 : -9223372036854775808 ≤ n) (n1 : n ≤ 9223372036854775807) (v : Value) (Z : Nat → Prop) (ks : List Kep) (hk : Kp Z w v ks) (hZ : ∀ k, Z k → ¬ O k ∧ k < w.heap.size) :
    Calls Tryz.prog 18 #[.pointer (some ⟨b, 0, none⟩), .agg #[.int .i64 n, v]] w fun e w' => e = .returned (.tuple #[]) ∧ ∃ O', DskE w' b (S.crash n ks) O' ∧ Sgo w w' O O' := by
  obtain ⟨f, g, pd, am, VB, VL, h⟩ := h
  exact crashD_any h hc n n0 n1 v Z ks hk hZ
theorem kp_one {w : World} {g : Nat} {N : Int} {vj : Value} {J : List UInt8} {T : TypeId} {z : Nat × Nat} {Z : Nat → Prop} (hh : w.heap[g]? = some (.cells #[.int .i64 N, vj] T z)) (hz : Z g) (hj : Sl w vj J) (hjz : SIn Z vj) (h0 : -9223372036854775808 ≤ N) (h1 : N ≤ 9223372036854775807) : Kp Z w (.slice (some ⟨g, 0, none⟩) 1 1) [(N, J)] := by
  refine ⟨some ⟨g, 0, none⟩, 1, rfl, Nat.le_refl _, by decide, fun i hi => ?_⟩
  obtain rfl : i = 0 := by simp at hi; omega
  refine ⟨g, 0, vj, rfl, hz, ?_, ?_, hj, hjz, h0, h1⟩
  · simp [World.cell?, hh]
  · simp [World.cell?, hh]
theorem str3 {B : Nat} {w : World} {ra : Option Addr} {rc : Nat} (h : Ob B w (.slice ra 3 rc) [97, 120, 121]) : (convert 30 9 (.slice ra 3 rc)).run Tryz.prog w = .ok (.string ⟨#[97, 120, 121]⟩) w := by
  obtain ⟨ao, ca, e, h2, h3, h4, h5⟩ := h.sl
  simp only [Value.slice.injEq] at e
  obtain ⟨rfl, _, rfl⟩ := e
  obtain ⟨b, off, rfl, _⟩ := h5 0 (by decide)
  refine run_convert_bytes_arg w 30 5 Tryz.underlying30 Tryz.underlying5 b off 3 rc [97, 120, 121] rfl (fun i hi => ?_) 9 Tryz.underlying9
  obtain ⟨b', off', e', hc⟩ := h5 i hi
  simp only [Option.some.injEq, Addr.mk.injEq] at e'
  obtain ⟨rfl, rfl, _⟩ := e'
  rw [hc]
  match i, hi with
  | 0, _ => rfl
  | 1, _ => rfl
  | 2, _ => rfl
set_option maxRecDepth 100000 in
set_option maxHeartbeats 2000000 in
theorem begun_any (w : World) : Calls Tryz.prog 8 #[] w fun e w' => e = .returned (.bool true) ∧ Below w.heap.size w w' := by
  have hN := new_dsk w 100 (by decide) (by decide)
  have hs : sA.size ≤ 140737488355328 := by decide
  have hs2 : sA.size ≤ maxLen := by decide
  have hC : Hid (∀ q b O, DskE q b (DS.new 100) O → Calls Tryz.prog 14 #[.pointer (some ⟨b, 0, none⟩), .string ⟨#[97]⟩] q fun e w' => ∃ p, e = .returned (.int .i64 0) ∧ ∃ O', DskE w' b (bg1 p) O' ∧ Sgo q w' O O') := fun q b O h => by
    refine (create_dsk h sA hs (by decide)).mono ?_
    rintro e w' ⟨p, _, _, he, hd⟩
    rw [bg_create] at he hd
    exact ⟨p, he, hd⟩
  have hD : Hid (∀ q b O p, DskE q b (bg1 p) O → Calls Tryz.prog 15 #[.pointer (some ⟨b, 0, none⟩)] q fun e w' => e = .returned (.int .i64 0) ∧ ∃ O', DskE w' b (bg2 p) O' ∧ Sgo q w' O O') := fun q b O p h => by
    have := syncDir_dsk h (by show (1 : Int) < _; decide)
    rw [bg_sync] at this
    exact this
  have hA : Hid (∀ q b O p v, DskE q b (bg2 p) O → Sl q v [97, 98, 99] → SOff O v → Calls Tryz.prog 16 #[.pointer (some ⟨b, 0, none⟩), .string ⟨#[97]⟩, v] q fun e w' => e = .returned (.tuple #[.int .i64 3, .int .i64 0]) ∧ ∃ O', DskE w' b (bg3 p) O' ∧ Sgo q w' O O') := fun q b O p v h hv ho => by
    have := append_dsk h sA hs2 v _ hv ho (by show (2 : Int) < _; decide)
    rw [bg_append] at this
    exact this
  have hT : Hid (∀ q b O p, DskE q b (bg3 p) O → Calls Tryz.prog 27 #[.pointer (some ⟨b, 0, none⟩), .int .i64 0] q fun e w' => ∃ g cap, e = .returned (.slice (some ⟨g, 0, none⟩) 1 cap) ∧ w'.cell? ⟨g, 1, none⟩ = some (.int .i64 3) ∧ q.heap.size ≤ g ∧ Below q.heap.size q w') := fun q b O p h => by
    refine (tails_dsk h (by show (3 : Int) < _; decide) 0 (by decide) (by decide)).mono ?_
    rintro e w' ⟨v, rfl, ht, hB⟩
    rw [bg_tails] at ht
    have h0 := ht
    rcases ht.2 with ⟨_, e⟩ | ⟨g, cap, cur, rfl, hg, hh, r⟩
    · simp at e
    · have q1 := World.ownsRow.cells h0 (g := g) rfl 1 (.int .i64 3) rfl
      rw [addr_add] at q1
      exact ⟨g, cap, rfl, q1, hg, hB⟩
  have hK : Hid (∀ q b O p v Z, DskE q b (bg3 p) O → Kp Z q v [(1, [120, 121, 122])] → (∀ k, Z k → ¬ O k ∧ k < q.heap.size) → Calls Tryz.prog 18 #[.pointer (some ⟨b, 0, none⟩), .agg #[.int .i64 0, v]] q fun e w' => e = .returned (.tuple #[]) ∧ ∃ O', DskE w' b (bg4 p) O' ∧ Sgo q w' O O') := fun q b O p v Z h hk hZ => by
    have := crash_dsk h (by show (3 : Int) < _; decide) 0 (by decide) (by decide) v Z _ hk hZ
    rw [bg_crash] at this
    exact this
  have hR : Hid (∀ q b O p, DskE q b (bg4 p) O → Calls Tryz.prog 20 #[.pointer (some ⟨b, 0, none⟩), .string ⟨#[97]⟩, .int .i64 0, .int .i64 3] q fun e w' => ∃ v, e = .returned (.tuple #[v, .int .i64 0]) ∧ Ob q.heap.size w' v [97, 120, 121] ∧ Below q.heap.size q w') := fun q b O p h => by
    have := read_dsk h sA hs2 0 3
    rw [bg_read] at this
    exact this
  have hU : Hid (∀ q b O p, DskE q b (bg4 p) O → Calls Tryz.prog 43 #[.pointer (some ⟨b, 0, none⟩)] q fun e w' => e = .returned (.bool true) ∧ w' = q) := fun q b O p h => up_dsk h
  have hM : Hid (∀ q, Calls Tryz.prog 9 #[.int .i64 (-1)] q fun e w' => e = .returned (.pointer none) ∧ w' = q) := fun q => new_no q (-1) (by decide) (by decide) (by decide)
  have kc := fun (w : World) (C : Array Value) (n c : Nat) => Lib.run_convert_bytes_const (P := Tryz.prog) w 30 5 C n c Tryz.underlying30 Tryz.underlying5
  go_enter Tryz.func8, Tryz.ntmps8
  go_upto_region 4 with (first
    | (go_at_call 9; refine hN.mono ?_; rintro e w1 ⟨b, O1, rfl, D1, B1, L1⟩; replace D1 := hide D1; replace B1 := hide B1; replace L1 := hide L1)
    | (go_at_call 14; refine (hC.out _ _ _ D1.out).mono ?_; rintro e w2 ⟨p, rfl, O2, D2, G2⟩; replace D2 := hide D2; have B2 := hide (G2.under L1.out (Nat.le_refl _) B1.out); have L2 := hide (G2.low B1.out.size L1.out); clear G2)
    | (go_at_call 15; refine (hD.out _ _ _ _ D2.out).mono ?_; rintro e w3 ⟨rfl, O3, D3, G3⟩; replace D3 := hide D3; have B3 := hide (G3.under L2.out (Nat.le_refl _) B2.out); have L3 := hide (G3.low B2.out.size L2.out); clear G3))
  have B4 := hide (box_below w3 (.cells #[.int .u8 97, .int .u8 98, .int .u8 99] 5 (3, 4)))
  have S4 : Hid (Sl (w3.alloc (.cells #[.int .u8 97, .int .u8 98, .int .u8 99] 5 (3, 4))) (.slice (some ⟨w3.heap.size, 0, none⟩) 3 3) [97, 98, 99]) := sl_lit_mark w3 [97, 98, 99] 5 (3, 4) (by decide) _ rfl
  have D4 := hide (D3.out.below B4.out)
  have F4 : Hid (SOff O3 (.slice (some ⟨w3.heap.size, 0, none⟩) 3 3)) := fun b' off n c e _ k => by
    simp only [Value.slice.injEq, Option.some.injEq, Addr.mk.injEq] at e
    have := D3.out.lt _ k
    omega
  have E4 := hide (B3.out.trans (B4.out.mono B3.out.size))
  go_upto_region 6 with (first
    | (go_at_call 16; refine (hA.out _ _ _ _ _ D4.out S4.out F4.out).mono ?_; rintro e w5 ⟨rfl, O5, D5, G5⟩; replace D5 := hide D5; have B5 := hide (G5.under L3.out (Nat.le_refl _) E4.out); have L5 := hide (G5.low E4.out.size L3.out); clear G5)
    | (go_at_call 27; refine (hT.out _ _ _ _ D5.out).mono ?_; rintro e w6 ⟨tg, tc, rfl, hcell, htg, B6⟩; replace B6 := hide B6; replace htg := hide htg; have D6 := hide (D5.out.below B6.out); have E6 := hide (B5.out.trans (B6.out.mono B5.out.size))))
  have hcell' := hide hcell
  clear hcell
  have htO : Hid (¬ O5 tg) := fun c => by have q1 := D5.out.lt _ c; have q2 := htg.out; omega
  obtain ⟨w7, hw7⟩ : ∃ w7, Hid (w6.alloc (.cells #[.int .u8 120, .int .u8 121, .int .u8 122] 5 (3, 4)) = w7) := ⟨_, rfl⟩
  have B7 : Hid (Below w6.heap.size w6 w7) := by rw [← hw7.out]; exact box_below w6 _
  have S7 : Hid (Sl w7 (.slice (some ⟨w6.heap.size, 0, none⟩) 3 3) [120, 121, 122]) := by rw [← hw7.out]; exact sl_lit_mark w6 [120, 121, 122] 5 (3, 4) (by decide) _ rfl
  have z7 : Hid (w7.heap.size = w6.heap.size + 1) := by show _ = _; rw [← hw7.out]; simp
  have B8 := hide (box_below w7 (.cells #[.int .i64 1, .slice (some ⟨w6.heap.size, 0, none⟩) 3 3] 88))
  have K8 : Hid (Kp (fun k => k = w6.heap.size ∨ k = w7.heap.size) (w7.alloc (.cells #[.int .i64 1, .slice (some ⟨w6.heap.size, 0, none⟩) 3 3] 88)) (.slice (some ⟨w7.heap.size, 0, none⟩) 1 1) [(1, [120, 121, 122])]) := kp_one (heap_alloc_new _ _) (.inr rfl) (Below.sl B8.out S7.out) (fun b' off n c e _ => by simp only [Value.slice.injEq, Option.some.injEq, Addr.mk.injEq] at e; exact .inl e.1.1.symm) (by decide) (by decide)
  have D8 := hide ((D6.out.below B7.out).below B8.out)
  have Z8 : Hid (∀ k, (k = w6.heap.size ∨ k = w7.heap.size) → ¬ O5 k ∧ k < (w7.alloc (.cells #[.int .i64 1, .slice (some ⟨w6.heap.size, 0, none⟩) 3 3] 88)).heap.size) := fun k hk => by
    have q1 := z7.out
    refine ⟨fun c => ?_, ?_⟩
    · have := D6.out.lt k c; omega
    · simp; omega
  have E8 : Hid (Below w.heap.size w (w7.alloc (.cells #[.int .i64 1, .slice (some ⟨w6.heap.size, 0, none⟩) 3 3] 88))) := E6.out.trans ((B7.out.trans (B8.out.mono B7.out.size)).mono E6.out.size)
  have hc8 : Hid ((w7.alloc (.cells #[.int .i64 1, .slice (some ⟨w6.heap.size, 0, none⟩) 3 3] 88)).cell? ⟨tg, 1, none⟩ = some (.int .i64 3)) := by
    have k1 := cell_but hcell'.out (But.of_below B7.out fun _ => False) (fun c => c)
    exact cell_but k1 (But.of_below B8.out fun _ => False) (fun c => c)
  rw [← hw7.out] at K8 D8 Z8 E8 hc8
  rw [show (w6.alloc (.cells #[.int .u8 120, .int .u8 121, .int .u8 122] 5 (3, 4))).heap.size = w6.heap.size + 1 by simp] at K8 Z8
  clear hw7 B7 S7 B8 z7 hcell'
  go_upto_region 8 with (first
    | (go_at_call 18; refine (hK.out _ _ _ _ _ _ D8.out K8.out Z8.out).mono ?_; rintro e w9 ⟨rfl, O9, D9, G9⟩; replace D9 := hide D9; have B9 := hide (G9.under L5.out (Nat.le_refl _) E8.out); have hc9 := hide (cell_but hc8.out G9.but htO.out); clear G9)
    | (go_at_call 20; refine (hR.out _ _ _ _ D9.out).mono ?_; rintro e w10 ⟨rv, rfl, R10, B10⟩; replace R10 := hide R10; replace B10 := hide B10; have D10 := hide (D9.out.below B10.out); have E10 := hide (B9.out.trans (B10.out.mono B9.out.size)); have hc10 := cell_but hc9.out (But.of_below B10.out fun _ => False) (fun c => c)))
  obtain ⟨ra, rc, rfl, rr1, rr2⟩ := R10.out.form
  have hst := str3 R10.out
  go_wp2_with (first
    | (go_at_call 43; refine (hU.out _ _ _ _ D10.out).mono ?_; rintro e w11 ⟨rfl, e1⟩; subst w11)
    | (go_at_call 9; refine (hM.out _).mono ?_; rintro e w11 ⟨rfl, e1⟩; subst w11))
  go_ret
  exact ⟨rfl, E10.out⟩
end Go.Proofs.YtjehpijjneghpaaGreat.Dk
