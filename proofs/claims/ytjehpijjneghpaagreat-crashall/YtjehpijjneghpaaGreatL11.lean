/-
  The document's fates: flumeref12.At.
-/
import Derived.Test.YtjehpijjneghpaaGreatL10
import Derived.Test.YtjehpijjneghpaaGreatL07
import Derived.BigRegion
import Derived.Test.YtjehpijjneghpaaGreatL03
set_option maxRecDepth 100000
set_option maxHeartbeats 40000000
set_option linter.unusedVariables false
namespace Go.Proofs.YtjehpijjneghpaaGreat.Re
open Go.RowKit Go.Maps Go.Sort Go.Shelf Go.Proofs.YtjehpijjneghpaaGreat.Nm Go.Proofs.YtjehpijjneghpaaGreat.Dk
theorem rAt_any {w : World} {rb : Nat} {S : DS} {R : RB} {V : RV} (h : Rf w rb S R V) (i : Int) (n0 : -9223372036854775808 ≤ i) (n1 : i ≤ 9223372036854775807) :
    Calls Tryz.prog 34 #[.pointer (some ⟨rb, 0, none⟩), .int .i64 i] w fun e w' => Below w.heap.size w w' ∧ ((S.atE i ≠ 0 ∧ e = .returned (.tuple #[.agg #[.int .i64 0, .slice none 0 0], .int .i64 (S.atE i)])) ∨
     (S.atE i = 0 ∧ ∃ d j v, FateOf S i.toNat d j ∧ e = .returned (.tuple #[.agg #[.int .i64 (d : Int), v], .int .i64 0]) ∧ Ks w.heap.size w' v (digs (S.tails (d : Int)) j))) := by
 have B4 := hide (box_below w (.cells #[.int .i64 0, .slice none 0 0] 34))
 have N4 := hide (heap_alloc_new w (.cells #[.int .i64 0, .slice none 0 0] 34))
 obtain ⟨w1, hw1⟩ : ∃ w1, Hid (w.alloc (.cells #[.int .i64 0, .slice none 0 0] 34) = w1) := ⟨_, rfl⟩
 rw [hw1.out] at B4 N4
 have s1 : Hid (w1.heap.size = w.heap.size + 1) := by show _ = _; rw [← hw1.out]; simp
 have h1 := hide (h.below B4.out)
 have hW := rWays_any h1.out
 clear h
 by_cases hw : S.ways ≤ M40
 ·have hcnt : S.cnt = (S.cnts (S.P.length + 1), (S.ways : Int), 0) := by unfold DS.cnt; rw [if_pos hw]
  simp only [hcnt] at hW
  clear hcnt
  obtain ⟨n, hn⟩ : ∃ n, Hid (S.ways = n) := ⟨_, rfl⟩
  rw [hn.out] at hW
  have n2 : (n : Int) ≤ 1099511627776 := by have := hn.out; unfold M40 at hw; omega
  by_cases hi : 0 ≤ i ∧ i < (n : Int)
  ·have hE : S.atE i = 0 := by unfold DS.atE; rw [if_pos hw, if_pos (by rw [hn.out]; exact hi)]
   rw [hE]
   obtain ⟨I, rfl⟩ : ∃ I : Nat, i = (I : Int) := ⟨i.toNat, by omega⟩
   rw [Int.toNat_natCast]
   obtain ⟨hi0, hi1⟩ := hi
   replace hw := hide hw
   clear hE n0 n1
   have j1 : ¬ ((I : Int) < 0) := by omega
   have j2 : ¬ ((I : Int) ≥ (n : Int)) := by omega
   obtain ⟨N, hN⟩ : ∃ N, Hid (S.P.length = N) := ⟨_, rfl⟩
   have hN2 : (N : Int) ≤ 100000 := by have := h1.out.few; have := hN.out; omega
   have LI : Hid (I < n ∧ n = (S.cnts (N + 1)).sum ∧ (S.cnts (N + 1)).sum ≤ M40) := ⟨by omega, by rw [← hn.out, ← hN.out]; rfl, by rw [← hN.out]; exact hw.out⟩
   go_enter Tryz.func34, Tryz.ntmps34
   go_upto_region 1 with fail
   rw [hw1.out]
   go_upto_region 6 with (first
    | (go_at_call 32; refine hW.mono ?_; rintro e w2 ⟨rfl, b2⟩; replace b2 := hide b2)
    | fail)
   clear hW
   have h2 := hide (h1.out.below b2.out)
   have N2 := hide ((b2.out.block _ (heap_lt N4.out)).trans N4.out)
   go_wp2_with fail
   (try simp only [show ((I : Int) < 0) = False from eq_false (by omega), show (n ≤ I) = False from eq_false (by omega), decide_false])
   go_loopw [1, 8] (fun v1 v8 wr => ∃ D x : Nat, v8 = .int .i64 (D : Int) ∧ v1 = .int .i64 (x : Int) ∧ D ≤ N ∧ Hid (x + (S.cnts D).sum = I) ∧ Hid (Below w2.heap.size w2 wr)) (fun _ v8 _ => N + 1 - (intOf v8).toNat)
   case atStart => exact ⟨0, I, rfl, rfl, Nat.zero_le _, by show _ = _; simp [DS.cnts], Below.refl _ _⟩
   case round =>
    obtain ⟨D, x, rfl, rfl, hD, hx, hB⟩ := hrel
    have hR := hide (h2.out.below hB.out)
    have hCa : Hid (capT (S.tails (D : Int)) = prodT (S.tails (D : Int))) := cap_eq (Nat.le_trans (cnts_mono S (by omega)) LI.out.2.2)
    have hSu : Hid ((S.cnts (D + 1)).sum = (S.cnts D).sum + prodT (S.tails (D : Int))) := cnts_sum S D
    have hLe : Hid ((S.cnts (D + 1)).sum ≤ (S.cnts (N + 1)).sum) := cnts_mono S (by omega)
    obtain ⟨y, hy⟩ : ∃ y, Hid (prodT (S.tails (D : Int)) = y) := ⟨_, rfl⟩
    have KW : Hid (∀ q, Below wr.heap.size wr q → Calls Tryz.prog 87 #[.pointer (some ⟨rb, 0, none⟩), .int .i64 (D : Int)] q fun e w' => e = .returned (.int .i64 (y : Int)) ∧ Below q.heap.size q w') := fun q hq => by
     have := rways_any (hR.out.below hq) (D : Int)
     rw [hCa.out, hy.out] at this
     exact this
    rw [hy.out] at hSu
    have y1 : (y : Int) ≤ 1099511627776 := by have a := hSu.out; have b := hLe.out; have c := LI.out.2.2; unfold M40 at c; omega
    have x1 : (x : Int) ≤ 1099511627776 := by have a := hx.out; have b := LI.out; unfold M40 at b; omega
    by_cases hge : y ≤ x
    ·have t1 : (x : Int) ≥ (y : Int) := by omega
     have hDN : Hid (D + 1 ≤ N) := by
      show _ ≤ _
      by_cases c : D + 1 ≤ N
      ·exact c
      ·have : D = N := by omega
       subst this
       have a := hSu.out; have b := LI.out; have c := hx.out
       omega
     go_wp2_with (first
      | (go_at_call 87; refine (KW.out _ (Below.refl _ _)).mono ?_; rintro e w3 ⟨rfl, b3⟩; replace b3 := hide b3)
      | (go_at_call 87; refine (KW.out _ b3.out).mono ?_; rintro e w5 ⟨rfl, b5⟩; replace b5 := hide b5)
      | fail)
     (try simp only [show ((I : Int) < 0) = False from eq_false (by omega), show ((I : Int) ≥ (n : Int)) = False from eq_false (by omega), show ((n : Int) ≤ (I : Int)) = False from eq_false (by omega), show (n ≤ I) = False from eq_false (by omega), decide_false])
     go_roundw
     case rel =>
      refine ⟨.int .i64 ((x : Int) - (y : Int)), .int .i64 ((D : Int) + 1), _, _, _, _, _, _, _, _, _, _, _, _, ⟨D + 1, x - y, by go_num, ?_, hDN.out, by show _ = _; have a := hx.out; have b := hSu.out; omega, bs2 hB.out (bs2 b3.out b5.out)⟩, rfl⟩
      congr 1
      omega
     case measure => simp [intOf]; have := hDN.out; omega
    ·have t1 : ¬ ((x : Int) ≥ (y : Int)) := by omega
     have hF : Hid (FateOf S I D x) := ⟨by rw [hN.out]; exact hD, by have := hx.out; omega, by rw [hy.out]; omega⟩
     obtain ⟨L, hL⟩ : ∃ L, Hid (S.tails (D : Int) = L) := ⟨_, rfl⟩
     have KT : Hid (∀ q, Below wr.heap.size wr q → Calls Tryz.prog 63 #[.pointer (some ⟨rb, 0, none⟩), .int .i64 (D : Int)] q fun e w' => ∃ v, e = .returned v ∧ Tr w' v L ∧ Below q.heap.size q w') := fun q hq => by
      have := rf_tails (hR.out.below hq) (D : Int)
      rw [hL.out] at this
      exact this
     have hs : Hid (∀ e ∈ L, e.2 ≤ 16777216) := by rw [← hL.out]; exact rf_small h1.out _
     have hl : Hid (L.length ≤ 100000) := by rw [← hL.out]; exact rf_len h1.out _
     have hxp : Hid (x < prodT L) := by show _ < _; rw [← hL.out, hy.out]; omega
     have hD2 : (D : Int) ≤ 100000 := by omega
     go_upto_region 11 with (first
      | (go_at_call 87; refine (KW.out _ (Below.refl _ _)).mono ?_; rintro e w3 ⟨rfl, b3⟩; replace b3 := hide b3)
      | (go_at_call 63; refine (KT.out _ b3.out).mono ?_; rintro e w5 ⟨v5, rfl, r5, b5⟩; replace b5 := hide b5)
      | fail)
     clear KT KW t1 hCa hSu hLe
     obtain ⟨ao, ca, rfl, q1, q2, q3⟩ := r5
     obtain ⟨M, hM⟩ : ∃ M, Hid (L.length = M) := ⟨_, rfl⟩
     rw [hM.out] at q1 ⊢
     have hM2 : (M : Int) ≤ 100000 := by have := hM.out; have := hl.out; omega
     replace q3 := hide q3
     have hDg : Hid ((digs L x).length = M) := by show _ = _; rw [digs_len, hM.out]
     obtain ⟨i0, hi0, hz0, hz1, hz2⟩ := info_parts infoKeep
     have B5 := hide (bs2 hB.out (bs2 b3.out b5.out))
     have N5 := hide ((B5.out.block _ (heap_lt N2.out)).trans N2.out)
     have BW5 := hide (bs2 B4.out (bs2 b2.out B5.out))
     go_upto_region 12 with (at_make; refine wpList_make_full w5 rfl _ _ 32 rfl w5.heap.size 88 i0 (.agg #[.int .i64 0, .slice none 0 0]) 2 Tryz.underlying32 hi0 hz0 hz1 .i64 .i64 _ _ M rfl rfl rfl rfl (by rw [hz2]; omega) (by unfold maxLen; omega) (Nat.le_refl _) ?_; intro w6 ho6 hg6)
     have hb6 : Hid (Below w5.heap.size w5 w6) := (Below.refl _ _).grown hg6 (Nat.le_refl _) (fun k hk => by simp at hk)
     rw [show (Value.agg #[.int .i64 0, .slice none 0 0]).cells = #[.int .i64 0, .slice none 0 0] from rfl, made_keeps] at ho6
     replace ho6 := hide ho6
     clear hg6 hi0 hz0 hz1 hz2
     have B7 := hide (box_below w6 (.cells #[.int .i64 (D : Int), .slice (some ⟨w5.heap.size, 0, none⟩) M M] 34))
     have N7 := hide (heap_alloc_new w6 (.cells #[.int .i64 (D : Int), .slice (some ⟨w5.heap.size, 0, none⟩) M M] 34))
     obtain ⟨w7, hw7⟩ : ∃ w7, Hid (w6.alloc (.cells #[.int .i64 (D : Int), .slice (some ⟨w5.heap.size, 0, none⟩) M M] 34) = w7) := ⟨_, rfl⟩
     rw [hw7.out] at B7 N7 ⊢
     have B57 := hide (bs2 hb6.out B7.out)
     have BW7 := hide (bs2 BW5.out B57.out)
     have N47 := hide ((B57.out.block _ (heap_lt N5.out)).trans N5.out)
     have O7 := hide (owns_belowN ho6.out B7.out)
     have z57 : Hid (w.heap.size < w5.heap.size ∧ w5.heap.size < w6.heap.size ∧ w5.heap.size < w7.heap.size) := ⟨heap_lt N5.out, (World.ownsRow.lt ho6.out _ rfl).2, by
      have a := heap_lt N7.out
      have b := hb6.out.size
      omega⟩
     have q5 : Hid (∀ b off u, b < w5.heap.size → w5.cell? ⟨b, off, none⟩ = some u → w7.cell? ⟨b, off, none⟩ = some u) := fun b off u hb hu => by rw [B57.out.cell (lt_of_cell hu)]; exact hu
     obtain ⟨g10, hg10⟩ : ∃ g10, Hid (w6.heap.size = g10) := ⟨_, rfl⟩
     obtain ⟨gr, hgr⟩ : ∃ gr, Hid (w5.heap.size = gr) := ⟨_, rfl⟩
     rw [hgr.out] at O7 N7 z57 q5
     rw [hg10.out] at N7 z57
     rw [hg10.out, hgr.out]
     clear ho6 hb6 B7 hw7
     have hzI : Hid (x < 1099511627776) := by show _ < _; have a := hx.out; have b := LI.out; unfold M40 at b; omega
     go_wp2_with fail
     go_loopw [1, 11] (fun v1 v11 wr => ∃ k z : Nat, k ≤ M ∧ v11 = .int .i64 ((k : Int) - 1) ∧ v1 = .int .i64 (z : Int) ∧ z < 1099511627776 ∧ Hid (z = x / prodT (L.drop k)) ∧ Hid (wr.ownsRow gr 88 2 (.slice (some ⟨gr, 0, none⟩) M M) M (kcells (List.replicate k 0 ++ (digs L x).drop k))) ∧ Hid (But (fun k => k = gr) w7 wr)) (fun _ v11 _ => ((intOf v11) + 1).toNat)
     case atStart =>
      refine ⟨M, x, Nat.le_refl _, by go_num, rfl, hzI.out, ?_, ?_, But.refl _ _⟩
      ·show _ = _
       rw [List.drop_of_length_le (by rw [hM.out]; exact Nat.le_refl _)]; simp [prodT]
      ·rw [List.drop_of_length_le (by rw [hDg.out]; exact Nat.le_refl _), List.append_nil]; exact O7
     case round =>
      clear hB hx
      obtain ⟨k1, z, hk, rfl, rfl, hz, ez, hO, hB⟩ := hrel
      have N7r := hB.out.at N7.out (fun c => by have := z57.out; omega)
      obtain ⟨p0, p1⟩ := two_cells N7r
      cases k1 with
      | zero =>
       have N4r := hB.out.at N47.out (fun c => by have := z57.out; omega)
       obtain ⟨y1', y2, y3, y4, y5, y6, y7, y8⟩ := two_store (.int .i64 (D : Int)) (.slice (some ⟨gr, 0, none⟩) M M) N4r
       have BE := hide (but_new (BW7.out.trans (hB.out.below BW7.out.size (fun k e => by have := z57.out; omega))) y6 (Nat.le_refl _))
       have OE : Hid (Ks w.heap.size ((wr.setCell ⟨w.heap.size, 0, none⟩ (.int .i64 (D : Int))).setCell ⟨w.heap.size, 1, none⟩ (.slice (some ⟨gr, 0, none⟩) M M)) (.slice (some ⟨gr, 0, none⟩) M M) (digs L x)) := by
        have := hO.out
        simp only [List.replicate_zero, List.nil_append, List.drop_zero] at this
        have t2 : Ks gr wr (.slice (some ⟨gr, 0, none⟩) M M) (digs L x) := by unfold Ks; rw [hDg.out]; exact this
        exact ks_but t2 y6 z57.out.1
       replace y5 := hide y5
       replace y6 := hide y6
       go_wp2_with fail
       try simp only [Exit.inBlock, Exit.then]
       refine bodyPost_ret (v := .tuple #[.agg #[.int .i64 (D : Int), .slice (some ⟨gr, 0, none⟩) M M], .int .i64 0]) (by simp [results, Tryz.results34, go_sem, y7, y8]; try rfl) rfl ?_
       refine ⟨BE.out, .inr ⟨by first | rfl | trivial, D, x, _, hF.out, rfl, ?_⟩⟩
       rw [hL.out]
       exact OE.out
      | succ k =>
       have i1 : ((k + 1 : Nat) : Int) - 1 = (k : Int) := by omega
       rw [i1]
       have i2 : (k : Int) < (M : Int) := by omega
       have hkl : k < L.length := by rw [hM.out]; omega
       obtain ⟨gb, off, rfl, c0, c1⟩ := q3.out k hkl
       have gl := lt_of_cell c0
       rw [hgr.out] at gl
       replace c0 := cell_but (q5.out _ _ _ gl c0) hB.out (by omega)
       replace c1 := cell_but (q5.out _ _ _ gl c1) hB.out (by omega)
       have hn := hs.out L[k] (List.getElem_mem hkl)
       have hdk : Hid (∀ h, (digs L x)[k]'h = z % (L[k].2 + 1)) := fun h => by
        have := digs_at L x k hxp.out hkl
        rw [List.getElem?_eq_getElem (by rw [hDg.out]; omega)] at this
        rw [ez.out]
        exact Option.some.inj this
       have hnx : Hid (z / (L[k].2 + 1) = x / prodT (L.drop k)) := by
        show _ = _
        rw [ez.out, List.drop_eq_getElem_cons hkl, prodT, Nat.div_div_eq_div_mul, Nat.mul_comm]
       generalize L[k].2 = n' at *
       generalize bsOf L[k].1 = s at *
       obtain ⟨d, hd⟩ : ∃ d, Hid (z % (n' + 1) = d) := ⟨_, rfl⟩
       obtain ⟨yy, hyy⟩ : ∃ y, Hid (z / (n' + 1) = y) := ⟨_, rfl⟩
       rw [hd.out] at hdk
       rw [hyy.out] at hnx
       have t1 : (z : Int).tmod ((n' : Int) + 1) = (d : Int) := by rw [Int.tmod_eq_emod_of_nonneg (by omega), ← hd.out]; exact (Int.natCast_emod z (n' + 1)).symm
       have t2 : (z : Int).tdiv ((n' : Int) + 1) = (yy : Int) := by rw [Int.tdiv_eq_ediv_of_nonneg (by omega), ← hyy.out]; exact (Int.natCast_ediv z (n' + 1)).symm
       have t3 : d ≤ 16777216 := by have := Nat.mod_lt z (show 0 < n' + 1 by omega); rw [hd.out] at this; omega
       have t4 : yy < 1099511627776 := by have := Nat.div_le_self z (n' + 1); rw [hyy.out] at this; omega
       have hst : Hid (kcells (List.replicate k 0 ++ (digs L x).drop k) = (kcells (List.replicate (k + 1) 0 ++ (digs L x).drop (k + 1))).set (k * 2) (.int .i64 (d : Int))) := by
        show _ = _
        rw [kcells_set, ← hdk.out (by rw [hDg.out]; omega), rest_set]
       obtain ⟨v0, k0⟩ : ∃ v0, wr.cell? ⟨gr, k * 2, none⟩ = some v0 := by
        refine Option.isSome_iff_exists.1 ?_
        rw [hO.out.cellAt (k * 2) (by omega)]
        have := kcells_len (List.replicate (k + 1) 0 ++ (digs L x).drop (k + 1))
        have h2 := hDg.out
        simp at this
        simp; omega
       have f0 : wr.frozen? ⟨gr, k * 2, none⟩ = false := hO.out.frozenAt _
       have OO : Hid ((wr.setCell ⟨gr, k * 2, none⟩ (.int .i64 (d : Int))).ownsRow gr 88 2 (.slice (some ⟨gr, 0, none⟩) M M) M (kcells (List.replicate k 0 ++ (digs L x).drop k))) := by rw [hst.out]; exact (hO.out.stored (k * 2) _).1
       have BO : Hid (But (fun k => k = gr) w7 (wr.setCell ⟨gr, k * 2, none⟩ (.int .i64 (d : Int)))) := hB.out.trans (But.of_grownBy (grown_setCell wr gr (k * 2) (.int .i64 (d : Int))) fun j e => by cases e; rfl)
       clear hO
       go_upto_region 16 with fail
       go_region
       have O9 := hide (owns_belowN OO.out (Below.refl _ _).drew)
       have B9 := hide (BO.out.trans (But.of_below (Below.refl _ _).drew _))
       generalize (wr.setCell ⟨gr, k * 2, none⟩ (.int .i64 (d : Int))).drew = w9 at *
       go_wp2_with fail
       go_roundw
       case rel => exact ⟨k, yy, by omega, by go_num, rfl, t4, hnx.out.symm ▸ rfl, O9, B9⟩
       case measure => simp [intOf]
  ·have hE : S.atE i = 8 := by unfold DS.atE; rw [if_pos hw, if_neg (by rw [hn.out]; exact hi)]
   rw [hE]
   go_enter Tryz.func34, Tryz.ntmps34
   go_upto_region 1 with fail
   rw [hw1.out]
   go_upto_region 2 with (first
    | (go_at_call 32; refine hW.mono ?_; rintro e w2 ⟨rfl, b2⟩; replace b2 := hide b2)
    | fail)
   have N2 := (b2.out.block _ (heap_lt N4.out)).trans N4.out
   obtain ⟨y1, y2, y3, y4, y5, y6, y7, y8⟩ := two_store (.int .i64 0) (.slice none 0 0) N2
   replace y5 := hide y5
   have BE := hide (but_new (bs2 B4.out b2.out) y6 (Nat.le_refl _))
   replace y6 := hide y6
   by_cases c1 : i < 0
   ·go_wp2_with fail
    try simp only [Exit.inBlock, Exit.then]
    refine bodyPost_ret (v := .tuple #[.agg #[.int .i64 0, .slice none 0 0], .int .i64 8]) (by simp [results, Tryz.results34, go_sem, y7, y8]; try rfl) rfl ?_
    first
     | exact ⟨BE.out, .inl ⟨by decide, rfl⟩⟩
     | exact ⟨BE.out, rfl⟩
   ·have c2 : i ≥ (n : Int) := by omega
    go_wp2_with fail
    try simp only [Exit.inBlock, Exit.then]
    refine bodyPost_ret (v := .tuple #[.agg #[.int .i64 0, .slice none 0 0], .int .i64 8]) (by simp [results, Tryz.results34, go_sem, y7, y8]; try rfl) rfl ?_
    first
     | exact ⟨BE.out, .inl ⟨by decide, rfl⟩⟩
     | exact ⟨BE.out, rfl⟩
 ·have hcnt : S.cnt = ([], 0, 9) := by unfold DS.cnt; rw [if_neg hw]
  simp only [hcnt] at hW
  have hE : S.atE i = 9 := by unfold DS.atE; rw [if_neg hw]
  rw [hE]
  go_enter Tryz.func34, Tryz.ntmps34
  go_upto_region 1 with fail
  rw [hw1.out]
  go_upto_region 2 with (first
   | (go_at_call 32; refine hW.mono ?_; rintro e w2 ⟨rfl, b2⟩; replace b2 := hide b2)
   | fail)
  have N2 := (b2.out.block _ (heap_lt N4.out)).trans N4.out
  obtain ⟨y1, y2, y3, y4, y5, y6, y7, y8⟩ := two_store (.int .i64 0) (.slice none 0 0) N2
  replace y5 := hide y5
  have BE := hide (but_new (bs2 B4.out b2.out) y6 (Nat.le_refl _))
  replace y6 := hide y6
  go_wp2_with fail
  try simp only [Exit.inBlock, Exit.then]
  refine bodyPost_ret (v := .tuple #[.agg #[.int .i64 0, .slice none 0 0], .int .i64 9]) (by simp [results, Tryz.results34, go_sem, y7, y8]; try rfl) rfl ?_
  first
   | exact ⟨BE.out, .inl ⟨by decide, rfl⟩⟩
   | exact ⟨BE.out, rfl⟩
theorem rNumber_any {w : World} {rb : Nat} {S : DS} {R : RB} {V : RV} (h : Rf w rb S R V) (d : Int) (n0 : -9223372036854775808 ≤ d) (n1 : d ≤ 9223372036854775807) (vk : Value) (ks : List Kep) (Z : Nat → Prop) (hk : Kp Z w vk ks) :
    Calls Tryz.prog 40 #[.pointer (some ⟨rb, 0, none⟩), .agg #[.int .i64 d, vk]] w fun e w' => e = .returned (.tuple #[.int .i64 (S.numE d ks).1, .int .i64 (S.numE d ks).2]) ∧ Below w.heap.size w w' := by
 have HK := hide hk
 obtain ⟨ak, ck, rfl, p1, p2, p3⟩ := hk
 have p2' : (ck : Int) ≤ 9223372036854775807 := by unfold maxLen at p2; omega
 obtain ⟨M, hM⟩ : ∃ M, Hid (ks.length = M) := ⟨_, rfl⟩
 rw [hM.out] at p1 HK ⊢
 have B4 := hide (box_below w (.cells #[.int .i64 d, .slice ak M ck] 34))
 have N4 := hide (heap_alloc_new w (.cells #[.int .i64 d, .slice ak M ck] 34))
 obtain ⟨w1, hw1⟩ : ∃ w1, Hid (w.alloc (.cells #[.int .i64 d, .slice ak M ck] 34) = w1) := ⟨_, rfl⟩
 rw [hw1.out] at B4 N4
 have h1 := hide (h.below B4.out)
 have hW := rWays_any h1.out
 replace p3 := hide p3
 clear h p2
 obtain ⟨X, hX⟩ : ∃ X, Hid (S.numE d ks = X) := ⟨_, rfl⟩
 rw [hX.out]
 by_cases hw : S.ways ≤ M40
 ·have hcnt : S.cnt = (S.cnts (S.P.length + 1), (S.ways : Int), 0) := by unfold DS.cnt; rw [if_pos hw]
  simp only [hcnt] at hW
  clear hcnt
  obtain ⟨N, hN⟩ : ∃ N, Hid (S.P.length = N) := ⟨_, rfl⟩
  obtain ⟨D, hD⟩ : ∃ D, Hid (wthn d N = D) := ⟨_, rfl⟩
  have hDN : D ≤ N := by rw [← hD.out]; exact wthn_le _ _
  have hNb : (N : Int) ≤ 100000 := by have := h1.out.few; rw [← hN.out]; omega
  have hRe : Hid (X = ((((S.cnts D).sum + numK (S.tails (D : Int)) ks : Nat) : Int), 0)) := by show _ = _; rw [← hX.out]; unfold DS.numE; rw [if_pos hw, hN.out, hD.out]
  have hPe : Hid (R.pe.length = N) := by show _ = _; rw [← hN.out]; exact h1.out.few.2.2.symm
  have htot : Hid ((((S.cnts D).sum + numK (S.tails (D : Int)) ks : Nat) : Int) ≤ 1099511627776 ∧ prodT (S.tails (D : Int)) ≤ M40 ∧ (S.cnts (D + 1)).sum ≤ M40) := by
   have h1 := cnts_mono S (show D + 1 ≤ S.P.length + 1 by rw [hN.out]; omega)
   have h2 := cnts_sum S D
   have h3 := numK_lt (S.tails (D : Int)) ks (S.tails (D : Int)).length
   rw [List.take_length] at h3
   unfold DS.ways M40 at hw
   refine ⟨?_, ?_, ?_⟩
   ·unfold numK; omega
   ·unfold M40; omega
   ·unfold M40; omega
  replace hw := hide hw
  obtain ⟨wy, hwy⟩ : ∃ wy, Hid (S.ways = wy) := ⟨_, rfl⟩
  rw [hwy.out] at hW
  go_enter Tryz.func40, Tryz.ntmps40
  go_upto_region 1 with fail
  rw [hw1.out]
  go_upto_region 4 with (first
   | (go_at_call 32; refine hW.mono ?_; rintro e w2 ⟨rfl, b2⟩; replace b2 := hide b2)
   | fail)
  clear hW
  have h2 := hide (h1.out.below b2.out)
  have N2 := hide ((b2.out.block _ (heap_lt N4.out)).trans N4.out)
  obtain ⟨x0, x1⟩ := two_cells N2.out
  obtain ⟨pa, pc, q0, q1, q2⟩ := h2.out.rm.pend
  rw [hPe.out] at q0 q1
  go_cut [8] from 23 to 31 (fun y wx => y = .int .i64 (D : Int) ∧ Hid (Below w2.heap.size w2 wx))
  case first =>
   have hq := hD.out
   unfold wthn at hq
   go_quiet (fail)
   all_goals
    go_wp2_with fail
    go_meet
    case rel => exact ⟨by first | rfl | (congr 1; omega), Qt.below ⟨_, rfl⟩ _⟩
  case rest =>
   obtain ⟨rfl, hbc⟩ := hcut
   have hc3 := hide (h2.out.below hbc.out)
   have N3 := hide ((hbc.out.block _ (heap_lt N2.out)).trans N2.out)
   have B03 := hide (bs2 B4.out (bs2 b2.out hbc.out))
   have hmono : Hid (∀ k, k ≤ D → (S.cnts k).sum ≤ (S.cnts D).sum ∧ (k < D → capT (S.tails (k : Int)) = prodT (S.tails (k : Int)))) := fun k hk => ⟨cnts_mono S hk, fun hl => cap_eq (Nat.le_trans (cnts_mono S (show k + 1 ≤ D + 1 by omega)) htot.out.2.2)⟩
   clear x0 x1 q0 q1 q2
   go_wp2_with fail
   go_loopw [9, 10] (fun v9 vi wr => ∃ k x : Nat, vi = .int .i64 k ∧ k ≤ D ∧ v9 = .int .i64 x ∧ Hid (x = (S.cnts k).sum) ∧ Hid (Below wc.heap.size wc wr)) (fun _ vi _ => D - (intOf vi).toNat)
   case atStart => exact ⟨0, 0, rfl, Nat.zero_le _, rfl, by show _ = _; simp [DS.cnts], Below.refl _ _⟩
   case round =>
    obtain ⟨k, x, rfl, hk, rfl, ex, hB⟩ := hrel
    by_cases hlt : k < D
    ·have i1 : (k : Int) < (D : Int) := by omega
     have hWk := rways_any (hc3.out.below hB.out) (k : Int)
     rw [(hmono.out k (by omega)).2 hlt] at hWk
     have hsum : Hid ((S.cnts (k + 1)).sum = (S.cnts k).sum + prodT (S.tails (k : Int))) := cnts_sum S k
     have hmo := (hmono.out (k + 1) (by omega)).1
     obtain ⟨c, hcc⟩ : ∃ c, Hid (prodT (S.tails (k : Int)) = c) := ⟨_, rfl⟩
     rw [hcc.out] at hWk hsum
     have hb2 : (x : Int) + (c : Int) ≤ 1099511627776 := by have h1 := ex.out; have h2 := hsum.out; have h3 := htot.out.1; omega
     clear hmo
     go_wp2_with (first
      | (go_at_call 87; refine hWk.mono ?_; rintro e w4 ⟨rfl, b4⟩; replace b4 := hide b4)
      | fail)
     go_roundw
     case rel => exact ⟨k + 1, x + c, by go_num, by omega, by go_num, by show _ = _; have h1 := ex.out; have h2 := hsum.out; omega, bs2 hB.out b4.out⟩
     case measure => simp [intOf]; omega
    ·obtain rfl : k = D := by omega
     have i1 : ¬ ((k : Int) < (k : Int)) := by omega
     obtain ⟨L, hL⟩ : ∃ L, Hid (S.tails (k : Int) = L) := ⟨_, rfl⟩
     have hT := rf_tails (hc3.out.below hB.out) (k : Int)
     have hs := hide (rf_small h1.out (k : Int))
     rw [hL.out] at hT hs htot hRe
     go_upto_region 11 with (first
      | (go_at_call 63; refine hT.mono ?_; rintro e w5 ⟨v5, rfl, r5, b5⟩; replace b5 := hide b5)
      | fail)
     clear hT
     obtain ⟨ao, ca, rfl, q1, q2, q3⟩ := r5
     obtain ⟨T, hT⟩ : ∃ T, Hid (L.length = T) := ⟨_, rfl⟩
     rw [hT.out] at q1 ⊢
     replace q3 := hide q3
     have B35 := hide (bs2 hB.out b5.out)
     have N5 := hide ((B35.out.block _ (heap_lt N3.out)).trans N3.out)
     have B05 := hide (bs2 B03.out B35.out)
     go_wp2_with fail
     go_loopw [12, 13] (fun v12 vi wr => ∃ m y : Nat, vi = .int .i64 m ∧ m ≤ T ∧ v12 = .int .i64 y ∧ Hid (y = numb (L.take m) (kdig L ks)) ∧ Hid (Below w5.heap.size w5 wr)) (fun _ vi _ => T - (intOf vi).toNat)
     case atStart => exact ⟨0, 0, rfl, Nat.zero_le _, rfl, rfl, Below.refl _ _⟩
     case round =>
      obtain ⟨m, y, rfl, hm, rfl, ey0, hC⟩ := hrel
      by_cases hml : m < T
      ·have i2 : (m : Int) < (T : Int) := by omega
       have hkl : m < L.length := by rw [hT.out]; exact hml
       obtain ⟨gb, off, rfl, c0, c1⟩ := q3.out m hkl
       have hn := hs.out L[m] (List.getElem_mem hkl)
       have ey := numK_take L ks m hkl
       have ez := numK_lt L ks (m + 1)
       have ez2 := htot.out.2.1
       unfold M40 at ez2
       obtain ⟨z, hz⟩ : ∃ z, Hid (z = numb (L.take (m + 1)) (kdig L ks)) := ⟨_, rfl⟩
       rw [← hz.out, ← ey0.out] at ey
       rw [← hz.out] at ez
       have z1 : (z : Int) ≤ 1099511627776 := by omega
       have KC : Hid (∀ q, Below w5.heap.size w5 q → q.cell? ⟨gb, off + m * 2, none⟩ = some (.string (bsOf L[m].1)) ∧ q.cell? ⟨gb, off + m * 2 + 1, none⟩ = some (.int .i64 (L[m].2 : Int))) := fun q hq => ⟨by rw [hq.cell (lt_of_cell c0)]; exact c0, by rw [hq.cell (lt_of_cell c1)]; exact c1⟩
       clear c0 c1
       generalize L[m].2 = nn at *
       generalize bsOf L[m].1 = s at *
       obtain ⟨u, hu⟩ : ∃ u, Hid (u = y * (nn + 1)) := ⟨_, rfl⟩
       rw [← hu.out] at ey
       have t5 : (y : Int) * ((nn : Int) + 1) = (u : Int) := by rw [hu.out]; norm_cast
       have u1 : (u : Int) ≤ 1099511627776 := by omega
       obtain ⟨x0, x1⟩ := two_cells ((hC.out.block _ (heap_lt N5.out)).trans N5.out)
       obtain ⟨c0, c1⟩ := KC.out wr hC.out
       by_cases hmk : m < M
       ·have i3 : (m : Int) < (M : Int) := by omega
        obtain ⟨kb, koff, vj, rfl, _, k1, _, _, _, m0, m1⟩ := p3.out m (by rw [hM.out]; exact hmk)
        rw [← (bs2 B05.out hC.out).cell (lt_of_cell k1)] at k1
        have ed : Hid (ks.getD m (0, []) = ks[m]'(by rw [hM.out]; exact hmk)) := by show _ = _; simp [List.getD_eq_getElem?_getD, List.getElem?_eq_getElem (show m < ks.length by rw [hM.out]; exact hmk)]
        rw [ed.out] at ey
        generalize (ks[m]'(by rw [hM.out]; exact hmk)).1 = kn at *
        obtain ⟨dd, hd⟩ : ∃ d, Hid (wthn kn nn = d) := ⟨_, rfl⟩
        rw [hd.out] at ey
        have d1 : (dd : Int) ≤ 16777216 := by have := wthn_le kn nn; rw [hd.out] at this; omega
        go_upto_region 17 with fail
        have hq := hd.out
        unfold wthn at hq
        have QB : Hid (∀ n, Below wr.heap.size wr (wr.drewN n)) := fun n => Qt.below ⟨n, rfl⟩ _
        have KC2 : Hid (∀ n, (wr.drewN n).cell? ⟨gb, off + m * 2, none⟩ = some (.string s) ∧ (wr.drewN n).cell? ⟨gb, off + m * 2 + 1, none⟩ = some (.int .i64 (nn : Int))) := fun n => KC.out _ (bs2 hC.out (QB.out n))
        go_quiet (fail)
        all_goals
         obtain ⟨c0', c1'⟩ := KC2.out nq
         have B9 := hide (QB.out nq)
         generalize wr.drewN nq = w9 at *
         go_wp2_with fail
         go_roundw
         case rel => exact ⟨m + 1, z, by go_num, by omega, by first | go_num | (congr 1; omega), hz.out, bs2 hC.out B9.out⟩
         case measure => simp [intOf]; omega
       ·have i3 : ¬ ((m : Int) < (M : Int)) := by omega
        have ed : Hid (ks.getD m (0, []) = (0, [])) := by show _ = _; rw [List.getD_eq_getElem?_getD, List.getElem?_eq_none (by rw [hM.out]; omega)]; rfl
        rw [ed.out] at ey
        have ew : wthn ((0 : Int), ([] : List UInt8)).1 nn = 0 := by unfold wthn; simp
        rw [ew] at ey
        have t6 : (u : Int) = (z : Int) := by omega
        go_wp2_with fail
        go_roundw
        case rel => exact ⟨m + 1, z, by go_num, by omega, by first | go_num | (congr 1), hz.out, hC⟩
        case measure => simp [intOf]; omega
      ·obtain rfl : m = T := by omega
       have i2 : ¬ ((m : Int) < (m : Int)) := by omega
       rw [List.take_of_length_le (by rw [hT.out]; omega)] at ey0
       have t7 : (x : Int) + (y : Int) ≤ 1099511627776 := by have a := htot.out.1; have b := ex.out; have c := ey0.out; unfold numK at a; omega
       go_wp2_with fail
       go_ret2
       refine ⟨?_, bs2 B05.out hC.out⟩
       rw [hRe.out]
       unfold numK
       rw [← ex.out, ← ey0.out]
       push_cast
       rfl
 ·have hcnt : S.cnt = ([], 0, 9) := by unfold DS.cnt; rw [if_neg hw]
  simp only [hcnt] at hW
  have hRe : X = (0, 9) := by rw [← hX.out]; unfold DS.numE; rw [if_neg hw]
  subst hRe
  go_enter Tryz.func40, Tryz.ntmps40
  go_upto_region 1 with fail
  rw [hw1.out]
  go_wp2_with (first
   | (go_at_call 32; refine hW.mono ?_; rintro e w2 ⟨rfl, b2⟩; replace b2 := hide b2)
   | fail)
  go_ret2
  exact ⟨rfl, bs2 B4.out b2.out⟩
def blF (vF : Value) (T : List (Value × Value)) : Nat → Option Nat
 | 0 => vF.ownBlock
 | n + 1 => if n % 2 = 0 then (T[n / 2]?).bind (fun t => t.1.ownBlock) else (T[n / 2]?).bind (fun t => t.2.ownBlock)
theorem blF_N (vF : Value) (T : List (Value × Value)) {i : Nat} (h : i < T.length) : blF vF T (2 * i + 1) = T[i].1.ownBlock := by
 show (if (2 * i) % 2 = 0 then _ else _) = _
 rw [if_pos (by omega), show 2 * i / 2 = i by omega, List.getElem?_eq_getElem h]
 rfl
theorem blF_L (vF : Value) (T : List (Value × Value)) {i : Nat} (h : i < T.length) : blF vF T (2 * i + 2) = T[i].2.ownBlock := by
 show (if (2 * i + 1) % 2 = 0 then _ else _) = _
 rw [if_neg (by omega), show (2 * i + 1) / 2 = i by omega, List.getElem?_eq_getElem h]
 rfl
theorem blF_cases {vF : Value} {T : List (Value × Value)} {x k : Nat} (h : blF vF T x = some k) : (x = 0 ∧ vF.ownBlock = some k) ∨ ∃ i, ∃ hi : i < T.length, (x = 2 * i + 1 ∧ T[i].1.ownBlock = some k) ∨ (x = 2 * i + 2 ∧ T[i].2.ownBlock = some k) := by
 cases x with
 | zero => exact .inl ⟨rfl, h⟩
 | succ n =>
  right
  have h' : (if n % 2 = 0 then (T[n / 2]?).bind (fun t => t.1.ownBlock) else (T[n / 2]?).bind (fun t => t.2.ownBlock)) = some k := h
  by_cases hl : n / 2 < T.length
  ·rw [List.getElem?_eq_getElem hl] at h'
   refine ⟨n / 2, hl, ?_⟩
   split at h'
   ·exact .inl ⟨by omega, h'⟩
   ·exact .inr ⟨by omega, h'⟩
  ·rw [List.getElem?_eq_none (by omega)] at h'
   split at h' <;> simp at h'
structure CR (q : World) (B : Nat) (F : List FD) (vF : Value) (T : List (Value × Value)) : Prop where
 row : q.ownsRow B 138 3 vF F.length (fcells F T)
 ln : T.length = F.length
 nn : ∀ i (h : i < F.length), Oc B q (T[i]'(by omega)).1 F[i].1 ∧ Oc B q (T[i]'(by omega)).2 F[i].2.1
 ds : Dis (blF vF T)
theorem CR.nil (q : World) (B : Nat) : CR q B [] (.slice none 0 0) [] :=
 ⟨World.ownsRow_nil _ _ _ _, rfl, fun i h => by simp at h, fun x y hxy k h1 h2 => by
  rcases blF_cases h1 with ⟨_, e⟩ | ⟨i, hi, _⟩
  ·simp [Value.ownBlock] at e
  ·simp at hi⟩
theorem CR.lt {q : World} {B : Nat} {F : List FD} {vF : Value} {T : List (Value × Value)} (h : CR q B F vF T) : ∀ x k, blF vF T x = some k → B ≤ k ∧ k < q.heap.size := fun x k e => by
 rcases blF_cases e with ⟨_, e⟩ | ⟨i, hi, ⟨_, e⟩ | ⟨_, e⟩⟩
 ·exact World.ownsRow.lt h.row k e
 ·exact (h.nn i (by rw [← h.ln]; exact hi)).1.lt k e
 ·exact (h.nn i (by rw [← h.ln]; exact hi)).2.lt k e
theorem CR.but {X : Nat → Prop} {q q' : World} {B : Nat} {F : List FD} {vF : Value} {T : List (Value × Value)} (h : CR q B F vF T) (hb : But X q q') (hX : ∀ k, X k → k < B ∨ q.heap.size ≤ k) : CR q' B F vF T := by
 have no : ∀ x k, blF vF T x = some k → ¬ X k := fun x k e c => by have := h.lt x k e; have := hX k c; omega
 refine ⟨ownsRow_but h.row hb (fun k hk => no 0 k hk), h.ln, fun i hi => ?_, h.ds⟩
 have hl : i < T.length := by rw [h.ln]; exact hi
 obtain ⟨a, b⟩ := h.nn i hi
 exact ⟨a.but hb (fun k hk => no (2 * i + 1) k (by rw [blF_N vF T hl]; exact hk)), b.but hb (fun k hk => no (2 * i + 2) k (by rw [blF_L vF T hl]; exact hk))⟩
theorem fcells_snocR (F : List FD) (T : List (Value × Value)) (h : T.length = F.length) (f : FD) (t : Value × Value) : fcells (F ++ [f]) (T ++ [t]) = fcells F T ++ [t.1, t.2, .int .i64 f.2.2] := by
 unfold fcells
 rw [List.zip_append h.symm]
 simp
theorem CR.snoc {q q1 q2 : World} {B : Nat} {F : List FD} {vF vF2 u1 u2 : Value} {T : List (Value × Value)} {f : FD} (h : CR q B F vF T) (hB : B ≤ q.heap.size) (hb : Below q.heap.size q q1) (o1 : Oc q.heap.size q1 u1 f.1) (o2 : Oc q.heap.size q1 u2 f.2.1) (hd : ∀ k, u1.ownBlock = some k → u2.ownBlock ≠ some k)
    (hr : q2.ownsRow B 138 3 vF2 (F.length + 1) (fcells F T ++ [u1, u2, .int .i64 f.2.2])) (hg : q1.grownBy q2 vF.ownBlock) (hv : vF2.ownBlock = vF.ownBlock ∨ vF2.ownBlock = some q1.heap.size) : CR q2 B (F ++ [f]) vF2 (T ++ [(u1, u2)]) := by
 have hG := But.of_grownBy (X := fun k => vF.ownBlock = some k) hg fun k e => e
 have vlt : ∀ k, vF.ownBlock = some k → k < q.heap.size := fun k hk => (World.ownsRow.lt h.row k hk).2
 have hz := hb.size
 refine ⟨?_, by simp [h.ln], fun i hi => ?_, ?_⟩
 ·rw [fcells_snocR F T h.ln, List.length_append]; exact hr
 ·by_cases hlt : i < F.length
  ·have hl : i < T.length := by rw [h.ln]; exact hlt
   obtain ⟨a, b⟩ := h.nn i hlt
   have e1 : ((T ++ [(u1, u2)])[i]'(by simp; omega)) = T[i] := List.getElem_append_left hl
   have e2 : ((F ++ [f])[i]'hi) = F[i] := List.getElem_append_left hlt
   rw [e1, e2]
   refine ⟨(a.below hb).but hG (fun k hk c => h.ds (2 * i + 1) 0 (by omega) k (by rw [blF_N vF T hl]; exact hk) c), (b.below hb).but hG (fun k hk c => h.ds (2 * i + 2) 0 (by omega) k (by rw [blF_L vF T hl]; exact hk) c)⟩
  ·have hie : i = F.length := by simp at hi; omega
   have e1 : ((T ++ [(u1, u2)])[i]'(by simp [h.ln]; omega)) = (u1, u2) := by simp [hie, ← h.ln]
   have e2 : ((F ++ [f])[i]'hi) = f := by simp [hie]
   rw [e1, e2]
   exact ⟨(o1.low hB).but hG (fun k hk c => by have := (o1.lt k hk).1; have := vlt k c; omega), (o2.low hB).but hG (fun k hk c => by have := (o2.lt k hk).1; have := vlt k c; omega)⟩
 ·have cl : ∀ x k, blF vF2 (T ++ [(u1, u2)]) x = some k → (x = 0 ∧ vF2.ownBlock = some k) ∨ (x ≠ 0 ∧ blF vF T x = some k ∧ k < q.heap.size) ∨ (x = 2 * T.length + 1 ∧ u1.ownBlock = some k) ∨ (x = 2 * T.length + 2 ∧ u2.ownBlock = some k) := fun x k e => by
    rcases blF_cases e with ⟨a, b⟩ | ⟨i, hi, c⟩
    ·exact .inl ⟨a, b⟩
    ·by_cases hl : i < T.length
     ·have e1 : ((T ++ [(u1, u2)])[i]'hi) = T[i] := List.getElem_append_left hl
      rw [e1] at c
      right; left
      rcases c with ⟨rfl, c⟩ | ⟨rfl, c⟩
      ·have := (blF_N vF T hl).trans c
       exact ⟨by omega, this, (h.lt _ _ this).2⟩
      ·have := (blF_L vF T hl).trans c
       exact ⟨by omega, this, (h.lt _ _ this).2⟩
     ·have hie : i = T.length := by simp at hi; omega
      subst hie
      have e1 : ((T ++ [(u1, u2)])[T.length]'hi) = (u1, u2) := by simp
      rw [e1] at c
      rcases c with ⟨rfl, c⟩ | ⟨rfl, c⟩
      ·exact .inr (.inr (.inl ⟨rfl, c⟩))
      ·exact .inr (.inr (.inr ⟨rfl, c⟩))
  have vn : ∀ k, vF2.ownBlock = some k → (vF.ownBlock = some k ∧ k < q.heap.size) ∨ k = q1.heap.size := fun k hk => by
   rcases hv with e | e
   ·rw [e] at hk; exact .inl ⟨hk, vlt k hk⟩
   ·rw [e] at hk; exact .inr (by simpa using hk.symm)
  intro x y hxy k h1 h2
  rcases cl x k h1 with ⟨ex, a⟩ | ⟨ex, a, a'⟩ | ⟨ex, a⟩ | ⟨ex, a⟩ <;> rcases cl y k h2 with ⟨ey, c⟩ | ⟨ey, c, c'⟩ | ⟨ey, c⟩ | ⟨ey, c⟩
  ·omega
  ·rcases vn k a with ⟨v, _⟩ | v
   ·exact h.ds 0 y (by omega) k v c
   ·omega
  ·have := o1.lt k c; rcases vn k a with ⟨_, v⟩ | v <;> omega
  ·have := o2.lt k c; rcases vn k a with ⟨_, v⟩ | v <;> omega
  ·rcases vn k c with ⟨v, _⟩ | v
   ·exact h.ds 0 x (by omega) k v a
   ·omega
  ·exact h.ds x y hxy k a c
  ·have := o1.lt k c; omega
  ·have := o2.lt k c; omega
  ·have := o1.lt k a; rcases vn k c with ⟨_, v⟩ | v <;> omega
  ·have := o1.lt k a; omega
  ·omega
  ·exact hd k a c
  ·have := o2.lt k a; rcases vn k c with ⟨_, v⟩ | v <;> omega
  ·have := o2.lt k a; omega
  ·exact hd k c a
  ·omega
theorem RM.copied {q : World} {c B H1 H2 H3 H4 : Nat} {R : RB} {V : RV} (box : q.heap[c]? = some (.cells (R.cs V) TRD (0, 0))) (cr : CR q B R.F V.vF V.T) (hcB : c < B) (dd : En 0 q V.vD R.dir) (oo : En 0 q V.vO R.old) (pp : Pn 0 q V.vP R.pe) (aa : q.ownsRow 0 118 3 V.vA R.fs.length (acells R.fs))
    (kF : ∀ x k, blF V.vF V.T x = some k → k < H1) (kD : ∀ k, V.vD.ownBlock = some k → H1 ≤ k ∧ k < H2) (kO : ∀ k, V.vO.ownBlock = some k → H2 ≤ k ∧ k < H3) (kP : ∀ k, V.vP.ownBlock = some k → H3 ≤ k ∧ k < H4) (kA : ∀ k, V.vA.ownBlock = some k → H4 ≤ k) (h1 : B ≤ H1) (h2 : H1 ≤ H2) (h3 : H2 ≤ H3) (h4 : H3 ≤ H4) : RM q c R V ∧ ∀ x k, blk c V x = some k → c ≤ k := by
 have cl : ∀ x k, blk c V x = some k → (x = 0 ∧ k = c) ∨ (∃ z, blF V.vF V.T z = some k ∧ ((x = 1 ∧ z = 0) ∨ (x = z + 5 ∧ 1 ≤ z))) ∨ (x = 2 ∧ V.vD.ownBlock = some k) ∨ (x = 3 ∧ V.vO.ownBlock = some k) ∨ (x = 4 ∧ V.vP.ownBlock = some k) ∨ (x = 5 ∧ V.vA.ownBlock = some k) := fun x k e => by
  match x, e with
  | 0, e => exact .inl ⟨rfl, by simpa [blk] using e.symm⟩
  | 1, e => exact .inr (.inl ⟨0, e, .inl ⟨rfl, rfl⟩⟩)
  | 2, e => exact .inr (.inr (.inl ⟨rfl, e⟩))
  | 3, e => exact .inr (.inr (.inr (.inl ⟨rfl, e⟩)))
  | 4, e => exact .inr (.inr (.inr (.inr (.inl ⟨rfl, e⟩))))
  | 5, e => exact .inr (.inr (.inr (.inr (.inr ⟨rfl, e⟩))))
  | n + 6, e => exact .inr (.inl ⟨n + 1, e, .inr ⟨by omega, by omega⟩⟩)
 have rg : ∀ x k, blk c V x = some k → (x = 0 ∧ k = c) ∨ ((x = 1 ∨ 6 ≤ x) ∧ B ≤ k ∧ k < H1 ∧ k < q.heap.size) ∨ (x = 2 ∧ H1 ≤ k ∧ k < H2 ∧ k < q.heap.size) ∨ (x = 3 ∧ H2 ≤ k ∧ k < H3 ∧ k < q.heap.size) ∨ (x = 4 ∧ H3 ≤ k ∧ k < H4 ∧ k < q.heap.size) ∨ (x = 5 ∧ H4 ≤ k ∧ k < q.heap.size) := fun x k e => by
  rcases cl x k e with h | ⟨z, hz, h⟩ | ⟨h, e⟩ | ⟨h, e⟩ | ⟨h, e⟩ | ⟨h, e⟩
  ·exact .inl h
  ·have := cr.lt z k hz; have := kF z k hz
   exact .inr (.inl ⟨by omega, by omega, by omega, by omega⟩)
  ·have := kD k e; have := (World.ownsRow.lt dd k e).2; omega
  ·have := kO k e; have := (World.ownsRow.lt oo k e).2; omega
  ·have := kP k e; have := (World.ownsRow.lt pp k e).2; omega
  ·have := kA k e; have := (World.ownsRow.lt aa k e).2; omega
 refine ⟨⟨box, dd, oo, pp, aa, ?_, cr.ln, fun i hi => ?_, fun x y hxy k e1 e2 => ?_, fun x k e => ?_⟩, fun x k e => ?_⟩
 ·exact ownsRow_base_a cr.row (Nat.zero_le _)
 ·obtain ⟨a, b⟩ := cr.nn i hi
  exact ⟨a.low (Nat.zero_le _), b.low (Nat.zero_le _)⟩
 ·have r1 := rg x k e1
  have r2 := rg y k e2
  by_cases hx : x = 1 ∨ 6 ≤ x
  ·by_cases hy : y = 1 ∨ 6 ≤ y
   ·rcases cl x k e1 with h | ⟨z, hz, h⟩ | ⟨h, e⟩ | ⟨h, e⟩ | ⟨h, e⟩ | ⟨h, e⟩ <;> try omega
    rcases cl y k e2 with h' | ⟨z', hz', h'⟩ | ⟨h', e'⟩ | ⟨h', e'⟩ | ⟨h', e'⟩ | ⟨h', e'⟩ <;> try omega
    exact cr.ds z z' (by omega) k hz hz'
   ·omega
  ·omega
 ·have := rg x k e
  have := heap_lt box
  omega
 ·have := rg x k e
  omega
theorem run_dup {w : World} {v : Value} {n sz by_ : Nat} {xs : List Value} {T U : TypeId} {i0 : TypeInfo} {z : Value} (h : w.ownsRow 0 T sz v n xs) (hU : Tryz.prog.underlying U = some (.slice T)) (hi : Tryz.prog.info? T = some i0) (hz0 : i0.zero = some z) (hz1 : i0.size = sz) (hz2 : i0.bytes = by_) (hzs : z.cells.size = sz) (hs : 0 < sz) (hx : xs.length = n * sz) (h1 : ∀ u ∈ xs, u.oneCell' = true) (hn : n ≤ 1000000) (hb : by_ ≤ 1000) (ty : TypeId) :
    ∃ v' w', (Builtin.append_ #[U, U] ty #[.slice none 0 0, v]).run Tryz.prog w = .ok v' w' ∧ w'.ownsRow w.heap.size T sz v' n xs ∧ Below w.heap.size w w' := by
 rcases id h.2 with ⟨e, e0⟩ | ⟨g, cap, cur, e, hB, hc, a1, a2, a3, a4⟩
 ·subst e
  have : xs = [] := by cases xs with | nil => rfl | cons a b => simp [e0] at hx
  subst this
  subst e0
  exact ⟨.slice none 0 0, w, run_append_owned_none (P := Tryz.prog) (w := w) w.heap.size U ty T i0 sz hU hi (.slice none 0 0) 0 [] (World.ownsRow_nil _ _ _ _), World.ownsRow_nil _ _ _ _, Below.refl _ _⟩
 ·subst e
  have hby : n * by_ ≤ 1000000 * 1000 := Nat.mul_le_mul hn hb
  obtain ⟨v', w', hr, ho, hg, _, _⟩ := run_append_own_at (P := Tryz.prog) w w.heap.size U ty T i0 z sz by_ hU hi hz0 hz1 hz2 hzs hs (.slice none 0 0) 0 [] (World.ownsRow_nil _ _ _ _) ⟨g, 0, none⟩ n cap xs hx (World.ownsRow.cells h (g := g) rfl) h1 (by unfold maxLen; omega) (by rw [Nat.zero_add]; omega) (Nat.le_refl _)
  refine ⟨v', w', hr, by simpa using ho, (Below.refl _ _).grown hg (Nat.le_refl _) (fun k hk => by simp [Value.ownBlock] at hk)⟩
open Ix (wp_region_T wpAnyT wpAnyT_take wpAnyT_one wpAnyT_done vac)
structure Lc (c g5 : Nat) (cs : Array Value) (x1 x2 : Value) (sp : Int) (q : World) : Prop where
 g : q.heap[c]? = some (.cells cs TRD (0, 0))
 f : q.heap[g5]? = some (.cells #[x1, x2, .int .i64 sp] 138 (0, 0))
theorem Lc.but {c g5 : Nat} {cs : Array Value} {x1 x2 : Value} {sp : Int} {q q' : World} {X : Nat → Prop} (h : Lc c g5 cs x1 x2 sp q) (hb : But X q q') (h1 : ¬ X c) (h2 : ¬ X g5) : Lc c g5 cs x1 x2 sp q' := ⟨hb.at h.g h1, hb.at h.f h2⟩
theorem tri_cells {w : World} {g : Nat} {a b c : Value} {T : TypeId} {z : Nat × Nat} (h : w.heap[g]? = some (.cells #[a, b, c] T z)) : w.cell? ⟨g, 0, none⟩ = some a ∧ w.cell? ⟨g, 1, none⟩ = some b ∧ w.cell? ⟨g, 2, none⟩ = some c := ⟨by simp [World.cell?, h], by simp [World.cell?, h], by simp [World.cell?, h]⟩
theorem cells1 {q : World} {c : Nat} {R : RB} {V : RV} (h : q.heap[c]? = some (.cells (R.cs V) TRD (0, 0))) : q.cell? ⟨c, 1, none⟩ = some V.vF := by simp [World.cell?, h, RB.cs]
def RV.setF (V : RV) (v : Value) (T : List (Value × Value)) : RV := ⟨v, V.vD, V.vO, V.vP, V.vA, T⟩
structure Cl (w : World) (b c : Nat) (R : RB) (V : RV) (k : Nat) (vF : Value) (T : List (Value × Value)) (q : World) : Prop where
 rm : RM q b R V
 box : q.heap[c]? = some (.cells (R.cs (V.setF vF T)) TRD (0, 0))
 cr : CR q (c + 1) (R.F.take k) vF T
 bel : Below w.heap.size w q
 hc : w.heap.size ≤ c
 old : ∀ x k, blk b V x = some k → k < c
theorem Cl.lt {w q : World} {b c : Nat} {R : RB} {V : RV} {k : Nat} {vF : Value} {T : List (Value × Value)} (h : Cl w b c R V k vF T q) : c < q.heap.size := heap_lt h.box
theorem run_appG {w : World} {B : Nat} {v : Value} {n : Nat} {xs : List Value} {a1 a2 : Option Addr} {n1 n2 c1 c2 : Nat} {sp : Int} (g : Nat) (h : w.ownsRow B 138 3 v n xs) (h0 : w.cell? ⟨g, 0, none⟩ = some (.slice a1 n1 c1)) (h1 : w.cell? ⟨g, 1, none⟩ = some (.slice a2 n2 c2)) (h2 : w.cell? ⟨g, 2, none⟩ = some (.int .i64 sp)) (hl : (n : Int) ≤ 2000000000) (hB : B ≤ w.heap.size) (ty : TypeId) :
    ∃ v' w', (Builtin.append_ #[99, 99] ty #[v, .slice (some ⟨g, 0, none⟩) 1 1]).run Tryz.prog w = .ok v' w' ∧ w'.ownsRow B 138 3 v' (n + 1) (xs ++ [.slice a1 n1 c1, .slice a2 n2 c2, .int .i64 sp]) ∧ w.grownBy w' v.ownBlock ∧ (v'.ownBlock = v.ownBlock ∨ v'.ownBlock = some w.heap.size) := by
 obtain ⟨i0, hi, hz0, hz1, hz2⟩ := info_parts infoFi
 obtain ⟨v', w', hr, ho, hg, _, hat⟩ := run_append_own_at (P := Tryz.prog) w B 99 ty 138 i0 (.agg #[.slice none 0 0, .slice none 0 0, .int .i64 0]) 3 56 Tryz.underlying99 hi hz0 hz1 hz2 rfl (by decide) v n xs h ⟨g, 0, none⟩ 1 1 [.slice a1 n1 c1, .slice a2 n2 c2, .int .i64 sp] rfl (fun j u hu => by
  rw [addr_add]
  match j with
  | 0 => simp at hu; subst hu; simpa using h0
  | 1 => simp at hu; subst hu; simpa using h1
  | 2 => simp at hu; subst hu; simpa using h2
  | j + 3 => simp at hu) (fun u hu => by simp at hu; rcases hu with rfl | rfl | rfl <;> rfl) (by unfold maxLen; omega) (by omega) hB
 exact ⟨v', w', hr, ho, hg, hat⟩
theorem Cl.next {w wr w5 q w6 w7 w8 : World} {b c : Nat} {R : RB} {V : RV} {k : Nat} {vF v8 u1 u2 : Value} {T : List (Value × Value)} {sp : Int} (h : Cl w b c R V k vF T wr) (hk : k < R.F.length) (b5 : Below wr.heap.size wr w5) (bq : Below w5.heap.size w5 q) (b6 : Below q.heap.size q w6) (b7 : Below w6.heap.size w6 w7) (o1 : Ob q.heap.size w6 u1 R.F[k].1) (o2 : Ob q.heap.size w6 u2 R.F[k].2.1) (hd : ∀ k, u1.ownBlock = some k → u2.ownBlock ≠ some k) (hs : R.F[k].2.2 = sp)
    (hr : w8.ownsRow (c + 1) 138 3 v8 ((R.F.take k).length + 1) (fcells (R.F.take k) T ++ [u1, u2, .int .i64 sp])) (hg : w7.grownBy w8 vF.ownBlock) (hv : v8.ownBlock = vF.ownBlock ∨ v8.ownBlock = some w7.heap.size) : Cl w b c R V (k + 1) v8 (T ++ [(u1, u2)]) (w8.setCell ⟨c, 1, none⟩ v8) := by
 have bwq := bs2 b5 bq
 have bw7 := bs2 bwq (bs2 b6 b7)
 have hG := But.of_grownBy (X := fun k => vF.ownBlock = some k) hg fun k e => e
 have vb : ∀ k, vF.ownBlock = some k → c < k := fun k hk => by have := (World.ownsRow.lt h.cr.row k hk).1; omega
 have hlt := h.lt
 have hz := bwq.size
 have crq := h.cr.but (But.of_below bwq fun _ => False) (fun _ c => c.elim)
 have cr8 := crq.snoc (f := R.F[k]) (by omega) (bs2 b6 b7) ((Oc.of o1).below b7) ((Oc.of o2).below b7) hd (by rw [hs]; exact hr) hg hv
 rw [← List.take_succ_eq_append_getElem hk] at cr8
 have gc : But (fun k => k = c) w8 (w8.setCell ⟨c, 1, none⟩ v8) := But.of_grownBy (grown_setCell w8 c 1 v8) fun j e => by cases e; rfl
 have box8 : w8.heap[c]? = some (.cells (R.cs (V.setF vF T)) TRD (0, 0)) := hG.at ((bw7.block _ hlt).trans h.box) (fun e => by have := vb c e; omega)
 refine ⟨?_, heap_setCell_same w8 c 1 _ _ v8 box8, cr8.but gc (fun k e => .inl (by omega)), ?_, h.hc, h.old⟩
 ·refine ((h.rm.below bw7).but hG (fun x k hk e => ?_)).but gc (fun x k hk e => ?_)
  ·have := h.old x k hk; have := vb k e; omega
  ·have := h.old x k hk; omega
 ·have a := bs2 h.bel bw7
  have b1 := a.trans (hG.below a.size (fun k e => by have := vb k e; have := h.hc; omega))
  exact b1.trans (gc.below b1.size (fun k e => by have := h.hc; omega))
structure Cs (w : World) (b c : Nat) (R : RB) (V V2 : RV) (q : World) : Prop where
 rm : RM q b R V
 box : q.heap[c]? = some (.cells (R.cs V2) TRD (0, 0))
 bel : Below w.heap.size w q
 hc : w.heap.size ≤ c
 old : ∀ x k, blk b V x = some k → k < c
theorem Cs.below {w q q' : World} {b c : Nat} {R : RB} {V V2 : RV} (h : Cs w b c R V V2 q) (hb : Below q.heap.size q q') : Cs w b c R V V2 q' := ⟨h.rm.below hb, (hb.block _ (heap_lt h.box)).trans h.box, bs2 h.bel hb, h.hc, h.old⟩
theorem Cs.set {w q : World} {b c : Nat} {R : RB} {V V2 V3 : RV} (h : Cs w b c R V V2 q) (i : Nat) (v : Value) (e : (R.cs V2).setIfInBounds i v = R.cs V3) : Cs w b c R V V3 (q.setCell ⟨c, i, none⟩ v) := by
 have gc : But (fun k => k = c) q (q.setCell ⟨c, i, none⟩ v) := But.of_grownBy (grown_setCell q c i v) fun j e => by cases e; rfl
 refine ⟨h.rm.but gc (fun x k hk e => by have := h.old x k hk; omega), ?_, h.bel.trans (gc.below h.bel.size (fun k e => by have := h.hc; omega)), h.hc, h.old⟩
 rw [← e]
 exact heap_setCell_same q c i _ _ v h.box
theorem one_tc (l : Dr) : ∀ u ∈ tcells l, u.oneCell' = true := by
 intro u hu
 simp only [tcells, List.mem_flatten, List.mem_map] at hu
 obtain ⟨c, ⟨e, _, rfl⟩, hc⟩ := hu
 simp at hc
 rcases hc with rfl | rfl <;> rfl
theorem one_pc (l : List RC) : ∀ u ∈ pcells l, u.oneCell' = true := by
 intro u hu
 simp only [pcells, List.mem_flatten, List.mem_map] at hu
 obtain ⟨c, ⟨e, _, rfl⟩, hc⟩ := hu
 simp at hc
 rcases hc with rfl | rfl | rfl <;> rfl
theorem one_ac (l : List Ft) : ∀ u ∈ acells l, u.oneCell' = true := by
 intro u hu
 simp only [acells, List.mem_flatten, List.mem_map] at hu
 obtain ⟨c, ⟨e, _, rfl⟩, hc⟩ := hu
 simp at hc
 rcases hc with rfl | rfl | rfl <;> rfl
theorem Cs.dupD {w q : World} {b c : Nat} {R : RB} {V V2 : RV} (h : Cs w b c R V V2 q) (hn : (R.dir.length : Int) ≤ 100000) : ∃ q' v, (Builtin.append_ #[100, 100] 100 #[.slice none 0 0, V.vD]).run Tryz.prog q = .ok v q' ∧ q'.ownsRow q.heap.size 142 2 v R.dir.length (tcells R.dir) ∧ Below q.heap.size q q' ∧ Cs w b c R V ⟨V2.vF, v, V2.vO, V2.vP, V2.vA, V2.T⟩ (q'.setCell ⟨c, 2, none⟩ v) ∧ q.cell? ⟨b, 2, none⟩ = some V.vD ∧ q'.cell? ⟨c, 2, none⟩ = some V2.vD ∧ q'.frozen? ⟨c, 2, none⟩ = false := by
 obtain ⟨i0, hi, hz0, hz1, hz2⟩ := info_parts infoEn
 obtain ⟨v, q', hr, ho, hb⟩ := run_dup h.rm.dd Tryz.underlying100 hi hz0 hz1 hz2 rfl (by decide) (tcells_len R.dir) (one_tc R.dir) (by omega) (by decide) 100
 have h' := h.below hb
 exact ⟨q', v, hr, ho, hb, h'.set 2 v rfl, by simp [World.cell?, h.rm.box, RB.cs], by simp [World.cell?, h'.box, RB.cs], by simp [World.frozen?, h'.box]⟩
theorem Cs.dupO {w q : World} {b c : Nat} {R : RB} {V V2 : RV} (h : Cs w b c R V V2 q) (hn : (R.old.length : Int) ≤ 100000) : ∃ q' v, (Builtin.append_ #[100, 100] 100 #[.slice none 0 0, V.vO]).run Tryz.prog q = .ok v q' ∧ q'.ownsRow q.heap.size 142 2 v R.old.length (tcells R.old) ∧ Below q.heap.size q q' ∧ Cs w b c R V ⟨V2.vF, V2.vD, v, V2.vP, V2.vA, V2.T⟩ (q'.setCell ⟨c, 3, none⟩ v) ∧ q.cell? ⟨b, 3, none⟩ = some V.vO ∧ q'.cell? ⟨c, 3, none⟩ = some V2.vO ∧ q'.frozen? ⟨c, 3, none⟩ = false := by
 obtain ⟨i0, hi, hz0, hz1, hz2⟩ := info_parts infoEn
 obtain ⟨v, q', hr, ho, hb⟩ := run_dup h.rm.oo Tryz.underlying100 hi hz0 hz1 hz2 rfl (by decide) (tcells_len R.old) (one_tc R.old) (by omega) (by decide) 100
 have h' := h.below hb
 exact ⟨q', v, hr, ho, hb, h'.set 3 v rfl, by simp [World.cell?, h.rm.box, RB.cs], by simp [World.cell?, h'.box, RB.cs], by simp [World.frozen?, h'.box]⟩
theorem Cs.dupP {w q : World} {b c : Nat} {R : RB} {V V2 : RV} (h : Cs w b c R V V2 q) (hn : (R.pe.length : Int) ≤ 100000) : ∃ q' v, (Builtin.append_ #[101, 101] 101 #[.slice none 0 0, V.vP]).run Tryz.prog q = .ok v q' ∧ q'.ownsRow q.heap.size 155 3 v R.pe.length (pcells R.pe) ∧ Below q.heap.size q q' ∧ Cs w b c R V ⟨V2.vF, V2.vD, V2.vO, v, V2.vA, V2.T⟩ (q'.setCell ⟨c, 4, none⟩ v) ∧ q.cell? ⟨b, 4, none⟩ = some V.vP ∧ q'.cell? ⟨c, 4, none⟩ = some V2.vP ∧ q'.frozen? ⟨c, 4, none⟩ = false := by
 obtain ⟨i0, hi, hz0, hz1, hz2⟩ := info_parts infoPn
 obtain ⟨v, q', hr, ho, hb⟩ := run_dup h.rm.pp Tryz.underlying101 hi hz0 hz1 hz2 rfl (by decide) (pcells_len R.pe) (one_pc R.pe) (by omega) (by decide) 101
 have h' := h.below hb
 exact ⟨q', v, hr, ho, hb, h'.set 4 v rfl, by simp [World.cell?, h.rm.box, RB.cs], by simp [World.cell?, h'.box, RB.cs], by simp [World.frozen?, h'.box]⟩
theorem Cs.dupA {w q : World} {b c : Nat} {R : RB} {V V2 : RV} (h : Cs w b c R V V2 q) (hn : (R.fs.length : Int) ≤ 100000) : ∃ q' v, (Builtin.append_ #[31, 31] 31 #[.slice none 0 0, V.vA]).run Tryz.prog q = .ok v q' ∧ q'.ownsRow q.heap.size 118 3 v R.fs.length (acells R.fs) ∧ Below q.heap.size q q' ∧ Cs w b c R V ⟨V2.vF, V2.vD, V2.vO, V2.vP, v, V2.T⟩ (q'.setCell ⟨c, 5, none⟩ v) ∧ q.cell? ⟨b, 5, none⟩ = some V.vA ∧ q'.cell? ⟨c, 5, none⟩ = some V2.vA ∧ q'.frozen? ⟨c, 5, none⟩ = false := by
 obtain ⟨i0, hi, hz0, hz1, hz2⟩ := info_parts infoFa
 obtain ⟨v, q', hr, ho, hb⟩ := run_dup h.rm.aa Tryz.underlying31 hi hz0 hz1 hz2 rfl (by decide) (acells_len R.fs) (one_ac R.fs) (by omega) (by decide) 31
 have h' := h.below hb
 exact ⟨q', v, hr, ho, hb, h'.set 5 v rfl, by simp [World.cell?, h.rm.box, RB.cs], by simp [World.cell?, h'.box, RB.cs], by simp [World.frozen?, h'.box]⟩
theorem copy_end {w q q2 q4 q6 q8 : World} {b c : Nat} {R : RB} {V : RV} {vF v2 v4 v6 v8 : Value} {T : List (Value × Value)} (hcr : CR q (c + 1) R.F vF T) (S0 : Cs w b c R V (V.setF vF T) q)
    (o2 : q2.ownsRow q.heap.size 142 2 v2 R.dir.length (tcells R.dir)) (l2 : Below q.heap.size q q2) (S2 : Cs w b c R V ⟨vF, v2, V.vO, V.vP, V.vA, T⟩ (q2.setCell ⟨c, 2, none⟩ v2))
    (o4 : q4.ownsRow (q2.setCell ⟨c, 2, none⟩ v2).heap.size 142 2 v4 R.old.length (tcells R.old)) (l4 : Below (q2.setCell ⟨c, 2, none⟩ v2).heap.size (q2.setCell ⟨c, 2, none⟩ v2) q4) (S4 : Cs w b c R V ⟨vF, v2, v4, V.vP, V.vA, T⟩ (q4.setCell ⟨c, 3, none⟩ v4))
    (o6 : q6.ownsRow (q4.setCell ⟨c, 3, none⟩ v4).heap.size 155 3 v6 R.pe.length (pcells R.pe)) (l6 : Below (q4.setCell ⟨c, 3, none⟩ v4).heap.size (q4.setCell ⟨c, 3, none⟩ v4) q6) (S6 : Cs w b c R V ⟨vF, v2, v4, v6, V.vA, T⟩ (q6.setCell ⟨c, 4, none⟩ v6))
    (o8 : q8.ownsRow (q6.setCell ⟨c, 4, none⟩ v6).heap.size 118 3 v8 R.fs.length (acells R.fs)) (l8 : Below (q6.setCell ⟨c, 4, none⟩ v6).heap.size (q6.setCell ⟨c, 4, none⟩ v6) q8) (S8 : Cs w b c R V ⟨vF, v2, v4, v6, v8, T⟩ (q8.setCell ⟨c, 5, none⟩ v8)) :
    RM (q8.setCell ⟨c, 5, none⟩ v8) c R ⟨vF, v2, v4, v6, v8, T⟩ ∧ ∀ x k, blk c ⟨vF, v2, v4, v6, v8, T⟩ x = some k → c ≤ k := by
 have st : ∀ (u : World) (i : Nat) (v : Value), But (fun k => k = c) u (u.setCell ⟨c, i, none⟩ v) := fun u i v => But.of_grownBy (grown_setCell u c i v) fun j e => by cases e; rfl
 have cq := heap_lt S0.box
 have z2 := l2.size
 have e2 : (q2.setCell ⟨c, 2, none⟩ v2).heap.size = q2.heap.size := by simp
 have e4 : (q4.setCell ⟨c, 3, none⟩ v4).heap.size = q4.heap.size := by simp
 have e6 : (q6.setCell ⟨c, 4, none⟩ v6).heap.size = q6.heap.size := by simp
 rw [e2] at o4
 rw [e4] at o6
 rw [e6] at o8
 have z4 := l4.size
 have z6 := l6.size
 have z8 := l8.size
 rw [e2] at z4
 rw [e4] at z6
 rw [e6] at z8
 -- each later step as a step that turns c alone
 have b2 : But (fun k => k = c) q (q2.setCell ⟨c, 2, none⟩ v2) := (But.of_below l2 _).trans (st q2 2 v2)
 have b4 : But (fun k => k = c) (q2.setCell ⟨c, 2, none⟩ v2) (q4.setCell ⟨c, 3, none⟩ v4) := (But.of_below l4 _).trans (st q4 3 v4)
 have b6 : But (fun k => k = c) (q4.setCell ⟨c, 3, none⟩ v4) (q6.setCell ⟨c, 4, none⟩ v6) := (But.of_below l6 _).trans (st q6 4 v6)
 have b8 : But (fun k => k = c) (q6.setCell ⟨c, 4, none⟩ v6) (q8.setCell ⟨c, 5, none⟩ v8) := (But.of_below l8 _).trans (st q8 5 v8)
 have d2 : ∀ k, v2.ownBlock = some k → q.heap.size ≤ k ∧ k < q2.heap.size := World.ownsRow.lt o2
 have d4 : ∀ k, v4.ownBlock = some k → q2.heap.size ≤ k ∧ k < q4.heap.size := World.ownsRow.lt o4
 have d6 : ∀ k, v6.ownBlock = some k → q4.heap.size ≤ k ∧ k < q6.heap.size := World.ownsRow.lt o6
 have d8 : ∀ k, v8.ownBlock = some k → q6.heap.size ≤ k ∧ k < q8.heap.size := World.ownsRow.lt o8
 have r2 := ownsRow_but (ownsRow_but (ownsRow_but (ownsRow_but o2 (st q2 2 v2) (fun k hk e => by have := d2 k hk; omega)) b4 (fun k hk e => by have := d2 k hk; omega)) b6 (fun k hk e => by have := d2 k hk; omega)) b8 (fun k hk e => by have := d2 k hk; omega)
 have r4 := ownsRow_but (ownsRow_but (ownsRow_but o4 (st q4 3 v4) (fun k hk e => by have := d4 k hk; omega)) b6 (fun k hk e => by have := d4 k hk; omega)) b8 (fun k hk e => by have := d4 k hk; omega)
 have r6 := ownsRow_but (ownsRow_but o6 (st q6 4 v6) (fun k hk e => by have := d6 k hk; omega)) b8 (fun k hk e => by have := d6 k hk; omega)
 have r8 := ownsRow_but o8 (st q8 5 v8) (fun k hk e => by have := d8 k hk; omega)
 have c8 := (((hcr.but b2 (fun k e => .inl (by omega))).but b4 (fun k e => .inl (by omega))).but b6 (fun k e => .inl (by omega))).but b8 (fun k e => .inl (by omega))
 refine RM.copied (V := ⟨vF, v2, v4, v6, v8, T⟩) (B := c + 1) (H1 := q.heap.size) (H2 := q2.heap.size) (H3 := q4.heap.size) (H4 := q6.heap.size) S8.box c8 (by omega) (ownsRow_base_a r2 (Nat.zero_le _)) (ownsRow_base_a r4 (Nat.zero_le _)) (ownsRow_base_a r6 (Nat.zero_le _)) (ownsRow_base_a r8 (Nat.zero_le _)) (fun x k e => (hcr.lt x k e).2) d2 d4 d6 (fun k e => (d8 k e).1) (by omega) z2 z4 z6
theorem trdSize : (Tryz.prog.info? 103).map (·.size) = some 18 := by kernel_rfl
theorem copy_rm {w : World} {b : Nat} {R : RB} {V : RV} (h : RM w b R V) (hN : (R.F.length : Int) ≤ 100000) (hD : (R.dir.length : Int) ≤ 100000) (hO : (R.old.length : Int) ≤ 100000) (hP : (R.pe.length : Int) ≤ 100000) (hA : (R.fs.length : Int) ≤ 100000) (hla : ∀ f ∈ R.F, f.2.1.length ≤ f.1.length ∧ (f.1.length : Int) ≤ 100000000) :
    Calls Tryz.prog 37 #[.pointer (some ⟨b, 0, none⟩)] w fun e w' => ∃ c V', e = .returned (.pointer (some ⟨c, 0, none⟩)) ∧ RM w' c R V' ∧ (∀ x k, blk c V' x = some k → w.heap.size ≤ k) ∧ Below w.heap.size w w' := by
 obtain ⟨vF, vD, vO, vP, vA, T⟩ := V
 have form : ∀ {X : TypeId} {sz n : Nat} {v : Value} {xs : List Value}, w.ownsRow 0 X sz v n xs → ∃ ao ca, v = .slice ao n ca ∧ n ≤ ca ∧ ca ≤ 9223372036854775807 := fun {X sz n v xs} hr => by
  rcases hr.2 with ⟨e, hz⟩ | ⟨g, cap, cur, e, hB, hc, h1, h2, h3, h4⟩
  ·exact ⟨none, 0, by rw [hz]; exact e, by omega, by omega⟩
  ·exact ⟨some ⟨g, 0, none⟩, cap, e, h1, by unfold maxLen at h2; omega⟩
 obtain ⟨fa, fc, e1, f1, f2⟩ := form h.ff
 obtain ⟨da, dc, e2, _⟩ := form h.dd
 obtain ⟨oa, oc, e3, _⟩ := form h.oo
 obtain ⟨pa, pc, e4, _⟩ := form h.pp
 obtain ⟨aa, ac, e5, _⟩ := form h.aa
 simp only at e1 e2 e3 e4 e5
 subst e1 e2 e3 e4 e5
 clear form
 obtain ⟨V, hV⟩ : ∃ V : RV, Hid (V = ⟨.slice fa R.F.length fc, .slice da R.dir.length dc, .slice oa R.old.length oc, .slice pa R.pe.length pc, .slice aa R.fs.length ac, T⟩) := ⟨_, rfl⟩
 have H1 : Hid ((R.cs V).all (·.oneCell') = true) := by show _ = _; rw [hV.out]; simp [RB.cs, Value.oneCell']
 have HI : Hid ((Tryz.prog.info? 103).map (·.size) = some (R.cs V).size) := trdSize
 have hsz : Hid (18 = (R.cs V).size) := rfl
 have eF : Hid (V.vF = .slice fa R.F.length fc) := by show _ = _; rw [hV.out]
 rw [← hV.out] at h
 clear hV
 replace h := hide h
 have hbox := h.out.box
 generalize hcs : R.cs V = cs at hbox H1 HI hsz
 replace hcs := hide hcs
 go_enter Tryz.func37, Tryz.ntmps37
 go_upto_region 2 with (first
  | (refine wpList_load_row rfl 103 (.tmp 7) rfl b rfl 103 cs (0, 0) _ hbox Tryz.underlying103 rfl HI.out ?_)
  | (refine wpList_store_row rfl 103 (.tmp 3) (.tmp 8) rfl w.heap.size cs rfl rfl 103 _ (heap_alloc_new _ _) HI.out (by rw [← hsz.out]; rfl) H1.out ?_))
 obtain ⟨Z, hZ⟩ : ∃ Z : Array Value, Hid (#[Value.int .i64 0, .slice none 0 0, .slice none 0 0, .slice none 0 0, .slice none 0 0, .slice none 0 0, .int .i64 0, .int .i64 0, .int .i64 0, .int .i64 0, .int .i64 0, .int .i64 0, .int .i64 0, .int .i64 0, .int .i64 0, .int .i64 0, .bool false, .int .i64 0] = Z) := ⟨_, rfl⟩
 rw [hZ.out]
 have N1 := hide (setRow_heap (w.alloc (.cells Z 103)) w.heap.size Z cs _ _ (heap_alloc_new w (.cells Z 103)))
 have B0 := box_below w (.cells Z 103)
 have B1 : Hid (Below w.heap.size w ((w.alloc (.cells Z 103)).setRow w.heap.size cs)) := ⟨B0.os, B0.tape, B0.output, by simp, fun k hk => by
  have : ((w.alloc (.cells Z 103)).setRow w.heap.size cs).heap[k]? = (w.alloc (.cells Z 103)).heap[k]? := by
   unfold World.setRow
   simp only [Array.getElem?_modify]
   rw [if_neg (by omega)]
  rw [this]; exact B0.block k hk⟩
 clear B0 hbox
 generalize (w.alloc (.cells Z 103)).setRow w.heap.size cs = w1 at *
 clear hZ
 rw [← hcs.out] at N1
 clear hcs H1 HI hsz
 obtain ⟨c, hc⟩ : ∃ c, Hid (w.heap.size = c) := ⟨_, rfl⟩
 rw [hc.out] at N1 ⊢
 have z1 := cells1 N1.out
 have f1' : w1.frozen? ⟨c, 1, none⟩ = false := by simp [World.frozen?, N1.out]
 have C0 : Hid (Cl w b c R V 0 (.slice none 0 0) [] (w1.setCell ⟨c, 1, none⟩ (.slice none 0 0))) := by
  have g1 : But (fun k => k = c) w1 (w1.setCell ⟨c, 1, none⟩ (.slice none 0 0)) := But.of_grownBy (grown_setCell w1 c 1 (.slice none 0 0)) fun j e => by cases e; rfl
  have old : ∀ x k, blk b V x = some k → k < c := fun x k hk => by have := h.out.lt x k hk; have := hc.out; omega
  refine ⟨(h.out.below B1.out).but g1 (fun x k hk e => by have := old x k hk; omega), heap_setCell_same w1 c 1 _ _ _ N1.out, by rw [List.take_zero]; exact CR.nil _ _, B1.out.trans (g1.below B1.out.size (fun k e => by have := hc.out; omega)), by have := hc.out; omega, old⟩
 go_upto_region 3 with fail
 generalize w1.setCell ⟨c, 1, none⟩ (.slice none 0 0) = w2 at *
 clear z1 f1' N1 B1
 go_wp2_with fail
 go_loopw [4] (fun i wr => ∃ k : Nat, i = .int .i64 k ∧ k ≤ R.F.length ∧ ∃ vF2 T2, Hid (Cl w b c R V k vF2 T2 wr)) (fun i _ => R.F.length - (intOf i).toNat)
 case atStart => exact ⟨0, rfl, Nat.zero_le _, _, _, C0⟩
 case round =>
  clear C0
  obtain ⟨k, rfl, hk, vF2, T2, hC⟩ := hrel
  have y1 := cells1 hC.out.rm.box
  by_cases hlt : k < R.F.length
  ·have i1 : (k : Int) < (R.F.length : Int) := by omega
   obtain ⟨g, cap, eg, _, _, hl, p0, p1, p2⟩ := hC.out.rm.at hlt
   obtain ⟨q1, q2⟩ := hC.out.rm.nn k hlt
   rw [eF.out] at y1 eg
   simp only [Value.slice.injEq] at eg
   obtain ⟨e1, e2, e3⟩ := eg
   subst e1
   subst e3
   clear e2
   have hkF : Hid (k < R.F.length) := hlt
   have hfl := hla _ (List.getElem_mem hlt)
   have fl : Hid ((R.F[k]'hlt).1.length ≤ 100000000 ∧ (R.F[k]'hlt).2.1.length ≤ 100000000) := ⟨by omega, by omega⟩
   obtain ⟨f, hf⟩ : ∃ f, Hid (R.F[k]'hlt = f) := ⟨_, rfl⟩
   rw [hf.out] at p2 q1 q2 fl
   generalize (V.T[k]'hl).1 = x1 at *
   generalize (V.T[k]'hl).2 = x2 at *
   obtain ⟨a1, n1', ex1, _⟩ := q1.form
   obtain ⟨a2, n2', ex2, _⟩ := q2.form
   subst ex1
   subst ex2
   have s1 := hide q1.sl
   have s2 := hide q2.sl
   generalize hspd : f.2.2 = sp at *
   have hsp : Hid ((R.F[k]'hlt).2.2 = sp) := by show _ = _; rw [hf.out]; exact hspd
   have B45 := hide (box_below wr (.cells #[.slice a1 f.1.length n1', .slice a2 f.2.1.length n2', .int .i64 sp] 138))
   have N5 := hide (heap_alloc_new wr (.cells #[.slice a1 f.1.length n1', .slice a2 f.2.1.length n2', .int .i64 sp] 138))
   replace s1 := hide (Below.sl B45.out s1.out)
   replace s2 := hide (Below.sl B45.out s2.out)
   have q5 := B45.out.size
   go_upto_region 7 with fail
   generalize wr.alloc (.cells #[.slice a1 f.1.length n1', .slice a2 f.2.1.length n2', .int .i64 sp] 138) = w5 at *
   obtain ⟨g5, hg5⟩ : ∃ g5, Hid (wr.heap.size = g5) := ⟨_, rfl⟩
   have g5l : Hid (wr.heap.size ≤ g5) := by show _ ≤ _; have := hg5.out; omega
   rw [hg5.out] at N5
   rw [hg5.out]
   have Z0 : Hid (Lc c g5 (R.cs (V.setF vF2 T2)) (.slice a1 f.1.length n1') (.slice a2 f.2.1.length n2') sp w5) := ⟨(B45.out.block _ hC.out.lt).trans hC.out.box, N5.out⟩
   clear y1 p0 p1 p2 q1 q2 N5 hfl q5
   have KP : Hid (Lc c g5 (R.cs (V.setF vF2 T2)) (.slice a1 f.1.length n1') (.slice a2 f.2.1.length n2') sp w5.drew) := Z0.out.but (But.of_below (Below.refl _ _).drew fun _ => False) (fun c => c) (fun c => c)
   have GQ : Hid (Below w5.heap.size w5 w5.drew) := (Below.refl _ _).drew
   refine wp_region_T (fun q => Lc c g5 (R.cs (V.setF vF2 T2)) (.slice a1 f.1.length n1') (.slice a2 f.2.1.length n2') sp q) 14 (by kernel_rfl) ?_
   generalize w5.drew = q at *
   refine Ix.tk 0 ⟨some 26, .fieldAddr 103 (.tmp 3) 1, _, _, _, _⟩ (.pointer (some ⟨c, 1, none⟩)) [1,12,14] ?_ KP.out ?_
   ·intro wq hSw
    obtain ⟨y0, y1, y2⟩ := tri_cells hSw.f
    have t1 : wq.cell? ⟨c, 1, none⟩ = some vF2 := cells1 hSw.g
    go_simp
   (try simp only [zzp, zzb, zzc])
   refine Ix.tk 1 ⟨some 27, .load 99 (.tmp 26), _, _, _, _⟩ (vF2) [12,14] ?_ KP.out ?_
   ·intro wq hSw
    obtain ⟨y0, y1, y2⟩ := tri_cells hSw.f
    have t1 : wq.cell? ⟨c, 1, none⟩ = some vF2 := cells1 hSw.g
    go_simp
   (try simp only [zzp, zzb, zzc])
   refine Ix.tk 2 ⟨some 28, .fieldAddr 138 (.tmp 5) 0, _, _, _, _⟩ (.pointer (some ⟨g5, 0, none⟩)) [3,4,10,11,12,14] ?_ KP.out ?_
   ·intro wq hSw
    obtain ⟨y0, y1, y2⟩ := tri_cells hSw.f
    have t1 : wq.cell? ⟨c, 1, none⟩ = some vF2 := cells1 hSw.g
    go_simp
   (try simp only [zzp, zzb, zzc])
   refine Ix.tk 3 ⟨some 29, .load 30 (.tmp 28), _, _, _, _⟩ (.slice a1 f.1.length n1') [4,10,11,12,14] ?_ KP.out ?_
   ·intro wq hSw
    obtain ⟨y0, y1, y2⟩ := tri_cells hSw.f
    have t1 : wq.cell? ⟨c, 1, none⟩ = some vF2 := cells1 hSw.g
    go_simp
   (try simp only [zzp, zzb, zzc])
   refine Ix.tk 5 ⟨some 31, .fieldAddr 138 (.tmp 5) 1, _, _, _, _⟩ (.pointer (some ⟨g5, 1, none⟩)) [6,7,10,11,12,14] ?_ KP.out ?_
   ·intro wq hSw
    obtain ⟨y0, y1, y2⟩ := tri_cells hSw.f
    have t1 : wq.cell? ⟨c, 1, none⟩ = some vF2 := cells1 hSw.g
    go_simp
   (try simp only [zzp, zzb, zzc])
   refine Ix.tk 6 ⟨some 32, .load 30 (.tmp 31), _, _, _, _⟩ (.slice a2 f.2.1.length n2') [7,10,11,12,14] ?_ KP.out ?_
   ·intro wq hSw
    obtain ⟨y0, y1, y2⟩ := tri_cells hSw.f
    have t1 : wq.cell? ⟨c, 1, none⟩ = some vF2 := cells1 hSw.g
    go_simp
   (try simp only [zzp, zzb, zzc])
   refine Ix.tk 8 ⟨some 34, .fieldAddr 138 (.tmp 5) 2, _, _, _, _⟩ (.pointer (some ⟨g5, 2, none⟩)) [9,10,11,12,14] ?_ KP.out ?_
   ·intro wq hSw
    obtain ⟨y0, y1, y2⟩ := tri_cells hSw.f
    have t1 : wq.cell? ⟨c, 1, none⟩ = some vF2 := cells1 hSw.g
    go_simp
   (try simp only [zzp, zzb, zzc])
   refine Ix.tk 9 ⟨some 35, .load 3 (.tmp 34), _, _, _, _⟩ (.int .i64 sp) [10,11,12,14] ?_ KP.out ?_
   ·intro wq hSw
    obtain ⟨y0, y1, y2⟩ := tri_cells hSw.f
    have t1 : wq.cell? ⟨c, 1, none⟩ = some vF2 := cells1 hSw.g
    go_simp
   (try simp only [zzp, zzb, zzc])
   refine wpAnyT_one (i := 4) (o := ⟨some 30, .call { callee := .builtin .append, args := #[.const (Value.slice none 0 0), .tmp 29], argTypes := #[30, 30] }, _, _, _, _⟩) (by kernel_rfl) rfl (fun K hK => ?_)
   rw [if_pos (by simp [Region.wanted])]
   obtain ⟨av, aw, ar, ao, ag, ah⟩ := run_app (Ob.nil q.heap.size q) (Below.sl GQ.out s1.out) (by have := fl.out; simp; omega) (Nat.le_refl _) 30
   rw [List.nil_append] at ao
   have ab : Below q.heap.size q aw := (Below.refl _ _).grown ag (Nat.le_refl _) (fun k hk => by simp [Value.ownBlock] at hk)
   refine Lib.wp_append_run _ (.const (.slice none 0 0)) (.tmp 29) 30 30 rfl (.slice none 0 0) (.slice a1 f.1.length n1') rfl (by simp [Act.eval]) _ aw ar ?_
   have K5 : Hid (Lc c g5 (R.cs (V.setF vF2 T2)) (.slice a1 f.1.length n1') (.slice a2 f.2.1.length n2') sp aw) := KP.out.but (But.of_below ab fun _ => False) (fun c => c) (fun c => c)
   replace ao := hide ao
   replace ab := hide ab
   refine hK.out _ _ (fun _ => K5.out) ?_
   clear hK K ag ah ar
   (try simp only [zzp, zzb, zzc])
   refine wpAnyT_one (i := 7) (o := ⟨some 33, .call { callee := .builtin .append, args := #[.const (Value.slice none 0 0), .tmp 32], argTypes := #[30, 30] }, _, _, _, _⟩) (by kernel_rfl) rfl (fun K hK => ?_)
   rw [if_pos (by simp [Region.wanted])]
   obtain ⟨bv, bw, br, bo, bg, bh⟩ := run_app (Ob.nil aw.heap.size aw) (Below.sl ab.out (Below.sl GQ.out s2.out)) (by have := fl.out; simp; omega) (Nat.le_refl _) 30
   rw [List.nil_append] at bo
   have bb : Below aw.heap.size aw bw := (Below.refl _ _).grown bg (Nat.le_refl _) (fun k hk => by simp [Value.ownBlock] at hk)
   refine Lib.wp_append_run _ (.const (.slice none 0 0)) (.tmp 32) 30 30 rfl (.slice none 0 0) (.slice a2 f.2.1.length n2') rfl (by simp [Act.eval]) _ bw br ?_
   have K6 : Hid (Lc c g5 (R.cs (V.setF vF2 T2)) (.slice a1 f.1.length n1') (.slice a2 f.2.1.length n2') sp bw) := K5.out.but (But.of_below bb fun _ => False) (fun c => c) (fun c => c)
   refine hK.out _ _ (fun _ => K6.out) ?_
   clear hK K bg bh br
   (try simp only [zzp, zzb, zzc])
   have o1 : Ob q.heap.size bw av f.1 := ao.out.below bb
   have o2 : Ob q.heap.size bw bv f.2.1 := bo.low ab.out.size
   have hd : ∀ k, av.ownBlock = some k → bv.ownBlock ≠ some k := fun k h1 h2 => by
    have q1 := (ao.out.lt k h1).2
    have q2 := (bo.lt k h2).1
    omega
   have b6 := bs2 ab.out bb
   obtain ⟨ua, uc, eu, _⟩ := o1.form
   obtain ⟨va, vc, ev, _⟩ := o2.form
   subst eu
   subst ev
   clear ao ab bo bb K5
   generalize bw = w6 at *
   replace o1 := hide o1
   replace o2 := hide o2
   replace hd := hide hd
   replace b6 := hide b6
   refine wpAnyT_one (i := 10) (o := ⟨some 36, .build 138 #[(0, .tmp 30), (1, .tmp 33), (2, .tmp 35)], _, _, _, _⟩) (by kernel_rfl) rfl (fun K hK => ?_)
   go_simp
   refine hK.out _ _ (fun _ => K6.out) ?_
   clear hK K
   (try simp only [zzp, zzb, zzc])
   have B7 := hide (box_below w6 (.cells #[.slice ua f.1.length uc, .slice va f.2.1.length vc, .int .i64 sp] 138))
   have N7 := hide (heap_alloc_new w6 (.cells #[.slice ua f.1.length uc, .slice va f.2.1.length vc, .int .i64 sp] 138))
   have K7 : Hid (Lc c g5 (R.cs (V.setF vF2 T2)) (.slice a1 f.1.length n1') (.slice a2 f.2.1.length n2') sp (w6.alloc (.cells #[.slice ua f.1.length uc, .slice va f.2.1.length vc, .int .i64 sp] 138))) := K6.out.but (But.of_below B7.out fun _ => False) (fun c => c) (fun c => c)
   refine wpAnyT_one (i := 11) (o := ⟨some 37, .buildSlice 99 1 #[(0, .tmp 36)], _, _, _, _⟩) (by kernel_rfl) rfl (fun K hK => ?_)
   go_simp
   refine hK.out _ _ (fun _ => K7.out) ?_
   clear hK K
   (try simp only [zzp, zzb, zzc])
   have C7 := hide (((hC.out.cr.but (But.of_below B45.out fun _ => False) (fun _ c => c.elim)).but (But.of_below (bs2 GQ.out (bs2 b6.out B7.out)) fun _ => False) (fun _ c => c.elim)).row)
   obtain ⟨v8, w8, r8, o8, g8, h8⟩ := run_appG w6.heap.size C7.out (by have := (tri_cells N7.out).1; exact this) (by have := (tri_cells N7.out).2.1; exact this) (by have := (tri_cells N7.out).2.2; exact this) (by have := hkF.out; have := hN; rw [List.length_take]; omega) (by have q1 := hC.out.lt; have q2 := B45.out.size; have q3 := GQ.out.size; have q4 := b6.out.size; have q5 := B7.out.size; omega) 99
   obtain ⟨a8, n8, c8', rfl⟩ : ∃ a8 n8 c8, v8 = .slice a8 n8 c8 := by rcases o8.2 with ⟨e, _⟩ | ⟨g, cap, cur, e, _⟩ <;> exact ⟨_, _, _, e⟩
   have C9 := hide (hC.out.next hkF.out B45.out GQ.out b6.out B7.out (by rw [hf.out]; exact o1.out) (by rw [hf.out]; exact o2.out) hd.out hsp.out o8 g8 h8)
   have b8 : But (fun j => vF2.ownBlock = some j) (w6.alloc (.cells #[.slice ua f.1.length uc, .slice va f.2.1.length vc, .int .i64 sp] 138)) w8 := But.of_grownBy g8 fun j e => e
   have nob : ∀ j, vF2.ownBlock = some j → c < j ∧ j < wr.heap.size := fun j hj => by have := World.ownsRow.lt hC.out.cr.row j hj; exact ⟨by omega, this.2⟩
   have K8 : Hid (Lc c g5 (R.cs (V.setF vF2 T2)) (.slice a1 f.1.length n1') (.slice a2 f.2.1.length n2') sp w8) := K7.out.but b8 (fun e => by have := nob _ e; omega) (fun e => by have := nob _ e; have := g5l.out; omega)
   clear o8 g8 h8 C7 b8
   generalize hne : w6.heap.size = ne at *
   generalize (w6.alloc (.cells #[.slice ua f.1.length uc, .slice va f.2.1.length vc, .int .i64 sp] 138)) = w7 at *
   replace r8 := hide r8
   refine wpAnyT_one (i := 12) (o := ⟨some 38, .call { callee := .builtin .append, args := #[.tmp 27, .tmp 37], argTypes := #[99, 99] }, _, _, _, _⟩) (by kernel_rfl) rfl (fun K hK => ?_)
   rw [if_pos (by simp [Region.wanted])]
   refine Lib.wp_append_run _ (.tmp 27) (.tmp 37) 99 99 rfl vF2 (.slice (some ⟨ne, 0, none⟩) 1 1) (by simp [Act.eval]) (by simp [Act.eval]) _ w8 r8.out ?_
   refine hK.out _ _ (fun _ => K8.out) ?_
   clear hK K
   (try simp only [zzp, zzb, zzc])
   refine Ix.tk 13 ⟨some 39, .fieldAddr 103 (.tmp 3) 1, _, _, _, _⟩ (.pointer (some ⟨c, 1, none⟩)) [14] ?_ K8.out ?_
   ·intro wq hSw
    obtain ⟨y0, y1, y2⟩ := tri_cells hSw.f
    have t1 : wq.cell? ⟨c, 1, none⟩ = some vF2 := cells1 hSw.g
    go_simp
   (try simp only [zzp, zzb, zzc])
   have z1 : w8.cell? ⟨c, 1, none⟩ = some vF2 := cells1 K8.out.g
   have fz : w8.frozen? ⟨c, 1, none⟩ = false := by simp [World.frozen?, K8.out.g]
   (skip)
   refine wpAnyT_one (i := 14) (o := ⟨none, .store 99 (.tmp 39) (.tmp 38), _, _, _, _⟩) (by kernel_rfl) rfl (fun K hK => ?_)
   go_simp
   refine hK.out _ _ (vac (by kernel_rfl)) ?_
   clear hK K z1 fz
   (try simp only [zzq])
   refine wpAnyT_done (by kernel_rfl) ?_ _
   generalize w8.setCell ⟨c, 1, none⟩ (.slice a8 n8 c8') = w9 at *
   go_wp2_with fail
   go_roundw
   case rel => exact ⟨k + 1, by go_num, by omega, _, _, C9⟩
   case measure => simp [intOf]; omega
  ·obtain rfl : k = R.F.length := by omega
   have i1 : ¬ ((R.F.length : Int) < (R.F.length : Int)) := by omega
   have hcr := hC.out.cr
   rw [List.take_length] at hcr
   rw [eF.out] at y1
   have S0 : Hid (Cs w b c R V (V.setF vF2 T2) wr) := ⟨hC.out.rm, hC.out.box, hC.out.bel, hC.out.hc, hC.out.old⟩
   obtain ⟨w2, v2, r2, o2, l2, S2, t2, t2', t2f⟩ := S0.out.dupD hD
   obtain ⟨w4, v4, r4, o4, l4, S4, t4, t4', t4f⟩ := S2.dupO hO
   obtain ⟨w6, v6, r6, o6, l6, S6, t6, t6', t6f⟩ := S4.dupP hP
   obtain ⟨w8, v8, r8, o8, l8, S8, t8, t8', t8f⟩ := S6.dupA hA
   obtain ⟨a2, n2, c2, rfl⟩ : ∃ a n c, v2 = .slice a n c := by rcases o2.2 with ⟨e, _⟩ | ⟨g, cap, cur, e, _⟩ <;> exact ⟨_, _, _, e⟩
   obtain ⟨a4, n4, c4, rfl⟩ : ∃ a n c, v4 = .slice a n c := by rcases o4.2 with ⟨e, _⟩ | ⟨g, cap, cur, e, _⟩ <;> exact ⟨_, _, _, e⟩
   obtain ⟨a6, n6, c6, rfl⟩ : ∃ a n c, v6 = .slice a n c := by rcases o6.2 with ⟨e, _⟩ | ⟨g, cap, cur, e, _⟩ <;> exact ⟨_, _, _, e⟩
   obtain ⟨a8, n8, c8, rfl⟩ : ∃ a n c, v8 = .slice a n c := by rcases o8.2 with ⟨e, _⟩ | ⟨g, cap, cur, e, _⟩ <;> exact ⟨_, _, _, e⟩
   have CF := hide (copy_end hcr S0.out o2 l2 S2 o4 l4 S4 o6 l6 S6 o8 l8 S8)
   have BF := hide S8.bel
   replace r2 := hide r2
   replace r4 := hide r4
   replace r6 := hide r6
   replace r8 := hide r8
   clear o2 o4 o6 o8 l2 l4 l6 l8 S2 S4 S6 S8 S0 hcr
   go_wp2_with (first
    | (at_builtin; refine Lib.wpList_append_run _ rfl (.const (.slice none 0 0)) (.tmp 43) 100 100 rfl _ _ rfl rfl _ _ r2.out ?_)
    | (at_builtin; refine Lib.wpList_append_run _ rfl (.const (.slice none 0 0)) (.tmp 49) 100 100 rfl _ _ rfl rfl _ _ r4.out ?_)
    | (at_builtin; refine Lib.wpList_append_run _ rfl (.const (.slice none 0 0)) (.tmp 55) 101 101 rfl _ _ rfl rfl _ _ r6.out ?_)
    | (at_builtin; refine Lib.wpList_append_run _ rfl (.const (.slice none 0 0)) (.tmp 61) 31 31 rfl _ _ rfl rfl _ _ r8.out ?_)
    | fail)
   go_ret
   exact ⟨c, rfl, _, CF.out.1, fun x k e => Nat.le_trans hC.out.hc (CF.out.2 x k e), BF.out⟩
end Go.Proofs.YtjehpijjneghpaaGreat.Re
namespace Go.Proofs.YtjehpijjneghpaaGreat.Re
open Go.ChangeShapes Go.WideShapes Go.ChangeAt Go.RowKit Go.Deep Go.Proofs.YtjehpijjneghpaaGreat.Dk
set_option maxRecDepth 100000
structure Fte where
 d : Int
 v : Value
 ks : List Kep
structure FteOk (w : World) (t : Fte) : Prop where
 lo : -9223372036854775808 ≤ t.d
 hi : t.d ≤ 9223372036854775807
 kp : Kp (fun k => k < w.heap.size) w t.v t.ks
def AtFates (w : World) (ao : Option Addr) (l : List Fte) : Prop :=
 ∀ i (h : i < l.length), ∃ b off, ao = some ⟨b, off, none⟩ ∧ w.cell? ⟨b, off + i * 2, none⟩ = some (.int .i64 l[i].d) ∧ w.cell? ⟨b, off + i * 2 + 1, none⟩ = some l[i].v
theorem cellsFt : Tryz.prog.cellsOf 34 = 2 := by kernel_rfl
theorem open_fates {H : Type} {enc : TypeId × Value → H} {w : World} {base : Nat} {spare : Nat → Bool} {held : Bool} {fuel : Nat} {v : Value} {x : DataW H × List MemPlace}
    (h : DataW.trod enc Tryz.prog w base spare held fuel 71 [v] = some x) (hwt : ∀ n ∈ x.1.weights Tryz.prog 71, n ≤ reachBytes) :
    ∃ (os : List Fte) (ao : Option Addr) (cap : Nat), v = .slice ao os.length cap ∧ os.length ≤ cap ∧ cap ≤ maxLen ∧ AtFates w ao os ∧ (∀ o ∈ os, FteOk w o) := by
 rcases open_slice Tryz.underlying71 h with ⟨hcs, hx⟩ | ⟨a, len, cap, m, n, D, Pl, hcs, hb, hl, hm, hmm, hx, hel⟩
 ·simp at hcs
  subst hcs hx
  exact ⟨[], none, 0, rfl, Nat.le_refl _, Nat.zero_le _, fun i hi => by simp at hi, fun o ho => by simp at ho⟩
 ·simp at hcs
  have hlm : len ≤ m := by split at hmm <;> omega
  have each : ∀ i, ∃ o : Fte, i < len → FteOk w o ∧ ∃ b off, a = ⟨b, off, none⟩ ∧ w.cell? ⟨b, off + i * 2, none⟩ = some (.int .i64 o.d) ∧ w.cell? ⟨b, off + i * 2 + 1, none⟩ = some o.v := by
   intro i
   by_cases hi : i < len
   ·obtain ⟨cs', h1, h2⟩ := hel i (by omega)
    obtain ⟨d, vk, ks, ec, lo, hi', kp, _⟩ := open_fate h2 (fun n hn => hwt n (by
     rw [hx]
     simp only [DataW.weights, Tryz.underlying71, List.mem_cons, List.mem_append]
     exact Or.inr (Or.inl (weightsAll_at (i := i) (d := D i) (by simp [hi]) n hn))))
    rw [cellsFt] at h1
    obtain ⟨b, off, sp⟩ := a
    have hsp : sp = none := by
     obtain ⟨cs0, g1, g2⟩ := hel 0 (by omega)
     have g3 := (World.cells?_some g1).2.2 0 (by rw [cellsFt]; omega)
     have g4 : cs0.length = 2 := by
      have := (World.cells?_some g1).2.1
      rw [cellsFt] at this
      first | exact this | omega
     simp [Addr.add, g4] at g3
     exact World.cell?_spot g3
    subst hsp
    have hcell := (World.cells?_some h1).2.2
    rw [addr_add] at hcell
    refine ⟨⟨d, vk, ks⟩, fun _ => ⟨⟨lo, hi', kp⟩, b, off, rfl, ?_, ?_⟩⟩
    ·have k0 := hcell 0 (by omega)
     rw [addr_add] at k0
     simpa [ec] using k0
    ·have k0 := hcell 1 (by omega)
     rw [addr_add] at k0
     simpa [ec] using k0
   ·exact ⟨⟨0, .slice none 0 0, []⟩, fun h => absurd h hi⟩
  obtain ⟨O, hO⟩ : ∃ O : Nat → Fte, ∀ i, i < len → FteOk w (O i) ∧ ∃ b off, a = ⟨b, off, none⟩ ∧ w.cell? ⟨b, off + i * 2, none⟩ = some (.int .i64 (O i).d) ∧ w.cell? ⟨b, off + i * 2 + 1, none⟩ = some (O i).v := ⟨fun i => Classical.choose (each i), fun i => Classical.choose_spec (each i)⟩
  refine ⟨(List.range len).map O, some a, cap, by simp [hcs], by simp; omega, by omega, ?_, ?_⟩
  ·intro i hi
   simp at hi
   obtain ⟨_, b, off, rfl, q1, q2⟩ := hO i (by omega)
   exact ⟨b, off, rfl, by simpa using q1, by simpa using q2⟩
  ·intro o ho
   simp only [List.mem_map, List.mem_range] at ho
   obtain ⟨i, hi, rfl⟩ := ho
   exact (hO i (by omega)).1
end Go.Proofs.YtjehpijjneghpaaGreat.Re
namespace Go.Proofs.YtjehpijjneghpaaGreat.Re
open Go.RowKit Go.Maps Go.Sort Go.Shelf Go.Proofs.YtjehpijjneghpaaGreat.Nm Go.Proofs.YtjehpijjneghpaaGreat.Dk
structure CA (w : World) (B g7 b rb : Nat) (S : DS) (R : RB) (O : Nat → Prop) (V : RV) (q : World) : Prop where
 box : q.heap[g7]? = some (.cells #[.pointer (some ⟨b, 0, none⟩), .pointer (some ⟨rb, 0, none⟩)] 29 (0, 0))
 d : DskE q b S O
 r : RM q rb R V
 rel : Rel S R
 c : S.c7 ≤ 60
 fs : R.fs.length ≤ 64
 bel : Below w.heap.size w q
 lt7 : g7 < B
 ltO : ∀ k, O k → k < B
 ltV : ∀ x k, blk rb V x = some k → k < B
 ltw : w.heap.size ≤ B
 ltq : B ≤ q.heap.size
variable {w q q' : World} {B g7 b rb : Nat} {S : DS} {R : RB} {O : Nat → Prop} {V : RV}
theorem CA.but {X : Nat → Prop} (h : CA w B g7 b rb S R O V q) (hb : But X q q') (hX : ∀ k, X k → B ≤ k) : CA w B g7 b rb S R O V q' :=
 ⟨hb.at h.box (fun c => by have := hX _ c; have := h.lt7; omega), h.d.but hb (fun k hk c => by have := hX _ c; have := h.ltO k hk; omega), h.r.but hb (fun x k hk c => by have := hX _ c; have := h.ltV x k hk; omega), h.rel, h.c, h.fs,
  h.bel.trans (hb.below h.bel.size (fun k hk => Nat.le_trans h.ltw (hX k hk))), h.lt7, h.ltO, h.ltV, h.ltw, Nat.le_trans h.ltq hb.size⟩
theorem CA.below (h : CA w B g7 b rb S R O V q) (hb : Below q.heap.size q q') : CA w B g7 b rb S R O V q' := h.but (But.of_below hb fun _ => False) (fun _ c => c.elim)
theorem CA.rf (h : CA w B g7 b rb S R O V q) : Rf q rb S R V := ⟨h.r, h.rel, by have := h.c; omega⟩
theorem CA.pend (h : CA w B g7 b rb S R O V q) : R.pe.length ≤ 60 ∧ R.old.length ≤ 60 ∧ R.F.length ≤ 60 ∧ R.dir.length ≤ 256 ∧ R.c7 ≤ 60 := by
 have a := h.rel.ri.cnt
 have b := h.rel.cnts
 have c := h.c
 have d := h.rel.ri.fl
 have e := h.rel.ri.dlen
 have f : S.c7 = R.c7 := b.2.2.2.2.2.2.2.1
 refine ⟨?_, ?_, ?_, e, ?_⟩ <;> omega
theorem ca_copy (h : CA w B g7 b rb S R O V q) : Calls Tryz.prog 37 #[.pointer (some ⟨rb, 0, none⟩)] q fun e w' => ∃ c V', e = .returned (.pointer (some ⟨c, 0, none⟩)) ∧ RM w' c R V' ∧ (∀ x k, blk c V' x = some k → q.heap.size ≤ k) ∧ Below q.heap.size q w' := by
 have p := h.pend
 have f := h.fs
 exact copy_rm h.r (by omega) (by omega) (by omega) (by omega) (by omega) h.rel.ri.la
theorem ca_crash (h : CA w B g7 b rb S R O V q) {c : Nat} {V' : RV} (hm : RM q c R V') (d : Int) {vk : Value} {Z : Nat → Prop} {ks : List Kep} (hk : Kp Z q vk ks) (hZ : ∀ k, Z k → (∀ x, blk c V' x ≠ some k) ∧ k < q.heap.size) :
    Calls Tryz.prog 38 #[.pointer (some ⟨c, 0, none⟩), .agg #[.int .i64 d, vk]] q fun e w' => e = .returned (.tuple #[]) ∧ Rgo q w' c V' (R.crash d ks) := by
 have p := h.pend
 exact crash_rm hm (by omega) (h.rel.ri.pf (by omega)) d (h.rel.ri.front _) h.rel.ri.la vk Z ks hk hZ
theorem ca_is (h : CA w B g7 b rb S R O V q) : Calls Tryz.prog 13 #[.pointer (some ⟨b, 0, none⟩), .pointer (some ⟨rb, 0, none⟩)] q fun e w' => e = .returned (.bool true) ∧ Below q.heap.size q w' := is_any h.d h.r h.rel (by have := h.c; omega)
theorem ca_at (h : CA w B g7 b rb S R O V q) (a : Int) (n0 : -9223372036854775808 ≤ a) (n1 : a ≤ 9223372036854775807) (h0 : S.atE a = 0) : Calls Tryz.prog 33 #[.pointer (some ⟨b, 0, none⟩), .int .i64 a] q fun e w' => ∃ (x y : Nat) (ao : Option Addr) (n ca : Nat), e = .returned (.tuple #[.agg #[.int .i64 (x : Int), .slice ao n ca], .int .i64 0]) ∧ FateOf S a.toNat x y ∧ Kr w' (.slice ao n ca) (digs (S.tails (x : Int)) y) ∧ Below q.heap.size q w' := by
 refine (at_dsk h.d (by have := h.c; omega) a n0 n1).mono ?_
 rintro e w' ⟨hb, ⟨c, _⟩ | ⟨_, x, y, v, hf, rfl, hk⟩⟩
 ·exact absurd h0 c
 ·have hkr := kr_of hk
  obtain ⟨ao, ca, rfl, _⟩ := id hkr
  exact ⟨x, y, ao, _, ca, rfl, hf, hkr, hb⟩
theorem ca_rat (h : CA w B g7 b rb S R O V q) (a : Int) (n0 : -9223372036854775808 ≤ a) (n1 : a ≤ 9223372036854775807) (h0 : S.atE a = 0) : Calls Tryz.prog 34 #[.pointer (some ⟨rb, 0, none⟩), .int .i64 a] q fun e w' => ∃ (x y : Nat) (ao : Option Addr) (n ca : Nat), e = .returned (.tuple #[.agg #[.int .i64 (x : Int), .slice ao n ca], .int .i64 0]) ∧ FateOf S a.toNat x y ∧ Kr w' (.slice ao n ca) (digs (S.tails (x : Int)) y) ∧ Kp (fun k => q.heap.size ≤ k ∧ k < w'.heap.size) w' (.slice ao n ca) (keps (digs (S.tails (x : Int)) y)) ∧ Below q.heap.size q w' := by
 refine (rAt_any h.rf a n0 n1).mono ?_
 rintro e w' ⟨hb, ⟨c, _⟩ | ⟨_, x, y, v, hf, rfl, hk⟩⟩
 ·exact absurd h0 c
 ·have hkp := hk.kp (digs_small h.d.ok x y hf.lt)
  have hkr := kr_of hk
  obtain ⟨ao, ca, rfl, _⟩ := id hkr
  exact ⟨x, y, ao, _, ca, rfl, hf, hkr, hkp, hb⟩
theorem ca_after (h : CA w B g7 b rb S R O V q) (a : Int) (n0 : -9223372036854775808 ≤ a) (n1 : a ≤ 9223372036854775807) (h0 : S.atE a = 0) {x y : Nat} (hf : FateOf S a.toNat x y) : Calls Tryz.prog 35 #[.pointer (some ⟨b, 0, none⟩), .int .i64 a] q fun e w' => ∃ b' S' O', e = .returned (.tuple #[.pointer (some ⟨b', 0, none⟩), .int .i64 0]) ∧ Rel S' (R.crash (x : Int) (keps (digs (S.tails (x : Int)) y))) ∧ S'.c7 ≤ 60 ∧ DskE w' b' S' O' ∧ (∀ k, O' k → q.heap.size ≤ k) ∧ Below q.heap.size q w' := by
 refine (after_dsk h.d h.rel.uq (by have := h.c; omega) a n0 n1).mono ?_
 rintro e w' ⟨hb, ⟨c, _⟩ | ⟨_, x', y', b', σ, S', O', hf', rfl, hl, hd, lo⟩⟩
 ·exact absurd h0 c
 ·obtain ⟨rfl, rfl⟩ := hf.uniq hf'
  exact ⟨b', S', O', rfl, Rel.alike (h.rel.crash _ _) hl, by rw [hl.c7]; exact h.c, hd, lo, hb⟩
theorem ca_atN (h : CA w B g7 b rb S R O V q) (a : Int) (n0 : -9223372036854775808 ≤ a) (n1 : a ≤ 9223372036854775807) (h0 : S.atE a ≠ 0) : Calls Tryz.prog 33 #[.pointer (some ⟨b, 0, none⟩), .int .i64 a] q fun e w' => e = .returned (.tuple #[.agg #[.int .i64 0, .slice none 0 0], .int .i64 (S.atE a)]) ∧ Below q.heap.size q w' := by
 refine (at_dsk h.d (by have := h.c; omega) a n0 n1).mono ?_
 rintro e w' ⟨hb, ⟨_, rfl⟩ | ⟨c, _⟩⟩
 ·exact ⟨rfl, hb⟩
 ·exact absurd c h0
theorem ca_ratN (h : CA w B g7 b rb S R O V q) (a : Int) (n0 : -9223372036854775808 ≤ a) (n1 : a ≤ 9223372036854775807) (h0 : S.atE a ≠ 0) : Calls Tryz.prog 34 #[.pointer (some ⟨rb, 0, none⟩), .int .i64 a] q fun e w' => e = .returned (.tuple #[.agg #[.int .i64 0, .slice none 0 0], .int .i64 (S.atE a)]) ∧ Below q.heap.size q w' := by
 refine (rAt_any h.rf a n0 n1).mono ?_
 rintro e w' ⟨hb, ⟨_, rfl⟩ | ⟨c, _⟩⟩
 ·exact ⟨rfl, hb⟩
 ·exact absurd c h0
theorem ca_afterN (h : CA w B g7 b rb S R O V q) (a : Int) (n0 : -9223372036854775808 ≤ a) (n1 : a ≤ 9223372036854775807) (h0 : S.atE a ≠ 0) : Calls Tryz.prog 35 #[.pointer (some ⟨b, 0, none⟩), .int .i64 a] q fun e w' => e = .returned (.tuple #[.pointer none, .int .i64 (S.atE a)]) ∧ Below q.heap.size q w' := by
 refine (after_dsk h.d h.rel.uq (by have := h.c; omega) a n0 n1).mono ?_
 rintro e w' ⟨hb, ⟨_, rfl⟩ | ⟨c, _⟩⟩
 ·exact ⟨rfl, hb⟩
 ·exact absurd c h0
theorem kr_nil (q : World) : Kr q (.slice none 0 0) [] := ⟨none, 0, rfl, Nat.le_refl _, by omega, fun i h => by simp at h⟩
theorem eq_nil (q : World) : Calls Tryz.prog 36 #[.agg #[.int .i64 0, .slice none 0 0], .agg #[.int .i64 0, .slice none 0 0]] q fun e w' => e = .returned (.bool true) ∧ Below q.heap.size q w' := by
 refine (fate_eq q 0 0 _ _ [] [] (kr_nil q) (kr_nil q)).mono ?_
 rintro e w' ⟨rfl, hb⟩
 exact ⟨rfl, hb⟩
end Go.Proofs.YtjehpijjneghpaaGreat.Re
namespace Go.Proofs.YtjehpijjneghpaaGreat.Re
open Go.RowKit Go.Maps Go.Sort Go.Shelf Go.Proofs.YtjehpijjneghpaaGreat.Nm Go.Proofs.YtjehpijjneghpaaGreat.Dk
open Ix (wp_region_T wpAnyT wpAnyT_take wpAnyT_one wpAnyT_done vac)
theorem at_int {w : World} {ao : Option Addr} {l : List Int} (h : At w ao (l.map (Value.int .i64))) {k : Nat} (hk : k < l.length) : ∃ b off, ao = some ⟨b, off, none⟩ ∧ w.cell? ⟨b, off + k, none⟩ = some (.int .i64 l[k]) := by
 obtain ⟨b, off, e, hc⟩ := h k (by simpa using hk)
 exact ⟨b, off, e, by simpa using hc⟩
structure Pxf (pb b rb gb o : Nat) (td : Int) (tv : Value) (q : World) : Prop where
 f : q.heap[pb]? = some (.cells #[.pointer (some ⟨b, 0, none⟩), .pointer (some ⟨rb, 0, none⟩)] 29 (0, 0))
 n : q.cell? ⟨gb, o, none⟩ = some (.int .i64 td)
 m : q.cell? ⟨gb, o + 1, none⟩ = some tv
theorem Pxf.but {pb b rb gb o : Nat} {td : Int} {tv : Value} {q q' : World} {X : Nat → Prop} (h : Pxf pb b rb gb o td tv q) (hb : But X q q') (h1 : ¬ X pb) (h2 : ¬ X gb) : Pxf pb b rb gb o td tv q' := ⟨hb.at h.f h1, cell_but h.n hb h2, cell_but h.m hb h2⟩
theorem call_walk (w : World) (ao : Option Addr) (cap : Nat) (os : List Dop) (hos : os.length ≤ cap) (hcap : cap ≤ maxLen) (hat : AtDops w ao os) (hok : ∀ o ∈ os, DopOk w o)
    (vi : Value) (is : List Int) (hi : Row w vi (is.map (Value.int .i64))) (hiw : ∀ n ∈ is, -9223372036854775808 ≤ n ∧ n ≤ 9223372036854775807)
    (fo : Option Addr) (fcap : Nat) (fl : List Fte) (flc : fl.length ≤ fcap) (fcm : fcap ≤ maxLen) (fat : AtFates w fo fl) (fok : ∀ t ∈ fl, FteOk w t) :
    Calls Tryz.prog 6 #[.slice ao os.length cap, vi, .slice fo fl.length fcap] w fun e w' => e = .returned (.bool true) ∧ Below w.heap.size w w' := by
 have fcm' : fcap ≤ 9223372036854775807 := by unfold maxLen at fcm; omega
 obtain ⟨ia, ic, rfl, i1, i2, i3, i4⟩ := hi
 have i3' : ic ≤ 9223372036854775807 := by unfold maxLen at i3; omega
 rw [List.length_map] at i2 ⊢
 obtain ⟨Ni, hNi⟩ : ∃ N, Hid (is.length = N) := ⟨_, rfl⟩
 obtain ⟨Nf, hNf⟩ : ∃ N, Hid (fl.length = N) := ⟨_, rfl⟩
 obtain ⟨M, hM⟩ : ∃ M, Hid (os.length = M) := ⟨_, rfl⟩
 have HM : Hid (∀ q, Below w.heap.size w q → Calls Tryz.prog 30 #[.int .i64 65536, .slice ao M cap] q (Md q)) := fun q hq => by
  rw [← hM.out]
  exact made_any q ao cap os hos hcap (AtDops.below hat hq) (fun o ho => DopOk.below (hok o ho) hq)
 rw [hNi.out] at i2 ⊢
 rw [hNf.out] at flc ⊢
 rw [hM.out]
 replace i4 := hide i4
 replace hiw := hide hiw
 replace fat := hide fat
 replace fok := hide fok
 clear hos hcap hat hok i1 i3 fcm
 go_enter Tryz.func6, Tryz.ntmps6
 go_upto_region 4 with (first
  | (go_at_call 29; refine (begun12_any _).mono ?_; rintro e w2 ⟨rfl, B2⟩; replace B2 := hide B2)
  | (go_at_call 30; refine (HM.out _ B2.out).mono ?_; rintro e w3 ⟨⟨pb, b, rb, S, R, O, V, rfl, px, hr, hc, lo, B3, fsl⟩⟩; replace px := hide px; replace hr := hide hr; replace hc := hide hc; replace lo := hide lo; replace B3 := hide B3; replace fsl := hide fsl))
 have NP := hide (heap_alloc_new w3 (.cells #[.pointer (some ⟨b, 0, none⟩), .pointer (some ⟨rb, 0, none⟩)] 29))
 have BP := hide (box_below w3 (.cells #[.pointer (some ⟨b, 0, none⟩), .pointer (some ⟨rb, 0, none⟩)] 29))
 generalize w3.alloc (.cells #[.pointer (some ⟨b, 0, none⟩), .pointer (some ⟨rb, 0, none⟩)] 29) = w4 at *
 obtain ⟨g7, hg7⟩ : ∃ g7, Hid (w3.heap.size = g7) := ⟨_, rfl⟩
 rw [hg7.out] at NP ⊢
 obtain ⟨B, hB⟩ : ∃ B, Hid (w4.heap.size = B) := ⟨_, rfl⟩
 have J4 : Hid (CA w B g7 b rb S R O V w4) := by
  have q0 := bs2 B2.out (bs2 B3.out BP.out)
  have z := BP.out.size
  have e := hB.out
  refine ⟨NP.out, px.out.d.below BP.out, px.out.r.below BP.out, hr.out, hc.out, fsl.out, q0, by have := heap_lt NP.out; omega, fun k hk => by have := px.out.d.lt k hk; omega, fun x k hk => by have := px.out.r.lt x k hk; omega, by have := q0.size; omega, by omega⟩
 clear NP BP px lo B3 B2 HM hM hg7 hB fsl
 obtain ⟨x0, x1⟩ := two_cells J4.out.box
 have hW1 := ways_dsk J4.out.d (by have := hc.out; omega)
 have hWk : Hid (∀ q, Below w4.heap.size w4 q → Calls Tryz.prog 32 #[.pointer (some ⟨rb, 0, none⟩)] q fun e w' => e = .returned (.tuple #[.int .i64 S.cnt.2.1, .int .i64 S.cnt.2.2]) ∧ Below q.heap.size q w') := fun q hq => rWays_any (J4.out.below hq).rf
 have KB : Hid (∀ q, Below w4.heap.size w4 q → q.cell? ⟨g7, 0, none⟩ = some (.pointer (some ⟨b, 0, none⟩)) ∧ q.cell? ⟨g7, 1, none⟩ = some (.pointer (some ⟨rb, 0, none⟩))) := fun q hq => two_cells (J4.out.below hq).box
 obtain ⟨cn, hcn⟩ : ∃ cn, Hid (S.cnt.2.1 = cn) := ⟨_, rfl⟩
 obtain ⟨ce, hce⟩ : ∃ ce, Hid (S.cnt.2.2 = ce) := ⟨_, rfl⟩
 rw [hcn.out, hce.out] at hW1 hWk
 have cn0 : Hid (0 ≤ cn ∧ cn ≤ 1099511627776) := by
  show _ ∧ _
  rw [← hcn.out]
  unfold DS.cnt
  split
  ·rename_i hh; unfold M40 at hh; exact ⟨by show (0 : Int) ≤ (S.ways : Int); omega, by show (S.ways : Int) ≤ _; omega⟩
  ·exact ⟨by decide, by decide⟩
 go_upto_region 10 with (first
  | (go_at_call 31; refine hW1.mono ?_; rintro e w5 ⟨rfl, b5⟩; replace b5 := hide b5; obtain ⟨y0, y1⟩ := KB.out w5 b5.out)
  | (go_at_call 32; refine (hWk.out _ b5.out).mono ?_; rintro e w6 ⟨rfl, b6⟩; replace b6 := hide b6)
  | fail)
 have J6 := hide (J4.out.below (bs2 b5.out b6.out))
 clear x0 x1 y0 y1 hW1 hWk KB J4 b5 b6
 go_wp2_with fail
 go_loopw [13] (fun i wr => ∃ k : Nat, i = .int .i64 k ∧ k ≤ Ni ∧ k ≤ 10 ∧ Hid (CA w B g7 b rb S R O V wr)) (fun i _ => Ni - (intOf i).toNat)
 case atStart => exact ⟨0, rfl, Nat.zero_le _, Nat.zero_le _, J6⟩
 case round =>
  clear J6
  obtain ⟨k, rfl, hk, hk2, hA⟩ := hrel
  by_cases hgo : k < Ni ∧ k < 10
  ·obtain ⟨hlt, hlt2⟩ := hgo
   have j1 : (k : Int) < (Ni : Int) := by omega
   have j2 : (k : Int) < 10 := by omega
   have hkl : k < is.length := by rw [hNi.out]; exact hlt
   obtain ⟨gb, off, rfl, hcl⟩ := at_int i4.out hkl
   have hbd := hide (hiw.out _ (List.getElem_mem hkl))
   have x0 : wr.cell? ⟨gb, off + k, none⟩ = some (.int .i64 is[k]) := by rw [hA.out.bel.cell (lt_of_cell hcl)]; exact hcl
   clear hcl
   generalize is[k] = a0 at *
   have c0 := cn0.out
   have a1 := hbd.out
   go_upto_region 14 with fail
   go_cut [76] from 70 to 75 (fun v wx => ∃ t : Bool, v = .bool t ∧ Hid (t = true → 0 < cn ∧ cn < a0) ∧ Hid (wx = wr))
   case first =>
    by_cases t1 : 0 < cn
    ·by_cases t2 : cn < a0
     ·go_wp2_with fail
      go_meet
      case rel => exact ⟨true, by first | rfl | simp [t1, t2], fun _ => ⟨t1, t2⟩, rfl⟩
     ·go_wp2_with fail
      go_meet
      case rel => exact ⟨false, by first | rfl | simp [t1, t2] | (simp; omega), (fun c => by cases c), rfl⟩
    ·go_wp2_with fail
     go_meet
     case rel => exact ⟨false, by first | rfl | simp [t1] | (simp; omega), (fun c => by cases c), rfl⟩
   case rest =>
    obtain ⟨t, rfl, ht, hwx⟩ := hcut
    have hwx' := hwx.out
    clear hwx
    subst hwx'
    refine (‹∀ (a : Act) (w : World), Code.wp Tryz.prog _ _ a w → _›) _ _ ?_
    go_cut [14] from 77 to 80 (fun v wx => ∃ a : Int, v = .int .i64 a ∧ Hid (-9223372036854775808 ≤ a ∧ a ≤ 9223372036854775807) ∧ Hid (wx = wc))
    case first =>
     cases t with
     | false =>
      go_wp2_with fail
      go_meet
      case rel => exact ⟨a0, rfl, hbd.out, rfl⟩
     | true =>
      obtain ⟨t1, t2⟩ := ht.out rfl
      have t3 : ¬ (cn + 1 = 0) := by omega
      have t4 : 0 ≤ a0.tmod (cn + 1) ∧ a0.tmod (cn + 1) ≤ cn := by
       rw [Int.tmod_eq_emod_of_nonneg (by omega)]
       have := Int.emod_nonneg a0 t3
       have := Int.emod_lt_of_pos a0 (show 0 < cn + 1 by omega)
       omega
      have t5 : 0 ≤ a0 % (cn + 1) ∧ a0 % (cn + 1) ≤ cn := by
       have := Int.emod_nonneg a0 t3
       have := Int.emod_lt_of_pos a0 (show 0 < cn + 1 by omega)
       omega
      go_wp2_with fail
      go_meet
      case rel => exact ⟨_, rfl, by show _ ∧ _; first | omega | (constructor <;> omega), rfl⟩
    case rest =>
    obtain ⟨a, rfl, hab, hwx⟩ := hcut
    have hwx' := hwx.out
    clear hwx ht
    subst hwx'
    obtain ⟨n0, n1⟩ := hab.out
    clear x0 c0 a1 hbd hab
    obtain ⟨x0, x1⟩ := two_cells hA.out.box
    refine (‹∀ (a : Act) (w : World), Code.wp Tryz.prog _ _ a w → _›) _ _ ?_
    by_cases h0 : S.atE a = 0
    ·have hA1 := ca_at hA.out a n0 n1 h0
     go_upto_region 17 with (first
      | (go_at_call 33; refine hA1.mono ?_; rintro e w7 ⟨xx, xy, xa, xn, xc, rfl, fx, kx, b7⟩; replace fx := hide fx; replace kx := hide kx; replace b7 := hide b7)
      | fail)
     have N8 := hide (heap_alloc_new w7 (.cells #[.int .i64 (xx : Int), .slice xa xn xc] 34))
     have B8 := hide (box_below w7 (.cells #[.int .i64 (xx : Int), .slice xa xn xc] 34))
     generalize w7.alloc (.cells #[.int .i64 (xx : Int), .slice xa xn xc] 34) = w8 at *
     obtain ⟨gx, hgx⟩ : ∃ gx, Hid (w7.heap.size = gx) := ⟨_, rfl⟩
     rw [hgx.out] at N8 ⊢
     have J8 := hide ((hA.out.below b7.out).below B8.out)
     have kx8 := hide (kx.out.below B8.out)
     clear x0 x1 hA1 kx
     obtain ⟨x0, x1⟩ := two_cells J8.out.box
     have hA2 := ca_rat J8.out a n0 n1 h0
     go_upto_region 18 with (first
      | (go_at_call 34; refine hA2.mono ?_; rintro e w9 ⟨yx, yy, ya, yn, yc, rfl, fy, ky, kp9, b9⟩; replace fy := hide fy; replace ky := hide ky; replace kp9 := hide kp9; replace b9 := hide b9)
      | fail)
     have N10 := hide (heap_alloc_new w9 (.cells #[.int .i64 (yx : Int), .slice ya yn yc] 34))
     have B10 := hide (box_below w9 (.cells #[.int .i64 (yx : Int), .slice ya yn yc] 34))
     generalize w9.alloc (.cells #[.int .i64 (yx : Int), .slice ya yn yc] 34) = w10 at *
     obtain ⟨gy, hgy⟩ : ∃ gy, Hid (w9.heap.size = gy) := ⟨_, rfl⟩
     rw [hgy.out] at N10 ⊢
     have B810 := hide (bs2 b9.out B10.out)
     have J10 := hide (J8.out.below B810.out)
     have kx10 := hide (kx8.out.below B810.out)
     have ky10 := hide (ky.out.below B10.out)
     have NX10 := hide ((B810.out.block _ (heap_lt N8.out)).trans N8.out)
     clear x0 x1 hA2 kx8 ky
     obtain ⟨x0, x1⟩ := two_cells J10.out.box
     have hA3 := ca_after J10.out a n0 n1 h0 fy.out
     go_upto_region 19 with (first
      | (go_at_call 35; refine hA3.mono ?_; rintro e w11 ⟨b1, S1, O1, rfl, r1, c1, d1, l1, b11⟩; replace r1 := hide r1; replace c1 := hide c1; replace d1 := hide d1; replace l1 := hide l1; replace b11 := hide b11)
      | fail)
     have J11 := hide (J10.out.below b11.out)
     have NX11 := hide ((b11.out.block _ (heap_lt NX10.out)).trans NX10.out)
     have NY11 := hide ((b11.out.block _ (heap_lt N10.out)).trans N10.out)
     have hE := bk_eq fx.out fy.out (kx10.out.below b11.out) (ky10.out.below b11.out)
     rw [decide_eq_true rfl] at hE
     clear x0 x1 hA3 kx10 ky10
     obtain ⟨u0, u1⟩ := two_cells NX11.out
     obtain ⟨v0, v1⟩ := two_cells NY11.out
     go_upto_region 22 with (first
      | (go_at_call 36; refine hE.mono ?_; rintro e w12 ⟨rfl, b12⟩; replace b12 := hide b12)
      | fail)
     have J12 := hide (J11.out.below b12.out)
     have NY12 := hide ((b12.out.block _ (heap_lt NY11.out)).trans NY11.out)
     clear u0 u1 v0 v1 hE
     obtain ⟨x0, x1⟩ := two_cells J12.out.box
     have hCo := ca_copy J12.out
     go_upto_region 23 with (first
      | (go_at_call 37; refine hCo.mono ?_; rintro e w13 ⟨c, V', rfl, rm13, lo13, b13⟩; replace rm13 := hide rm13; replace lo13 := hide lo13; replace b13 := hide b13)
      | fail)
     have J13 := hide (J12.out.below b13.out)
     have NY13 := hide ((b13.out.block _ (heap_lt NY12.out)).trans NY12.out)
     clear x0 x1 hCo
     obtain ⟨v0, v1⟩ := two_cells NY13.out
     have B913 := hide (bs2 B10.out (bs2 b11.out (bs2 b12.out b13.out)))
     have B912 := hide (bs2 B10.out (bs2 b11.out b12.out))
     have hCr := ca_crash J13.out rm13.out (yx : Int) (kp9.out.below B913.out) (fun k hk => ⟨fun x e => by have q1 := lo13.out x k e; have q2 := B912.out.size; omega, by have q2 := B913.out.size; omega⟩)
     go_upto_region 24 with (first
      | (go_at_call 38; refine hCr.mono ?_; rintro e w14 ⟨rfl, ⟨V2, rm14, _⟩, bu14⟩; replace rm14 := hide rm14; replace bu14 := hide bu14)
      | fail)
     have J14 := hide (J13.out.but bu14.out (fun k hk => by obtain ⟨x, e⟩ := hk; have q1 := lo13.out x k e; have q2 := J12.out.ltq; omega))
     have d14 : Hid (DskE w14 b1 S1 O1) := (d1.out.below (bs2 b12.out b13.out)).but bu14.out (fun k hk e => by obtain ⟨x, e⟩ := e; have q1 := lo13.out x k e; have q2 := d1.out.lt k hk; have q3 := b12.out.size; omega)
     clear v0 v1 hCr
     have hIs := is_any d14.out rm14.out r1.out (by have := c1.out; omega)
     go_wp2_with (first
      | (go_at_call 13; refine hIs.mono ?_; rintro e w15 ⟨rfl, b15⟩; replace b15 := hide b15)
      | fail)
     go_roundw
     case rel => exact ⟨k + 1, by go_num, by omega, by omega, J14.out.below b15.out⟩
     case measure => simp [intOf]; omega
    ·have hA1 := ca_atN hA.out a n0 n1 h0
     have KR : Hid (∀ q, CA w B g7 b rb S R O V q → Calls Tryz.prog 34 #[.pointer (some ⟨rb, 0, none⟩), .int .i64 a] q fun e w' => e = .returned (.tuple #[.agg #[.int .i64 0, .slice none 0 0], .int .i64 (S.atE a)]) ∧ Below q.heap.size q w') := fun q hq => ca_ratN hq a n0 n1 h0
     have KN : Hid (∀ q, CA w B g7 b rb S R O V q → Calls Tryz.prog 35 #[.pointer (some ⟨b, 0, none⟩), .int .i64 a] q fun e w' => e = .returned (.tuple #[.pointer none, .int .i64 (S.atE a)]) ∧ Below q.heap.size q w') := fun q hq => ca_afterN hq a n0 n1 h0
     obtain ⟨E, hE⟩ : ∃ E, Hid (S.atE a = E) := ⟨_, rfl⟩
     rw [hE.out] at hA1 KR KN h0
     have e1 : (E == 0) = false := by simpa using h0
     have e2 : (E != 0) = true := by simpa using h0
     go_upto_region 17 with (first
      | (go_at_call 33; refine hA1.mono ?_; rintro e w7 ⟨rfl, b7⟩; replace b7 := hide b7)
      | fail)
     have N8 := hide (heap_alloc_new w7 (.cells #[.int .i64 0, .slice none 0 0] 34))
     have B8 := hide (box_below w7 (.cells #[.int .i64 0, .slice none 0 0] 34))
     generalize w7.alloc (.cells #[.int .i64 0, .slice none 0 0] 34) = w8 at *
     obtain ⟨gx, hgx⟩ : ∃ gx, Hid (w7.heap.size = gx) := ⟨_, rfl⟩
     rw [hgx.out] at N8 ⊢
     have J8 := hide ((hA.out.below b7.out).below B8.out)
     clear x0 x1 hA1
     obtain ⟨x0, x1⟩ := two_cells J8.out.box
     have hA2 := KR.out _ J8.out
     go_upto_region 18 with (first
      | (go_at_call 34; refine hA2.mono ?_; rintro e w9 ⟨rfl, b9⟩; replace b9 := hide b9)
      | fail)
     have N10 := hide (heap_alloc_new w9 (.cells #[.int .i64 0, .slice none 0 0] 34))
     have B10 := hide (box_below w9 (.cells #[.int .i64 0, .slice none 0 0] 34))
     generalize w9.alloc (.cells #[.int .i64 0, .slice none 0 0] 34) = w10 at *
     obtain ⟨gy, hgy⟩ : ∃ gy, Hid (w9.heap.size = gy) := ⟨_, rfl⟩
     rw [hgy.out] at N10 ⊢
     have B810 := hide (bs2 b9.out B10.out)
     have J10 := hide (J8.out.below B810.out)
     have NX10 := hide ((B810.out.block _ (heap_lt N8.out)).trans N8.out)
     clear x0 x1 hA2
     obtain ⟨x0, x1⟩ := two_cells J10.out.box
     have hA3 := KN.out _ J10.out
     go_upto_region 19 with (first
      | (go_at_call 35; refine hA3.mono ?_; rintro e w11 ⟨rfl, b11⟩; replace b11 := hide b11)
      | fail)
     have J11 := hide (J10.out.below b11.out)
     have NX11 := hide ((b11.out.block _ (heap_lt NX10.out)).trans NX10.out)
     have NY11 := hide ((b11.out.block _ (heap_lt N10.out)).trans N10.out)
     clear x0 x1 hA3 KR KN
     obtain ⟨u0, u1⟩ := two_cells NX11.out
     obtain ⟨v0, v1⟩ := two_cells NY11.out
     go_wp2_with (first
      | (go_at_call 36; refine (eq_nil _).mono ?_; rintro e w12 ⟨rfl, b12⟩; replace b12 := hide b12)
      | fail)
     go_roundw
     case rel => exact ⟨k + 1, by go_num, by omega, by omega, J11.out.below b12.out⟩
     case measure => simp [intOf]; omega
  ·have hend : ¬ ((k : Int) < (Ni : Int)) ∨ ((k : Int) < (Ni : Int) ∧ ¬ ((k : Int) < 10)) := by omega
   clear hgo
   rcases hend with j1 | ⟨j1, j2⟩
   ·go_wp2_with fail
    go_loopw [22] (fun i wr => ∃ k : Nat, i = .int .i64 k ∧ k ≤ Nf ∧ k ≤ 10 ∧ Hid (CA w B g7 b rb S R O V wr)) (fun i _ => Nf - (intOf i).toNat)
    case atStart => exact ⟨0, rfl, Nat.zero_le _, Nat.zero_le _, hA⟩
    case round =>
     clear hA hk hk2
     obtain ⟨k, rfl, hk, hk2, hA⟩ := hrel
     by_cases hgo : k < Nf ∧ k < 10
     ·obtain ⟨hlt, hlt2⟩ := hgo
      have j1 : (k : Int) < (Nf : Int) := by omega
      have j2 : (k : Int) < 10 := by omega
      have hkl : k < fl.length := by rw [hNf.out]; exact hlt
      obtain ⟨gb, off, rfl, q0, q1⟩ := fat.out k hkl
      obtain ⟨tlo, thi, tkp⟩ := fok.out _ (List.getElem_mem hkl)
      generalize fl[k] = t at *
      obtain ⟨td, tv, tks⟩ := t
      dsimp only at q0 q1 tlo thi tkp
      replace tlo := hide tlo
      replace thi := hide thi
      have TK : Hid (∀ q, Below w.heap.size w q → Kp (fun k => k < w.heap.size) q tv tks) := fun q hq => tkp.below hq
      have Z1 : Hid (Pxf g7 b rb gb (off + k * 2) td tv wr) := ⟨hA.out.box, by rw [hA.out.bel.cell (lt_of_cell q0)]; exact q0, by rw [hA.out.bel.cell (lt_of_cell q1)]; exact q1⟩
      clear q0 q1 tkp
      go_upto_region 29 with fail
      have KPa : Hid (Pxf g7 b rb gb (off + k * 2) td tv wr.drew) := Z1.out.but (But.of_below (Below.refl _ _).drew fun _ => False) (fun c => c) (fun c => c)
      have AQa := hide (hA.out.below (Below.refl _ _).drew)
      refine wp_region_T (fun q => Pxf g7 b rb gb (off + k * 2) td tv q) 11 (by kernel_rfl) ?_
      generalize wr.drew = qa at *
      refine Ix.tk 0 ⟨some 146, .fieldAddr 29 (.tmp 7) 0, _, _, _, _⟩ (.pointer (some ⟨g7, 0, none⟩)) [1,6,7,8,10,11] ?_ KPa.out ?_
      ·intro wq hSw; go_simp
      (try simp only [zzp, zzb, zzc])
      refine Ix.tk 1 ⟨some 147, .load 24 (.tmp 146), _, _, _, _⟩ (.pointer (some ⟨b, 0, none⟩)) [6,7,8,10,11] ?_ KPa.out ?_
      ·intro wq hSw
       obtain ⟨z0, z1⟩ := two_cells hSw.f
       have t0 := hSw.n
       have t1 := hSw.m
       go_simp
      (try simp only [zzp, zzb, zzc])
      refine Ix.tk 2 ⟨some 148, .move (.tmp 2), _, _, _, _⟩ (.slice (some ⟨gb, off, none⟩) Nf fcap) [4,5,6,7,8,10,11] ?_ KPa.out ?_
      ·intro wq hSw; go_simp
      (try simp only [zzp, zzb, zzc])
      refine Ix.tk 3 ⟨some 149, .move (.tmp 22), _, _, _, _⟩ (.int .i64 (k : Int)) [4,5,6,7,8,10,11] ?_ KPa.out ?_
      ·intro wq hSw; go_simp
      (try simp only [zzp, zzb, zzc])
      refine Ix.tk 4 ⟨some 150, .indexAddr 71 (.tmp 148) (.tmp 149), _, _, _, _⟩ (.pointer (some ⟨gb, off + k * 2, none⟩)) [5,6,7,8,10,11] ?_ KPa.out ?_
      ·intro wq hSw
       obtain ⟨z0, z1⟩ := two_cells hSw.f
       have t0 := hSw.n
       have t1 := hSw.m
       go_simp
      (try simp only [zzp, zzb, zzc])
      refine Ix.tk 5 ⟨some 151, .load 34 (.tmp 150), _, _, _, _⟩ (.agg #[.int .i64 td, tv]) [6,7,8,10,11] ?_ KPa.out ?_
      ·intro wq hSw
       obtain ⟨z0, z1⟩ := two_cells hSw.f
       have t0 := hSw.n
       have t1 := hSw.m
       go_simp
      (try simp only [zzp, zzb, zzc])
      refine wpAnyT_one (i := 6) (o := ⟨some 152, .call { callee := .value (.func 39), args := #[.tmp 147, .tmp 151], argTypes := #[24, 34] }, _, _, _, _⟩) (by kernel_rfl) rfl (fun K hK => ?_)
      go_simp
      go_at_call 39
      refine (number_dsk AQa.out.d (by have := AQa.out.c; omega) td tlo.out thi.out tv tks _ (TK.out _ AQa.out.bel)).mono ?_
      rintro e w5a ⟨rfl, b1a⟩
      replace b1a := hide b1a
      have K5a : Hid (Pxf g7 b rb gb (off + k * 2) td tv w5a) := KPa.out.but (But.of_below b1a.out fun _ => False) (fun c => c) (fun c => c)
      (try go_simp)
      refine hK.out _ _ (fun _ => K5a.out) ?_
      clear hK K
      (try simp only [zzp, zzb, zzc])
      refine Ix.tk 7 ⟨some 145, .move (.tmp 152), _, _, _, _⟩ (.tuple #[.int .i64 (S.numE td tks).1, .int .i64 (S.numE td tks).2]) [8,10,11] ?_ K5a.out ?_
      ·intro wq hSw; go_simp
      (try simp only [zzp, zzb, zzc])
      refine Ix.tk 8 ⟨some 153, .extract (.tmp 145) 0, _, _, _, _⟩ (.int .i64 (S.numE td tks).1) [10,11] ?_ K5a.out ?_
      ·intro wq hSw; go_simp
      (try simp only [zzp, zzb, zzc])
      refine Ix.tk 9 ⟨some 154, .extract (.tmp 145) 1, _, _, _, _⟩ (.int .i64 (S.numE td tks).2) [11] ?_ K5a.out ?_
      ·intro wq hSw; go_simp
      (try simp only [zzp, zzb, zzc])
      refine Ix.tk 10 ⟨some 23, .assign (.tmp 153), _, _, _, _⟩ (.int .i64 (S.numE td tks).1) [11] ?_ K5a.out ?_
      ·intro wq hSw; go_simp
      (try simp only [zzp, zzb, zzc])
      refine wpAnyT_one (i := 11) (o := ⟨some 24, .assign (.tmp 154), _, _, _, _⟩) (by kernel_rfl) rfl (fun K hK => ?_)
      go_simp
      refine hK.out _ _ (vac (by kernel_rfl)) ?_
      clear hK K
      (try simp only [zzp, zzb, zzc])
      refine wpAnyT_done (by kernel_rfl) ?_ _
      have A5a := hide (AQa.out.below b1a.out)
      clear hA Z1 KPa AQa b1a
      go_upto_region 30 with fail
      have KPb : Hid (Pxf g7 b rb gb (off + k * 2) td tv w5a.drew) := K5a.out.but (But.of_below (Below.refl _ _).drew fun _ => False) (fun c => c) (fun c => c)
      have AQb := hide (A5a.out.below (Below.refl _ _).drew)
      refine wp_region_T (fun q => Pxf g7 b rb gb (off + k * 2) td tv q) 11 (by kernel_rfl) ?_
      generalize w5a.drew = qb at *
      refine Ix.tk 0 ⟨some 156, .fieldAddr 29 (.tmp 7) 1, _, _, _, _⟩ (.pointer (some ⟨g7, 1, none⟩)) [1,6,7,8,10,11] ?_ KPb.out ?_
      ·intro wq hSw; go_simp
      (try simp only [zzp, zzb, zzc])
      refine Ix.tk 1 ⟨some 157, .load 26 (.tmp 156), _, _, _, _⟩ (.pointer (some ⟨rb, 0, none⟩)) [6,7,8,10,11] ?_ KPb.out ?_
      ·intro wq hSw
       obtain ⟨z0, z1⟩ := two_cells hSw.f
       have t0 := hSw.n
       have t1 := hSw.m
       go_simp
      (try simp only [zzp, zzb, zzc])
      refine Ix.tk 2 ⟨some 158, .move (.tmp 2), _, _, _, _⟩ (.slice (some ⟨gb, off, none⟩) Nf fcap) [4,5,6,7,8,10,11] ?_ KPb.out ?_
      ·intro wq hSw; go_simp
      (try simp only [zzp, zzb, zzc])
      refine Ix.tk 3 ⟨some 159, .move (.tmp 22), _, _, _, _⟩ (.int .i64 (k : Int)) [4,5,6,7,8,10,11] ?_ KPb.out ?_
      ·intro wq hSw; go_simp
      (try simp only [zzp, zzb, zzc])
      refine Ix.tk 4 ⟨some 160, .indexAddr 71 (.tmp 158) (.tmp 159), _, _, _, _⟩ (.pointer (some ⟨gb, off + k * 2, none⟩)) [5,6,7,8,10,11] ?_ KPb.out ?_
      ·intro wq hSw
       obtain ⟨z0, z1⟩ := two_cells hSw.f
       have t0 := hSw.n
       have t1 := hSw.m
       go_simp
      (try simp only [zzp, zzb, zzc])
      refine Ix.tk 5 ⟨some 161, .load 34 (.tmp 160), _, _, _, _⟩ (.agg #[.int .i64 td, tv]) [6,7,8,10,11] ?_ KPb.out ?_
      ·intro wq hSw
       obtain ⟨z0, z1⟩ := two_cells hSw.f
       have t0 := hSw.n
       have t1 := hSw.m
       go_simp
      (try simp only [zzp, zzb, zzc])
      refine wpAnyT_one (i := 6) (o := ⟨some 162, .call { callee := .value (.func 40), args := #[.tmp 157, .tmp 161], argTypes := #[26, 34] }, _, _, _, _⟩) (by kernel_rfl) rfl (fun K hK => ?_)
      go_simp
      go_at_call 40
      refine (rNumber_any AQb.out.rf td tlo.out thi.out tv tks _ (TK.out _ AQb.out.bel)).mono ?_
      rintro e w5b ⟨rfl, b1b⟩
      replace b1b := hide b1b
      have K5b : Hid (Pxf g7 b rb gb (off + k * 2) td tv w5b) := KPb.out.but (But.of_below b1b.out fun _ => False) (fun c => c) (fun c => c)
      (try go_simp)
      refine hK.out _ _ (fun _ => K5b.out) ?_
      clear hK K
      (try simp only [zzp, zzb, zzc])
      refine Ix.tk 7 ⟨some 155, .move (.tmp 162), _, _, _, _⟩ (.tuple #[.int .i64 (S.numE td tks).1, .int .i64 (S.numE td tks).2]) [8,10,11] ?_ K5b.out ?_
      ·intro wq hSw; go_simp
      (try simp only [zzp, zzb, zzc])
      refine Ix.tk 8 ⟨some 163, .extract (.tmp 155) 0, _, _, _, _⟩ (.int .i64 (S.numE td tks).1) [10,11] ?_ K5b.out ?_
      ·intro wq hSw; go_simp
      (try simp only [zzp, zzb, zzc])
      refine Ix.tk 9 ⟨some 164, .extract (.tmp 155) 1, _, _, _, _⟩ (.int .i64 (S.numE td tks).2) [11] ?_ K5b.out ?_
      ·intro wq hSw; go_simp
      (try simp only [zzp, zzb, zzc])
      refine Ix.tk 10 ⟨some 25, .assign (.tmp 163), _, _, _, _⟩ (.int .i64 (S.numE td tks).1) [11] ?_ K5b.out ?_
      ·intro wq hSw; go_simp
      (try simp only [zzp, zzb, zzc])
      refine wpAnyT_one (i := 11) (o := ⟨some 26, .assign (.tmp 164), _, _, _, _⟩) (by kernel_rfl) rfl (fun K hK => ?_)
      go_simp
      refine hK.out _ _ (vac (by kernel_rfl)) ?_
      clear hK K
      (try simp only [zzp, zzb, zzc])
      refine wpAnyT_done (by kernel_rfl) ?_ _
      have A5b := hide (AQb.out.below b1b.out)
      clear A5a K5a KPb AQb b1b K5b
      go_wp2_with fail
      go_roundw
      case rel => exact ⟨k + 1, by go_num, by omega, by omega, A5b.out⟩
      case measure => simp [intOf]; omega
     ·have hend : ¬ ((k : Int) < (Nf : Int)) ∨ ((k : Int) < (Nf : Int) ∧ ¬ ((k : Int) < 10)) := by omega
      clear hgo
      have hIs := ca_is hA.out
      obtain ⟨x0, x1⟩ := two_cells hA.out.box
      rcases hend with j1 | ⟨j1, j2⟩
      ·go_wp2_with (first
         | (go_at_call 13; refine hIs.mono ?_; rintro e w15 ⟨rfl, b15⟩; replace b15 := hide b15)
         | fail)
       go_ret
       exact ⟨rfl, (hA.out.below b15.out).bel⟩
      ·go_wp2_with (first
         | (go_at_call 13; refine hIs.mono ?_; rintro e w15 ⟨rfl, b15⟩; replace b15 := hide b15)
         | fail)
       go_ret
       exact ⟨rfl, (hA.out.below b15.out).bel⟩
   ·go_wp2_with fail
    go_loopw [22] (fun i wr => ∃ k : Nat, i = .int .i64 k ∧ k ≤ Nf ∧ k ≤ 10 ∧ Hid (CA w B g7 b rb S R O V wr)) (fun i _ => Nf - (intOf i).toNat)
    case atStart => exact ⟨0, rfl, Nat.zero_le _, Nat.zero_le _, hA⟩
    case round =>
     clear hA hk hk2
     obtain ⟨k, rfl, hk, hk2, hA⟩ := hrel
     by_cases hgo : k < Nf ∧ k < 10
     ·obtain ⟨hlt, hlt2⟩ := hgo
      have j1 : (k : Int) < (Nf : Int) := by omega
      have j2 : (k : Int) < 10 := by omega
      have hkl : k < fl.length := by rw [hNf.out]; exact hlt
      obtain ⟨gb, off, rfl, q0, q1⟩ := fat.out k hkl
      obtain ⟨tlo, thi, tkp⟩ := fok.out _ (List.getElem_mem hkl)
      generalize fl[k] = t at *
      obtain ⟨td, tv, tks⟩ := t
      dsimp only at q0 q1 tlo thi tkp
      replace tlo := hide tlo
      replace thi := hide thi
      have TK : Hid (∀ q, Below w.heap.size w q → Kp (fun k => k < w.heap.size) q tv tks) := fun q hq => tkp.below hq
      have Z1 : Hid (Pxf g7 b rb gb (off + k * 2) td tv wr) := ⟨hA.out.box, by rw [hA.out.bel.cell (lt_of_cell q0)]; exact q0, by rw [hA.out.bel.cell (lt_of_cell q1)]; exact q1⟩
      clear q0 q1 tkp
      go_upto_region 29 with fail
      have KPa : Hid (Pxf g7 b rb gb (off + k * 2) td tv wr.drew) := Z1.out.but (But.of_below (Below.refl _ _).drew fun _ => False) (fun c => c) (fun c => c)
      have AQa := hide (hA.out.below (Below.refl _ _).drew)
      refine wp_region_T (fun q => Pxf g7 b rb gb (off + k * 2) td tv q) 11 (by kernel_rfl) ?_
      generalize wr.drew = qa at *
      refine Ix.tk 0 ⟨some 146, .fieldAddr 29 (.tmp 7) 0, _, _, _, _⟩ (.pointer (some ⟨g7, 0, none⟩)) [1,6,7,8,10,11] ?_ KPa.out ?_
      ·intro wq hSw; go_simp
      (try simp only [zzp, zzb, zzc])
      refine Ix.tk 1 ⟨some 147, .load 24 (.tmp 146), _, _, _, _⟩ (.pointer (some ⟨b, 0, none⟩)) [6,7,8,10,11] ?_ KPa.out ?_
      ·intro wq hSw
       obtain ⟨z0, z1⟩ := two_cells hSw.f
       have t0 := hSw.n
       have t1 := hSw.m
       go_simp
      (try simp only [zzp, zzb, zzc])
      refine Ix.tk 2 ⟨some 148, .move (.tmp 2), _, _, _, _⟩ (.slice (some ⟨gb, off, none⟩) Nf fcap) [4,5,6,7,8,10,11] ?_ KPa.out ?_
      ·intro wq hSw; go_simp
      (try simp only [zzp, zzb, zzc])
      refine Ix.tk 3 ⟨some 149, .move (.tmp 22), _, _, _, _⟩ (.int .i64 (k : Int)) [4,5,6,7,8,10,11] ?_ KPa.out ?_
      ·intro wq hSw; go_simp
      (try simp only [zzp, zzb, zzc])
      refine Ix.tk 4 ⟨some 150, .indexAddr 71 (.tmp 148) (.tmp 149), _, _, _, _⟩ (.pointer (some ⟨gb, off + k * 2, none⟩)) [5,6,7,8,10,11] ?_ KPa.out ?_
      ·intro wq hSw
       obtain ⟨z0, z1⟩ := two_cells hSw.f
       have t0 := hSw.n
       have t1 := hSw.m
       go_simp
      (try simp only [zzp, zzb, zzc])
      refine Ix.tk 5 ⟨some 151, .load 34 (.tmp 150), _, _, _, _⟩ (.agg #[.int .i64 td, tv]) [6,7,8,10,11] ?_ KPa.out ?_
      ·intro wq hSw
       obtain ⟨z0, z1⟩ := two_cells hSw.f
       have t0 := hSw.n
       have t1 := hSw.m
       go_simp
      (try simp only [zzp, zzb, zzc])
      refine wpAnyT_one (i := 6) (o := ⟨some 152, .call { callee := .value (.func 39), args := #[.tmp 147, .tmp 151], argTypes := #[24, 34] }, _, _, _, _⟩) (by kernel_rfl) rfl (fun K hK => ?_)
      go_simp
      go_at_call 39
      refine (number_dsk AQa.out.d (by have := AQa.out.c; omega) td tlo.out thi.out tv tks _ (TK.out _ AQa.out.bel)).mono ?_
      rintro e w5a ⟨rfl, b1a⟩
      replace b1a := hide b1a
      have K5a : Hid (Pxf g7 b rb gb (off + k * 2) td tv w5a) := KPa.out.but (But.of_below b1a.out fun _ => False) (fun c => c) (fun c => c)
      (try go_simp)
      refine hK.out _ _ (fun _ => K5a.out) ?_
      clear hK K
      (try simp only [zzp, zzb, zzc])
      refine Ix.tk 7 ⟨some 145, .move (.tmp 152), _, _, _, _⟩ (.tuple #[.int .i64 (S.numE td tks).1, .int .i64 (S.numE td tks).2]) [8,10,11] ?_ K5a.out ?_
      ·intro wq hSw; go_simp
      (try simp only [zzp, zzb, zzc])
      refine Ix.tk 8 ⟨some 153, .extract (.tmp 145) 0, _, _, _, _⟩ (.int .i64 (S.numE td tks).1) [10,11] ?_ K5a.out ?_
      ·intro wq hSw; go_simp
      (try simp only [zzp, zzb, zzc])
      refine Ix.tk 9 ⟨some 154, .extract (.tmp 145) 1, _, _, _, _⟩ (.int .i64 (S.numE td tks).2) [11] ?_ K5a.out ?_
      ·intro wq hSw; go_simp
      (try simp only [zzp, zzb, zzc])
      refine Ix.tk 10 ⟨some 23, .assign (.tmp 153), _, _, _, _⟩ (.int .i64 (S.numE td tks).1) [11] ?_ K5a.out ?_
      ·intro wq hSw; go_simp
      (try simp only [zzp, zzb, zzc])
      refine wpAnyT_one (i := 11) (o := ⟨some 24, .assign (.tmp 154), _, _, _, _⟩) (by kernel_rfl) rfl (fun K hK => ?_)
      go_simp
      refine hK.out _ _ (vac (by kernel_rfl)) ?_
      clear hK K
      (try simp only [zzp, zzb, zzc])
      refine wpAnyT_done (by kernel_rfl) ?_ _
      have A5a := hide (AQa.out.below b1a.out)
      clear hA Z1 KPa AQa b1a
      go_upto_region 30 with fail
      have KPb : Hid (Pxf g7 b rb gb (off + k * 2) td tv w5a.drew) := K5a.out.but (But.of_below (Below.refl _ _).drew fun _ => False) (fun c => c) (fun c => c)
      have AQb := hide (A5a.out.below (Below.refl _ _).drew)
      refine wp_region_T (fun q => Pxf g7 b rb gb (off + k * 2) td tv q) 11 (by kernel_rfl) ?_
      generalize w5a.drew = qb at *
      refine Ix.tk 0 ⟨some 156, .fieldAddr 29 (.tmp 7) 1, _, _, _, _⟩ (.pointer (some ⟨g7, 1, none⟩)) [1,6,7,8,10,11] ?_ KPb.out ?_
      ·intro wq hSw; go_simp
      (try simp only [zzp, zzb, zzc])
      refine Ix.tk 1 ⟨some 157, .load 26 (.tmp 156), _, _, _, _⟩ (.pointer (some ⟨rb, 0, none⟩)) [6,7,8,10,11] ?_ KPb.out ?_
      ·intro wq hSw
       obtain ⟨z0, z1⟩ := two_cells hSw.f
       have t0 := hSw.n
       have t1 := hSw.m
       go_simp
      (try simp only [zzp, zzb, zzc])
      refine Ix.tk 2 ⟨some 158, .move (.tmp 2), _, _, _, _⟩ (.slice (some ⟨gb, off, none⟩) Nf fcap) [4,5,6,7,8,10,11] ?_ KPb.out ?_
      ·intro wq hSw; go_simp
      (try simp only [zzp, zzb, zzc])
      refine Ix.tk 3 ⟨some 159, .move (.tmp 22), _, _, _, _⟩ (.int .i64 (k : Int)) [4,5,6,7,8,10,11] ?_ KPb.out ?_
      ·intro wq hSw; go_simp
      (try simp only [zzp, zzb, zzc])
      refine Ix.tk 4 ⟨some 160, .indexAddr 71 (.tmp 158) (.tmp 159), _, _, _, _⟩ (.pointer (some ⟨gb, off + k * 2, none⟩)) [5,6,7,8,10,11] ?_ KPb.out ?_
      ·intro wq hSw
       obtain ⟨z0, z1⟩ := two_cells hSw.f
       have t0 := hSw.n
       have t1 := hSw.m
       go_simp
      (try simp only [zzp, zzb, zzc])
      refine Ix.tk 5 ⟨some 161, .load 34 (.tmp 160), _, _, _, _⟩ (.agg #[.int .i64 td, tv]) [6,7,8,10,11] ?_ KPb.out ?_
      ·intro wq hSw
       obtain ⟨z0, z1⟩ := two_cells hSw.f
       have t0 := hSw.n
       have t1 := hSw.m
       go_simp
      (try simp only [zzp, zzb, zzc])
      refine wpAnyT_one (i := 6) (o := ⟨some 162, .call { callee := .value (.func 40), args := #[.tmp 157, .tmp 161], argTypes := #[26, 34] }, _, _, _, _⟩) (by kernel_rfl) rfl (fun K hK => ?_)
      go_simp
      go_at_call 40
      refine (rNumber_any AQb.out.rf td tlo.out thi.out tv tks _ (TK.out _ AQb.out.bel)).mono ?_
      rintro e w5b ⟨rfl, b1b⟩
      replace b1b := hide b1b
      have K5b : Hid (Pxf g7 b rb gb (off + k * 2) td tv w5b) := KPb.out.but (But.of_below b1b.out fun _ => False) (fun c => c) (fun c => c)
      (try go_simp)
      refine hK.out _ _ (fun _ => K5b.out) ?_
      clear hK K
      (try simp only [zzp, zzb, zzc])
      refine Ix.tk 7 ⟨some 155, .move (.tmp 162), _, _, _, _⟩ (.tuple #[.int .i64 (S.numE td tks).1, .int .i64 (S.numE td tks).2]) [8,10,11] ?_ K5b.out ?_
      ·intro wq hSw; go_simp
      (try simp only [zzp, zzb, zzc])
      refine Ix.tk 8 ⟨some 163, .extract (.tmp 155) 0, _, _, _, _⟩ (.int .i64 (S.numE td tks).1) [10,11] ?_ K5b.out ?_
      ·intro wq hSw; go_simp
      (try simp only [zzp, zzb, zzc])
      refine Ix.tk 9 ⟨some 164, .extract (.tmp 155) 1, _, _, _, _⟩ (.int .i64 (S.numE td tks).2) [11] ?_ K5b.out ?_
      ·intro wq hSw; go_simp
      (try simp only [zzp, zzb, zzc])
      refine Ix.tk 10 ⟨some 25, .assign (.tmp 163), _, _, _, _⟩ (.int .i64 (S.numE td tks).1) [11] ?_ K5b.out ?_
      ·intro wq hSw; go_simp
      (try simp only [zzp, zzb, zzc])
      refine wpAnyT_one (i := 11) (o := ⟨some 26, .assign (.tmp 164), _, _, _, _⟩) (by kernel_rfl) rfl (fun K hK => ?_)
      go_simp
      refine hK.out _ _ (vac (by kernel_rfl)) ?_
      clear hK K
      (try simp only [zzp, zzb, zzc])
      refine wpAnyT_done (by kernel_rfl) ?_ _
      have A5b := hide (AQb.out.below b1b.out)
      clear A5a K5a KPb AQb b1b K5b
      go_wp2_with fail
      go_roundw
      case rel => exact ⟨k + 1, by go_num, by omega, by omega, A5b.out⟩
      case measure => simp [intOf]; omega
     ·have hend : ¬ ((k : Int) < (Nf : Int)) ∨ ((k : Int) < (Nf : Int) ∧ ¬ ((k : Int) < 10)) := by omega
      clear hgo
      have hIs := ca_is hA.out
      obtain ⟨x0, x1⟩ := two_cells hA.out.box
      rcases hend with j1 | ⟨j1, j2⟩
      ·go_wp2_with (first
         | (go_at_call 13; refine hIs.mono ?_; rintro e w15 ⟨rfl, b15⟩; replace b15 := hide b15)
         | fail)
       go_ret
       exact ⟨rfl, (hA.out.below b15.out).bel⟩
      ·go_wp2_with (first
         | (go_at_call 13; refine hIs.mono ?_; rintro e w15 ⟨rfl, b15⟩; replace b15 := hide b15)
         | fail)
       go_ret
       exact ⟨rfl, (hA.out.below b15.out).bel⟩
end Go.Proofs.YtjehpijjneghpaaGreat.Re
