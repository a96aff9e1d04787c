/-
  ClockOrder's walk.
-/
import Derived.Test.YtjplkffghfikgaaM03
namespace Go.Proofs.Ytjplkffghfikgaa.Ck
open Go.RowKit Rl
set_option linter.unusedVariables false
set_option maxRecDepth 100000 in
set_option maxHeartbeats 16000000 in
theorem order_walk (W : World) (v : Value) (l : List Int) (a1 : Int) (hrow : Row W v (l.map (Value.int .u64))) (hwf : ∀ n ∈ l, (Lit.int .u64 n).wf = true) (h1 : 0 ≤ a1 ∧ a1 < 18446744073709551616) :
    Calls Try.prog 6 #[v, .int .u64 a1] W fun e w' => e = .returned (.bool true) ∧ Below W.heap.size W w' := by
  have hB := begun16_any W
  obtain ⟨ao, ca, rfl, -, q3, q4, -⟩ := id hrow
  obtain ⟨N, hN⟩ : ∃ N, Hid (l.length = N) := ⟨_, rfl⟩
  rw [List.length_map, hN.out] at hrow q3 ⊢
  replace hrow := hide hrow
  replace hwf := hide hwf
  clear q3 q4
  have k1 := of_run a1
  obtain ⟨x, hx⟩ : ∃ x, Hid (a1.toNat = x) := ⟨_, rfl⟩
  rw [hx.out] at k1
  have hx6 : x < 18446744073709551616 := by have := hx.out; omega
  go_enter Try.func6, Try.ntmps6
  go_upto_region 4 with (first | (go_at_call 7; refine hB.mono ?_; rintro e w1 ⟨rfl, b1⟩; replace b1 := hide b1) | fail)
  clear hB k1
  obtain ⟨z, hz⟩ : ∃ z, Hid (decide (¬ (FloatKind.f64.format.order x 4562254508917369340 = some .gt ∧ FloatKind.f64.format.order x 4696837146684686336 = some .lt) ∨ 100 < N) = z) := ⟨_, rfl⟩
  go_cut [38] from 27 to 38 (fun u wx => u = .bool z ∧ Hid (wx = w1))
  case first =>
    have hz0 : Hid (∀ y : Bool, decide (¬ (FloatKind.f64.format.order x 4562254508917369340 = some .gt ∧ FloatKind.f64.format.order x 4696837146684686336 = some .lt) ∨ 100 < N) = y → z = y) := fun y hy => by rw [← hz.out, hy]
    by_cases hb : FloatKind.f64.format.order x 4562254508917369340 = some .gt ∧ FloatKind.f64.format.order x 4696837146684686336 = some .lt
    · obtain ⟨o1, o2⟩ := hb
      by_cases hn : 100 < N
      · have hn1 : (100 : Int) < (N : Int) := by omega
        have hz' := hide (hz0.out true (decide_eq_true (.inr hn)))
        go_wp2_with fail
        go_meet
        case rel => exact ⟨by rw [hz'.out], rfl⟩
      · have hn1 : ¬ ((100 : Int) < (N : Int)) := by omega
        have hz' := hide (hz0.out false (decide_eq_false (fun q => q.elim (fun q => q ⟨o1, o2⟩) hn)))
        go_wp2_with fail
        go_meet
        case rel => exact ⟨by rw [hz'.out], rfl⟩
    · have hz' := hide (hz0.out true (decide_eq_true (.inl hb)))
      have hb' := hide hb
      clear hb
      rcases ord_any x 4562254508917369340 with o1 | o1 | o1 | o1
      case inr.inr.inl =>
        rcases ord_any x 4696837146684686336 with o2 | o2 | o2 | o2
        case inr.inl => exact absurd ⟨o1, o2⟩ hb'.out
        all_goals
          go_wp2_with fail
          go_meet
          case rel => exact ⟨by rw [hz'.out], rfl⟩
      all_goals
        go_wp2_with fail
        go_meet
        case rel => exact ⟨by rw [hz'.out], rfl⟩
  case rest =>
    obtain ⟨rfl, hwx⟩ := hcut
    have hwx' := hwx.out
    clear hwx
    subst hwx'
    cases z
    · have hz2 := hz.out
      simp only [decide_eq_false_iff_not, not_or, Decidable.not_not] at hz2
      obtain ⟨⟨ox, oy⟩, hn⟩ := hz2
      clear hz
      replace ox := hide ox
      replace oy := hide oy
      have hA := new0 wc
      refine (‹∀ (a : Act) (w : World), Code.wp Try.prog _ _ a w → _›) _ _ ?_
      go_upto_region 9 with (first | (go_at_call 8; refine hA.mono ?_; rintro e w2 ⟨b2, b, hb, rfl, A2⟩; have M2 := hide (Mine.new b1.out b2 hb A2 (by omega))) | fail)
      clear hA b2 hb A2
      have T0 : Hid (O1 W w2 b [] (.slice none 0 0)) := ⟨_, _, [], M2.out, List.Perm.refl _, fun d hd => by simp at hd, World.ownsRow_nil _ _ _ _⟩
      clear M2
      go_wp2_with fail
      go_loopw [8, 9] (fun av iv wr => ∃ (k : Nat) (D : List Nat), iv = .int .i64 k ∧ k ≤ N ∧ D.length ≤ k ∧ Hid (O1 W wr b D av)) (fun _ iv _ => N - (intOf iv).toNat)
      case atStart => exact ⟨0, [], rfl, Nat.zero_le _, by simp, T0.out⟩
      case round =>
        obtain ⟨k, D, rfl, hk, hDk, hQ⟩ := hrel
        by_cases hlt : k < N
        · have i1 : (k : Int) < (N : Int) := by omega
          have i0 : (0 : Int) ≤ (k : Int) := by omega
          obtain ⟨vc, lc, S, M, hS, hD, R⟩ := hQ.out
          obtain ⟨rb, off, rfl, d0⟩ := Row.readU (Below.row M.below hrow.out) k (by rw [hN.out]; exact hlt)
          have hg := u64_get hwf.out (show k < l.length by rw [hN.out]; exact hlt)
          obtain ⟨u, hu⟩ : ∃ u, Hid (l.getD k 0 = u) := ⟨_, rfl⟩
          rw [hu.out] at d0 hg
          have ku := of_run u
          obtain ⟨d, hd⟩ : ∃ d, Hid (u.toNat = d) := ⟨_, rfl⟩
          rw [hd.out] at ku hg
          have hSl : S.length = D.length := by rw [hS.length_eq, tmOf_len]
          have hA := mine_after M d hg.1 (by show (D.length : Int) + 1 ≤ _; omega)
          have hlo := hide (fun (k : Nat) (hk : u8.ownBlock = some k) => (World.ownsRow.lt R k hk).1)
          cases hok : okD d
          · simp only [aft_no hok] at hA
            have FIN : Hid (∀ w5 v5 l5, Mine W w5 b ⟨0, (D.length : Int) + 1⟩ v5 l5 S → Stp b vc v5 wr w5 → O1 W w5 b D u8) := fun w5 v5 l5 M5 S5 => ⟨v5, l5, S, M5, hS, hD, R.stp M.ck (by decide) (by decide) S5⟩
            clear hS hD R M hQ
            rcases order_no hg.1 hok with e | e
            all_goals
              go_wp2_with (first | (go_at_call 11; refine hA.mono ?_; rintro e w5 ⟨rfl, v5, l5, M5, S5⟩; have F5 := hide (FIN.out w5 v5 l5 M5 S5); clear M5 S5) | fail)
              go_roundw
              case rel => exact ⟨k + 1, D, by go_num, by omega, by omega, F5.out⟩
              case measure => simp [intOf]; omega
          · simp only [aft_yes hok (show S.length < 256 by omega)] at hA
            have FIN : Hid (∀ w5 v5 l5, Mine W w5 b ⟨0, (D.length : Int) + 1 + 1⟩ v5 l5 (ins ⟨(D.length : Int) + 1, plusB d⟩ S) → Stp b vc v5 wr w5 → ∃ ao6 ca6 w6, (Builtin.append_ #[61, 61] 61 #[u8, .slice (some ⟨w5.heap.size, 0, none⟩) 1 1]).run Try.prog (w5.alloc (.cells #[.float .f64 d] 29)) = .ok (.slice ao6 (D.length + 1) ca6) w6 ∧ O1 W w6 b (D ++ [d]) (.slice ao6 (D.length + 1) ca6)) := fun w5 v5 l5 M5 S5 => by
              have R5 := R.stp M.ck (by decide) (by decide) S5
              have B5 := box_below w5 (.cells #[.float .f64 d] 29)
              obtain ⟨v6, w6, r6, R6, G6⟩ := run_appFl d w5.heap.size (R5.below B5) (by rw [cell_of (heap_alloc_new w5 _)]; rfl) (by simp; omega) (Nat.le_trans M5.below.size B5.size) 61
              have M6 := M5.quiet B5
              have hf := (R5.below B5).far M6.ck (by decide) (by decide)
              have O6 := O1.more hS hD hok M6 (But.of_grownBy G6 (X := fun k => u8.ownBlock = some k) fun k e => e) hf hlo.out R6
              obtain ⟨ao6, ca6, rfl⟩ := R6.form
              simp only [List.length_append, List.length_map, List.length_singleton] at r6 O6
              exact ⟨ao6, ca6, w6, r6, O6⟩
            clear hS hD R M hQ
            have hnl : ¬ ¬ ((D.length : Int) + 1 = (D.length : Int) + 1) := fun q => q rfl
            obtain ⟨n, hn2⟩ : ∃ n, Hid (D.length = n) := ⟨_, rfl⟩
            rw [hn2.out] at hA FIN
            have hn3 : (n : Int) ≤ 1000000 := by have := hn2.out; omega
            rcases order_ok hg.1 hok with e | e
            all_goals
              go_wp2_with (first
                | (go_at_call 11; refine hA.mono ?_; rintro e w5 ⟨rfl, v5, l5, M5, S5⟩; obtain ⟨ao6, ca6, w6, r6, O6⟩ := FIN.out w5 v5 l5 M5 S5; replace r6 := hide r6; replace O6 := hide O6; clear M5 S5)
                | (at_builtin; refine Lib.wpList_append_run _ rfl (.tmp 69) (.tmp 71) 61 61 rfl _ _ rfl rfl _ _ r6.out ?_)
                | fail)
              go_roundw
              case rel => exact ⟨k + 1, D ++ [d], by go_num, by omega, by simp; omega, O6.out⟩
              case measure => simp [intOf]; omega
        · obtain rfl : k = N := by omega
          obtain ⟨vc, lc, S0, M, hS, hD, R⟩ := hQ.out
          have AL : Hid (Al D S0) := ⟨M.ck.srt, M.un, M.ck.tt, hS, hD⟩
          have i1 : ¬ ((k : Int) < (k : Int)) := by omega
          obtain ⟨aa, cca, rfl⟩ := R.form
          rw [List.length_map] at R ⊢
          obtain ⟨n, hn2⟩ : ∃ n, Hid (D.length = n) := ⟨_, rfl⟩
          have hnb : n ≤ 100 := by have := hn2.out; omega
          replace R := hide R
          replace M := hide M
          rw [hn2.out] at R ⊢
          have hxs := hide (x_facts hx6 ox.out oy.out)
          clear hQ hS hD hDk hk hrow hwf ox oy T0
          obtain ⟨i0, hi0, hz0, hz1, hz2⟩ := info_parts infoBo
          have hsW : W.heap.size ≤ wr.heap.size := M.out.below.size
          go_upto_region 22 with (first | (at_make; refine wpList_make_full wr rfl _ _ 62 rfl W.heap.size 4 i0 (.bool false) 1 Try.underlying62 hi0 hz0 hz1 .i64 .i64 _ _ n rfl rfl (by omega) (by omega) (by rw [hz2]; omega) (by unfold maxLen; omega) hsW ?_; intro w12 ho12 hg12) | fail)
          clear hi0 hz0 hz1 hz2 hsW
          have hb12 : Hid (Below wr.heap.size wr w12) := (Below.refl _ _).grown hg12 (Nat.le_refl _) (fun k hk => by simp at hk)
          rw [show (Value.bool false).cells = #[.bool false] from rfl, toList_madeCells_one, Nat.mul_one, ← offB_nil] at ho12
          obtain ⟨ob, hob⟩ : ∃ ob, Hid (wr.heap.size = ob) := ⟨_, rfl⟩
          rw [hob.out] at ho12 ⊢
          have Z0 : Hid (∃ v l, O3 W w12 b D 0 [] S0 (.slice aa n cca) (.slice (some ⟨ob, 0, none⟩) n n) (.slice none 0 0) [] v l) := ⟨vc, lc, M.out.quiet hb12.out, R.out.below hb12.out, by unfold Rw; rw [List.length_map, offB_len, hn2.out]; exact ho12, Ids.nil _ _⟩
          clear ho12 hg12 hb12 M R
          go_wp2_with fail
          go_loopw [14, 15, 16] (fun lv iv nv wx => ∃ (s now : Nat) (P S : List Tm), nv = .int .i64 s ∧ s ≤ 30 ∧ lv = .float .f64 (lastB P).1 ∧ iv = .int .i64 (lastB P).2 ∧ Hid (Cur S0 P S now ∧ magB now ≤ s * Mi ∧ ∃ v l, O3 W wx b D now P S (.slice aa n cca) (.slice (some ⟨ob, 0, none⟩) n n) (.slice none 0 0) [] v l)) (fun _ _ nv _ => 30 - (intOf nv).toNat)
          case atStart => exact ⟨0, 0, [], S0, rfl, by omega, rfl, rfl, .inl ⟨rfl, rfl⟩, by rw [mag_zero]; omega, Z0.out⟩
          case round =>
            obtain ⟨s, now, P, S, rfl, hs, rfl, rfl, hZ⟩ := hrel
            by_cases hlt2 : s < 30
            · have j1 : (s : Int) < 30 := by omega
              obtain ⟨hC, hMg, v3, l3, Z⟩ := hZ.out
              have hnow := Z.m.ck.now
              obtain ⟨t1, t2⟩ := ts_far hnow hxs.out (by omega) hMg
              have t3 := ts_on hnow (show x < 9218868437227405312 by have := hxs.out; omega)
              have hW := now_any _ _ _ _ _ Z.m.ck.at_ Z.m.ck.nx
              have hAd := add_run (Nat.le_of_lt hnow) (show x ≤ 9218868437227405312 by have := hxs.out; omega)
              obtain ⟨p, hp⟩ : ∃ p, Hid (tsB now x = p) := ⟨_, rfl⟩
              rw [hp.out] at hAd t1 t2 t3
              have hpp : plusB p = p := by unfold plusB; rw [if_neg (by omega)]
              have htp : timeB p = true := by rw [timeB_le (by omega)]; exact decide_eq_true t2
              have eG : goF now p S = ((offS p S).map Tm.id, onS p S, p, 0) := by have := goF_ok S htp (show now ≤ plusB p by rw [hpp]; exact t3); rwa [hpp] at this
              have hG := mine_go Z.m p (by omega)
              simp only [eG] at hG
              have opp : FloatKind.f64.format.order p p = some .eq := by rw [ord_pos (by omega) (by omega)]; simp
              obtain ⟨cu, hcu⟩ : ∃ cu, Hid (offS p S = cu) := ⟨_, rfl⟩
              have FG : Hid (∀ w5 ids v5 l5, Mine W w5 b ⟨p, (D.length : Int) + 1⟩ v5 l5 (onS p S) → Ids wr.heap.size w5 ids ((offS p S).map Tm.id) → Stp b v3 v5 wr w5 → O3 W w5 b D p P (onS p S) (.slice aa n cca) (.slice (some ⟨ob, 0, none⟩) n n) ids (cu.map Tm.id) v5 l5) := fun w5 ids v5 l5 M5 I5 S5 => by
                refine ⟨M5, Z.at_.stp Z.m.ck (by decide) (by decide) S5, Z.off.stp Z.m.ck (by decide) (by decide) S5, ?_⟩
                rw [← hcu.out]
                exact ⟨I5.1, I5.2.imp id (by rintro ⟨g, cap, cur, e, hg, r⟩; exact ⟨g, cap, cur, e, Nat.le_trans Z.m.below.size hg, r⟩)⟩
              have hC' := hide hC
              have hSl := hide Z.m.ck.len
              have t1' := hide t1
              replace t2 := hide t2
              replace t3 := hide t3
              clear hC hMg Z hZ eG hpp htp t1 hnow
              go_upto_region 30 with (first
                | (go_at_call 15; refine hG.mono ?_; rintro e w5 ⟨ids, v5, l5, rfl, M5, I5, S5, _⟩; have Z5 := hide (FG.out w5 ids v5 l5 M5 I5 S5); obtain ⟨ai, ci, rfl⟩ := I5.form; have hW5 := now_any _ _ _ _ _ M5.ck.at_ M5.ck.nx; clear M5 I5 S5)
                | (go_at_call 22; refine hW5.mono ?_; rintro e w' ⟨rfl, hw⟩; rw [hw]; clear hw w')
                | (go_at_call 22; refine hW.mono ?_; rintro e w' ⟨rfl, hw⟩; rw [hw]; clear hw w')
                | fail)
              clear hW hW5 hG FG hAd opp
              rw [hcu.out, List.length_map] at Z5
              rw [hcu.out]
              obtain ⟨m, hm⟩ : ∃ m, Hid (cu.length = m) := ⟨_, rfl⟩
              rw [hm.out] at Z5 ⊢
              have hmb : m ≤ 256 := by
                have q1 := off_len p S
                rw [hcu.out, hm.out] at q1
                have := hSl.out
                omega
              go_wp2_with fail
              go_loopw [14, 15, 20] (fun lv iv kv wx => ∃ i : Nat, kv = .int .i64 i ∧ i ≤ m ∧ lv = .float .f64 (lastB (P ++ cu.take i)).1 ∧ iv = .int .i64 (lastB (P ++ cu.take i)).2 ∧ Hid (O3 W wx b D p (P ++ cu.take i) (onS p S) (.slice aa n cca) (.slice (some ⟨ob, 0, none⟩) n n) (.slice ai m ci) (cu.map Tm.id) v5 l5)) (fun _ _ kv _ => m - (intOf kv).toNat)
              case atStart => exact ⟨0, rfl, Nat.zero_le _, by rw [List.take_zero, List.append_nil], by rw [List.take_zero, List.append_nil], by rw [List.take_zero, List.append_nil]; exact Z5.out⟩
              case round =>
                obtain ⟨i, rfl, hi, rfl, rfl, hY⟩ := hrel
                by_cases hlt3 : i < m
                · have j2 : (i : Int) < (m : Int) := by omega
                  have j0 : (0 : Int) ≤ (i : Int) := by omega
                  obtain ⟨j, t, hj, ht, hid, hok, htb, htk, n1, n2, n3, n4⟩ := cur_at AL.out hC'.out (i := i) (p := p) (by rw [hcu.out, hm.out]; exact hlt3)
                  rw [hcu.out] at hid htk n1 n2 n3 n4
                  have htid : t.id = (j : Int) + 1 := by rw [ht]
                  have htbb : t.b = plusB (D.getD j 0) := by rw [ht]
                  obtain ⟨ib, hib, y1⟩ := ids_read hY.out.ids i (by rw [List.length_map, hm.out]; exact hlt3)
                  subst hib
                  rw [hid] at y1
                  obtain ⟨ab, hab, y2, _⟩ := hY.out.at_.read j (by rw [List.length_map]; exact hj)
                  subst hab
                  obtain ⟨ob', hob', y3, f3⟩ := hY.out.off.read j (by rw [List.length_map, offB_len]; exact hj)
                  simp only [Option.some.injEq, Addr.mk.injEq, and_true] at hob'
                  subst hob'
                  have y2' : (D.map (Value.float .f64)).getD j undef = .float .f64 (D.getD j 0) := by simp [List.getD, hj]
                  have y3' : ((offB (P ++ cu.take i) D.length).map Value.bool).getD j undef = .bool false := by
                    have q := offB_get (P ++ cu.take i) D.length j hj
                    rw [htid] at n1
                    rw [n1] at q
                    simp only [List.getD, List.getElem?_map] at q ⊢
                    have hq2 : j < (offB (P ++ cu.take i) D.length).length := by rw [offB_len]; exact hj
                    rw [List.getElem?_eq_getElem hq2] at q ⊢
                    simp only [Option.getD_some] at q
                    simp [q]
                  rw [y2'] at y2
                  rw [y3'] at y3
                  clear y2' y3'
                  have hAz := add_zero_run hok
                  rw [← htbb] at hAz
                  have htb9 : t.b ≤ 9218868437227405312 := by have := t2.out; omega
                  have o1 := le_no_gt htb9 (show p ≤ 9218868437227405312 by have := t2.out; omega) htb
                  obtain ⟨lb, hlb⟩ : ∃ lb, Hid ((lastB (P ++ cu.take i)).1 = lb) := ⟨_, rfl⟩
                  obtain ⟨li, hli⟩ : ∃ li, Hid ((lastB (P ++ cu.take i)).2 = li) := ⟨_, rfl⟩
                  rw [hlb.out] at n2 n3 n4 ⊢
                  rw [hli.out] at n4 ⊢
                  have hSm := refSame_any wr t.b lb (by omega) n3
                  have e1 : (j : Int) + 1 - 1 = (j : Int) := by omega
                  have jb : (j : Int) < (n : Int) := by have := hn2.out; omega
                  have jb2 : (j : Int) ≤ 1000 := by omega
                  have jb0 : (0 : Int) ≤ (j : Int) := by omega
                  have Z6 := hide (hY.out.set (j := j) (t := t) hn2.out.symm hj htid)
                  obtain ⟨ib', hib', y4⟩ := ids_read Z6.out.ids i (by rw [List.length_map, hm.out]; exact hlt3)
                  simp only [Option.some.injEq, Addr.mk.injEq, and_true] at hib'
                  subst hib'
                  rw [hid] at y4
                  have htk2 : Hid (P ++ cu.take (i + 1) = P ++ cu.take i ++ [t]) := by show _ = _; rw [htk, List.append_assoc]
                  have hL6 := hide (lastB_snoc (P ++ cu.take i) t)
                  obtain ⟨w6, hw6⟩ : ∃ w6, Hid (wr.setCell ⟨ob, j, none⟩ (.bool true) = w6) := ⟨_, rfl⟩
                  rw [hw6.out] at Z6 y4
                  obtain ⟨dj, hdj⟩ : ∃ dj, Hid (D.getD j 0 = dj) := ⟨_, rfl⟩
                  rw [hdj.out] at y2 hAz
                  obtain ⟨tb, htb2⟩ : ∃ tb, Hid (t.b = tb) := ⟨_, rfl⟩
                  rw [htb2.out] at hAz o1 n2 n4 hSm hL6
                  rw [htid] at n4 hL6
                  clear hok htb htk n1 hid ht htbb hj htb9 hlt3
                  by_cases hky : keyB tb = keyB lb
                  · have hli2 := n4 hky
                    rw [decide_eq_true hky] at hSm
                    clear n4 hky
                    go_upto_region 37 with (first | (go_at_call 25; refine hSm.mono ?_; rintro e w' ⟨rfl, hw⟩; rw [hw]; clear hw w') | fail)
                    rw [hw6.out]
                    clear y1 y2 y3 f3
                    go_quiet (fail)
                    have Z7 : Hid (O3 W (w6.drewN nq) b D p (P ++ cu.take i ++ [t]) (onS p S) (.slice (some ⟨ab, 0, none⟩) n cca) (.slice (some ⟨ob, 0, none⟩) n n) (.slice (some ⟨ib, 0, none⟩) m ci) (cu.map Tm.id) v5 l5) := Z6.out.quiet (Qt.below ⟨_, rfl⟩ _)
                    generalize w6.drewN nq = w7 at *
                    go_wp2_with fail
                    go_roundw
                    case rel => exact ⟨i + 1, by go_num, by omega, by rw [htk2.out, hL6.out], by rw [htk2.out, hL6.out], by rw [htk2.out]; exact Z7.out⟩
                    case measure => simp [intOf]; omega
                  · rw [decide_eq_false hky] at hSm
                    clear n4 hky
                    go_upto_region 37 with (first | (go_at_call 25; refine hSm.mono ?_; rintro e w' ⟨rfl, hw⟩; rw [hw]; clear hw w') | fail)
                    rw [hw6.out]
                    clear y1 y2 y3 f3
                    go_quiet (fail)
                    have Z7 : Hid (O3 W (w6.drewN nq) b D p (P ++ cu.take i ++ [t]) (onS p S) (.slice (some ⟨ab, 0, none⟩) n cca) (.slice (some ⟨ob, 0, none⟩) n n) (.slice (some ⟨ib, 0, none⟩) m ci) (cu.map Tm.id) v5 l5) := Z6.out.quiet (Qt.below ⟨_, rfl⟩ _)
                    generalize w6.drewN nq = w7 at *
                    go_wp2_with fail
                    go_roundw
                    case rel => exact ⟨i + 1, by go_num, by omega, by rw [htk2.out, hL6.out], by rw [htk2.out, hL6.out], by rw [htk2.out]; exact Z7.out⟩
                    case measure => simp [intOf]; omega
                · obtain rfl : i = m := by omega
                  have j2 : ¬ ((i : Int) < (i : Int)) := by omega
                  have hE := hC'.out.go t3.out
                  rw [hcu.out] at hE
                  have htk : cu.take i = cu := List.take_of_length_le (by rw [hm.out]; exact Nat.le_refl _)
                  rw [htk, hE.1] at hY ⊢
                  have hE2 := hide hE.2
                  have nCur : Hid (Cur S0 (offS p S0) (onS p S) p) := .inr ⟨rfl, hE2.out⟩
                  clear hE htk
                  obtain ⟨Q, hQ2⟩ : ∃ Q, Hid (offS p S0 = Q) := ⟨_, rfl⟩
                  rw [hQ2.out] at hY nCur ⊢
                  go_wp2_with fail
                  go_loopw [22] (fun kv wx => ∃ j : Nat, kv = .int .i64 j ∧ j ≤ n ∧ Hid (O3 W wx b D p Q (onS p S) (.slice aa n cca) (.slice (some ⟨ob, 0, none⟩) n n) (.slice ai i ci) (cu.map Tm.id) v5 l5)) (fun kv _ => n - (intOf kv).toNat)
                  case atStart => exact ⟨0, rfl, Nat.zero_le _, hY.out⟩
                  case round =>
                    obtain ⟨j, rfl, hjn, hX⟩ := hrel
                    by_cases hlt4 : j < n
                    · have j3 : (j : Int) < (n : Int) := by omega
                      have j4 : (0 : Int) ≤ (j : Int) := by omega
                      have hj : j < D.length := by rw [hn2.out]; exact hlt4
                      obtain ⟨ab, hab, y2, _⟩ := hX.out.at_.read j (by rw [List.length_map]; exact hj)
                      subst hab
                      obtain ⟨ob', hob', y3, f3⟩ := hX.out.off.read j (by rw [List.length_map, offB_len]; exact hj)
                      simp only [Option.some.injEq, Addr.mk.injEq, and_true] at hob'
                      subst hob'
                      have y2' : (D.map (Value.float .f64)).getD j undef = .float .f64 (D.getD j 0) := by simp [List.getD, hj]
                      have hoa := off_all (p := p) AL.out.srt AL.out.tt AL.out.perm hj
                      have y3' : ((offB Q D.length).map Value.bool).getD j undef = .bool (decide (plusB (D.getD j 0) ≤ p)) := by
                        have q := offB_get Q D.length j hj
                        rw [← hQ2.out, hoa] at q
                        rw [← hQ2.out]
                        simp only [List.getD, List.getElem?_map] at q ⊢
                        have hq2 : j < (offB (offS p S0) D.length).length := by rw [offB_len]; exact hj
                        rw [List.getElem?_eq_getElem hq2] at q ⊢
                        simp only [Option.getD_some] at q
                        simp [q]
                      rw [y2'] at y2
                      rw [y3'] at y3
                      have hok : okD (D.getD j 0) = true := AL.out.ok _ (by simp only [List.getD, List.getElem?_eq_getElem hj, Option.getD_some]; exact List.getElem_mem hj)
                      have ol := order_leq hok (show p ≤ 9218868437227405312 by have := t2.out; omega)
                      obtain ⟨dj, hdj⟩ : ∃ dj, Hid (D.getD j 0 = dj) := ⟨_, rfl⟩
                      rw [hdj.out] at y2 y3 ol
                      clear y2' y3' hoa hok hj
                      have Z7 : Hid (∀ q, Qt wr q → O3 W q b D p Q (onS p S) (.slice (some ⟨ab, 0, none⟩) n cca) (.slice (some ⟨ob, 0, none⟩) n n) (.slice ai i ci) (cu.map Tm.id) v5 l5) := fun q hq => hX.out.quiet (hq.below _)
                      clear hX
                      by_cases hle : plusB dj ≤ p
                      · rw [decide_eq_true hle] at y3
                        rcases cmp_le hle with e | e <;> rw [e] at ol
                        all_goals
                          clear hle e
                          go_upto_region 41 with fail
                          go_quiet (fail)
                          go_wp2_with fail
                          go_roundw
                          case rel => exact ⟨j + 1, by go_num, by omega, Z7.out _ ⟨_, rfl⟩⟩
                          case measure => simp [intOf]; omega
                      · rw [decide_eq_false hle] at y3
                        rw [Nat.compare_eq_gt.2 (by omega)] at ol
                        clear hle
                        go_upto_region 41 with fail
                        go_quiet (fail)
                        go_wp2_with fail
                        go_roundw
                        case rel => exact ⟨j + 1, by go_num, by omega, Z7.out _ ⟨_, rfl⟩⟩
                        case measure => simp [intOf]; omega
                    · obtain rfl : j = n := by omega
                      have j3 : ¬ ((j : Int) < (j : Int)) := by omega
                      have ZE : Hid (∃ v l, O3 W wr b D p Q (onS p S) (.slice aa j cca) (.slice (some ⟨ob, 0, none⟩) j j) (.slice none 0 0) [] v l) := ⟨v5, l5, hX.out.m, hX.out.at_, hX.out.off, Ids.nil _ _⟩
                      clear hX
                      go_wp2_with fail
                      go_roundw
                      case rel => exact ⟨s + 1, p, Q, onS p S, by go_num, by omega, rfl, rfl, nCur.out, t1'.out, ZE.out⟩
                      case measure => simp [intOf]; omega
            · obtain rfl : s = 30 := by omega
              obtain ⟨_, _, v3, l3, Z⟩ := hZ.out
              have hbl := hide Z.m.below
              go_wp2_with fail
              go_ret
              exact ⟨rfl, hbl.out⟩
    · go_wp2_with fail
      go_ret
      exact ⟨rfl, b1.out⟩
end Go.Proofs.Ytjplkffghfikgaa.Ck

