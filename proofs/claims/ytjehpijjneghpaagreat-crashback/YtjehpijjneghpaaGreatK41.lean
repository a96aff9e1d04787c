/-
  CrashBack's walk. (gen_RmF.py)
-/
import Derived.Test.YtjehpijjneghpaaGreatK40
import Derived.Test.YtjehpijjneghpaaGreatK37
namespace Go.Proofs.YtjehpijjneghpaaGreat.Re
open Go.RowKit Go.Maps Go.Sort Go.Shelf Go.Proofs.YtjehpijjneghpaaGreat.Nm Go.Proofs.YtjehpijjneghpaaGreat.Dk
open Ix (wp_region_T wpAnyT wpAnyT_take wpAnyT_one wpAnyT_done vac)
set_option linter.unusedVariables false
set_option maxRecDepth 100000 in
set_option maxHeartbeats 40000000 in
theorem back_walk (w : World) (ao : Option Addr) (cap : Nat) (os : List Dop) (hos : os.length ≤ cap) (hcap : cap ≤ maxLen) (hat : AtDops w ao os) (hok : ∀ o ∈ os, DopOk w o)
    (d : Int) (vk : Value) (ks : List Kep) (d0 : -9223372036854775808 ≤ d) (d1 : d ≤ 9223372036854775807) (hK : Kp (fun k => k < w.heap.size) w vk ks) (hl : ks.length * 32 ≤ 140737488351232) (i j : Int) (i1 : i ≤ 9223372036854775807) (j1 : j ≤ 9223372036854775807) :
    Calls Tryz.prog 7 #[.slice ao os.length cap, .agg #[.int .i64 d, vk], .int .i64 i, .int .i64 j] w fun e w' => e = .returned (.bool true) ∧ Below w.heap.size w w' := by
  obtain ⟨ka, kc, rfl, k1, k2, k3⟩ := id hK
  have k2' : kc ≤ 9223372036854775807 := by unfold maxLen at k2; omega
  have hkb : Hid (∀ k ∈ ks, -9223372036854775808 ≤ k.1 ∧ k.1 ≤ 9223372036854775807) := fun k hk => by
    obtain ⟨n, hn, rfl⟩ := List.getElem_of_mem hk
    obtain ⟨_, _, _, _, _, _, _, _, _, m0, m1⟩ := k3 n hn
    exact ⟨m0, m1⟩
  replace hK := hide hK
  replace hl := hide hl
  replace hat := hide hat
  replace hok := hide hok
  replace hos := hide hos
  replace hcap := hide hcap
  replace d0 := hide d0
  replace d1 := hide d1
  clear k2 k3
  obtain ⟨N, hN⟩ : ∃ N, Hid (ks.length = N) := ⟨_, rfl⟩
  obtain ⟨M, hM⟩ : ∃ M, Hid (os.length = M) := ⟨_, rfl⟩
  obtain ⟨g5, hg5⟩ : ∃ g5, Hid (w.heap.size = g5) := ⟨_, rfl⟩
  rw [hN.out] at k1 hl hK ⊢
  rw [hM.out]
  have B5 := hide (box_below w (.cells #[.int .i64 d, .slice ka N kc] 34))
  have N5 := hide (heap_alloc_new w (.cells #[.int .i64 d, .slice ka N kc] 34))
  obtain ⟨w1, hw1⟩ : ∃ w1, Hid (w.alloc (.cells #[.int .i64 d, .slice ka N kc] 34) = w1) := ⟨_, rfl⟩
  rw [hw1.out] at B5 N5
  have HM : Hid (∀ q, Below w.heap.size w q → Calls Tryz.prog 30 #[.int .i64 65536, .slice ao M cap] q (Md q)) := fun q hq => by
    rw [← hM.out]
    exact made_any q ao cap os hos.out hcap.out (AtDops.below hat.out hq) (fun o ho => DopOk.below (hok.out o ho) hq)
  obtain ⟨i0, hi, hz0, hz1, hz2⟩ := info_parts infoKe
  replace hi := hide hi
  go_enter Tryz.func7, Tryz.ntmps7
  go_upto_region 1 with fail
  rw [hw1.out, hg5.out]
  go_upto_region 4 with (first
    | (go_at_call 29; refine (begun12_any _).mono ?_; rintro e w2 ⟨rfl, B2⟩; replace B2 := hide B2)
    | (go_at_call 30; refine (HM.out _ (bs2 B5.out B2.out)).mono ?_; rintro e w3 ⟨⟨pb, b, rb, S, R, O, V, rfl, px, hr, hc, lo, B3⟩⟩; replace px := hide px; replace hr := hide hr; replace hc := hide hc; replace lo := hide lo; replace B3 := hide B3))
  have NP := hide (heap_alloc_new w3 (.cells #[.pointer (some ⟨b, 0, none⟩), .pointer (some ⟨rb, 0, none⟩)] 29))
  have BP := hide (box_below w3 (.cells #[.pointer (some ⟨b, 0, none⟩), .pointer (some ⟨rb, 0, none⟩)] 29))
  have s4 : Hid ((w3.alloc (.cells #[.pointer (some ⟨b, 0, none⟩), .pointer (some ⟨rb, 0, none⟩)] 29)).heap.size = w3.heap.size + 1) := by show _ = _; simp
  obtain ⟨w4, hw4⟩ : ∃ w4, Hid (w3.alloc (.cells #[.pointer (some ⟨b, 0, none⟩), .pointer (some ⟨rb, 0, none⟩)] 29) = w4) := ⟨_, rfl⟩
  rw [hw4.out] at NP BP s4 ⊢
  obtain ⟨g9, hg9⟩ : ∃ g9, Hid (w3.heap.size = g9) := ⟨_, rfl⟩
  have J4 : Hid (BkI w w4.heap.size g5 g9 b (.pointer (some ⟨rb, 0, none⟩)) S O d (.slice ka N kc) ks w4) := by
    have q5 := bs2 B2.out (bs2 B3.out BP.out)
    have q0 := bs2 B5.out q5
    refine ⟨by rw [← hg9.out]; exact NP.out, by rw [← hg5.out]; exact (q5.block _ (heap_lt N5.out)).trans N5.out, px.out.d.below BP.out, hK.out.below q0, q0, by have := s4.out; have := hg9.out; omega, by have q6 := q5.size; have q7 := heap_lt N5.out; have q8 := hg5.out; omega, fun k hk => Nat.lt_of_lt_of_le (px.out.d.lt k hk) BP.out.size, q0.size, Nat.le_refl _⟩
  rw [hg9.out]
  clear NP BP s4 hw4 px lo B3 B2 hM HM hat hok hos hcap
  obtain ⟨B, hB⟩ : ∃ B, Hid (w4.heap.size = B) := ⟨_, rfl⟩
  rw [hB.out] at J4
  have hW := bk_ways J4.out hc.out
  obtain ⟨x0, x1⟩ := two_cells J4.out.box
  by_cases hways : S.ways ≤ M40
  · have e0 : S.cnt = (S.cnts (S.P.length + 1), (S.ways : Int), 0) := by unfold DS.cnt; rw [if_pos hways]
    obtain ⟨n, hn⟩ : ∃ n, Hid (S.ways = n) := ⟨_, rfl⟩
    simp only [e0, hn.out] at hW
    have n1 : (1 : Int) ≤ (n : Int) := by have := ways_pos S; have := hn.out; omega
    have n2 : (n : Int) ≤ 1099511627776 := by have := hn.out; unfold M40 at hways; omega
    replace hways := hide hways
    clear e0
    by_cases c1 : i < 0
    · go_wp2_with (first
        | (go_at_call 31; refine hW.mono ?_; rintro e w5 ⟨rfl, b5⟩; replace b5 := hide b5)
        | fail)
      go_ret
      exact ⟨rfl, (J4.out.below b5.out).bel⟩
    · by_cases c2 : j < 0
      · go_wp2_with (first
          | (go_at_call 31; refine hW.mono ?_; rintro e w5 ⟨rfl, b5⟩; replace b5 := hide b5)
          | fail)
        go_ret
        exact ⟨rfl, (J4.out.below b5.out).bel⟩
      · obtain ⟨I, rfl⟩ : ∃ I : Nat, i = (I : Int) := ⟨i.toNat, by omega⟩
        obtain ⟨J, rfl⟩ : ∃ J : Nat, j = (J : Int) := ⟨j.toNat, by omega⟩
        obtain ⟨a, ha⟩ : ∃ a, Hid (I % n = a) := ⟨_, rfl⟩
        obtain ⟨a', ha'⟩ : ∃ a', Hid (J % n = a') := ⟨_, rfl⟩
        have la : Hid (a < S.ways) := by show _ < _; rw [hn.out, ← ha.out]; exact Nat.mod_lt _ (by omega)
        have la' : Hid (a' < S.ways) := by show _ < _; rw [hn.out, ← ha'.out]; exact Nat.mod_lt _ (by omega)
        have r1 : (I : Int).tmod (n : Int) = (a : Int) := by rw [Int.tmod_eq_emod_of_nonneg (by omega), ← ha.out]; exact (Int.natCast_emod I n).symm
        have r2 : (J : Int).tmod (n : Int) = (a' : Int) := by rw [Int.tmod_eq_emod_of_nonneg (by omega), ← ha'.out]; exact (Int.natCast_emod J n).symm
        have r3 : ¬ ((n : Int) = 0) := by omega
        have r4 : (a : Int) ≤ 1099511627776 := by have := la.out; have := hn.out; omega
        have r5 : (a' : Int) ≤ 1099511627776 := by have := la'.out; have := hn.out; omega
        go_upto_region 13 with (first
          | (go_at_call 31; refine hW.mono ?_; rintro e w5 ⟨rfl, b5⟩; replace b5 := hide b5)
          | fail)
        go_quiet (fail)
        have J6 : Hid (BkI w B g5 g9 b (.pointer (some ⟨rb, 0, none⟩)) S O d (.slice ka N kc) ks (w5.drewN nq)) := (J4.out.below b5.out).below (Qt.below ⟨nq, rfl⟩ _)
        generalize w5.drewN nq = w6 at *
        clear x0 x1 hW r1 r2
        obtain ⟨x0, x1⟩ := two_cells J6.out.box
        have hA1 := bk_at J6.out hc.out hways.out a la.out
        go_upto_region 15 with (first
          | (go_at_call 33; refine hA1.mono ?_; rintro e w7 ⟨xx, xy, xa, xn, xc, rfl, fx, kx, px, b7⟩; replace fx := hide fx; replace kx := hide kx; replace px := hide px; replace b7 := hide b7)
          | fail)
        have N8 := hide (heap_alloc_new w7 (.cells #[.int .i64 (xx : Int), .slice xa xn xc] 34))
        have B8 := hide (box_below w7 (.cells #[.int .i64 (xx : Int), .slice xa xn xc] 34))
        generalize w7.alloc (.cells #[.int .i64 (xx : Int), .slice xa xn xc] 34) = w8 at *
        obtain ⟨gx, hgx⟩ : ∃ gx, Hid (w7.heap.size = gx) := ⟨_, rfl⟩
        rw [hgx.out] at N8 ⊢
        have J8 := hide ((J6.out.below b7.out).below B8.out)
        have kx8 := hide (kx.out.below B8.out)
        have px8 := hide (px.out.below B8.out)
        clear x0 x1 hA1 kx px
        obtain ⟨x0, x1⟩ := two_cells J8.out.box
        have hA2 := bk_at J8.out hc.out hways.out a' la'.out
        go_upto_region 16 with (first
          | (go_at_call 33; refine hA2.mono ?_; rintro e w9 ⟨yx, yy, ya, yn, yc, rfl, fy, ky, py, b9⟩; replace fy := hide fy; replace ky := hide ky; clear py; replace b9 := hide b9)
          | fail)
        have N10 := hide (heap_alloc_new w9 (.cells #[.int .i64 (yx : Int), .slice ya yn yc] 34))
        have B10 := hide (box_below w9 (.cells #[.int .i64 (yx : Int), .slice ya yn yc] 34))
        generalize w9.alloc (.cells #[.int .i64 (yx : Int), .slice ya yn yc] 34) = w10 at *
        obtain ⟨gy, hgy⟩ : ∃ gy, Hid (w9.heap.size = gy) := ⟨_, rfl⟩
        rw [hgy.out] at N10 ⊢
        have B810 := hide (bs2 b9.out B10.out)
        have J10 := hide (J8.out.below B810.out)
        have kx10 := hide (kx8.out.below B810.out)
        have px10 := hide (px8.out.below B810.out)
        have ky10 := hide (ky.out.below B10.out)
        have NX10 := hide ((B810.out.block _ (heap_lt N8.out)).trans N8.out)
        clear x0 x1 hA2 kx8 px8 ky
        obtain ⟨x0, x1⟩ := two_cells J10.out.box
        obtain ⟨u0, u1⟩ := two_cells NX10.out
        have hNu := bk_number J10.out hc.out hways.out fx.out px10.out
        go_upto_region 17 with (first
          | (go_at_call 39; refine hNu.mono ?_; rintro e w11 ⟨rfl, b11⟩; replace b11 := hide b11)
          | fail)
        have J11 := hide (J10.out.below b11.out)
        have NX11 := hide ((b11.out.block _ (heap_lt NX10.out)).trans NX10.out)
        have NY11 := hide ((b11.out.block _ (heap_lt N10.out)).trans N10.out)
        have hE := bk_eq fx.out fy.out (kx10.out.below b11.out) (ky10.out.below b11.out)
        clear x0 x1 u0 u1 hNu px10 kx10 ky10
        obtain ⟨u0, u1⟩ := two_cells NX11.out
        obtain ⟨v0, v1⟩ := two_cells NY11.out
        obtain ⟨t, ht⟩ : ∃ t : Bool, Hid (decide (a = a') = t) := ⟨_, rfl⟩
        rw [ht.out] at hE
        have h3 : ((a : Int) == (a' : Int)) = t := by
          rw [← ht.out]
          by_cases hab : a = a'
          · subst hab; simp
          · rw [decide_eq_false hab]; simp; omega
        go_upto_region 19 with (first
          | (go_at_call 36; refine hE.mono ?_; rintro e w12 ⟨rfl, b12⟩; replace b12 := hide b12)
          | fail)
        have J12 := hide (J11.out.below b12.out)
        clear u0 u1 v0 v1 hE h3
        obtain ⟨y0, y1⟩ := two_cells J12.out.fat
        go_upto_region 20 with fail
        have NZ := hide (heap_alloc_new w12 (.cells #[.int .i64 d, .slice none 0 0] 34))
        have BZ := hide (box_below w12 (.cells #[.int .i64 d, .slice none 0 0] 34))
        generalize w12.alloc (.cells #[.int .i64 d, .slice none 0 0] 34) = w7z at *
        obtain ⟨gb, hgb⟩ : ∃ gb, Hid (w12.heap.size = gb) := ⟨_, rfl⟩
        rw [hgb.out] at NZ ⊢
        have J7 := hide (J12.out.below BZ.out)
        have lz : Hid (g5 < w7z.heap.size ∧ gb < w7z.heap.size ∧ B ≤ gb) := ⟨heap_lt J7.out.fat, heap_lt NZ.out, by have := J12.out.ltq; have := hgb.out; omega⟩
        clear y0 y1
        go_wp2_with fail
        go_loopw [22] (fun i wr => ∃ k : Nat, i = .int .i64 k ∧ k ≤ N ∧ Hid (∃ vc, wr.heap[gb]? = some (.cells #[.int .i64 d, vc] 34 (0, 0)) ∧ Bk w7z.heap.size wr vc (ks.take k) ∧ But (fun k => k = gb) w7z wr)) (fun i _ => N - (intOf i).toNat)
        case atStart => exact ⟨0, rfl, Nat.zero_le _, .slice none 0 0, NZ.out, Bk.nil _ _, But.of_below (Below.refl _ _) _⟩
        case round =>
          obtain ⟨k, rfl, hk, hQ⟩ := hrel
          obtain ⟨vc, gx0, hF, hb⟩ := hQ.out
          clear hQ
          have JR := hide (J7.out.but hb (fun k e => by subst e; exact lz.out.2.2))
          obtain ⟨ca, cn, cc, rfl⟩ : ∃ ca cn cc, vc = .slice ca cn cc := by rcases hF.2 with ⟨e, _⟩ | ⟨g, cap, cur, e, _⟩ <;> exact ⟨_, _, _, e⟩
          obtain ⟨x0, x1⟩ := two_cells JR.out.fat
          by_cases hlt : k < N
          · have i1 : (k : Int) < (N : Int) := by omega
            have hkl : k < ks.length := by rw [hN.out]; exact hlt
            obtain ⟨ka2, kc2, e3, _, _, kk⟩ := JR.out.kp
            simp only [Value.slice.injEq] at e3
            obtain ⟨e31, e32, e33⟩ := e3
            clear e32
            subst e31
            subst e33
            obtain ⟨kb, ko, vj, rfl, hkz, n0, n1', hsj, hsi, nb0, nb1⟩ := kk k hkl
            have hsn : Hid (ks.take (k + 1) = ks.take k ++ [ks[k]]) := by show _ = _; rw [List.take_succ_eq_append_getElem hkl]
            have hll : Hid ((ks.take k).length = k) := by show _ = _; rw [List.length_take]; omega
            generalize hkk : ks[k] = kp at *
            obtain ⟨kn, JJ⟩ := kp
            dsimp only at n0
            replace hF := hide hF
            replace hb := hide hb
            have Z0 : Hid (Lx g5 gb d (.slice (some ⟨kb, ko, none⟩) N kc) (.slice ca cn cc) kb (ko + k * 2) kn vj wr) := ⟨JR.out.fat, gx0, n0, n1'⟩
            have lk : Hid (kb < w7z.heap.size) := by show _ < _; have q1 := J7.out.ltw; have q2 := J7.out.ltq; have q3 : kb < w.heap.size := hkz; omega
            clear hkk hsj kk nb0 nb1 hsi n0 n1'
            go_upto_region 23 with fail
            clear x0 x1
            have KP : Hid (Lx g5 gb d (.slice (some ⟨kb, ko, none⟩) N kc) (.slice ca cn cc) kb (ko + k * 2) kn vj wr.drew) := Z0.out.but (But.of_below (Below.refl _ _).drew fun _ => False) (fun c => c) (fun c => c) (fun c => c)
            have GQ : Hid (Below wr.heap.size wr wr.drew) := (Below.refl _ _).drew
            refine wp_region_T (fun q => Lx g5 gb d (.slice (some ⟨kb, ko, none⟩) N kc) (.slice ca cn cc) kb (ko + k * 2) kn vj q) 12 (by kernel_rfl) ?_
            generalize wr.drew = q at *
            refine Ix.tk 0 ⟨some 111, .fieldAddr 34 (.tmp 21) 1, 0, "law.go:127", #[], none⟩ (.pointer (some ⟨gb, 1, none⟩)) [1,10,12] ?_ KP.out ?_
            · intro wq hSw; go_simp
            (try simp only [Act.put, List.setIfInBounds_toArray, List.set_cons_zero, List.set_cons_succ])
            refine Ix.tk 1 ⟨some 112, .load 32 (.tmp 111), 32, "law.go:127", #[⟨0,.data⟩], none⟩ (.slice ca cn cc) [10,12] ?_ KP.out ?_
            · intro wq hSw
              obtain ⟨y0, y1⟩ := two_cells hSw.f
              obtain ⟨z0, z1⟩ := two_cells hSw.g
              have t0 := hSw.n
              have t1 := hSw.j
              go_simp
            (try simp only [Act.put, List.setIfInBounds_toArray, List.set_cons_zero, List.set_cons_succ])
            refine Ix.tk 2 ⟨some 113, .fieldAddr 34 (.tmp 5) 1, 0, "law.go:127", #[], none⟩ (.pointer (some ⟨g5, 1, none⟩)) [3,5,6,7,8,9,10,12] ?_ KP.out ?_
            · intro wq hSw; go_simp
            (try simp only [Act.put, List.setIfInBounds_toArray, List.set_cons_zero, List.set_cons_succ])
            refine Ix.tk 3 ⟨some 114, .load 32 (.tmp 113), 32, "law.go:127", #[⟨2,.data⟩], none⟩ (.slice (some ⟨kb, ko, none⟩) N kc) [5,6,7,8,9,10,12] ?_ KP.out ?_
            · intro wq hSw
              obtain ⟨y0, y1⟩ := two_cells hSw.f
              obtain ⟨z0, z1⟩ := two_cells hSw.g
              have t0 := hSw.n
              have t1 := hSw.j
              go_simp
            (try simp only [Act.put, List.setIfInBounds_toArray, List.set_cons_zero, List.set_cons_succ])
            refine Ix.tk 4 ⟨some 115, .move (.tmp 22), 3, "law.go:127", #[], none⟩ (.int .i64 (k : Int)) [5,6,7,8,9,10,12] ?_ KP.out ?_
            · intro wq hSw; go_simp
            (try simp only [Act.put, List.setIfInBounds_toArray, List.set_cons_zero, List.set_cons_succ])
            refine Ix.tk 5 ⟨some 116, .indexAddr 32 (.tmp 114) (.tmp 115), 0, "law.go:127", #[⟨3,.data⟩,⟨4,.data⟩], none⟩ (.pointer (some ⟨kb, ko + k * 2, none⟩)) [6,7,8,9,10,12] ?_ KP.out ?_
            · intro wq hSw
              obtain ⟨y0, y1⟩ := two_cells hSw.f
              obtain ⟨z0, z1⟩ := two_cells hSw.g
              have t0 := hSw.n
              have t1 := hSw.j
              go_simp
            (try simp only [Act.put, List.setIfInBounds_toArray, List.set_cons_zero, List.set_cons_succ])
            refine Ix.tk 6 ⟨some 117, .fieldAddr 88 (.tmp 116) 0, 0, "law.go:127", #[⟨5,.data⟩], none⟩ (.pointer (some ⟨kb, ko + k * 2, none⟩)) [7,8,9,10,12] ?_ KP.out ?_
            · intro wq hSw; go_simp
            (try simp only [Act.put, List.setIfInBounds_toArray, List.set_cons_zero, List.set_cons_succ])
            refine Ix.tk 7 ⟨some 118, .load 3 (.tmp 117), 3, "law.go:127", #[⟨6,.data⟩], none⟩ (.int .i64 kn) [8,9,10,12] ?_ KP.out ?_
            · intro wq hSw
              obtain ⟨y0, y1⟩ := two_cells hSw.f
              obtain ⟨z0, z1⟩ := two_cells hSw.g
              have t0 := hSw.n
              have t1 := hSw.j
              go_simp
            (try simp only [Act.put, List.setIfInBounds_toArray, List.set_cons_zero, List.set_cons_succ])
            refine Ix.tk 8 ⟨some 119, .build 88 #[(0, .tmp 118)], 88, "law.go:127", #[⟨7,.data⟩], none⟩ (.agg #[.int .i64 kn, .slice none 0 0]) [9,10,12] ?_ KP.out ?_
            · intro wq hSw
              obtain ⟨y0, y1⟩ := two_cells hSw.f
              obtain ⟨z0, z1⟩ := two_cells hSw.g
              have t0 := hSw.n
              have t1 := hSw.j
              go_simp
            (try simp only [Act.put, List.setIfInBounds_toArray, List.set_cons_zero, List.set_cons_succ])
            have B6 := hide (box_below q (.cells #[.int .i64 kn, .slice none 0 0] 88))
            have N6 := hide (heap_alloc_new q (.cells #[.int .i64 kn, .slice none 0 0] 88))
            have K6 : Hid (Lx g5 gb d (.slice (some ⟨kb, ko, none⟩) N kc) (.slice ca cn cc) kb (ko + k * 2) kn vj (q.alloc (.cells #[.int .i64 kn, .slice none 0 0] 88))) := KP.out.but (But.of_below B6.out fun _ => False) (fun c => c) (fun c => c) (fun c => c)
            have W6 : Hid (Below wr.heap.size wr (q.alloc (.cells #[.int .i64 kn, .slice none 0 0] 88))) := GQ.out.trans (B6.out.mono GQ.out.size)
            refine wpAnyT_one (i := 9) (o := ⟨some 120, .buildSlice 32 1 #[(0, .tmp 119)], 32, "law.go:127", #[⟨8, .data⟩], none⟩) (by kernel_rfl) rfl (fun K hK => ?_)
            go_simp
            refine hK.out _ _ (fun _ => K6.out) ?_
            clear hK K
            (try simp only [Act.put, List.setIfInBounds_toArray, List.set_cons_zero, List.set_cons_succ])
            generalize hne : q.heap.size = ne at *
            generalize (q.alloc (.cells #[.int .i64 kn, .slice none 0 0] 88)) = w6 at *
            have R6 : Hid (Bk w7z.heap.size w6 (.slice ca cn cc) (ks.take k)) := owns_belowN hF.out W6.out
            have w3z : Hid (w7z.heap.size ≤ wr.heap.size) := hb.out.size
            have z6 : Hid (w7z.heap.size ≤ w6.heap.size) := Nat.le_trans hb.out.size W6.out.size
            refine wpAnyT_one (i := 10) (o := ⟨some 121, .call { callee := .builtin .append, args := #[.tmp 112, .tmp 120], argTypes := #[32, 32] }, 32, "law.go:127", #[⟨1, .data⟩, ⟨9, .data⟩], none⟩) (by kernel_rfl) rfl (fun K hK => ?_)
            refine step_append_lies _ rfl (.tmp 112) (.tmp 120) 32 rfl w7z.heap.size 88 i0 (.agg #[.int .i64 0, .slice none 0 0]) 2 32 Tryz.underlying32 hi.out hz0 hz1 hz2 rfl (by decide) (.slice ca cn cc) (ks.take k).length (bcells (ks.take k)) (by simp [Act.eval]) R6.out ⟨ne, 0, none⟩ 1 1 [.int .i64 kn, .slice none 0 0] (by simp [Act.eval]) rfl (two_new N6.out) (by simp [Value.oneCell']) (by decide) (by have := hll.out; have := hl.out; unfold maxLen; omega) (by have := hll.out; have := hl.out; omega) z6.out w6.heap.size rfl ?_
            intro g2 cap2 w8 ho8 hg8 hat8 hlt8
            have b8 : But (fun j => (Value.slice ca cn cc).ownBlock = some j) w6 w8 := But.of_grownBy hg8 fun j e => e
            have nob : ∀ j, (Value.slice ca cn cc).ownBlock = some j → w7z.heap.size ≤ j := fun j hj => (World.ownsRow.lt R6.out j hj).1
            have lo5 := lz.out.1
            have lob := lz.out.2.1
            have lok := lk.out
            have K8 : Hid (Lx g5 gb d (.slice (some ⟨kb, ko, none⟩) N kc) (.slice ca cn cc) kb (ko + k * 2) kn vj w8) := K6.out.but b8 (fun c => by have := nob _ c; omega) (fun c => by have := nob _ c; omega) (fun c => by have q1 := nob _ c; omega)
            have F8 : Hid (Bk w7z.heap.size w8 (.slice (some ⟨g2, 0, none⟩) ((ks.take k).length + 1) cap2) (ks.take (k + 1))) := by
              show Bk _ _ _ _
              unfold Bk
              rw [hsn.out, bcells_snoc, List.length_append]
              exact ho8
            have b38 : Hid (But (fun j => j = gb) w7z w8) := by
              have h1 := hb.out.trans (But.of_below W6.out _)
              exact but_trans_new h1 b8 (fun j c => .inr (World.ownsRow.lt R6.out j c).1)
            refine hK.out _ _ (fun _ => K8.out) ?_
            clear hK K
            (try simp only [Act.put, List.setIfInBounds_toArray, List.set_cons_zero, List.set_cons_succ])
            refine Ix.tk 11 ⟨some 122, .fieldAddr 34 (.tmp 21) 1, 0, "law.go:127", #[⟨0,.phase⟩,⟨1,.phase⟩,⟨2,.phase⟩,⟨3,.phase⟩,⟨4,.phase⟩,⟨5,.phase⟩,⟨6,.phase⟩,⟨7,.phase⟩,⟨8,.phase⟩,⟨9,.phase⟩,⟨10,.phase⟩], none⟩ (.pointer (some ⟨gb, 1, none⟩)) [12] ?_ K8.out ?_
            · intro wq hSw; go_simp
            (try simp only [Act.put, List.setIfInBounds_toArray, List.set_cons_zero, List.set_cons_succ])
            obtain ⟨z0, z1⟩ := two_cells K8.out.g
            have fz : w8.frozen? ⟨gb, 1, none⟩ = false := by simp [World.frozen?, K8.out.g]
            have h9 := heap_setCell_same w8 gb 1 _ _ (.slice (some ⟨g2, 0, none⟩) ((ks.take k).length + 1) cap2) K8.out.g
            have g9 := But.of_grownBy (X := fun j => j = gb) (grown_setCell w8 gb 1 (.slice (some ⟨g2, 0, none⟩) ((ks.take k).length + 1) cap2)) fun j e => by cases e; rfl
            have F9 : Hid (Bk w7z.heap.size _ (.slice (some ⟨g2, 0, none⟩) ((ks.take k).length + 1) cap2) (ks.take (k + 1))) := row_but F8.out g9 (fun j hj e => by have q1 := (World.ownsRow.lt F8.out j hj).1; have := lz.out.2.1; omega)
            have b39 := hide (b38.out.trans g9)
            replace h9 := hide h9
            rw [hll.out] at F9 b39 h9
            rw [hll.out]
            refine wpAnyT_one (i := 12) (o := ⟨none, .store 32 (.tmp 122) (.tmp 121), 0, "law.go:127", #[⟨11, .data⟩, ⟨10, .data⟩, ⟨10, .chain⟩, ⟨0, .phase⟩, ⟨1, .phase⟩, ⟨2, .phase⟩, ⟨3, .phase⟩, ⟨4, .phase⟩, ⟨5, .phase⟩, ⟨6, .phase⟩, ⟨7, .phase⟩, ⟨8, .phase⟩, ⟨9, .phase⟩, ⟨10, .phase⟩], none⟩) (by kernel_rfl) rfl (fun K hK => ?_)
            go_simp
            refine hK.out _ _ (vac (by kernel_rfl)) ?_
            clear hK K z0 z1 fz g9
            (try simp only [Act.put, List.setIfInBounds_toArray, List.set_cons_zero, List.set_cons_succ])
            refine wpAnyT_done (by kernel_rfl) ?_ _
            go_wp2_with fail
            go_roundw
            case rel => exact ⟨k + 1, by go_num, by omega, .slice (some ⟨g2, 0, none⟩) (k + 1) cap2, h9.out, F9.out, b39.out⟩
            case measure => simp [intOf]; omega
          · have i1 : ¬ ((k : Int) < (N : Int)) := by omega
            obtain rfl : k = N := by omega
            rw [List.take_of_length_le (by rw [hN.out]; omega)] at hF
            replace hF := hide hF
            replace hb := hide hb
            have hNF := bk_numberF JR.out hc.out hways.out d0.out d1.out
            obtain ⟨p0, p1⟩ := two_cells JR.out.box
            go_upto_region 25 with (first
              | (go_at_call 39; refine hNF.mono ?_; rintro e w13 ⟨kk, rfl, fk, b13⟩; replace fk := hide fk; replace b13 := hide b13)
              | fail)
            have J13 := hide (JR.out.below b13.out)
            clear p0 p1 x0 x1 hNF
            obtain ⟨p0, p1⟩ := two_cells J13.out.box
            have hAf := bk_after J13.out hc.out hways.out hr.out.uq fk.out
            go_upto_region 28 with (first
              | (go_at_call 35; refine hAf.mono ?_; rintro e w14 ⟨b1, σ1, S1, O1, rfl, al1, dk1, lo1, b14⟩; replace al1 := hide al1; replace dk1 := hide dk1; replace lo1 := hide lo1; replace b14 := hide b14)
              | fail)
            have J14 := hide (J13.out.below b14.out)
            clear p0 p1 hAf
            obtain ⟨p0, p1⟩ := two_cells J14.out.box
            have hCo := copy_dsk J14.out.dk hr.out.uq (by have := hc.out; omega)
            go_upto_region 29 with (first
              | (go_at_call 41; refine hCo.mono ?_; rintro e w15 ⟨b2, σ2, S2, O2, rfl, al2, dk2, lo2, b15⟩; replace al2 := hide al2; replace dk2 := hide dk2; replace lo2 := hide lo2; replace b15 := hide b15)
              | fail)
            have J15 := hide (J14.out.below b15.out)
            clear p0 p1 hCo
            have BR15 := hide (bs2 b13.out (bs2 b14.out b15.out))
            have G15 : w15.heap[gb]? = some (.cells #[.int .i64 d, .slice ca cn cc] 34 (0, 0)) := (BR15.out.block _ (heap_lt gx0)).trans gx0
            obtain ⟨p0, p1⟩ := two_cells G15
            have c72 : Hid (S2.c7 ≤ 60) := by show _ ≤ _; rw [al2.out.c7]; exact hc.out
            have c71 : Hid (S1.c7 ≤ 60) := by show _ ≤ _; rw [al1.out.c7]; exact hc.out
            have kp15 := hide ((hF.out.kp hkb.out).below BR15.out)
            have hCr := crash_dsk dk2.out (by have := c72.out; omega) d d0.out d1.out (.slice ca cn cc) _ (bareK ks) kp15.out (fun k hk => ⟨fun c => by have q1 := lo2.out k c; have q2 := b13.out.size; have q3 := b14.out.size; omega, by have q2 := BR15.out.size; omega⟩)
            go_upto_region 30 with (first
              | (go_at_call 18; refine hCr.mono ?_; rintro e w16 ⟨rfl, O3, dk3, sg⟩; replace dk3 := hide dk3; replace sg := hide sg)
              | fail)
            have dk16 : Hid (DskE w16 b1 S1 O1) := (dk1.out.below b15.out).but sg.out.but (fun k hk c => by have q1 := lo2.out k c; have q2 := dk1.out.lt k hk; omega)
            have J16 : Hid (Below w.heap.size w w16) := (J15.out.but sg.out.but (fun k hk => by have q1 := lo2.out k hk; have q2 := J14.out.ltq; omega)).bel
            clear p0 p1 hCr
            have hW2 := ways_dsk dk16.out (by have := c71.out; omega)
            rw [cnt_crash al1.out] at hW2
            obtain ⟨sf, sl⟩ := back_same hr.out al1.out al2.out
            have K1 : Hid (∀ q, Below w16.heap.size w16 q → Calls Tryz.prog 23 #[.pointer (some ⟨b1, 0, none⟩)] q fun e w' => ∃ v, e = .returned v ∧ Fr w' v S1.files ∧ Below q.heap.size q w') := fun q hq => files_dskE (dk16.out.below hq) (by have := c71.out; omega)
            have K2 : Hid (∀ q, Below w16.heap.size w16 q → Calls Tryz.prog 23 #[.pointer (some ⟨b2, 0, none⟩)] q fun e w' => ∃ v, e = .returned v ∧ Fr w' v S1.files ∧ Below q.heap.size q w') := fun q hq => by rw [sf]; exact files_dskE (dk3.out.below hq) (by have := c72.out; show S2.c7 < _; omega)
            have K3 : Hid (∀ q, Below w16.heap.size w16 q → Calls Tryz.prog 24 #[.pointer (some ⟨b1, 0, none⟩)] q fun e w' => ∃ v, e = .returned v ∧ Fr w' v S1.lasts ∧ Below q.heap.size q w') := fun q hq => lasts_dskE (dk16.out.below hq) (by have := c71.out; omega)
            have K4 : Hid (∀ q, Below w16.heap.size w16 q → Calls Tryz.prog 24 #[.pointer (some ⟨b2, 0, none⟩)] q fun e w' => ∃ v, e = .returned v ∧ Fr w' v S1.lasts ∧ Below q.heap.size q w') := fun q hq => by rw [sl]; exact lasts_dskE (dk3.out.below hq) (by have := c72.out; show S2.c7 < _; omega)
            clear sf sl
            go_upto_region 31 with (first
              | (go_at_call 31; refine hW2.mono ?_; rintro e w17 ⟨rfl, b17⟩; replace b17 := hide b17)
              | fail)
            clear hW2
            go_wp2_with (first
              | (go_at_call 42; refine (files_eq _ _ _ _ (fr3.out.below b22.out) fr4.out).mono ?_; rintro e w23 ⟨rfl, b23⟩; replace b23 := hide b23)
              | (go_at_call 24; refine (K4.out _ (bs2 b17.out (bs2 b18.out (bs2 b19.out (bs2 b20.out b21.out))))).mono ?_; rintro e w22 ⟨f4, rfl, fr4, b22⟩; replace fr4 := hide fr4; replace b22 := hide b22)
              | (go_at_call 24; refine (K3.out _ (bs2 b17.out (bs2 b18.out (bs2 b19.out b20.out)))).mono ?_; rintro e w21 ⟨f3, rfl, fr3, b21⟩; replace fr3 := hide fr3; replace b21 := hide b21)
              | (go_at_call 42; refine (files_eq _ _ _ _ (fr1.out.below b19.out) fr2.out).mono ?_; rintro e w20 ⟨rfl, b20⟩; replace b20 := hide b20)
              | (go_at_call 23; refine (K2.out _ (bs2 b17.out b18.out)).mono ?_; rintro e w19 ⟨f2, rfl, fr2, b19⟩; replace fr2 := hide fr2; replace b19 := hide b19)
              | (go_at_call 23; refine (K1.out _ b17.out).mono ?_; rintro e w18 ⟨f1, rfl, fr1, b18⟩; replace fr1 := hide fr1; replace b18 := hide b18)
              | fail)
            go_ret
            exact ⟨rfl, bs2 J16.out (bs2 b17.out (bs2 b18.out (bs2 b19.out (bs2 b20.out (bs2 b21.out (bs2 b22.out b23.out))))))⟩
  · have e0 : S.cnt = ([], 0, 9) := by unfold DS.cnt; rw [if_neg hways]
    simp only [e0] at hW
    replace hways := hide hways
    go_wp2_with (first
      | (go_at_call 31; refine hW.mono ?_; rintro e w5 ⟨rfl, b5⟩; replace b5 := hide b5)
      | fail)
    go_ret
    exact ⟨rfl, (J4.out.below b5.out).bel⟩
end Go.Proofs.YtjehpijjneghpaaGreat.Re
