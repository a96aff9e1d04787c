/-
  DiskApart's walk. (gen_RnB.py)
-/
import Derived.Test.YtjehpijjneghpaaGreatM44
namespace Go.Proofs.YtjehpijjneghpaaGreat.Re
open Go.RowKit Go.Maps Go.Sort Go.Shelf Go.Proofs.YtjehpijjneghpaaGreat.Nm Go.Proofs.YtjehpijjneghpaaGreat.Dk
open Ix (wp_region_T wpAnyT wpAnyT_take wpAnyT_one wpAnyT_done vac)
set_option linter.unusedVariables false
structure Pxo (pb b rb gb o : Nat) (nm : ByteArray) (q : World) : Prop where
  f : q.heap[pb]? = some (.cells #[.pointer (some ⟨b, 0, none⟩), .pointer (some ⟨rb, 0, none⟩)] 29 (0, 0))
  n : q.cell? ⟨gb, o, none⟩ = some (.string nm)
theorem Pxo.but {pb b rb gb o : Nat} {nm : ByteArray} {q q' : World} {X : Nat → Prop} (h : Pxo pb b rb gb o nm q) (hb : But X q q') (h1 : ¬ X pb) (h2 : ¬ X gb) : Pxo pb b rb gb o nm q' := ⟨hb.at h.f h1, cell_but h.n hb h2⟩
theorem AI.dsk {w q : World} {pb kb b : Nat} {S : DS} {R : RB} {Q C : Nat → Prop} (h : AI w pb kb b S R Q C q) : DskE q b S (Classical.choose (Classical.choose_spec h.pw)) := by
  obtain ⟨V, px, _⟩ := Classical.choose_spec (Classical.choose_spec h.pw)
  exact px.d
theorem files_fl {w : World} {b : Nat} {S : DS} {O : Nat → Prop} (h : DskE w b S O) (hc : S.c7 < 1000000000) : Calls Tryz.prog 23 #[.pointer (some ⟨b, 0, none⟩)] w fun e w' => ∃ v vs, e = .returned v ∧ FlI w.heap.size w' v S.files vs ∧ Below w.heap.size w w' := by
  obtain ⟨f, g, pd, am, VB, VL, h⟩ := h
  exact files_any h hc
theorem lasts_fl {w : World} {b : Nat} {S : DS} {O : Nat → Prop} (h : DskE w b S O) (hc : S.c7 < 1000000000) : Calls Tryz.prog 24 #[.pointer (some ⟨b, 0, none⟩)] w fun e w' => ∃ v vs, e = .returned v ∧ FlI w.heap.size w' v S.lasts vs ∧ Below w.heap.size w w' := by
  obtain ⟨f, g, pd, am, VB, VL, h⟩ := h
  exact lasts_any h hc
theorem files_short {S : DS} {R : RB} (h : Rel S R) (hc : S.c7 ≤ 1000) : S.files.length + S.lasts.length ≤ 2000000 := by
  rw [h.files, h.lasts, RB.all, RB.lasts, List.length_map, List.length_map]
  have a := h.ri.dlen
  have b := h.ri.cnt
  have c := h.cnts
  omega
theorem cell_next (w : World) (g o : Nat) (x : Value) : (w.setCell ⟨g, o, none⟩ x).cell? ⟨g, o + 1, none⟩ = w.cell? ⟨g, o + 1, none⟩ := by
  apply World.cell?_setCell_other
  intro c
  injection c with _ h _
  omega
theorem ai_start {w wp wk : World} {pb kb b : Nat} {S : DS} {R : RB} {Q : Nat → Prop} (p : PW wp pb b S R Q) (r : Rel S R) (lo : ∀ j, Q j → w.heap.size ≤ j) (hb : Below w.heap.size w wp) (hk : wk = wp.alloc (.cells #[.slice none 0 0, .int .i64 0] 56)) (hkb : wp.heap.size = kb) : AI w pb kb b S R Q (fun k => k = kb) wk := by
  subst hk
  subst hkb
  have b2 := box_below wp (.cells #[.slice none 0 0, .int .i64 0] 56)
  have n2 := heap_alloc_new wp (.cells #[.slice none 0 0, .int .i64 0] 56)
  refine ⟨p.below b2, r, ⟨[], 0, .slice none 0 0, ⟨.slice none 0 0, n2, World.ownsRow_nil _ _ _ _, Nat.le_refl _, by omega⟩, (two_cells n2).1, ⟨fun t ht => by simp at ht, by simp⟩, hb.size, fun k => ?_⟩, fun j hj c => by have := p.lt j hj; omega, lo, bs2 hb b2⟩
  simp [Value.ownBlock]
set_option maxRecDepth 100000 in
set_option maxHeartbeats 8000000 in
theorem apart_walk (w : World) (ao : Option Addr) (cap : Nat) (os : List Dop) (hos : os.length ≤ cap) (hcap : cap ≤ maxLen) (hat : AtDops w ao os) (hok : ∀ o ∈ os, DopOk w o) :
    Calls Tryz.prog 5 #[.slice ao os.length cap] w fun e w' => e = .returned (.bool true) ∧ Below w.heap.size w w' := by
  have hm : cap ≤ 9223372036854775807 := by unfold maxLen at hcap; omega
  replace hat := hide hat
  replace hok := hide hok
  obtain ⟨N, hN⟩ : ∃ N, Hid (os.length = N) := ⟨_, rfl⟩
  rw [hN.out] at hos ⊢
  clear hcap
  go_enter Tryz.func5, Tryz.ntmps5
  go_upto_region 4 with (first
    | (go_at_call 8; refine (begun_any _).mono ?_; rintro e w0 ⟨rfl, B0⟩; replace B0 := hide B0)
    | (go_at_call 9; refine (new_dsk _ 65536 (by decide) (by decide)).mono ?_; rintro e wa ⟨ba, Oa, rfl, Da, Ba, la⟩; replace la := hide la; replace Da := hide Da; replace Ba := hide Ba)
    | (go_at_call 10; refine (new_ref _ 65536 (by decide) (by decide)).mono ?_; rintro e wb ⟨rfl, Rb, Bb⟩; replace Rb := hide Rb; replace Bb := hide Bb))
  have P1 := hide (pair_new Da.out la.out Ba.out Bb.out Rb.out)
  have BP := hide (bt (bs2 (bs2 B0.out Ba.out) Bb.out) (.cells #[.pointer (some ⟨ba, 0, none⟩), .pointer (some ⟨wa.heap.size, 0, none⟩)] 29))
  generalize wb.alloc (.cells #[.pointer (some ⟨ba, 0, none⟩), .pointer (some ⟨wa.heap.size, 0, none⟩)] 29) = wp at *
  generalize hpb : wb.heap.size = pb at *
  obtain ⟨kb, hkb⟩ : ∃ kb, Hid (wp.heap.size = kb) := ⟨_, rfl⟩
  obtain ⟨wk, hwk⟩ : ∃ wk, Hid (wk = wp.alloc (.cells #[.slice none 0 0, .int .i64 0] 56)) := ⟨_, rfl⟩
  have A0 : Hid (∃ b S R Q C, AI w pb kb b S R Q C wk ∧ S.c7 ≤ ((0 : Nat) : Int)) := ⟨ba, _, _, _, _, ai_start P1.out.1 (rel_new 65536 (by decide)) (fun j hj => Nat.le_trans B0.out.size (P1.out.2 j hj)) BP.out hwk.out hkb.out, Int.le_refl _⟩
  clear P1 BP Da Ba la Rb Bb hpb
  go_upto_region 5 with fail
  rw [hkb.out]
  (try rw [← hwk.out])
  clear hkb hwk
  go_wp2_with fail
  go_loopw [5] (fun i wr => ∃ k : Nat, i = .int .i64 k ∧ k ≤ N ∧ k ≤ 40 ∧ Hid (∃ b S R Q C, AI w pb kb b S R Q C wr ∧ S.c7 ≤ (k : Int))) (fun i _ => N - (intOf i).toNat)
  case atStart => exact ⟨0, rfl, Nat.zero_le _, Nat.zero_le _, A0⟩
  case round =>
    clear A0
    obtain ⟨k, rfl, hk, hk2, hD⟩ := hrel
    obtain ⟨b, S, R, Q, C, hA, c7⟩ := hD.out
    clear hD
    by_cases hgo : k < N ∧ k < 40
    · obtain ⟨hlt, hlt2⟩ := hgo
      have j1 : (k : Int) < (N : Int) := by omega
      have j2 : (k : Int) < 40 := by omega
      have hkl : k < os.length := by rw [hN.out]; exact hlt
      obtain ⟨gb, off, rfl, hcl⟩ := hat.out k hkl
      have hdo := hide (hok.out _ (List.getElem_mem hkl))
      obtain ⟨da, dc, hvd, _, d3, d4, _⟩ := id hdo.out.dat
      obtain ⟨fa, fc, hvf, _⟩ := id hdo.out.fs
      obtain ⟨qa, qc, hvq, _⟩ := id hdo.out.ks
      have d4' : dc ≤ 9223372036854775807 := by unfold maxLen at d4; omega
      have hc : Hid (∀ j u, (os[k]).cells[j]? = some u → wr.cell? ⟨gb, off + k * 10 + j, none⟩ = some u) := fun j u hu => by have := hcl j u hu; rw [hA.bel.cell (lt_of_cell this)]; exact this
      have hcw : Hid (∀ q, Below w.heap.size w q → ∀ j u, (os[k]).cells[j]? = some u → q.cell? ⟨gb, off + k * 10 + j, none⟩ = some u) := fun q hq j u hu => by have := hcl j u hu; rw [hq.cell (lt_of_cell this)]; exact this
      have gbl : Hid (gb < w.heap.size) := lt_of_cell (hcl 0 _ rfl)
      generalize os[k] = o at *
      obtain ⟨okk, os_, on, ot, ov, oD, oo, onn, of, ofs, od, ovk, oks⟩ := o
      dsimp only at hvd hvf hvq
      subst hvd hvf hvq
      have x0 : wr.cell? ⟨gb, off + k * 10, none⟩ = some (.int .i64 okk) := hc.out 0 _ rfl
      have x1 : wr.cell? ⟨gb, off + k * 10 + 1, none⟩ = some (.bool os_) := hc.out 1 _ rfl
      have x2 : wr.cell? ⟨gb, off + k * 10 + 2, none⟩ = some (.string on) := hc.out 2 _ rfl
      have x3 : wr.cell? ⟨gb, off + k * 10 + 3, none⟩ = some (.string ot) := hc.out 3 _ rfl
      have x4 : wr.cell? ⟨gb, off + k * 10 + 4, none⟩ = some (.slice da oD.length dc) := hc.out 4 _ rfl
      have x5 : wr.cell? ⟨gb, off + k * 10 + 5, none⟩ = some (.int .i64 oo) := hc.out 5 _ rfl
      have x6 : wr.cell? ⟨gb, off + k * 10 + 6, none⟩ = some (.int .i64 onn) := hc.out 6 _ rfl
      have x7 : wr.cell? ⟨gb, off + k * 10 + 7, none⟩ = some (.slice fa ofs.length fc) := hc.out 7 _ rfl
      have x8 : wr.cell? ⟨gb, off + k * 10 + 8, none⟩ = some (.int .i64 od) := hc.out 8 _ rfl
      have x9 : wr.cell? ⟨gb, off + k * 10 + 9, none⟩ = some (.slice qa oks.length qc) := hc.out 9 _ rfl
      clear hcl d4
      by_cases e5 : (oD.length : Int) > 4096
      · replace hA := hide hA
        replace c7 := hide c7
        go_wp2_with fail
        go_roundw
        case rel => exact ⟨k + 1, by go_num, by omega, by omega, b, S, R, Q, C, hA.out, by have := c7.out; omega⟩
        case measure => simp [intOf]; omega
      · have hP := hA.plays (k := k) (by omega) c7 ⟨okk, os_, on, ot, .slice da oD.length dc, oD, oo, onn, .slice fa ofs.length fc, ofs, od, .slice qa oks.length qc, oks⟩ hdo.out
        unfold opV at hP
        dsimp only at hP
        have hon : Hid (on.size ≤ 140737488351232) := hdo.out.nm
        clear c7
        replace hA := hide hA
        go_upto_region 10 with (first
          | (go_at_call 11; refine hP.mono ?_; rintro e w9 ⟨rfl, b, S, R, Q, A9, c9⟩; replace A9 := hide A9; replace c9 := hide c9)
          | fail)
        clear hP hA x0 x1 x2 x3 x4 x5 x6 x7 x8 x9 hc
        have K40 : Hid (k < N ∧ k < 40) := ⟨hlt, hlt2⟩
        have c7 : Hid (S.c7 ≤ 1000) := by show _ ≤ _; have := c9.out; omega
        go_wp2_with fail
        go_loopw [6] (fun t wr => ∃ m : Nat, t = .int .i64 m ∧ m ≤ 2 ∧ Hid (∃ C, AI w pb kb b S R Q C wr)) (fun t _ => 2 - (intOf t).toNat)
        case atStart => exact ⟨0, rfl, by omega, C, A9.out⟩
        case round =>
          obtain ⟨m, rfl, hm2, hD⟩ := hrel
          obtain ⟨C, hA⟩ := hD.out
          clear hD A9
          by_cases hml : m < 2
          · have m1 : (m : Int) < 2 := by omega
            replace hA := hide hA
            obtain ⟨rb, O, V, px, _⟩ := id hA.out.pw
            have Z0 : Hid (Pxo pb b rb gb (off + k * 10 + 2) on wr) := ⟨px.box, hcw.out _ hA.out.bel 2 _ rfl⟩
            clear px
            go_upto_region 13 with fail
            have KP : Hid (Pxo pb b rb gb (off + k * 10 + 2) on wr.drew) := Z0.out.but (But.of_below (Below.refl _ _).drew fun _ => False) (fun c => c) (fun c => c)
            have AQ := hide (hA.out.below (Below.refl _ _).drew)
            refine wp_region_T (fun q => Pxo pb b rb gb (off + k * 10 + 2) on q) 7 (by kernel_rfl) ?_
            generalize wr.drew = q at *
            refine Ix.tk 0 ⟨some 51, .fieldAddr 29 (.tmp 3) 0, 0, "law.go:292", #[], none⟩ (.pointer (some ⟨pb, 0, none⟩)) [1,2,6,7] ?_ KP.out ?_
            · intro wq hSw; go_simp
            (try simp only [zzp, zza, zzb, zzc])
            refine Ix.tk 1 ⟨some 52, .load 24 (.tmp 51), 24, "law.go:292", #[⟨0,.data⟩], none⟩ (.pointer (some ⟨b, 0, none⟩)) [2,6,7] ?_ KP.out ?_
            · intro wq hSw
              obtain ⟨z0, z1⟩ := two_cells hSw.f
              have t0 := hSw.n
              go_simp
            (try simp only [zzp, zza, zzb, zzc])
            refine Ix.tk 3 ⟨some 54, .fieldAddr 29 (.tmp 3) 0, 0, "law.go:292", #[], none⟩ (.pointer (some ⟨pb, 0, none⟩)) [4,5,6,7] ?_ KP.out ?_
            · intro wq hSw; go_simp
            (try simp only [zzp, zza, zzb, zzc])
            refine Ix.tk 4 ⟨some 55, .load 24 (.tmp 54), 24, "law.go:292", #[⟨3,.data⟩], none⟩ (.pointer (some ⟨b, 0, none⟩)) [5,6,7] ?_ KP.out ?_
            · intro wq hSw
              obtain ⟨z0, z1⟩ := two_cells hSw.f
              have t0 := hSw.n
              go_simp
            (try simp only [zzp, zza, zzb, zzc])
            refine wpAnyT_one (i := 2) (o := ⟨some 53, .call { callee := .value (.func 23), args := #[.tmp 52], argTypes := #[24] }, 57, "law.go:292", #[⟨1, .data⟩], none⟩) (by kernel_rfl) rfl (fun K hK => ?_)
            go_simp
            go_at_call 23
            refine (files_fl (AQ.out.dsk) (by have := c7.out; omega)).mono ?_
            rintro e w5 ⟨va, vs1, rfl, F1, b1⟩
            replace F1 := hide F1
            replace b1 := hide b1
            have K5 : Hid (Pxo pb b rb gb (off + k * 10 + 2) on w5) := KP.out.but (But.of_below b1.out fun _ => False) (fun c => c) (fun c => c)
            have A5 := hide (AQ.out.below b1.out)
            (try go_simp)
            refine hK.out _ _ (fun _ => K5.out) ?_
            clear hK K
            (try simp only [zzp, zza, zzb, zzc])
            refine wpAnyT_one (i := 5) (o := ⟨some 56, .call { callee := .value (.func 24), args := #[.tmp 55], argTypes := #[24] }, 57, "law.go:292", #[⟨4, .data⟩, ⟨2, .chain⟩], none⟩) (by kernel_rfl) rfl (fun K hK => ?_)
            go_simp
            go_at_call 24
            refine (lasts_fl (A5.out.dsk) (by have := c7.out; omega)).mono ?_
            rintro e w6 ⟨vb, vs2, rfl, F2, b2⟩
            replace F2 := hide F2
            replace b2 := hide b2
            have K6 : Hid (Pxo pb b rb gb (off + k * 10 + 2) on w6) := K5.out.but (But.of_below b2.out fun _ => False) (fun c => c) (fun c => c)
            (try go_simp)
            refine hK.out _ _ (fun _ => K6.out) ?_
            clear hK K
            (try simp only [zzp, zza, zzb, zzc])
            obtain ⟨v7, w7, r7, FJ, G7⟩ := run_appFl F1.out b1.out.size F2.out b2.out (files_short AQ.out.rel c7.out) 57
            have b7 : Hid (Below q.heap.size q w7) := Below.grown (bs2 b1.out b2.out) G7 (Nat.le_trans b1.out.size b2.out.size) (fun k hk => (World.ownsRow.lt F1.out.row k hk).1)
            have K7 : Hid (Pxo pb b rb gb (off + k * 10 + 2) on w7) := KP.out.but (But.of_below b7.out fun _ => False) (fun c => c) (fun c => c)
            have L7 := hide (FL.of AQ.out FJ b7.out (files_few AQ.out.rel))
            obtain ⟨a7, c7', rfl, f71, f72⟩ : ∃ ao ca, v7 = .slice ao (S.files ++ S.lasts).length ca ∧ (S.files ++ S.lasts).length ≤ ca ∧ ca ≤ 9223372036854775807 := by
              rcases FJ.row.2 with ⟨e, hz⟩ | ⟨g, cap, cur, e, hB, hc, h1, h2, h3, h4⟩
              · exact ⟨none, 0, by rw [hz]; exact e, by omega, by omega⟩
              · exact ⟨some ⟨g, 0, none⟩, cap, e, h1, by unfold maxLen at h2; omega⟩
            replace r7 := hide r7
            clear G7 FJ
            refine wpAnyT_one (i := 6) (o := ⟨some 57, .call { callee := .builtin .append, args := #[.tmp 53, .tmp 56], argTypes := #[57, 57] }, 57, "law.go:292", #[⟨2, .data⟩, ⟨5, .data⟩, ⟨5, .chain⟩], none⟩) (by kernel_rfl) rfl (fun K hK => ?_)
            rw [if_pos (by simp [Region.wanted])]
            refine Lib.wp_append_run _ (.tmp 53) (.tmp 56) 57 57 rfl va vb (by simp [Act.eval]) (by simp [Act.eval]) _ w7 r7.out ?_
            refine hK.out _ _ (fun _ => K7.out) ?_
            clear hK K
            (try simp only [zzp, zza, zzb, zzc])
            refine wpAnyT_one (i := 7) (o := ⟨some 7, .assign (.tmp 57), 57, "law.go:292", #[⟨6, .data⟩, ⟨6, .chain⟩, ⟨0, .phase⟩, ⟨1, .phase⟩, ⟨2, .phase⟩, ⟨3, .phase⟩, ⟨4, .phase⟩, ⟨5, .phase⟩, ⟨6, .phase⟩], none⟩) (by kernel_rfl) rfl (fun K hK => ?_)
            go_simp
            refine hK.out _ _ (vac (by kernel_rfl)) ?_
            clear hK K
            (try simp only [zzp, zza, zzb, zzc])
            refine wpAnyT_done (by kernel_rfl) ?_ _
            clear F1 F2 b1 b2 K5 K6 A5 r7 KP AQ Z0
            obtain ⟨M, hM⟩ : ∃ M, Hid (S.files.length + S.lasts.length = M) := ⟨_, rfl⟩
            have M2 : (M : Int) ≤ 2000000 := by have := files_short hA.out.rel c7.out; have := hM.out; omega
            rw [List.length_append] at L7 f71
            rw [hM.out] at L7 f71 ⊢
            generalize vs1 ++ vs2 = vs at L7
            have hA9 := hide hA.out.rel
            clear hA
            go_wp2_with fail
            go_loopw [8] (fun v8 wr => ∃ j : Nat, v8 = .int .i64 j ∧ j ≤ M ∧ Hid (FL w pb kb b S R Q (.slice a7 M c7') vs M j wr)) (fun v8 _ => M - (intOf v8).toNat)
            case atStart => exact ⟨0, rfl, Nat.zero_le _, L7.out⟩
            case round =>
              clear L7
              obtain ⟨j, rfl, hj, hL⟩ := hrel
              by_cases hjl : j < M
              · have i1 : (j : Int) < (M : Int) := by omega
                obtain ⟨g7, cp, u, ev, e1, e2, hu, cu, ua, un, uc, rfl⟩ := hL.out.cells hjl
                simp only [Value.slice.injEq] at ev
                obtain ⟨rfl, _, rfl⟩ := ev
                have hKe := hL.out.kept hu 1
                go_upto_region 18 with (first
                  | (go_at_call 25; refine hKe.mono ?_; rintro e w8 ⟨rfl, L8⟩; replace L8 := hide L8)
                  | fail)
                clear hKe cu
                obtain ⟨⟨a0, p0⟩, ⟨a1, p1⟩, f0, f1⟩ := L8.out.place hjl
                have p1' : (w8.setCell ⟨g7, j * 2, none⟩ (.string ⟨#[]⟩)).cell? ⟨g7, j * 2 + 1, none⟩ = some a1 := by rw [cell_next]; exact p1
                have f1' : (w8.setCell ⟨g7, j * 2, none⟩ (.string ⟨#[]⟩)).frozen? ⟨g7, j * 2 + 1, none⟩ = false := by simpa using f1
                have L9 := hide (L8.out.emptied (.string ⟨#[]⟩) (.slice none 0 0))
                go_wp2_with fail
                go_roundw
                case rel => exact ⟨j + 1, by go_num, by omega, L9.out⟩
                case measure => simp [intOf]; omega
              · have i1 : ¬ ((j : Int) < (M : Int)) := by omega
                obtain ⟨C2, xs, ai, _⟩ := hL.out.out
                have hB := hide ai
                obtain ⟨rb, O, V, px, _⟩ := id hB.out.pw
                have Z1 : Hid (Pxo pb b rb gb (off + k * 10 + 2) on wr) := ⟨px.box, hcw.out _ hB.out.bel 2 _ rfl⟩
                clear px ai hL
                go_upto_region 19 with fail
                have KPa : Hid (Pxo pb b rb gb (off + k * 10 + 2) on wr.drew) := Z1.out.but (But.of_below (Below.refl _ _).drew fun _ => False) (fun c => c) (fun c => c)
                have AQa := hide (hB.out.below (Below.refl _ _).drew)
                refine wp_region_T (fun q => Pxo pb b rb gb (off + k * 10 + 2) on q) 12 (by kernel_rfl) ?_
                generalize wr.drew = qa at *
                refine Ix.tk 0 ⟨some 77, .fieldAddr 29 (.tmp 3) 0, 0, "law.go:297", #[], none⟩ (.pointer (some ⟨pb, 0, none⟩)) [1,7,8,9,11,12] ?_ KPa.out ?_
                · intro wq hSw; go_simp
                (try simp only [zzp, zza, zzb, zzc])
                refine Ix.tk 1 ⟨some 78, .load 24 (.tmp 77), 24, "law.go:297", #[⟨0,.data⟩], none⟩ (.pointer (some ⟨b, 0, none⟩)) [7,8,9,11,12] ?_ KPa.out ?_
                · intro wq hSw
                  obtain ⟨z0, z1⟩ := two_cells hSw.f
                  have t0 := hSw.n
                  go_simp
                (try simp only [zzp, zza, zzb, zzc])
                refine Ix.tk 2 ⟨some 79, .move (.tmp 0), 22, "law.go:297", #[], none⟩ (.slice (some ⟨gb, off, none⟩) N cap) [4,5,6,7,8,9,11,12] ?_ KPa.out ?_
                · intro wq hSw; go_simp
                (try simp only [zzp, zza, zzb, zzc])
                refine Ix.tk 3 ⟨some 80, .move (.tmp 5), 3, "law.go:297", #[], none⟩ (.int .i64 (k : Int)) [4,5,6,7,8,9,11,12] ?_ KPa.out ?_
                · intro wq hSw; go_simp
                (try simp only [zzp, zza, zzb, zzc])
                refine Ix.tk 4 ⟨some 81, .indexAddr 22 (.tmp 79) (.tmp 80), 0, "law.go:297", #[⟨2,.data⟩,⟨3,.data⟩], none⟩ (.pointer (some ⟨gb, off + k * 10, none⟩)) [5,6,7,8,9,11,12] ?_ KPa.out ?_
                · intro wq hSw
                  obtain ⟨z0, z1⟩ := two_cells hSw.f
                  have t0 := hSw.n
                  go_simp
                (try simp only [zzp, zza, zzb, zzc])
                refine Ix.tk 5 ⟨some 82, .fieldAddr 36 (.tmp 81) 2, 0, "law.go:297", #[⟨4,.data⟩], none⟩ (.pointer (some ⟨gb, off + k * 10 + 2, none⟩)) [6,7,8,9,11,12] ?_ KPa.out ?_
                · intro wq hSw; go_simp
                (try simp only [zzp, zza, zzb, zzc])
                refine Ix.tk 6 ⟨some 83, .load 9 (.tmp 82), 9, "law.go:297", #[⟨5,.data⟩], none⟩ (.string on) [7,8,9,11,12] ?_ KPa.out ?_
                · intro wq hSw
                  obtain ⟨z0, z1⟩ := two_cells hSw.f
                  have t0 := hSw.n
                  go_simp
                (try simp only [zzp, zza, zzb, zzc])
                refine wpAnyT_one (i := 7) (o := ⟨some 84, .call { callee := .value (.func 19), args := #[.tmp 78, .tmp 83], argTypes := #[24, 9] }, 44, "law.go:297", #[⟨1, .data⟩, ⟨6, .data⟩], none⟩) (by kernel_rfl) rfl (fun K hK => ?_)
                go_simp
                go_at_call 19
                refine (size_dsk AQa.out.dsk on (by have := hon.out; unfold maxLen; omega)).mono ?_
                rintro e w5a ⟨rfl, b1a⟩
                replace b1a := hide b1a
                have K5a : Hid (Pxo pb b rb gb (off + k * 10 + 2) on w5a) := KPa.out.but (But.of_below b1a.out fun _ => False) (fun c => c) (fun c => c)
                (try go_simp)
                refine hK.out _ _ (fun _ => K5a.out) ?_
                clear hK K
                (try simp only [zzp, zza, zzb, zzc])
                refine Ix.tk 8 ⟨some 76, .move (.tmp 84), 44, "law.go:297", #[⟨7,.data⟩], none⟩ (.tuple #[.int .i64 (S.size on).1, .int .i64 (S.size on).2]) [9,11,12] ?_ K5a.out ?_
                · intro wq hSw; go_simp
                (try simp only [zzp, zza, zzb, zzc])
                refine Ix.tk 9 ⟨some 85, .extract (.tmp 76) 0, 3, "law.go:297", #[⟨8,.data⟩], none⟩ (.int .i64 (S.size on).1) [11,12] ?_ K5a.out ?_
                · intro wq hSw; go_simp
                (try simp only [zzp, zza, zzb, zzc])
                refine Ix.tk 10 ⟨some 86, .extract (.tmp 76) 1, 41, "law.go:297", #[⟨8,.data⟩, { on := 11, ground := Ground.gcOnly Departure.lateStores }], none⟩ (.int .i64 (S.size on).2) [12] ?_ K5a.out ?_
                · intro wq hSw; go_simp
                (try simp only [zzp, zza, zzb, zzc])
                refine Ix.tk 11 ⟨some 9, .assign (.tmp 85), 3, "law.go:297", #[⟨9,.data⟩,⟨7,.chain⟩,⟨0,.phase⟩,⟨1,.phase⟩,⟨2,.phase⟩,⟨3,.phase⟩,⟨4,.phase⟩,⟨5,.phase⟩,⟨6,.phase⟩,⟨7,.phase⟩,⟨8,.phase⟩,⟨9,.phase⟩, { on := 10, ground := Ground.textOnly Departure.lateStores }], none⟩ (.int .i64 (S.size on).1) [12] ?_ K5a.out ?_
                · intro wq hSw; go_simp
                (try simp only [zzp, zza, zzb, zzc])
                refine wpAnyT_one (i := 12) (o := ⟨some 10, .assign (.tmp 86), 41, "law.go:297", #[⟨10, .data⟩, ⟨11, .chain⟩, ⟨0, .phase⟩, ⟨1, .phase⟩, ⟨2, .phase⟩, ⟨3, .phase⟩, ⟨4, .phase⟩, ⟨5, .phase⟩, ⟨6, .phase⟩, ⟨7, .phase⟩, ⟨8, .phase⟩, ⟨9, .phase⟩, ⟨10, .phase⟩, ⟨11, .phase⟩], none⟩) (by kernel_rfl) rfl (fun K hK => ?_)
                go_simp
                refine hK.out _ _ (vac (by kernel_rfl)) ?_
                clear hK K
                (try simp only [zzp, zza, zzb, zzc])
                refine wpAnyT_done (by kernel_rfl) ?_ _
                have A5a := hide (AQa.out.below b1a.out)
                clear hB Z1 KPa AQa b1a
                go_upto_region 20 with fail
                have KPb : Hid (Pxo pb b rb gb (off + k * 10 + 2) on w5a.drew) := K5a.out.but (But.of_below (Below.refl _ _).drew fun _ => False) (fun c => c) (fun c => c)
                have AQb := hide (A5a.out.below (Below.refl _ _).drew)
                refine wp_region_T (fun q => Pxo pb b rb gb (off + k * 10 + 2) on q) 13 (by kernel_rfl) ?_
                generalize w5a.drew = qb at *
                refine Ix.tk 0 ⟨some 88, .fieldAddr 29 (.tmp 3) 0, 0, "law.go:298", #[], none⟩ (.pointer (some ⟨pb, 0, none⟩)) [1,8,9,10,12,13] ?_ KPb.out ?_
                · intro wq hSw; go_simp
                (try simp only [zzp, zza, zzb, zzc])
                refine Ix.tk 1 ⟨some 89, .load 24 (.tmp 88), 24, "law.go:298", #[⟨0,.data⟩], none⟩ (.pointer (some ⟨b, 0, none⟩)) [8,9,10,12,13] ?_ KPb.out ?_
                · intro wq hSw
                  obtain ⟨z0, z1⟩ := two_cells hSw.f
                  have t0 := hSw.n
                  go_simp
                (try simp only [zzp, zza, zzb, zzc])
                refine Ix.tk 2 ⟨some 90, .move (.tmp 0), 22, "law.go:298", #[], none⟩ (.slice (some ⟨gb, off, none⟩) N cap) [4,5,6,8,9,10,12,13] ?_ KPb.out ?_
                · intro wq hSw; go_simp
                (try simp only [zzp, zza, zzb, zzc])
                refine Ix.tk 3 ⟨some 91, .move (.tmp 5), 3, "law.go:298", #[], none⟩ (.int .i64 (k : Int)) [4,5,6,8,9,10,12,13] ?_ KPb.out ?_
                · intro wq hSw; go_simp
                (try simp only [zzp, zza, zzb, zzc])
                refine Ix.tk 4 ⟨some 92, .indexAddr 22 (.tmp 90) (.tmp 91), 0, "law.go:298", #[⟨2,.data⟩,⟨3,.data⟩], none⟩ (.pointer (some ⟨gb, off + k * 10, none⟩)) [5,6,8,9,10,12,13] ?_ KPb.out ?_
                · intro wq hSw
                  obtain ⟨z0, z1⟩ := two_cells hSw.f
                  have t0 := hSw.n
                  go_simp
                (try simp only [zzp, zza, zzb, zzc])
                refine Ix.tk 5 ⟨some 93, .fieldAddr 36 (.tmp 92) 2, 0, "law.go:298", #[⟨4,.data⟩], none⟩ (.pointer (some ⟨gb, off + k * 10 + 2, none⟩)) [6,8,9,10,12,13] ?_ KPb.out ?_
                · intro wq hSw; go_simp
                (try simp only [zzp, zza, zzb, zzc])
                refine Ix.tk 6 ⟨some 94, .load 9 (.tmp 93), 9, "law.go:298", #[⟨5,.data⟩], none⟩ (.string on) [8,9,10,12,13] ?_ KPb.out ?_
                · intro wq hSw
                  obtain ⟨z0, z1⟩ := two_cells hSw.f
                  have t0 := hSw.n
                  go_simp
                (try simp only [zzp, zza, zzb, zzc])
                refine Ix.tk 7 ⟨some 95, .move (.tmp 9), 3, "law.go:298", #[], none⟩ (.int .i64 (S.size on).1) [8,9,10,12,13] ?_ KPb.out ?_
                · intro wq hSw; go_simp
                (try simp only [zzp, zza, zzb, zzc])
                refine wpAnyT_one (i := 8) (o := ⟨some 96, .call { callee := .value (.func 20), args := #[.tmp 89, .tmp 94, .const (Value.int IntKind.i64 0), .tmp 95], argTypes := #[24, 9, 3, 3] }, 48, "law.go:298", #[⟨1, .data⟩, ⟨6, .data⟩, ⟨7, .data⟩], none⟩) (by kernel_rfl) rfl (fun K hK => ?_)
                go_simp
                go_at_call 20
                refine (read_dsk AQb.out.dsk on (by have := hon.out; unfold maxLen; omega) 0 (S.size on).1).mono ?_
                rintro e w5b ⟨v5b, rfl, F1b, b1b⟩
                replace F1b := hide F1b
                replace b1b := hide b1b
                have K5b : Hid (Pxo pb b rb gb (off + k * 10 + 2) on w5b) := KPb.out.but (But.of_below b1b.out fun _ => False) (fun c => c) (fun c => c)
                obtain ⟨ra, rc, rfl, _⟩ := F1b.out.form
                (try go_simp)
                refine hK.out _ _ (fun _ => K5b.out) ?_
                clear hK K
                (try simp only [zzp, zza, zzb, zzc])
                refine Ix.tk 9 ⟨some 87, .move (.tmp 96), 48, "law.go:298", #[⟨8,.data⟩], none⟩ (.tuple #[.slice ra (S.read on 0 (S.size on).1).1.length rc, .int .i64 (S.read on 0 (S.size on).1).2]) [10,12,13] ?_ K5b.out ?_
                · intro wq hSw; go_simp
                (try simp only [zzp, zza, zzb, zzc])
                refine Ix.tk 10 ⟨some 97, .extract (.tmp 87) 0, 30, "law.go:298", #[⟨9,.data⟩], none⟩ (.slice ra (S.read on 0 (S.size on).1).1.length rc) [12,13] ?_ K5b.out ?_
                · intro wq hSw; go_simp
                (try simp only [zzp, zza, zzb, zzc])
                refine Ix.tk 11 ⟨some 98, .extract (.tmp 87) 1, 41, "law.go:298", #[⟨9,.data⟩, { on := 12, ground := Ground.gcOnly Departure.lateStores }], none⟩ (.int .i64 (S.read on 0 (S.size on).1).2) [13] ?_ K5b.out ?_
                · intro wq hSw; go_simp
                (try simp only [zzp, zza, zzb, zzc])
                refine Ix.tk 12 ⟨some 11, .assign (.tmp 97), 30, "law.go:298", #[⟨10,.data⟩,⟨8,.chain⟩,⟨0,.phase⟩,⟨1,.phase⟩,⟨2,.phase⟩,⟨3,.phase⟩,⟨4,.phase⟩,⟨5,.phase⟩,⟨6,.phase⟩,⟨7,.phase⟩,⟨8,.phase⟩,⟨9,.phase⟩,⟨10,.phase⟩, { on := 11, ground := Ground.textOnly Departure.lateStores }], none⟩ (.slice ra (S.read on 0 (S.size on).1).1.length rc) [13] ?_ K5b.out ?_
                · intro wq hSw; go_simp
                (try simp only [zzp, zza, zzb, zzc])
                refine wpAnyT_one (i := 13) (o := ⟨some 12, .assign (.tmp 98), 41, "law.go:298", #[⟨11, .data⟩, ⟨12, .chain⟩, ⟨0, .phase⟩, ⟨1, .phase⟩, ⟨2, .phase⟩, ⟨3, .phase⟩, ⟨4, .phase⟩, ⟨5, .phase⟩, ⟨6, .phase⟩, ⟨7, .phase⟩, ⟨8, .phase⟩, ⟨9, .phase⟩, ⟨10, .phase⟩, ⟨11, .phase⟩, ⟨12, .phase⟩], none⟩) (by kernel_rfl) rfl (fun K hK => ?_)
                go_simp
                refine hK.out _ _ (vac (by kernel_rfl)) ?_
                clear hK K
                (try simp only [zzp, zza, zzb, zzc])
                refine wpAnyT_done (by kernel_rfl) ?_ _
                have A5b := hide (AQb.out.below b1b.out)
                have rl := hide (read_few hA9.out on 0 (S.size on).1)
                obtain ⟨rn, hrn⟩ : ∃ rn, Hid (S.read on 0 (S.size on).1 = rn) := ⟨_, rfl⟩
                rw [hrn.out] at F1b rl ⊢
                have hKe := A5b.out.keep (F1b.out.low AQb.out.bel.size) rl.out (fun k hk => by have := AQb.out.new (F1b.out.lt k hk).1; exact ⟨this.2.1, this.1⟩) 1
                go_upto_region 22 with (first
                  | (go_at_call 25; refine hKe.mono ?_; rintro e w30 ⟨rfl, C3, A30, _, _⟩; replace A30 := hide A30)
                  | fail)
                clear hKe F1b rl A5b AQb b1b K5b KPb hrn
                obtain ⟨rb3, O3, V3, px, _⟩ := id A30.out.pw
                obtain ⟨x0, x1⟩ := two_cells px.box
                have hLi := list_dskE A30.out.dsk (by have := c7.out; omega)
                clear px
                go_upto_region 23 with (first
                  | (go_at_call 26; refine hLi.mono ?_; rintro e w31 ⟨vl, rfl, ol, b31⟩; replace ol := hide ol; replace b31 := hide b31)
                  | fail)
                have O31 := hide (OL.of A30.out ol.out (by simp) b31.out)
                clear hLi x0 x1 ol b31 A30
                obtain ⟨P, hP⟩ : ∃ P, Hid (S.list.1.length = P) := ⟨_, rfl⟩
                rw [hP.out] at O31
                obtain ⟨la, lc, rfl, l1, l2, l3⟩ := O31.out.form
                replace l3 := hide l3
                go_wp2_with fail
                go_loopw [15] (fun v15 wr => ∃ j : Nat, v15 = .int .i64 j ∧ j ≤ P ∧ Hid (OL w pb kb b S R Q C3 9 1 (.slice la P lc) P wr)) (fun v15 _ => P - (intOf v15).toNat)
                case atStart => exact ⟨0, rfl, Nat.zero_le _, O31.out⟩
                case round =>
                  clear O31
                  obtain ⟨j', rfl, hj', hO⟩ := hrel
                  by_cases hjl' : j' < P
                  · have i2 : (j' : Int) < (P : Int) := by omega
                    obtain ⟨g, rfl⟩ := l3.out (by omega)
                    obtain ⟨⟨a0, p0⟩, f0⟩ := hO.out.place (o := j') (by omega)
                    have O9 := hide (hO.out.store j' (.string ⟨#[115, 112, 111, 105, 108, 116]⟩))
                    go_wp2_with fail
                    go_roundw
                    case rel => exact ⟨j' + 1, by go_num, by omega, O9.out⟩
                    case measure => simp [intOf]; omega
                  · have i2 : ¬ ((j' : Int) < (P : Int)) := by omega
                    have A32 := hide hO.out.ai
                    clear hO
                    obtain ⟨rb4, O4, V4, px, _⟩ := id A32.out.pw
                    obtain ⟨x0, x1⟩ := two_cells px.box
                    have hTa := tails_dsk A32.out.dsk (by have := c7.out; omega) 0 (by omega) (by omega)
                    clear px
                    go_upto_region 28 with (first
                      | (go_at_call 27; refine hTa.mono ?_; rintro e w33 ⟨vt, rfl, ol, b33⟩; replace ol := hide ol; replace b33 := hide b33)
                      | fail)
                    have O33 := hide (OL.of A32.out ol.out (tcells_len _) b33.out)
                    clear hTa x0 x1 ol b33 A32
                    obtain ⟨U, hU⟩ : ∃ U, Hid ((S.tails 0).length = U) := ⟨_, rfl⟩
                    rw [hU.out] at O33
                    obtain ⟨ta, tc, rfl, t1, t2, t3⟩ := O33.out.form
                    replace t3 := hide t3
                    go_wp2_with fail
                    go_loopw [17] (fun v17 wr => ∃ j : Nat, v17 = .int .i64 j ∧ j ≤ U ∧ Hid (OL w pb kb b S R Q C3 68 2 (.slice ta U tc) U wr)) (fun v17 _ => U - (intOf v17).toNat)
                    case atStart => exact ⟨0, rfl, Nat.zero_le _, O33.out⟩
                    case round =>
                      clear O33
                      obtain ⟨n', rfl, hn', hO⟩ := hrel
                      by_cases hnl : n' < U
                      · have i3 : (n' : Int) < (U : Int) := by omega
                        obtain ⟨g, rfl⟩ := t3.out (by omega)
                        obtain ⟨⟨a0, p0⟩, f0⟩ := hO.out.place (o := n' * 2) (by omega)
                        obtain ⟨⟨a1, p1⟩, f1⟩ := hO.out.place (o := n' * 2 + 1) (by omega)
                        have p1' : (wr.setCell ⟨g, n' * 2, none⟩ (.string ⟨#[115, 112, 111, 105, 108, 116]⟩)).cell? ⟨g, n' * 2 + 1, none⟩ = some a1 := by rw [cell_next]; exact p1
                        have f1' : (wr.setCell ⟨g, n' * 2, none⟩ (.string ⟨#[115, 112, 111, 105, 108, 116]⟩)).frozen? ⟨g, n' * 2 + 1, none⟩ = false := by simpa using f1
                        have O9 := hide ((hO.out.store (n' * 2) (.string ⟨#[115, 112, 111, 105, 108, 116]⟩)).store (n' * 2 + 1) (.int .i64 0))
                        go_wp2_with fail
                        go_roundw
                        case rel => exact ⟨n' + 1, by go_num, by omega, O9.out⟩
                        case measure => simp [intOf]; omega
                      · have i3 : ¬ ((n' : Int) < (U : Int)) := by omega
                        have A34 := hide hO.out.ai
                        clear hO
                        go_wp2_with fail
                        go_roundw
                        case rel => exact ⟨m + 1, by go_num, by omega, C3, A34.out⟩
                        case measure => simp [intOf]; omega
          · have m1 : ¬ ((m : Int) < 2) := by omega
            replace hA := hide hA
            go_wp2_with fail
            go_roundw
            case rel => exact ⟨k + 1, by go_num, by have := K40.out; omega, by have := K40.out; omega, b, S, R, Q, C, hA.out, c9.out⟩
            case measure => have := K40.out; simp [intOf]; omega
    · replace hA := hide hA
      have hAp := hA.out.apart
      obtain ⟨rb, O, V, px, _⟩ := id hA.out.pw
      have KI : Hid (∀ q, PW q pb b S R Q → ∃ rb, q.cell? ⟨pb, 0, none⟩ = some (.pointer (some ⟨b, 0, none⟩)) ∧ q.cell? ⟨pb, 1, none⟩ = some (.pointer (some ⟨rb, 0, none⟩)) ∧ Calls Tryz.prog 13 #[.pointer (some ⟨b, 0, none⟩), .pointer (some ⟨rb, 0, none⟩)] q fun e w' => e = .returned (.bool true) ∧ Below q.heap.size q w') := fun q hq => by
        obtain ⟨rb, O, V, px, _⟩ := hq
        obtain ⟨x0, x1⟩ := two_cells px.box
        exact ⟨rb, x0, x1, is_any px.d px.r hA.out.rel (by omega)⟩
      clear px
      have hend : ¬ ((k : Int) < (N : Int)) ∨ ((k : Int) < (N : Int) ∧ ¬ ((k : Int) < 40)) := by omega
      clear hgo c7
      rcases hend with j1 | ⟨j1, j2⟩
      · go_wp2_with (first
          | (go_at_call 28; refine hAp.mono ?_; rintro e w2 ⟨rfl, pw2, b2⟩; replace b2 := hide b2; obtain ⟨rb2, x0, x1, hIs⟩ := KI.out _ pw2)
          | (go_at_call 13; refine hIs.mono ?_; rintro e w3 ⟨rfl, b3⟩; replace b3 := hide b3)
          | fail)
        go_ret
        exact ⟨rfl, bs2 b2.out b3.out⟩
      · go_wp2_with (first
          | (go_at_call 28; refine hAp.mono ?_; rintro e w2 ⟨rfl, pw2, b2⟩; replace b2 := hide b2; obtain ⟨rb2, x0, x1, hIs⟩ := KI.out _ pw2)
          | (go_at_call 13; refine hIs.mono ?_; rintro e w3 ⟨rfl, b3⟩; replace b3 := hide b3)
          | fail)
        go_ret
        exact ⟨rfl, bs2 b2.out b3.out⟩
end Go.Proofs.YtjehpijjneghpaaGreat.Re
