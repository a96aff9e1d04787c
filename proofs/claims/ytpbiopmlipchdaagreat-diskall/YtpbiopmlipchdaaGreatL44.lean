/-
  DiskAll: the walk.
-/
import Derived.Test.YtpbiopmlipchdaaGreatL43
namespace Go.Proofs.YtpbiopmlipchdaaGreat.Re
open Go.RowKit Go.Maps Go.Sort Go.Shelf Go.Proofs.YtpbiopmlipchdaaGreat.Nm Go.Proofs.YtpbiopmlipchdaaGreat.Dk
open Ix (wp_region_T wpAnyT wpAnyT_take wpAnyT_one wpAnyT_done vac)
set_option linter.unusedVariables false
structure Opa (gb o : Nat) (d : Dop) (q : World) : Prop where
  at_ : ∀ j u, d.cells[j]? = some u → q.cell? ⟨gb, o + j, none⟩ = some u
structure Opb (gb o : Nat) (d : Dop) (xb b rb : Nat) (q : World) : Prop where
  a : Opa gb o d q
  p : q.heap[xb]? = some (.cells #[.pointer (some ⟨b, 0, none⟩), .pointer (some ⟨rb, 0, none⟩)] 29 (0, 0))
set_option maxRecDepth 100000 in
set_option maxHeartbeats 4000000 in
theorem all_walk (w : World) (one two : Int) (ao : Option Addr) (cap : Nat) (os : List Dop) (o0 : -9223372036854775808 ≤ one) (o1 : one ≤ 9223372036854775807) (t0 : -9223372036854775808 ≤ two) (t1 : two ≤ 9223372036854775807) (hos : os.length ≤ cap) (hcap : cap ≤ maxLen) (hat : AtDops w ao os) (hok : ∀ o ∈ os, DopOk w o) :
    Calls Tryz.prog 3 #[.int .i64 one, .int .i64 two, .slice ao os.length cap] w fun e w' => e = .returned (.bool true) ∧ Below w.heap.size w w' := by
  have hm : cap ≤ 9223372036854775807 := by unfold maxLen at hcap; omega
  replace hat := hide hat
  replace hok := hide hok
  obtain ⟨N, hN⟩ : ∃ N, Hid (os.length = N) := ⟨_, rfl⟩
  rw [hN.out] at hos ⊢
  clear hcap
  have nb1 : Hid (∀ q, ¬ (0 ≤ one ∧ one ≤ 16777216) → Calls Tryz.prog 9 #[.int .i64 one] q fun e w' => e = .returned (.pointer none) ∧ w' = q) := fun q h => new_none q one o0 o1 h
  have nb2 : Hid (∀ q, ¬ (0 ≤ two ∧ two ≤ 16777216) → Calls Tryz.prog 9 #[.int .i64 two] q fun e w' => e = .returned (.pointer none) ∧ w' = q) := fun q h => new_none q two t0 t1 h
  have na1 : Hid (∀ q, (0 ≤ one ∧ one ≤ 16777216) → Calls Tryz.prog 9 #[.int .i64 one] q fun e w' => ∃ b O, e = .returned (.pointer (some ⟨b, 0, none⟩)) ∧ DskE w' b (DS.new one) O ∧ Below q.heap.size q w' ∧ (∀ k, O k → q.heap.size ≤ k)) := fun q h => new_dsk q one h.1 h.2
  have na2 : Hid (∀ q, (0 ≤ two ∧ two ≤ 16777216) → Calls Tryz.prog 9 #[.int .i64 two] q fun e w' => ∃ b O, e = .returned (.pointer (some ⟨b, 0, none⟩)) ∧ DskE w' b (DS.new two) O ∧ Below q.heap.size q w' ∧ (∀ k, O k → q.heap.size ≤ k)) := fun q h => new_dsk q two h.1 h.2
  by_cases h1 : 0 ≤ one ∧ one ≤ 16777216
  · replace h1 := hide h1
    by_cases h2 : 0 ≤ two ∧ two ≤ 16777216
    · replace h2 := hide h2
      clear o0 o1 t0 t1
      go_enter Tryz.func3, Tryz.ntmps3
      go_upto_region 4 with (first
        | (go_at_call 8; refine (begun_any _).mono ?_; rintro e w0 ⟨rfl, B0⟩; replace B0 := hide B0)
        | (go_at_call 9; refine (na1.out _ h1.out).mono ?_; rintro e wa ⟨ba, Oa, rfl, Da, Ba, la⟩; replace la := hide la; replace Da := hide Da; replace Ba := hide Ba)
        | (go_at_call 10; refine (new_ref _ one h1.out.1 h1.out.2).mono ?_; rintro e wb ⟨rfl, Rb, Bb⟩; replace Rb := hide Rb; replace Bb := hide Bb))
      have P1 := hide (pair_new Da.out la.out Ba.out Bb.out Rb.out)
      have BP := hide (bt (bs2 (bs2 B0.out Ba.out) Bb.out) (.cells #[.pointer (some ⟨ba, 0, none⟩), .pointer (some ⟨wa.heap.size, 0, none⟩)] 29))
      have X1 := heap_alloc_new wb (.cells #[.pointer (some ⟨ba, 0, none⟩), .pointer (some ⟨wa.heap.size, 0, none⟩)] 29)
      generalize wb.alloc (.cells #[.pointer (some ⟨ba, 0, none⟩), .pointer (some ⟨wa.heap.size, 0, none⟩)] 29) = wp at *
      generalize hpb : wb.heap.size = pb at *
      go_upto_region 5 with (first
        | (go_at_call 9; refine (na2.out _ h2.out).mono ?_; rintro e wc ⟨bc, Oc, rfl, Dc, Bc, lc⟩; replace lc := hide lc; replace Dc := hide Dc; replace Bc := hide Bc)
        | (go_at_call 10; refine (new_ref _ two h2.out.1 h2.out.2).mono ?_; rintro e wd ⟨rfl, Rd, Bd⟩; replace Rd := hide Rd; replace Bd := hide Bd))
      have P2 := hide (pair_new Dc.out lc.out Bc.out Bd.out Rd.out)
      have BQ := hide (bt (bs2 Bc.out Bd.out) (.cells #[.pointer (some ⟨bc, 0, none⟩), .pointer (some ⟨wc.heap.size, 0, none⟩)] 29))
      have X2 := heap_alloc_new wd (.cells #[.pointer (some ⟨bc, 0, none⟩), .pointer (some ⟨wc.heap.size, 0, none⟩)] 29)
      generalize wd.alloc (.cells #[.pointer (some ⟨bc, 0, none⟩), .pointer (some ⟨wc.heap.size, 0, none⟩)] 29) = ws at *
      generalize hqb : wd.heap.size = qb at *
      have X1' := (BQ.out.block _ (heap_lt X1)).trans X1
      obtain ⟨x1, x2⟩ := two_cells X1'
      obtain ⟨z1, z2⟩ := two_cells X2
      have A0 : Hid (DA w ws pb qb 0) := da_start h1.out h2.out BP.out P1.out.1 (fun k hk => Nat.le_trans B0.out.size (P1.out.2 k hk)) BQ.out P2.out.1 P2.out.2
      clear P1 P2 X1 X1' X2 BP BQ Da Ba la Rb Bb Dc Bc lc Rd Bd hpb hqb
      go_wp2_with fail
      clear x1 x2 z1 z2
      go_loopw [9, 10] (fun z i wr => ∃ k sz : Nat, z = .int .i64 sz ∧ i = .int .i64 k ∧ k ≤ N ∧ k ≤ 200 ∧ sz ≤ 262144 ∧ Hid (DA w wr pb qb k)) (fun _ i _ => N - (intOf i).toNat)
      case atStart => exact ⟨0, 0, rfl, rfl, Nat.zero_le _, Nat.zero_le _, Nat.zero_le _, A0⟩
      case round =>
        obtain ⟨k, sz, rfl, rfl, hk, hk2, hsz, hDA⟩ := hrel
        by_cases hlt : k < N
        · have j1 : (k : Int) < (N : Int) := by omega
          by_cases hlt2 : k < 200
          · have j2 : (k : Int) < 200 := by omega
            have hkl : k < os.length := by rw [hN.out]; exact hlt
            obtain ⟨gb, off, rfl, hcl⟩ := hat.out k hkl
            have hdo := hide (hok.out _ (List.getElem_mem hkl))
            obtain ⟨da, dc, hvd, _, d3, d4, _⟩ := id hdo.out.dat
            obtain ⟨fa, fc, hvf, _⟩ := id hdo.out.fs
            obtain ⟨qa, qc, hvq, _⟩ := id hdo.out.ks
            have d4' : dc ≤ 9223372036854775807 := by unfold maxLen at d4; omega
            have dl := hdo.out.datl
            replace hcl := hide hcl
            generalize os[k] = o at *
            obtain ⟨okk, os_, on, ot, ov, oD, oo, onn, of, ofs, od, ovk, oks⟩ := o
            dsimp only at hvd hvf hvq dl d3
            subst hvd hvf hvq
            have x1 : wr.cell? ⟨gb, off + k * 10 + 1, none⟩ = some (.bool os_) := by have := hcl.out 1 _ rfl; rw [hDA.out.bel.cell (lt_of_cell this)]; exact this
            have x4 : wr.cell? ⟨gb, off + k * 10 + 4, none⟩ = some (.slice da oD.length dc) := by have := hcl.out 4 _ rfl; rw [hDA.out.bel.cell (lt_of_cell this)]; exact this
            have hwr : IntKind.i64.wrap ((sz : Int) + (oD.length : Int)) = (sz : Int) + (oD.length : Int) := by rw [IntKind.wrap_i64]; omega
            clear d4
            by_cases e5 : (sz : Int) + (oD.length : Int) > 262144
            · clear x1
              obtain ⟨b1, rb1, bx1, is1⟩ := da_is hDA.out (by omega)
              obtain ⟨b2, rb2, bx2, is2⟩ := da_is hDA.out.swap (by omega)
              replace is1 := hide is1
              replace is2 := hide is2
              have belE := hide hDA.out.bel
              obtain ⟨x1, x2⟩ := two_cells bx1
              replace bx2 := hide bx2
              clear bx1 hDA
              go_wp2_with (first
                | (go_at_call 13; refine (is2.out u1 C1.out).mono ?_; rintro e u2 ⟨rfl, C2⟩; replace C2 := hide C2)
                | (go_at_call 13; refine (is1.out wr (Below.refl _ _)).mono ?_; rintro e u1 ⟨rfl, C1⟩; obtain ⟨z1, z2⟩ := two_cells ((C1.block _ (heap_lt bx2.out)).trans bx2.out); replace C1 := hide C1))
              go_ret
              exact ⟨rfl, bs2 (bs2 belE.out C1.out) C2.out⟩
            · cases os_
              · go_upto_region 18 with fail
                have hD0 := hide (hDA.out)
                have D1 : Hid (DA w wr.drew pb qb k) := hD0.out.below (Below.refl _ _).drew
                have hOp : Hid (∀ q, Below w.heap.size w q → Opa gb (off + k * 10) ⟨okk, false, on, ot, .slice da oD.length dc, oD, oo, onn, .slice fa ofs.length fc, ofs, od, .slice qa oks.length qc, oks⟩ q) := fun q hq => ⟨fun j u hu => by have := hcl.out j u hu; rw [hq.cell (lt_of_cell this)]; exact this⟩
                have K1 := hide (hOp.out _ D1.out.bel)
                clear x1 x4
                refine wp_region_T (fun q => Opa gb (off + k * 10) ⟨okk, false, on, ot, .slice da oD.length dc, oD, oo, onn, .slice fa ofs.length fc, ofs, od, .slice qa oks.length qc, oks⟩ q) 23 (by kernel_rfl) ?_
                generalize wr.drew = q1 at *
                refine Ix.tk 0 ⟨some 73, .move (.tmp 11), 37, "law.go:201", #[], none⟩ (.pointer (some ⟨pb, 0, none⟩)) [5,6,7,11,12,23] ?_ K1.out ?_
                · intro wq hSw; go_simp
                (try simp only [Act.put, List.setIfInBounds_toArray, List.set_cons_zero, List.set_cons_succ])
                refine Ix.tk 1 ⟨some 74, .move (.tmp 2), 22, "law.go:201", #[], none⟩ (.slice (some ⟨gb, off, none⟩) N cap) [3,4,5,6,7,11,12,23] ?_ K1.out ?_
                · intro wq hSw; go_simp
                (try simp only [Act.put, List.setIfInBounds_toArray, List.set_cons_zero, List.set_cons_succ])
                refine Ix.tk 2 ⟨some 75, .move (.tmp 10), 3, "law.go:201", #[], none⟩ (.int .i64 (k : Int)) [3,4,5,6,7,11,12,23] ?_ K1.out ?_
                · intro wq hSw; go_simp
                (try simp only [Act.put, List.setIfInBounds_toArray, List.set_cons_zero, List.set_cons_succ])
                refine Ix.tk 3 ⟨some 76, .indexAddr 22 (.tmp 74) (.tmp 75), 0, "law.go:201", #[⟨1,.data⟩,⟨2,.data⟩], none⟩ (.pointer (some ⟨gb, off + k * 10, none⟩)) [4,5,6,7,11,12,23] ?_ K1.out ?_
                · intro wq hSw; go_simp
                (try simp only [Act.put, List.setIfInBounds_toArray, List.set_cons_zero, List.set_cons_succ])
                refine Ix.tk 4 ⟨some 77, .load 36 (.tmp 76), 36, "law.go:201", #[⟨3,.data⟩], none⟩ (.agg #[.int .i64 okk, .bool false, .string on, .string ot, .slice da oD.length dc, .int .i64 oo, .int .i64 onn, .slice fa ofs.length fc, .int .i64 od, .slice qa oks.length qc]) [5,6,7,11,12,23] ?_ K1.out ?_
                · intro wq hSw
                  have y0 : wq.cell? ⟨gb, off + k * 10, none⟩ = some (.int .i64 okk) := hSw.at_ 0 _ rfl
                  have y1 : wq.cell? ⟨gb, off + k * 10 + 1, none⟩ = some (.bool false) := hSw.at_ 1 _ rfl
                  have y2 : wq.cell? ⟨gb, off + k * 10 + 2, none⟩ = some (.string on) := hSw.at_ 2 _ rfl
                  have y3 : wq.cell? ⟨gb, off + k * 10 + 3, none⟩ = some (.string ot) := hSw.at_ 3 _ rfl
                  have y4 : wq.cell? ⟨gb, off + k * 10 + 4, none⟩ = some (.slice da oD.length dc) := hSw.at_ 4 _ rfl
                  have y5 : wq.cell? ⟨gb, off + k * 10 + 5, none⟩ = some (.int .i64 oo) := hSw.at_ 5 _ rfl
                  have y6 : wq.cell? ⟨gb, off + k * 10 + 6, none⟩ = some (.int .i64 onn) := hSw.at_ 6 _ rfl
                  have y7 : wq.cell? ⟨gb, off + k * 10 + 7, none⟩ = some (.slice fa ofs.length fc) := hSw.at_ 7 _ rfl
                  have y8 : wq.cell? ⟨gb, off + k * 10 + 8, none⟩ = some (.int .i64 od) := hSw.at_ 8 _ rfl
                  have y9 : wq.cell? ⟨gb, off + k * 10 + 9, none⟩ = some (.slice qa oks.length qc) := hSw.at_ 9 _ rfl
                  go_simp
                (try simp only [Act.put, List.setIfInBounds_toArray, List.set_cons_zero, List.set_cons_succ])
                have hP := da_plays D1.out (by omega) ⟨okk, false, on, ot, .slice da oD.length dc, oD, oo, onn, .slice fa ofs.length fc, ofs, od, .slice qa oks.length qc, oks⟩ hdo.out
                unfold opV at hP
                dsimp only at hP
                refine wpAnyT_one (i := 5) (o := ⟨some 78, .call { callee := .value (.func 11), args := #[.tmp 73, .tmp 77], argTypes := #[37, 36] }, 4, "law.go:201", #[⟨0, .data⟩, ⟨4, .data⟩], none⟩) (by kernel_rfl) rfl (fun K hK => ?_)
                go_simp
                go_at_call 11
                refine hP.mono ?_
                rintro e w5 ⟨rfl, D5⟩
                replace D5 := hide D5
                have K5 := hide (hOp.out _ D5.out.bel)
                (try go_simp)
                refine hK.out _ _ (fun _ => K5.out) ?_
                clear hK K hP
                (try simp only [Act.put, List.setIfInBounds_toArray, List.set_cons_zero, List.set_cons_succ])
                refine Ix.tk 6 ⟨some 79, .unOp .not 4 (.tmp 78), 4, "law.go:201", #[⟨5,.data⟩], none⟩ (.bool false) [7,11,12,23] ?_ K5.out ?_
                · intro wq hSw; go_simp
                (try simp only [Act.put, List.setIfInBounds_toArray, List.set_cons_zero, List.set_cons_succ])
                refine Ix.tk 7 ⟨some 80, .move (.tmp 79), 4, "law.go:201", #[⟨6,.data⟩,⟨5,.chain⟩], none⟩ (.bool false) [11,12,23] ?_ K5.out ?_
                · intro wq hSw; go_simp
                (try simp only [Act.put, List.setIfInBounds_toArray, List.set_cons_zero, List.set_cons_succ])
                refine Ix.tk 8 ⟨some 81, .move (.tmp 11), 37, "law.go:201", #[⟨7,.guard⟩], some (7, false)⟩ (.pointer (some ⟨pb, 0, none⟩)) [9,10,11,12,23] ?_ K5.out ?_
                · intro wq hSw; go_simp
                (try simp only [Act.put, List.setIfInBounds_toArray, List.set_cons_zero, List.set_cons_succ])
                have hL := da_list D5.out (by omega)
                refine wpAnyT_one (i := 9) (o := ⟨some 82, .call { callee := .value (.func 12), args := #[.tmp 81], argTypes := #[37] }, 4, "law.go:201", #[⟨8, .data⟩, ⟨7, .chain⟩, ⟨7, .guard⟩], some (7, false)⟩) (by kernel_rfl) rfl (fun K hK => ?_)
                go_simp
                go_at_call 12
                refine hL.mono ?_
                rintro e w6 ⟨rfl, B6⟩
                have D6 := hide (D5.out.below B6)
                have K6 := hide (hOp.out _ D6.out.bel)
                clear B6
                (try go_simp)
                refine hK.out _ _ (fun _ => K6.out) ?_
                clear hK K hL
                (try simp only [Act.put, List.setIfInBounds_toArray, List.set_cons_zero, List.set_cons_succ])
                refine Ix.tk 10 ⟨some 83, .unOp .not 4 (.tmp 82), 4, "law.go:201", #[⟨9,.data⟩,⟨7,.guard⟩], some (7, false)⟩ (.bool false) [11,12,23] ?_ K6.out ?_
                · intro wq hSw; go_simp
                (try simp only [Act.put, List.setIfInBounds_toArray, List.set_cons_zero, List.set_cons_succ])
                refine Ix.tk 11 ⟨some 84, .pick (.tmp 80) (.const (Value.bool true)) (.tmp 83), 4, "law.go:201", #[⟨7,.data⟩,⟨10,.data⟩], none⟩ (.bool false) [12,23] ?_ K6.out ?_
                · intro wq hSw; go_simp
                (try simp only [Act.put, List.setIfInBounds_toArray, List.set_cons_zero, List.set_cons_succ])
                refine Ix.tk 12 ⟨some 85, .move (.tmp 84), 4, "law.go:201", #[⟨11,.data⟩,⟨9,.chain⟩], none⟩ (.bool false) [23] ?_ K6.out ?_
                · intro wq hSw; go_simp
                (try simp only [Act.put, List.setIfInBounds_toArray, List.set_cons_zero, List.set_cons_succ])
                obtain ⟨b6, rb6, bx6, is6⟩ := da_is D6.out (by omega)
                replace is6 := hide is6
                replace bx6 := hide bx6
                refine wpAnyT_low (S' := fun q => Opb gb (off + k * 10) ⟨okk, false, on, ot, .slice da oD.length dc, oD, oo, onn, .slice fa ofs.length fc, ofs, od, .slice qa oks.length qc, oks⟩ pb b6 rb6 q) (fun _ h => h.a) _ _ _ _ ?_
                have K7 : Hid (Opb gb (off + k * 10) ⟨okk, false, on, ot, .slice da oD.length dc, oD, oo, onn, .slice fa ofs.length fc, ofs, od, .slice qa oks.length qc, oks⟩ pb b6 rb6 w6) := ⟨K6.out, bx6.out⟩
                refine Ix.tk 13 ⟨some 86, .move (.tmp 11), 37, "law.go:201", #[⟨12,.guard⟩], some (12, false)⟩ (.pointer (some ⟨pb, 0, none⟩)) [14,15,16,21,22,23] ?_ K7.out ?_
                · intro wq hSw; go_simp
                (try simp only [Act.put, List.setIfInBounds_toArray, List.set_cons_zero, List.set_cons_succ])
                refine Ix.tk 14 ⟨some 87, .nilCheck (.tmp 86), 0, "law.go:201", #[⟨13,.data⟩,⟨12,.guard⟩], some (12, false)⟩ (.pointer (some ⟨pb, 0, none⟩)) [15,16,21,22,23] ?_ K7.out ?_
                · intro wq hSw; go_simp
                (try simp only [Act.put, List.setIfInBounds_toArray, List.set_cons_zero, List.set_cons_succ])
                refine Ix.tk 15 ⟨some 88, .fieldAddr 29 (.tmp 87) 0, 0, "law.go:201", #[⟨14,.data⟩,⟨12,.guard⟩], some (12, false)⟩ (.pointer (some ⟨pb, 0, none⟩)) [16,21,22,23] ?_ K7.out ?_
                · intro wq hSw; go_simp
                (try simp only [Act.put, List.setIfInBounds_toArray, List.set_cons_zero, List.set_cons_succ])
                refine Ix.tk 16 ⟨some 89, .load 24 (.tmp 88), 24, "law.go:201", #[⟨15,.data⟩,⟨12,.guard⟩], some (12, false)⟩ (.pointer (some ⟨b6, 0, none⟩)) [21,22,23] ?_ K7.out ?_
                · intro wq hSw
                  obtain ⟨z1, z2⟩ := two_cells hSw.p
                  go_simp
                (try simp only [Act.put, List.setIfInBounds_toArray, List.set_cons_zero, List.set_cons_succ])
                refine Ix.tk 17 ⟨some 90, .move (.tmp 11), 37, "law.go:201", #[⟨12,.guard⟩], some (12, false)⟩ (.pointer (some ⟨pb, 0, none⟩)) [18,19,20,21,22,23] ?_ K7.out ?_
                · intro wq hSw; go_simp
                (try simp only [Act.put, List.setIfInBounds_toArray, List.set_cons_zero, List.set_cons_succ])
                refine Ix.tk 18 ⟨some 91, .nilCheck (.tmp 90), 0, "law.go:201", #[⟨17,.data⟩,⟨12,.guard⟩], some (12, false)⟩ (.pointer (some ⟨pb, 0, none⟩)) [19,20,21,22,23] ?_ K7.out ?_
                · intro wq hSw; go_simp
                (try simp only [Act.put, List.setIfInBounds_toArray, List.set_cons_zero, List.set_cons_succ])
                refine Ix.tk 19 ⟨some 92, .fieldAddr 29 (.tmp 91) 1, 0, "law.go:201", #[⟨18,.data⟩,⟨12,.guard⟩], some (12, false)⟩ (.pointer (some ⟨pb, 1, none⟩)) [20,21,22,23] ?_ K7.out ?_
                · intro wq hSw; go_simp
                (try simp only [Act.put, List.setIfInBounds_toArray, List.set_cons_zero, List.set_cons_succ])
                refine Ix.tk 20 ⟨some 93, .load 26 (.tmp 92), 26, "law.go:201", #[⟨19,.data⟩,⟨12,.guard⟩], some (12, false)⟩ (.pointer (some ⟨rb6, 0, none⟩)) [21,22,23] ?_ K7.out ?_
                · intro wq hSw
                  obtain ⟨z1, z2⟩ := two_cells hSw.p
                  go_simp
                (try simp only [Act.put, List.setIfInBounds_toArray, List.set_cons_zero, List.set_cons_succ])
                refine wpAnyT_one (i := 21) (o := ⟨some 94, .call { callee := .value (.func 13), args := #[.tmp 89, .tmp 93], argTypes := #[24, 26] }, 4, "law.go:201", #[⟨16, .data⟩, ⟨20, .data⟩, ⟨12, .chain⟩, ⟨12, .guard⟩], some (12, false)⟩) (by kernel_rfl) rfl (fun K hK => ?_)
                go_simp
                go_at_call 13
                refine (is6.out _ (Below.refl _ _)).mono ?_
                rintro e w7 ⟨rfl, B7⟩
                have D7 := hide (D6.out.below B7)
                have K8 : Hid (Opb gb (off + k * 10) ⟨okk, false, on, ot, .slice da oD.length dc, oD, oo, onn, .slice fa ofs.length fc, ofs, od, .slice qa oks.length qc, oks⟩ pb b6 rb6 w7) := ⟨hOp.out _ D7.out.bel, (B7.block _ (heap_lt bx6.out)).trans bx6.out⟩
                clear B7
                (try go_simp)
                refine hK.out _ _ (fun _ => K8.out) ?_
                clear hK K
                (try simp only [Act.put, List.setIfInBounds_toArray, List.set_cons_zero, List.set_cons_succ])
                refine Ix.tk 22 ⟨some 95, .unOp .not 4 (.tmp 94), 4, "law.go:201", #[⟨21,.data⟩,⟨12,.guard⟩], some (12, false)⟩ (.bool false) [23] ?_ K8.out ?_
                · intro wq hSw; go_simp
                (try simp only [Act.put, List.setIfInBounds_toArray, List.set_cons_zero, List.set_cons_succ])
                refine wpAnyT_one (i := 23) (o := ⟨some 96, .pick (.tmp 85) (.const (Value.bool true)) (.tmp 95), 4, "law.go:201", #[⟨12, .data⟩, ⟨22, .data⟩], none⟩) (by kernel_rfl) rfl (fun K hK => ?_)
                go_simp
                refine hK.out _ _ (vac (by kernel_rfl)) ?_
                clear hK K
                (try simp only [Act.put, List.setIfInBounds_toArray, List.set_cons_zero, List.set_cons_succ])
                refine wpAnyT_done (by kernel_rfl) ?_ _
                go_wp2_with fail
                go_roundw
                case rel => exact ⟨k + 1, sz + oD.length, by go_num, by go_num, by omega, by omega, by omega, D7⟩
                case measure => simp [intOf]; omega
              · go_upto_region 18 with fail
                have hD0 := hide (hDA.out.swap)
                have D1 : Hid (DA w wr.drew qb pb k) := hD0.out.below (Below.refl _ _).drew
                have hOp : Hid (∀ q, Below w.heap.size w q → Opa gb (off + k * 10) ⟨okk, true, on, ot, .slice da oD.length dc, oD, oo, onn, .slice fa ofs.length fc, ofs, od, .slice qa oks.length qc, oks⟩ q) := fun q hq => ⟨fun j u hu => by have := hcl.out j u hu; rw [hq.cell (lt_of_cell this)]; exact this⟩
                have K1 := hide (hOp.out _ D1.out.bel)
                clear x1 x4
                refine wp_region_T (fun q => Opa gb (off + k * 10) ⟨okk, true, on, ot, .slice da oD.length dc, oD, oo, onn, .slice fa ofs.length fc, ofs, od, .slice qa oks.length qc, oks⟩ q) 23 (by kernel_rfl) ?_
                generalize wr.drew = q1 at *
                refine Ix.tk 0 ⟨some 73, .move (.tmp 11), 37, "law.go:201", #[], none⟩ (.pointer (some ⟨qb, 0, none⟩)) [5,6,7,11,12,23] ?_ K1.out ?_
                · intro wq hSw; go_simp
                (try simp only [Act.put, List.setIfInBounds_toArray, List.set_cons_zero, List.set_cons_succ])
                refine Ix.tk 1 ⟨some 74, .move (.tmp 2), 22, "law.go:201", #[], none⟩ (.slice (some ⟨gb, off, none⟩) N cap) [3,4,5,6,7,11,12,23] ?_ K1.out ?_
                · intro wq hSw; go_simp
                (try simp only [Act.put, List.setIfInBounds_toArray, List.set_cons_zero, List.set_cons_succ])
                refine Ix.tk 2 ⟨some 75, .move (.tmp 10), 3, "law.go:201", #[], none⟩ (.int .i64 (k : Int)) [3,4,5,6,7,11,12,23] ?_ K1.out ?_
                · intro wq hSw; go_simp
                (try simp only [Act.put, List.setIfInBounds_toArray, List.set_cons_zero, List.set_cons_succ])
                refine Ix.tk 3 ⟨some 76, .indexAddr 22 (.tmp 74) (.tmp 75), 0, "law.go:201", #[⟨1,.data⟩,⟨2,.data⟩], none⟩ (.pointer (some ⟨gb, off + k * 10, none⟩)) [4,5,6,7,11,12,23] ?_ K1.out ?_
                · intro wq hSw; go_simp
                (try simp only [Act.put, List.setIfInBounds_toArray, List.set_cons_zero, List.set_cons_succ])
                refine Ix.tk 4 ⟨some 77, .load 36 (.tmp 76), 36, "law.go:201", #[⟨3,.data⟩], none⟩ (.agg #[.int .i64 okk, .bool true, .string on, .string ot, .slice da oD.length dc, .int .i64 oo, .int .i64 onn, .slice fa ofs.length fc, .int .i64 od, .slice qa oks.length qc]) [5,6,7,11,12,23] ?_ K1.out ?_
                · intro wq hSw
                  have y0 : wq.cell? ⟨gb, off + k * 10, none⟩ = some (.int .i64 okk) := hSw.at_ 0 _ rfl
                  have y1 : wq.cell? ⟨gb, off + k * 10 + 1, none⟩ = some (.bool true) := hSw.at_ 1 _ rfl
                  have y2 : wq.cell? ⟨gb, off + k * 10 + 2, none⟩ = some (.string on) := hSw.at_ 2 _ rfl
                  have y3 : wq.cell? ⟨gb, off + k * 10 + 3, none⟩ = some (.string ot) := hSw.at_ 3 _ rfl
                  have y4 : wq.cell? ⟨gb, off + k * 10 + 4, none⟩ = some (.slice da oD.length dc) := hSw.at_ 4 _ rfl
                  have y5 : wq.cell? ⟨gb, off + k * 10 + 5, none⟩ = some (.int .i64 oo) := hSw.at_ 5 _ rfl
                  have y6 : wq.cell? ⟨gb, off + k * 10 + 6, none⟩ = some (.int .i64 onn) := hSw.at_ 6 _ rfl
                  have y7 : wq.cell? ⟨gb, off + k * 10 + 7, none⟩ = some (.slice fa ofs.length fc) := hSw.at_ 7 _ rfl
                  have y8 : wq.cell? ⟨gb, off + k * 10 + 8, none⟩ = some (.int .i64 od) := hSw.at_ 8 _ rfl
                  have y9 : wq.cell? ⟨gb, off + k * 10 + 9, none⟩ = some (.slice qa oks.length qc) := hSw.at_ 9 _ rfl
                  go_simp
                (try simp only [Act.put, List.setIfInBounds_toArray, List.set_cons_zero, List.set_cons_succ])
                have hP := da_plays D1.out (by omega) ⟨okk, true, on, ot, .slice da oD.length dc, oD, oo, onn, .slice fa ofs.length fc, ofs, od, .slice qa oks.length qc, oks⟩ hdo.out
                unfold opV at hP
                dsimp only at hP
                refine wpAnyT_one (i := 5) (o := ⟨some 78, .call { callee := .value (.func 11), args := #[.tmp 73, .tmp 77], argTypes := #[37, 36] }, 4, "law.go:201", #[⟨0, .data⟩, ⟨4, .data⟩], none⟩) (by kernel_rfl) rfl (fun K hK => ?_)
                go_simp
                go_at_call 11
                refine hP.mono ?_
                rintro e w5 ⟨rfl, D5⟩
                replace D5 := hide D5
                have K5 := hide (hOp.out _ D5.out.bel)
                (try go_simp)
                refine hK.out _ _ (fun _ => K5.out) ?_
                clear hK K hP
                (try simp only [Act.put, List.setIfInBounds_toArray, List.set_cons_zero, List.set_cons_succ])
                refine Ix.tk 6 ⟨some 79, .unOp .not 4 (.tmp 78), 4, "law.go:201", #[⟨5,.data⟩], none⟩ (.bool false) [7,11,12,23] ?_ K5.out ?_
                · intro wq hSw; go_simp
                (try simp only [Act.put, List.setIfInBounds_toArray, List.set_cons_zero, List.set_cons_succ])
                refine Ix.tk 7 ⟨some 80, .move (.tmp 79), 4, "law.go:201", #[⟨6,.data⟩,⟨5,.chain⟩], none⟩ (.bool false) [11,12,23] ?_ K5.out ?_
                · intro wq hSw; go_simp
                (try simp only [Act.put, List.setIfInBounds_toArray, List.set_cons_zero, List.set_cons_succ])
                refine Ix.tk 8 ⟨some 81, .move (.tmp 11), 37, "law.go:201", #[⟨7,.guard⟩], some (7, false)⟩ (.pointer (some ⟨qb, 0, none⟩)) [9,10,11,12,23] ?_ K5.out ?_
                · intro wq hSw; go_simp
                (try simp only [Act.put, List.setIfInBounds_toArray, List.set_cons_zero, List.set_cons_succ])
                have hL := da_list D5.out (by omega)
                refine wpAnyT_one (i := 9) (o := ⟨some 82, .call { callee := .value (.func 12), args := #[.tmp 81], argTypes := #[37] }, 4, "law.go:201", #[⟨8, .data⟩, ⟨7, .chain⟩, ⟨7, .guard⟩], some (7, false)⟩) (by kernel_rfl) rfl (fun K hK => ?_)
                go_simp
                go_at_call 12
                refine hL.mono ?_
                rintro e w6 ⟨rfl, B6⟩
                have D6 := hide (D5.out.below B6)
                have K6 := hide (hOp.out _ D6.out.bel)
                clear B6
                (try go_simp)
                refine hK.out _ _ (fun _ => K6.out) ?_
                clear hK K hL
                (try simp only [Act.put, List.setIfInBounds_toArray, List.set_cons_zero, List.set_cons_succ])
                refine Ix.tk 10 ⟨some 83, .unOp .not 4 (.tmp 82), 4, "law.go:201", #[⟨9,.data⟩,⟨7,.guard⟩], some (7, false)⟩ (.bool false) [11,12,23] ?_ K6.out ?_
                · intro wq hSw; go_simp
                (try simp only [Act.put, List.setIfInBounds_toArray, List.set_cons_zero, List.set_cons_succ])
                refine Ix.tk 11 ⟨some 84, .pick (.tmp 80) (.const (Value.bool true)) (.tmp 83), 4, "law.go:201", #[⟨7,.data⟩,⟨10,.data⟩], none⟩ (.bool false) [12,23] ?_ K6.out ?_
                · intro wq hSw; go_simp
                (try simp only [Act.put, List.setIfInBounds_toArray, List.set_cons_zero, List.set_cons_succ])
                refine Ix.tk 12 ⟨some 85, .move (.tmp 84), 4, "law.go:201", #[⟨11,.data⟩,⟨9,.chain⟩], none⟩ (.bool false) [23] ?_ K6.out ?_
                · intro wq hSw; go_simp
                (try simp only [Act.put, List.setIfInBounds_toArray, List.set_cons_zero, List.set_cons_succ])
                obtain ⟨b6, rb6, bx6, is6⟩ := da_is D6.out (by omega)
                replace is6 := hide is6
                replace bx6 := hide bx6
                refine wpAnyT_low (S' := fun q => Opb gb (off + k * 10) ⟨okk, true, on, ot, .slice da oD.length dc, oD, oo, onn, .slice fa ofs.length fc, ofs, od, .slice qa oks.length qc, oks⟩ qb b6 rb6 q) (fun _ h => h.a) _ _ _ _ ?_
                have K7 : Hid (Opb gb (off + k * 10) ⟨okk, true, on, ot, .slice da oD.length dc, oD, oo, onn, .slice fa ofs.length fc, ofs, od, .slice qa oks.length qc, oks⟩ qb b6 rb6 w6) := ⟨K6.out, bx6.out⟩
                refine Ix.tk 13 ⟨some 86, .move (.tmp 11), 37, "law.go:201", #[⟨12,.guard⟩], some (12, false)⟩ (.pointer (some ⟨qb, 0, none⟩)) [14,15,16,21,22,23] ?_ K7.out ?_
                · intro wq hSw; go_simp
                (try simp only [Act.put, List.setIfInBounds_toArray, List.set_cons_zero, List.set_cons_succ])
                refine Ix.tk 14 ⟨some 87, .nilCheck (.tmp 86), 0, "law.go:201", #[⟨13,.data⟩,⟨12,.guard⟩], some (12, false)⟩ (.pointer (some ⟨qb, 0, none⟩)) [15,16,21,22,23] ?_ K7.out ?_
                · intro wq hSw; go_simp
                (try simp only [Act.put, List.setIfInBounds_toArray, List.set_cons_zero, List.set_cons_succ])
                refine Ix.tk 15 ⟨some 88, .fieldAddr 29 (.tmp 87) 0, 0, "law.go:201", #[⟨14,.data⟩,⟨12,.guard⟩], some (12, false)⟩ (.pointer (some ⟨qb, 0, none⟩)) [16,21,22,23] ?_ K7.out ?_
                · intro wq hSw; go_simp
                (try simp only [Act.put, List.setIfInBounds_toArray, List.set_cons_zero, List.set_cons_succ])
                refine Ix.tk 16 ⟨some 89, .load 24 (.tmp 88), 24, "law.go:201", #[⟨15,.data⟩,⟨12,.guard⟩], some (12, false)⟩ (.pointer (some ⟨b6, 0, none⟩)) [21,22,23] ?_ K7.out ?_
                · intro wq hSw
                  obtain ⟨z1, z2⟩ := two_cells hSw.p
                  go_simp
                (try simp only [Act.put, List.setIfInBounds_toArray, List.set_cons_zero, List.set_cons_succ])
                refine Ix.tk 17 ⟨some 90, .move (.tmp 11), 37, "law.go:201", #[⟨12,.guard⟩], some (12, false)⟩ (.pointer (some ⟨qb, 0, none⟩)) [18,19,20,21,22,23] ?_ K7.out ?_
                · intro wq hSw; go_simp
                (try simp only [Act.put, List.setIfInBounds_toArray, List.set_cons_zero, List.set_cons_succ])
                refine Ix.tk 18 ⟨some 91, .nilCheck (.tmp 90), 0, "law.go:201", #[⟨17,.data⟩,⟨12,.guard⟩], some (12, false)⟩ (.pointer (some ⟨qb, 0, none⟩)) [19,20,21,22,23] ?_ K7.out ?_
                · intro wq hSw; go_simp
                (try simp only [Act.put, List.setIfInBounds_toArray, List.set_cons_zero, List.set_cons_succ])
                refine Ix.tk 19 ⟨some 92, .fieldAddr 29 (.tmp 91) 1, 0, "law.go:201", #[⟨18,.data⟩,⟨12,.guard⟩], some (12, false)⟩ (.pointer (some ⟨qb, 1, none⟩)) [20,21,22,23] ?_ K7.out ?_
                · intro wq hSw; go_simp
                (try simp only [Act.put, List.setIfInBounds_toArray, List.set_cons_zero, List.set_cons_succ])
                refine Ix.tk 20 ⟨some 93, .load 26 (.tmp 92), 26, "law.go:201", #[⟨19,.data⟩,⟨12,.guard⟩], some (12, false)⟩ (.pointer (some ⟨rb6, 0, none⟩)) [21,22,23] ?_ K7.out ?_
                · intro wq hSw
                  obtain ⟨z1, z2⟩ := two_cells hSw.p
                  go_simp
                (try simp only [Act.put, List.setIfInBounds_toArray, List.set_cons_zero, List.set_cons_succ])
                refine wpAnyT_one (i := 21) (o := ⟨some 94, .call { callee := .value (.func 13), args := #[.tmp 89, .tmp 93], argTypes := #[24, 26] }, 4, "law.go:201", #[⟨16, .data⟩, ⟨20, .data⟩, ⟨12, .chain⟩, ⟨12, .guard⟩], some (12, false)⟩) (by kernel_rfl) rfl (fun K hK => ?_)
                go_simp
                go_at_call 13
                refine (is6.out _ (Below.refl _ _)).mono ?_
                rintro e w7 ⟨rfl, B7⟩
                have D7 := hide (D6.out.below B7)
                have K8 : Hid (Opb gb (off + k * 10) ⟨okk, true, on, ot, .slice da oD.length dc, oD, oo, onn, .slice fa ofs.length fc, ofs, od, .slice qa oks.length qc, oks⟩ qb b6 rb6 w7) := ⟨hOp.out _ D7.out.bel, (B7.block _ (heap_lt bx6.out)).trans bx6.out⟩
                clear B7
                (try go_simp)
                refine hK.out _ _ (fun _ => K8.out) ?_
                clear hK K
                (try simp only [Act.put, List.setIfInBounds_toArray, List.set_cons_zero, List.set_cons_succ])
                refine Ix.tk 22 ⟨some 95, .unOp .not 4 (.tmp 94), 4, "law.go:201", #[⟨21,.data⟩,⟨12,.guard⟩], some (12, false)⟩ (.bool false) [23] ?_ K8.out ?_
                · intro wq hSw; go_simp
                (try simp only [Act.put, List.setIfInBounds_toArray, List.set_cons_zero, List.set_cons_succ])
                refine wpAnyT_one (i := 23) (o := ⟨some 96, .pick (.tmp 85) (.const (Value.bool true)) (.tmp 95), 4, "law.go:201", #[⟨12, .data⟩, ⟨22, .data⟩], none⟩) (by kernel_rfl) rfl (fun K hK => ?_)
                go_simp
                refine hK.out _ _ (vac (by kernel_rfl)) ?_
                clear hK K
                (try simp only [Act.put, List.setIfInBounds_toArray, List.set_cons_zero, List.set_cons_succ])
                refine wpAnyT_done (by kernel_rfl) ?_ _
                go_wp2_with fail
                go_roundw
                case rel => exact ⟨k + 1, sz + oD.length, by go_num, by go_num, by omega, by omega, by omega, (hide D7.out.swap)⟩
                case measure => simp [intOf]; omega
          · have j2 : ¬ ((k : Int) < 200) := by omega
            obtain ⟨b1, rb1, bx1, is1⟩ := da_is hDA.out (by omega)
            obtain ⟨b2, rb2, bx2, is2⟩ := da_is hDA.out.swap (by omega)
            replace is1 := hide is1
            replace is2 := hide is2
            have belE := hide hDA.out.bel
            obtain ⟨x1, x2⟩ := two_cells bx1
            replace bx2 := hide bx2
            clear bx1 hDA
            go_wp2_with (first
              | (go_at_call 13; refine (is2.out u1 C1.out).mono ?_; rintro e u2 ⟨rfl, C2⟩; replace C2 := hide C2)
              | (go_at_call 13; refine (is1.out wr (Below.refl _ _)).mono ?_; rintro e u1 ⟨rfl, C1⟩; obtain ⟨z1, z2⟩ := two_cells ((C1.block _ (heap_lt bx2.out)).trans bx2.out); replace C1 := hide C1))
            go_ret
            exact ⟨rfl, bs2 (bs2 belE.out C1.out) C2.out⟩
        · have j1 : ¬ ((k : Int) < (N : Int)) := by omega
          obtain ⟨b1, rb1, bx1, is1⟩ := da_is hDA.out (by omega)
          obtain ⟨b2, rb2, bx2, is2⟩ := da_is hDA.out.swap (by omega)
          replace is1 := hide is1
          replace is2 := hide is2
          have belE := hide hDA.out.bel
          obtain ⟨x1, x2⟩ := two_cells bx1
          replace bx2 := hide bx2
          clear bx1 hDA
          go_wp2_with (first
            | (go_at_call 13; refine (is2.out u1 C1.out).mono ?_; rintro e u2 ⟨rfl, C2⟩; replace C2 := hide C2)
            | (go_at_call 13; refine (is1.out wr (Below.refl _ _)).mono ?_; rintro e u1 ⟨rfl, C1⟩; obtain ⟨z1, z2⟩ := two_cells ((C1.block _ (heap_lt bx2.out)).trans bx2.out); replace C1 := hide C1))
          go_ret
          exact ⟨rfl, bs2 (bs2 belE.out C1.out) C2.out⟩
    · replace h2 := hide h2
      go_enter Tryz.func3, Tryz.ntmps3
      go_wp2_with (first
        | (go_at_call 10; have _h := M3; refine (new_ref_no _ two h2.out).mono ?_; rintro e wd ⟨rfl, ed⟩; subst wd)
        | (go_at_call 9; have _h := M2; refine (nb2.out _ h2.out).mono ?_; rintro e wc ⟨rfl, ec⟩; subst wc; have M3 : True := trivial)
        | (go_at_call 10; have _h := M1; refine (new_ref _ one h1.out.1 h1.out.2).mono ?_; rintro e wb ⟨rfl, Rb, Bb⟩; clear Rb; replace Bb := hide Bb; have M2 : True := trivial)
        | (go_at_call 9; refine (na1.out _ h1.out).mono ?_; rintro e wa ⟨ba, Oa, rfl, Da, Ba, la⟩; clear la Da; replace Ba := hide Ba; have M1 : True := trivial)
        | (go_at_call 8; refine (begun_any _).mono ?_; rintro e w0 ⟨rfl, B0⟩; replace B0 := hide B0))
      go_ret
      exact ⟨rfl, bt (bt (bs2 (bs2 B0.out Ba.out) Bb.out) _) _⟩
  · replace h1 := hide h1
    by_cases h2 : 0 ≤ two ∧ two ≤ 16777216
    · replace h2 := hide h2
      go_enter Tryz.func3, Tryz.ntmps3
      go_upto_region 4 with (first
        | (go_at_call 8; refine (begun_any _).mono ?_; rintro e w0 ⟨rfl, B0⟩; replace B0 := hide B0)
        | (go_at_call 9; refine (nb1.out _ h1.out).mono ?_; rintro e wa ⟨rfl, ea⟩; subst wa)
        | (go_at_call 10; refine (new_ref_no _ one h1.out).mono ?_; rintro e wb ⟨rfl, eb⟩; subst wb))
      have X1 := heap_alloc_new w0 (.cells #[.pointer none, .pointer none] 29)
      have BP := hide (bt B0.out (.cells #[.pointer none, .pointer none] 29))
      generalize w0.alloc (.cells #[.pointer none, .pointer none] 29) = wp at *
      generalize hpb : w0.heap.size = pb at *
      go_upto_region 5 with (first
        | (go_at_call 9; refine (na2.out _ h2.out).mono ?_; rintro e wc ⟨bc, Oc, rfl, Dc, Bc, lc⟩; clear lc Dc; replace Bc := hide Bc)
        | (go_at_call 10; refine (new_ref _ two h2.out.1 h2.out.2).mono ?_; rintro e wd ⟨rfl, Rd, Bd⟩; clear Rd; replace Bd := hide Bd))
      have BQ := hide (bt (bs2 Bc.out Bd.out) (.cells #[.pointer (some ⟨bc, 0, none⟩), .pointer (some ⟨wc.heap.size, 0, none⟩)] 29))
      have X2 := heap_alloc_new wd (.cells #[.pointer (some ⟨bc, 0, none⟩), .pointer (some ⟨wc.heap.size, 0, none⟩)] 29)
      generalize wd.alloc (.cells #[.pointer (some ⟨bc, 0, none⟩), .pointer (some ⟨wc.heap.size, 0, none⟩)] 29) = ws at *
      generalize hqb : wd.heap.size = qb at *
      have X1' := (BQ.out.block _ (heap_lt X1)).trans X1
      obtain ⟨x1, x2⟩ := two_cells X1'
      obtain ⟨z1, z2⟩ := two_cells X2
      go_wp2_with fail
      go_ret
      exact ⟨rfl, bs2 BP.out BQ.out⟩
    · replace h2 := hide h2
      go_enter Tryz.func3, Tryz.ntmps3
      go_wp2_with (first
        | (go_at_call 10; have _h := M3; refine (new_ref_no _ two h2.out).mono ?_; rintro e wd ⟨rfl, ed⟩; subst wd)
        | (go_at_call 9; have _h := M2; refine (nb2.out _ h2.out).mono ?_; rintro e wc ⟨rfl, ec⟩; subst wc; have M3 : True := trivial)
        | (go_at_call 10; have _h := M1; refine (new_ref_no _ one h1.out).mono ?_; rintro e wb ⟨rfl, eb⟩; subst wb; have M2 : True := trivial)
        | (go_at_call 9; refine (nb1.out _ h1.out).mono ?_; rintro e wa ⟨rfl, ea⟩; subst wa; have M1 : True := trivial)
        | (go_at_call 8; refine (begun_any _).mono ?_; rintro e w0 ⟨rfl, B0⟩; replace B0 := hide B0))
      go_ret
      exact ⟨rfl, bt (bt B0.out _) _⟩
end Go.Proofs.YtpbiopmlipchdaaGreat.Re
