/-
  The document's disk: All, Lasting.
-/
import Derived.Test.YtjehpijjneghpaaGreatL06
import Derived.Test.YtjehpijjneghpaaGreatL04
import Derived.Test.YtjehpijjneghpaaGreatL03
set_option maxRecDepth 100000
set_option maxHeartbeats 40000000
set_option linter.unusedVariables false
namespace Go.Proofs.YtjehpijjneghpaaGreat.Re
open Go.RowKit Go.Maps Go.Sort Go.Shelf Go.Proofs.YtjehpijjneghpaaGreat.Nm Go.Proofs.YtjehpijjneghpaaGreat.Dk
open Ix (wp_region_T wpAnyT wpAnyT_take wpAnyT_one wpAnyT_done vac)
def RB.all (R : RB) : Fil2 := R.dir.map fun e => (e.1, (R.fOf e.2).1)
def RB.lasts (R : RB) : Fil2 := R.old.map fun e => (e.1, (R.fOf e.2).2.1)
theorem all_rm {w : World} {b : Nat} {R : RB} {V : RV} (h : RM w b R V) (hl : (R.dir.length : Int) ≤ 1000000000) (hg : ∀ e ∈ R.dir, e.2 < R.F.length) (hla : ∀ f ∈ R.F, f.2.1.length ≤ f.1.length ∧ (f.1.length : Int) ≤ 100000000) :
    Calls Tryz.prog 66 #[.pointer (some ⟨b, 0, none⟩)] w fun e w' => ∃ v vs, e = .returned v ∧ FlI w.heap.size w' v R.all vs ∧ Below w.heap.size w w' := by
 have hE : Hid (R.all = R.dir.map fun e => (e.1, (R.fOf e.2).1)) := rfl
 rw [hE.out]
 have c2 : w.cell? ⟨b, 2, none⟩ = some V.vD := (h.cell 2).trans rfl
 obtain ⟨da, dc, hvd, dl1, dl2, q3⟩ := h.dd.tr
 rw [hvd] at c2
 have HM := hide h
 obtain ⟨N, hN⟩ : ∃ N, Hid (R.dir.length = N) := ⟨_, rfl⟩
 rw [hN.out] at c2 dl1 hl
 replace q3 := hide q3
 replace hl := hide hl
 replace hg := hide hg
 replace hla := hide hla
 obtain ⟨i0, hi, hz0, hz1, hz2⟩ := info_parts infoFile
 replace hi := hide hi
 have KB : Hid (∀ q, Below w.heap.size w q → q.cell? ⟨b, 2, none⟩ = some (.slice da N dc)) := fun q hq => by rw [hq.cell (lt_of_cell c2)]; exact c2
 clear h
 go_enter Tryz.func66, Tryz.ntmps66
 go_wp2_with fail
 go_loopw [3, 4] (fun v3 i wr => ∃ k : Nat, i = .int .i64 k ∧ k ≤ N ∧ Hid (∃ vs, FlI w.heap.size wr v3 ((R.dir.take k).map fun e => (e.1, (R.fOf e.2).1)) vs ∧ Below w.heap.size w wr)) (fun _ i _ => N - (intOf i).toNat)
 case atStart => exact ⟨0, rfl, Nat.zero_le _, [], FlI.nil _ _, Below.refl _ _⟩
 case round =>
  obtain ⟨k, rfl, hk, hQ⟩ := hrel
  obtain ⟨vs, hO, hB⟩ := hQ.out
  clear c2 hQ
  replace hO := hide hO
  replace hB := hide hB
  have c2 := KB.out wr hB.out
  by_cases hlt : k < N
  ·have i1 : (k : Int) < (N : Int) := by omega
   have hkl : k < R.dir.length := by rw [hN.out]; exact hlt
   obtain ⟨gb, off, rfl, y0, y1⟩ := q3.out k hkl
   rw [← hB.out.cell (p := ⟨gb, off + k * 2, none⟩) (lt_of_cell y0)] at y0
   rw [← hB.out.cell (p := ⟨gb, off + k * 2 + 1, none⟩) (lt_of_cell y1)] at y1
   have hp := hg.out R.dir[k] (List.getElem_mem hkl)
   have MR := hide (HM.out.below hB.out)
   obtain ⟨g, cap, evf, fl1, fl2, hl', z0, z1, z2⟩ := MR.out.at hp
   have c1 : wr.cell? ⟨b, 1, none⟩ = some V.vF := (MR.out.cell 1).trans rfl
   rw [evf] at c1
   have OB := hide (MR.out.nn _ hp).1
   obtain ⟨ta, tc, et, tl1, tl2⟩ := OB.out.form
   have hlap := hla.out _ (List.getElem_mem hp)
   have hto : (R.fOf R.dir[k].2).1 = R.F[R.dir[k].2].1 := by unfold RB.fOf; rw [List.getElem?_eq_getElem hp]; rfl
   have hsn : Hid ((R.dir.take (k + 1)).map (fun e => (e.1, (R.fOf e.2).1)) = (R.dir.take k).map (fun e => (e.1, (R.fOf e.2).1)) ++ [(R.dir[k].1, R.F[R.dir[k].2].1)]) := by show _ = _; rw [List.take_succ_eq_append_getElem hkl, List.map_append, ← hto]; rfl
   have hll : Hid (((R.dir.take k).map (fun e => (e.1, (R.fOf e.2).1))).length = k) := by show _ = _; rw [List.length_map, List.length_take]; omega
   have zX : wr.cell? ⟨g, R.dir[k].2 * 3, none⟩ = some (.slice ta R.F[R.dir[k].2].1.length tc) := by rw [← et]; exact z0
   have ip : (R.dir[k].2 : Int) < (R.F.length : Int) := by omega
   have hbz : Hid (R.F[R.dir[k].2].1.length ≤ 100000000) := by show _ ≤ _; omega
   rw [et] at OB
   generalize R.F[R.dir[k].2].1 = BL at *
   obtain ⟨bl, hbl⟩ : ∃ bl, Hid (BL.length = bl) := ⟨_, rfl⟩
   rw [hbl.out] at zX hbz OB
   clear z0 z1 z2 hto hlap et
   generalize hpp : R.dir[k].2 = p at *
   generalize hss : R.dir[k].1 = s at *
   generalize (R.dir.take k).map (fun e => (e.1, (R.fOf e.2).1)) = DD at *
   have hes : Hid (encStr s = .string (bsOf s)) := rfl
   generalize bsOf s = t at *
   generalize hFl : R.F.length = fl at *
   replace hsn := hide hsn
   have KC : Hid (∀ q : World, Below wr.heap.size wr q → q.cell? ⟨b, 1, none⟩ = some (.slice (some ⟨g, 0, none⟩) fl cap) ∧ q.cell? ⟨b, 2, none⟩ = some (.slice (some ⟨gb, off, none⟩) N dc) ∧ q.cell? ⟨gb, off + k * 2 + 1, none⟩ = some (.int .i64 (p : Int)) ∧ q.cell? ⟨g, p * 3, none⟩ = some (.slice ta bl tc) ∧ q.cell? ⟨gb, off + k * 2, none⟩ = some (.string t)) := fun q hq => ⟨by rw [hq.cell (lt_of_cell c1)]; exact c1, by rw [hq.cell (lt_of_cell c2)]; exact c2, by rw [hq.cell (lt_of_cell y1)]; exact y1, by rw [hq.cell (lt_of_cell zX)]; exact zX, by rw [hq.cell (lt_of_cell y0)]; exact y0⟩
   clear c1 y0 y1 zX hpp hss hp
   go_upto_region 5 with fail
   clear c2
   have KP : Hid (Below wr.heap.size wr wr.drew) := (Below.refl _ _).drew
   refine wp_region_T (fun q => Below wr.heap.size wr q) 27 (by kernel_rfl) ?_
   generalize wr.drew = q at *
   refine Ix.tk 0 ⟨some 14, .move (.tmp 3), _, _, _, _⟩ (u3) [27] ?_ KP.out ?_
   ·intro wq hSw
    obtain ⟨x1, x2, x3, x4, x5⟩ := KC.out wq hSw
    go_simp
   (try simp only [zzp, zzb, zzc])
   refine Ix.tk 1 ⟨some 15, .move (.tmp 0), _, _, _, _⟩ (.pointer (some ⟨b, 0, none⟩)) [2,3,4,6,7,8,25,26,27] ?_ KP.out ?_
   ·intro wq hSw
    obtain ⟨x1, x2, x3, x4, x5⟩ := KC.out wq hSw
    go_simp
   (try simp only [zzp, zzb, zzc])
   refine Ix.tk 2 ⟨some 16, .nilCheck (.tmp 15), _, _, _, _⟩ (.pointer (some ⟨b, 0, none⟩)) [3,4,6,7,8,25,26,27] ?_ KP.out ?_
   ·intro wq hSw
    obtain ⟨x1, x2, x3, x4, x5⟩ := KC.out wq hSw
    go_simp
   (try simp only [zzp, zzb, zzc])
   refine Ix.tk 3 ⟨some 17, .fieldAddr 103 (.tmp 16) 2, _, _, _, _⟩ (.pointer (some ⟨b, 2, none⟩)) [4,6,7,8,25,26,27] ?_ KP.out ?_
   ·intro wq hSw
    obtain ⟨x1, x2, x3, x4, x5⟩ := KC.out wq hSw
    go_simp
   (try simp only [zzp, zzb, zzc])
   refine Ix.tk 4 ⟨some 18, .load 100 (.tmp 17), _, _, _, _⟩ (.slice (some ⟨gb, off, none⟩) N dc) [6,7,8,25,26,27] ?_ KP.out ?_
   ·intro wq hSw
    obtain ⟨x1, x2, x3, x4, x5⟩ := KC.out wq hSw
    go_simp
   (try simp only [zzp, zzb, zzc])
   refine Ix.tk 5 ⟨some 19, .move (.tmp 4), _, _, _, _⟩ (.int .i64 (k : Int)) [6,7,8,25,26,27] ?_ KP.out ?_
   ·intro wq hSw
    obtain ⟨x1, x2, x3, x4, x5⟩ := KC.out wq hSw
    go_simp
   (try simp only [zzp, zzb, zzc])
   refine Ix.tk 6 ⟨some 20, .indexAddr 100 (.tmp 18) (.tmp 19), _, _, _, _⟩ (.pointer (some ⟨gb, off + k * 2, none⟩)) [7,8,25,26,27] ?_ KP.out ?_
   ·intro wq hSw
    obtain ⟨x1, x2, x3, x4, x5⟩ := KC.out wq hSw
    go_simp
   (try simp only [zzp, zzb, zzc])
   refine Ix.tk 7 ⟨some 21, .fieldAddr 142 (.tmp 20) 0, _, _, _, _⟩ (.pointer (some ⟨gb, off + k * 2, none⟩)) [8,25,26,27] ?_ KP.out ?_
   ·intro wq hSw
    obtain ⟨x1, x2, x3, x4, x5⟩ := KC.out wq hSw
    go_simp
   (try simp only [zzp, zzb, zzc])
   refine Ix.tk 8 ⟨some 22, .load 9 (.tmp 21), _, _, _, _⟩ (.string t) [25,26,27] ?_ KP.out ?_
   ·intro wq hSw
    obtain ⟨x1, x2, x3, x4, x5⟩ := KC.out wq hSw
    go_simp
   (try simp only [zzp, zzb, zzc])
   refine Ix.tk 9 ⟨some 23, .move (.tmp 0), _, _, _, _⟩ (.pointer (some ⟨b, 0, none⟩)) [10,11,12,21,22,23,24,25,26,27] ?_ KP.out ?_
   ·intro wq hSw
    obtain ⟨x1, x2, x3, x4, x5⟩ := KC.out wq hSw
    go_simp
   (try simp only [zzp, zzb, zzc])
   refine Ix.tk 10 ⟨some 24, .nilCheck (.tmp 23), _, _, _, _⟩ (.pointer (some ⟨b, 0, none⟩)) [11,12,21,22,23,24,25,26,27] ?_ KP.out ?_
   ·intro wq hSw
    obtain ⟨x1, x2, x3, x4, x5⟩ := KC.out wq hSw
    go_simp
   (try simp only [zzp, zzb, zzc])
   refine Ix.tk 11 ⟨some 25, .fieldAddr 103 (.tmp 24) 1, _, _, _, _⟩ (.pointer (some ⟨b, 1, none⟩)) [12,21,22,23,24,25,26,27] ?_ KP.out ?_
   ·intro wq hSw
    obtain ⟨x1, x2, x3, x4, x5⟩ := KC.out wq hSw
    go_simp
   (try simp only [zzp, zzb, zzc])
   refine Ix.tk 12 ⟨some 26, .load 99 (.tmp 25), _, _, _, _⟩ (.slice (some ⟨g, 0, none⟩) fl cap) [21,22,23,24,25,26,27] ?_ KP.out ?_
   ·intro wq hSw
    obtain ⟨x1, x2, x3, x4, x5⟩ := KC.out wq hSw
    go_simp
   (try simp only [zzp, zzb, zzc])
   refine Ix.tk 13 ⟨some 27, .move (.tmp 0), _, _, _, _⟩ (.pointer (some ⟨b, 0, none⟩)) [14,15,16,18,19,20,21,22,23,24,25,26,27] ?_ KP.out ?_
   ·intro wq hSw
    obtain ⟨x1, x2, x3, x4, x5⟩ := KC.out wq hSw
    go_simp
   (try simp only [zzp, zzb, zzc])
   refine Ix.tk 14 ⟨some 28, .nilCheck (.tmp 27), _, _, _, _⟩ (.pointer (some ⟨b, 0, none⟩)) [15,16,18,19,20,21,22,23,24,25,26,27] ?_ KP.out ?_
   ·intro wq hSw
    obtain ⟨x1, x2, x3, x4, x5⟩ := KC.out wq hSw
    go_simp
   (try simp only [zzp, zzb, zzc])
   refine Ix.tk 15 ⟨some 29, .fieldAddr 103 (.tmp 28) 2, _, _, _, _⟩ (.pointer (some ⟨b, 2, none⟩)) [16,18,19,20,21,22,23,24,25,26,27] ?_ KP.out ?_
   ·intro wq hSw
    obtain ⟨x1, x2, x3, x4, x5⟩ := KC.out wq hSw
    go_simp
   (try simp only [zzp, zzb, zzc])
   refine Ix.tk 16 ⟨some 30, .load 100 (.tmp 29), _, _, _, _⟩ (.slice (some ⟨gb, off, none⟩) N dc) [18,19,20,21,22,23,24,25,26,27] ?_ KP.out ?_
   ·intro wq hSw
    obtain ⟨x1, x2, x3, x4, x5⟩ := KC.out wq hSw
    go_simp
   (try simp only [zzp, zzb, zzc])
   refine Ix.tk 17 ⟨some 31, .move (.tmp 4), _, _, _, _⟩ (.int .i64 (k : Int)) [18,19,20,21,22,23,24,25,26,27] ?_ KP.out ?_
   ·intro wq hSw
    obtain ⟨x1, x2, x3, x4, x5⟩ := KC.out wq hSw
    go_simp
   (try simp only [zzp, zzb, zzc])
   refine Ix.tk 18 ⟨some 32, .indexAddr 100 (.tmp 30) (.tmp 31), _, _, _, _⟩ (.pointer (some ⟨gb, off + k * 2, none⟩)) [19,20,21,22,23,24,25,26,27] ?_ KP.out ?_
   ·intro wq hSw
    obtain ⟨x1, x2, x3, x4, x5⟩ := KC.out wq hSw
    go_simp
   (try simp only [zzp, zzb, zzc])
   refine Ix.tk 19 ⟨some 33, .fieldAddr 142 (.tmp 32) 1, _, _, _, _⟩ (.pointer (some ⟨gb, off + k * 2 + 1, none⟩)) [20,21,22,23,24,25,26,27] ?_ KP.out ?_
   ·intro wq hSw
    obtain ⟨x1, x2, x3, x4, x5⟩ := KC.out wq hSw
    go_simp
   (try simp only [zzp, zzb, zzc])
   refine Ix.tk 20 ⟨some 34, .load 3 (.tmp 33), _, _, _, _⟩ (.int .i64 (p : Int)) [21,22,23,24,25,26,27] ?_ KP.out ?_
   ·intro wq hSw
    obtain ⟨x1, x2, x3, x4, x5⟩ := KC.out wq hSw
    go_simp
   (try simp only [zzp, zzb, zzc])
   refine Ix.tk 21 ⟨some 35, .indexAddr 99 (.tmp 26) (.tmp 34), _, _, _, _⟩ (.pointer (some ⟨g, p * 3, none⟩)) [22,23,24,25,26,27] ?_ KP.out ?_
   ·intro wq hSw
    obtain ⟨x1, x2, x3, x4, x5⟩ := KC.out wq hSw
    go_simp
   (try simp only [zzp, zzb, zzc])
   refine Ix.tk 22 ⟨some 36, .fieldAddr 138 (.tmp 35) 0, _, _, _, _⟩ (.pointer (some ⟨g, p * 3, none⟩)) [23,24,25,26,27] ?_ KP.out ?_
   ·intro wq hSw
    obtain ⟨x1, x2, x3, x4, x5⟩ := KC.out wq hSw
    go_simp
   (try simp only [zzp, zzb, zzc])
   refine Ix.tk 23 ⟨some 37, .load 30 (.tmp 36), _, _, _, _⟩ (.slice ta bl tc) [24,25,26,27] ?_ KP.out ?_
   ·intro wq hSw
    obtain ⟨x1, x2, x3, x4, x5⟩ := KC.out wq hSw
    go_simp
   (try simp only [zzp, zzb, zzc])
   obtain ⟨v5, w5, hr, O5, G5, A5⟩ := run_app (Ob.nil q.heap.size q) (OB.out.below KP.out).sl (by have := hbz.out; have := hbl.out; simp; omega) (Nat.le_refl _) 30
   rw [List.nil_append] at O5
   obtain ⟨a5, c5, e5, l51, l52⟩ := O5.form
   rw [hbl.out] at e5
   have U5 : Hid (Below q.heap.size q w5) := (Below.refl _ _).grown G5 (Nat.le_refl _) (fun k hk => by simp [Value.ownBlock] at hk)
   have B5 : Hid (Below wr.heap.size wr w5) := KP.out.trans (U5.out.mono KP.out.size)
   have O6 : Hid (Ob wr.heap.size w5 v5 BL) := O5.low KP.out.size
   refine wpAnyT_one (i := 24) (o := ⟨some 38, .call { callee := .builtin .append, args := #[.const (Value.slice none 0 0), .tmp 37], argTypes := #[30, 30] }, _, _, _, _⟩) (by kernel_rfl) rfl (fun K hK => ?_)
   refine step_app rfl (.const (.slice none 0 0)) (.tmp 37) rfl _ _ _ w5 (by simp [Act.eval]) (by simp [Act.eval]) hr ?_
   refine hK.out _ _ (fun _ => B5.out) ?_
   clear hK K hr
   (try simp only [zzp, zzb, zzc])
   subst e5
   refine Ix.tk 25 ⟨some 39, .build 61 #[(0, .tmp 22), (1, .tmp 38)], _, _, _, _⟩ (.agg #[.string t, .slice a5 bl c5]) [26,27] ?_ B5.out ?_
   ·intro wq hSw
    obtain ⟨x1, x2, x3, x4, x5⟩ := KC.out wq hSw
    go_simp
   (try simp only [zzp, zzb, zzc])
   have B7 : Hid (Below wr.heap.size wr (w5.alloc (.cells #[.string t, .slice a5 bl c5] 61))) := B5.out.trans ((box_below w5 _).mono B5.out.size)
   have O7 : Hid (Ob wr.heap.size (w5.alloc (.cells #[.string t, .slice a5 bl c5] 61)) (.slice a5 bl c5) BL) := O6.out.below (box_below w5 _)
   have N7 := hide (heap_alloc_new w5 (.cells #[.string t, .slice a5 bl c5] 61))
   have R7 : Hid (World.ownsRow (w5.alloc (.cells #[.string t, .slice a5 bl c5] 61)) w.heap.size 61 2 u3 DD.length (Dk.fcells DD vs)) := (hO.out.below B7.out).row
   have z7 : Hid (w.heap.size ≤ (w5.alloc (.cells #[.string t, .slice a5 bl c5] 61)).heap.size) := Nat.le_trans hB.out.size B7.out.size
   have b7 : Hid (Below w.heap.size w (w5.alloc (.cells #[.string t, .slice a5 bl c5] 61))) := hB.out.trans (B7.out.mono hB.out.size)
   refine wpAnyT_one (i := 26) (o := ⟨some 40, .buildSlice 57 1 #[(0, .tmp 39)], _, _, _, _⟩) (by kernel_rfl) rfl (fun K hK => ?_)
   go_simp
   refine hK.out _ _ (fun _ => B7.out) ?_
   clear hK K
   (try simp only [zzp, zzb, zzc])
   generalize hne : w5.heap.size = ne at *
   generalize (w5.alloc (.cells #[.string t, .slice a5 bl c5] 61)) = w7 at *
   refine wpAnyT_one (i := 27) (o := ⟨some 41, .call { callee := .builtin .append, args := #[.tmp 14, .tmp 40], argTypes := #[57, 57] }, _, _, _, _⟩) (by kernel_rfl) rfl (fun K hK => ?_)
   refine step_append_lies _ rfl (.tmp 14) (.tmp 40) 57 rfl w.heap.size 61 i0 (.agg #[.string ⟨#[]⟩, .slice none 0 0]) 2 40 Tryz.underlying57 hi.out hz0 hz1 hz2 rfl (by decide) u3 DD.length (Dk.fcells DD vs) (by simp [Act.eval]) R7.out ⟨ne, 0, none⟩ 1 1 [.string t, .slice a5 bl c5] (by simp [Act.eval]) rfl (two_new N7.out) (by simp [Value.oneCell']) (by decide) (by have := hll.out; have := hl.out; unfold maxLen; omega) (by have := hll.out; have := hl.out; omega) z7.out w7.heap.size rfl ?_
   intro g2 cap2 w8 ho8 hg8 hat hlt8
   have W8 : Hid (Below w.heap.size w w8) := Below.grown b7.out hg8 z7.out (fun j hj => (World.ownsRow.lt R7.out j hj).1)
   have F8 : Hid (FlI w.heap.size w8 (.slice (some ⟨g2, 0, none⟩) (DD.length + 1) cap2) (DD ++ [(s, BL)]) (vs ++ [.slice a5 bl c5])) := by
    refine hO.out.snoc hB.out.size O7.out B7.out (by rw [hes.out]; exact ho8) hg8 ?_
    rcases hat with e | e
    ·exact .inl (by rw [e]; rfl)
    ·exact .inr ⟨g2, rfl, by rw [e]; exact Nat.le_refl _⟩
   refine hK.out _ _ (vac (by kernel_rfl)) ?_
   clear hK K
   (try simp only [zzp, zzb, zzc])
   refine wpAnyT_one (i := 28) (o := ⟨some 3, .assign (.tmp 41), _, _, _, _⟩) (by kernel_rfl) rfl (fun K hK => ?_)
   go_simp
   refine hK.out _ _ (vac (by kernel_rfl)) ?_
   clear hK K
   (try simp only [zzp, zzb, zzc])
   refine wpAnyT_done (by kernel_rfl) ?_ _
   go_wp2_with fail
   go_roundw
   case rel => exact ⟨k + 1, by go_num, by omega, vs ++ [.slice a5 bl c5], by rw [hsn.out.out]; exact F8.out, W8.out⟩
   case measure => simp [intOf]; omega
  ·have i1 : ¬ ((k : Int) < (N : Int)) := by omega
   obtain rfl : k = N := by omega
   rw [List.take_of_length_le (by rw [hN.out]; omega)] at hO
   go_wp2_with fail
   go_ret
   exact ⟨_, rfl, ⟨vs, hO.out⟩, hB.out⟩
theorem lasting_rm {w : World} {b : Nat} {R : RB} {V : RV} (h : RM w b R V) (hl : (R.old.length : Int) ≤ 1000000000) (hg : ∀ e ∈ R.old, e.2 < R.F.length) (hla : ∀ f ∈ R.F, f.2.1.length ≤ f.1.length ∧ (f.1.length : Int) ≤ 100000000) :
    Calls Tryz.prog 67 #[.pointer (some ⟨b, 0, none⟩)] w fun e w' => ∃ v vs, e = .returned v ∧ FlI w.heap.size w' v R.lasts vs ∧ Below w.heap.size w w' := by
 have hE : Hid (R.lasts = R.old.map fun e => (e.1, (R.fOf e.2).2.1)) := rfl
 rw [hE.out]
 have c2 : w.cell? ⟨b, 3, none⟩ = some V.vO := (h.cell 3).trans rfl
 obtain ⟨da, dc, hvd, dl1, dl2, q3⟩ := h.oo.tr
 rw [hvd] at c2
 have HM := hide h
 obtain ⟨N, hN⟩ : ∃ N, Hid (R.old.length = N) := ⟨_, rfl⟩
 rw [hN.out] at c2 dl1 hl
 replace q3 := hide q3
 replace hl := hide hl
 replace hg := hide hg
 replace hla := hide hla
 obtain ⟨i0, hi, hz0, hz1, hz2⟩ := info_parts infoFile
 replace hi := hide hi
 have KB : Hid (∀ q, Below w.heap.size w q → q.cell? ⟨b, 3, none⟩ = some (.slice da N dc)) := fun q hq => by rw [hq.cell (lt_of_cell c2)]; exact c2
 clear h
 go_enter Tryz.func67, Tryz.ntmps67
 go_wp2_with fail
 go_loopw [3, 4] (fun v3 i wr => ∃ k : Nat, i = .int .i64 k ∧ k ≤ N ∧ Hid (∃ vs, FlI w.heap.size wr v3 ((R.old.take k).map fun e => (e.1, (R.fOf e.2).2.1)) vs ∧ Below w.heap.size w wr)) (fun _ i _ => N - (intOf i).toNat)
 case atStart => exact ⟨0, rfl, Nat.zero_le _, [], FlI.nil _ _, Below.refl _ _⟩
 case round =>
  obtain ⟨k, rfl, hk, hQ⟩ := hrel
  obtain ⟨vs, hO, hB⟩ := hQ.out
  clear c2 hQ
  replace hO := hide hO
  replace hB := hide hB
  have c2 := KB.out wr hB.out
  by_cases hlt : k < N
  ·have i1 : (k : Int) < (N : Int) := by omega
   have hkl : k < R.old.length := by rw [hN.out]; exact hlt
   obtain ⟨gb, off, rfl, y0, y1⟩ := q3.out k hkl
   rw [← hB.out.cell (p := ⟨gb, off + k * 2, none⟩) (lt_of_cell y0)] at y0
   rw [← hB.out.cell (p := ⟨gb, off + k * 2 + 1, none⟩) (lt_of_cell y1)] at y1
   have hp := hg.out R.old[k] (List.getElem_mem hkl)
   have MR := hide (HM.out.below hB.out)
   obtain ⟨g, cap, evf, fl1, fl2, hl', z0, z1, z2⟩ := MR.out.at hp
   have c1 : wr.cell? ⟨b, 1, none⟩ = some V.vF := (MR.out.cell 1).trans rfl
   rw [evf] at c1
   have OB := hide (MR.out.nn _ hp).2
   obtain ⟨ta, tc, et, tl1, tl2⟩ := OB.out.form
   have hlap := hla.out _ (List.getElem_mem hp)
   have hto : (R.fOf R.old[k].2).2.1 = R.F[R.old[k].2].2.1 := by unfold RB.fOf; rw [List.getElem?_eq_getElem hp]; rfl
   have hsn : Hid ((R.old.take (k + 1)).map (fun e => (e.1, (R.fOf e.2).2.1)) = (R.old.take k).map (fun e => (e.1, (R.fOf e.2).2.1)) ++ [(R.old[k].1, R.F[R.old[k].2].2.1)]) := by show _ = _; rw [List.take_succ_eq_append_getElem hkl, List.map_append, ← hto]; rfl
   have hll : Hid (((R.old.take k).map (fun e => (e.1, (R.fOf e.2).2.1))).length = k) := by show _ = _; rw [List.length_map, List.length_take]; omega
   have zX : wr.cell? ⟨g, R.old[k].2 * 3 + 1, none⟩ = some (.slice ta R.F[R.old[k].2].2.1.length tc) := by rw [← et]; exact z1
   have ip : (R.old[k].2 : Int) < (R.F.length : Int) := by omega
   have hbz : Hid (R.F[R.old[k].2].2.1.length ≤ 100000000) := by show _ ≤ _; omega
   rw [et] at OB
   generalize R.F[R.old[k].2].2.1 = BL at *
   obtain ⟨bl, hbl⟩ : ∃ bl, Hid (BL.length = bl) := ⟨_, rfl⟩
   rw [hbl.out] at zX hbz OB
   clear z0 z1 z2 hto hlap et
   generalize hpp : R.old[k].2 = p at *
   generalize hss : R.old[k].1 = s at *
   generalize (R.old.take k).map (fun e => (e.1, (R.fOf e.2).2.1)) = DD at *
   have hes : Hid (encStr s = .string (bsOf s)) := rfl
   generalize bsOf s = t at *
   generalize hFl : R.F.length = fl at *
   replace hsn := hide hsn
   have KC : Hid (∀ q : World, Below wr.heap.size wr q → q.cell? ⟨b, 1, none⟩ = some (.slice (some ⟨g, 0, none⟩) fl cap) ∧ q.cell? ⟨b, 3, none⟩ = some (.slice (some ⟨gb, off, none⟩) N dc) ∧ q.cell? ⟨gb, off + k * 2 + 1, none⟩ = some (.int .i64 (p : Int)) ∧ q.cell? ⟨g, p * 3 + 1, none⟩ = some (.slice ta bl tc) ∧ q.cell? ⟨gb, off + k * 2, none⟩ = some (.string t)) := fun q hq => ⟨by rw [hq.cell (lt_of_cell c1)]; exact c1, by rw [hq.cell (lt_of_cell c2)]; exact c2, by rw [hq.cell (lt_of_cell y1)]; exact y1, by rw [hq.cell (lt_of_cell zX)]; exact zX, by rw [hq.cell (lt_of_cell y0)]; exact y0⟩
   clear c1 y0 y1 zX hpp hss hp
   go_upto_region 5 with fail
   clear c2
   have KP : Hid (Below wr.heap.size wr wr.drew) := (Below.refl _ _).drew
   refine wp_region_T (fun q => Below wr.heap.size wr q) 27 (by kernel_rfl) ?_
   generalize wr.drew = q at *
   refine Ix.tk 0 ⟨some 14, .move (.tmp 3), _, _, _, _⟩ (u3) [27] ?_ KP.out ?_
   ·intro wq hSw
    obtain ⟨x1, x2, x3, x4, x5⟩ := KC.out wq hSw
    go_simp
   (try simp only [zzp, zzb, zzc])
   refine Ix.tk 1 ⟨some 15, .move (.tmp 0), _, _, _, _⟩ (.pointer (some ⟨b, 0, none⟩)) [2,3,4,6,7,8,25,26,27] ?_ KP.out ?_
   ·intro wq hSw
    obtain ⟨x1, x2, x3, x4, x5⟩ := KC.out wq hSw
    go_simp
   (try simp only [zzp, zzb, zzc])
   refine Ix.tk 2 ⟨some 16, .nilCheck (.tmp 15), _, _, _, _⟩ (.pointer (some ⟨b, 0, none⟩)) [3,4,6,7,8,25,26,27] ?_ KP.out ?_
   ·intro wq hSw
    obtain ⟨x1, x2, x3, x4, x5⟩ := KC.out wq hSw
    go_simp
   (try simp only [zzp, zzb, zzc])
   refine Ix.tk 3 ⟨some 17, .fieldAddr 103 (.tmp 16) 3, _, _, _, _⟩ (.pointer (some ⟨b, 3, none⟩)) [4,6,7,8,25,26,27] ?_ KP.out ?_
   ·intro wq hSw
    obtain ⟨x1, x2, x3, x4, x5⟩ := KC.out wq hSw
    go_simp
   (try simp only [zzp, zzb, zzc])
   refine Ix.tk 4 ⟨some 18, .load 100 (.tmp 17), _, _, _, _⟩ (.slice (some ⟨gb, off, none⟩) N dc) [6,7,8,25,26,27] ?_ KP.out ?_
   ·intro wq hSw
    obtain ⟨x1, x2, x3, x4, x5⟩ := KC.out wq hSw
    go_simp
   (try simp only [zzp, zzb, zzc])
   refine Ix.tk 5 ⟨some 19, .move (.tmp 4), _, _, _, _⟩ (.int .i64 (k : Int)) [6,7,8,25,26,27] ?_ KP.out ?_
   ·intro wq hSw
    obtain ⟨x1, x2, x3, x4, x5⟩ := KC.out wq hSw
    go_simp
   (try simp only [zzp, zzb, zzc])
   refine Ix.tk 6 ⟨some 20, .indexAddr 100 (.tmp 18) (.tmp 19), _, _, _, _⟩ (.pointer (some ⟨gb, off + k * 2, none⟩)) [7,8,25,26,27] ?_ KP.out ?_
   ·intro wq hSw
    obtain ⟨x1, x2, x3, x4, x5⟩ := KC.out wq hSw
    go_simp
   (try simp only [zzp, zzb, zzc])
   refine Ix.tk 7 ⟨some 21, .fieldAddr 142 (.tmp 20) 0, _, _, _, _⟩ (.pointer (some ⟨gb, off + k * 2, none⟩)) [8,25,26,27] ?_ KP.out ?_
   ·intro wq hSw
    obtain ⟨x1, x2, x3, x4, x5⟩ := KC.out wq hSw
    go_simp
   (try simp only [zzp, zzb, zzc])
   refine Ix.tk 8 ⟨some 22, .load 9 (.tmp 21), _, _, _, _⟩ (.string t) [25,26,27] ?_ KP.out ?_
   ·intro wq hSw
    obtain ⟨x1, x2, x3, x4, x5⟩ := KC.out wq hSw
    go_simp
   (try simp only [zzp, zzb, zzc])
   refine Ix.tk 9 ⟨some 23, .move (.tmp 0), _, _, _, _⟩ (.pointer (some ⟨b, 0, none⟩)) [10,11,12,21,22,23,24,25,26,27] ?_ KP.out ?_
   ·intro wq hSw
    obtain ⟨x1, x2, x3, x4, x5⟩ := KC.out wq hSw
    go_simp
   (try simp only [zzp, zzb, zzc])
   refine Ix.tk 10 ⟨some 24, .nilCheck (.tmp 23), _, _, _, _⟩ (.pointer (some ⟨b, 0, none⟩)) [11,12,21,22,23,24,25,26,27] ?_ KP.out ?_
   ·intro wq hSw
    obtain ⟨x1, x2, x3, x4, x5⟩ := KC.out wq hSw
    go_simp
   (try simp only [zzp, zzb, zzc])
   refine Ix.tk 11 ⟨some 25, .fieldAddr 103 (.tmp 24) 1, _, _, _, _⟩ (.pointer (some ⟨b, 1, none⟩)) [12,21,22,23,24,25,26,27] ?_ KP.out ?_
   ·intro wq hSw
    obtain ⟨x1, x2, x3, x4, x5⟩ := KC.out wq hSw
    go_simp
   (try simp only [zzp, zzb, zzc])
   refine Ix.tk 12 ⟨some 26, .load 99 (.tmp 25), _, _, _, _⟩ (.slice (some ⟨g, 0, none⟩) fl cap) [21,22,23,24,25,26,27] ?_ KP.out ?_
   ·intro wq hSw
    obtain ⟨x1, x2, x3, x4, x5⟩ := KC.out wq hSw
    go_simp
   (try simp only [zzp, zzb, zzc])
   refine Ix.tk 13 ⟨some 27, .move (.tmp 0), _, _, _, _⟩ (.pointer (some ⟨b, 0, none⟩)) [14,15,16,18,19,20,21,22,23,24,25,26,27] ?_ KP.out ?_
   ·intro wq hSw
    obtain ⟨x1, x2, x3, x4, x5⟩ := KC.out wq hSw
    go_simp
   (try simp only [zzp, zzb, zzc])
   refine Ix.tk 14 ⟨some 28, .nilCheck (.tmp 27), _, _, _, _⟩ (.pointer (some ⟨b, 0, none⟩)) [15,16,18,19,20,21,22,23,24,25,26,27] ?_ KP.out ?_
   ·intro wq hSw
    obtain ⟨x1, x2, x3, x4, x5⟩ := KC.out wq hSw
    go_simp
   (try simp only [zzp, zzb, zzc])
   refine Ix.tk 15 ⟨some 29, .fieldAddr 103 (.tmp 28) 3, _, _, _, _⟩ (.pointer (some ⟨b, 3, none⟩)) [16,18,19,20,21,22,23,24,25,26,27] ?_ KP.out ?_
   ·intro wq hSw
    obtain ⟨x1, x2, x3, x4, x5⟩ := KC.out wq hSw
    go_simp
   (try simp only [zzp, zzb, zzc])
   refine Ix.tk 16 ⟨some 30, .load 100 (.tmp 29), _, _, _, _⟩ (.slice (some ⟨gb, off, none⟩) N dc) [18,19,20,21,22,23,24,25,26,27] ?_ KP.out ?_
   ·intro wq hSw
    obtain ⟨x1, x2, x3, x4, x5⟩ := KC.out wq hSw
    go_simp
   (try simp only [zzp, zzb, zzc])
   refine Ix.tk 17 ⟨some 31, .move (.tmp 4), _, _, _, _⟩ (.int .i64 (k : Int)) [18,19,20,21,22,23,24,25,26,27] ?_ KP.out ?_
   ·intro wq hSw
    obtain ⟨x1, x2, x3, x4, x5⟩ := KC.out wq hSw
    go_simp
   (try simp only [zzp, zzb, zzc])
   refine Ix.tk 18 ⟨some 32, .indexAddr 100 (.tmp 30) (.tmp 31), _, _, _, _⟩ (.pointer (some ⟨gb, off + k * 2, none⟩)) [19,20,21,22,23,24,25,26,27] ?_ KP.out ?_
   ·intro wq hSw
    obtain ⟨x1, x2, x3, x4, x5⟩ := KC.out wq hSw
    go_simp
   (try simp only [zzp, zzb, zzc])
   refine Ix.tk 19 ⟨some 33, .fieldAddr 142 (.tmp 32) 1, _, _, _, _⟩ (.pointer (some ⟨gb, off + k * 2 + 1, none⟩)) [20,21,22,23,24,25,26,27] ?_ KP.out ?_
   ·intro wq hSw
    obtain ⟨x1, x2, x3, x4, x5⟩ := KC.out wq hSw
    go_simp
   (try simp only [zzp, zzb, zzc])
   refine Ix.tk 20 ⟨some 34, .load 3 (.tmp 33), _, _, _, _⟩ (.int .i64 (p : Int)) [21,22,23,24,25,26,27] ?_ KP.out ?_
   ·intro wq hSw
    obtain ⟨x1, x2, x3, x4, x5⟩ := KC.out wq hSw
    go_simp
   (try simp only [zzp, zzb, zzc])
   refine Ix.tk 21 ⟨some 35, .indexAddr 99 (.tmp 26) (.tmp 34), _, _, _, _⟩ (.pointer (some ⟨g, p * 3, none⟩)) [22,23,24,25,26,27] ?_ KP.out ?_
   ·intro wq hSw
    obtain ⟨x1, x2, x3, x4, x5⟩ := KC.out wq hSw
    go_simp
   (try simp only [zzp, zzb, zzc])
   refine Ix.tk 22 ⟨some 36, .fieldAddr 138 (.tmp 35) 1, _, _, _, _⟩ (.pointer (some ⟨g, p * 3 + 1, none⟩)) [23,24,25,26,27] ?_ KP.out ?_
   ·intro wq hSw
    obtain ⟨x1, x2, x3, x4, x5⟩ := KC.out wq hSw
    go_simp
   (try simp only [zzp, zzb, zzc])
   refine Ix.tk 23 ⟨some 37, .load 30 (.tmp 36), _, _, _, _⟩ (.slice ta bl tc) [24,25,26,27] ?_ KP.out ?_
   ·intro wq hSw
    obtain ⟨x1, x2, x3, x4, x5⟩ := KC.out wq hSw
    go_simp
   (try simp only [zzp, zzb, zzc])
   obtain ⟨v5, w5, hr, O5, G5, A5⟩ := run_app (Ob.nil q.heap.size q) (OB.out.below KP.out).sl (by have := hbz.out; have := hbl.out; simp; omega) (Nat.le_refl _) 30
   rw [List.nil_append] at O5
   obtain ⟨a5, c5, e5, l51, l52⟩ := O5.form
   rw [hbl.out] at e5
   have U5 : Hid (Below q.heap.size q w5) := (Below.refl _ _).grown G5 (Nat.le_refl _) (fun k hk => by simp [Value.ownBlock] at hk)
   have B5 : Hid (Below wr.heap.size wr w5) := KP.out.trans (U5.out.mono KP.out.size)
   have O6 : Hid (Ob wr.heap.size w5 v5 BL) := O5.low KP.out.size
   refine wpAnyT_one (i := 24) (o := ⟨some 38, .call { callee := .builtin .append, args := #[.const (Value.slice none 0 0), .tmp 37], argTypes := #[30, 30] }, _, _, _, _⟩) (by kernel_rfl) rfl (fun K hK => ?_)
   refine step_app rfl (.const (.slice none 0 0)) (.tmp 37) rfl _ _ _ w5 (by simp [Act.eval]) (by simp [Act.eval]) hr ?_
   refine hK.out _ _ (fun _ => B5.out) ?_
   clear hK K hr
   (try simp only [zzp, zzb, zzc])
   subst e5
   refine Ix.tk 25 ⟨some 39, .build 61 #[(0, .tmp 22), (1, .tmp 38)], _, _, _, _⟩ (.agg #[.string t, .slice a5 bl c5]) [26,27] ?_ B5.out ?_
   ·intro wq hSw
    obtain ⟨x1, x2, x3, x4, x5⟩ := KC.out wq hSw
    go_simp
   (try simp only [zzp, zzb, zzc])
   have B7 : Hid (Below wr.heap.size wr (w5.alloc (.cells #[.string t, .slice a5 bl c5] 61))) := B5.out.trans ((box_below w5 _).mono B5.out.size)
   have O7 : Hid (Ob wr.heap.size (w5.alloc (.cells #[.string t, .slice a5 bl c5] 61)) (.slice a5 bl c5) BL) := O6.out.below (box_below w5 _)
   have N7 := hide (heap_alloc_new w5 (.cells #[.string t, .slice a5 bl c5] 61))
   have R7 : Hid (World.ownsRow (w5.alloc (.cells #[.string t, .slice a5 bl c5] 61)) w.heap.size 61 2 u3 DD.length (Dk.fcells DD vs)) := (hO.out.below B7.out).row
   have z7 : Hid (w.heap.size ≤ (w5.alloc (.cells #[.string t, .slice a5 bl c5] 61)).heap.size) := Nat.le_trans hB.out.size B7.out.size
   have b7 : Hid (Below w.heap.size w (w5.alloc (.cells #[.string t, .slice a5 bl c5] 61))) := hB.out.trans (B7.out.mono hB.out.size)
   refine wpAnyT_one (i := 26) (o := ⟨some 40, .buildSlice 57 1 #[(0, .tmp 39)], _, _, _, _⟩) (by kernel_rfl) rfl (fun K hK => ?_)
   go_simp
   refine hK.out _ _ (fun _ => B7.out) ?_
   clear hK K
   (try simp only [zzp, zzb, zzc])
   generalize hne : w5.heap.size = ne at *
   generalize (w5.alloc (.cells #[.string t, .slice a5 bl c5] 61)) = w7 at *
   refine wpAnyT_one (i := 27) (o := ⟨some 41, .call { callee := .builtin .append, args := #[.tmp 14, .tmp 40], argTypes := #[57, 57] }, _, _, _, _⟩) (by kernel_rfl) rfl (fun K hK => ?_)
   refine step_append_lies _ rfl (.tmp 14) (.tmp 40) 57 rfl w.heap.size 61 i0 (.agg #[.string ⟨#[]⟩, .slice none 0 0]) 2 40 Tryz.underlying57 hi.out hz0 hz1 hz2 rfl (by decide) u3 DD.length (Dk.fcells DD vs) (by simp [Act.eval]) R7.out ⟨ne, 0, none⟩ 1 1 [.string t, .slice a5 bl c5] (by simp [Act.eval]) rfl (two_new N7.out) (by simp [Value.oneCell']) (by decide) (by have := hll.out; have := hl.out; unfold maxLen; omega) (by have := hll.out; have := hl.out; omega) z7.out w7.heap.size rfl ?_
   intro g2 cap2 w8 ho8 hg8 hat hlt8
   have W8 : Hid (Below w.heap.size w w8) := Below.grown b7.out hg8 z7.out (fun j hj => (World.ownsRow.lt R7.out j hj).1)
   have F8 : Hid (FlI w.heap.size w8 (.slice (some ⟨g2, 0, none⟩) (DD.length + 1) cap2) (DD ++ [(s, BL)]) (vs ++ [.slice a5 bl c5])) := by
    refine hO.out.snoc hB.out.size O7.out B7.out (by rw [hes.out]; exact ho8) hg8 ?_
    rcases hat with e | e
    ·exact .inl (by rw [e]; rfl)
    ·exact .inr ⟨g2, rfl, by rw [e]; exact Nat.le_refl _⟩
   refine hK.out _ _ (vac (by kernel_rfl)) ?_
   clear hK K
   (try simp only [zzp, zzb, zzc])
   refine wpAnyT_one (i := 28) (o := ⟨some 3, .assign (.tmp 41), _, _, _, _⟩) (by kernel_rfl) rfl (fun K hK => ?_)
   go_simp
   refine hK.out _ _ (vac (by kernel_rfl)) ?_
   clear hK K
   (try simp only [zzp, zzb, zzc])
   refine wpAnyT_done (by kernel_rfl) ?_ _
   go_wp2_with fail
   go_roundw
   case rel => exact ⟨k + 1, by go_num, by omega, vs ++ [.slice a5 bl c5], by rw [hsn.out.out]; exact F8.out, W8.out⟩
   case measure => simp [intOf]; omega
  ·have i1 : ¬ ((k : Int) < (N : Int)) := by omega
   obtain rfl : k = N := by omega
   rw [List.take_of_length_le (by rw [hN.out]; omega)] at hO
   go_wp2_with fail
   go_ret
   exact ⟨_, rfl, ⟨vs, hO.out⟩, hB.out⟩
end Go.Proofs.YtjehpijjneghpaaGreat.Re
namespace Go.Proofs.YtjehpijjneghpaaGreat.Dk
open Go.RowKit Go.Maps Go.Sort Go.Shelf Go.Proofs.YtjehpijjneghpaaGreat.Nm
theorem infoC64 : (Tryz.prog.info? 2).map (fun i => (i.zero, i.size, i.bytes)) = some (some (.int .i64 0), 1, 8) := by kernel_rfl
def nvals (l : List Nat) : List Value := l.map fun (n : Nat) => Value.int .i64 (n : Int)
def Ns (B : Nat) (w : World) (v : Value) (l : List Nat) : Prop := w.ownsRow B 2 1 v l.length (nvals l)
theorem Ns.nil (B : Nat) (w : World) : Ns B w (.slice none 0 0) [] := World.ownsRow_nil _ _ _ _
theorem Ns.form {B : Nat} {w : World} {v : Value} {l : List Nat} (h : Ns B w v l) : ∃ ao ca, v = .slice ao l.length ca ∧ l.length ≤ ca ∧ ca ≤ 9223372036854775807 := by
 rcases h.2 with ⟨rfl, e⟩ | ⟨g, cap, cur, rfl, _, _, a, b, _⟩
 ·exact ⟨_, _, by rw [e], by omega, by omega⟩
 ·exact ⟨_, _, rfl, a, by unfold maxLen at b; omega⟩
theorem Ns.at {B : Nat} {w : World} {v : Value} {l : List Nat} (h : Ns B w v l) {i n : Nat} (hi : l[i]? = some n) : ∃ g cap, v = .slice (some ⟨g, 0, none⟩) l.length cap ∧ w.cell? ⟨g, i, none⟩ = some (.int .i64 (n : Int)) := by
 have h0 := h
 have hl := List.getElem?_eq_some_iff.1 hi
 rcases h.2 with ⟨_, e⟩ | ⟨g, cap, cur, rfl, _, hh, a, b, _⟩
 ·have := hl.1; omega
 ·refine ⟨g, cap, rfl, ?_⟩
  have := World.ownsRow.cells h0 (g := g) rfl i (.int .i64 (n : Int)) (by unfold nvals; rw [List.getElem?_map, hi]; rfl)
  rw [addr_add] at this
  simpa using this
theorem Ns.below {B : Nat} {w w' : World} {v : Value} {l : List Nat} (h : Ns B w v l) (hb : Below w.heap.size w w') : Ns B w' v l := owns_belowN h hb
theorem one_newC (w : World) (n : Int) (t : TypeId) : ∀ j u, ([Value.int .i64 n] : List Value)[j]? = some u → (w.alloc (.cells #[.int .i64 n] t)).cell? ((⟨w.heap.size, 0, none⟩ : Addr).add j) = some u := by
 intro j u hu
 match j with
 | 0 =>
  simp at hu; subst hu
  rw [addr_add]
  simp only [World.cell?, heap_alloc_new]
  rfl
 | j + 1 => simp at hu
theorem tails_small {S : DS} (h : S.ok) (d : Int) : ∀ e ∈ S.tails d, e.2 ≤ 16777216 := by
 intro e he
 unfold DS.tails at he
 obtain ⟨s, hs, rfl⟩ := List.mem_map.1 he
 dsimp only
 unfold tlOf
 obtain ⟨p, hp⟩ := nms_get hs
 rw [hp]
 have := h.sz p (mem_front hp)
 dsimp only
 omega
theorem tails_len {S : DS} (h : S.ok) (hc : S.c7 < 1000000000) (d : Int) : (S.tails d).length ≤ 1000000000 := by
 unfold DS.tails
 rw [List.length_map, nms_len]
 exact front_len h hc d
def DS.cnt (S : DS) : List Nat × Int × Int := if S.ways ≤ M40 then (S.cnts (S.P.length + 1), (S.ways : Int), 0) else ([], 0, 9)
theorem ccount_dsk {w : World} {b : Nat} {S : DS} {O : Nat → Prop} (h : DskE w b S O) (hc : S.c7 < 900000000) :
    Calls Tryz.prog 86 #[.pointer (some ⟨b, 0, none⟩)] w fun e w' => ∃ v, e = .returned (.tuple #[v, .int .i64 S.cnt.2.1, .int .i64 S.cnt.2.2]) ∧ Ns w.heap.size w' v S.cnt.1 ∧ Below w.heap.size w w' := by
 have hok := h.ok
 have hPl : Hid (S.P.length < 900000000) := by show _ < _; have := hok.cnt; omega
 obtain ⟨R, hR⟩ : ∃ R, Hid (S.cnt = R) := ⟨_, rfl⟩
 rw [hR.out]
 have hPn := pending_dsk h
 have KT : Hid (∀ q, Below w.heap.size w q → ∀ d : Nat, d ≤ S.P.length → Calls Tryz.prog 27 #[.pointer (some ⟨b, 0, none⟩), .int .i64 (d : Int)] q fun e w' => ∃ v, e = .returned v ∧ Tr w' v (S.tails (d : Int)) ∧ Below q.heap.size q w') := fun q hq d hd => by
  refine (tails_dsk (h.below hq) (by omega) (d : Int) (by omega) (by have := hPl.out; omega)).mono ?_
  rintro e w' ⟨v, rfl, ht, hb⟩
  exact ⟨v, rfl, ht.tr, hb⟩
 have KC : Hid (∀ q (d : Nat) v, Tr q v (S.tails (d : Int)) → Calls Tryz.prog 112 #[v] q fun e w' => e = .returned (.tuple #[.int .i64 (chA (S.tails (d : Int))).1, .bool (chA (S.tails (d : Int))).2]) ∧ Below q.heap.size q w') := fun q d v hv => choices_any q v _ hv (tails_small hok _)
 obtain ⟨i0, hi, hz0, hz1, hz2⟩ := info_parts infoC64
 replace hi := hide hi
 obtain ⟨N, hN⟩ : ∃ N, Hid (S.P.length = N) := ⟨_, rfl⟩
 rw [hN.out] at hPn hPl
 have hPl2 : (N : Int) < 900000000 := by have := hPl.out; omega
 clear h hok hc
 go_enter Tryz.func86, Tryz.ntmps86
 go_wp2_with (first
  | (go_at_call 22; refine hPn.mono ?_; rintro e w1 ⟨rfl, e1⟩; subst w1)
  | fail)
 clear hPn
 go_loopw [5, 6, 15] (fun v5 v6 i wr => ∃ k x : Nat, i = .int .i64 k ∧ k ≤ N + 1 ∧ v6 = .int .i64 x ∧ x ≤ 1099511627776 ∧ Hid (x = (S.cnts k).sum) ∧ Hid (Ns w.heap.size wr v5 (S.cnts k)) ∧ Hid (Below w.heap.size w wr)) (fun _ _ i _ => N + 1 - (intOf i).toNat)
 case atStart => exact ⟨0, 0, rfl, Nat.zero_le _, rfl, by omega, rfl, Ns.nil _ _, Below.refl _ _⟩
 case round =>
  obtain ⟨k, x, rfl, hk, rfl, hx, ex, hO, hB⟩ := hrel
  by_cases hlt : k < N + 1
  ·have i1 : (k : Int) < (N : Int) + 1 := by omega
   have hT := KT.out wr hB.out k (by rw [hN.out]; omega)
   have KC2 : Hid (∀ q v, Tr q v (S.tails (k : Int)) → _) := fun q v hv => KC.out q k v hv
   have hs1 : Hid ((S.cnts (k + 1)).sum = x + prodT (S.tails (k : Int))) := by show _ = _; rw [cnts_sum, ex.out]
   have hs2 : Hid ((S.cnts (k + 1)).sum ≤ S.ways) := cnts_mono S (by rw [hN.out]; omega)
   have hs3 := hide (cnts_snoc S k)
   have hs4 : Hid ((S.cnts k).length = k) := cnts_len S k
   obtain ⟨T, hT2⟩ : ∃ T, Hid (T = S.tails (k : Int)) := ⟨_, rfl⟩
   rw [← hT2.out] at hT KC2 hs1 hs3
   obtain ⟨y, hy⟩ : ∃ y, Hid (y = prodT T) := ⟨_, rfl⟩
   rw [← hy.out] at hs1 hs3
   clear KT KC
   obtain ⟨ao, ca, rfl, hc1, hc2⟩ := hO.out.form
   rw [hs4.out] at hc1
   by_cases ho : y ≤ 1099511627776
   ·have hch : chA T = ((y : Int), true) := by unfold chA; rw [← hy.out, if_pos (by unfold M40; exact ho)]
    simp only [hch] at KC2
    by_cases hov : x + y ≤ 1099511627776
    ·obtain ⟨D, hD⟩ : ∃ D : Int, Hid (1099511627776 - (x : Int) = D) := ⟨_, rfl⟩
     have d1 := hD.out
     have d2 : 0 ≤ D ∧ D ≤ 1099511627776 := by omega
     have t1 : ¬ ((y : Int) > D) := by omega
     have t2 : (x : Int) ≤ 1099511627776 := by omega
     have t3 : (y : Int) ≤ 1099511627776 := by omega
     replace hov := hide hov
     replace ho := hide ho
     replace hx := hide hx
     clear hch
     go_upto_region 8 with fail
     go_upto_region 9 with (first
      | (go_at_call 27; refine hT.mono ?_; rintro e w2 ⟨v2, rfl, r2, b2⟩; replace r2 := hide r2; replace b2 := hide b2)
      | (go_at_call 112; refine (KC2.out w2 v2 r2.out).mono ?_; rintro e w3 ⟨rfl, b3⟩; replace b3 := hide b3)
      | fail)
     have t4 : (x : Int) + (y : Int) ≤ 1099511627776 := by have := hov.out; omega
     have hk2 : Hid (k < N + 1 ∧ N < 900000000) := ⟨hlt, by have := hPl.out; omega⟩
     clear hk hlt i1 hc1 hc2 hPl2
     have B3 := hide (b2.out.trans (b3.out.mono b2.out.size))
     have O3 := hide (hO.out.below B3.out)
     have B4 := hide (hB.out.trans (B3.out.mono hB.out.size))
     have B5 := hide (B4.out.trans ((box_below w3 (.cells #[.int .i64 (y : Int)] 2)).mono B4.out.size))
     have O5 := hide (O3.out.below (box_below w3 (.cells #[.int .i64 (y : Int)] 2)))
     have hz := hide B5.out.size
     go_wp2_with (at_builtin; refine wpList_append_own_at _ rfl (.tmp 33) (.tmp 35) 70 rfl w.heap.size 2 i0 (.int .i64 0) 1 8 Tryz.underlying70 hi.out hz0 hz1 hz2 rfl (by decide) (.slice ao (S.cnts k).length ca) (S.cnts k).length (nvals (S.cnts k)) rfl O5.out ⟨w3.heap.size, 0, none⟩ 1 1 [.int .i64 (y : Int)] (by first | rfl | simp [Act.eval]) rfl (one_newC w3 (y : Int) 2) (by simp [Value.oneCell']) (by have := hs4.out; have := hk2.out; unfold maxLen; omega) (by have := hs4.out; have := hk2.out; omega) hz.out ?_; intro v6 w6 ho6 hg6 _ _)
     have B6 := hide (Below.grown B5.out hg6 hz.out (fun k hk => (O5.out.lt k hk).1))
     have O6 : Hid (Ns w.heap.size w6 v6 (S.cnts (k + 1))) := by
      show Ns _ _ _ _
      unfold Ns
      rw [hs3.out, List.length_append]
      simp only [nvals, List.map_append] at ho6 ⊢
      exact ho6
     clear ho6 hg6 O3 O5 B3 B5 hz t1 d1 d2
     have hk3 : Hid (wrap64 ((k : Int) + 1) = (k : Int) + 1) := by show _ = _; have := hk2.out; unfold wrap64; omega
     go_wp2_with fail
     go_roundw
     case rel => exact ⟨k + 1, x + y, by rw [hk3.out]; go_num, by have := hk2.out; omega, by go_num, hov.out, hs1.out.symm, O6, B6⟩
     case measure => have := hk2.out; rw [hk3.out]; simp [intOf]; omega
    ·have t1 : (y : Int) > 1099511627776 - (x : Int) := by omega
     have t2 : (x : Int) ≤ 1099511627776 := by omega
     have t3 : (y : Int) ≤ 1099511627776 := by omega
     replace hov := hide hov
     replace ho := hide ho
     replace hx := hide hx
     clear hch
     go_upto_region 8 with fail
     go_upto_region 9 with (first
      | (go_at_call 27; refine hT.mono ?_; rintro e w2 ⟨v2, rfl, r2, b2⟩; replace r2 := hide r2; replace b2 := hide b2)
      | (go_at_call 112; refine (KC2.out w2 v2 r2.out).mono ?_; rintro e w3 ⟨rfl, b3⟩; replace b3 := hide b3)
      | fail)
     go_wp2_with fail
     go_returns
     have B3 := b2.out.trans (b3.out.mono b2.out.size)
     have e1 : R = ([], 0, 9) := by
      rw [← hR.out]; unfold DS.cnt
      rw [if_neg (by have := hs1.out; have := hs2.out; have := hov.out; unfold M40; omega)]
     subst e1
     exact ⟨_, rfl, Ns.nil _ _, hB.out.trans (B3.mono hB.out.size)⟩
   ·have hch : chA T = (0, false) := by unfold chA; rw [← hy.out, if_neg (by unfold M40; exact ho)]
    simp only [hch] at KC2
    clear hch
    replace ho := hide ho
    replace hx := hide hx
    go_upto_region 8 with fail
    go_upto_region 9 with (first
     | (go_at_call 27; refine hT.mono ?_; rintro e w2 ⟨v2, rfl, r2, b2⟩; replace r2 := hide r2; replace b2 := hide b2)
     | (go_at_call 112; refine (KC2.out w2 v2 r2.out).mono ?_; rintro e w3 ⟨rfl, b3⟩; replace b3 := hide b3)
     | fail)
    go_wp2_with fail
    go_returns
    have B3 := b2.out.trans (b3.out.mono b2.out.size)
    have e1 : R = ([], 0, 9) := by
     rw [← hR.out]; unfold DS.cnt
     rw [if_neg (by have := hs1.out; have := hs2.out; have := ho.out; unfold M40; omega)]
    subst e1
    exact ⟨_, rfl, Ns.nil _ _, hB.out.trans (B3.mono hB.out.size)⟩
  ·obtain rfl : k = N + 1 := by omega
   have e1 : Hid (R = (S.cnts (N + 1), (x : Int), 0)) := by
    show _ = _
    rw [← hR.out]; unfold DS.cnt DS.ways
    rw [hN.out, ← ex.out, if_pos (by unfold M40; exact hx)]
   obtain ⟨ao, ca, rfl, hc1, hc2⟩ := hO.out.form
   go_wp2_with fail
   go_returns
   rw [e1.out]
   exact ⟨_, rfl, hO.out, hB.out⟩
theorem ways_dsk {w : World} {b : Nat} {S : DS} {O : Nat → Prop} (h : DskE w b S O) (hc : S.c7 < 900000000) :
    Calls Tryz.prog 31 #[.pointer (some ⟨b, 0, none⟩)] w fun e w' => e = .returned (.tuple #[.int .i64 S.cnt.2.1, .int .i64 S.cnt.2.2]) ∧ Below w.heap.size w w' := by
 have hC := ccount_dsk h hc
 clear h
 generalize S.cnt = R at *
 go_enter Tryz.func31, Tryz.ntmps31
 go_wp2_with (go_at_call 86; refine hC.mono ?_; rintro e w1 ⟨v, rfl, _, b1⟩; replace b1 := hide b1)
 go_ret2
 exact ⟨rfl, b1.out⟩
def DS.atE (S : DS) (i : Int) : Int := if S.ways ≤ M40 then (if 0 ≤ i ∧ i < (S.ways : Int) then 0 else 8) else 9
theorem digs_small {S : DS} (h : S.ok) (d j : Nat) (hj : j < prodT (S.tails (d : Int))) : ∀ x ∈ digs (S.tails (d : Int)) j, x ≤ 16777216 := by
 intro x hx
 obtain ⟨k, hk, rfl⟩ := List.getElem_of_mem hx
 rw [digs_len] at hk
 have h1 := digs_le (S.tails (d : Int)) j k hj hk
 have h2 := tails_small h (d : Int) (S.tails (d : Int))[k] (List.getElem_mem hk)
 rw [List.getD_eq_getElem?_getD, List.getElem?_eq_getElem (by rw [digs_len]; exact hk)] at h1
 simp only [Option.getD_some] at h1
 omega
theorem Ks.form {B : Nat} {w : World} {v : Value} {ds : List Nat} (h : Ks B w v ds) : ∃ ao n ca, v = .slice ao n ca := by
 rcases h.2 with ⟨rfl, e⟩ | ⟨g, cap, cur, rfl, _⟩
 ·exact ⟨_, _, _, rfl⟩
 ·exact ⟨_, _, _, rfl⟩
theorem two_store {q : World} {g : Nat} {a b : Value} {T : TypeId} (x y : Value) (hz : q.heap[g]? = some (.cells #[a, b] T)) :
    q.cell? ⟨g, 0, none⟩ = some a ∧ q.frozen? ⟨g, 0, none⟩ = false ∧ (q.setCell ⟨g, 0, none⟩ x).cell? ⟨g, 1, none⟩ = some b ∧ (q.setCell ⟨g, 0, none⟩ x).frozen? ⟨g, 1, none⟩ = false ∧
    ((q.setCell ⟨g, 0, none⟩ x).setCell ⟨g, 1, none⟩ y).heap[g]? = some (.cells #[x, y] T) ∧ But (fun k => k = g) q ((q.setCell ⟨g, 0, none⟩ x).setCell ⟨g, 1, none⟩ y) ∧ (q.setCell ⟨g, 0, none⟩ x).cell? ⟨g, 0, none⟩ = some x ∧ ((q.setCell ⟨g, 0, none⟩ x).setCell ⟨g, 1, none⟩ y).cell? ⟨g, 1, none⟩ = some y := by
 have h1 := heap_setCell_same q g 0 _ _ x hz
 have h2 := heap_setCell_same (q.setCell ⟨g, 0, none⟩ x) g 1 _ _ y h1
 have g3 := But.of_grownBy (X := fun k => k = g) (grown_setCell q g 0 x) fun k e => by cases e; rfl
 have g4 := But.of_grownBy (X := fun k => k = g) (grown_setCell (q.setCell ⟨g, 0, none⟩ x) g 1 y) fun k e => by cases e; rfl
 refine ⟨by simp [World.cell?, hz], by simp [World.frozen?, hz], by simp [World.cell?, h1], by simp [World.frozen?, h1], ?_, g3.trans g4, by simp [World.cell?, h1], by simp [World.cell?, h2]⟩
 rw [h2]
 rfl
theorem but_new {w q q' : World} {g : Nat} (hb : Below w.heap.size w q) (h : But (fun k => k = g) q q') (hg : w.heap.size ≤ g) : Below w.heap.size w q' :=
 ⟨h.os.trans hb.os, h.tape.trans hb.tape, h.output.trans hb.output, Nat.le_trans hb.size h.size, fun k hk => (h.block k (Nat.lt_of_lt_of_le hk hb.size) (by omega)).trans (hb.block k hk)⟩
theorem ks_but {q q' : World} {B g : Nat} {v : Value} {ds : List Nat} (h : Ks B q v ds) (hb : But (fun k => k = g) q q') (hg : g < B) : Ks g q' v ds :=
 ⟨h.1, h.2.imp id fun ⟨g', cap, cur, e, h1, hh, r⟩ => ⟨g', cap, cur, e, Nat.le_trans (Nat.le_of_lt hg) h1, (hb.block g' (heap_lt hh) (by show ¬ _ = _; omega)).trans hh, r⟩⟩
theorem at_dsk {w : World} {b : Nat} {S : DS} {O : Nat → Prop} (h : DskE w b S O) (hc : S.c7 < 900000000) (i : Int) (n0 : -9223372036854775808 ≤ i) (n1 : i ≤ 9223372036854775807) :
    Calls Tryz.prog 33 #[.pointer (some ⟨b, 0, none⟩), .int .i64 i] w fun e w' => Below w.heap.size w w' ∧ ((S.atE i ≠ 0 ∧ e = .returned (.tuple #[.agg #[.int .i64 0, .slice none 0 0], .int .i64 (S.atE i)])) ∨
     (S.atE i = 0 ∧ ∃ d j v, FateOf S i.toNat d j ∧ e = .returned (.tuple #[.agg #[.int .i64 (d : Int), v], .int .i64 0]) ∧ Ks w.heap.size w' v (digs (S.tails (d : Int)) j))) := by
 have B0 := hide (box_below w (.cells #[.int .i64 0, .slice none 0 0] 34))
 have N0 := hide (heap_alloc_new w (.cells #[.int .i64 0, .slice none 0 0] 34))
 obtain ⟨u, hu⟩ : ∃ u, Hid (w.alloc (.cells #[.int .i64 0, .slice none 0 0] 34) = u) := ⟨_, rfl⟩
 rw [hu.out] at B0 N0
 have hok := h.ok
 have hC := ccount_dsk (h.below B0.out) hc
 have hcu : Hid (w.heap.size < u.heap.size) := heap_lt N0.out
 by_cases hw : S.ways ≤ M40
 ·have hcnt : S.cnt = (S.cnts (S.P.length + 1), (S.ways : Int), 0) := by unfold DS.cnt; rw [if_pos hw]
  rw [hcnt] at hC
  clear hcnt
  obtain ⟨W, hW⟩ : ∃ W, Hid (S.ways = W) := ⟨_, rfl⟩
  rw [hW.out] at hC
  have W1 : (W : Int) ≤ 1099511627776 := by rw [← hW.out]; unfold M40 at hw; omega
  by_cases hi : 0 ≤ i ∧ i < (W : Int)
  ·have hE : S.atE i = 0 := by unfold DS.atE; rw [if_pos hw, hW.out, if_pos hi]
   obtain ⟨hi1, hi2⟩ := hi
   obtain ⟨I, eI⟩ : ∃ I : Nat, Hid (i = (I : Int)) := Int.eq_ofNat_of_zero_le hi1
   have eI2 : Hid (i.toNat = I) := by show _ = _; rw [eI.out]; exact Int.toNat_natCast I
   rw [eI2.out]
   obtain ⟨E, hE2⟩ : ∃ E, Hid (S.atE i = E) := ⟨_, rfl⟩
   have j1 : ¬ (i < 0) := by omega
   obtain ⟨Wz, hWz⟩ : ∃ Wz : Int, Hid ((W : Int) = Wz) := ⟨_, rfl⟩
   rw [hWz.out] at hC
   have j2 : ¬ (i ≥ Wz) := by rw [← hWz.out]; omega
   rw [hE2.out] at hE ⊢
   subst hE
   obtain ⟨N, hN⟩ : ∃ N, Hid (S.P.length = N) := ⟨_, rfl⟩
   rw [hN.out] at hC
   have hN2 : Hid ((N : Int) ≤ 900000000) := by show _ ≤ _; have := hok.cnt; rw [← hN.out]; omega
   have hI : Hid (I < (S.cnts (N + 1)).sum) := by show _ < _; rw [← hN.out]; have := hW.out; unfold DS.ways at this; rw [this]; have := eI.out; omega
   have KT : Hid (∀ q, Below w.heap.size w q → ∀ d : Nat, d ≤ N → Calls Tryz.prog 27 #[.pointer (some ⟨b, 0, none⟩), .int .i64 (d : Int)] q fun e w' => ∃ v, e = .returned v ∧ Tr w' v (S.tails (d : Int)) ∧ Below q.heap.size q w') := fun q hq d hd => by
    refine (tails_dsk (h.below hq) (by omega) (d : Int) (by omega) (by have := hN2.out; omega)).mono ?_
    rintro e w' ⟨v, rfl, ht, hb⟩
    exact ⟨v, rfl, ht.tr, hb⟩
   have KA : Hid (∀ q (d j : Nat) v, Tr q v (S.tails (d : Int)) → j < prodT (S.tails (d : Int)) → j < 1099511627776 → Calls Tryz.prog 88 #[v, .int .i64 (j : Int)] q fun e w' => ∃ v', e = .returned v' ∧ Ks q.heap.size w' v' (digs (S.tails (d : Int)) j) ∧ Below q.heap.size q w') := fun q d j v hv hj hm => apart_any q v _ j hv (tails_small hok _) hj hm (tails_len hok (by omega) _)
   have hI2 : (I : Int) ≤ 1099511627775 := by have := eI.out; omega
   clear h hok hc hw hi1 n0 n1
   replace hI2 := hide hI2
   replace W1 := hide W1
   replace hi2 := hide hi2
   go_enter Tryz.func33, Tryz.ntmps33
   go_upto_region 1 with fail
   rw [hu.out]
   go_upto_region 2 with (go_at_call 86; refine hC.mono ?_; rintro e w1 ⟨v, rfl, c1, b1⟩; have z1 := hide ((b1.block _ (heap_lt N0.out)).trans N0.out); replace b1 := hide b1; replace c1 := hide c1)
   go_upto_region 4 with fail
   go_upto_region 6 with fail
   have B1 : Hid (Below w.heap.size w w1) := B0.out.trans (b1.out.mono B0.out.size)
   obtain ⟨av, cv, rfl, hf1, hf2⟩ := c1.out.form
   rw [cnts_len] at c1 hf1 ⊢
   clear hC j1 j2
   go_wp2_with fail
   go_loopw [1, 9] (fun vi vd wr => ∃ d j : Nat, vd = .int .i64 d ∧ vi = .int .i64 j ∧ Hid (d ≤ N ∧ I = (S.cnts d).sum + j) ∧ wr = w1) (fun _ vd _ => N + 1 - (intOf vd).toNat)
   case atStart => exact ⟨0, I, rfl, by rw [eI.out], ⟨Nat.zero_le _, by simp [DS.cnts]⟩, rfl⟩
   case round =>
    obtain ⟨d, j, rfl, rfl, hd, rfl⟩ := hrel
    have hdN : (d : Int) < ((N + 1 : Nat) : Int) := by have := hd.out.1; omega
    obtain ⟨g, cap, e, hcell⟩ := c1.out.at (cnts_get S (N + 1) d (by have := hd.out.1; omega))
    rw [cnts_len] at e
    simp only [Value.slice.injEq] at e
    obtain ⟨rfl, _, rfl⟩ := e
    have hsum : Hid ((S.cnts (d + 1)).sum = (S.cnts d).sum + prodT (S.tails (d : Int))) := cnts_sum S d
    obtain ⟨c, hcc⟩ : ∃ c, Hid (prodT (S.tails (d : Int)) = c) := ⟨_, rfl⟩
    rw [hcc.out] at hcell hsum
    have hjc : Hid ((j : Int) ≤ 1099511627775) := by show _ ≤ _; have := hd.out.2; have := hI2.out; omega
    by_cases hjl : j < c
    ·have t1 : ¬ ((j : Int) ≥ (c : Int)) := by omega
     have hT := KT.out wr B1.out d hd.out.1
     have KA2 := KA.out
     go_upto_region 10 with fail
     clear t1 hcell hf1 hf2 hdN
     go_wp2_with (first
      | (go_at_call 27; refine hT.mono ?_; rintro e w2 ⟨v2, rfl, r2, b2⟩; replace r2 := hide r2; replace b2 := hide b2)
      | (go_at_call 88; refine (KA.out w2 d j v2 r2.out (by rw [hcc.out]; exact hjl) (by have := hjc.out; omega)).mono ?_; rintro e w3 ⟨v3, rfl, r3, b3⟩; obtain ⟨a3, n3, c3, rfl⟩ := r3.form; have z3 := (b3.block _ (heap_lt ((b2.out.block _ (heap_lt z1.out)).trans z1.out))).trans ((b2.out.block _ (heap_lt z1.out)).trans z1.out); obtain ⟨x1, x2, x3, x4, x5, x6, x7, x8⟩ := two_store (.int .i64 (d : Int)) (.slice a3 n3 c3) z3; replace z3 := hide z3; replace r3 := hide r3; replace b3 := hide b3; replace x6 := hide x6; clear x5)
      | fail)
     try simp only [Exit.inBlock, Exit.then]
     refine bodyPost_ret (by simp [results, Tryz.results33, go_sem, x7, x8]; try rfl) rfl ?_
     have B3 : Below w.heap.size w w3 := B1.out.trans ((b2.out.trans (b3.out.mono b2.out.size)).mono B1.out.size)
     refine ⟨but_new B3 x6.out (Nat.le_refl _), .inr ⟨trivial, d, j, _, ⟨by rw [hN.out]; exact hd.out.1, hd.out.2, by rw [hcc.out]; exact hjl⟩, rfl, ?_⟩⟩
     have hO : w2.heap.size ≤ w3.heap.size := b3.out.size
     have hlow : w.heap.size < w2.heap.size := Nat.lt_of_lt_of_le (heap_lt z1.out) b2.out.size
     exact ks_but r3.out x6.out hlow
    ·have t1 : (j : Int) ≥ (c : Int) := by omega
     have t2 := hjc.out
     go_wp2_with fail
     go_roundw
     case rel =>
      refine ⟨d + 1, j - c, by go_num, by go_num, ⟨?_, ?_⟩, trivial⟩
      ·have h1 := hd.out; have h2 := hsum.out; have h3 := hI.out
       by_cases hdn : d = N
       ·subst hdn; omega
       ·omega
      ·have h1 := hd.out; have h2 := hsum.out
       omega
     case measure => have := hd.out.1; simp [intOf]; omega
  ·have hE : S.atE i = 8 := by unfold DS.atE; rw [if_pos hw, hW.out, if_neg hi]
   obtain ⟨E, hE2⟩ : ∃ E, Hid (S.atE i = E) := ⟨_, rfl⟩
   rw [hE2.out] at hE ⊢
   subst hE
   clear h hok hw
   obtain ⟨N, hN⟩ : ∃ N, Hid (S.P.length = N) := ⟨_, rfl⟩
   rw [hN.out] at hC
   have hc1 : i < 0 ∨ i ≥ (W : Int) := by omega
   rcases hc1 with hc1 | hc1
   all_goals
    go_enter Tryz.func33, Tryz.ntmps33
    go_upto_region 1 with fail
    rw [hu.out]
    go_wp2_with (go_at_call 86; refine hC.mono ?_; rintro e w1 ⟨v, rfl, _, b1⟩; have z1 := (b1.block _ (heap_lt N0.out)).trans N0.out; obtain ⟨x1, x2, x3, x4, x5, x6, x7, x8⟩ := two_store (.int .i64 0) (.slice none 0 0) z1; replace b1 := hide b1; replace z1 := hide z1; replace x6 := hide x6; clear x5)
    try simp only [Exit.inBlock, Exit.then]
    refine bodyPost_ret (by simp [results, Tryz.results33, go_sem, x7, x8]; try rfl) rfl ?_
    exact ⟨but_new (B0.out.trans (b1.out.mono B0.out.size)) x6.out (Nat.le_refl _), .inl ⟨by decide, rfl⟩⟩
 ·have hcnt : S.cnt = ([], 0, 9) := by unfold DS.cnt; rw [if_neg hw]
  rw [hcnt] at hC
  have hE : S.atE i = 9 := by unfold DS.atE; rw [if_neg hw]
  obtain ⟨E, hE2⟩ : ∃ E, Hid (S.atE i = E) := ⟨_, rfl⟩
  rw [hE2.out] at hE ⊢
  subst hE
  clear h hok hw hcnt
  go_enter Tryz.func33, Tryz.ntmps33
  go_upto_region 1 with fail
  rw [hu.out]
  go_wp2_with (go_at_call 86; refine hC.mono ?_; rintro e w1 ⟨v, rfl, _, b1⟩; have z1 := (b1.block _ (heap_lt N0.out)).trans N0.out; obtain ⟨x1, x2, x3, x4, x5, x6, x7, x8⟩ := two_store (.int .i64 0) (.slice none 0 0) z1; replace b1 := hide b1; replace z1 := hide z1; replace x6 := hide x6; clear x5)
  try simp only [Exit.inBlock, Exit.then]
  refine bodyPost_ret (by simp [results, Tryz.results33, go_sem, x7, x8]; try rfl) rfl ?_
  exact ⟨but_new (B0.out.trans (b1.out.mono B0.out.size)) x6.out (Nat.le_refl _), .inl ⟨by decide, rfl⟩⟩
end Go.Proofs.YtjehpijjneghpaaGreat.Dk
namespace Go.Proofs.YtjehpijjneghpaaGreat.Re
open Go.RowKit Go.Maps Go.Sort Go.Shelf Go.Proofs.YtjehpijjneghpaaGreat.Nm Go.Proofs.YtjehpijjneghpaaGreat.Dk
def crD (f : FD) (k : Kep) : FD := (crF (flD f) k.1 k.2, crF (flD f) k.1 k.2, 0)
def crR (L : Dr) (ks : List Kep) : Nat → RB → RB
 | 0, R => R
 | k + 1, R => (crR L ks k R).one ((L[k]?.map (·.2)).getD 0) (crD ((crR L ks k R).fOf ((L[k]?.map (·.2)).getD 0)) (ks.getD k (0, [])))
def RB.reset (R : RB) (L : Dr) : RB := { R with dir := L, old := L, pe := [], fs := [], down := false }
def RB.crash (R : RB) (d : Int) (ks : List Kep) : RB := (crR (R.front d) ks (R.front d).length R).reset (R.front d)
theorem crR_len (L : Dr) (ks : List Kep) (R : RB) : ∀ k, (crR L ks k R).F.length = R.F.length
 | 0 => rfl
 | k + 1 => by
  show ((crR L ks k R).F.set _ _).length = _
  rw [List.length_set]
  exact crR_len L ks R k
theorem crR_la (L : Dr) (ks : List Kep) {R : RB} (h : ∀ f ∈ R.F, f.2.1.length ≤ f.1.length ∧ (f.1.length : Int) ≤ 100000000) : ∀ k, ∀ f ∈ (crR L ks k R).F, f.2.1.length ≤ f.1.length ∧ (f.1.length : Int) ≤ 100000000
 | 0 => h
 | k + 1 => fun f hf => by
  have ih := crR_la L ks h k
  rcases List.mem_or_eq_of_mem_set hf with q | q
  ·exact ih f q
  ·subst q
   refine ⟨Nat.le_refl _, ?_⟩
   show ((crF _ _ _).length : Int) ≤ _
   unfold RB.fOf
   cases hx : (crR L ks k R).F[(L[k]?.map (·.2)).getD 0]? with
   | none => simp [flD, crF, svd, jnk]
   | some g =>
    have hg := ih g (List.mem_of_getElem? hx)
    have := crF_len (flD g) (ks.getD k (0, [])).1 (ks.getD k (0, [])).2 hg.1
    have h2 : (flD g).by_.length = g.1.length := rfl
    simp only [Option.getD_some]
    omega
def RV.reset (V : RV) (vd vo : Value) : RV := { V with vD := vd, vO := vo, vP := .slice none 0 0, vA := .slice none 0 0 }
theorem reset_cs (R : RB) (V : RV) (L : Dr) (vd vo : Value) : (((((R.cs V).setIfInBounds 2 vd).setIfInBounds 3 vo).setIfInBounds 4 (.slice none 0 0)).setIfInBounds 5 (.slice none 0 0)).setIfInBounds 16 (.bool false) = (R.reset L).cs (V.reset vd vo) := by simp [RB.cs, RB.reset, RV.reset]
theorem blk_reset (b : Nat) (V : RV) (vd vo : Value) (x : Nat) (h2 : x ≠ 2) (h3 : x ≠ 3) (h4 : x ≠ 4) (h5 : x ≠ 5) : blk b (V.reset vd vo) x = blk b V x := by
 match x with
 | 0 => rfl
 | 1 => rfl
 | 2 => exact absurd rfl h2
 | 3 => exact absurd rfl h3
 | 4 => exact absurd rfl h4
 | 5 => exact absurd rfl h5
 | n + 6 => rfl
theorem RM.reset {wr w' : World} {b : Nat} {R : RB} {V : RV} {vd vo : Value} {L : Dr} (h : RM wr b R V) (hd : En 0 w' vd L) (hdn : ∀ k, vd.ownBlock = some k → (∀ x, blk b V x ≠ some k) ∧ k < wr.heap.size) (ho : En wr.heap.size w' vo L) (hb : But (fun k => k = b) wr w')
    (hbox : w'.heap[b]? = some (.cells ((((((R.cs V).setIfInBounds 2 vd).setIfInBounds 3 vo).setIfInBounds 4 (.slice none 0 0)).setIfInBounds 5 (.slice none 0 0)).setIfInBounds 16 (.bool false)) TRD (0, 0))) : RM w' b (R.reset L) (V.reset vd vo) := by
 have nx : ∀ x, x ≠ 0 → ∀ k, blk b V x = some k → ¬ k = b := fun x hx k hk c => h.ds 0 x (Ne.symm hx) b rfl (by rw [hk, c])
 have hsz := hb.size
 have no4 : ∀ k, blk b (V.reset vd vo) 4 ≠ some k := fun k c => by simp [blk, RV.reset, Value.ownBlock] at c
 have no5 : ∀ k, blk b (V.reset vd vo) 5 ≠ some k := fun k c => by simp [blk, RV.reset, Value.ownBlock] at c
 have key : ∀ x y, x ≠ y → (x = 2 ∨ x = 3) → ∀ k, blk b (V.reset vd vo) x = some k → blk b (V.reset vd vo) y ≠ some k := fun x y hxy hx k h1 h2 => by
  by_cases y4 : y = 4
  ·subst y4; exact no4 k h2
  ·by_cases y5 : y = 5
   ·subst y5; exact no5 k h2
   ·rcases hx with rfl | rfl
    ·by_cases y3 : y = 3
     ·subst y3
      have q1 := (ho.lt k h2).1
      have q2 := (hdn k h1).2
      omega
     ·rw [blk_reset b V vd vo y (Ne.symm hxy) y3 y4 y5] at h2
      exact (hdn k h1).1 y h2
    ·by_cases y2 : y = 2
     ·subst y2
      have q1 := (ho.lt k h1).1
      have q2 := (hdn k h2).2
      omega
     ·rw [blk_reset b V vd vo y y2 (Ne.symm hxy) y4 y5] at h2
      have q1 := (ho.lt k h1).1
      have q2 := h.lt y k h2
      omega
 refine ⟨by rw [← reset_cs]; exact hbox, hd, owns_lower2 ho (Nat.zero_le _), World.ownsRow_nil _ _ _ _, World.ownsRow_nil _ _ _ _, ownsRow_but h.ff hb (nx 1 (by omega)), h.ln, fun i hi => ?_, ?_, ?_⟩
 ·have hi' : i < R.F.length := hi
  have hl' : i < V.T.length := by rw [h.ln]; exact hi'
  obtain ⟨a, q⟩ := h.nn i hi'
  exact ⟨Oc.but a hb (fun k hk => nx (2 * i + 6) (by omega) k (by rw [blk_N b V hl']; exact hk)), Oc.but q hb (fun k hk => nx (2 * i + 7) (by omega) k (by rw [blk_L b V hl']; exact hk))⟩
 ·intro x y hxy k h1 h2
  by_cases x2 : x = 2 ∨ x = 3
  ·exact key x y hxy x2 k h1 h2
  ·by_cases y2 : y = 2 ∨ y = 3
   ·exact key y x (Ne.symm hxy) y2 k h2 h1
   ·by_cases x4 : x = 4
    ·subst x4; exact no4 k h1
    ·by_cases x5 : x = 5
     ·subst x5; exact no5 k h1
     ·by_cases y4 : y = 4
      ·subst y4; exact no4 k h2
      ·by_cases y5 : y = 5
       ·subst y5; exact no5 k h2
       ·rw [blk_reset b V vd vo x (fun e => x2 (.inl e)) (fun e => x2 (.inr e)) x4 x5] at h1
        rw [blk_reset b V vd vo y (fun e => y2 (.inl e)) (fun e => y2 (.inr e)) y4 y5] at h2
        exact h.ds x y hxy k h1 h2
 ·intro x k hk
  by_cases x2 : x = 2
  ·subst x2; have := (hdn k hk).2; omega
  ·by_cases x3 : x = 3
   ·subst x3; exact (ho.lt k hk).2
   ·by_cases x4 : x = 4
    ·subst x4; exact absurd hk (no4 k)
    ·by_cases x5 : x = 5
     ·subst x5; exact absurd hk (no5 k)
     ·rw [blk_reset b V vd vo x x2 x3 x4 x5] at hk
      have := h.lt x k hk
      omega
theorem crash_rm {w : World} {b : Nat} {R : RB} {V : RV} (h : RM w b R V) (hl : ((R.old.length + R.pe.length : Nat) : Int) ≤ 1000000000) (hf : ∀ c ∈ R.pe, -9223372036854775808 ≤ c.fi ∧ c.fi ≤ 9223372036854775807) (d : Int) (hgL : ∀ e ∈ R.front d, e.2 < R.F.length) (hla : ∀ f ∈ R.F, f.2.1.length ≤ f.1.length ∧ (f.1.length : Int) ≤ 100000000)
    (vk : Value) (Z : Nat → Prop) (ks : List Kep) (hk : Kp Z w vk ks) (hZ : ∀ k, Z k → (∀ x, blk b V x ≠ some k) ∧ k < w.heap.size) :
    Calls Tryz.prog 38 #[.pointer (some ⟨b, 0, none⟩), .agg #[.int .i64 d, vk]] w fun e w' => e = .returned (.tuple #[]) ∧ Rgo w w' b V (R.crash d ks) := by
 have hLn := front_len R d
 have hE : Hid (R.crash d ks = (crR (R.front d) ks (R.front d).length R).reset (R.front d)) := rfl
 rw [hE.out]
 have hDi : Hid (∀ q, RM q b R V → _) := fun q hq => dir_rm hq hl hf d
 obtain ⟨L, hL⟩ : ∃ L, Hid (R.front d = L) := ⟨_, rfl⟩
 rw [hL.out] at hDi hgL hLn ⊢
 have HM := hide h
 replace hgL := hide hgL
 have hLA := hide (crR_la L ks hla)
 have hLL := hide (crR_len L ks R)
 have HK := hide hk
 obtain ⟨ka, kc, rfl, kl1, kl2, _⟩ := hk
 replace hZ := hide hZ
 obtain ⟨N, hN⟩ : ∃ N, Hid (L.length = N) := ⟨_, rfl⟩
 rw [hN.out]
 have hN3 : Hid ((N : Int) ≤ 1000000000) := by show _ ≤ _; rw [← hN.out]; omega
 have BF := hide (box_below w (.cells #[.int .i64 d, .slice ka ks.length kc] 34))
 have NF := hide (heap_alloc_new w (.cells #[.int .i64 d, .slice ka ks.length kc] 34))
 obtain ⟨KN, hKN⟩ : ∃ KN, Hid (ks.length = KN) := ⟨_, rfl⟩
 rw [hKN.out] at kl1 BF NF ⊢
 have kc2 : kc ≤ 9223372036854775807 := by unfold maxLen at kl2; omega
 clear h hf hl hLn hla kl2
 go_enter Tryz.func38, Tryz.ntmps38
 go_upto_region 1 with fail
 obtain ⟨wf, hwf⟩ : ∃ wf, Hid (w.alloc (.cells #[.int .i64 d, .slice ka KN kc] 34) = wf) := ⟨_, rfl⟩
 rw [hwf.out] at BF NF ⊢
 have f0 : wf.cell? ⟨w.heap.size, 0, none⟩ = some (.int .i64 d) := by simp [World.cell?, NF.out]
 have MF := hide (HM.out.below BF.out)
 go_wp2_with (go_at_call 89; refine (hDi.out _ MF.out).mono ?_; rintro e w1 ⟨v1, rfl, E1, b1⟩; obtain ⟨da, dc, rfl, dl1, dl2, q3⟩ := E1.tr; replace b1 := hide b1)
 rw [hN.out] at dl1 E1 ⊢
 have M1 := hide (MF.out.below b1.out)
 have EE := hide E1
 replace q3 := hide q3
 have B1 : Hid (Below w.heap.size w w1) := BF.out.trans (b1.out.mono BF.out.size)
 have zf1 : Hid (w.heap.size < wf.heap.size ∧ wf.heap.size ≤ w1.heap.size) := ⟨heap_lt NF.out, b1.out.size⟩
 have NF1 : Hid (w1.heap[w.heap.size]? = some (.cells #[.int .i64 d, .slice ka KN kc] 34 (0, 0))) := (b1.out.block _ zf1.out.1).trans NF.out
 clear E1 hDi f0 MF
 -- what survives a step of the disk
 have KO : Hid (∀ q, But (fun k => ∃ x, blk b V x = some k) w1 q → (∀ i (hi : i < L.length), ∃ gb off, da = some ⟨gb, off, none⟩ ∧ q.cell? ⟨gb, off + i * 2 + 1, none⟩ = some (.int .i64 (L[i].2 : Int))) ∧ q.heap[w.heap.size]? = some (.cells #[.int .i64 d, .slice ka KN kc] 34 (0, 0)) ∧ Kp Z q (.slice ka KN kc) ks ∧ En wf.heap.size q (.slice da N dc) L) := fun q hq => by
  have hoff : ∀ k, w.heap.size ≤ k → ¬ ∃ x, blk b V x = some k := fun k hk ⟨x, hx⟩ => by have := HM.out.lt x k hx; omega
  refine ⟨fun i hi => ?_, ?_, ?_, ?_⟩
  ·obtain ⟨gb, off, rfl, y0, y1⟩ := q3.out i hi
   refine ⟨gb, off, rfl, cell_but y1 hq (hoff gb ?_)⟩
   have := (EE.out.lt gb (own_zero EE.out rfl)).1
   have := zf1.out
   omega
  ·exact hq.at NF1.out (hoff _ (Nat.le_refl _))
  ·have := (HK.out.below B1.out).but hq (fun k hz c => by obtain ⟨x, hx⟩ := c; exact (hZ.out k hz).1 x hx)
   rw [hKN.out] at this
   exact this
  ·exact EE.out.but hq (fun k hk => hoff k (by have := (EE.out.lt k hk).1; have := zf1.out; omega))
 have R1 : Hid (Rgo w1 w1 b V R) := Rgo.refl M1.out
 go_loopw [5] (fun i wr => ∃ k : Nat, i = .int .i64 k ∧ k ≤ N ∧ Hid (Rgo w1 wr b V (crR L ks k R))) (fun i _ => N - (intOf i).toNat)
 case atStart => exact ⟨0, rfl, Nat.zero_le _, R1.out⟩
 case round =>
  obtain ⟨k, rfl, hk, hG⟩ := hrel
  obtain ⟨⟨VK, MK, XK⟩, UK⟩ := hG.out
  obtain ⟨k1, k2, k3, k4⟩ := KO.out wr UK
  replace MK := hide MK
  replace XK := hide XK
  replace UK := hide UK
  by_cases hlt : k < N
  ·have i1 : (k : Int) < (N : Int) := by omega
   have hkl : k < L.length := by rw [hN.out]; exact hlt
   obtain ⟨gb, off, rfl, y1⟩ := k1 k hkl
   have hp : L[k].2 < (crR L ks k R).F.length := by rw [hLL.out k]; exact hgL.out L[k] (List.getElem_mem hkl)
   have hLk : Hid (((L[k]?).map (·.2)).getD 0 = L[k].2) := by show _ = _; rw [List.getElem?_eq_getElem hkl]; rfl
   have hst : Hid (crR L ks (k + 1) R = (crR L ks k R).one L[k].2 (crD ((crR L ks k R).fOf L[k].2) (ks.getD k (0, [])))) := by
    show _ = _
    show (crR L ks k R).one (((L[k]?).map (·.2)).getD 0) (crD ((crR L ks k R).fOf (((L[k]?).map (·.2)).getD 0)) (ks.getD k (0, []))) = _
    rw [hLk.out]
   have hlap := hLA.out k _ (List.getElem_mem hp)
   generalize hRk : crR L ks k R = Rk at *
   have hfo : Rk.fOf L[k].2 = Rk.F[L[k].2] := by unfold RB.fOf; rw [List.getElem?_eq_getElem hp]; rfl
   rw [hfo] at hst
   generalize hpp : L[k].2 = p at *
   obtain ⟨g, cap, evf, fl1, fl2, hl', z0, z1, z2⟩ := MK.out.at hp
   have c1 : wr.cell? ⟨b, 1, none⟩ = some VK.vF := (MK.out.cell 1).trans rfl
   rw [evf] at c1
   have OB1 := hide (MK.out.nn _ hp).1
   have OB2 := hide (MK.out.nn _ hp).2
   obtain ⟨f0, hf0⟩ : ∃ f0 : FD, Hid (Rk.F[p]'hp = f0) := ⟨Rk.F[p]'hp, rfl⟩
   rw [hf0.out] at OB1 OB2 hst hlap z2
   obtain ⟨ta, tc, et, tl1, tl2⟩ := OB1.out.form
   obtain ⟨la, lc, eL, ll1, ll2⟩ := OB2.out.form
   have z0s := hide z0
   have z1s := hide z1
   rw [et] at z0
   rw [eL] at z1
   have hg1 : VK.vF.ownBlock = some g := by rw [evf]; exact own_some _ _ _
   have ip : (p : Int) < (Rk.F.length : Int) := by omega
   obtain ⟨fl, hfl⟩ : ∃ fl, Hid (Rk.F.length = fl) := ⟨_, rfl⟩
   have evs := hide evf
   rw [hfl.out] at ip c1 fl1
   obtain ⟨bl, hbl⟩ : ∃ bl : Nat, Hid (f0.1.length = bl) := ⟨f0.1.length, rfl⟩
   obtain ⟨ll, hll⟩ : ∃ ll : Nat, Hid (f0.2.1.length = ll) := ⟨f0.2.1.length, rfl⟩
   rw [hbl.out] at z0 tl1 hlap
   rw [hll.out] at z1 ll1 hlap
   obtain ⟨lb1, lb2⟩ := hlap
   have hwr : IntKind.i64.wrap ((bl : Int) - (ll : Int)) = (bl : Int) - (ll : Int) := by rw [IntKind.wrap_i64]; omega
   have hk1 : w.heap.size < wr.heap.size := heap_lt k2
   clear hpp hfo evf k1 k4 et eL
   -- the keep of this file
   obtain ⟨KK, hKK⟩ : ∃ KK : Kep, Hid (ks.getD k (0, []) = KK) := ⟨_, rfl⟩
   rw [hKK.out] at hst
   obtain ⟨kn, J⟩ := KK
   by_cases hin : k < KN
   ·have i2 : (k : Int) < (KN : Int) := by omega
    obtain ⟨ka2, kc3, e3, _, _, hks⟩ := k3
    simp only [Value.slice.injEq] at e3
    obtain ⟨e31, e32, e33⟩ := e3
    subst e31
    subst e33
    obtain ⟨kb, ko, vj, rfl, hkz, n0, n1, hsj, hsi, nb0, nb1⟩ := hks k (by rw [hKN.out]; exact hin)
    have hks2 : ks[k]'(by rw [hKN.out]; exact hin) = (kn, J) := by rw [← hKK.out, List.getD_eq_getElem?_getD, List.getElem?_eq_getElem (by rw [hKN.out]; exact hin)]; rfl
    rw [hks2] at n0 hsj nb0 nb1
    obtain ⟨ja, jc, rfl, _, j3, j4, _⟩ := id hsj
    have VJ : Hid (Sl wr (.slice ja J.length jc) J) := hsj
    clear hsj hks hks2 e32
    go_upto_region 5 with fail
    go_quiet (fail)
    have B3 : Hid (Below wr.heap.size wr (wr.drewN nq)) := Qt.below ⟨nq, rfl⟩ _
    generalize wr.drewN nq = Y at *
    have BK := hide (box_below Y (.cells #[.int .i64 0, .slice none 0 0] 88))
    have NK := hide (heap_alloc_new Y (.cells #[.int .i64 0, .slice none 0 0] 88))
    have k2Y : Hid ((Y.alloc (.cells #[.int .i64 0, .slice none 0 0] 88)).heap[w.heap.size]? = some (.cells #[.int .i64 d, .slice (some ⟨kb, ko, none⟩) KN kc] 34 (0, 0))) := (BK.out.block _ (Nat.lt_of_lt_of_le hk1 B3.out.size)).trans ((B3.out.block _ hk1).trans k2)
    go_upto_region 7 with fail
    obtain ⟨YK, hYK⟩ : ∃ YK, Hid (Y.alloc (.cells #[.int .i64 0, .slice none 0 0] 88) = YK) := ⟨_, rfl⟩
    rw [hYK.out] at BK NK k2Y ⊢
    have u0 : YK.cell? ⟨w.heap.size, 1, none⟩ = some (.slice (some ⟨kb, ko, none⟩) KN kc) := by simp [World.cell?, k2Y.out]
    have BY : Hid (Below wr.heap.size wr YK) := B3.out.trans (BK.out.mono B3.out.size)
    have yz : Hid (wr.heap.size ≤ Y.heap.size) := B3.out.size
    have n0Y : YK.cell? ⟨kb, ko + k * 2, none⟩ = some (.int .i64 kn) := by rw [BY.out.cell (lt_of_cell n0)]; exact n0
    have n1Y : YK.cell? ⟨kb, ko + k * 2 + 1, none⟩ = some (.slice ja J.length jc) := by rw [BY.out.cell (lt_of_cell n1)]; exact n1
    obtain ⟨d1, d2, d3, d4, d5, d6, _, _⟩ := two_store (.int .i64 kn) (.slice ja J.length jc) NK.out
    replace d5 := hide d5
    replace d6 := hide d6
    have BW : Hid (Below wr.heap.size wr ((YK.setCell ⟨Y.heap.size, 0, none⟩ (.int .i64 kn)).setCell ⟨Y.heap.size, 1, none⟩ (.slice ja J.length jc))) := below_new BY.out d6.out yz.out
    go_upto_region 9 with fail
    obtain ⟨W, hW⟩ : ∃ W, Hid ((YK.setCell ⟨Y.heap.size, 0, none⟩ (.int .i64 kn)).setCell ⟨Y.heap.size, 1, none⟩ (.slice ja J.length jc) = W) := ⟨_, rfl⟩
    rw [hW.out] at d5 BW ⊢
    have s0 : W.cell? ⟨Y.heap.size, 0, none⟩ = some (.int .i64 kn) := by simp [World.cell?, d5.out]
    have s1 : W.cell? ⟨Y.heap.size, 1, none⟩ = some (.slice ja J.length jc) := by simp [World.cell?, d5.out]
    clear d1 d2 d3 d4 d6 n0Y n1Y u0
    have a0 : W.cell? ⟨g, p * 3, none⟩ = some (.slice ta bl tc) := by rw [BW.out.cell (lt_of_cell z0)]; exact z0
    have a1 : W.cell? ⟨g, p * 3 + 1, none⟩ = some (.slice la ll lc) := by rw [BW.out.cell (lt_of_cell z1)]; exact z1
    go_quiet (fail)
    have B4 : Hid (Below W.heap.size W (W.drewN nq)) := Qt.below ⟨nq, rfl⟩ _
    have s0' : (W.drewN nq).cell? ⟨Y.heap.size, 0, none⟩ = some (.int .i64 kn) := by rw [B4.out.cell (lt_of_cell s0)]; exact s0
    have s1' : (W.drewN nq).cell? ⟨Y.heap.size, 1, none⟩ = some (.slice ja J.length jc) := by rw [B4.out.cell (lt_of_cell s1)]; exact s1
    generalize W.drewN nq = W2 at *
    have BV : Hid (Below wr.heap.size wr W2) := BW.out.trans (B4.out.mono BW.out.size)
    have hn : max 0 (min (kn : Int) ((bl : Int) - (ll : Int))) = (wthn kn (bl - ll) : Int) := by unfold wthn; omega
    have hnl : wthn kn (bl - ll) ≤ bl - ll := by unfold wthn; omega
    have hjn : Hid (jnk (flD f0) kn J = min J.length (min (bl - ll - wthn kn (bl - ll)) 512)) := by show _ = _; unfold jnk; rw [show (flD f0).by_.length = bl from hbl.out, show (flD f0).la.length = ll from hll.out]
    have hcr : Hid (crD f0 (kn, J) = (f0.2.1 ++ svd (flD f0) (wthn kn (bl - ll)) ++ J.take (jnk (flD f0) kn J), f0.2.1 ++ svd (flD f0) (wthn kn (bl - ll)) ++ J.take (jnk (flD f0) kn J), 0)) := by
     show _ = _
     unfold crD crF
     rw [show (flD f0).by_.length = bl from hbl.out, show (flD f0).la.length = ll from hll.out, List.append_assoc]
     rfl
    rw [hcr.out] at hst
    obtain ⟨nn, hnn⟩ : ∃ nn, Hid (wthn kn (bl - ll) = nn) := ⟨_, rfl⟩
    rw [hnn.out] at hn hnl hjn hst
    obtain ⟨jn, hjj⟩ : ∃ jn, Hid (jnk (flD f0) kn J = jn) := ⟨_, rfl⟩
    rw [hjj.out] at hjn hst
    have hjl : jn ≤ J.length ∧ jn ≤ 512 := by have := hjn.out; omega
    have hwr2 : IntKind.i64.wrap ((bl : Int) - (ll : Int) - (nn : Int)) = (bl : Int) - (ll : Int) - (nn : Int) := by rw [IntKind.wrap_i64]; omega
    have hLs : Hid (∀ q, Below wr.heap.size wr q → Calls Tryz.prog 90 #[.pointer (some ⟨g, p * 3, none⟩), .int .i64 (nn : Int)] q fun e w' => ∃ v', e = .returned v' ∧ Ob q.heap.size w' v' (f0.2.1 ++ svd (flD f0) nn) ∧ Below q.heap.size q w') := fun q hq => by
     refine lasting_ref q g (p * 3) VK.T[p].1 VK.T[p].2 (flD f0) f0.2.2 nn (by rw [hq.cell (lt_of_cell z0s.out)]; exact z0s.out) (by rw [hq.cell (lt_of_cell z1s.out)]; exact z1s.out) (by rw [hq.cell (lt_of_cell z2)]; exact z2) (OB1.out.below hq).sl (OB2.out.below hq).sl (by show f0.2.1.length + nn ≤ f0.1.length; rw [hbl.out, hll.out]; omega) (fun j => ?_) (by show (f0.1.length : Int) ≤ _; rw [hbl.out]; exact lb2)
     show ((f0.2.1.length + j : Nat) : Int) < f0.2.2 ↔ j < (f0.2.2 - (f0.2.1.length : Int)).toNat
     omega
    have svl : Hid ((f0.2.1 ++ svd (flD f0) nn).length ≤ 100000000) := by
     show _ ≤ _
     have := svd_len (flD f0) nn (by show f0.2.1.length + nn ≤ f0.1.length; rw [hbl.out, hll.out]; omega)
     rw [List.length_append, this, hll.out]
     omega
    obtain ⟨vN, hvN⟩ : ∃ vN, Hid ((f0.2.1 ++ svd (flD f0) nn).length = vN) := ⟨_, rfl⟩
    clear a0 a1 s0 s1
    go_upto_region 12 with (go_at_call 90; refine (hLs.out _ BV.out).mono ?_; rintro e w5 ⟨v5, rfl, O5, b5⟩; obtain ⟨va, vc, ev5, vl1, vl2⟩ := O5.form; rw [hvN.out] at ev5 vl1; subst ev5; replace O5 := hide O5; replace b5 := hide b5)
    have B5 : Hid (Below wr.heap.size wr w5) := BV.out.trans (b5.out.mono BV.out.size)
    have e1 : w5.cell? ⟨Y.heap.size, 1, none⟩ = some (.slice ja J.length jc) := by rw [b5.out.cell (lt_of_cell s1')]; exact s1'
    clear s0' s1'
    have V6 : Sl w5 (.slice ja jn jc) (J.take jn) := sl_take (Below.sl B5.out VJ.out) hjl.1
    obtain ⟨v6, w6, r6, O6, G6, A6⟩ := run_app O5.out V6 (by have := svl.out; rw [List.length_take]; omega) b5.out.size 30
    have wz : Hid (wr.heap.size ≤ W2.heap.size) := BV.out.size
    have X6 : Hid (Below wr.heap.size wr w6) := B5.out.grown G6 (Nat.le_trans BV.out.size b5.out.size) (fun j hj => by have q1 := (O5.out.lt j hj).1; have q2 := wz.out; omega)
    obtain ⟨c6a, c6c, e6, l61, l62⟩ := O6.form
    replace O6 : Hid (Ob W2.heap.size w6 v6 _) := hide O6
    have q1 : w6.cell? ⟨g, p * 3, none⟩ = some VK.T[p].1 := by rw [X6.out.cell (lt_of_cell z0s.out)]; exact z0s.out
    have FF := (MK.out.below X6.out).ff
    rw [evs.out] at FF
    have q2 : w6.frozen? ⟨g, p * 3, none⟩ = false := FF.frozenAt _
    have t1 := (FF.stored (p * 3) v6).1
    rw [fcells_setN _ _ p _ (f0.2.1 ++ svd (flD f0) nn ++ J.take jn) MK.out.ln hp hl'] at t1
    have g1 := But.of_grownBy (X := fun j => j = g) (grown_setCell w6 g (p * 3) v6) fun j e => by cases e; rfl
    have gz : Hid (g < wr.heap.size) := lt_of_cell z0s.out
    have v6n : Hid (∀ j, v6.ownBlock = some j → wr.heap.size ≤ j) := fun j hj => by have q1 := (O6.out.lt j hj).1; have q2 := wz.out; omega
    have O6' : Ob W2.heap.size (w6.setCell ⟨g, p * 3, none⟩ v6) v6 (f0.2.1 ++ svd (flD f0) nn ++ J.take jn) := O6.out.but g1 (fun j hj e => by have q1 := v6n.out j hj; have q2 := gz.out; omega)
    obtain ⟨v7, w7, r7, O7, G7, A7⟩ := run_app (w := w6.setCell ⟨g, p * 3, none⟩ v6) (Ob.nil (w6.setCell ⟨g, p * 3, none⟩ v6).heap.size _) O6'.sl (by have := svl.out; simp only [List.length_nil, List.length_append, List.length_take] at *; omega) (Nat.le_refl _) 30
    rw [List.nil_append] at O7
    have X7 : Hid (Below (w6.setCell ⟨g, p * 3, none⟩ v6).heap.size (w6.setCell ⟨g, p * 3, none⟩ v6) w7) := (Below.refl _ _).grown G7 (Nat.le_refl _) (fun j hj => by simp [Value.ownBlock] at hj)
    have t2 := owns_belowN t1 X7.out
    have L1 : p < (Rk.F.set p (f0.2.1 ++ svd (flD f0) nn ++ J.take jn, Rk.F[p].2)).length := by rw [List.length_set]; exact hp
    have L2 : p < (VK.T.set p (v6, VK.T[p].2)).length := by rw [List.length_set]; exact hl'
    have L3 : (VK.T.set p (v6, VK.T[p].2)).length = (Rk.F.set p (f0.2.1 ++ svd (flD f0) nn ++ J.take jn, Rk.F[p].2)).length := by rw [List.length_set, List.length_set]; exact MK.out.ln
    have hx := fcells_at _ _ L3 p L1 L2
    have q3 : w7.cell? ⟨g, p * 3 + 1, none⟩ = some VK.T[p].2 := by
     have := World.ownsRow.cells t2 (g := g) rfl _ _ hx.2.1
     rw [addr_add, Nat.zero_add, List.getElem_set_self] at this
     exact this
    have q4 : w7.frozen? ⟨g, p * 3 + 1, none⟩ = false := t2.frozenAt _
    have t3 := (t2.stored (p * 3 + 1) v7).1
    rw [fcells_setL _ _ p _ (f0.2.1 ++ svd (flD f0) nn ++ J.take jn) L3 L1 L2] at t3
    simp only [List.getElem_set_self, List.set_set] at t3
    have g3 := But.of_grownBy (X := fun j => j = g) (grown_setCell w7 g (p * 3 + 1) v7) fun j e => by cases e; rfl
    have L1' : p < (Rk.F.set p (f0.2.1 ++ svd (flD f0) nn ++ J.take jn, f0.2.1 ++ svd (flD f0) nn ++ J.take jn, Rk.F[p].2.2)).length := by rw [List.length_set]; exact hp
    have L2' : p < (VK.T.set p (v6, v7)).length := by rw [List.length_set]; exact hl'
    have L3' : (VK.T.set p (v6, v7)).length = (Rk.F.set p (f0.2.1 ++ svd (flD f0) nn ++ J.take jn, f0.2.1 ++ svd (flD f0) nn ++ J.take jn, Rk.F[p].2.2)).length := by rw [List.length_set, List.length_set]; exact MK.out.ln
    have hx' := fcells_at _ _ L3' p L1' L2'
    have q5 : (w7.setCell ⟨g, p * 3 + 1, none⟩ v7).cell? ⟨g, p * 3 + 2, none⟩ = some (.int .i64 f0.2.2) := by
     have := World.ownsRow.cells t3 (g := g) rfl _ _ hx'.2.2
     rw [addr_add, Nat.zero_add, List.getElem_set_self] at this
     rw [this]
     show some (Value.int .i64 (Rk.F[p]'hp).2.2) = _
     rw [hf0.out]
    have q6 : (w7.setCell ⟨g, p * 3 + 1, none⟩ v7).frozen? ⟨g, p * 3 + 2, none⟩ = false := t3.frozenAt _
    have t4 := (t3.stored (p * 3 + 2) (.int .i64 0)).1
    rw [fcells_setS _ _ p _ L3' L1' L2'] at t4
    simp only [List.getElem_set_self, List.set_set] at t4
    have g4 := But.of_grownBy (X := fun j => j = g) (grown_setCell (w7.setCell ⟨g, p * 3 + 1, none⟩ v7) g (p * 3 + 2) (.int .i64 0)) fun j e => by cases e; rfl
    have g34 := g3.trans g4
    have z6 : Hid (wr.heap.size ≤ (w6.setCell ⟨g, p * 3, none⟩ v6).heap.size) := Nat.le_trans X6.out.size g1.size
    have v7n : Hid (∀ j, v7.ownBlock = some j → (w6.setCell ⟨g, p * 3, none⟩ v6).heap.size ≤ j) := fun j hj => (O7.lt j hj).1
    have fin : Hid (Rgo wr ((w7.setCell ⟨g, p * 3 + 1, none⟩ v7).setCell ⟨g, p * 3 + 2, none⟩ (.int .i64 0)) b VK (Rk.one p (f0.2.1 ++ svd (flD f0) nn ++ J.take jn, f0.2.1 ++ svd (flD f0) nn ++ J.take jn, 0))) := by
     refine RM.file MK.out (i := p) hp hl' (t := (v6, v7)) ?_ ?_ ?_ ?_ (.inr v6n.out) (.inr fun j hj => ?_) ?_
     ·rw [evs.out]; exact t4
     ·exact Oc.of (((O6'.below X7.out).but g34 (fun j hj e => by have q1 := v6n.out j hj; have q2 := gz.out; omega)).low (Nat.zero_le _))
     ·exact Oc.of ((O7.but g34 (fun j hj e => by have q1 := v7n.out j hj; have q2 := gz.out; have q3 := z6.out; omega)).low (Nat.zero_le _))
     ·exact (((But.of_below X6.out _).trans (g1.mono fun j _ e => .inl (by rw [hg1, e]))).trans (But.of_below X7.out _)).trans (g34.mono fun j _ e => .inl (by rw [hg1, e]))
     ·have q1 := v7n.out j hj; have q3 := z6.out; omega
     ·intro j j1 j2
      have q1 := v7n.out j j2
      have q2 := (O6'.lt j j1).2
      omega
    have fin2 : Hid (Rgo w1 ((w7.setCell ⟨g, p * 3 + 1, none⟩ v7).setCell ⟨g, p * 3 + 2, none⟩ (.int .i64 0)) b V (crR L ks (k + 1) R)) := by
     show Rgo _ _ _ _ _
     rw [hst.out]
     exact fin.out.then XK.out UK.out
    obtain ⟨c7a, c7c, e7, l71, l72⟩ := O7.form
    obtain ⟨m6, hm6⟩ : ∃ m6, Hid ((f0.2.1 ++ svd (flD f0) nn ++ J.take jn).length = m6) := ⟨_, rfl⟩
    rw [hm6.out] at e6 e7 l61 l71
    subst e6
    subst e7
    have hmn : (if (512 : Int) < (if (bl : Int) - (ll : Int) - (nn : Int) < (J.length : Int) then (bl : Int) - (ll : Int) - (nn : Int) else (J.length : Int)) then (512 : Int) else (if (bl : Int) - (ll : Int) - (nn : Int) < (J.length : Int) then (bl : Int) - (ll : Int) - (nn : Int) else (J.length : Int))) = (jn : Int) := by have := hjn.out; (try simp only [List.length_nil] at this); split <;> split at * <;> omega
    have jc2 : jn ≤ jc := by omega
    have jc4 : jc ≤ 9223372036854775807 := by unfold maxLen at j4; omega
    replace r6 := hide r6
    replace r7 := hide r7
    clear t1 t2 t3 t4 FF g1 g3 g4 g34 fin L1 L2 L3 L1' L2' L3' hx hx' O6' O7 X7 G6 G7 A6 A7 V6
    go_upto_region 14 with (at_builtin; refine Lib.wpList_append_run _ rfl (.tmp 60) (.tmp 70) 30 30 rfl _ _ rfl rfl _ _ r6.out ?_)
    go_wp2_with (at_builtin; refine Lib.wpList_append_run _ rfl (.const (.slice none 0 0)) (.tmp 77) 30 30 rfl _ _ rfl rfl _ _ r7.out ?_)
    go_roundw
    case rel => exact ⟨k + 1, by go_num, by omega, fin2.out⟩
    case measure => simp [intOf]; omega
   ·have i2 : ¬ ((k : Int) < (KN : Int)) := by omega
    have hks2 : (kn, J) = ((0 : Int), ([] : List UInt8)) := by rw [← hKK.out, List.getD_eq_getElem?_getD, List.getElem?_eq_none (by rw [hKN.out]; omega)]; rfl
    simp only [Prod.mk.injEq] at hks2
    obtain ⟨rfl, rfl⟩ := hks2
    have VJ : Hid (Sl wr (.slice none 0 0) []) := (Ob.nil 0 wr).sl
    clear k3
    go_upto_region 5 with fail
    go_quiet (fail)
    have B3 : Hid (Below wr.heap.size wr (wr.drewN nq)) := Qt.below ⟨nq, rfl⟩ _
    generalize wr.drewN nq = Y at *
    have BK := hide (box_below Y (.cells #[.int .i64 0, .slice none 0 0] 88))
    have NK := hide (heap_alloc_new Y (.cells #[.int .i64 0, .slice none 0 0] 88))
    have k2Y : Hid ((Y.alloc (.cells #[.int .i64 0, .slice none 0 0] 88)).heap[w.heap.size]? = some (.cells #[.int .i64 d, .slice ka KN kc] 34 (0, 0))) := (BK.out.block _ (Nat.lt_of_lt_of_le hk1 B3.out.size)).trans ((B3.out.block _ hk1).trans k2)
    go_upto_region 7 with fail
    obtain ⟨YK, hYK⟩ : ∃ YK, Hid (Y.alloc (.cells #[.int .i64 0, .slice none 0 0] 88) = YK) := ⟨_, rfl⟩
    rw [hYK.out] at BK NK k2Y ⊢
    have u0 : YK.cell? ⟨w.heap.size, 1, none⟩ = some (.slice ka KN kc) := by simp [World.cell?, k2Y.out]
    have BY : Hid (Below wr.heap.size wr YK) := B3.out.trans (BK.out.mono B3.out.size)
    have yz : Hid (wr.heap.size ≤ Y.heap.size) := B3.out.size
    have s0 : YK.cell? ⟨Y.heap.size, 0, none⟩ = some (.int .i64 0) := by simp [World.cell?, NK.out]
    have s1 : YK.cell? ⟨Y.heap.size, 1, none⟩ = some (.slice none 0 0) := by simp [World.cell?, NK.out]
    have BW := BY
    go_upto_region 9 with fail
    obtain ⟨W, hW⟩ : ∃ W, Hid (YK = W) := ⟨_, rfl⟩
    rw [hW.out] at s0 s1 BW ⊢
    clear u0
    have a0 : W.cell? ⟨g, p * 3, none⟩ = some (.slice ta bl tc) := by rw [BW.out.cell (lt_of_cell z0)]; exact z0
    have a1 : W.cell? ⟨g, p * 3 + 1, none⟩ = some (.slice la ll lc) := by rw [BW.out.cell (lt_of_cell z1)]; exact z1
    go_quiet (fail)
    have B4 : Hid (Below W.heap.size W (W.drewN nq)) := Qt.below ⟨nq, rfl⟩ _
    have s0' : (W.drewN nq).cell? ⟨Y.heap.size, 0, none⟩ = some (.int .i64 0) := by rw [B4.out.cell (lt_of_cell s0)]; exact s0
    have s1' : (W.drewN nq).cell? ⟨Y.heap.size, 1, none⟩ = some (.slice none 0 0) := by rw [B4.out.cell (lt_of_cell s1)]; exact s1
    generalize W.drewN nq = W2 at *
    have BV : Hid (Below wr.heap.size wr W2) := BW.out.trans (B4.out.mono BW.out.size)
    have hn : max 0 (min (0 : Int) ((bl : Int) - (ll : Int))) = (wthn 0 (bl - ll) : Int) := by unfold wthn; omega
    have hnl : wthn 0 (bl - ll) ≤ bl - ll := by unfold wthn; omega
    have hjn : Hid (jnk (flD f0) 0 ([] : List UInt8) = min ([] : List UInt8).length (min (bl - ll - wthn 0 (bl - ll)) 512)) := by show _ = _; unfold jnk; rw [show (flD f0).by_.length = bl from hbl.out, show (flD f0).la.length = ll from hll.out]
    have hcr : Hid (crD f0 (0, ([] : List UInt8)) = (f0.2.1 ++ svd (flD f0) (wthn 0 (bl - ll)) ++ ([] : List UInt8).take (jnk (flD f0) 0 ([] : List UInt8)), f0.2.1 ++ svd (flD f0) (wthn 0 (bl - ll)) ++ ([] : List UInt8).take (jnk (flD f0) 0 ([] : List UInt8)), 0)) := by
     show _ = _
     unfold crD crF
     rw [show (flD f0).by_.length = bl from hbl.out, show (flD f0).la.length = ll from hll.out, List.append_assoc]
     rfl
    rw [hcr.out] at hst
    obtain ⟨nn, hnn⟩ : ∃ nn, Hid (wthn 0 (bl - ll) = nn) := ⟨_, rfl⟩
    rw [hnn.out] at hn hnl hjn hst
    obtain ⟨jn, hjj⟩ : ∃ jn, Hid (jnk (flD f0) 0 ([] : List UInt8) = jn) := ⟨_, rfl⟩
    rw [hjj.out] at hjn hst
    have hjl : jn ≤ ([] : List UInt8).length ∧ jn ≤ 512 := by have := hjn.out; omega
    have hwr2 : IntKind.i64.wrap ((bl : Int) - (ll : Int) - (nn : Int)) = (bl : Int) - (ll : Int) - (nn : Int) := by rw [IntKind.wrap_i64]; omega
    have hLs : Hid (∀ q, Below wr.heap.size wr q → Calls Tryz.prog 90 #[.pointer (some ⟨g, p * 3, none⟩), .int .i64 (nn : Int)] q fun e w' => ∃ v', e = .returned v' ∧ Ob q.heap.size w' v' (f0.2.1 ++ svd (flD f0) nn) ∧ Below q.heap.size q w') := fun q hq => by
     refine lasting_ref q g (p * 3) VK.T[p].1 VK.T[p].2 (flD f0) f0.2.2 nn (by rw [hq.cell (lt_of_cell z0s.out)]; exact z0s.out) (by rw [hq.cell (lt_of_cell z1s.out)]; exact z1s.out) (by rw [hq.cell (lt_of_cell z2)]; exact z2) (OB1.out.below hq).sl (OB2.out.below hq).sl (by show f0.2.1.length + nn ≤ f0.1.length; rw [hbl.out, hll.out]; omega) (fun j => ?_) (by show (f0.1.length : Int) ≤ _; rw [hbl.out]; exact lb2)
     show ((f0.2.1.length + j : Nat) : Int) < f0.2.2 ↔ j < (f0.2.2 - (f0.2.1.length : Int)).toNat
     omega
    have svl : Hid ((f0.2.1 ++ svd (flD f0) nn).length ≤ 100000000) := by
     show _ ≤ _
     have := svd_len (flD f0) nn (by show f0.2.1.length + nn ≤ f0.1.length; rw [hbl.out, hll.out]; omega)
     rw [List.length_append, this, hll.out]
     omega
    obtain ⟨vN, hvN⟩ : ∃ vN, Hid ((f0.2.1 ++ svd (flD f0) nn).length = vN) := ⟨_, rfl⟩
    clear a0 a1 s0 s1
    go_upto_region 12 with (go_at_call 90; refine (hLs.out _ BV.out).mono ?_; rintro e w5 ⟨v5, rfl, O5, b5⟩; obtain ⟨va, vc, ev5, vl1, vl2⟩ := O5.form; rw [hvN.out] at ev5 vl1; subst ev5; replace O5 := hide O5; replace b5 := hide b5)
    have B5 : Hid (Below wr.heap.size wr w5) := BV.out.trans (b5.out.mono BV.out.size)
    have e1 : w5.cell? ⟨Y.heap.size, 1, none⟩ = some (.slice none 0 0) := by rw [b5.out.cell (lt_of_cell s1')]; exact s1'
    clear s0' s1'
    have V6 : Sl w5 (.slice none jn 0) (([] : List UInt8).take jn) := sl_take (Below.sl B5.out VJ.out) hjl.1
    obtain ⟨v6, w6, r6, O6, G6, A6⟩ := run_app O5.out V6 (by have := svl.out; rw [List.length_take]; omega) b5.out.size 30
    have wz : Hid (wr.heap.size ≤ W2.heap.size) := BV.out.size
    have X6 : Hid (Below wr.heap.size wr w6) := B5.out.grown G6 (Nat.le_trans BV.out.size b5.out.size) (fun j hj => by have q1 := (O5.out.lt j hj).1; have q2 := wz.out; omega)
    obtain ⟨c6a, c6c, e6, l61, l62⟩ := O6.form
    replace O6 : Hid (Ob W2.heap.size w6 v6 _) := hide O6
    have q1 : w6.cell? ⟨g, p * 3, none⟩ = some VK.T[p].1 := by rw [X6.out.cell (lt_of_cell z0s.out)]; exact z0s.out
    have FF := (MK.out.below X6.out).ff
    rw [evs.out] at FF
    have q2 : w6.frozen? ⟨g, p * 3, none⟩ = false := FF.frozenAt _
    have t1 := (FF.stored (p * 3) v6).1
    rw [fcells_setN _ _ p _ (f0.2.1 ++ svd (flD f0) nn ++ ([] : List UInt8).take jn) MK.out.ln hp hl'] at t1
    have g1 := But.of_grownBy (X := fun j => j = g) (grown_setCell w6 g (p * 3) v6) fun j e => by cases e; rfl
    have gz : Hid (g < wr.heap.size) := lt_of_cell z0s.out
    have v6n : Hid (∀ j, v6.ownBlock = some j → wr.heap.size ≤ j) := fun j hj => by have q1 := (O6.out.lt j hj).1; have q2 := wz.out; omega
    have O6' : Ob W2.heap.size (w6.setCell ⟨g, p * 3, none⟩ v6) v6 (f0.2.1 ++ svd (flD f0) nn ++ ([] : List UInt8).take jn) := O6.out.but g1 (fun j hj e => by have q1 := v6n.out j hj; have q2 := gz.out; omega)
    obtain ⟨v7, w7, r7, O7, G7, A7⟩ := run_app (w := w6.setCell ⟨g, p * 3, none⟩ v6) (Ob.nil (w6.setCell ⟨g, p * 3, none⟩ v6).heap.size _) O6'.sl (by have := svl.out; simp only [List.length_nil, List.length_append, List.length_take] at *; omega) (Nat.le_refl _) 30
    rw [List.nil_append] at O7
    have X7 : Hid (Below (w6.setCell ⟨g, p * 3, none⟩ v6).heap.size (w6.setCell ⟨g, p * 3, none⟩ v6) w7) := (Below.refl _ _).grown G7 (Nat.le_refl _) (fun j hj => by simp [Value.ownBlock] at hj)
    have t2 := owns_belowN t1 X7.out
    have L1 : p < (Rk.F.set p (f0.2.1 ++ svd (flD f0) nn ++ ([] : List UInt8).take jn, Rk.F[p].2)).length := by rw [List.length_set]; exact hp
    have L2 : p < (VK.T.set p (v6, VK.T[p].2)).length := by rw [List.length_set]; exact hl'
    have L3 : (VK.T.set p (v6, VK.T[p].2)).length = (Rk.F.set p (f0.2.1 ++ svd (flD f0) nn ++ ([] : List UInt8).take jn, Rk.F[p].2)).length := by rw [List.length_set, List.length_set]; exact MK.out.ln
    have hx := fcells_at _ _ L3 p L1 L2
    have q3 : w7.cell? ⟨g, p * 3 + 1, none⟩ = some VK.T[p].2 := by
     have := World.ownsRow.cells t2 (g := g) rfl _ _ hx.2.1
     rw [addr_add, Nat.zero_add, List.getElem_set_self] at this
     exact this
    have q4 : w7.frozen? ⟨g, p * 3 + 1, none⟩ = false := t2.frozenAt _
    have t3 := (t2.stored (p * 3 + 1) v7).1
    rw [fcells_setL _ _ p _ (f0.2.1 ++ svd (flD f0) nn ++ ([] : List UInt8).take jn) L3 L1 L2] at t3
    simp only [List.getElem_set_self, List.set_set] at t3
    have g3 := But.of_grownBy (X := fun j => j = g) (grown_setCell w7 g (p * 3 + 1) v7) fun j e => by cases e; rfl
    have L1' : p < (Rk.F.set p (f0.2.1 ++ svd (flD f0) nn ++ ([] : List UInt8).take jn, f0.2.1 ++ svd (flD f0) nn ++ ([] : List UInt8).take jn, Rk.F[p].2.2)).length := by rw [List.length_set]; exact hp
    have L2' : p < (VK.T.set p (v6, v7)).length := by rw [List.length_set]; exact hl'
    have L3' : (VK.T.set p (v6, v7)).length = (Rk.F.set p (f0.2.1 ++ svd (flD f0) nn ++ ([] : List UInt8).take jn, f0.2.1 ++ svd (flD f0) nn ++ ([] : List UInt8).take jn, Rk.F[p].2.2)).length := by rw [List.length_set, List.length_set]; exact MK.out.ln
    have hx' := fcells_at _ _ L3' p L1' L2'
    have q5 : (w7.setCell ⟨g, p * 3 + 1, none⟩ v7).cell? ⟨g, p * 3 + 2, none⟩ = some (.int .i64 f0.2.2) := by
     have := World.ownsRow.cells t3 (g := g) rfl _ _ hx'.2.2
     rw [addr_add, Nat.zero_add, List.getElem_set_self] at this
     rw [this]
     show some (Value.int .i64 (Rk.F[p]'hp).2.2) = _
     rw [hf0.out]
    have q6 : (w7.setCell ⟨g, p * 3 + 1, none⟩ v7).frozen? ⟨g, p * 3 + 2, none⟩ = false := t3.frozenAt _
    have t4 := (t3.stored (p * 3 + 2) (.int .i64 0)).1
    rw [fcells_setS _ _ p _ L3' L1' L2'] at t4
    simp only [List.getElem_set_self, List.set_set] at t4
    have g4 := But.of_grownBy (X := fun j => j = g) (grown_setCell (w7.setCell ⟨g, p * 3 + 1, none⟩ v7) g (p * 3 + 2) (.int .i64 0)) fun j e => by cases e; rfl
    have g34 := g3.trans g4
    have z6 : Hid (wr.heap.size ≤ (w6.setCell ⟨g, p * 3, none⟩ v6).heap.size) := Nat.le_trans X6.out.size g1.size
    have v7n : Hid (∀ j, v7.ownBlock = some j → (w6.setCell ⟨g, p * 3, none⟩ v6).heap.size ≤ j) := fun j hj => (O7.lt j hj).1
    have fin : Hid (Rgo wr ((w7.setCell ⟨g, p * 3 + 1, none⟩ v7).setCell ⟨g, p * 3 + 2, none⟩ (.int .i64 0)) b VK (Rk.one p (f0.2.1 ++ svd (flD f0) nn ++ ([] : List UInt8).take jn, f0.2.1 ++ svd (flD f0) nn ++ ([] : List UInt8).take jn, 0))) := by
     refine RM.file MK.out (i := p) hp hl' (t := (v6, v7)) ?_ ?_ ?_ ?_ (.inr v6n.out) (.inr fun j hj => ?_) ?_
     ·rw [evs.out]; exact t4
     ·exact Oc.of (((O6'.below X7.out).but g34 (fun j hj e => by have q1 := v6n.out j hj; have q2 := gz.out; omega)).low (Nat.zero_le _))
     ·exact Oc.of ((O7.but g34 (fun j hj e => by have q1 := v7n.out j hj; have q2 := gz.out; have q3 := z6.out; omega)).low (Nat.zero_le _))
     ·exact (((But.of_below X6.out _).trans (g1.mono fun j _ e => .inl (by rw [hg1, e]))).trans (But.of_below X7.out _)).trans (g34.mono fun j _ e => .inl (by rw [hg1, e]))
     ·have q1 := v7n.out j hj; have q3 := z6.out; omega
     ·intro j j1 j2
      have q1 := v7n.out j j2
      have q2 := (O6'.lt j j1).2
      omega
    have fin2 : Hid (Rgo w1 ((w7.setCell ⟨g, p * 3 + 1, none⟩ v7).setCell ⟨g, p * 3 + 2, none⟩ (.int .i64 0)) b V (crR L ks (k + 1) R)) := by
     show Rgo _ _ _ _ _
     rw [hst.out]
     exact fin.out.then XK.out UK.out
    obtain ⟨c7a, c7c, e7, l71, l72⟩ := O7.form
    obtain ⟨m6, hm6⟩ : ∃ m6, Hid ((f0.2.1 ++ svd (flD f0) nn ++ ([] : List UInt8).take jn).length = m6) := ⟨_, rfl⟩
    rw [hm6.out] at e6 e7 l61 l71
    subst e6
    subst e7
    have hmn : (if (512 : Int) < (if (bl : Int) - (ll : Int) - (nn : Int) < (0 : Int) then (bl : Int) - (ll : Int) - (nn : Int) else (0 : Int)) then (512 : Int) else (if (bl : Int) - (ll : Int) - (nn : Int) < (0 : Int) then (bl : Int) - (ll : Int) - (nn : Int) else (0 : Int))) = (jn : Int) := by have := hjn.out; (try simp only [List.length_nil] at this); split <;> split at * <;> omega
    have hx0 : ¬ ((bl : Int) - (ll : Int) - (nn : Int) < 0) := by omega
    obtain rfl : jn = 0 := by simpa using hjl.1
    replace r6 := hide r6
    replace r7 := hide r7
    clear t1 t2 t3 t4 FF g1 g3 g4 g34 fin L1 L2 L3 L1' L2' L3' hx hx' O6' O7 X7 G6 G7 A6 A7 V6
    go_upto_region 14 with (at_builtin; refine Lib.wpList_append_run _ rfl (.tmp 60) (.tmp 70) 30 30 rfl _ _ rfl rfl _ _ r6.out ?_)
    go_wp2_with (at_builtin; refine Lib.wpList_append_run _ rfl (.const (.slice none 0 0)) (.tmp 77) 30 30 rfl _ _ rfl rfl _ _ r7.out ?_)
    go_roundw
    case rel => exact ⟨k + 1, by go_num, by omega, fin2.out⟩
    case measure => simp [intOf]; omega
  ·have i1 : ¬ ((k : Int) < (N : Int)) := by omega
   obtain rfl : k = N := by omega
   clear k1 k2 k3
   have hbx := MK.out.box
   obtain ⟨vo, wo, ro, Qo, Go_⟩ := run_appE (w := wr.setCell ⟨b, 2, none⟩ (.slice da k dc)) (En.nil wr.heap.size _) ((k4.but (But.of_grownBy (X := fun j => j = b) (grown_setCell wr b 2 (.slice da k dc)) fun j e => by cases e; rfl) (fun j hj e => by have q1 := (k4.lt j hj).1; have q2 := MK.out.lt 0 b rfl; have q3 := HM.out.lt 0 b rfl; have q4 := zf1.out; omega)).er) (by simp; have := hN3.out; have := hN.out; omega) (by simp) 100
   rw [List.nil_append] at Qo
   have X1 := But.of_grownBy (X := fun j => j = b) (grown_setCell wr b 2 (.slice da k dc)) fun j e => by cases e; rfl
   have Xo : Below (wr.setCell ⟨b, 2, none⟩ (.slice da k dc)).heap.size (wr.setCell ⟨b, 2, none⟩ (.slice da k dc)) wo := (Below.refl _ _).grown Go_ (Nat.le_refl _) (fun j hj => by simp [Value.ownBlock] at hj)
   have h1 := heap_setCell_same wr b 2 _ _ (.slice da k dc) hbx
   have h2 : wo.heap[b]? = _ := (Xo.block b (heap_lt h1)).trans h1
   obtain ⟨oa, on, oc, rfl⟩ : ∃ oa on oc, vo = .slice oa on oc := by rcases Qo.form with ⟨e, _⟩ | ⟨g, cap, e, _⟩ <;> exact ⟨_, _, _, e⟩
   have h3 := heap_setCell_same wo b 3 _ _ (.slice oa on oc) h2
   have h4 := heap_setCell_same _ b 4 _ _ (.slice none 0 0) h3
   have h5 := heap_setCell_same _ b 5 _ _ (.slice none 0 0) h4
   have h6 := heap_setCell_same _ b 16 _ _ (.bool false) h5
   have X3 := But.of_grownBy (X := fun j => j = b) (grown_setCell wo b 3 (.slice oa on oc)) fun j e => by cases e; rfl
   have X4 := But.of_grownBy (X := fun j => j = b) (grown_setCell (wo.setCell ⟨b, 3, none⟩ (.slice oa on oc)) b 4 (.slice none 0 0)) fun j e => by cases e; rfl
   have X5 := But.of_grownBy (X := fun j => j = b) (grown_setCell ((wo.setCell ⟨b, 3, none⟩ (.slice oa on oc)).setCell ⟨b, 4, none⟩ (.slice none 0 0)) b 5 (.slice none 0 0)) fun j e => by cases e; rfl
   have X6 := But.of_grownBy (X := fun j => j = b) (grown_setCell (((wo.setCell ⟨b, 3, none⟩ (.slice oa on oc)).setCell ⟨b, 4, none⟩ (.slice none 0 0)).setCell ⟨b, 5, none⟩ (.slice none 0 0)) b 16 (.bool false)) fun j e => by cases e; rfl
   have XA := ((X3.trans X4).trans X5).trans X6
   have XB := (X1.trans (But.of_below Xo _)).trans XA
   have hbk : ∀ j, (Value.slice da k dc).ownBlock = some j → w.heap.size ≤ j ∧ j < wr.heap.size ∧ j < w1.heap.size := fun j hj => by have q1 := k4.lt j hj; have q2 := (EE.out.lt j hj).2; have q4 := zf1.out; omega
   have Eo : En wr.heap.size ((((wo.setCell ⟨b, 3, none⟩ (.slice oa on oc)).setCell ⟨b, 4, none⟩ (.slice none 0 0)).setCell ⟨b, 5, none⟩ (.slice none 0 0)).setCell ⟨b, 16, none⟩ (.bool false)) (.slice oa on oc) L := Qo.but XA (fun j hj e => by have q1 := (Qo.lt j hj).1; have q2 := MK.out.lt 0 b rfl; omega)
   have Ed : En 0 ((((wo.setCell ⟨b, 3, none⟩ (.slice oa on oc)).setCell ⟨b, 4, none⟩ (.slice none 0 0)).setCell ⟨b, 5, none⟩ (.slice none 0 0)).setCell ⟨b, 16, none⟩ (.bool false)) (.slice da k dc) L := owns_lower2 (k4.but XB (fun j hj e => by have q1 := (hbk j hj).1; have q3 := HM.out.lt 0 b rfl; omega)) (Nat.zero_le _)
   have fin := MK.out.reset Ed (fun j hj => ⟨fun x hx => by
    rcases XK.out x j hx with c | c
    ·have q1 := (hbk j hj).1; have q2 := HM.out.lt x j c; omega
    ·have q1 := (hbk j hj).2.2; omega, (hbk j hj).2.1⟩) Eo XB h6
   have fin2 : Hid (Rgo w ((((wo.setCell ⟨b, 3, none⟩ (.slice oa on oc)).setCell ⟨b, 4, none⟩ (.slice none 0 0)).setCell ⟨b, 5, none⟩ (.slice none 0 0)).setCell ⟨b, 16, none⟩ (.bool false)) b V ((crR L ks k R).reset L)) := by
    refine ⟨⟨_, fin, fun x j hx => ?_⟩, ?_⟩
    ·by_cases x2 : x = 2
     ·subst x2; exact .inr (hbk j hx).1
     ·by_cases x3 : x = 3
      ·subst x3; right; have q1 := (Eo.lt j hx).1; have q2 := B1.out.size; have q3 := UK.out.size; omega
      ·by_cases x4 : x = 4
       ·subst x4; simp [blk, RV.reset, Value.ownBlock] at hx
       ·by_cases x5 : x = 5
        ·subst x5; simp [blk, RV.reset, Value.ownBlock] at hx
        ·rw [blk_reset b VK _ _ x x2 x3 x4 x5] at hx
         exact (XK.out x j hx).imp id fun c => Nat.le_trans B1.out.size c
    ·exact ((But.of_below B1.out _).trans UK.out).trans (XB.mono fun j _ e => ⟨0, by rw [e]; rfl⟩)
   have t2 : wr.cell? ⟨b, 2, none⟩ = some VK.vD := (MK.out.cell 2).trans rfl
   have t3 : wr.frozen? ⟨b, 2, none⟩ = false := by simp [World.frozen?, hbx]
   have t4 : wo.cell? ⟨b, 3, none⟩ = some VK.vO := by simp [World.cell?, h2, RB.cs]
   have t5 : wo.frozen? ⟨b, 3, none⟩ = false := by simp [World.frozen?, h2]
   have t6 : (wo.setCell ⟨b, 3, none⟩ (.slice oa on oc)).cell? ⟨b, 4, none⟩ = some VK.vP := by simp [World.cell?, h3, RB.cs]
   have t7 : (wo.setCell ⟨b, 3, none⟩ (.slice oa on oc)).frozen? ⟨b, 4, none⟩ = false := by simp [World.frozen?, h3]
   have t8 : ((wo.setCell ⟨b, 3, none⟩ (.slice oa on oc)).setCell ⟨b, 4, none⟩ (.slice none 0 0)).cell? ⟨b, 5, none⟩ = some VK.vA := by simp [World.cell?, h4, RB.cs]
   have t9 : ((wo.setCell ⟨b, 3, none⟩ (.slice oa on oc)).setCell ⟨b, 4, none⟩ (.slice none 0 0)).frozen? ⟨b, 5, none⟩ = false := by simp [World.frozen?, h4]
   have t10 : (((wo.setCell ⟨b, 3, none⟩ (.slice oa on oc)).setCell ⟨b, 4, none⟩ (.slice none 0 0)).setCell ⟨b, 5, none⟩ (.slice none 0 0)).cell? ⟨b, 16, none⟩ = some (.bool (crR L ks k R).down) := by simp [World.cell?, h5, RB.cs]
   have t11 : (((wo.setCell ⟨b, 3, none⟩ (.slice oa on oc)).setCell ⟨b, 4, none⟩ (.slice none 0 0)).setCell ⟨b, 5, none⟩ (.slice none 0 0)).frozen? ⟨b, 16, none⟩ = false := by simp [World.frozen?, h5]
   replace ro := hide ro
   clear h1 h2 h3 h4 h5 h6 X1 X3 X4 X5 X6 XA XB Xo Eo Ed fin Qo Go_ k4 hbk hbx
   go_wp2_with (at_builtin; refine Lib.wpList_append_run _ rfl (.const (.slice none 0 0)) (.tmp 89) 100 100 rfl _ _ rfl rfl _ _ ro.out ?_)
   go_end0
   exact ⟨rfl, fin2.out⟩
def RC.ch (c : RC) : Ch := if c.fr.data.toList = [] then .cr c.tn c.fi.toNat else if c.fi < 0 then .rm c.fr else .rn c.fr c.tn
def Chs : Dr → List RC → Prop
 | _, [] => True
 | l, c :: r => c.run l = c.ch.run l ∧ Chs (c.run l) r
theorem chs_runs : ∀ (P : List RC) (l : Dr), Chs l P → ∀ k, runR l (P.take k) = runs l ((P.map RC.ch).take k) := by
 intro P
 induction P with
 | nil => intro l _ k; simp [runR, runs]
 | cons c r ih =>
  intro l h k
  cases k with
  | zero => simp [runR, runs]
  | succ k =>
   have := ih _ h.2 k
   simp only [List.take_succ_cons, List.map_cons, runR, runs, List.foldl_cons] at *
   rw [← h.1]
   exact this
theorem chs_all {P : List RC} {l : Dr} (h : Chs l P) : runR l P = runs l (P.map RC.ch) := by
 have := chs_runs P l h P.length
 rw [List.take_length] at this
 rw [this]
 congr 1
 rw [List.take_of_length_le (by rw [List.length_map]; exact Nat.le_refl _)]
theorem chs_snoc : ∀ (P : List RC) (l : Dr) (c : RC), Chs l P → c.run (runR l P) = c.ch.run (runR l P) → Chs l (P ++ [c]) := by
 intro P
 induction P with
 | nil => intro l c _ h; exact ⟨h, trivial⟩
 | cons a r ih => intro l c h h2; exact ⟨h.1, ih _ c h.2 h2⟩
def RB.ds (R : RB) (al : Ar) : DS := ⟨R.most, !R.down, R.old, R.pe.map RC.ch, al, R.c0, R.c1, R.c2, R.c3, R.c4, R.c5, R.c6, R.c7, R.c8, fun p => flD (R.fOf p)⟩
structure RI (R : RB) : Prop where
 ok : R.ok
 most : 0 ≤ R.most ∧ R.most ≤ 16777216
 dir : R.dir = runR R.old R.pe
 rise : Rise R.old
 chs : Chs R.old R.pe
 old : ∀ e ∈ R.old, e.2 < R.F.length
 pe : ∀ c ∈ R.pe, -1 ≤ c.fi ∧ c.fi < (R.F.length : Int) ∧ (c.fr.data.toList = [] → 0 ≤ c.fi)
 fi : ∀ f ∈ R.F, f.2.1.length ≤ f.1.length ∧ f.1.length ≤ 16777216
 cnt : ((R.old.length + R.pe.length : Nat) : Int) ≤ R.c7
 fl : (R.F.length : Int) ≤ R.c7
 c8 : 0 ≤ R.c8 ∧ R.c8 ≤ 16777216 * R.c7
 part : ∀ f ∈ R.fs, 1 ≤ f.2.1 ∧ f.2.1 ≤ 3 ∧ 0 ≤ f.2.2
 few : ∀ k, (runR R.old (R.pe.take k)).length ≤ 256
def ArmR (R : RB) (al : Ar) : Prop := ∀ n : Int, R.c7 < n → aget al n = R.fs.find? fun f => f.1 == n - R.c7 + R.si
theorem rise_ddel {l : Dr} (h : Rise l) (n : List UInt8) : Rise (ddel l n) := List.Pairwise.filter _ h
theorem less_lt : ∀ (x y : List UInt8), Op.bytesLess x y = decide (x < y)
 | [], [] => by simp [Op.bytesLess]
 | _ :: _, [] => by simp [Op.bytesLess]
 | [], _ :: _ => by simp [Op.bytesLess]
 | a :: x, b :: y => by
  rw [Op.bytesLess, less_lt x y]
  by_cases h1 : a < b
  ·simp [h1, List.cons_lt_cons_iff]
  ·by_cases h2 : a = b
   ·subst h2; simp [h1]
   ·simp [h1, h2, List.cons_lt_cons_iff]
theorem before_lt (x y : List UInt8) : bytesBefore x y = decide (x < y) := by rw [← less_before, less_lt]
theorem before_or {x y : List UInt8} (h : bytesBefore x y = false) (hne : y ≠ x) : bytesBefore y x = true := by
 rw [before_lt] at *
 simp only [decide_eq_false_iff_not, decide_eq_true_eq] at *
 have h1 : y ≤ x := List.not_lt.1 h
 exact Classical.byContradiction fun c => hne (List.le_antisymm h1 (List.not_lt.1 c))
theorem rise_dins {x : List UInt8 × Nat} : ∀ {l : Dr}, Rise l → (∀ e ∈ l, e.1 ≠ x.1) → Rise (dins x l) := by
 intro l
 induction l with
 | nil => intro _ _; exact List.pairwise_singleton _ _
 | cons y r ih =>
  intro h hx
  obtain ⟨h1, h2⟩ := List.pairwise_cons.1 h
  unfold dins
  split
  ·rename_i q
   refine List.pairwise_cons.2 ⟨fun e he => ?_, h⟩
   rcases List.mem_cons.1 he with rfl | he
   ·exact q
   ·exact Go.WideShapes.bytes_trans _ _ _ q (h1 e he)
  ·rename_i q
   have hy : bytesBefore y.1 x.1 = true := before_or (by simpa using q) (hx y (by simp))
   refine List.pairwise_cons.2 ⟨fun e he => ?_, ih h2 (fun e he => hx e (by simp [he]))⟩
   rcases dins_mem he with rfl | he
   ·exact hy
   ·exact h1 e he
theorem rise_dput {l : Dr} (h : Rise l) (n : List UInt8) (p : Nat) : Rise (dput l n p) := rise_dins (rise_ddel h n) (fun e he => (mem_ddel he).2)
theorem rise_one {l : Dr} (h : Rise l) (c : RC) : Rise (c.one l) := by unfold RC.one; split; exact h; exact rise_ddel h _
theorem rise_run {l : Dr} (h : Rise l) (c : RC) : Rise (c.run l) := by
 unfold RC.run
 split
 ·exact rise_dput (rise_one h c) _ _
 ·exact rise_one h c
theorem rise_runR {P : List RC} : ∀ {l : Dr}, Rise l → Rise (runR l P) := by
 induction P with
 | nil => intro l h; exact h
 | cons c r ih => intro l h; exact ih (rise_run h c)
theorem mem_one {l : Dr} {c : RC} {e : List UInt8 × Nat} (h : e ∈ c.one l) : e ∈ l := by
 unfold RC.one at h
 split at h
 ·exact h
 ·exact ddel_mem h
theorem mem_runR {P : List RC} : ∀ {l : Dr} {e : List UInt8 × Nat}, e ∈ runR l P → e.2 ∈ l.map (·.2) ∨ ∃ c ∈ P, 0 ≤ c.fi ∧ e.2 = c.fi.toNat := by
 induction P with
 | nil => intro l e h; exact .inl (List.mem_map.2 ⟨e, h, rfl⟩)
 | cons c r ih =>
  intro l e h
  rcases ih (l := c.run l) h with q | ⟨c', hc, q⟩
  ·obtain ⟨x, hx, e2⟩ := List.mem_map.1 q
   unfold RC.run at hx
   split at hx
   ·rename_i h0
    rcases dput_mem hx with rfl | hx
    ·exact .inr ⟨c, by simp, h0, e2.symm⟩
    ·exact .inl (List.mem_map.2 ⟨x, mem_one hx, e2⟩)
   ·exact .inl (List.mem_map.2 ⟨x, mem_one hx, e2⟩)
  ·exact .inr ⟨c', by simp [hc], q⟩
theorem RI.front {R : RB} (h : RI R) (n : Int) : ∀ e ∈ R.front n, e.2 < R.F.length := fun e he => by
 rcases mem_runR he with q | ⟨c, hc, h0, q⟩
 ·obtain ⟨x, hx, e2⟩ := List.mem_map.1 q
  rw [← e2]
  exact h.old x hx
 ·have := (h.pe c (List.mem_of_mem_take hc)).2.1
  omega
theorem front_all (R : RB) : runR R.old R.pe = R.front (R.pe.length : Int) := by unfold RB.front; rw [Int.toNat_natCast, List.take_length]
theorem RI.dirF {R : RB} (h : RI R) : ∀ e ∈ R.dir, e.2 < R.F.length := by rw [h.dir, front_all]; exact h.front _
theorem RI.dirR {R : RB} (h : RI R) : Rise R.dir := by rw [h.dir]; exact rise_runR h.rise
theorem RI.la {R : RB} (h : RI R) : ∀ f ∈ R.F, f.2.1.length ≤ f.1.length ∧ (f.1.length : Int) ≤ 100000000 := fun f hf => ⟨(h.fi f hf).1, by have := (h.fi f hf).2; omega⟩
theorem RI.dlen {R : RB} (h : RI R) : R.dir.length ≤ 256 := by have := h.few R.pe.length; rw [List.take_length] at this; rw [h.dir]; exact this
theorem RI.pf {R : RB} (h : RI R) (hc : R.c7 ≤ 1000000000) : ∀ c ∈ R.pe, -9223372036854775808 ≤ c.fi ∧ c.fi ≤ 9223372036854775807 := fun c hm => by have := h.pe c hm; have := h.fl; omega
theorem ds_dir {R : RB} (h : RI R) (al : Ar) : (R.ds al).dir = R.dir := by
 show runs R.old (R.pe.map RC.ch) = _
 rw [h.dir, chs_all h.chs]
theorem ds_front {R : RB} (h : RI R) (al : Ar) (n : Int) : (R.ds al).front n = R.front n := by
 show runs R.old ((R.pe.map RC.ch).take (wthn n (R.pe.map RC.ch).length)) = _
 unfold RB.front
 rw [chs_runs _ _ h.chs]
 congr 1
 unfold wthn
 rw [List.length_map]
 by_cases q : n.toNat ≤ R.pe.length
 ·rw [Nat.min_eq_left q]
 ·rw [Nat.min_eq_right (by omega), List.take_of_length_le (by rw [List.length_map]; exact Nat.le_refl _), List.take_of_length_le (by rw [List.length_map]; omega)]
theorem ds_ps {R : RB} (h : RI R) (al : Ar) : ∀ p ∈ (R.ds al).ps, p < R.F.length := fun p hp => by
 unfold DS.ps at hp
 rcases List.mem_append.1 hp with q | q
 ·obtain ⟨x, hx, e2⟩ := List.mem_map.1 q
  rw [← e2]
  exact h.old x hx
 ·obtain ⟨c, hc, e⟩ := List.mem_filterMap.1 q
  obtain ⟨x, hx, rfl⟩ := List.mem_map.1 hc
  have := h.pe x hx
  unfold RC.ch at e
  split at e
  ·rename_i h0
   have h1 := this.2.2 h0
   simp only [Ch.ptr, Option.some.injEq] at e
   omega
  ·split at e <;> simp [Ch.ptr] at e
end Go.Proofs.YtjehpijjneghpaaGreat.Re
namespace Go.Proofs.YtjehpijjneghpaaGreat.Re
open Go.RowKit Go.Maps Go.Sort Go.Shelf Go.Proofs.YtjehpijjneghpaaGreat.Nm Go.Proofs.YtjehpijjneghpaaGreat.Dk
variable {R : RB} {al : Ar}
theorem aget_adel (l : Ar) (n k : Int) : aget (adel l n) k = if n = k then none else aget l k := by
 unfold aget adel
 induction l with
 | nil => simp
 | cons y r ih =>
  by_cases e : y.1 = n
  ·subst e
   rw [List.filter_cons_of_neg (by simp), ih, List.find?_cons]
   by_cases e2 : y.1 = k
   ·simp [e2]
   ·simp only [show (y.1 == k) = false by simpa using e2, if_neg e2]
  ·rw [List.filter_cons_of_pos (by simpa using e), List.find?_cons, List.find?_cons]
   by_cases e2 : y.1 = k
   ·subst e2
    simp [Ne.symm e]
   ·simp only [show (y.1 == k) = false by simpa using e2]
    exact ih
theorem aget_ains {x : Int × Ft} {l : Ar} (hx : ∀ e ∈ l, e.1 ≠ x.1) (k : Int) : aget (ains x l) k = if x.1 = k then some x.2 else aget l k := by
 induction l with
 | nil => unfold aget ains; by_cases e : x.1 = k <;> simp [e]
 | cons y r ih =>
  have ih := ih (fun e he => hx e (by simp [he]))
  have hy := hx y (by simp)
  unfold ains
  split
  ·unfold aget
   rw [List.find?_cons]
   by_cases e : x.1 = k
   ·simp [e]
   ·simp only [show (x.1 == k) = false by simpa using e, if_neg e]
  ·unfold aget at ih ⊢
   rw [List.find?_cons, List.find?_cons]
   by_cases e : y.1 = k
   ·subst e
    simp [Ne.symm hy]
   ·simp only [show (y.1 == k) = false by simpa using e]
    exact ih
theorem aget_aput (l : Ar) (n : Int) (f : Ft) (k : Int) : aget (aput l n f) k = if n = k then some f else aget l k := by
 unfold aput
 rw [aget_ains (fun e he => by have := (List.mem_filter.1 he).2; simpa using this), aget_adel]
 split <;> rfl
theorem ds_flt (A : ArmR R al) : (R.ds al).flt = R.flt := by
 show (aget al (R.c7 + 1)).getD zf = rfl1 R.fs (R.si + 1)
 rw [A _ (by omega), show R.c7 + 1 - R.c7 + R.si = R.si + 1 by omega]
 rfl
theorem RI.flt (I : RI R) : (0 ≤ R.flt.2.1 ∧ R.flt.2.1 ≤ 3) ∧ 0 ≤ R.flt.2.2 := by
 unfold RB.flt rfl1
 cases hf : R.fs.find? (fun f => f.1 == R.si + 1) with
 | none => simp [zf]
 | some f => have := I.part f (List.mem_of_find?_eq_some hf); simp only [Option.getD_some]; omega
theorem beg_more (R : RB) (j : Nat) : (R.beg j).c7 = R.c7 + 1 ∧ (R.beg j).si = R.si + 1 ∧ (R.beg j).c8 = R.c8 ∧ (R.beg j).down = (R.down || decide (R.flt.2.1 = 3)) := by
 unfold RB.beg
 split <;> exact ⟨rfl, rfl, rfl, rfl⟩
theorem ds_hit (A : ArmR R al) (j : Nat) : (R.ds al).hit j = (R.beg j).ds (adel al (R.c7 + 1)) := by
 unfold DS.hit DS.str
 rw [ds_flt A]
 rcases j with _ | _ | _ | _ | _ | _ | _ | j <;> by_cases h : R.flt.2.1 = 3 <;> simp [DS.beg, RB.beg, RB.tick, RB.ds, RB.fOf, h]
theorem ds_beg (A : ArmR R al) (h : R.flt.2.1 ≠ 3) (j : Nat) : (R.ds al).beg j = (R.beg j).ds (adel al (R.c7 + 1)) := by
 rw [← ds_hit A]
 unfold DS.hit DS.str
 rw [ds_flt A, if_neg h]
theorem ArmR.of {R' : RB} (A : ArmR R al) (e1 : R'.c7 = R.c7) (e2 : R'.fs = R.fs) (e3 : R'.si = R.si) : ArmR R' al := fun n hn => by rw [e1] at hn; rw [e1, e2, e3]; exact A n hn
theorem ArmR.beg (A : ArmR R al) (j : Nat) : ArmR (R.beg j) (adel al (R.c7 + 1)) := fun n hn => by
 obtain ⟨e1, e2, _⟩ := beg_more R j
 obtain ⟨_, _, _, _, e5, _⟩ := beg_same R j
 rw [e1] at hn
 rw [e1, e2, e5, aget_adel, if_neg (by omega), A n (by omega), show n - (R.c7 + 1) + (R.si + 1) = n - R.c7 + R.si by omega]
theorem ri_beg (I : RI R) (j : Nat) : RI (R.beg j) := by
 obtain ⟨b1, b2, b3, b4, b5, b6⟩ := beg_same R j
 obtain ⟨e1, e2, e3, _⟩ := beg_more R j
 have hok : (R.beg j).ok := by
  obtain ⟨l0, l1, l2, l3, l4, l5, l6, l7, l8⟩ := I.ok.lo
  obtain ⟨m0, m1, m2, m3, m4, m5, m6, m8⟩ := I.ok.hi
  rcases j with _ | _ | _ | _ | _ | _ | _ | j <;>
   exact ⟨⟨by simp only [RB.beg, RB.tick]; omega, by simp only [RB.beg, RB.tick]; omega, by simp only [RB.beg, RB.tick]; omega, by simp only [RB.beg, RB.tick]; omega, by simp only [RB.beg, RB.tick]; omega, by simp only [RB.beg, RB.tick]; omega, by simp only [RB.beg, RB.tick]; omega, by simp only [RB.beg, RB.tick]; omega, by simp only [RB.beg, RB.tick]; omega⟩,
    ⟨by simp only [RB.beg, RB.tick]; omega, by simp only [RB.beg, RB.tick]; omega, by simp only [RB.beg, RB.tick]; omega, by simp only [RB.beg, RB.tick]; omega, by simp only [RB.beg, RB.tick]; omega, by simp only [RB.beg, RB.tick]; omega, by simp only [RB.beg, RB.tick]; omega, by simp only [RB.beg, RB.tick]; omega⟩, I.ok.no4⟩
 have := I.cnt
 have := I.fl
 have := I.c8
 exact ⟨hok, by rw [b6]; exact I.most, by rw [b2, b3, b4]; exact I.dir, by rw [b3]; exact I.rise, by rw [b3, b4]; exact I.chs, by rw [b3, b1]; exact I.old, by rw [b4, b1]; exact I.pe, by rw [b1]; exact I.fi, by rw [b3, b4, e1]; omega, by rw [b1, e1]; omega, by rw [e3, e1]; omega, by rw [b5]; exact I.part, by rw [b3, b4]; exact I.few⟩
theorem ri_chg (I : RI R) (c : RC) (h1 : c.run R.dir = c.ch.run R.dir) (h2 : -1 ≤ c.fi ∧ c.fi < (R.F.length : Int) ∧ (c.fr.data.toList = [] → 0 ≤ c.fi)) (h3 : (c.run R.dir).length ≤ 256) (h4 : ((R.old.length + R.pe.length : Nat) : Int) + 1 ≤ R.c7) : RI (R.chg c) := by
 refine ⟨⟨I.ok.lo, I.ok.hi, I.ok.no4⟩, I.most, ?_, I.rise, chs_snoc _ _ _ I.chs (by show c.run (runR R.old R.pe) = c.ch.run (runR R.old R.pe); rw [← I.dir]; exact h1), I.old, fun x hx => ?_, I.fi, ?_, I.fl, I.c8, I.part, fun k => ?_⟩
 ·show c.run R.dir = runR R.old (R.pe ++ [c])
  rw [runR_snoc, ← I.dir]
 ·rcases List.mem_append.1 hx with q | q
  ·exact I.pe x q
  ·rw [List.mem_singleton.1 q]; exact h2
 ·show ((R.old.length + (R.pe ++ [c]).length : Nat) : Int) ≤ R.c7
  rw [List.length_append]
  simp only [List.length_singleton]
  omega
 ·show (runR R.old ((R.pe ++ [c]).take k)).length ≤ 256
  by_cases q : k ≤ R.pe.length
  ·rw [List.take_append_of_le_length q]; exact I.few k
  ·rw [List.take_of_length_le (by rw [List.length_append]; simp; omega), runR_snoc, ← I.dir]; exact h3
theorem fOf_one (R : RB) {p : Nat} (hp : p < R.F.length) (f : FD) (q : Nat) : (R.one p f).fOf q = if q = p then f else R.fOf q := by
 show ((R.F.set p f)[q]?).getD ([], [], 0) = _
 by_cases e : q = p
 ·subst e
  rw [if_pos rfl, List.getElem?_set_self hp]
  rfl
 ·rw [if_neg e, List.getElem?_set_ne (Ne.symm e)]
  rfl
theorem ds_one {p : Nat} (hp : p < R.F.length) (f : FD) (al : Ar) : (R.one p f).ds al = { R.ds al with F := upd (R.ds al).F p (flD f) } := by
 have : (fun q => flD ((R.one p f).fOf q)) = upd (R.ds al).F p (flD f) := by
  funext q
  rw [fOf_one R hp]
  unfold upd
  split <;> rfl
 unfold RB.ds at *
 rw [this]
 rfl
theorem ri_one (I : RI R) {p : Nat} (hp : p < R.F.length) {f : FD} (hf : f.2.1.length ≤ f.1.length ∧ f.1.length ≤ 16777216) : RI (R.one p f) := by
 have hl : (R.one p f).F.length = R.F.length := by show (R.F.set p f).length = _; rw [List.length_set]
 refine ⟨⟨I.ok.lo, I.ok.hi, I.ok.no4⟩, I.most, I.dir, I.rise, I.chs, by rw [hl]; exact I.old, by rw [hl]; exact I.pe, fun x hx => ?_, I.cnt, by rw [hl]; exact I.fl, I.c8, I.part, I.few⟩
 rcases List.mem_or_eq_of_mem_set hx with q | q
 ·exact I.fi x q
 ·rw [q]; exact hf
theorem ri_put (I : RI R) {n : Int} (h : 0 ≤ n ∧ n ≤ 16777216 * R.c7) : RI (R.put n) := ⟨⟨I.ok.lo, I.ok.hi, I.ok.no4⟩, I.most, I.dir, I.rise, I.chs, I.old, I.pe, I.fi, I.cnt, I.fl, h, I.part, I.few⟩
theorem fOf_file (R : RB) (q : Nat) : R.file.fOf q = R.fOf q := by
 show ((R.F ++ [([], [], 0)])[q]?).getD ([], [], 0) = (R.F[q]?).getD ([], [], 0)
 by_cases h : q < R.F.length
 ·rw [List.getElem?_append_left h]
 ·rw [List.getElem?_eq_none (l := R.F) (by omega)]
  by_cases h2 : q = R.F.length
  ·subst h2; simp
  ·rw [List.getElem?_eq_none (by simp; omega)]
theorem fOf_out (R : RB) {q : Nat} (h : R.F.length ≤ q) : R.fOf q = ([], [], 0) := by unfold RB.fOf; rw [List.getElem?_eq_none h]; rfl
theorem ri_file (I : RI R) (h : (R.F.length : Int) + 1 ≤ R.c7) : RI R.file := by
 have hl : R.file.F.length = R.F.length + 1 := by show (R.F ++ _).length = _; rw [List.length_append]; rfl
 refine ⟨⟨I.ok.lo, I.ok.hi, I.ok.no4⟩, I.most, I.dir, I.rise, I.chs, fun e he => by have := I.old e he; rw [hl]; omega, fun c hc => ⟨(I.pe c hc).1, by have := (I.pe c hc).2.1; rw [hl]; omega, (I.pe c hc).2.2⟩, fun x hx => ?_, I.cnt, by show (R.file.F.length : Int) ≤ R.c7; rw [hl]; omega, I.c8, I.part, I.few⟩
 rcases List.mem_append.1 hx with q | q
 ·exact I.fi x q
 ·rw [List.mem_singleton.1 q]; exact ⟨Nat.le_refl _, Nat.zero_le _⟩
theorem ds_ref1 (R : RB) (al : Ar) (s : ByteArray) : (R.ds al).ref [s] = refN R.down R.dir s false := by
 unfold DS.ref refN RB.ds
 cases R.down <;> simp
theorem ds_find (I : RI R) (al : Ar) (s : ByteArray) : (R.ds al).find s = if refN R.down R.dir s true = 0 then (some (R.pOf s), 0) else (none, refN R.down R.dir s true) := by
 unfold DS.find
 rw [ds_ref1, ds_dir I]
 by_cases h0 : refN R.down R.dir s false = 0
 ·rw [if_pos h0]
  have hx : refN R.down R.dir s true = if (Dk.get R.dir s.data.toList).isNone then 6 else 0 := by
   unfold refN at h0 ⊢
   split at h0
   ·cases h0
   ·split at h0
    ·simp only [Bool.true_and]
     rename_i a b
     rw [if_neg a, if_pos b]
    ·cases h0
  cases hg : Dk.get R.dir s.data.toList with
  | none => rw [hg] at hx; simp only [Option.isNone_none, if_true] at hx; rw [hx]; simp
  | some p =>
   rw [hg] at hx
   simp only [Option.isNone_some, Bool.false_eq_true, if_false] at hx
   rw [hx, if_pos rfl]
   have : R.pOf s = p := by unfold RB.pOf findN; rw [hg]; exact Int.toNat_natCast p
   rw [this]
 ·have hx : refN R.down R.dir s true = refN R.down R.dir s false := by
    unfold refN at h0 ⊢
    split
    ·rfl
    ·rename_i a
     rw [if_neg a] at h0
     by_cases b : may s.data.toList = true
     ·rw [if_pos b] at h0; simp at h0
     ·rw [if_neg b, if_neg b]
  rw [if_neg h0, hx, if_neg h0]
theorem strF_told {k : Int} (h : 0 ≤ k ∧ k ≤ 3) : (strF k ≠ 0 ↔ k ≠ 0) ∧ (k ≠ 0 → strF k = toldN k) := by
 have : k = 0 ∨ k = 1 ∨ k = 2 ∨ k = 3 := by omega
 rcases this with rfl | rfl | rfl | rfl <;> simp [strF, toldN]
theorem strR_strN {k : Int} (h : 0 ≤ k ∧ k ≤ 3) : strR k = strN k := by
 have : k = 0 ∨ k = 1 ∨ k = 2 ∨ k = 3 := by omega
 rcases this with rfl | rfl | rfl | rfl <;> simp [strR, strF, strN, toldN]
theorem ri_create (I : RI R) (s : ByteArray) : RI (R.create s).1 := by
 unfold RB.create
 split
 ·exact I
 ·split
  ·exact I
  ·split
   ·exact I
   ·split
    ·exact ri_beg I 0
    ·rename_i h256 _
     obtain ⟨b1, b2, b3, b4, b5, b6⟩ := beg_same R 0
     obtain ⟨e1, _⟩ := beg_more R 0
     have hl : (R.beg 0).file.F.length = R.F.length + 1 := by show ((R.beg 0).F ++ _).length = _; rw [List.length_append, b1]; rfl
     have hr : ∀ l : Dr, RC.run ⟨s, (R.F.length : Int), ⟨#[]⟩⟩ l = dput l s.data.toList R.F.length := fun l => by
      unfold RC.run RC.one
      simp
     refine ri_chg (ri_file (ri_beg I 0) (by rw [b1, e1]; have := I.fl; omega)) _ ?_ ⟨?_, ?_, fun _ => ?_⟩ ?_ ?_
     ·rw [hr]
      rfl
     ·show (-1 : Int) ≤ (R.F.length : Int); omega
     ·show (R.F.length : Int) < _; rw [hl]; omega
     ·show (0 : Int) ≤ (R.F.length : Int); omega
     ·rw [hr]
      have h1 := dput_le (R.beg 0).file.dir s.data.toList R.F.length
      have h2 : (R.beg 0).file.dir.length = R.dir.length := by show (R.beg 0).dir.length = _; rw [b2]
      have := I.dlen
      omega
     ·show (((R.beg 0).old.length + (R.beg 0).pe.length : Nat) : Int) + 1 ≤ (R.beg 0).c7
      rw [b3, b4, e1]
      have := I.cnt
      omega
theorem ds_create (I : RI R) (A : ArmR R al) (s : ByteArray) : ∃ al', (R.ds al).create s R.F.length = ((R.create s).1.ds al', (R.create s).2) ∧ ArmR (R.create s).1 al' := by
 have hf := I.flt.1
 have hg : (Dk.get R.dir s.data.toList).isSome = true ↔ ¬ findN R.dir s.data.toList < 0 := by
  rw [findN_neg]
  cases h : Dk.get R.dir s.data.toList <;> simp
 have hd := I.dlen
 have eS : (R.ds al).create s R.F.length = if refN R.down R.dir s false ≠ 0 then (R.ds al, refN R.down R.dir s false) else if (Dk.get R.dir s.data.toList).isSome then (R.ds al, 7) else if 256 ≤ R.dir.length then (R.ds al, 9) else if strF R.flt.2.1 ≠ 0 then ((R.beg 0).ds (adel al (R.c7 + 1)), strF R.flt.2.1) else ({ (R.beg 0).ds (adel al (R.c7 + 1)) with P := (R.ds al).P ++ [.cr s R.F.length], F := upd (R.ds al).F R.F.length ⟨[], [], 0⟩ }, 0) := by
  have hh := ds_hit A 0
  unfold DS.hit at hh
  rw [ds_flt A] at hh
  unfold DS.create
  rw [ds_ref1, ds_dir I, ds_flt A, hh]
 by_cases h0 : refN R.down R.dir s false = 0
 ·by_cases h1 : findN R.dir s.data.toList < 0
  ·by_cases h2 : R.dir.length = 256
   ·have e1 : R.create s = (R, 9) := by unfold RB.create; rw [if_neg (by simp [h0]), if_neg (by simpa using h1), if_pos h2]
    rw [eS, e1, if_neg (by simp [h0]), if_neg (fun c => hg.1 c h1), if_pos (by omega)]
    exact ⟨al, rfl, A⟩
   ·by_cases h3 : R.flt.2.1 = 0
    ·have e1 : R.create s = ((R.beg 0).file.chg ⟨s, (R.F.length : Int), ⟨#[]⟩⟩, 0) := by unfold RB.create; rw [if_neg (by simp [h0]), if_neg (by simpa using h1), if_neg h2, if_neg (by simp [h3])]
     rw [eS, e1, if_neg (by simp [h0]), if_neg (fun c => hg.1 c h1), if_neg (by omega), if_neg (by simp [h3, strF])]
     refine ⟨adel al (R.c7 + 1), ?_, (A.beg 0).of rfl rfl rfl⟩
     obtain ⟨b1, b2, b3, b4, b5, b6⟩ := beg_same R 0
     have hF : upd (R.ds al).F R.F.length ⟨[], [], 0⟩ = fun p => flD (R.fOf p) := by
      funext q
      unfold upd
      split
      ·rename_i e
       subst e
       rw [fOf_out R (Nat.le_refl _)]
       rfl
      ·rfl
     have hF2 : ∀ q, ((R.beg 0).file.chg ⟨s, (R.F.length : Int), ⟨#[]⟩⟩).fOf q = R.fOf q := fun q => by
      show (R.beg 0).file.fOf q = _
      rw [fOf_file]
      rfl
     have hP : (R.ds al).P ++ [Ch.cr s R.F.length] = ((R.beg 0).file.chg ⟨s, (R.F.length : Int), ⟨#[]⟩⟩).pe.map RC.ch := by
      show R.pe.map RC.ch ++ _ = ((R.beg 0).pe ++ [_]).map RC.ch
      rw [b4, List.map_append]
      rfl
     rw [hF, hP]
     unfold RB.ds
     simp only [hF2]
     rfl
    ·have e1 : R.create s = (R.beg 0, toldN R.flt.2.1) := by unfold RB.create; rw [if_neg (by simp [h0]), if_neg (by simpa using h1), if_neg h2, if_pos h3]
     rw [eS, e1, if_neg (by simp [h0]), if_neg (fun c => hg.1 c h1), if_neg (by omega), if_pos ((strF_told hf).1.2 h3), (strF_told hf).2 h3]
     exact ⟨adel al (R.c7 + 1), rfl, A.beg 0⟩
  ·have e1 : R.create s = (R, 7) := by unfold RB.create; rw [if_neg (by simp [h0]), if_pos h1]
   rw [eS, e1, if_neg (by simp [h0]), if_pos (hg.2 h1)]
   exact ⟨al, rfl, A⟩
 ·have e1 : R.create s = (R, refN R.down R.dir s false) := by unfold RB.create; rw [if_pos h0]
  rw [eS, e1, if_pos h0]
  exact ⟨al, rfl, A⟩
end Go.Proofs.YtjehpijjneghpaaGreat.Re
namespace Go.Proofs.YtjehpijjneghpaaGreat.Re
open Go.RowKit Go.Maps Go.Sort Go.Shelf Go.Proofs.YtjehpijjneghpaaGreat.Nm Go.Proofs.YtjehpijjneghpaaGreat.Dk
variable {R : RB} {al : Ar}
theorem may_some {s : List UInt8} (h : may s = true) : s ≠ [] := fun c => by subst c; revert h; decide
theorem refN_parts {down : Bool} {L : Dr} {s : ByteArray} {t : Bool} (h : refN down L s t = 0) : down = false ∧ may s.data.toList = true := by
 unfold refN at h
 split at h
 ·cases h
 ·rename_i a
  split at h
  ·rename_i b
   exact ⟨by simpa using a, b⟩
  ·cases h
theorem rm_run {s : ByteArray} (h : s.data.toList ≠ []) (l : Dr) : RC.run ⟨⟨#[]⟩, -1, s⟩ l = ddel l s.data.toList := by
 unfold RC.run RC.one
 rw [if_neg (by show ¬ (0 : Int) ≤ -1; decide)]
 exact if_neg h
theorem rm_ch {s : ByteArray} (h : s.data.toList ≠ []) : RC.ch ⟨⟨#[]⟩, -1, s⟩ = .rm s := by
 unfold RC.ch
 rw [if_neg h, if_pos (by show (-1 : Int) < 0; decide)]
theorem ri_remove (I : RI R) (s : ByteArray) : RI (R.remove s).1 := by
 unfold RB.remove
 split
 ·exact I
 ·rename_i h0
  split
  ·exact ri_beg I 5
  ·obtain ⟨b1, b2, b3, b4, b5, b6⟩ := beg_same R 5
   obtain ⟨e1, _⟩ := beg_more R 5
   have hs := may_some (refN_parts (by simpa using h0)).2
   refine ri_chg (ri_beg I 5) _ ?_ ⟨?_, ?_, fun c => absurd c hs⟩ ?_ ?_
   ·rw [rm_run hs, rm_ch hs]; rfl
   ·show (-1 : Int) ≤ -1; decide
   ·show (-1 : Int) < _; omega
   ·rw [rm_run hs, b2]; have := ddel_len R.dir s.data.toList; have := I.dlen; omega
   ·rw [b3, b4, e1]; have := I.cnt; omega
theorem ds_remove (I : RI R) (A : ArmR R al) (s : ByteArray) : ∃ al', (R.ds al).remove s = ((R.remove s).1.ds al', (R.remove s).2) ∧ ArmR (R.remove s).1 al' := by
 have hf := I.flt.1
 unfold DS.remove
 rw [ds_find I, ds_flt A, ds_hit A, strR_strN hf]
 by_cases h0 : refN R.down R.dir s true = 0
 ·have hs := may_some (refN_parts h0).2
  rw [if_pos h0]
  by_cases h1 : strN R.flt.2.1 = 0
  ·have e1 : R.remove s = ((R.beg 5).chg ⟨⟨#[]⟩, -1, s⟩, 0) := by unfold RB.remove; rw [if_neg (by simp [h0]), if_neg (by simp [h1])]
   rw [e1, if_neg (by simp), if_neg (by simp [h1])]
   refine ⟨_, ?_, (A.beg 5).of rfl rfl rfl⟩
   have hP : (R.ds al).P ++ [Ch.rm s] = ((R.beg 5).chg ⟨⟨#[]⟩, -1, s⟩).pe.map RC.ch := by
    show R.pe.map RC.ch ++ _ = ((R.beg 5).pe ++ [_]).map RC.ch
    rw [(beg_same R 5).2.2.2.1, List.map_append, List.map_singleton, rm_ch hs]
   rw [hP]
   rfl
  ·have e1 : R.remove s = (R.beg 5, strN R.flt.2.1) := by unfold RB.remove; rw [if_neg (by simp [h0]), if_pos h1]
   rw [e1, if_neg (by simp), if_pos h1]
   exact ⟨_, rfl, A.beg 5⟩
 ·have e1 : R.remove s = (R, refN R.down R.dir s true) := by unfold RB.remove; rw [if_pos h0]
  rw [if_neg h0, e1, if_pos h0]
  exact ⟨al, rfl, A⟩
theorem rn_run {f t : ByteArray} (h : f.data.toList ≠ []) {p : Nat} (l : Dr) : RC.run ⟨t, (p : Int), f⟩ l = dput (ddel l f.data.toList) t.data.toList p := by
 unfold RC.run RC.one
 rw [if_pos (by show (0 : Int) ≤ (p : Int); omega)]
 show dput (if f.data.toList = [] then l else ddel l f.data.toList) _ (Int.toNat (p : Int)) = _
 rw [if_neg h, Int.toNat_natCast]
theorem rn_ch {f t : ByteArray} (h : f.data.toList ≠ []) {p : Nat} : RC.ch ⟨t, (p : Int), f⟩ = .rn f t := by
 unfold RC.ch
 rw [if_neg h, if_neg (by show ¬ (p : Int) < 0; omega)]
theorem data_ne {f t : ByteArray} (h : f ≠ t) : f.data.toList ≠ t.data.toList := fun c => h (by
 obtain ⟨a⟩ := f
 obtain ⟨b⟩ := t
 have : a = b := Array.toList_inj.1 c
 rw [this])
theorem rn_same {l : Dr} (hr : Rise l) {f t : ByteArray} (h : f.data.toList ≠ []) (hne : f ≠ t) {p : Nat} (hg : Dk.get l f.data.toList = some p) : RC.run ⟨t, (p : Int), f⟩ l = (RC.ch ⟨t, (p : Int), f⟩).run l := by
 rw [rn_run h, rn_ch h]
 show _ = (match Dk.get l f.data.toList with | some p => ddel (dput l t.data.toList p) f.data.toList | none => l)
 rw [hg]
 refine rise_ext (rise_dput (rise_ddel hr _) _ _) (rise_ddel (rise_dput hr _ _) _) fun k => ?_
 rw [get_dput, get_ddel, get_ddel, get_dput]
 have := data_ne hne
 by_cases e1 : t.data.toList = k
 ·rw [if_pos e1, if_neg (fun c => this (c.trans e1.symm)), if_pos e1]
 ·rw [if_neg e1, if_neg e1]
theorem ddel_less {l : Dr} {n : List UInt8} {p : Nat} (h : Dk.get l n = some p) : (ddel l n).length + 1 ≤ l.length := by
 have hm := get_mem h
 unfold ddel
 have : (l.filter fun p => !(p.1 == n)).length < l.length := by
  rw [List.length_filter_lt_length_iff_exists]
  exact ⟨_, hm, by simp⟩
 omega
theorem ri_rename (I : RI R) (f t : ByteArray) : RI (R.rename f t).1 := by
 unfold RB.rename
 split
 ·exact I
 ·rename_i h0
  split
  ·exact ri_beg I 4
  ·split
   ·exact ri_beg I 4
   ·rename_i hne
    obtain ⟨b1, b2, b3, b4, b5, b6⟩ := beg_same R 4
    obtain ⟨e1, _⟩ := beg_more R 4
    obtain ⟨h1, h2, h3⟩ := ref2_zero (by simpa using h0)
    have hs := may_some (refN_parts h3).2
    obtain ⟨q1, q2, q3⟩ := refN_there I.dirF h3
    rw [q1]
    refine ri_chg (ri_beg I 4) _ ?_ ⟨?_, ?_, fun c => absurd c hs⟩ ?_ ?_
    ·rw [b2]; exact rn_same I.dirR hs hne q3
    ·show (-1 : Int) ≤ (R.pOf f : Int); omega
    ·show (R.pOf f : Int) < _; rw [b1]; omega
    ·rw [rn_run hs, b2]
     have w1 := dput_le (ddel R.dir f.data.toList) t.data.toList (R.pOf f)
     have w2 := ddel_less q3
     have := I.dlen
     omega
    ·rw [b3, b4, e1]; have := I.cnt; omega
theorem ds_ref2 (I : RI R) (al : Ar) (f t : ByteArray) : (if (R.ds al).ref [f, t] ≠ 0 then (R.ds al).ref [f, t] else ((R.ds al).find f).2) = R.ref2 f t := by
 have hx : (R.ds al).ref [f, t] = if refN R.down R.dir f false ≠ 0 then refN R.down R.dir f false else refN R.down R.dir t false := by
  unfold DS.ref refN RB.ds
  cases R.down
  ·by_cases a : may f.data.toList = true
   ·by_cases b : may t.data.toList = true
    ·simp [a, b]
    ·simp [a, b]
   ·simp [a]
  ·simp
 have hy : ((R.ds al).find f).2 = refN R.down R.dir f true := by
  rw [ds_find I]
  by_cases h2 : refN R.down R.dir f true = 0
  ·rw [if_pos h2, h2]
  ·rw [if_neg h2]
 rw [hx, hy]
 unfold RB.ref2
 by_cases h0 : refN R.down R.dir f false = 0
 ·by_cases h1 : refN R.down R.dir t false = 0
  ·simp [h0, h1]
  ·simp [h0, h1]
 ·simp [h0]
theorem ds_rename (I : RI R) (A : ArmR R al) (f t : ByteArray) : ∃ al', (R.ds al).rename f t = ((R.rename f t).1.ds al', (R.rename f t).2) ∧ ArmR (R.rename f t).1 al' := by
 have hf := I.flt.1
 have hr := ds_ref2 I al f t
 have eS : (R.ds al).rename f t = if R.ref2 f t ≠ 0 then (R.ds al, R.ref2 f t) else if strN R.flt.2.1 ≠ 0 then ((R.beg 4).ds (adel al (R.c7 + 1)), strN R.flt.2.1) else if f = t then ((R.beg 4).ds (adel al (R.c7 + 1)), 0) else ({ (R.beg 4).ds (adel al (R.c7 + 1)) with P := (R.ds al).P ++ [.rn f t] }, 0) := by
  unfold DS.rename
  rw [ds_flt A, ds_hit A, strR_strN hf, ← hr]
  by_cases h0 : (R.ds al).ref [f, t] = 0
  ·rw [if_neg (by simp [h0])]
   rw [h0] at *
   simp only [ne_eq, not_true_eq_false, if_false]
  ·rw [if_pos h0, if_pos h0, if_pos h0]
 rw [eS]
 by_cases h0 : R.ref2 f t = 0
 ·rw [if_neg (by simp [h0])]
  by_cases h1 : strN R.flt.2.1 = 0
  ·rw [if_neg (by simp [h1])]
   by_cases h2 : f = t
   ·have e1 : R.rename f t = (R.beg 4, 0) := by unfold RB.rename; rw [if_neg (by simp [h0]), if_neg (by simp [h1]), if_pos h2]
    rw [if_pos h2, e1]
    exact ⟨_, rfl, A.beg 4⟩
   ·have e1 : R.rename f t = ((R.beg 4).chg ⟨t, findN R.dir f.data.toList, f⟩, 0) := by unfold RB.rename; rw [if_neg (by simp [h0]), if_neg (by simp [h1]), if_neg h2]
    rw [if_neg h2, e1]
    obtain ⟨_, _, h3⟩ := ref2_zero h0
    have hs := may_some (refN_parts h3).2
    obtain ⟨q1, q2, q3⟩ := refN_there I.dirF h3
    refine ⟨_, ?_, (A.beg 4).of rfl rfl rfl⟩
    have hP : (R.ds al).P ++ [Ch.rn f t] = ((R.beg 4).chg ⟨t, findN R.dir f.data.toList, f⟩).pe.map RC.ch := by
     show R.pe.map RC.ch ++ _ = ((R.beg 4).pe ++ [_]).map RC.ch
     rw [(beg_same R 4).2.2.2.1, List.map_append, List.map_singleton, q1, rn_ch hs]
    rw [hP]
    rfl
  ·have e1 : R.rename f t = (R.beg 4, strN R.flt.2.1) := by unfold RB.rename; rw [if_neg (by simp [h0]), if_pos h1]
   rw [if_pos h1, e1]
   exact ⟨_, rfl, A.beg 4⟩
 ·have e1 : R.rename f t = (R, R.ref2 f t) := by unfold RB.rename; rw [if_pos h0]
  rw [if_pos h0, e1]
  exact ⟨al, rfl, A⟩
theorem runR_nil (l : Dr) (k : Nat) : runR l (([] : List RC).take k) = l := by simp [runR]
theorem dir_cnt (I : RI R) : R.dir.length ≤ R.old.length + R.pe.length := by rw [I.dir]; exact runR_len _ _
theorem ri_kept (I : RI R) : RI R.kept := by
 have hd := dir_cnt I
 have := I.cnt
 refine ⟨⟨I.ok.lo, I.ok.hi, I.ok.no4⟩, I.most, rfl, I.dirR, trivial, I.dirF, fun c hc => (by cases hc), I.fi, ?_, I.fl, I.c8, I.part, fun k => ?_⟩
 ·show ((R.dir.length + ([] : List RC).length : Nat) : Int) ≤ R.c7
  simp only [List.length_nil]
  omega
 ·show (runR R.dir (([] : List RC).take k)).length ≤ 256
  rw [runR_nil]
  exact I.dlen
theorem ri_syncDir (I : RI R) : RI R.syncDir.1 := by
 unfold RB.syncDir
 split
 ·exact I
 ·split
  ·exact ri_beg I 6
  ·exact ri_kept (ri_beg I 6)
theorem ds_syncDir (I : RI R) (A : ArmR R al) : ∃ al', (R.ds al).syncDir = (R.syncDir.1.ds al', R.syncDir.2) ∧ ArmR R.syncDir.1 al' := by
 have hf := I.flt.1
 have hr : (R.ds al).ref [] = if R.down then 22 else 0 := by unfold DS.ref RB.ds; cases R.down <;> simp
 unfold DS.syncDir
 rw [ds_flt A, ds_hit A, strR_strN hf, hr, ds_dir I]
 cases hd : R.down with
 | true =>
  have e1 : R.syncDir = (R, 22) := by unfold RB.syncDir; rw [hd]; rfl
  rw [e1]
  exact ⟨al, rfl, A⟩
 | false =>
  by_cases h1 : strN R.flt.2.1 = 0
  ·have e1 : R.syncDir = ((R.beg 6).kept, 0) := by unfold RB.syncDir; rw [hd, if_neg (by simp), if_neg (by simp [h1])]
   rw [e1, if_neg (by simp), if_neg (by simp [h1])]
   refine ⟨adel al (R.c7 + 1), ?_, (A.beg 6).of rfl rfl rfl⟩
   unfold RB.ds RB.kept
   simp only [(beg_same R 6).2.1, List.map_nil]
   rfl
  ·have e1 : R.syncDir = (R.beg 6, strN R.flt.2.1) := by unfold RB.syncDir; rw [hd, if_neg (by simp), if_pos h1]
   rw [e1, if_neg (by simp), if_pos h1]
   exact ⟨_, rfl, A.beg 6⟩
end Go.Proofs.YtjehpijjneghpaaGreat.Re
namespace Go.Proofs.YtjehpijjneghpaaGreat.Re
open Go.RowKit Go.Maps Go.Sort Go.Shelf Go.Proofs.YtjehpijjneghpaaGreat.Nm Go.Proofs.YtjehpijjneghpaaGreat.Dk
variable {R : RB} {al : Ar}
theorem lenOf_fOf (R : RB) (p : Nat) : R.lenOf p = (R.fOf p).1.length := by unfold RB.lenOf RB.fOf; cases R.F[p]? <;> rfl
theorem fOf_la (I : RI R) (p : Nat) : (R.fOf p).2.1.length ≤ (R.fOf p).1.length ∧ (R.fOf p).1.length ≤ 16777216 := by
 unfold RB.fOf
 cases h : R.F[p]? with
 | none => exact ⟨Nat.le_refl _, Nat.zero_le _⟩
 | some f => exact I.fi f (List.mem_of_getElem? h)
theorem ds_sum (I : RI R) (al : Ar) : sumL (R.ds al).F (R.ds al).dir = R.sum R.dir.length := by
 rw [ds_dir I]
 unfold sumL RB.sum
 rw [List.take_length]
 congr 1
 refine List.map_congr_left fun e _ => ?_
 rw [lenOf_fOf]
 rfl
theorem ds_room (I : RI R) (al : Ar) : (R.ds al).room = R.room := by
 unfold DS.room RB.room
 rw [ds_sum I]
 rfl
theorem ds_apN (I : RI R) (A : ArmR R al) (n : Nat) : (R.ds al).apN n = R.apN n := by
 unfold DS.apN RB.apN
 rw [ds_flt A, ds_room I]
theorem sum_le (I : RI R) (k : Nat) : R.sum k ≤ R.dir.length * 16777216 := by
 unfold RB.sum
 have : ∀ l : Dr, (l.map fun e => R.lenOf e.2).sum ≤ l.length * 16777216 := fun l => by
  induction l with
  | nil => simp
  | cons e r ih =>
   have := (fOf_la I e.2).2
   have h2 := lenOf_fOf R e.2
   simp only [List.map_cons, List.sum_cons, List.length_cons]
   omega
 have h1 := this (R.dir.take k)
 have h2 : (R.dir.take k).length ≤ R.dir.length := by rw [List.length_take]; omega
 exact Nat.le_trans h1 (Nat.mul_le_mul_right 16777216 h2)
theorem sum_one (I : RI R) {s : List UInt8} {p : Nat} (h : Dk.get R.dir s = some p) : R.lenOf p ≤ R.sum R.dir.length := by
 have h1 := sumL_one (R.ds []).F (l := R.dir) h
 have h2 := ds_sum I []
 rw [ds_dir I] at h2
 rw [h2] at h1
 rw [lenOf_fOf]
 exact h1
theorem ap_size (I : RI R) {s : ByteArray} (h : refN R.down R.dir s true = 0) (n : Nat) : R.lenOf (R.pOf s) + R.apN n ≤ 16777216 := by
 obtain ⟨_, _, h3⟩ := refN_there I.dirF h
 have h1 := sum_one I h3
 have h2 := (rapN_le R n).2
 have h4 := I.most
 have h5 := (fOf_la I (R.pOf s)).2
 rw [← lenOf_fOf] at h5
 unfold RB.room at h2
 omega
theorem ri_append (I : RI R) (s : ByteArray) (D : List UInt8) : RI (R.append s D).1 := by
 unfold RB.append
 split
 ·exact I
 ·rename_i h0
  have h0 : refN R.down R.dir s true = 0 := by simpa using h0
  obtain ⟨_, hp, _⟩ := refN_there I.dirF h0
  obtain ⟨b1, _⟩ := beg_same R 1
  obtain ⟨e1, _, e3, _⟩ := beg_more R 1
  have hsz := ap_size I h0 D.length
  have hla := fOf_la I (R.pOf s)
  rw [lenOf_fOf] at hsz
  refine ri_put (ri_one (ri_beg I 1) (by rw [b1]; exact hp) ⟨?_, ?_⟩) ?_
  ·simp only [List.length_append]; omega
  ·have := (rapN_le R D.length).1
   simp only [List.length_append, List.length_take]; omega
  ·show 0 ≤ R.c8 + (R.apN D.length : Int) ∧ R.c8 + (R.apN D.length : Int) ≤ 16777216 * (R.beg 1).c7
   rw [e1]
   have := I.c8
   omega
theorem ds_append (I : RI R) (A : ArmR R al) (s : ByteArray) (D : List UInt8) : ∃ al', (R.ds al).append s D = ((R.append s D).1.ds al', (R.append s D).2) ∧ ArmR (R.append s D).1 al' := by
 have hf := I.flt.1
 by_cases h0 : refN R.down R.dir s true = 0
 ·have e1 : R.append s D = (((R.beg 1).one (R.pOf s) ((R.fOf (R.pOf s)).1 ++ D.take (R.apN D.length), (R.fOf (R.pOf s)).2)).put (R.c8 + (R.apN D.length : Int)), (R.apN D.length : Int), if R.flt.2.1 ≠ 0 then toldN R.flt.2.1 else if R.apN D.length < D.length then 21 else 0) := by unfold RB.append; rw [if_neg (by simp [h0])]
  obtain ⟨_, hp, _⟩ := refN_there I.dirF h0
  obtain ⟨b1, _⟩ := beg_same R 1
  have hp1 : R.pOf s < (R.beg 1).F.length := by rw [b1]; exact hp
  have hh := ds_hit A 1
  unfold DS.hit at hh
  rw [ds_flt A] at hh
  have eS : (R.ds al).append s D = ({ (R.beg 1).ds (adel al (R.c7 + 1)) with F := upd (R.ds al).F (R.pOf s) (apF ((R.ds al).F (R.pOf s)) (D.take (R.apN D.length))), c8 := R.c8 + (R.apN D.length : Int) }, (R.apN D.length : Int), if strF R.flt.2.1 ≠ 0 then strF R.flt.2.1 else if R.apN D.length < D.length then 21 else 0) := by
   unfold DS.append
   rw [ds_find I, if_pos h0]
   simp only [ds_apN I A, ds_flt A, hh]
   rfl
  rw [eS, e1]
  refine ⟨_, ?_, (A.beg 1).of rfl rfl rfl⟩
  have ed := ds_one hp1 ((R.fOf (R.pOf s)).1 ++ D.take (R.apN D.length), (R.fOf (R.pOf s)).2) (adel al (R.c7 + 1))
  have e2 : (((R.beg 1).one (R.pOf s) ((R.fOf (R.pOf s)).1 ++ D.take (R.apN D.length), (R.fOf (R.pOf s)).2)).put (R.c8 + (R.apN D.length : Int))).ds (adel al (R.c7 + 1)) = { ((R.beg 1).one (R.pOf s) ((R.fOf (R.pOf s)).1 ++ D.take (R.apN D.length), (R.fOf (R.pOf s)).2)).ds (adel al (R.c7 + 1)) with c8 := R.c8 + (R.apN D.length : Int) } := rfl
  have e3 : (if strF R.flt.2.1 ≠ 0 then strF R.flt.2.1 else if R.apN D.length < D.length then 21 else 0) = (if R.flt.2.1 ≠ 0 then toldN R.flt.2.1 else if R.apN D.length < D.length then (21 : Int) else 0) := by
   by_cases h3 : R.flt.2.1 = 0
   ·simp [h3, strF]
   ·rw [if_pos ((strF_told hf).1.2 h3), if_pos h3, (strF_told hf).2 h3]
  rw [e3, e2, ed]
  rfl
 ·have e1 : R.append s D = (R, 0, refN R.down R.dir s true) := by unfold RB.append; rw [if_pos h0]
  refine ⟨al, ?_, by rw [e1]; exact A⟩
  unfold DS.append
  rw [ds_find I, if_neg h0, e1]
theorem ri_sync (I : RI R) (s : ByteArray) : RI (R.sync s).1 := by
 unfold RB.sync
 split
 ·exact I
 ·rename_i h0
  have h0 : refN R.down R.dir s true = 0 := by simpa using h0
  obtain ⟨_, hp, _⟩ := refN_there I.dirF h0
  obtain ⟨b1, _⟩ := beg_same R 2
  have hla := fOf_la I (R.pOf s)
  split
  ·exact ri_one (ri_beg I 2) (by rw [b1]; exact hp) ⟨hla.1, hla.2⟩
  ·split
   ·exact ri_beg I 2
   ·refine ri_one (ri_beg I 2) (by rw [b1]; exact hp) ⟨?_, hla.2⟩
    have := svd_len (flD (R.fOf (R.pOf s))) ((R.fOf (R.pOf s)).1.length - (R.fOf (R.pOf s)).2.1.length) (by show (R.fOf (R.pOf s)).2.1.length + _ ≤ (R.fOf (R.pOf s)).1.length; omega)
    simp only [List.length_append, this]
    omega
theorem ds_sync (I : RI R) (A : ArmR R al) (s : ByteArray) : ∃ al', (R.ds al).sync s = ((R.sync s).1.ds al', (R.sync s).2) ∧ ArmR (R.sync s).1 al' := by
 by_cases h0 : refN R.down R.dir s true = 0
 ·obtain ⟨_, hp, _⟩ := refN_there I.dirF h0
  obtain ⟨b1, _⟩ := beg_same R 2
  have hp1 : R.pOf s < (R.beg 2).F.length := by rw [b1]; exact hp
  have eS : (R.ds al).sync s = if R.flt.2.1 = 1 then ({ (R.ds al).beg 2 with F := upd (R.ds al).F (R.pOf s) (spF ((R.ds al).F (R.pOf s))) }, 20) else if R.flt.2.1 = 3 then (((R.ds al).beg 2).str 3, 22) else ({ (R.ds al).beg 2 with F := upd (R.ds al).F (R.pOf s) (syF ((R.ds al).F (R.pOf s))) }, 0) := by
   unfold DS.sync
   rw [ds_find I, if_pos h0]
   simp only [ds_flt A]
  have eR : R.sync s = if R.flt.2.1 = 1 then ((R.beg 2).one (R.pOf s) ((R.fOf (R.pOf s)).1, (R.fOf (R.pOf s)).2.1, ((R.fOf (R.pOf s)).1.length : Int)), 20) else if R.flt.2.1 = 3 then (R.beg 2, 22) else ((R.beg 2).one (R.pOf s) ((R.fOf (R.pOf s)).1, (R.fOf (R.pOf s)).2.1 ++ svd (flD (R.fOf (R.pOf s))) ((R.fOf (R.pOf s)).1.length - (R.fOf (R.pOf s)).2.1.length), 0), 0) := by unfold RB.sync; rw [if_neg (by simp [h0])]
  rw [eS, eR]
  by_cases k1 : R.flt.2.1 = 1
  ·rw [if_pos k1, if_pos k1]
   refine ⟨adel al (R.c7 + 1), ?_, (A.beg 2).of rfl rfl rfl⟩
   rw [ds_one hp1, ds_beg A (by rw [k1]; decide)]
   have : spF ((R.ds al).F (R.pOf s)) = flD ((R.fOf (R.pOf s)).1, (R.fOf (R.pOf s)).2.1, ((R.fOf (R.pOf s)).1.length : Int)) := by
    show spF (flD (R.fOf (R.pOf s))) = _
    unfold spF flD
    simp only [Fl.mk.injEq, true_and]
    omega
   rw [this]
   rfl
  ·by_cases k3 : R.flt.2.1 = 3
   ·rw [if_neg k1, if_neg k1, if_pos k3, if_pos k3]
    refine ⟨adel al (R.c7 + 1), ?_, A.beg 2⟩
    have hh := ds_hit A 2
    unfold DS.hit at hh
    rw [ds_flt A, k3] at hh
    rw [hh]
   ·rw [if_neg k1, if_neg k1, if_neg k3, if_neg k3]
    refine ⟨adel al (R.c7 + 1), ?_, (A.beg 2).of rfl rfl rfl⟩
    rw [ds_one hp1, ds_beg A k3]
    have : syF ((R.ds al).F (R.pOf s)) = flD ((R.fOf (R.pOf s)).1, (R.fOf (R.pOf s)).2.1 ++ svd (flD (R.fOf (R.pOf s))) ((R.fOf (R.pOf s)).1.length - (R.fOf (R.pOf s)).2.1.length), 0) := by
     show syF (flD (R.fOf (R.pOf s))) = _
     unfold syF flD
     simp only [Fl.mk.injEq, true_and]
     omega
    rw [this]
    rfl
 ·have e1 : R.sync s = (R, refN R.down R.dir s true) := by unfold RB.sync; rw [if_pos h0]
  refine ⟨al, ?_, by rw [e1]; exact A⟩
  unfold DS.sync
  rw [ds_find I, if_neg h0, e1]
theorem ri_cut (I : RI R) (s : ByteArray) (n : Int) : RI (R.cut s n).1 := by
 unfold RB.cut
 split
 ·exact I
 ·rename_i h0
  have h0 : refN R.down R.dir s true = 0 := by simpa using h0
  obtain ⟨_, hp, _⟩ := refN_there I.dirF h0
  obtain ⟨b1, _⟩ := beg_same R 3
  have hla := fOf_la I (R.pOf s)
  split
  ·exact I
  ·split
   ·exact ri_beg I 3
   ·refine ri_one (ri_beg I 3) (by rw [b1]; exact hp) ⟨?_, ?_⟩
    ·simp only [ctF, List.length_take]; omega
    ·simp only [ctF, List.length_take]; omega
theorem ds_cut (I : RI R) (A : ArmR R al) (s : ByteArray) (n : Int) : ∃ al', (R.ds al).cut s n = ((R.cut s n).1.ds al', (R.cut s n).2) ∧ ArmR (R.cut s n).1 al' := by
 have hf := I.flt.1
 by_cases h0 : refN R.down R.dir s true = 0
 ·obtain ⟨_, hp, _⟩ := refN_there I.dirF h0
  obtain ⟨b1, _⟩ := beg_same R 3
  have hp1 : R.pOf s < (R.beg 3).F.length := by rw [b1]; exact hp
  have hh := ds_hit A 3
  unfold DS.hit at hh
  rw [ds_flt A] at hh
  have eS : (R.ds al).cut s n = if n < 0 ∨ (R.lenOf (R.pOf s) : Int) < n then (R.ds al, 8) else if strN R.flt.2.1 ≠ 0 then ((R.beg 3).ds (adel al (R.c7 + 1)), strN R.flt.2.1) else ({ (R.ds al).beg 3 with F := upd (R.ds al).F (R.pOf s) (cuF ((R.ds al).F (R.pOf s)) n.toNat) }, 0) := by
   unfold DS.cut
   rw [ds_find I, if_pos h0]
   simp only [ds_flt A, hh, strR_strN hf]
   rw [lenOf_fOf]
   rfl
  have eR : R.cut s n = if n < 0 ∨ (R.lenOf (R.pOf s) : Int) < n then (R, 8) else if strN R.flt.2.1 ≠ 0 then (R.beg 3, strN R.flt.2.1) else ((R.beg 3).one (R.pOf s) (ctF (R.fOf (R.pOf s)) n), 0) := by unfold RB.cut; rw [if_neg (by simp [h0])]
  rw [eS, eR]
  by_cases hn : n < 0 ∨ (R.lenOf (R.pOf s) : Int) < n
  ·rw [if_pos hn, if_pos hn]
   exact ⟨al, rfl, A⟩
  ·rw [if_neg hn, if_neg hn]
   by_cases h1 : strN R.flt.2.1 = 0
   ·rw [if_neg (by simp [h1]), if_neg (by simp [h1])]
    refine ⟨adel al (R.c7 + 1), ?_, (A.beg 3).of rfl rfl rfl⟩
    rw [ds_one hp1, ds_beg A (fun c => by rw [c] at h1; revert h1; decide)]
    have : cuF ((R.ds al).F (R.pOf s)) n.toNat = flD (ctF (R.fOf (R.pOf s)) n) := by
     show cuF (flD (R.fOf (R.pOf s))) n.toNat = _
     unfold cuF flD ctF
     simp only [Fl.mk.injEq, true_and, List.length_take]
     omega
    rw [this]
    rfl
   ·rw [if_pos h1, if_pos h1]
    exact ⟨_, rfl, A.beg 3⟩
 ·have e1 : R.cut s n = (R, refN R.down R.dir s true) := by unfold RB.cut; rw [if_pos h0]
  refine ⟨al, ?_, by rw [e1]; exact A⟩
  unfold DS.cut
  rw [ds_find I, if_neg h0, e1]
end Go.Proofs.YtjehpijjneghpaaGreat.Re
