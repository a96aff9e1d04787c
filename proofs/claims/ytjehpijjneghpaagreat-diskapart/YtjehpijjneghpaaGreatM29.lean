/-
  The document's disk: All, Lasting.
-/
import Derived.Test.YtjehpijjneghpaaGreatM28
namespace Go.Proofs.YtjehpijjneghpaaGreat.Re
open Go.RowKit Go.Maps Go.Sort Go.Shelf Go.Proofs.YtjehpijjneghpaaGreat.Nm Go.Proofs.YtjehpijjneghpaaGreat.Dk
open Ix (wp_region_T wpAnyT wpAnyT_take wpAnyT_one wpAnyT_done vac)
set_option linter.unusedVariables false
def RB.all (R : RB) : Fil2 := R.dir.map fun e => (e.1, (R.fOf e.2).1)
def RB.lasts (R : RB) : Fil2 := R.old.map fun e => (e.1, (R.fOf e.2).2.1)
set_option maxRecDepth 100000 in
set_option maxHeartbeats 1000000 in
theorem all_rm {w : World} {b : Nat} {R : RB} {V : RV} (h : RM w b R V) (hl : (R.dir.length : Int) ≤ 1000000000) (hg : ∀ e ∈ R.dir, e.2 < R.F.length) (hla : ∀ f ∈ R.F, f.2.1.length ≤ f.1.length ∧ (f.1.length : Int) ≤ 100000000) :
    Calls Tryz.prog 66 #[.pointer (some ⟨b, 0, none⟩)] w fun e w' => ∃ v vs, e = .returned v ∧ FlI w.heap.size w' v R.all vs ∧ Below w.heap.size w w' := by
  have hE : Hid (R.all = R.dir.map fun e => (e.1, (R.fOf e.2).1)) := rfl
  rw [hE.out]
  have c2 : w.cell? ⟨b, 2, none⟩ = some V.vD := (h.cell 2).trans rfl
  obtain ⟨da, dc, hvd, dl1, dl2, q3⟩ := h.dd.tr
  rw [hvd] at c2
  have HM := hide h
  obtain ⟨N, hN⟩ : ∃ N, Hid (R.dir.length = N) := ⟨_, rfl⟩
  rw [hN.out] at c2 dl1 hl
  replace q3 := hide q3
  replace hl := hide hl
  replace hg := hide hg
  replace hla := hide hla
  obtain ⟨i0, hi, hz0, hz1, hz2⟩ := info_parts infoFile
  replace hi := hide hi
  have KB : Hid (∀ q, Below w.heap.size w q → q.cell? ⟨b, 2, none⟩ = some (.slice da N dc)) := fun q hq => by rw [hq.cell (lt_of_cell c2)]; exact c2
  clear h
  go_enter Tryz.func66, Tryz.ntmps66
  go_wp2_with fail
  go_loopw [3, 4] (fun v3 i wr => ∃ k : Nat, i = .int .i64 k ∧ k ≤ N ∧ Hid (∃ vs, FlI w.heap.size wr v3 ((R.dir.take k).map fun e => (e.1, (R.fOf e.2).1)) vs ∧ Below w.heap.size w wr)) (fun _ i _ => N - (intOf i).toNat)
  case atStart => exact ⟨0, rfl, Nat.zero_le _, [], FlI.nil _ _, Below.refl _ _⟩
  case round =>
    obtain ⟨k, rfl, hk, hQ⟩ := hrel
    obtain ⟨vs, hO, hB⟩ := hQ.out
    clear c2 hQ
    replace hO := hide hO
    replace hB := hide hB
    have c2 := KB.out wr hB.out
    by_cases hlt : k < N
    · have i1 : (k : Int) < (N : Int) := by omega
      have hkl : k < R.dir.length := by rw [hN.out]; exact hlt
      obtain ⟨gb, off, rfl, y0, y1⟩ := q3.out k hkl
      rw [← hB.out.cell (p := ⟨gb, off + k * 2, none⟩) (lt_of_cell y0)] at y0
      rw [← hB.out.cell (p := ⟨gb, off + k * 2 + 1, none⟩) (lt_of_cell y1)] at y1
      have hp := hg.out R.dir[k] (List.getElem_mem hkl)
      have MR := hide (HM.out.below hB.out)
      obtain ⟨g, cap, evf, fl1, fl2, hl', z0, z1, z2⟩ := MR.out.at hp
      have c1 : wr.cell? ⟨b, 1, none⟩ = some V.vF := (MR.out.cell 1).trans rfl
      rw [evf] at c1
      have OB := hide (MR.out.nn _ hp).1
      obtain ⟨ta, tc, et, tl1, tl2⟩ := OB.out.form
      have hlap := hla.out _ (List.getElem_mem hp)
      have hto : (R.fOf R.dir[k].2).1 = R.F[R.dir[k].2].1 := by unfold RB.fOf; rw [List.getElem?_eq_getElem hp]; rfl
      have hsn : Hid ((R.dir.take (k + 1)).map (fun e => (e.1, (R.fOf e.2).1)) = (R.dir.take k).map (fun e => (e.1, (R.fOf e.2).1)) ++ [(R.dir[k].1, R.F[R.dir[k].2].1)]) := by show _ = _; rw [List.take_succ_eq_append_getElem hkl, List.map_append, ← hto]; rfl
      have hll : Hid (((R.dir.take k).map (fun e => (e.1, (R.fOf e.2).1))).length = k) := by show _ = _; rw [List.length_map, List.length_take]; omega
      have zX : wr.cell? ⟨g, R.dir[k].2 * 3, none⟩ = some (.slice ta R.F[R.dir[k].2].1.length tc) := by rw [← et]; exact z0
      have ip : (R.dir[k].2 : Int) < (R.F.length : Int) := by omega
      have hbz : Hid (R.F[R.dir[k].2].1.length ≤ 100000000) := by show _ ≤ _; omega
      rw [et] at OB
      generalize R.F[R.dir[k].2].1 = BL at *
      obtain ⟨bl, hbl⟩ : ∃ bl, Hid (BL.length = bl) := ⟨_, rfl⟩
      rw [hbl.out] at zX hbz OB
      clear z0 z1 z2 hto hlap et
      generalize hpp : R.dir[k].2 = p at *
      generalize hss : R.dir[k].1 = s at *
      generalize (R.dir.take k).map (fun e => (e.1, (R.fOf e.2).1)) = DD at *
      have hes : Hid (encStr s = .string (bsOf s)) := rfl
      generalize bsOf s = t at *
      generalize hFl : R.F.length = fl at *
      replace hsn := hide hsn
      have KC : Hid (∀ q : World, Below wr.heap.size wr q → q.cell? ⟨b, 1, none⟩ = some (.slice (some ⟨g, 0, none⟩) fl cap) ∧ q.cell? ⟨b, 2, none⟩ = some (.slice (some ⟨gb, off, none⟩) N dc) ∧ q.cell? ⟨gb, off + k * 2 + 1, none⟩ = some (.int .i64 (p : Int)) ∧ q.cell? ⟨g, p * 3, none⟩ = some (.slice ta bl tc) ∧ q.cell? ⟨gb, off + k * 2, none⟩ = some (.string t)) := fun q hq => ⟨by rw [hq.cell (lt_of_cell c1)]; exact c1, by rw [hq.cell (lt_of_cell c2)]; exact c2, by rw [hq.cell (lt_of_cell y1)]; exact y1, by rw [hq.cell (lt_of_cell zX)]; exact zX, by rw [hq.cell (lt_of_cell y0)]; exact y0⟩
      clear c1 y0 y1 zX hpp hss hp
      go_upto_region 5 with fail
      clear c2
      have KP : Hid (Below wr.heap.size wr wr.drew) := (Below.refl _ _).drew
      refine wp_region_T (fun q => Below wr.heap.size wr q) 27 (by kernel_rfl) ?_
      generalize wr.drew = q at *
      refine Ix.tk 0 ⟨some 14, .move (.tmp 3), 57, "ref.go:413", #[], none⟩ (u3) [27] ?_ KP.out ?_
      · intro wq hSw
        obtain ⟨x1, x2, x3, x4, x5⟩ := KC.out wq hSw
        go_simp
      (try simp only [zzp, zza, zzb, zzc])
      refine Ix.tk 1 ⟨some 15, .move (.tmp 0), 26, "ref.go:413", #[], none⟩ (.pointer (some ⟨b, 0, none⟩)) [2,3,4,6,7,8,25,26,27] ?_ KP.out ?_
      · intro wq hSw
        obtain ⟨x1, x2, x3, x4, x5⟩ := KC.out wq hSw
        go_simp
      (try simp only [zzp, zza, zzb, zzc])
      refine Ix.tk 2 ⟨some 16, .nilCheck (.tmp 15), 0, "ref.go:413", #[⟨1,.data⟩], none⟩ (.pointer (some ⟨b, 0, none⟩)) [3,4,6,7,8,25,26,27] ?_ KP.out ?_
      · intro wq hSw
        obtain ⟨x1, x2, x3, x4, x5⟩ := KC.out wq hSw
        go_simp
      (try simp only [zzp, zza, zzb, zzc])
      refine Ix.tk 3 ⟨some 17, .fieldAddr 103 (.tmp 16) 2, 0, "ref.go:413", #[⟨2,.data⟩], none⟩ (.pointer (some ⟨b, 2, none⟩)) [4,6,7,8,25,26,27] ?_ KP.out ?_
      · intro wq hSw
        obtain ⟨x1, x2, x3, x4, x5⟩ := KC.out wq hSw
        go_simp
      (try simp only [zzp, zza, zzb, zzc])
      refine Ix.tk 4 ⟨some 18, .load 100 (.tmp 17), 100, "ref.go:413", #[⟨3,.data⟩], none⟩ (.slice (some ⟨gb, off, none⟩) N dc) [6,7,8,25,26,27] ?_ KP.out ?_
      · intro wq hSw
        obtain ⟨x1, x2, x3, x4, x5⟩ := KC.out wq hSw
        go_simp
      (try simp only [zzp, zza, zzb, zzc])
      refine Ix.tk 5 ⟨some 19, .move (.tmp 4), 3, "ref.go:413", #[], none⟩ (.int .i64 (k : Int)) [6,7,8,25,26,27] ?_ KP.out ?_
      · intro wq hSw
        obtain ⟨x1, x2, x3, x4, x5⟩ := KC.out wq hSw
        go_simp
      (try simp only [zzp, zza, zzb, zzc])
      refine Ix.tk 6 ⟨some 20, .indexAddr 100 (.tmp 18) (.tmp 19), 0, "ref.go:413", #[⟨4,.data⟩,⟨5,.data⟩], none⟩ (.pointer (some ⟨gb, off + k * 2, none⟩)) [7,8,25,26,27] ?_ KP.out ?_
      · intro wq hSw
        obtain ⟨x1, x2, x3, x4, x5⟩ := KC.out wq hSw
        go_simp
      (try simp only [zzp, zza, zzb, zzc])
      refine Ix.tk 7 ⟨some 21, .fieldAddr 142 (.tmp 20) 0, 0, "ref.go:413", #[⟨6,.data⟩], none⟩ (.pointer (some ⟨gb, off + k * 2, none⟩)) [8,25,26,27] ?_ KP.out ?_
      · intro wq hSw
        obtain ⟨x1, x2, x3, x4, x5⟩ := KC.out wq hSw
        go_simp
      (try simp only [zzp, zza, zzb, zzc])
      refine Ix.tk 8 ⟨some 22, .load 9 (.tmp 21), 9, "ref.go:413", #[⟨7,.data⟩], none⟩ (.string t) [25,26,27] ?_ KP.out ?_
      · intro wq hSw
        obtain ⟨x1, x2, x3, x4, x5⟩ := KC.out wq hSw
        go_simp
      (try simp only [zzp, zza, zzb, zzc])
      refine Ix.tk 9 ⟨some 23, .move (.tmp 0), 26, "ref.go:413", #[], none⟩ (.pointer (some ⟨b, 0, none⟩)) [10,11,12,21,22,23,24,25,26,27] ?_ KP.out ?_
      · intro wq hSw
        obtain ⟨x1, x2, x3, x4, x5⟩ := KC.out wq hSw
        go_simp
      (try simp only [zzp, zza, zzb, zzc])
      refine Ix.tk 10 ⟨some 24, .nilCheck (.tmp 23), 0, "ref.go:413", #[⟨9,.data⟩], none⟩ (.pointer (some ⟨b, 0, none⟩)) [11,12,21,22,23,24,25,26,27] ?_ KP.out ?_
      · intro wq hSw
        obtain ⟨x1, x2, x3, x4, x5⟩ := KC.out wq hSw
        go_simp
      (try simp only [zzp, zza, zzb, zzc])
      refine Ix.tk 11 ⟨some 25, .fieldAddr 103 (.tmp 24) 1, 0, "ref.go:413", #[⟨10,.data⟩], none⟩ (.pointer (some ⟨b, 1, none⟩)) [12,21,22,23,24,25,26,27] ?_ KP.out ?_
      · intro wq hSw
        obtain ⟨x1, x2, x3, x4, x5⟩ := KC.out wq hSw
        go_simp
      (try simp only [zzp, zza, zzb, zzc])
      refine Ix.tk 12 ⟨some 26, .load 99 (.tmp 25), 99, "ref.go:413", #[⟨11,.data⟩], none⟩ (.slice (some ⟨g, 0, none⟩) fl cap) [21,22,23,24,25,26,27] ?_ KP.out ?_
      · intro wq hSw
        obtain ⟨x1, x2, x3, x4, x5⟩ := KC.out wq hSw
        go_simp
      (try simp only [zzp, zza, zzb, zzc])
      refine Ix.tk 13 ⟨some 27, .move (.tmp 0), 26, "ref.go:413", #[], none⟩ (.pointer (some ⟨b, 0, none⟩)) [14,15,16,18,19,20,21,22,23,24,25,26,27] ?_ KP.out ?_
      · intro wq hSw
        obtain ⟨x1, x2, x3, x4, x5⟩ := KC.out wq hSw
        go_simp
      (try simp only [zzp, zza, zzb, zzc])
      refine Ix.tk 14 ⟨some 28, .nilCheck (.tmp 27), 0, "ref.go:413", #[⟨13,.data⟩], none⟩ (.pointer (some ⟨b, 0, none⟩)) [15,16,18,19,20,21,22,23,24,25,26,27] ?_ KP.out ?_
      · intro wq hSw
        obtain ⟨x1, x2, x3, x4, x5⟩ := KC.out wq hSw
        go_simp
      (try simp only [zzp, zza, zzb, zzc])
      refine Ix.tk 15 ⟨some 29, .fieldAddr 103 (.tmp 28) 2, 0, "ref.go:413", #[⟨14,.data⟩], none⟩ (.pointer (some ⟨b, 2, none⟩)) [16,18,19,20,21,22,23,24,25,26,27] ?_ KP.out ?_
      · intro wq hSw
        obtain ⟨x1, x2, x3, x4, x5⟩ := KC.out wq hSw
        go_simp
      (try simp only [zzp, zza, zzb, zzc])
      refine Ix.tk 16 ⟨some 30, .load 100 (.tmp 29), 100, "ref.go:413", #[⟨15,.data⟩], none⟩ (.slice (some ⟨gb, off, none⟩) N dc) [18,19,20,21,22,23,24,25,26,27] ?_ KP.out ?_
      · intro wq hSw
        obtain ⟨x1, x2, x3, x4, x5⟩ := KC.out wq hSw
        go_simp
      (try simp only [zzp, zza, zzb, zzc])
      refine Ix.tk 17 ⟨some 31, .move (.tmp 4), 3, "ref.go:413", #[], none⟩ (.int .i64 (k : Int)) [18,19,20,21,22,23,24,25,26,27] ?_ KP.out ?_
      · intro wq hSw
        obtain ⟨x1, x2, x3, x4, x5⟩ := KC.out wq hSw
        go_simp
      (try simp only [zzp, zza, zzb, zzc])
      refine Ix.tk 18 ⟨some 32, .indexAddr 100 (.tmp 30) (.tmp 31), 0, "ref.go:413", #[⟨16,.data⟩,⟨17,.data⟩], none⟩ (.pointer (some ⟨gb, off + k * 2, none⟩)) [19,20,21,22,23,24,25,26,27] ?_ KP.out ?_
      · intro wq hSw
        obtain ⟨x1, x2, x3, x4, x5⟩ := KC.out wq hSw
        go_simp
      (try simp only [zzp, zza, zzb, zzc])
      refine Ix.tk 19 ⟨some 33, .fieldAddr 142 (.tmp 32) 1, 0, "ref.go:413", #[⟨18,.data⟩], none⟩ (.pointer (some ⟨gb, off + k * 2 + 1, none⟩)) [20,21,22,23,24,25,26,27] ?_ KP.out ?_
      · intro wq hSw
        obtain ⟨x1, x2, x3, x4, x5⟩ := KC.out wq hSw
        go_simp
      (try simp only [zzp, zza, zzb, zzc])
      refine Ix.tk 20 ⟨some 34, .load 3 (.tmp 33), 3, "ref.go:413", #[⟨19,.data⟩], none⟩ (.int .i64 (p : Int)) [21,22,23,24,25,26,27] ?_ KP.out ?_
      · intro wq hSw
        obtain ⟨x1, x2, x3, x4, x5⟩ := KC.out wq hSw
        go_simp
      (try simp only [zzp, zza, zzb, zzc])
      refine Ix.tk 21 ⟨some 35, .indexAddr 99 (.tmp 26) (.tmp 34), 0, "ref.go:413", #[⟨12,.data⟩,⟨20,.data⟩], none⟩ (.pointer (some ⟨g, p * 3, none⟩)) [22,23,24,25,26,27] ?_ KP.out ?_
      · intro wq hSw
        obtain ⟨x1, x2, x3, x4, x5⟩ := KC.out wq hSw
        go_simp
      (try simp only [zzp, zza, zzb, zzc])
      refine Ix.tk 22 ⟨some 36, .fieldAddr 138 (.tmp 35) 0, 0, "ref.go:413", #[⟨21,.data⟩], none⟩ (.pointer (some ⟨g, p * 3, none⟩)) [23,24,25,26,27] ?_ KP.out ?_
      · intro wq hSw
        obtain ⟨x1, x2, x3, x4, x5⟩ := KC.out wq hSw
        go_simp
      (try simp only [zzp, zza, zzb, zzc])
      refine Ix.tk 23 ⟨some 37, .load 30 (.tmp 36), 30, "ref.go:413", #[⟨22,.data⟩], none⟩ (.slice ta bl tc) [24,25,26,27] ?_ KP.out ?_
      · intro wq hSw
        obtain ⟨x1, x2, x3, x4, x5⟩ := KC.out wq hSw
        go_simp
      (try simp only [zzp, zza, zzb, zzc])
      obtain ⟨v5, w5, hr, O5, G5, A5⟩ := run_app (Ob.nil q.heap.size q) (OB.out.below KP.out).sl (by have := hbz.out; have := hbl.out; simp; omega) (Nat.le_refl _) 30
      rw [List.nil_append] at O5
      obtain ⟨a5, c5, e5, l51, l52⟩ := O5.form
      rw [hbl.out] at e5
      have U5 : Hid (Below q.heap.size q w5) := (Below.refl _ _).grown G5 (Nat.le_refl _) (fun k hk => by simp [Value.ownBlock] at hk)
      have B5 : Hid (Below wr.heap.size wr w5) := KP.out.trans (U5.out.mono KP.out.size)
      have O6 : Hid (Ob wr.heap.size w5 v5 BL) := O5.low KP.out.size
      refine wpAnyT_one (i := 24) (o := ⟨some 38, .call { callee := .builtin .append, args := #[.const (Value.slice none 0 0), .tmp 37], argTypes := #[30, 30] }, 30, "ref.go:413", #[⟨23, .data⟩], none⟩) (by kernel_rfl) rfl (fun K hK => ?_)
      refine step_app rfl (.const (.slice none 0 0)) (.tmp 37) rfl _ _ _ w5 (by simp [Act.eval]) (by simp [Act.eval]) hr ?_
      refine hK.out _ _ (fun _ => B5.out) ?_
      clear hK K hr
      (try simp only [zzp, zza, zzb, zzc])
      subst e5
      refine Ix.tk 25 ⟨some 39, .build 61 #[(0, .tmp 22), (1, .tmp 38)], 61, "ref.go:413", #[⟨8,.data⟩,⟨24,.data⟩], none⟩ (.agg #[.string t, .slice a5 bl c5]) [26,27] ?_ B5.out ?_
      · intro wq hSw
        obtain ⟨x1, x2, x3, x4, x5⟩ := KC.out wq hSw
        go_simp
      (try simp only [zzp, zza, zzb, zzc])
      have B7 : Hid (Below wr.heap.size wr (w5.alloc (.cells #[.string t, .slice a5 bl c5] 61))) := B5.out.trans ((box_below w5 _).mono B5.out.size)
      have O7 : Hid (Ob wr.heap.size (w5.alloc (.cells #[.string t, .slice a5 bl c5] 61)) (.slice a5 bl c5) BL) := O6.out.below (box_below w5 _)
      have N7 := hide (heap_alloc_new w5 (.cells #[.string t, .slice a5 bl c5] 61))
      have R7 : Hid (World.ownsRow (w5.alloc (.cells #[.string t, .slice a5 bl c5] 61)) w.heap.size 61 2 u3 DD.length (Dk.fcells DD vs)) := (hO.out.below B7.out).row
      have z7 : Hid (w.heap.size ≤ (w5.alloc (.cells #[.string t, .slice a5 bl c5] 61)).heap.size) := Nat.le_trans hB.out.size B7.out.size
      have b7 : Hid (Below w.heap.size w (w5.alloc (.cells #[.string t, .slice a5 bl c5] 61))) := hB.out.trans (B7.out.mono hB.out.size)
      refine wpAnyT_one (i := 26) (o := ⟨some 40, .buildSlice 57 1 #[(0, .tmp 39)], 57, "ref.go:413", #[⟨25, .data⟩], none⟩) (by kernel_rfl) rfl (fun K hK => ?_)
      go_simp
      refine hK.out _ _ (fun _ => B7.out) ?_
      clear hK K
      (try simp only [zzp, zza, zzb, zzc])
      generalize hne : w5.heap.size = ne at *
      generalize (w5.alloc (.cells #[.string t, .slice a5 bl c5] 61)) = w7 at *
      refine wpAnyT_one (i := 27) (o := ⟨some 41, .call { callee := .builtin .append, args := #[.tmp 14, .tmp 40], argTypes := #[57, 57] }, 57, "ref.go:413", #[⟨0, .data⟩, ⟨26, .data⟩, ⟨24, .chain⟩], none⟩) (by kernel_rfl) rfl (fun K hK => ?_)
      refine step_append_lies _ rfl (.tmp 14) (.tmp 40) 57 rfl w.heap.size 61 i0 (.agg #[.string ⟨#[]⟩, .slice none 0 0]) 2 40 Tryz.underlying57 hi.out hz0 hz1 hz2 rfl (by decide) u3 DD.length (Dk.fcells DD vs) (by simp [Act.eval]) R7.out ⟨ne, 0, none⟩ 1 1 [.string t, .slice a5 bl c5] (by simp [Act.eval]) rfl (two_new N7.out) (by simp [Value.oneCell']) (by decide) (by have := hll.out; have := hl.out; unfold maxLen; omega) (by have := hll.out; have := hl.out; omega) z7.out w7.heap.size rfl ?_
      intro g2 cap2 w8 ho8 hg8 hat hlt8
      have W8 : Hid (Below w.heap.size w w8) := Below.grown b7.out hg8 z7.out (fun j hj => (World.ownsRow.lt R7.out j hj).1)
      have F8 : Hid (FlI w.heap.size w8 (.slice (some ⟨g2, 0, none⟩) (DD.length + 1) cap2) (DD ++ [(s, BL)]) (vs ++ [.slice a5 bl c5])) := by
        refine hO.out.snoc hB.out.size O7.out B7.out (by rw [hes.out]; exact ho8) hg8 ?_
        rcases hat with e | e
        · exact .inl (by rw [e]; rfl)
        · exact .inr ⟨g2, rfl, by rw [e]; exact Nat.le_refl _⟩
      refine hK.out _ _ (vac (by kernel_rfl)) ?_
      clear hK K
      (try simp only [zzp, zza, zzb, zzc])
      refine wpAnyT_one (i := 28) (o := ⟨some 3, .assign (.tmp 41), 57, "ref.go:413", #[⟨27, .data⟩, ⟨27, .chain⟩, ⟨0, .phase⟩, ⟨1, .phase⟩, ⟨2, .phase⟩, ⟨3, .phase⟩, ⟨4, .phase⟩, ⟨5, .phase⟩, ⟨6, .phase⟩, ⟨7, .phase⟩, ⟨8, .phase⟩, ⟨9, .phase⟩, ⟨10, .phase⟩, ⟨11, .phase⟩, ⟨12, .phase⟩, ⟨13, .phase⟩, ⟨14, .phase⟩, ⟨15, .phase⟩, ⟨16, .phase⟩, ⟨17, .phase⟩, ⟨18, .phase⟩, ⟨19, .phase⟩, ⟨20, .phase⟩, ⟨21, .phase⟩, ⟨22, .phase⟩, ⟨23, .phase⟩, ⟨24, .phase⟩, ⟨25, .phase⟩, ⟨26, .phase⟩, ⟨27, .phase⟩], none⟩) (by kernel_rfl) rfl (fun K hK => ?_)
      go_simp
      refine hK.out _ _ (vac (by kernel_rfl)) ?_
      clear hK K
      (try simp only [zzp, zza, zzb, zzc])
      refine wpAnyT_done (by kernel_rfl) ?_ _
      go_wp2_with fail
      go_roundw
      case rel => exact ⟨k + 1, by go_num, by omega, vs ++ [.slice a5 bl c5], by rw [hsn.out.out]; exact F8.out, W8.out⟩
      case measure => simp [intOf]; omega
    · have i1 : ¬ ((k : Int) < (N : Int)) := by omega
      obtain rfl : k = N := by omega
      rw [List.take_of_length_le (by rw [hN.out]; omega)] at hO
      go_wp2_with fail
      go_ret
      exact ⟨_, rfl, ⟨vs, hO.out⟩, hB.out⟩
set_option maxRecDepth 100000 in
set_option maxHeartbeats 1000000 in
theorem lasting_rm {w : World} {b : Nat} {R : RB} {V : RV} (h : RM w b R V) (hl : (R.old.length : Int) ≤ 1000000000) (hg : ∀ e ∈ R.old, e.2 < R.F.length) (hla : ∀ f ∈ R.F, f.2.1.length ≤ f.1.length ∧ (f.1.length : Int) ≤ 100000000) :
    Calls Tryz.prog 67 #[.pointer (some ⟨b, 0, none⟩)] w fun e w' => ∃ v vs, e = .returned v ∧ FlI w.heap.size w' v R.lasts vs ∧ Below w.heap.size w w' := by
  have hE : Hid (R.lasts = R.old.map fun e => (e.1, (R.fOf e.2).2.1)) := rfl
  rw [hE.out]
  have c2 : w.cell? ⟨b, 3, none⟩ = some V.vO := (h.cell 3).trans rfl
  obtain ⟨da, dc, hvd, dl1, dl2, q3⟩ := h.oo.tr
  rw [hvd] at c2
  have HM := hide h
  obtain ⟨N, hN⟩ : ∃ N, Hid (R.old.length = N) := ⟨_, rfl⟩
  rw [hN.out] at c2 dl1 hl
  replace q3 := hide q3
  replace hl := hide hl
  replace hg := hide hg
  replace hla := hide hla
  obtain ⟨i0, hi, hz0, hz1, hz2⟩ := info_parts infoFile
  replace hi := hide hi
  have KB : Hid (∀ q, Below w.heap.size w q → q.cell? ⟨b, 3, none⟩ = some (.slice da N dc)) := fun q hq => by rw [hq.cell (lt_of_cell c2)]; exact c2
  clear h
  go_enter Tryz.func67, Tryz.ntmps67
  go_wp2_with fail
  go_loopw [3, 4] (fun v3 i wr => ∃ k : Nat, i = .int .i64 k ∧ k ≤ N ∧ Hid (∃ vs, FlI w.heap.size wr v3 ((R.old.take k).map fun e => (e.1, (R.fOf e.2).2.1)) vs ∧ Below w.heap.size w wr)) (fun _ i _ => N - (intOf i).toNat)
  case atStart => exact ⟨0, rfl, Nat.zero_le _, [], FlI.nil _ _, Below.refl _ _⟩
  case round =>
    obtain ⟨k, rfl, hk, hQ⟩ := hrel
    obtain ⟨vs, hO, hB⟩ := hQ.out
    clear c2 hQ
    replace hO := hide hO
    replace hB := hide hB
    have c2 := KB.out wr hB.out
    by_cases hlt : k < N
    · have i1 : (k : Int) < (N : Int) := by omega
      have hkl : k < R.old.length := by rw [hN.out]; exact hlt
      obtain ⟨gb, off, rfl, y0, y1⟩ := q3.out k hkl
      rw [← hB.out.cell (p := ⟨gb, off + k * 2, none⟩) (lt_of_cell y0)] at y0
      rw [← hB.out.cell (p := ⟨gb, off + k * 2 + 1, none⟩) (lt_of_cell y1)] at y1
      have hp := hg.out R.old[k] (List.getElem_mem hkl)
      have MR := hide (HM.out.below hB.out)
      obtain ⟨g, cap, evf, fl1, fl2, hl', z0, z1, z2⟩ := MR.out.at hp
      have c1 : wr.cell? ⟨b, 1, none⟩ = some V.vF := (MR.out.cell 1).trans rfl
      rw [evf] at c1
      have OB := hide (MR.out.nn _ hp).2
      obtain ⟨ta, tc, et, tl1, tl2⟩ := OB.out.form
      have hlap := hla.out _ (List.getElem_mem hp)
      have hto : (R.fOf R.old[k].2).2.1 = R.F[R.old[k].2].2.1 := by unfold RB.fOf; rw [List.getElem?_eq_getElem hp]; rfl
      have hsn : Hid ((R.old.take (k + 1)).map (fun e => (e.1, (R.fOf e.2).2.1)) = (R.old.take k).map (fun e => (e.1, (R.fOf e.2).2.1)) ++ [(R.old[k].1, R.F[R.old[k].2].2.1)]) := by show _ = _; rw [List.take_succ_eq_append_getElem hkl, List.map_append, ← hto]; rfl
      have hll : Hid (((R.old.take k).map (fun e => (e.1, (R.fOf e.2).2.1))).length = k) := by show _ = _; rw [List.length_map, List.length_take]; omega
      have zX : wr.cell? ⟨g, R.old[k].2 * 3 + 1, none⟩ = some (.slice ta R.F[R.old[k].2].2.1.length tc) := by rw [← et]; exact z1
      have ip : (R.old[k].2 : Int) < (R.F.length : Int) := by omega
      have hbz : Hid (R.F[R.old[k].2].2.1.length ≤ 100000000) := by show _ ≤ _; omega
      rw [et] at OB
      generalize R.F[R.old[k].2].2.1 = BL at *
      obtain ⟨bl, hbl⟩ : ∃ bl, Hid (BL.length = bl) := ⟨_, rfl⟩
      rw [hbl.out] at zX hbz OB
      clear z0 z1 z2 hto hlap et
      generalize hpp : R.old[k].2 = p at *
      generalize hss : R.old[k].1 = s at *
      generalize (R.old.take k).map (fun e => (e.1, (R.fOf e.2).2.1)) = DD at *
      have hes : Hid (encStr s = .string (bsOf s)) := rfl
      generalize bsOf s = t at *
      generalize hFl : R.F.length = fl at *
      replace hsn := hide hsn
      have KC : Hid (∀ q : World, Below wr.heap.size wr q → q.cell? ⟨b, 1, none⟩ = some (.slice (some ⟨g, 0, none⟩) fl cap) ∧ q.cell? ⟨b, 3, none⟩ = some (.slice (some ⟨gb, off, none⟩) N dc) ∧ q.cell? ⟨gb, off + k * 2 + 1, none⟩ = some (.int .i64 (p : Int)) ∧ q.cell? ⟨g, p * 3 + 1, none⟩ = some (.slice ta bl tc) ∧ q.cell? ⟨gb, off + k * 2, none⟩ = some (.string t)) := fun q hq => ⟨by rw [hq.cell (lt_of_cell c1)]; exact c1, by rw [hq.cell (lt_of_cell c2)]; exact c2, by rw [hq.cell (lt_of_cell y1)]; exact y1, by rw [hq.cell (lt_of_cell zX)]; exact zX, by rw [hq.cell (lt_of_cell y0)]; exact y0⟩
      clear c1 y0 y1 zX hpp hss hp
      go_upto_region 5 with fail
      clear c2
      have KP : Hid (Below wr.heap.size wr wr.drew) := (Below.refl _ _).drew
      refine wp_region_T (fun q => Below wr.heap.size wr q) 27 (by kernel_rfl) ?_
      generalize wr.drew = q at *
      refine Ix.tk 0 ⟨some 14, .move (.tmp 3), 57, "ref.go:422", #[], none⟩ (u3) [27] ?_ KP.out ?_
      · intro wq hSw
        obtain ⟨x1, x2, x3, x4, x5⟩ := KC.out wq hSw
        go_simp
      (try simp only [zzp, zza, zzb, zzc])
      refine Ix.tk 1 ⟨some 15, .move (.tmp 0), 26, "ref.go:422", #[], none⟩ (.pointer (some ⟨b, 0, none⟩)) [2,3,4,6,7,8,25,26,27] ?_ KP.out ?_
      · intro wq hSw
        obtain ⟨x1, x2, x3, x4, x5⟩ := KC.out wq hSw
        go_simp
      (try simp only [zzp, zza, zzb, zzc])
      refine Ix.tk 2 ⟨some 16, .nilCheck (.tmp 15), 0, "ref.go:422", #[⟨1,.data⟩], none⟩ (.pointer (some ⟨b, 0, none⟩)) [3,4,6,7,8,25,26,27] ?_ KP.out ?_
      · intro wq hSw
        obtain ⟨x1, x2, x3, x4, x5⟩ := KC.out wq hSw
        go_simp
      (try simp only [zzp, zza, zzb, zzc])
      refine Ix.tk 3 ⟨some 17, .fieldAddr 103 (.tmp 16) 3, 0, "ref.go:422", #[⟨2,.data⟩], none⟩ (.pointer (some ⟨b, 3, none⟩)) [4,6,7,8,25,26,27] ?_ KP.out ?_
      · intro wq hSw
        obtain ⟨x1, x2, x3, x4, x5⟩ := KC.out wq hSw
        go_simp
      (try simp only [zzp, zza, zzb, zzc])
      refine Ix.tk 4 ⟨some 18, .load 100 (.tmp 17), 100, "ref.go:422", #[⟨3,.data⟩], none⟩ (.slice (some ⟨gb, off, none⟩) N dc) [6,7,8,25,26,27] ?_ KP.out ?_
      · intro wq hSw
        obtain ⟨x1, x2, x3, x4, x5⟩ := KC.out wq hSw
        go_simp
      (try simp only [zzp, zza, zzb, zzc])
      refine Ix.tk 5 ⟨some 19, .move (.tmp 4), 3, "ref.go:422", #[], none⟩ (.int .i64 (k : Int)) [6,7,8,25,26,27] ?_ KP.out ?_
      · intro wq hSw
        obtain ⟨x1, x2, x3, x4, x5⟩ := KC.out wq hSw
        go_simp
      (try simp only [zzp, zza, zzb, zzc])
      refine Ix.tk 6 ⟨some 20, .indexAddr 100 (.tmp 18) (.tmp 19), 0, "ref.go:422", #[⟨4,.data⟩,⟨5,.data⟩], none⟩ (.pointer (some ⟨gb, off + k * 2, none⟩)) [7,8,25,26,27] ?_ KP.out ?_
      · intro wq hSw
        obtain ⟨x1, x2, x3, x4, x5⟩ := KC.out wq hSw
        go_simp
      (try simp only [zzp, zza, zzb, zzc])
      refine Ix.tk 7 ⟨some 21, .fieldAddr 142 (.tmp 20) 0, 0, "ref.go:422", #[⟨6,.data⟩], none⟩ (.pointer (some ⟨gb, off + k * 2, none⟩)) [8,25,26,27] ?_ KP.out ?_
      · intro wq hSw
        obtain ⟨x1, x2, x3, x4, x5⟩ := KC.out wq hSw
        go_simp
      (try simp only [zzp, zza, zzb, zzc])
      refine Ix.tk 8 ⟨some 22, .load 9 (.tmp 21), 9, "ref.go:422", #[⟨7,.data⟩], none⟩ (.string t) [25,26,27] ?_ KP.out ?_
      · intro wq hSw
        obtain ⟨x1, x2, x3, x4, x5⟩ := KC.out wq hSw
        go_simp
      (try simp only [zzp, zza, zzb, zzc])
      refine Ix.tk 9 ⟨some 23, .move (.tmp 0), 26, "ref.go:422", #[], none⟩ (.pointer (some ⟨b, 0, none⟩)) [10,11,12,21,22,23,24,25,26,27] ?_ KP.out ?_
      · intro wq hSw
        obtain ⟨x1, x2, x3, x4, x5⟩ := KC.out wq hSw
        go_simp
      (try simp only [zzp, zza, zzb, zzc])
      refine Ix.tk 10 ⟨some 24, .nilCheck (.tmp 23), 0, "ref.go:422", #[⟨9,.data⟩], none⟩ (.pointer (some ⟨b, 0, none⟩)) [11,12,21,22,23,24,25,26,27] ?_ KP.out ?_
      · intro wq hSw
        obtain ⟨x1, x2, x3, x4, x5⟩ := KC.out wq hSw
        go_simp
      (try simp only [zzp, zza, zzb, zzc])
      refine Ix.tk 11 ⟨some 25, .fieldAddr 103 (.tmp 24) 1, 0, "ref.go:422", #[⟨10,.data⟩], none⟩ (.pointer (some ⟨b, 1, none⟩)) [12,21,22,23,24,25,26,27] ?_ KP.out ?_
      · intro wq hSw
        obtain ⟨x1, x2, x3, x4, x5⟩ := KC.out wq hSw
        go_simp
      (try simp only [zzp, zza, zzb, zzc])
      refine Ix.tk 12 ⟨some 26, .load 99 (.tmp 25), 99, "ref.go:422", #[⟨11,.data⟩], none⟩ (.slice (some ⟨g, 0, none⟩) fl cap) [21,22,23,24,25,26,27] ?_ KP.out ?_
      · intro wq hSw
        obtain ⟨x1, x2, x3, x4, x5⟩ := KC.out wq hSw
        go_simp
      (try simp only [zzp, zza, zzb, zzc])
      refine Ix.tk 13 ⟨some 27, .move (.tmp 0), 26, "ref.go:422", #[], none⟩ (.pointer (some ⟨b, 0, none⟩)) [14,15,16,18,19,20,21,22,23,24,25,26,27] ?_ KP.out ?_
      · intro wq hSw
        obtain ⟨x1, x2, x3, x4, x5⟩ := KC.out wq hSw
        go_simp
      (try simp only [zzp, zza, zzb, zzc])
      refine Ix.tk 14 ⟨some 28, .nilCheck (.tmp 27), 0, "ref.go:422", #[⟨13,.data⟩], none⟩ (.pointer (some ⟨b, 0, none⟩)) [15,16,18,19,20,21,22,23,24,25,26,27] ?_ KP.out ?_
      · intro wq hSw
        obtain ⟨x1, x2, x3, x4, x5⟩ := KC.out wq hSw
        go_simp
      (try simp only [zzp, zza, zzb, zzc])
      refine Ix.tk 15 ⟨some 29, .fieldAddr 103 (.tmp 28) 3, 0, "ref.go:422", #[⟨14,.data⟩], none⟩ (.pointer (some ⟨b, 3, none⟩)) [16,18,19,20,21,22,23,24,25,26,27] ?_ KP.out ?_
      · intro wq hSw
        obtain ⟨x1, x2, x3, x4, x5⟩ := KC.out wq hSw
        go_simp
      (try simp only [zzp, zza, zzb, zzc])
      refine Ix.tk 16 ⟨some 30, .load 100 (.tmp 29), 100, "ref.go:422", #[⟨15,.data⟩], none⟩ (.slice (some ⟨gb, off, none⟩) N dc) [18,19,20,21,22,23,24,25,26,27] ?_ KP.out ?_
      · intro wq hSw
        obtain ⟨x1, x2, x3, x4, x5⟩ := KC.out wq hSw
        go_simp
      (try simp only [zzp, zza, zzb, zzc])
      refine Ix.tk 17 ⟨some 31, .move (.tmp 4), 3, "ref.go:422", #[], none⟩ (.int .i64 (k : Int)) [18,19,20,21,22,23,24,25,26,27] ?_ KP.out ?_
      · intro wq hSw
        obtain ⟨x1, x2, x3, x4, x5⟩ := KC.out wq hSw
        go_simp
      (try simp only [zzp, zza, zzb, zzc])
      refine Ix.tk 18 ⟨some 32, .indexAddr 100 (.tmp 30) (.tmp 31), 0, "ref.go:422", #[⟨16,.data⟩,⟨17,.data⟩], none⟩ (.pointer (some ⟨gb, off + k * 2, none⟩)) [19,20,21,22,23,24,25,26,27] ?_ KP.out ?_
      · intro wq hSw
        obtain ⟨x1, x2, x3, x4, x5⟩ := KC.out wq hSw
        go_simp
      (try simp only [zzp, zza, zzb, zzc])
      refine Ix.tk 19 ⟨some 33, .fieldAddr 142 (.tmp 32) 1, 0, "ref.go:422", #[⟨18,.data⟩], none⟩ (.pointer (some ⟨gb, off + k * 2 + 1, none⟩)) [20,21,22,23,24,25,26,27] ?_ KP.out ?_
      · intro wq hSw
        obtain ⟨x1, x2, x3, x4, x5⟩ := KC.out wq hSw
        go_simp
      (try simp only [zzp, zza, zzb, zzc])
      refine Ix.tk 20 ⟨some 34, .load 3 (.tmp 33), 3, "ref.go:422", #[⟨19,.data⟩], none⟩ (.int .i64 (p : Int)) [21,22,23,24,25,26,27] ?_ KP.out ?_
      · intro wq hSw
        obtain ⟨x1, x2, x3, x4, x5⟩ := KC.out wq hSw
        go_simp
      (try simp only [zzp, zza, zzb, zzc])
      refine Ix.tk 21 ⟨some 35, .indexAddr 99 (.tmp 26) (.tmp 34), 0, "ref.go:422", #[⟨12,.data⟩,⟨20,.data⟩], none⟩ (.pointer (some ⟨g, p * 3, none⟩)) [22,23,24,25,26,27] ?_ KP.out ?_
      · intro wq hSw
        obtain ⟨x1, x2, x3, x4, x5⟩ := KC.out wq hSw
        go_simp
      (try simp only [zzp, zza, zzb, zzc])
      refine Ix.tk 22 ⟨some 36, .fieldAddr 138 (.tmp 35) 1, 0, "ref.go:422", #[⟨21,.data⟩], none⟩ (.pointer (some ⟨g, p * 3 + 1, none⟩)) [23,24,25,26,27] ?_ KP.out ?_
      · intro wq hSw
        obtain ⟨x1, x2, x3, x4, x5⟩ := KC.out wq hSw
        go_simp
      (try simp only [zzp, zza, zzb, zzc])
      refine Ix.tk 23 ⟨some 37, .load 30 (.tmp 36), 30, "ref.go:422", #[⟨22,.data⟩], none⟩ (.slice ta bl tc) [24,25,26,27] ?_ KP.out ?_
      · intro wq hSw
        obtain ⟨x1, x2, x3, x4, x5⟩ := KC.out wq hSw
        go_simp
      (try simp only [zzp, zza, zzb, zzc])
      obtain ⟨v5, w5, hr, O5, G5, A5⟩ := run_app (Ob.nil q.heap.size q) (OB.out.below KP.out).sl (by have := hbz.out; have := hbl.out; simp; omega) (Nat.le_refl _) 30
      rw [List.nil_append] at O5
      obtain ⟨a5, c5, e5, l51, l52⟩ := O5.form
      rw [hbl.out] at e5
      have U5 : Hid (Below q.heap.size q w5) := (Below.refl _ _).grown G5 (Nat.le_refl _) (fun k hk => by simp [Value.ownBlock] at hk)
      have B5 : Hid (Below wr.heap.size wr w5) := KP.out.trans (U5.out.mono KP.out.size)
      have O6 : Hid (Ob wr.heap.size w5 v5 BL) := O5.low KP.out.size
      refine wpAnyT_one (i := 24) (o := ⟨some 38, .call { callee := .builtin .append, args := #[.const (Value.slice none 0 0), .tmp 37], argTypes := #[30, 30] }, 30, "ref.go:422", #[⟨23, .data⟩], none⟩) (by kernel_rfl) rfl (fun K hK => ?_)
      refine step_app rfl (.const (.slice none 0 0)) (.tmp 37) rfl _ _ _ w5 (by simp [Act.eval]) (by simp [Act.eval]) hr ?_
      refine hK.out _ _ (fun _ => B5.out) ?_
      clear hK K hr
      (try simp only [zzp, zza, zzb, zzc])
      subst e5
      refine Ix.tk 25 ⟨some 39, .build 61 #[(0, .tmp 22), (1, .tmp 38)], 61, "ref.go:422", #[⟨8,.data⟩,⟨24,.data⟩], none⟩ (.agg #[.string t, .slice a5 bl c5]) [26,27] ?_ B5.out ?_
      · intro wq hSw
        obtain ⟨x1, x2, x3, x4, x5⟩ := KC.out wq hSw
        go_simp
      (try simp only [zzp, zza, zzb, zzc])
      have B7 : Hid (Below wr.heap.size wr (w5.alloc (.cells #[.string t, .slice a5 bl c5] 61))) := B5.out.trans ((box_below w5 _).mono B5.out.size)
      have O7 : Hid (Ob wr.heap.size (w5.alloc (.cells #[.string t, .slice a5 bl c5] 61)) (.slice a5 bl c5) BL) := O6.out.below (box_below w5 _)
      have N7 := hide (heap_alloc_new w5 (.cells #[.string t, .slice a5 bl c5] 61))
      have R7 : Hid (World.ownsRow (w5.alloc (.cells #[.string t, .slice a5 bl c5] 61)) w.heap.size 61 2 u3 DD.length (Dk.fcells DD vs)) := (hO.out.below B7.out).row
      have z7 : Hid (w.heap.size ≤ (w5.alloc (.cells #[.string t, .slice a5 bl c5] 61)).heap.size) := Nat.le_trans hB.out.size B7.out.size
      have b7 : Hid (Below w.heap.size w (w5.alloc (.cells #[.string t, .slice a5 bl c5] 61))) := hB.out.trans (B7.out.mono hB.out.size)
      refine wpAnyT_one (i := 26) (o := ⟨some 40, .buildSlice 57 1 #[(0, .tmp 39)], 57, "ref.go:422", #[⟨25, .data⟩], none⟩) (by kernel_rfl) rfl (fun K hK => ?_)
      go_simp
      refine hK.out _ _ (fun _ => B7.out) ?_
      clear hK K
      (try simp only [zzp, zza, zzb, zzc])
      generalize hne : w5.heap.size = ne at *
      generalize (w5.alloc (.cells #[.string t, .slice a5 bl c5] 61)) = w7 at *
      refine wpAnyT_one (i := 27) (o := ⟨some 41, .call { callee := .builtin .append, args := #[.tmp 14, .tmp 40], argTypes := #[57, 57] }, 57, "ref.go:422", #[⟨0, .data⟩, ⟨26, .data⟩, ⟨24, .chain⟩], none⟩) (by kernel_rfl) rfl (fun K hK => ?_)
      refine step_append_lies _ rfl (.tmp 14) (.tmp 40) 57 rfl w.heap.size 61 i0 (.agg #[.string ⟨#[]⟩, .slice none 0 0]) 2 40 Tryz.underlying57 hi.out hz0 hz1 hz2 rfl (by decide) u3 DD.length (Dk.fcells DD vs) (by simp [Act.eval]) R7.out ⟨ne, 0, none⟩ 1 1 [.string t, .slice a5 bl c5] (by simp [Act.eval]) rfl (two_new N7.out) (by simp [Value.oneCell']) (by decide) (by have := hll.out; have := hl.out; unfold maxLen; omega) (by have := hll.out; have := hl.out; omega) z7.out w7.heap.size rfl ?_
      intro g2 cap2 w8 ho8 hg8 hat hlt8
      have W8 : Hid (Below w.heap.size w w8) := Below.grown b7.out hg8 z7.out (fun j hj => (World.ownsRow.lt R7.out j hj).1)
      have F8 : Hid (FlI w.heap.size w8 (.slice (some ⟨g2, 0, none⟩) (DD.length + 1) cap2) (DD ++ [(s, BL)]) (vs ++ [.slice a5 bl c5])) := by
        refine hO.out.snoc hB.out.size O7.out B7.out (by rw [hes.out]; exact ho8) hg8 ?_
        rcases hat with e | e
        · exact .inl (by rw [e]; rfl)
        · exact .inr ⟨g2, rfl, by rw [e]; exact Nat.le_refl _⟩
      refine hK.out _ _ (vac (by kernel_rfl)) ?_
      clear hK K
      (try simp only [zzp, zza, zzb, zzc])
      refine wpAnyT_one (i := 28) (o := ⟨some 3, .assign (.tmp 41), 57, "ref.go:422", #[⟨27, .data⟩, ⟨27, .chain⟩, ⟨0, .phase⟩, ⟨1, .phase⟩, ⟨2, .phase⟩, ⟨3, .phase⟩, ⟨4, .phase⟩, ⟨5, .phase⟩, ⟨6, .phase⟩, ⟨7, .phase⟩, ⟨8, .phase⟩, ⟨9, .phase⟩, ⟨10, .phase⟩, ⟨11, .phase⟩, ⟨12, .phase⟩, ⟨13, .phase⟩, ⟨14, .phase⟩, ⟨15, .phase⟩, ⟨16, .phase⟩, ⟨17, .phase⟩, ⟨18, .phase⟩, ⟨19, .phase⟩, ⟨20, .phase⟩, ⟨21, .phase⟩, ⟨22, .phase⟩, ⟨23, .phase⟩, ⟨24, .phase⟩, ⟨25, .phase⟩, ⟨26, .phase⟩, ⟨27, .phase⟩], none⟩) (by kernel_rfl) rfl (fun K hK => ?_)
      go_simp
      refine hK.out _ _ (vac (by kernel_rfl)) ?_
      clear hK K
      (try simp only [zzp, zza, zzb, zzc])
      refine wpAnyT_done (by kernel_rfl) ?_ _
      go_wp2_with fail
      go_roundw
      case rel => exact ⟨k + 1, by go_num, by omega, vs ++ [.slice a5 bl c5], by rw [hsn.out.out]; exact F8.out, W8.out⟩
      case measure => simp [intOf]; omega
    · have i1 : ¬ ((k : Int) < (N : Int)) := by omega
      obtain rfl : k = N := by omega
      rw [List.take_of_length_le (by rw [hN.out]; omega)] at hO
      go_wp2_with fail
      go_ret
      exact ⟨_, rfl, ⟨vs, hO.out⟩, hB.out⟩
end Go.Proofs.YtjehpijjneghpaaGreat.Re
