/-
  Is: a disk tells what the document's does.
-/
import Derived.Test.YtjehpijjneghpaaGreatM42
import Derived.Test.YtjehpijjneghpaaGreatM38
import Derived.Test.YtjehpijjneghpaaGreatM19
namespace Go.Proofs.YtjehpijjneghpaaGreat.Re
open Go.RowKit Go.Maps Go.Sort Go.Shelf Go.Proofs.YtjehpijjneghpaaGreat.Nm Go.Proofs.YtjehpijjneghpaaGreat.Dk
open Ix (wp_region_T wpAnyT wpAnyT_take wpAnyT_one wpAnyT_done vac)
set_option linter.unusedVariables false
theorem files_dskE {w : World} {b : Nat} {S : DS} {O : Nat → Prop} (h : DskE w b S O) (hc : S.c7 < 1000000000) : Calls Tryz.prog 23 #[.pointer (some ⟨b, 0, none⟩)] w fun e w' => ∃ v, e = .returned v ∧ Fr w' v S.files ∧ Below w.heap.size w w' := by
  obtain ⟨f, g, pd, am, VB, VL, hd⟩ := h
  refine (files_any hd hc).mono ?_
  rintro e w' ⟨v, vs, rfl, h1, h2⟩
  exact ⟨v, rfl, fr_of h1, h2⟩
theorem lasts_dskE {w : World} {b : Nat} {S : DS} {O : Nat → Prop} (h : DskE w b S O) (hc : S.c7 < 1000000000) : Calls Tryz.prog 24 #[.pointer (some ⟨b, 0, none⟩)] w fun e w' => ∃ v, e = .returned v ∧ Fr w' v S.lasts ∧ Below w.heap.size w w' := by
  obtain ⟨f, g, pd, am, VB, VL, hd⟩ := h
  refine (lasts_any hd hc).mono ?_
  rintro e w' ⟨v, vs, rfl, h1, h2⟩
  exact ⟨v, rfl, fr_of h1, h2⟩
structure Ic (w : World) (rb : Nat) (R : RB) (pa : Option Addr) (np pc : Nat) (q : World) : Prop where
  bel : Below w.heap.size w q
  c4 : q.cell? ⟨rb, 4, none⟩ = some (.slice pa np pc)
  c7 : q.cell? ⟨rb, 7, none⟩ = some (.int .i64 R.c0)
  c8 : q.cell? ⟨rb, 8, none⟩ = some (.int .i64 R.c1)
  c9 : q.cell? ⟨rb, 9, none⟩ = some (.int .i64 R.c2)
  c10 : q.cell? ⟨rb, 10, none⟩ = some (.int .i64 R.c3)
  c11 : q.cell? ⟨rb, 11, none⟩ = some (.int .i64 R.c4)
  c12 : q.cell? ⟨rb, 12, none⟩ = some (.int .i64 R.c5)
  c13 : q.cell? ⟨rb, 13, none⟩ = some (.int .i64 R.c6)
  c14 : q.cell? ⟨rb, 14, none⟩ = some (.int .i64 R.c7)
  c15 : q.cell? ⟨rb, 15, none⟩ = some (.int .i64 R.c8)
  c16 : q.cell? ⟨rb, 16, none⟩ = some (.bool R.down)
set_option maxRecDepth 100000 in
set_option maxHeartbeats 4000000 in
theorem is_any {w : World} {b rb : Nat} {S : DS} {R : RB} {O : Nat → Prop} {V : RV} (hd : DskE w b S O) (hm : RM w rb R V) (hr : Rel S R) (cs : S.c7 ≤ 100000) :
    Calls Tryz.prog 13 #[.pointer (some ⟨b, 0, none⟩), .pointer (some ⟨rb, 0, none⟩)] w fun e w' => e = .returned (.bool true) ∧ Below w.heap.size w w' := by
  have I := hide hr.ri
  have hc7 : R.c7 ≤ 100000 := by have := hr.cnts; omega
  obtain ⟨pa, pc, hvp, hpc⟩ : ∃ pa pc, V.vP = .slice pa R.pe.length pc ∧ pc ≤ 9223372036854775807 := by
    rcases hm.pp.2 with ⟨e, h0⟩ | ⟨g, cap, cur, e, _, _, _, h2, _⟩
    · exact ⟨none, 0, by rw [h0]; exact e, by omega⟩
    · exact ⟨_, cap, e, by unfold maxLen at h2; omega⟩
  have hnp : R.pe.length ≤ 1000000000 := by have := hr.ri.cnt; omega
  have hUp : Hid (∀ q, Below w.heap.size w q → Calls Tryz.prog 43 #[.pointer (some ⟨b, 0, none⟩)] q fun e w' => e = .returned (.bool (!R.down)) ∧ w' = q) := fun q hq => by rw [← hr.up]; exact up_dsk (hd.below hq)
  have hCo : Hid (∀ q, Below w.heap.size w q → Calls Tryz.prog 65 #[.pointer (some ⟨b, 0, none⟩)] q fun e w' => e = .returned (.agg #[.int .i64 R.c0, .int .i64 R.c1, .int .i64 R.c2, .int .i64 R.c3, .int .i64 R.c4, .int .i64 R.c5, .int .i64 R.c6, .int .i64 R.c7, .int .i64 R.c8]) ∧ Below q.heap.size q w') := fun q hq => by
    obtain ⟨e0, e1, e2, e3, e4, e5, e6, e7, e8⟩ := hr.cnts
    have := count_dsk (hd.below hq)
    unfold DS.cs at this
    rw [e0, e1, e2, e3, e4, e5, e6, e7, e8] at this
    exact this
  have hPe : Hid (∀ q, Below w.heap.size w q → Calls Tryz.prog 22 #[.pointer (some ⟨b, 0, none⟩)] q fun e w' => e = .returned (.int .i64 (R.pe.length : Int)) ∧ w' = q) := fun q hq => by rw [← hr.pend]; exact pending_dsk (hd.below hq)
  have hFi : Hid (∀ q, Below w.heap.size w q → Calls Tryz.prog 23 #[.pointer (some ⟨b, 0, none⟩)] q fun e w' => ∃ v, e = .returned v ∧ Fr w' v R.all ∧ Below q.heap.size q w') := fun q hq => by rw [← hr.files]; exact files_dskE (hd.below hq) (by omega)
  have hLa : Hid (∀ q, Below w.heap.size w q → Calls Tryz.prog 24 #[.pointer (some ⟨b, 0, none⟩)] q fun e w' => ∃ v, e = .returned v ∧ Fr w' v R.lasts ∧ Below q.heap.size q w') := fun q hq => by rw [← hr.lasts]; exact lasts_dskE (hd.below hq) (by omega)
  have hTa : Hid (∀ q, Below w.heap.size w q → Calls Tryz.prog 27 #[.pointer (some ⟨b, 0, none⟩), .int .i64 (R.pe.length : Int)] q fun e w' => ∃ v, e = .returned v ∧ Tr w' v (R.tails (R.pe.length : Int)) ∧ Below q.heap.size q w') := fun q hq => by
    rw [← hr.tails]
    refine (tails_dskE (hd.below hq) (by omega) _ (by omega) (by omega)).mono ?_
    rintro e w' ⟨v, rfl, h1, h2⟩
    exact ⟨v, rfl, h1.tr, h2⟩
  have hAl : Hid (∀ q, Below w.heap.size w q → Calls Tryz.prog 66 #[.pointer (some ⟨rb, 0, none⟩)] q fun e w' => ∃ v, e = .returned v ∧ Fr w' v R.all ∧ Below q.heap.size q w') := fun q hq => by
    refine (all_rm (hm.below hq) (by have := I.out.dlen; omega) I.out.dirF I.out.la).mono ?_
    rintro e w' ⟨v, vs, rfl, h1, h2⟩
    exact ⟨v, rfl, fr_of h1, h2⟩
  have hRl : Hid (∀ q, Below w.heap.size w q → Calls Tryz.prog 67 #[.pointer (some ⟨rb, 0, none⟩)] q fun e w' => ∃ v, e = .returned v ∧ Fr w' v R.lasts ∧ Below q.heap.size q w') := fun q hq => by
    refine (lasting_rm (hm.below hq) (by have := I.out.cnt; omega) I.out.old I.out.la).mono ?_
    rintro e w' ⟨v, vs, rfl, h1, h2⟩
    exact ⟨v, rfl, fr_of h1, h2⟩
  have hRt : Hid (∀ q, Below w.heap.size w q → Calls Tryz.prog 63 #[.pointer (some ⟨rb, 0, none⟩), .int .i64 (R.pe.length : Int)] q fun e w' => ∃ v, e = .returned v ∧ Tr w' v (R.tails (R.pe.length : Int)) ∧ Below q.heap.size q w') := fun q hq => by
    refine (tails_rm (hm.below hq) (by have := I.out.cnt; omega) (I.out.pf (by omega)) _ (I.out.front _) I.out.la).mono ?_
    rintro e w' ⟨v, rfl, h1, h2⟩
    exact ⟨v, rfl, h1.tr, h2⟩
  have hIc : Hid (∀ q, Below w.heap.size w q → Ic w rb R pa R.pe.length pc q) := fun q hq => by
    have M := hm.below hq
    exact ⟨hq, by rw [← hvp]; exact (M.cell 4).trans rfl, (M.cell 7).trans rfl, (M.cell 8).trans rfl, (M.cell 9).trans rfl, (M.cell 10).trans rfl, (M.cell 11).trans rfl, (M.cell 12).trans rfl, (M.cell 13).trans rfl, (M.cell 14).trans rfl, (M.cell 15).trans rfl, (M.cell 16).trans rfl⟩
  have hne : Hid (((!R.down) != R.down) = true) := by show _ = _; cases R.down <;> rfl
  obtain ⟨np, enp⟩ : ∃ np, Hid (R.pe.length = np) := ⟨_, rfl⟩
  obtain ⟨TL, eTL⟩ : ∃ TL, Hid (R.tails (R.pe.length : Int) = TL) := ⟨_, rfl⟩
  rw [eTL.out] at hTa hRt
  rw [enp.out] at hTa hRt hIc hPe hnp
  clear hd hm hr I cs hvp
  go_enter Tryz.func13, Tryz.ntmps13
  go_upto_region 1 with fail
  have B0 : Hid (Below w.heap.size w w.drew) := (Below.refl _ _).drew
  have KP := hide (hIc.out _ B0.out)
  refine wp_region_T (fun q => Ic w rb R pa np pc q) 57 (by kernel_rfl) ?_
  generalize w.drew = q0 at *
  refine Ix.tk 0 ⟨some 5, .move (.tmp 0), 24, "law.go:78", #[], none⟩ (.pointer (some ⟨b, 0, none⟩)) [1,6,7,15,16,25,26,32,33,39,40,56,57] ?_ KP.out ?_
  · intro wq hSw
    have ne := hne.out
    go_simp
  (try simp only [zzp, zza, zzb, zzc])
  refine Ix.tk 2 ⟨some 7, .move (.tmp 1), 26, "law.go:78", #[], none⟩ (.pointer (some ⟨rb, 0, none⟩)) [3,4,5,6,7,15,16,25,26,32,33,39,40,56,57] ?_ KP.out ?_
  · intro wq hSw
    have ne := hne.out
    go_simp
  (try simp only [zzp, zza, zzb, zzc])
  refine Ix.tk 3 ⟨some 8, .nilCheck (.tmp 7), 0, "law.go:78", #[⟨2,.data⟩], none⟩ (.pointer (some ⟨rb, 0, none⟩)) [4,5,6,7,15,16,25,26,32,33,39,40,56,57] ?_ KP.out ?_
  · intro wq hSw
    have ne := hne.out
    go_simp
  (try simp only [zzp, zza, zzb, zzc])
  refine Ix.tk 4 ⟨some 9, .fieldAddr 103 (.tmp 8) 8, 0, "law.go:78", #[⟨3,.data⟩], none⟩ (.pointer (some ⟨rb, 16, none⟩)) [5,6,7,15,16,25,26,32,33,39,40,56,57] ?_ KP.out ?_
  · intro wq hSw
    have ne := hne.out
    go_simp
  (try simp only [zzp, zza, zzb, zzc])
  refine Ix.tk 5 ⟨some 10, .load 4 (.tmp 9), 4, "law.go:78", #[⟨4,.data⟩], none⟩ (.bool R.down) [6,7,15,16,25,26,32,33,39,40,56,57] ?_ KP.out ?_
  · intro wq hSw
    obtain ⟨_, x4, x7, x8, x9, x10, x11, x12, x13, x14, x15, x16⟩ := hSw
    have ne := hne.out
    go_simp
  (try simp only [zzp, zza, zzb, zzc])
  refine wpAnyT_one (i := 1) (o := ⟨some 6, .call { callee := .value (.func 43), args := #[.tmp 5], argTypes := #[24] }, 4, "law.go:78", #[⟨0, .data⟩], none⟩) (by kernel_rfl) rfl (fun K hK => ?_)
  go_simp
  go_at_call 43
  refine (hUp.out q0 B0.out).mono ?_
  rintro e wx1 ⟨rfl, rfl⟩
  (try go_simp)
  refine hK.out _ _ (fun _ => KP.out) ?_
  clear hK K
  (try simp only [zzp, zza, zzb, zzc])
  refine Ix.tk 6 ⟨some 11, .binOp .neq 4 (.tmp 6) (.tmp 10) 4, 4, "law.go:78", #[⟨1,.data⟩,⟨5,.data⟩], none⟩ (.bool true) [7,15,16,25,26,32,33,39,40,56,57] ?_ KP.out ?_
  · intro wq hSw
    obtain ⟨_, x4, x7, x8, x9, x10, x11, x12, x13, x14, x15, x16⟩ := hSw
    have ne := hne.out
    go_simp
  (try simp only [zzp, zza, zzb, zzc])
  refine Ix.tk 7 ⟨some 12, .move (.tmp 11), 4, "law.go:78", #[⟨6,.data⟩,⟨1,.chain⟩], none⟩ (.bool true) [15,16,25,26,32,33,39,40,56,57] ?_ KP.out ?_
  · intro wq hSw
    have ne := hne.out
    go_simp
  (try simp only [zzp, zza, zzb, zzc])
  refine Ix.tk 8 ⟨some 13, .move (.tmp 0), 24, "law.go:78", #[⟨7,.guard⟩], some (7, true)⟩ (.pointer (some ⟨b, 0, none⟩)) [9,14,15,16,25,26,32,33,39,40,56,57] ?_ KP.out ?_
  · intro wq hSw
    have ne := hne.out
    go_simp
  (try simp only [zzp, zza, zzb, zzc])
  refine Ix.tk 10 ⟨some 15, .move (.tmp 1), 26, "law.go:78", #[⟨7,.guard⟩], some (7, true)⟩ (.pointer (some ⟨rb, 0, none⟩)) [11,12,13,14,15,16,25,26,32,33,39,40,56,57] ?_ KP.out ?_
  · intro wq hSw
    have ne := hne.out
    go_simp
  (try simp only [zzp, zza, zzb, zzc])
  refine Ix.tk 11 ⟨some 16, .nilCheck (.tmp 15), 0, "law.go:78", #[⟨10,.data⟩,⟨7,.guard⟩], some (7, true)⟩ (.pointer (some ⟨rb, 0, none⟩)) [12,13,14,15,16,25,26,32,33,39,40,56,57] ?_ KP.out ?_
  · intro wq hSw
    have ne := hne.out
    go_simp
  (try simp only [zzp, zza, zzb, zzc])
  refine Ix.tk 12 ⟨some 17, .fieldAddr 103 (.tmp 16) 7, 0, "law.go:78", #[⟨11,.data⟩,⟨7,.guard⟩], some (7, true)⟩ (.pointer (some ⟨rb, 7, none⟩)) [13,14,15,16,25,26,32,33,39,40,56,57] ?_ KP.out ?_
  · intro wq hSw
    have ne := hne.out
    go_simp
  (try simp only [zzp, zza, zzb, zzc])
  refine Ix.tk 13 ⟨some 18, .load 96 (.tmp 17), 96, "law.go:78", #[⟨12,.data⟩,⟨7,.guard⟩], some (7, true)⟩ (.agg #[.int .i64 R.c0, .int .i64 R.c1, .int .i64 R.c2, .int .i64 R.c3, .int .i64 R.c4, .int .i64 R.c5, .int .i64 R.c6, .int .i64 R.c7, .int .i64 R.c8]) [14,15,16,25,26,32,33,39,40,56,57] ?_ KP.out ?_
  · intro wq hSw
    obtain ⟨_, x4, x7, x8, x9, x10, x11, x12, x13, x14, x15, x16⟩ := hSw
    have ne := hne.out
    go_simp
  (try simp only [zzp, zza, zzb, zzc])
  refine wpAnyT_one (i := 9) (o := ⟨some 14, .call { callee := .value (.func 65), args := #[.tmp 13], argTypes := #[24] }, 96, "law.go:78", #[⟨8, .data⟩, ⟨7, .chain⟩, ⟨7, .guard⟩], some (7, true)⟩) (by kernel_rfl) rfl (fun K hK => ?_)
  go_simp
  go_at_call 65
  refine (hCo.out wx1 B0.out).mono ?_
  rintro e w2 ⟨rfl, L2⟩
  have B2 : Hid (Below w.heap.size w w2) := B0.out.trans (L2.mono B0.out.size)
  have K2 := hide (hIc.out _ B2.out)
  (try go_simp)
  refine hK.out _ _ (fun _ => K2.out) ?_
  clear hK K
  (try simp only [zzp, zza, zzb, zzc])
  refine Ix.tk 14 ⟨some 19, .binOp .eql 96 (.tmp 14) (.tmp 18) 96, 4, "law.go:78", #[⟨9,.data⟩,⟨13,.data⟩,⟨7,.guard⟩], some (7, true)⟩ (.bool true) [15,16,25,26,32,33,39,40,56,57] ?_ K2.out ?_
  · intro wq hSw
    obtain ⟨_, x4, x7, x8, x9, x10, x11, x12, x13, x14, x15, x16⟩ := hSw
    have ne := hne.out
    go_simp
  (try simp only [zzp, zza, zzb, zzc])
  refine Ix.tk 15 ⟨some 20, .pick (.tmp 12) (.tmp 19) (.const (Value.bool false)), 4, "law.go:78", #[⟨7,.data⟩,⟨14,.data⟩], none⟩ (.bool true) [16,25,26,32,33,39,40,56,57] ?_ K2.out ?_
  · intro wq hSw
    obtain ⟨_, x4, x7, x8, x9, x10, x11, x12, x13, x14, x15, x16⟩ := hSw
    have ne := hne.out
    go_simp
  (try simp only [zzp, zza, zzb, zzc])
  refine Ix.tk 16 ⟨some 21, .move (.tmp 20), 4, "law.go:78", #[⟨15,.data⟩,⟨9,.chain⟩], none⟩ (.bool true) [25,26,32,33,39,40,56,57] ?_ K2.out ?_
  · intro wq hSw
    have ne := hne.out
    go_simp
  (try simp only [zzp, zza, zzb, zzc])
  refine Ix.tk 17 ⟨some 22, .move (.tmp 0), 24, "law.go:78", #[⟨16,.guard⟩], some (16, true)⟩ (.pointer (some ⟨b, 0, none⟩)) [18,24,25,26,32,33,39,40,56,57] ?_ K2.out ?_
  · intro wq hSw
    have ne := hne.out
    go_simp
  (try simp only [zzp, zza, zzb, zzc])
  refine Ix.tk 19 ⟨some 24, .move (.tmp 1), 26, "law.go:78", #[⟨16,.guard⟩], some (16, true)⟩ (.pointer (some ⟨rb, 0, none⟩)) [20,21,22,23,24,25,26,32,33,39,40,56,57] ?_ K2.out ?_
  · intro wq hSw
    have ne := hne.out
    go_simp
  (try simp only [zzp, zza, zzb, zzc])
  refine Ix.tk 20 ⟨some 25, .nilCheck (.tmp 24), 0, "law.go:78", #[⟨19,.data⟩,⟨16,.guard⟩], some (16, true)⟩ (.pointer (some ⟨rb, 0, none⟩)) [21,22,23,24,25,26,32,33,39,40,56,57] ?_ K2.out ?_
  · intro wq hSw
    have ne := hne.out
    go_simp
  (try simp only [zzp, zza, zzb, zzc])
  refine Ix.tk 21 ⟨some 26, .fieldAddr 103 (.tmp 25) 4, 0, "law.go:78", #[⟨20,.data⟩,⟨16,.guard⟩], some (16, true)⟩ (.pointer (some ⟨rb, 4, none⟩)) [22,23,24,25,26,32,33,39,40,56,57] ?_ K2.out ?_
  · intro wq hSw
    have ne := hne.out
    go_simp
  (try simp only [zzp, zza, zzb, zzc])
  refine Ix.tk 22 ⟨some 27, .load 101 (.tmp 26), 101, "law.go:78", #[⟨21,.data⟩,⟨16,.guard⟩], some (16, true)⟩ (.slice pa np pc) [23,24,25,26,32,33,39,40,56,57] ?_ K2.out ?_
  · intro wq hSw
    obtain ⟨_, x4, x7, x8, x9, x10, x11, x12, x13, x14, x15, x16⟩ := hSw
    have ne := hne.out
    go_simp
  (try simp only [zzp, zza, zzb, zzc])
  refine Ix.tk 23 ⟨some 28, .call { callee := .builtin .len, args := #[.tmp 27], argTypes := #[101] }, 3, "law.go:78", #[⟨22,.data⟩,⟨16,.guard⟩], some (16, true)⟩ (.int .i64 (np : Int)) [24,25,26,32,33,39,40,56,57] ?_ K2.out ?_
  · intro wq hSw
    obtain ⟨_, x4, x7, x8, x9, x10, x11, x12, x13, x14, x15, x16⟩ := hSw
    have ne := hne.out
    go_simp
  (try simp only [zzp, zza, zzb, zzc])
  refine wpAnyT_one (i := 18) (o := ⟨some 23, .call { callee := .value (.func 22), args := #[.tmp 22], argTypes := #[24] }, 3, "law.go:78", #[⟨17, .data⟩, ⟨16, .chain⟩, ⟨16, .guard⟩], some (16, true)⟩) (by kernel_rfl) rfl (fun K hK => ?_)
  go_simp
  go_at_call 22
  refine (hPe.out w2 B2.out).mono ?_
  rintro e wx3 ⟨rfl, rfl⟩
  (try go_simp)
  refine hK.out _ _ (fun _ => K2.out) ?_
  clear hK K
  (try simp only [zzp, zza, zzb, zzc])
  refine Ix.tk 24 ⟨some 29, .binOp .eql 3 (.tmp 23) (.tmp 28) 3, 4, "law.go:78", #[⟨18,.data⟩,⟨23,.data⟩,⟨16,.guard⟩], some (16, true)⟩ (.bool true) [25,26,32,33,39,40,56,57] ?_ K2.out ?_
  · intro wq hSw
    obtain ⟨_, x4, x7, x8, x9, x10, x11, x12, x13, x14, x15, x16⟩ := hSw
    have ne := hne.out
    go_simp
  (try simp only [zzp, zza, zzb, zzc])
  refine Ix.tk 25 ⟨some 30, .pick (.tmp 21) (.tmp 29) (.const (Value.bool false)), 4, "law.go:78", #[⟨16,.data⟩,⟨24,.data⟩], none⟩ (.bool true) [26,32,33,39,40,56,57] ?_ K2.out ?_
  · intro wq hSw
    obtain ⟨_, x4, x7, x8, x9, x10, x11, x12, x13, x14, x15, x16⟩ := hSw
    have ne := hne.out
    go_simp
  (try simp only [zzp, zza, zzb, zzc])
  refine Ix.tk 26 ⟨some 31, .move (.tmp 30), 4, "law.go:78", #[⟨25,.data⟩,⟨18,.chain⟩], none⟩ (.bool true) [32,33,39,40,56,57] ?_ K2.out ?_
  · intro wq hSw
    have ne := hne.out
    go_simp
  (try simp only [zzp, zza, zzb, zzc])
  refine Ix.tk 27 ⟨some 32, .move (.tmp 0), 24, "law.go:78", #[⟨26,.guard⟩], some (26, true)⟩ (.pointer (some ⟨b, 0, none⟩)) [28,31,32,33,39,40,56,57] ?_ K2.out ?_
  · intro wq hSw
    have ne := hne.out
    go_simp
  (try simp only [zzp, zza, zzb, zzc])
  refine Ix.tk 29 ⟨some 34, .move (.tmp 1), 26, "law.go:78", #[⟨26,.guard⟩], some (26, true)⟩ (.pointer (some ⟨rb, 0, none⟩)) [30,31,32,33,39,40,56,57] ?_ K2.out ?_
  · intro wq hSw
    have ne := hne.out
    go_simp
  (try simp only [zzp, zza, zzb, zzc])
  refine wpAnyT_one (i := 28) (o := ⟨some 33, .call { callee := .value (.func 23), args := #[.tmp 32], argTypes := #[24] }, 57, "law.go:78", #[⟨27, .data⟩, ⟨26, .chain⟩, ⟨26, .guard⟩], some (26, true)⟩) (by kernel_rfl) rfl (fun K hK => ?_)
  go_simp
  go_at_call 23
  refine (hFi.out wx3 B2.out).mono ?_
  rintro e w4 ⟨v4, rfl, F4, L4⟩
  replace F4 := hide F4
  replace L4 := hide L4
  have B4 : Hid (Below w.heap.size w w4) := B2.out.trans (L4.out.mono B2.out.size)
  have K4 := hide (hIc.out _ B4.out)
  (try go_simp)
  refine hK.out _ _ (fun _ => K4.out) ?_
  clear hK K
  (try simp only [zzp, zza, zzb, zzc])
  refine wpAnyT_one (i := 30) (o := ⟨some 35, .call { callee := .value (.func 66), args := #[.tmp 34], argTypes := #[26] }, 57, "law.go:78", #[⟨29, .data⟩, ⟨28, .chain⟩, ⟨26, .guard⟩], some (26, true)⟩) (by kernel_rfl) rfl (fun K hK => ?_)
  go_simp
  go_at_call 66
  refine (hAl.out w4 B4.out).mono ?_
  rintro e w5 ⟨v5, rfl, F5, L5⟩
  replace F5 := hide F5
  replace L5 := hide L5
  have B5 : Hid (Below w.heap.size w w5) := B4.out.trans (L5.out.mono B4.out.size)
  have K5 := hide (hIc.out _ B5.out)
  (try go_simp)
  refine hK.out _ _ (fun _ => K5.out) ?_
  clear hK K
  (try simp only [zzp, zza, zzb, zzc])
  refine wpAnyT_one (i := 31) (o := ⟨some 36, .call { callee := .value (.func 42), args := #[.tmp 33, .tmp 35], argTypes := #[57, 57] }, 4, "law.go:78", #[⟨28, .data⟩, ⟨30, .data⟩, ⟨30, .chain⟩, ⟨26, .guard⟩], some (26, true)⟩) (by kernel_rfl) rfl (fun K hK => ?_)
  go_simp
  go_at_call 42
  refine (files_eq w5 _ _ _ (F4.out.below L5.out) F5.out).mono ?_
  rintro e w6 ⟨rfl, L6⟩
  have B6 : Hid (Below w.heap.size w w6) := B5.out.trans (L6.mono B5.out.size)
  have K6 := hide (hIc.out _ B6.out)
  (try go_simp)
  refine hK.out _ _ (fun _ => K6.out) ?_
  clear hK K
  (try simp only [zzp, zza, zzb, zzc])
  refine Ix.tk 32 ⟨some 37, .pick (.tmp 31) (.tmp 36) (.const (Value.bool false)), 4, "law.go:78", #[⟨26,.data⟩,⟨31,.data⟩], none⟩ (.bool true) [33,39,40,56,57] ?_ K6.out ?_
  · intro wq hSw
    obtain ⟨_, x4, x7, x8, x9, x10, x11, x12, x13, x14, x15, x16⟩ := hSw
    have ne := hne.out
    go_simp
  (try simp only [zzp, zza, zzb, zzc])
  refine Ix.tk 33 ⟨some 38, .move (.tmp 37), 4, "law.go:78", #[⟨32,.data⟩,⟨31,.chain⟩], none⟩ (.bool true) [39,40,56,57] ?_ K6.out ?_
  · intro wq hSw
    have ne := hne.out
    go_simp
  (try simp only [zzp, zza, zzb, zzc])
  refine Ix.tk 34 ⟨some 39, .move (.tmp 0), 24, "law.go:78", #[⟨33,.guard⟩], some (33, true)⟩ (.pointer (some ⟨b, 0, none⟩)) [35,38,39,40,56,57] ?_ K6.out ?_
  · intro wq hSw
    have ne := hne.out
    go_simp
  (try simp only [zzp, zza, zzb, zzc])
  refine Ix.tk 36 ⟨some 41, .move (.tmp 1), 26, "law.go:78", #[⟨33,.guard⟩], some (33, true)⟩ (.pointer (some ⟨rb, 0, none⟩)) [37,38,39,40,56,57] ?_ K6.out ?_
  · intro wq hSw
    have ne := hne.out
    go_simp
  (try simp only [zzp, zza, zzb, zzc])
  refine wpAnyT_one (i := 35) (o := ⟨some 40, .call { callee := .value (.func 24), args := #[.tmp 39], argTypes := #[24] }, 57, "law.go:78", #[⟨34, .data⟩, ⟨33, .chain⟩, ⟨33, .guard⟩], some (33, true)⟩) (by kernel_rfl) rfl (fun K hK => ?_)
  go_simp
  go_at_call 24
  refine (hLa.out w6 B6.out).mono ?_
  rintro e w7 ⟨v7, rfl, F7, L7⟩
  replace F7 := hide F7
  replace L7 := hide L7
  have B7 : Hid (Below w.heap.size w w7) := B6.out.trans (L7.out.mono B6.out.size)
  have K7 := hide (hIc.out _ B7.out)
  (try go_simp)
  refine hK.out _ _ (fun _ => K7.out) ?_
  clear hK K
  (try simp only [zzp, zza, zzb, zzc])
  refine wpAnyT_one (i := 37) (o := ⟨some 42, .call { callee := .value (.func 67), args := #[.tmp 41], argTypes := #[26] }, 57, "law.go:78", #[⟨36, .data⟩, ⟨35, .chain⟩, ⟨33, .guard⟩], some (33, true)⟩) (by kernel_rfl) rfl (fun K hK => ?_)
  go_simp
  go_at_call 67
  refine (hRl.out w7 B7.out).mono ?_
  rintro e w8 ⟨v8, rfl, F8, L8⟩
  replace F8 := hide F8
  replace L8 := hide L8
  have B8 : Hid (Below w.heap.size w w8) := B7.out.trans (L8.out.mono B7.out.size)
  have K8 := hide (hIc.out _ B8.out)
  (try go_simp)
  refine hK.out _ _ (fun _ => K8.out) ?_
  clear hK K
  (try simp only [zzp, zza, zzb, zzc])
  refine wpAnyT_one (i := 38) (o := ⟨some 43, .call { callee := .value (.func 42), args := #[.tmp 40, .tmp 42], argTypes := #[57, 57] }, 4, "law.go:78", #[⟨35, .data⟩, ⟨37, .data⟩, ⟨37, .chain⟩, ⟨33, .guard⟩], some (33, true)⟩) (by kernel_rfl) rfl (fun K hK => ?_)
  go_simp
  go_at_call 42
  refine (files_eq w8 _ _ _ (F7.out.below L8.out) F8.out).mono ?_
  rintro e w9 ⟨rfl, L9⟩
  have B9 : Hid (Below w.heap.size w w9) := B8.out.trans (L9.mono B8.out.size)
  have K9 := hide (hIc.out _ B9.out)
  (try go_simp)
  refine hK.out _ _ (fun _ => K9.out) ?_
  clear hK K
  (try simp only [zzp, zza, zzb, zzc])
  refine Ix.tk 39 ⟨some 44, .pick (.tmp 38) (.tmp 43) (.const (Value.bool false)), 4, "law.go:78", #[⟨33,.data⟩,⟨38,.data⟩], none⟩ (.bool true) [40,56,57] ?_ K9.out ?_
  · intro wq hSw
    obtain ⟨_, x4, x7, x8, x9, x10, x11, x12, x13, x14, x15, x16⟩ := hSw
    have ne := hne.out
    go_simp
  (try simp only [zzp, zza, zzb, zzc])
  refine Ix.tk 40 ⟨some 45, .move (.tmp 44), 4, "law.go:78", #[⟨39,.data⟩,⟨38,.chain⟩], none⟩ (.bool true) [56,57] ?_ K9.out ?_
  · intro wq hSw
    have ne := hne.out
    go_simp
  (try simp only [zzp, zza, zzb, zzc])
  refine Ix.tk 41 ⟨some 46, .move (.tmp 0), 24, "law.go:78", #[⟨40,.guard⟩], some (40, true)⟩ (.pointer (some ⟨b, 0, none⟩)) [47,55,56,57] ?_ K9.out ?_
  · intro wq hSw
    have ne := hne.out
    go_simp
  (try simp only [zzp, zza, zzb, zzc])
  refine Ix.tk 42 ⟨some 47, .move (.tmp 1), 26, "law.go:78", #[⟨40,.guard⟩], some (40, true)⟩ (.pointer (some ⟨rb, 0, none⟩)) [43,44,45,46,47,55,56,57] ?_ K9.out ?_
  · intro wq hSw
    have ne := hne.out
    go_simp
  (try simp only [zzp, zza, zzb, zzc])
  refine Ix.tk 43 ⟨some 48, .nilCheck (.tmp 47), 0, "law.go:78", #[⟨42,.data⟩,⟨40,.guard⟩], some (40, true)⟩ (.pointer (some ⟨rb, 0, none⟩)) [44,45,46,47,55,56,57] ?_ K9.out ?_
  · intro wq hSw
    have ne := hne.out
    go_simp
  (try simp only [zzp, zza, zzb, zzc])
  refine Ix.tk 44 ⟨some 49, .fieldAddr 103 (.tmp 48) 4, 0, "law.go:78", #[⟨43,.data⟩,⟨40,.guard⟩], some (40, true)⟩ (.pointer (some ⟨rb, 4, none⟩)) [45,46,47,55,56,57] ?_ K9.out ?_
  · intro wq hSw
    have ne := hne.out
    go_simp
  (try simp only [zzp, zza, zzb, zzc])
  refine Ix.tk 45 ⟨some 50, .load 101 (.tmp 49), 101, "law.go:78", #[⟨44,.data⟩,⟨40,.guard⟩], some (40, true)⟩ (.slice pa np pc) [46,47,55,56,57] ?_ K9.out ?_
  · intro wq hSw
    obtain ⟨_, x4, x7, x8, x9, x10, x11, x12, x13, x14, x15, x16⟩ := hSw
    have ne := hne.out
    go_simp
  (try simp only [zzp, zza, zzb, zzc])
  refine Ix.tk 46 ⟨some 51, .call { callee := .builtin .len, args := #[.tmp 50], argTypes := #[101] }, 3, "law.go:78", #[⟨45,.data⟩,⟨40,.guard⟩], some (40, true)⟩ (.int .i64 (np : Int)) [47,55,56,57] ?_ K9.out ?_
  · intro wq hSw
    obtain ⟨_, x4, x7, x8, x9, x10, x11, x12, x13, x14, x15, x16⟩ := hSw
    have ne := hne.out
    go_simp
  (try simp only [zzp, zza, zzb, zzc])
  refine Ix.tk 48 ⟨some 53, .move (.tmp 1), 26, "law.go:78", #[⟨40,.guard⟩], some (40, true)⟩ (.pointer (some ⟨rb, 0, none⟩)) [54,55,56,57] ?_ K9.out ?_
  · intro wq hSw
    have ne := hne.out
    go_simp
  (try simp only [zzp, zza, zzb, zzc])
  refine Ix.tk 49 ⟨some 54, .move (.tmp 1), 26, "law.go:78", #[⟨40,.guard⟩], some (40, true)⟩ (.pointer (some ⟨rb, 0, none⟩)) [50,51,52,53,54,55,56,57] ?_ K9.out ?_
  · intro wq hSw
    have ne := hne.out
    go_simp
  (try simp only [zzp, zza, zzb, zzc])
  refine Ix.tk 50 ⟨some 55, .nilCheck (.tmp 54), 0, "law.go:78", #[⟨49,.data⟩,⟨40,.guard⟩], some (40, true)⟩ (.pointer (some ⟨rb, 0, none⟩)) [51,52,53,54,55,56,57] ?_ K9.out ?_
  · intro wq hSw
    have ne := hne.out
    go_simp
  (try simp only [zzp, zza, zzb, zzc])
  refine Ix.tk 51 ⟨some 56, .fieldAddr 103 (.tmp 55) 4, 0, "law.go:78", #[⟨50,.data⟩,⟨40,.guard⟩], some (40, true)⟩ (.pointer (some ⟨rb, 4, none⟩)) [52,53,54,55,56,57] ?_ K9.out ?_
  · intro wq hSw
    have ne := hne.out
    go_simp
  (try simp only [zzp, zza, zzb, zzc])
  refine Ix.tk 52 ⟨some 57, .load 101 (.tmp 56), 101, "law.go:78", #[⟨51,.data⟩,⟨40,.guard⟩], some (40, true)⟩ (.slice pa np pc) [53,54,55,56,57] ?_ K9.out ?_
  · intro wq hSw
    obtain ⟨_, x4, x7, x8, x9, x10, x11, x12, x13, x14, x15, x16⟩ := hSw
    have ne := hne.out
    go_simp
  (try simp only [zzp, zza, zzb, zzc])
  refine Ix.tk 53 ⟨some 58, .call { callee := .builtin .len, args := #[.tmp 57], argTypes := #[101] }, 3, "law.go:78", #[⟨52,.data⟩,⟨40,.guard⟩], some (40, true)⟩ (.int .i64 (np : Int)) [54,55,56,57] ?_ K9.out ?_
  · intro wq hSw
    obtain ⟨_, x4, x7, x8, x9, x10, x11, x12, x13, x14, x15, x16⟩ := hSw
    have ne := hne.out
    go_simp
  (try simp only [zzp, zza, zzb, zzc])
  refine wpAnyT_one (i := 47) (o := ⟨some 52, .call { callee := .value (.func 27), args := #[.tmp 46, .tmp 51], argTypes := #[24, 3] }, 65, "law.go:78", #[⟨41, .data⟩, ⟨46, .data⟩, ⟨40, .chain⟩, ⟨40, .guard⟩], some (40, true)⟩) (by kernel_rfl) rfl (fun K hK => ?_)
  go_simp
  go_at_call 27
  refine (hTa.out w9 B9.out).mono ?_
  rintro e w10 ⟨v10, rfl, F10, L10⟩
  replace F10 := hide F10
  replace L10 := hide L10
  have B10 : Hid (Below w.heap.size w w10) := B9.out.trans (L10.out.mono B9.out.size)
  have K10 := hide (hIc.out _ B10.out)
  (try go_simp)
  refine hK.out _ _ (fun _ => K10.out) ?_
  clear hK K
  (try simp only [zzp, zza, zzb, zzc])
  refine wpAnyT_one (i := 54) (o := ⟨some 59, .call { callee := .value (.func 63), args := #[.tmp 53, .tmp 58], argTypes := #[26, 3] }, 65, "law.go:78", #[⟨48, .data⟩, ⟨53, .data⟩, ⟨47, .chain⟩, ⟨40, .guard⟩], some (40, true)⟩) (by kernel_rfl) rfl (fun K hK => ?_)
  go_simp
  go_at_call 63
  refine (hRt.out w10 B10.out).mono ?_
  rintro e w11 ⟨v11, rfl, F11, L11⟩
  replace F11 := hide F11
  replace L11 := hide L11
  have B11 : Hid (Below w.heap.size w w11) := B10.out.trans (L11.out.mono B10.out.size)
  have K11 := hide (hIc.out _ B11.out)
  (try go_simp)
  refine hK.out _ _ (fun _ => K11.out) ?_
  clear hK K
  (try simp only [zzp, zza, zzb, zzc])
  refine wpAnyT_one (i := 55) (o := ⟨some 60, .call { callee := .value (.func 62), args := #[.tmp 52, .tmp 59], argTypes := #[65, 65] }, 4, "law.go:78", #[⟨47, .data⟩, ⟨54, .data⟩, ⟨54, .chain⟩, ⟨40, .guard⟩], some (40, true)⟩) (by kernel_rfl) rfl (fun K hK => ?_)
  go_simp
  go_at_call 62
  refine (tails_eq w11 _ _ TL TL (F10.out.below L11.out) F11.out).mono ?_
  rintro e w12 ⟨r12, rfl, T12, L12⟩
  obtain rfl := T12 rfl
  clear T12
  have B12 : Hid (Below w.heap.size w w12) := B11.out.trans (L12.mono B11.out.size)
  have K12 := hide (hIc.out _ B12.out)
  (try go_simp)
  refine hK.out _ _ (fun _ => K12.out) ?_
  clear hK K
  (try simp only [zzp, zza, zzb, zzc])
  refine Ix.tk 56 ⟨some 61, .pick (.tmp 45) (.tmp 60) (.const (Value.bool false)), 4, "law.go:78", #[⟨40,.data⟩,⟨55,.data⟩], none⟩ (.bool true) [57] ?_ K12.out ?_
  · intro wq hSw
    obtain ⟨_, x4, x7, x8, x9, x10, x11, x12, x13, x14, x15, x16⟩ := hSw
    have ne := hne.out
    go_simp
  (try simp only [zzp, zza, zzb, zzc])
  refine wpAnyT_one (i := 57) (o := ⟨some 4, .assign (.tmp 61), 4, "law.go:78", #[⟨56, .data⟩, ⟨55, .chain⟩, ⟨0, .phase⟩, ⟨1, .phase⟩, ⟨2, .phase⟩, ⟨3, .phase⟩, ⟨4, .phase⟩, ⟨5, .phase⟩, ⟨6, .phase⟩, ⟨7, .phase⟩, ⟨8, .phase⟩, ⟨9, .phase⟩, ⟨10, .phase⟩, ⟨11, .phase⟩, ⟨12, .phase⟩, ⟨13, .phase⟩, ⟨14, .phase⟩, ⟨15, .phase⟩, ⟨16, .phase⟩, ⟨17, .phase⟩, ⟨18, .phase⟩, ⟨19, .phase⟩, ⟨20, .phase⟩, ⟨21, .phase⟩, ⟨22, .phase⟩, ⟨23, .phase⟩, ⟨24, .phase⟩, ⟨25, .phase⟩, ⟨26, .phase⟩, ⟨27, .phase⟩, ⟨28, .phase⟩, ⟨29, .phase⟩, ⟨30, .phase⟩, ⟨31, .phase⟩, ⟨32, .phase⟩, ⟨33, .phase⟩, ⟨34, .phase⟩, ⟨35, .phase⟩, ⟨36, .phase⟩, ⟨37, .phase⟩, ⟨38, .phase⟩, ⟨39, .phase⟩, ⟨40, .phase⟩, ⟨41, .phase⟩, ⟨42, .phase⟩, ⟨43, .phase⟩, ⟨44, .phase⟩, ⟨45, .phase⟩, ⟨46, .phase⟩, ⟨47, .phase⟩, ⟨48, .phase⟩, ⟨49, .phase⟩, ⟨50, .phase⟩, ⟨51, .phase⟩, ⟨52, .phase⟩, ⟨53, .phase⟩, ⟨54, .phase⟩, ⟨55, .phase⟩, ⟨56, .phase⟩], none⟩) (by kernel_rfl) rfl (fun K hK => ?_)
  go_simp
  refine hK.out _ _ (vac (by kernel_rfl)) ?_
  clear hK K
  (try simp only [zzp, zza, zzb, zzc])
  refine wpAnyT_done (by kernel_rfl) ?_ _
  go_wp2_with fail
  go_ret
  exact ⟨rfl, B12.out⟩
end Go.Proofs.YtjehpijjneghpaaGreat.Re
