/-
  Open.
-/
import Derived.Test.YtpflaglfnkmjiaaGreatL08
import Derived.Maps.AppendAt
import Derived.Test.YtpflaglfnkmjiaaGreatL01
import Derived.Laws.StructEq
import Derived.Test.YtpflaglfnkmjiaaGreatL07
set_option maxRecDepth 100000
set_option maxHeartbeats 40000000
set_option linter.unusedVariables false
namespace Go.Proofs.YtpflaglfnkmjiaaGreat.Sg
open Go.RowKit Go.Maps Go.Sort Go.Shelf Go.Proofs.YtpflaglfnkmjiaaGreat.Nm Go.Proofs.YtpflaglfnkmjiaaGreat.Dk
open Ix (wp_region_T wpAnyT wpAnyT_take wpAnyT_one wpAnyT_done vac)
theorem openS_any {w : World} {b : Nat} {S : DS} {O : Nat → Prop} (h : DskE w b S O) (file : ByteArray) (hm : file.size ≤ maxLen) (hf : file.size ≤ 281474976710656) (L : List UInt8) (hL : raF S file = (L, 0)) (h32 : 32 ≤ L.length) (hLl : L.length ≤ 16777216) (nm bs : Int) (seed sum : Crc.R) (hrh : rhF L = (nm, bs, seed, sum, 0)) (g0 : 1 ≤ bs) (g1 : bs ≤ 9223372036854775807) (xs : List Sc) (hx : EvS (L.drop 32) bs sum xs) :
    Calls Tryz.prog 18 #[.pointer (some ⟨b, 0, none⟩), .string file] w fun e w' => ∃ sb xb mb v K, e = .returned (.tuple #[.pointer (some ⟨sb, 0, none⟩), .agg (lastc (L.drop 32) xs), .int .i64 0]) ∧ IsK (L.drop 32) ⟨0, 0, bs.toNat, sum⟩ K ∧ SW w' sb (opE L (newSG b file nm bs seed sum) K) S O xb mb v ∧ (∀ k, SOwn sb xb mb v k → w.heap.size ≤ k) ∧ Below w.heap.size w w' := by
 have B0 := box_below w (.cells #[.int .i64 0, .int .i64 0, .int .i64 0, .int .u32 0, .int .i64 0] 62)
 have N0 := heap_alloc_new w (.cells #[.int .i64 0, .int .i64 0, .int .i64 0, .int .u32 0, .int .i64 0] 62)
 obtain ⟨w0, hw0⟩ : ∃ w0, Hid (w.alloc (.cells #[.int .i64 0, .int .i64 0, .int .i64 0, .int .u32 0, .int .i64 0] 62) = w0) := ⟨_, rfl⟩
 obtain ⟨r0, hr0⟩ : ∃ r0, Hid (w.heap.size = r0) := ⟨_, rfl⟩
 rw [hw0.out] at B0 N0
 have D0 := h.below B0
 have hR := hide (readAll_any D0 file hm)
 rw [hL] at hR
 have hHd : Hid (∀ q vb, Sl q vb L → Calls Tryz.prog 68 #[vb] q fun e w' => e = .returned (.tuple #[.agg #[.int .i64 nm, .int .i64 bs, .int .u32 (seed.toNat : Int)], .int .u32 (sum.toNat : Int), .int .i64 0]) ∧ Below q.heap.size q w') := fun q vb hv => by
  have := readHead_any q vb L hv
  rw [hrh] at this
  exact this
 have hOv : Hid (∀ q vb, Sl q vb (L.drop 32) → Calls Tryz.prog 69 #[vb, .int .i64 bs, .int .u32 (sum.toNat : Int)] q fun e w' => e = .returned (.agg (lastc (L.drop 32) xs)) ∧ Below q.heap.size q w') := fun q vb hv => over_any q vb _ bs sum xs hx (by omega) g1 hv
 have D := hide h
 replace B0 := hide B0
 replace N0 := hide N0
 replace D0 := hide D0
 obtain ⟨K, hK, hz, hzc⟩ := evs_last g0 hx
 have hz' : Hid (∃ z1 z2 z3 z4 : Int, lastc (L.drop 32) xs = #[.int .i64 (K : Int), .int .i64 z1, .int .i64 z2, .int .u32 z3, .int .i64 z4]) := hide ⟨_, _, _, _, by rw [hz, scc, hzc]⟩
 obtain ⟨z1, z2, z3, z4, hz2⟩ := hz'.out
 rw [hz2] at hOv ⊢
 have hOp := hide (opk_sst (L := L) (b := b) (file := file) (nm := nm) (seed := seed) g0 g1 hLl hK.1)
 have hKb : K ≤ 16777216 := by
  obtain ⟨k1, k2, _⟩ := good_e hK.1 (Nat.zero_le _)
  have k3 : (L.drop 32).length ≤ 16777216 := by simp; omega
  have k4 : 16 * K ≤ (Go.Proofs.YtpflaglfnkmjiaaGreat.Sst (L.drop 32) ⟨0, 0, bs.toNat, sum⟩ K).e := by simpa using k2
  omega
 replace hK := hide hK
 clear hz hzc hz' hz2 hx
 obtain ⟨LL, hLL⟩ : ∃ LL, Hid (L.length = LL) := ⟨_, rfl⟩
 rw [hLL.out] at h32 hLl
 clear h hL hrh
 go_enter Tryz.func18, Tryz.ntmps18
 go_upto_region 1 with fail
 rw [hw0.out, hr0.out]
 go_upto_region 6 with (first
  | (go_at_call 67; refine hR.out.mono ?_; rintro e w1 ⟨vb, rfl, O1, B1⟩; obtain ⟨la, lc, rfl, lr1, lr2⟩ := O1.form; rw [hLL.out] at O1 lr1; rw [hLL.out]; replace O1 := hide O1; replace B1 := hide B1)
  | fail)
 go_upto_region 9 with (first
  | (go_at_call 68; refine (hHd.out _ _ O1.out.sl).mono ?_; rintro e w2 ⟨rfl, B2⟩; replace B2 := hide B2)
  | fail)
 have X3 := box_below w2 (.cells #[.int .i64 nm, .int .i64 bs, .int .u32 (seed.toNat : Int)] 38)
 have N3 := heap_alloc_new w2 (.cells #[.int .i64 nm, .int .i64 bs, .int .u32 (seed.toNat : Int)] 38)
 have E3 := hide (keepF (keepF B1.out B2.out) X3)
 have O3 : Hid (Sl (w2.alloc (.cells #[.int .i64 nm, .int .i64 bs, .int .u32 (seed.toNat : Int)] 38)) (.slice la LL lc) L) := hide (Below.sl X3 (Below.sl B2.out O1.out.sl))
 obtain ⟨w3, hw3⟩ : ∃ w3, Hid (w2.alloc (.cells #[.int .i64 nm, .int .i64 bs, .int .u32 (seed.toNat : Int)] 38) = w3) := ⟨_, rfl⟩
 obtain ⟨h3, hh3⟩ : ∃ h3, Hid (w2.heap.size = h3) := ⟨_, rfl⟩
 rw [hw3.out] at N3 E3 O3
 rw [hh3.out] at N3
 rw [hw3.out, hh3.out]
 obtain ⟨tv, htl, hts⟩ := run_tail O3.out 32 (by rw [hLL.out]; exact h32)
 replace hts := hide hts
 replace htl : ∀ q : World, (Instr.slice 39 (.slice la LL lc) (some (.int .i64 32)) none none).run Tryz.prog q = .ok tv q := htl
 replace N3 := hide N3
 clear X3 hw3 hh3 O1 B1 B2 hR
 go_cut [11] from 39 to 44 (fun y11 wx => ∃ fb, y11 = .pointer (some ⟨fb, 0, none⟩) ∧ Hid (Below w3.heap.size w3 wx ∧ w3.heap.size ≤ fb ∧ wx.heap[fb]? = some (.cells #[.int .i64 (K : Int), .int .i64 z1, .int .i64 z2, .int .u32 z3, .int .i64 z4] 62 (0, 0))))
 case first =>
  refine wp_region_T (fun q => q.heap[h3]? = some (.cells #[.int .i64 nm, .int .i64 bs, .int .u32 (seed.toNat : Int)] 38 (0, 0))) 7 (by kernel_rfl) ?_
  have KP : Hid (w3.drew.heap[h3]? = some (.cells #[.int .i64 nm, .int .i64 bs, .int .u32 (seed.toNat : Int)] 38 (0, 0))) := N3.out
  have KB : Hid (Below w3.heap.size w3 w3.drew) := hide (Below.refl _ _).drew
  generalize w3.drew = q at *
  refine Ix.tk 0 ⟨some 39, .move (.tmp 7), _, _, _, _⟩ (.slice la LL lc) [7] ?_ KP.out ?_
  ·intro wq hSw; go_simp
  (try simp only [zzp, zzb, zzc])
  refine Ix.tk 1 ⟨some 40, .slice 39 (.tmp 39) (some (.const (Value.int IntKind.i64 32))) none none, _, _, _, _⟩ (tv) [7] ?_ KP.out ?_
  ·intro wq hSw; go_simp
  (try simp only [zzp, zzb, zzc])
  refine Ix.tk 2 ⟨some 41, .fieldAddr 38 (.tmp 9) 1, _, _, _, _⟩ (.pointer (some ⟨h3, 1, none⟩)) [7] ?_ KP.out ?_
  ·intro wq hSw
   have e0 := (tri hSw).1; have e1 := (tri hSw).2.1; have e2 := (tri hSw).2.2
   go_simp
  (try simp only [zzp, zzb, zzc])
  refine Ix.tk 3 ⟨some 42, .load 2 (.tmp 41), _, _, _, _⟩ (.int .i64 bs) [7] ?_ KP.out ?_
  ·intro wq hSw
   have e0 := (tri hSw).1; have e1 := (tri hSw).2.1; have e2 := (tri hSw).2.2
   go_simp
  (try simp only [zzp, zzb, zzc])
  refine Ix.tk 4 ⟨some 43, .move (.tmp 10), _, _, _, _⟩ (.int .u32 (sum.toNat : Int)) [7] ?_ KP.out ?_
  ·intro wq hSw
   have e0 := (tri hSw).1; have e1 := (tri hSw).2.1; have e2 := (tri hSw).2.2
   go_simp
  (try simp only [zzp, zzb, zzc])
  have N8 := hide (heap_alloc_new q (.cells #[.int .i64 0, .int .i64 0, .int .i64 0, .int .u32 0, .int .i64 0] 62))
  have B8 := hide (box_below q (.cells #[.int .i64 0, .int .i64 0, .int .i64 0, .int .u32 0, .int .i64 0] 62))
  have K8 : Hid ((q.alloc (.cells #[.int .i64 0, .int .i64 0, .int .i64 0, .int .u32 0, .int .i64 0] 62)).heap[h3]? = some (.cells #[.int .i64 nm, .int .i64 bs, .int .u32 (seed.toNat : Int)] 38 (0, 0))) := (B8.out.block _ (heap_lt KP.out)).trans KP.out
  refine wpAnyT_two (i := 5) (j := 6) (oi := ⟨some 44, .call { callee := .value (.func 69), args := #[.tmp 40, .tmp 42, .tmp 43], argTypes := #[39, 2, 36] }, _, _, _, _⟩) (oj := ⟨some 11, .alloc 62, _, _, _, _⟩) (by kernel_rfl) rfl rfl ?_ ?_
  ·intro K hK
   go_simp
   go_at_call 69
   refine (hOv.out q tv (Below.sl KB.out hts.out)).mono ?_
   rintro e w4 ⟨rfl, b4⟩
   have K4 : Hid (w4.heap[h3]? = some (.cells #[.int .i64 nm, .int .i64 bs, .int .u32 (seed.toNat : Int)] 38 (0, 0))) := (b4.block _ (heap_lt KP.out)).trans KP.out
   have KU := hide (keepF KB.out b4)
   (try go_simp)
   refine hK.out _ _ (fun _ => K4.out) ?_
   clear hK K
   (try simp only [zzp, zzb, zzc])
   refine wpAnyT_one (i := 6) (o := ⟨some 11, .alloc 62, _, _, _, _⟩) (by kernel_rfl) rfl (fun K hK => ?_)
   go_simp
   refine hK.out _ _ (fun _ => ((box_below w4 (.cells #[.int .i64 0, .int .i64 0, .int .i64 0, .int .u32 0, .int .i64 0] 62)).block _ (heap_lt K4.out)).trans K4.out) ?_
   clear hK K
   (try simp only [zzp, zzb, zzc])
   refine wpAnyT_one (i := 7) (o := ⟨none, .store 62 (.tmp 11) (.tmp 44), _, _, _, _⟩) (by kernel_rfl) rfl (fun K hK => ?_)
   go_simp
   refine hK.out _ _ (vac (by kernel_rfl)) ?_
   clear hK K
   (try simp only [zzq])
   refine wpAnyT_done (by kernel_rfl) ?_ _
   go_wp2_with fail
   go_meet
   case rel => exact ⟨w4.heap.size, rfl, keepF KU.out (box_below w4 (.cells #[.int .i64 (K : Int), .int .i64 z1, .int .i64 z2, .int .u32 z3, .int .i64 z4] 62)), KU.out.size, heap_alloc_new w4 (.cells #[.int .i64 (K : Int), .int .i64 z1, .int .i64 z2, .int .u32 z3, .int .i64 z4] 62)⟩
  ·intro K hK
   go_simp
   refine hK.out _ _ (fun _ => K8.out) ?_
   clear hK K
   (try simp only [zzq])
   refine wpAnyT_one (i := 5) (o := ⟨some 44, .call { callee := .value (.func 69), args := #[.tmp 40, .tmp 42, .tmp 43], argTypes := #[39, 2, 36] }, _, _, _, _⟩) (by kernel_rfl) rfl (fun K hK => ?_)
   go_simp
   go_at_call 69
   refine (hOv.out (q.alloc (.cells #[.int .i64 0, .int .i64 0, .int .i64 0, .int .u32 0, .int .i64 0] 62)) tv (Below.sl (keepF KB.out B8.out) hts.out)).mono ?_
   rintro e w4 ⟨rfl, b4⟩
   have K4 : Hid (w4.heap[h3]? = some (.cells #[.int .i64 nm, .int .i64 bs, .int .u32 (seed.toNat : Int)] 38 (0, 0))) := (b4.block _ (heap_lt K8.out)).trans K8.out
   have KU := hide (keepF (keepF KB.out B8.out) b4)
   have NU := (But.of_below b4 fun _ => False).at N8.out (fun c => c)
   have z0f : w4.frozen? ⟨q.heap.size, 0, none⟩ = false := by simp [World.frozen?, NU]
   have d0 : w4.cell? ⟨q.heap.size, 0, none⟩ = some (.int .i64 0) := by rw [cell_of NU]; rfl
   have z1f : w4.frozen? ⟨q.heap.size, 1, none⟩ = false := by simp [World.frozen?, NU]
   have d1 : w4.cell? ⟨q.heap.size, 1, none⟩ = some (.int .i64 0) := by rw [cell_of NU]; rfl
   have z2f : w4.frozen? ⟨q.heap.size, 2, none⟩ = false := by simp [World.frozen?, NU]
   have d2 : w4.cell? ⟨q.heap.size, 2, none⟩ = some (.int .i64 0) := by rw [cell_of NU]; rfl
   have z3f : w4.frozen? ⟨q.heap.size, 3, none⟩ = false := by simp [World.frozen?, NU]
   have d3 : w4.cell? ⟨q.heap.size, 3, none⟩ = some (.int .u32 0) := by rw [cell_of NU]; rfl
   have z4f : w4.frozen? ⟨q.heap.size, 4, none⟩ = false := by simp [World.frozen?, NU]
   have d4 : w4.cell? ⟨q.heap.size, 4, none⟩ = some (.int .i64 0) := by rw [cell_of NU]; rfl
   replace NU := hide NU
   (try go_simp)
   refine hK.out _ _ (fun _ => K4.out) ?_
   clear hK K
   (try simp only [zzp, zzb, zzc])
   refine wpAnyT_one (i := 7) (o := ⟨none, .store 62 (.tmp 11) (.tmp 44), _, _, _, _⟩) (by kernel_rfl) rfl (fun K hK => ?_)
   go_simp
   refine hK.out _ _ (vac (by kernel_rfl)) ?_
   clear hK K
   (try simp only [zzq])
   refine wpAnyT_done (by kernel_rfl) ?_ _
   go_wp2_with fail
   go_meet
   case rel => exact ⟨q.heap.size, rfl, put5_below KU.out KB.out.size _ _ _ _ _, KB.out.size, put5_at NU.out _ _ _ _ _⟩
 case rest =>
  obtain ⟨fb, rfl, hcu⟩ := hcut
  obtain ⟨b4, l4, n4⟩ := hcu.out
  have fbl : Hid (r0 < fb) := hide (by have h1 := heap_lt N0.out; have h2 := E3.out.size; have h3 := hr0.out; omega)
  have N4 := (b4.block _ (heap_lt N3.out)).trans N3.out
  have O4 := hide (Below.sl b4 O3.out)
  have E4 := hide (keepF E3.out b4)
  generalize hwc : wc = w4 at *
  clear hwc hcu b4 O3 E3 N3 hts htl
  obtain ⟨x0, x1, x2⟩ := tri N4
  have hHe := hide (headed_any w4 b file nm bs (seed.toNat : Int) (sum.toNat : Int) hf)
  go_upto_region 11 with (first
   | (go_at_call 51; refine hHe.out.mono ?_; rintro e w5 ⟨sb, xb, mb, v5, rfl, G5, b5, f5⟩; replace G5 := hide G5; replace b5 := hide b5; replace f5 := hide f5)
   | fail)
  have n5 := hide ((b5.out.block _ (heap_lt n4)).trans n4)
  have d0 : w5.cell? ⟨fb, 0, none⟩ = some (.int .i64 (K : Int)) := by rw [cell_of n5.out]; rfl
  have G5' : Hid (Seg w5 sb (newSG b file nm bs seed sum) xb mb v5) := G5.out
  have D5 := hide ((D0.out.below E4.out).below b5.out)
  have O5 := hide (Below.sl b5.out O4.out)
  clear x0 x1 x2 N4 G5
  have I5 : Hid (OI w4 w5 sb (opk L (newSG b file nm bs seed sum) 0) S O xb mb) := hide ⟨v5, ⟨G5'.out, D5.out, fun k hk c => by
   have h1 := (D0.out.below E4.out).lt k c
   obtain ⟨q1, q2, q3, q4⟩ := f5.out
   rcases hk with hk | hk | hk | hk
   ·omega
   ·omega
   ·omega
   ·have := q4 k hk; omega⟩, b5.out, fun k hk => by
   obtain ⟨q1, q2, q3, q4⟩ := f5.out
   rcases hk with hk | hk | hk | hk
   ·omega
   ·omega
   ·omega
   ·exact q4 k hk⟩
  replace n4 := hide n4
  clear G5' D5 O5 b5 f5
  go_wp2_with fail
  clear d0 n5
  go_loopg [52] K (fun kx v52 wr => ∃ i : Nat, i ≤ K ∧ K - i ≤ kx ∧ v52 = .int .i64 (i : Int) ∧ Hid (OI w4 wr sb (opk L (newSG b file nm bs seed sum) i) S O xb mb))
  case atStart => exact ⟨0, Nat.zero_le _, Nat.le_refl _, rfl, I5.out⟩
  case round =>
   clear I5
   obtain ⟨i, hi, hkx, rfl, hI⟩ := hrel
   by_cases hlt : ¬ i < K
   ·obtain rfl : i = K := by omega
    have hlt2 : ¬ (i : Int) < (i : Int) := by omega
    have hEE : Hid (opE L (newSG b file nm bs seed sum) i = if (opk L (newSG b file nm bs seed sum) i).size < (LL : Int) then { opk L (newSG b file nm bs seed sum) i with cond := 1 } else opk L (newSG b file nm bs seed sum) i) := hide (by unfold opE; rw [hLL.out])
    obtain ⟨sE, hsE⟩ : ∃ sE, Hid (opE L (newSG b file nm bs seed sum) i = sE) := ⟨_, rfl⟩
    rw [hsE.out] at hEE
    obtain ⟨sK, hsK⟩ : ∃ sK, Hid (opk L (newSG b file nm bs seed sum) i = sK) := ⟨_, rfl⟩
    rw [hsK.out] at hI hEE
    have N00 : w0.heap[r0]? = some (.cells #[.int .i64 0, .int .i64 0, .int .i64 0, .int .u32 0, .int .i64 0] 62 (0, 0)) := by rw [← hr0.out]; exact N0.out
    have n04 := hide ((E4.out.block _ (heap_lt N00)).trans N00)
    have lr : Hid (r0 = w.heap.size) := hide hr0.out.symm
    have BW : Hid (Below w.heap.size w w4) := hide (keepF B0.out E4.out)
    have DL : Hid (∀ k, O k → k < w.heap.size) := hide (fun k hk => D.out.lt k hk)
    obtain ⟨y6, y7⟩ := hI.out.cells
    have c8 := hI.out.cell8
    have f8 := c8.1
    have y8 := c8.2
    clear c8
    by_cases hsz : sK.size < (LL : Int)
    ·have hI3 : Hid (OI w4 (wr.setCell ⟨sb, 8, none⟩ (.int .i64 1)) sb sE S O xb mb) := hide (by rw [hEE.out, if_pos hsz]; exact hI.out.set8 1)
     go_upto_region 18 with fail
     obtain ⟨W, hW⟩ : ∃ W, Hid (wr.setCell ⟨sb, 8, none⟩ (.int .i64 1) = W) := ⟨_, rfl⟩
     rw [hW.out] at hI3 ⊢
     clear y6 y7 f8 y8 hI
     have KI : Hid (OI w4 W.drew sb sE S O xb mb) := hide (hI3.out.below (Below.refl _ _).drew)
     have KP : Hid (W.drew.heap[fb]? = some (.cells #[.int .i64 (i : Int), .int .i64 z1, .int .i64 z2, .int .u32 z3, .int .i64 z4] 62 (0, 0))) := hide ((KI.out.bel.block _ (heap_lt n4.out)).trans n4.out)
     have NR : Hid (W.drew.heap[r0]? = some (.cells #[.int .i64 0, .int .i64 0, .int .i64 0, .int .u32 0, .int .i64 0] 62 (0, 0))) := hide ((KI.out.bel.block _ (heap_lt n04.out)).trans n04.out)
     refine wp_region_T (fun q => q.heap[fb]? = some (.cells #[.int .i64 (i : Int), .int .i64 z1, .int .i64 z2, .int .u32 z3, .int .i64 z4] 62 (0, 0))) 4 (by kernel_rfl) ?_
     generalize W.drew = q at *
     refine Ix.tk 0 ⟨some 85, .move (.tmp 12), _, _, _, _⟩ (.pointer (some ⟨sb, 0, none⟩)) [2,3,4] ?_ KP.out ?_
     ·intro wq hSw; go_simp
     (try simp only [zzp, zzb, zzc])
     refine Ix.tk 2 ⟨some 4, .assign (.tmp 85), _, _, _, _⟩ (.pointer (some ⟨sb, 0, none⟩)) [3,4] ?_ KP.out ?_
     ·intro wq hSw; go_simp
     (try simp only [zzp, zzb, zzc])
     refine Ix.tk 1 ⟨some 86, .load 62 (.tmp 11), _, _, _, _⟩ (.agg #[.int .i64 (i : Int), .int .i64 z1, .int .i64 z2, .int .u32 z3, .int .i64 z4]) [3,4] ?_ KP.out ?_
     ·intro wq hSw
      have x0 := cell_of (j := 0) hSw; have x1 := cell_of (j := 1) hSw; have x2 := cell_of (j := 2) hSw; have x3 := cell_of (j := 3) hSw; have x4 := cell_of (j := 4) hSw; simp at x0 x1 x2 x3 x4
      go_simp
     (try simp only [zzp, zzb, zzc])
     have z0f : q.frozen? ⟨r0, 0, none⟩ = false := by simp [World.frozen?, NR.out]
     have d0 : q.cell? ⟨r0, 0, none⟩ = some (.int .i64 0) := by rw [cell_of NR.out]; rfl
     have z1f : q.frozen? ⟨r0, 1, none⟩ = false := by simp [World.frozen?, NR.out]
     have d1 : q.cell? ⟨r0, 1, none⟩ = some (.int .i64 0) := by rw [cell_of NR.out]; rfl
     have z2f : q.frozen? ⟨r0, 2, none⟩ = false := by simp [World.frozen?, NR.out]
     have d2 : q.cell? ⟨r0, 2, none⟩ = some (.int .i64 0) := by rw [cell_of NR.out]; rfl
     have z3f : q.frozen? ⟨r0, 3, none⟩ = false := by simp [World.frozen?, NR.out]
     have d3 : q.cell? ⟨r0, 3, none⟩ = some (.int .u32 0) := by rw [cell_of NR.out]; rfl
     have z4f : q.frozen? ⟨r0, 4, none⟩ = false := by simp [World.frozen?, NR.out]
     have d4 : q.cell? ⟨r0, 4, none⟩ = some (.int .i64 0) := by rw [cell_of NR.out]; rfl
     have FN := hide (put5_at NR.out (.int .i64 (i : Int)) (.int .i64 z1) (.int .i64 z2) (.int .u32 z3) (.int .i64 z4))
     have FB : Hid (Below w.heap.size w _) := hide (put5_below (keepF BW.out KI.out.bel) (show w.heap.size ≤ r0 by rw [lr.out]; exact Nat.le_refl _) (.int .i64 (i : Int)) (.int .i64 z1) (.int .i64 z2) (.int .u32 z3) (.int .i64 z4))
     have FS : Hid (∃ v, SW _ sb sE S O xb mb v ∧ ∀ k, SOwn sb xb mb v k → w.heap.size ≤ k) := hide (by
      obtain ⟨v, h1, h2, h3⟩ := KI.out
      have hb := put5_but (w := q) (g := r0) (.int .i64 (i : Int)) (.int .i64 z1) (.int .i64 z2) (.int .u32 z3) (.int .i64 z4)
      refine ⟨v, ⟨h1.sg.but hb (fun k hk c => ?_), h1.dk.but hb (fun k hk c => ?_), h1.ap⟩, fun k hk => Nat.le_trans BW.out.size (h3 k hk)⟩
      ·have q1 := h3 k hk
       have q2 := BW.out.size
       have q3 := heap_lt n04.out
       omega
      ·have q1 := DL.out k hk
       have q2 := lr.out
       omega)
     have FP : Hid ((((((q.setCell ⟨r0, 0, none⟩ (.int .i64 (i : Int))).setCell ⟨r0, 1, none⟩ (.int .i64 z1)).setCell ⟨r0, 2, none⟩ (.int .i64 z2)).setCell ⟨r0, 3, none⟩ (.int .u32 z3)).setCell ⟨r0, 4, none⟩ (.int .i64 z4)).heap[fb]? = some (.cells #[.int .i64 (i : Int), .int .i64 z1, .int .i64 z2, .int .u32 z3, .int .i64 z4] 62 (0, 0))) := hide ((((put5_but (w := q) (g := r0) (.int .i64 (i : Int)) (.int .i64 z1) (.int .i64 z2) (.int .u32 z3) (.int .i64 z4))).at KP.out (by have := heap_lt n04.out; have := lr.out; have := fbl.out; omega)))
     refine wpAnyT_one (i := 3) (o := ⟨none, .store 62 (.tmp 5) (.tmp 86), _, _, _, _⟩) (by kernel_rfl) rfl (fun K hK => ?_)
     go_simp
     refine hK.out _ _ (fun _ => FP.out) ?_
     clear hK K
     (try simp only [zzq])
     refine wpAnyT_one (i := 4) (o := ⟨some 6, .assign (.const (Value.int IntKind.i64 0)), _, _, _, _⟩) (by kernel_rfl) rfl (fun K hK => ?_)
     go_simp
     refine hK.out _ _ (vac (by kernel_rfl)) ?_
     clear hK K
     (try simp only [zzp, zzb, zzc])
     refine wpAnyT_done (by kernel_rfl) ?_ _
     obtain ⟨q5, hq5⟩ : ∃ q5, Hid (((((q.setCell ⟨r0, 0, none⟩ (.int .i64 (i : Int))).setCell ⟨r0, 1, none⟩ (.int .i64 z1)).setCell ⟨r0, 2, none⟩ (.int .i64 z2)).setCell ⟨r0, 3, none⟩ (.int .u32 z3)).setCell ⟨r0, 4, none⟩ (.int .i64 z4) = q5) := ⟨_, rfl⟩
     rw [hq5.out] at FN FB FS FP ⊢
     clear z0f z1f z2f z3f z4f d0 d1 d2 d3 d4
     have c0 := cell_of (j := 0) FN.out
     have c1 := cell_of (j := 1) FN.out
     have c2 := cell_of (j := 2) FN.out
     have c3 := cell_of (j := 3) FN.out
     have c4 := cell_of (j := 4) FN.out
     simp at c0 c1 c2 c3 c4
     go_wp2_with fail
     try simp only [Exit.inBlock, Exit.then]
     refine bodyPost_ret (v := .tuple #[.pointer (some ⟨sb, 0, none⟩), .agg #[.int .i64 (i : Int), .int .i64 z1, .int .i64 z2, .int .u32 z3, .int .i64 z4], .int .i64 0]) (by simp [results, Tryz.results18, go_sem, c0, c1, c2, c3, c4]; try rfl) rfl ?_
     obtain ⟨v, FV, FL⟩ := FS.out
     first | exact ⟨sb, rfl, xb, mb, v, i, hK.out, by rw [hsE.out]; exact FV, FL, FB.out⟩ | exact ⟨sb, rfl, xb, mb, i, hK.out, v, by rw [hsE.out]; exact FV, FL, FB.out⟩ | exact ⟨sb, rfl, i, hK.out, xb, mb, v, by rw [hsE.out]; exact FV, FL, FB.out⟩
    ·have hI3 : Hid (OI w4 wr sb sE S O xb mb) := hide (by rw [hEE.out, if_neg hsz]; exact hI.out)
     go_upto_region 18 with fail
     obtain ⟨W, hW⟩ : ∃ W, Hid (wr = W) := ⟨_, rfl⟩
     rw [hW.out] at hI3 ⊢
     clear y6 y7 f8 y8 hI
     have KI : Hid (OI w4 W.drew sb sE S O xb mb) := hide (hI3.out.below (Below.refl _ _).drew)
     have KP : Hid (W.drew.heap[fb]? = some (.cells #[.int .i64 (i : Int), .int .i64 z1, .int .i64 z2, .int .u32 z3, .int .i64 z4] 62 (0, 0))) := hide ((KI.out.bel.block _ (heap_lt n4.out)).trans n4.out)
     have NR : Hid (W.drew.heap[r0]? = some (.cells #[.int .i64 0, .int .i64 0, .int .i64 0, .int .u32 0, .int .i64 0] 62 (0, 0))) := hide ((KI.out.bel.block _ (heap_lt n04.out)).trans n04.out)
     refine wp_region_T (fun q => q.heap[fb]? = some (.cells #[.int .i64 (i : Int), .int .i64 z1, .int .i64 z2, .int .u32 z3, .int .i64 z4] 62 (0, 0))) 4 (by kernel_rfl) ?_
     generalize W.drew = q at *
     refine Ix.tk 0 ⟨some 85, .move (.tmp 12), _, _, _, _⟩ (.pointer (some ⟨sb, 0, none⟩)) [2,3,4] ?_ KP.out ?_
     ·intro wq hSw; go_simp
     (try simp only [zzp, zzb, zzc])
     refine Ix.tk 2 ⟨some 4, .assign (.tmp 85), _, _, _, _⟩ (.pointer (some ⟨sb, 0, none⟩)) [3,4] ?_ KP.out ?_
     ·intro wq hSw; go_simp
     (try simp only [zzp, zzb, zzc])
     refine Ix.tk 1 ⟨some 86, .load 62 (.tmp 11), _, _, _, _⟩ (.agg #[.int .i64 (i : Int), .int .i64 z1, .int .i64 z2, .int .u32 z3, .int .i64 z4]) [3,4] ?_ KP.out ?_
     ·intro wq hSw
      have x0 := cell_of (j := 0) hSw; have x1 := cell_of (j := 1) hSw; have x2 := cell_of (j := 2) hSw; have x3 := cell_of (j := 3) hSw; have x4 := cell_of (j := 4) hSw; simp at x0 x1 x2 x3 x4
      go_simp
     (try simp only [zzp, zzb, zzc])
     have z0f : q.frozen? ⟨r0, 0, none⟩ = false := by simp [World.frozen?, NR.out]
     have d0 : q.cell? ⟨r0, 0, none⟩ = some (.int .i64 0) := by rw [cell_of NR.out]; rfl
     have z1f : q.frozen? ⟨r0, 1, none⟩ = false := by simp [World.frozen?, NR.out]
     have d1 : q.cell? ⟨r0, 1, none⟩ = some (.int .i64 0) := by rw [cell_of NR.out]; rfl
     have z2f : q.frozen? ⟨r0, 2, none⟩ = false := by simp [World.frozen?, NR.out]
     have d2 : q.cell? ⟨r0, 2, none⟩ = some (.int .i64 0) := by rw [cell_of NR.out]; rfl
     have z3f : q.frozen? ⟨r0, 3, none⟩ = false := by simp [World.frozen?, NR.out]
     have d3 : q.cell? ⟨r0, 3, none⟩ = some (.int .u32 0) := by rw [cell_of NR.out]; rfl
     have z4f : q.frozen? ⟨r0, 4, none⟩ = false := by simp [World.frozen?, NR.out]
     have d4 : q.cell? ⟨r0, 4, none⟩ = some (.int .i64 0) := by rw [cell_of NR.out]; rfl
     have FN := hide (put5_at NR.out (.int .i64 (i : Int)) (.int .i64 z1) (.int .i64 z2) (.int .u32 z3) (.int .i64 z4))
     have FB : Hid (Below w.heap.size w _) := hide (put5_below (keepF BW.out KI.out.bel) (show w.heap.size ≤ r0 by rw [lr.out]; exact Nat.le_refl _) (.int .i64 (i : Int)) (.int .i64 z1) (.int .i64 z2) (.int .u32 z3) (.int .i64 z4))
     have FS : Hid (∃ v, SW _ sb sE S O xb mb v ∧ ∀ k, SOwn sb xb mb v k → w.heap.size ≤ k) := hide (by
      obtain ⟨v, h1, h2, h3⟩ := KI.out
      have hb := put5_but (w := q) (g := r0) (.int .i64 (i : Int)) (.int .i64 z1) (.int .i64 z2) (.int .u32 z3) (.int .i64 z4)
      refine ⟨v, ⟨h1.sg.but hb (fun k hk c => ?_), h1.dk.but hb (fun k hk c => ?_), h1.ap⟩, fun k hk => Nat.le_trans BW.out.size (h3 k hk)⟩
      ·have q1 := h3 k hk
       have q2 := BW.out.size
       have q3 := heap_lt n04.out
       omega
      ·have q1 := DL.out k hk
       have q2 := lr.out
       omega)
     have FP : Hid ((((((q.setCell ⟨r0, 0, none⟩ (.int .i64 (i : Int))).setCell ⟨r0, 1, none⟩ (.int .i64 z1)).setCell ⟨r0, 2, none⟩ (.int .i64 z2)).setCell ⟨r0, 3, none⟩ (.int .u32 z3)).setCell ⟨r0, 4, none⟩ (.int .i64 z4)).heap[fb]? = some (.cells #[.int .i64 (i : Int), .int .i64 z1, .int .i64 z2, .int .u32 z3, .int .i64 z4] 62 (0, 0))) := hide ((((put5_but (w := q) (g := r0) (.int .i64 (i : Int)) (.int .i64 z1) (.int .i64 z2) (.int .u32 z3) (.int .i64 z4))).at KP.out (by have := heap_lt n04.out; have := lr.out; have := fbl.out; omega)))
     refine wpAnyT_one (i := 3) (o := ⟨none, .store 62 (.tmp 5) (.tmp 86), _, _, _, _⟩) (by kernel_rfl) rfl (fun K hK => ?_)
     go_simp
     refine hK.out _ _ (fun _ => FP.out) ?_
     clear hK K
     (try simp only [zzq])
     refine wpAnyT_one (i := 4) (o := ⟨some 6, .assign (.const (Value.int IntKind.i64 0)), _, _, _, _⟩) (by kernel_rfl) rfl (fun K hK => ?_)
     go_simp
     refine hK.out _ _ (vac (by kernel_rfl)) ?_
     clear hK K
     (try simp only [zzp, zzb, zzc])
     refine wpAnyT_done (by kernel_rfl) ?_ _
     obtain ⟨q5, hq5⟩ : ∃ q5, Hid (((((q.setCell ⟨r0, 0, none⟩ (.int .i64 (i : Int))).setCell ⟨r0, 1, none⟩ (.int .i64 z1)).setCell ⟨r0, 2, none⟩ (.int .i64 z2)).setCell ⟨r0, 3, none⟩ (.int .u32 z3)).setCell ⟨r0, 4, none⟩ (.int .i64 z4) = q5) := ⟨_, rfl⟩
     rw [hq5.out] at FN FB FS FP ⊢
     clear z0f z1f z2f z3f z4f d0 d1 d2 d3 d4
     have c0 := cell_of (j := 0) FN.out
     have c1 := cell_of (j := 1) FN.out
     have c2 := cell_of (j := 2) FN.out
     have c3 := cell_of (j := 3) FN.out
     have c4 := cell_of (j := 4) FN.out
     simp at c0 c1 c2 c3 c4
     go_wp2_with fail
     try simp only [Exit.inBlock, Exit.then]
     refine bodyPost_ret (v := .tuple #[.pointer (some ⟨sb, 0, none⟩), .agg #[.int .i64 (i : Int), .int .i64 z1, .int .i64 z2, .int .u32 z3, .int .i64 z4], .int .i64 0]) (by simp [results, Tryz.results18, go_sem, c0, c1, c2, c3, c4]; try rfl) rfl ?_
     obtain ⟨v, FV, FL⟩ := FS.out
     first | exact ⟨sb, rfl, xb, mb, v, i, hK.out, by rw [hsE.out]; exact FV, FL, FB.out⟩ | exact ⟨sb, rfl, xb, mb, i, hK.out, v, by rw [hsE.out]; exact FV, FL, FB.out⟩ | exact ⟨sb, rfl, i, hK.out, xb, mb, v, by rw [hsE.out]; exact FV, FL, FB.out⟩
   have hlt' : (i : Int) < (K : Int) := by omega
   obtain ⟨p1, p2, p3, p4, p5⟩ := hOp.out i hi
   have hwz := why_zero (hK.out.1 i (by omega))
   have hge := good_e (L := L.drop 32) (x := ⟨0, 0, bs.toNat, sum⟩) (k := i) (fun j hj => hK.out.1 j (by omega)) (Nat.zero_le _)
   have hop : Hid (opk L (newSG b file nm bs seed sum) (i + 1) = (opk L (newSG b file nm bs seed sum) i).grown (rdF (BitVec.ofNat 32 (opk L (newSG b file nm bs seed sum) i).seed.toNat) (L.drop (opk L (newSG b file nm bs seed sum) i).size.toNat)).2.2.1 ((rdF (BitVec.ofNat 32 (opk L (newSG b file nm bs seed sum) i).seed.toNat) (L.drop (opk L (newSG b file nm bs seed sum) i).size.toNat)).2.2.2.1.toNat : Int)) := hide rfl
   have hle : (Go.Proofs.YtpflaglfnkmjiaaGreat.Sst (L.drop 32) ⟨0, 0, bs.toNat, sum⟩ i).e + 32 ≤ LL := by
    have h1 := hge.1
    have h2 := hLL.out
    simp at h1
    omega
   generalize opk L (newSG b file nm bs seed sum) i = s at *
   have hse : (((BitVec.ofNat 32 s.seed.toNat : Crc.R).toNat : Nat) : Int) = s.seed := by
    have := p4.e
    rw [BitVec.toNat_ofNat, Nat.mod_eq_of_lt (by omega)]
    omega
   obtain ⟨tv, htl, hts⟩ := run_tail (Below.sl hI.out.bel O4.out) s.size.toNat (by rw [hLL.out]; omega)
   rw [show ((s.size.toNat : Nat) : Int) = s.size by omega] at htl
   have hRd : Hid (∀ q vb, Sl q vb (L.drop s.size.toNat) → Calls Tryz.prog 70 #[.int .u32 s.seed, vb] q fun e w' => ∃ va ac an, e = .returned (.tuple #[.agg #[.int .i64 (rdF (BitVec.ofNat 32 s.seed.toNat) (L.drop s.size.toNat)).1, .slice va an ac], .int .i64 (rdF (BitVec.ofNat 32 s.seed.toNat) (L.drop s.size.toNat)).2.2.1, .int .u32 ((rdF (BitVec.ofNat 32 s.seed.toNat) (L.drop s.size.toNat)).2.2.2.1.toNat : Int), .int .i64 (rdF (BitVec.ofNat 32 s.seed.toNat) (L.drop s.size.toNat)).2.2.2.2]) ∧ Below q.heap.size q w') := hide fun q vb hv => by
    have := read_any q (BitVec.ofNat 32 s.seed.toNat) vb _ hv
    rw [hse] at this
    refine this.mono ?_
    rintro e w' ⟨v', rfl, ho, hb⟩
    obtain ⟨a, n, c, rfl⟩ := ob_form ho
    exact ⟨a, c, n, rfl, hb⟩
   replace hts := hide hts
   replace p1 := hide p1
   replace p2 := hide p2
   replace p3 := hide p3
   replace p4 := hide p4
   replace hwz := hide hwz
   replace hge := hide hge
   replace hle := hide hle
   replace hse := hide hse
   obtain ⟨RR, hRR⟩ : ∃ RR, Hid (rdF (BitVec.ofNat 32 s.seed.toNat) (L.drop s.size.toNat) = RR) := ⟨_, rfl⟩
   rw [hRR.out] at hRd hop
   obtain ⟨rl, rd, rz, rs, re⟩ := RR
   simp only at hRd hop
   go_upto_region 13 with fail
   go_cut [14, 15] from 54 to 69 (fun y14 y15 wx => y14 = .int .i64 rz ∧ y15 = .int .u32 (rs.toNat : Int) ∧ Hid (Below wr.heap.size wr wx))
   case first =>
    refine wp_region_T (fun q => Below wr.heap.size wr q) 20 (by kernel_rfl) ?_
    have KP : Hid (Below wr.heap.size wr wr.drew) := hide (Below.refl _ _).drew
    generalize wr.drew = q at *
    refine Ix.tk 0 ⟨some 55, .move (.tmp 12), _, _, _, _⟩ (.pointer (some ⟨sb, 0, none⟩)) [20] ?_ KP.out ?_
    ·intro wq hSw
     have hcs := (hI.out.below hSw).cells; obtain ⟨y6, y7⟩ := hcs
     go_simp
    (try simp only [zzp, zzb, zzc])
    refine Ix.tk 1 ⟨some 56, .nilCheck (.tmp 55), _, _, _, _⟩ (.pointer (some ⟨sb, 0, none⟩)) [20] ?_ KP.out ?_
    ·intro wq hSw
     have hcs := (hI.out.below hSw).cells; obtain ⟨y6, y7⟩ := hcs
     go_simp
    (try simp only [zzp, zzb, zzc])
    refine Ix.tk 2 ⟨some 57, .fieldAddr 130 (.tmp 56) 5, _, _, _, _⟩ (.pointer (some ⟨sb, 7, none⟩)) [20] ?_ KP.out ?_
    ·intro wq hSw
     have hcs := (hI.out.below hSw).cells; obtain ⟨y6, y7⟩ := hcs
     go_simp
    (try simp only [zzp, zzb, zzc])
    refine Ix.tk 3 ⟨some 58, .load 36 (.tmp 57), _, _, _, _⟩ (.int .u32 s.seed) [20] ?_ KP.out ?_
    ·intro wq hSw
     have hcs := (hI.out.below hSw).cells; obtain ⟨y6, y7⟩ := hcs
     go_simp
    (try simp only [zzp, zzb, zzc])
    refine Ix.tk 4 ⟨some 59, .move (.tmp 7), _, _, _, _⟩ (.slice la LL lc) [20] ?_ KP.out ?_
    ·intro wq hSw
     have hcs := (hI.out.below hSw).cells; obtain ⟨y6, y7⟩ := hcs
     go_simp
    (try simp only [zzp, zzb, zzc])
    refine Ix.tk 5 ⟨some 60, .move (.tmp 12), _, _, _, _⟩ (.pointer (some ⟨sb, 0, none⟩)) [20] ?_ KP.out ?_
    ·intro wq hSw
     have hcs := (hI.out.below hSw).cells; obtain ⟨y6, y7⟩ := hcs
     go_simp
    (try simp only [zzp, zzb, zzc])
    refine Ix.tk 6 ⟨some 61, .nilCheck (.tmp 60), _, _, _, _⟩ (.pointer (some ⟨sb, 0, none⟩)) [20] ?_ KP.out ?_
    ·intro wq hSw
     have hcs := (hI.out.below hSw).cells; obtain ⟨y6, y7⟩ := hcs
     go_simp
    (try simp only [zzp, zzb, zzc])
    refine Ix.tk 7 ⟨some 62, .fieldAddr 130 (.tmp 61) 4, _, _, _, _⟩ (.pointer (some ⟨sb, 6, none⟩)) [20] ?_ KP.out ?_
    ·intro wq hSw
     have hcs := (hI.out.below hSw).cells; obtain ⟨y6, y7⟩ := hcs
     go_simp
    (try simp only [zzp, zzb, zzc])
    refine Ix.tk 8 ⟨some 63, .load 3 (.tmp 62), _, _, _, _⟩ (.int .i64 s.size) [20] ?_ KP.out ?_
    ·intro wq hSw
     have hcs := (hI.out.below hSw).cells; obtain ⟨y6, y7⟩ := hcs
     go_simp
    (try simp only [zzp, zzb, zzc])
    refine Ix.tk 9 ⟨some 64, .slice 39 (.tmp 59) (some (.tmp 63)) none none, _, _, _, _⟩ (tv) [20] ?_ KP.out ?_
    ·intro wq hSw
     have hcs := (hI.out.below hSw).cells; obtain ⟨y6, y7⟩ := hcs
     go_simp
    (try simp only [zzp, zzb, zzc])
    have N8 := hide (heap_alloc_new q (.cells #[.int .i64 0, .slice none 0 0] 66))
    have B8 := hide (keepF KP.out (box_below q (.cells #[.int .i64 0, .slice none 0 0] 66)))
    refine wpAnyT_two (i := 10) (j := 16) (oi := ⟨some 65, .call { callee := .value (.func 70), args := #[.tmp 58, .tmp 64], argTypes := #[36, 39] }, _, _, _, _⟩) (oj := ⟨some 13, .alloc 66, _, _, _, _⟩) (by kernel_rfl) rfl rfl ?_ ?_
    ·intro K hK
     go_simp
     go_at_call 70
     refine (hRd.out q tv (Below.sl KP.out hts.out)).mono ?_
     rintro e w6 ⟨va, ac, an, rfl, b6⟩
     have K6 := hide (keepF KP.out b6)
     (try go_simp)
     refine hK.out _ _ (fun _ => K6.out) ?_
     clear hK K
     (try simp only [zzp, zzb, zzc])
     refine Ix.tk 11 ⟨some 54, .move (.tmp 65), _, _, _, _⟩ (.tuple #[.agg #[.int .i64 rl, .slice va an ac], .int .i64 rz, .int .u32 (rs.toNat : Int), .int .i64 re]) [20] ?_ K6.out ?_
     ·intro wq hSw; go_simp
     (try simp only [zzp, zzb, zzc])
     refine Ix.tk 12 ⟨some 66, .extract (.tmp 54) 0, _, _, _, _⟩ (.agg #[.int .i64 rl, .slice va an ac]) [20] ?_ K6.out ?_
     ·intro wq hSw; go_simp
     (try simp only [zzp, zzb, zzc])
     refine Ix.tk 13 ⟨some 67, .extract (.tmp 54) 1, _, _, _, _⟩ (.int .i64 rz) [20] ?_ K6.out ?_
     ·intro wq hSw; go_simp
     (try simp only [zzp, zzb, zzc])
     refine Ix.tk 14 ⟨some 68, .extract (.tmp 54) 2, _, _, _, _⟩ (.int .u32 (rs.toNat : Int)) [20] ?_ K6.out ?_
     ·intro wq hSw; go_simp
     (try simp only [zzp, zzb, zzc])
     refine Ix.tk 15 ⟨some 69, .extract (.tmp 54) 3, _, _, _, _⟩ (.int .i64 re) [20] ?_ K6.out ?_
     ·intro wq hSw; go_simp
     (try simp only [zzp, zzb, zzc])
     have K7 := hide (keepF K6.out (box_below w6 (.cells #[.int .i64 rl, .slice va an ac] 66)))
     refine wpAnyT_one (i := 16) (o := ⟨some 13, .alloc 66, _, _, _, _⟩) (by kernel_rfl) rfl (fun K hK => ?_)
     go_simp
     refine hK.out _ _ (fun _ => keepF K6.out (box_below w6 (.cells #[.int .i64 0, .slice none 0 0] 66))) ?_
     clear hK K
     (try simp only [zzp, zzb, zzc])
     refine wpAnyT_one (i := 17) (o := ⟨none, .store 66 (.tmp 13) (.tmp 66), _, _, _, _⟩) (by kernel_rfl) rfl (fun K hK => ?_)
     go_simp
     refine hK.out _ _ (fun _ => K7.out) ?_
     clear hK K
     (try simp only [zzq])
     refine Ix.tk 18 ⟨some 14, .assign (.tmp 67), _, _, _, _⟩ (.int .i64 rz) [20] ?_ K7.out ?_
     ·intro wq hSw; go_simp
     (try simp only [zzp, zzb, zzc])
     refine Ix.tk 19 ⟨some 15, .assign (.tmp 68), _, _, _, _⟩ (.int .u32 (rs.toNat : Int)) [20] ?_ K7.out ?_
     ·intro wq hSw; go_simp
     (try simp only [zzp, zzb, zzc])
     refine wpAnyT_one (i := 20) (o := ⟨some 16, .assign (.tmp 69), _, _, _, _⟩) (by kernel_rfl) rfl (fun K hK => ?_)
     go_simp
     refine hK.out _ _ (vac (by kernel_rfl)) ?_
     clear hK K
     (try simp only [zzp, zzb, zzc])
     refine wpAnyT_done (by kernel_rfl) ?_ _
     go_wp2_with fail
     go_meet
     case rel => exact ⟨rfl, rfl, K7.out⟩
    ·intro K hK
     go_simp
     refine hK.out _ _ (fun _ => B8.out) ?_
     clear hK K
     (try simp only [zzp, zzb, zzc])
     refine wpAnyT_one (i := 10) (o := ⟨some 65, .call { callee := .value (.func 70), args := #[.tmp 58, .tmp 64], argTypes := #[36, 39] }, _, _, _, _⟩) (by kernel_rfl) rfl (fun K hK => ?_)
     go_simp
     go_at_call 70
     refine (hRd.out (q.alloc (.cells #[.int .i64 0, .slice none 0 0] 66)) tv (Below.sl B8.out hts.out)).mono ?_
     rintro e w6 ⟨va, ac, an, rfl, b6⟩
     have K6 := hide (keepF B8.out b6)
     have NU := (But.of_below b6 fun _ => False).at N8.out (fun c => c)
     have z0f : w6.frozen? ⟨q.heap.size, 0, none⟩ = false := by simp [World.frozen?, NU]
     have d0 : w6.cell? ⟨q.heap.size, 0, none⟩ = some (.int .i64 0) := by rw [cell_of NU]; rfl
     have z1f : w6.frozen? ⟨q.heap.size, 1, none⟩ = false := by simp [World.frozen?, NU]
     have d1 : w6.cell? ⟨q.heap.size, 1, none⟩ = some (.slice none 0 0) := by rw [cell_of NU]; rfl
     have hqs : wr.heap.size ≤ q.heap.size := KP.out.size
     have K7 : Hid (Below wr.heap.size wr ((w6.setCell ⟨q.heap.size, 0, none⟩ (.int .i64 rl)).setCell ⟨q.heap.size, 1, none⟩ (.slice va an ac))) := hide (put2_below K6.out hqs _ _)
     (try go_simp)
     refine hK.out _ _ (fun _ => K6.out) ?_
     clear hK K
     (try simp only [zzp, zzb, zzc])
     refine Ix.tk 11 ⟨some 54, .move (.tmp 65), _, _, _, _⟩ (.tuple #[.agg #[.int .i64 rl, .slice va an ac], .int .i64 rz, .int .u32 (rs.toNat : Int), .int .i64 re]) [20] ?_ K6.out ?_
     ·intro wq hSw; go_simp
     (try simp only [zzp, zzb, zzc])
     refine Ix.tk 12 ⟨some 66, .extract (.tmp 54) 0, _, _, _, _⟩ (.agg #[.int .i64 rl, .slice va an ac]) [20] ?_ K6.out ?_
     ·intro wq hSw; go_simp
     (try simp only [zzp, zzb, zzc])
     refine Ix.tk 13 ⟨some 67, .extract (.tmp 54) 1, _, _, _, _⟩ (.int .i64 rz) [20] ?_ K6.out ?_
     ·intro wq hSw; go_simp
     (try simp only [zzp, zzb, zzc])
     refine Ix.tk 14 ⟨some 68, .extract (.tmp 54) 2, _, _, _, _⟩ (.int .u32 (rs.toNat : Int)) [20] ?_ K6.out ?_
     ·intro wq hSw; go_simp
     (try simp only [zzp, zzb, zzc])
     refine Ix.tk 15 ⟨some 69, .extract (.tmp 54) 3, _, _, _, _⟩ (.int .i64 re) [20] ?_ K6.out ?_
     ·intro wq hSw; go_simp
     (try simp only [zzp, zzb, zzc])
     refine wpAnyT_one (i := 17) (o := ⟨none, .store 66 (.tmp 13) (.tmp 66), _, _, _, _⟩) (by kernel_rfl) rfl (fun K hK => ?_)
     go_simp
     refine hK.out _ _ (fun _ => K7.out) ?_
     clear hK K
     (try simp only [zzq])
     refine Ix.tk 18 ⟨some 14, .assign (.tmp 67), _, _, _, _⟩ (.int .i64 rz) [20] ?_ K7.out ?_
     ·intro wq hSw; go_simp
     (try simp only [zzp, zzb, zzc])
     refine Ix.tk 19 ⟨some 15, .assign (.tmp 68), _, _, _, _⟩ (.int .u32 (rs.toNat : Int)) [20] ?_ K7.out ?_
     ·intro wq hSw; go_simp
     (try simp only [zzp, zzb, zzc])
     refine wpAnyT_one (i := 20) (o := ⟨some 16, .assign (.tmp 69), _, _, _, _⟩) (by kernel_rfl) rfl (fun K hK => ?_)
     go_simp
     refine hK.out _ _ (vac (by kernel_rfl)) ?_
     clear hK K
     (try simp only [zzp, zzb, zzc])
     refine wpAnyT_done (by kernel_rfl) ?_ _
     go_wp2_with fail
     go_meet
     case rel => exact ⟨rfl, rfl, K7.out⟩
   case rest =>
    obtain ⟨rfl, rfl, hcu⟩ := hcut
    have hrz : 0 ≤ rz ∧ rz ≤ 4112 := by
     have hEq : rdF (Go.Proofs.YtpflaglfnkmjiaaGreat.Sst (L.drop 32) ⟨0, 0, bs.toNat, sum⟩ i).s ((L.drop 32).drop (Go.Proofs.YtpflaglfnkmjiaaGreat.Sst (L.drop 32) ⟨0, 0, bs.toNat, sum⟩ i).e) = (rl, rd, rz, rs, re) := by
      rw [← hRR.out, p1.out, p2.out, List.drop_drop]
      congr 1
      ·simp
     have h1 := hwz.out.2.1
     obtain ⟨r1, r2, r3, r4, r5, r6, r7, r8⟩ := rd_good h1
     rw [hEq] at r5
     simp only at r5
     omega
    have hn6 : s.next ≤ 9223372036854775806 := by
     have h1 := hwz.out.2.2.2.2.1
     have h2 := hge.out.2.2.2
     have h3 := p3.out
     simp only at h2
     omega
    have hz6 : s.size + rz ≤ 2147483647 := by
     have h1 := p2.out
     have h2 := hle.out
     omega
    have hG := hide ((hI.out.below hcu.out).grow p4.out rz (rs.toNat : Int) hn6 hrz.1 hz6)
    clear hrz hn6 hz6 hcu htl
    go_wp2_with (first
     | (go_at_call 60; refine hG.out.mono ?_; rintro e w7 ⟨rfl, I7⟩; replace I7 := hide I7)
     | fail)
    go_roundg (K - (i + 1))
    case measure => omega
    case rel => exact ⟨i + 1, by omega, Nat.le_refl _, by go_num, by rw [hop.out]; exact I7.out⟩
theorem ref_none {s : SG} {ls : List (List UInt8)} (h : refF s ls = 0) : ls ≠ [] ∧ ∀ d ∈ ls, d.length ≤ 4096 := by
 unfold refF at h
 by_cases h1 : s.cond ≠ 0
 ·rw [if_pos h1] at h; exact absurd h (by decide)
 rw [if_neg h1] at h
 by_cases h2 : ls = []
 ·rw [if_pos h2] at h; exact absurd h (by decide)
 rw [if_neg h2] at h
 by_cases h3 : ∃ d ∈ ls, 4096 < d.length
 ·rw [if_pos h3] at h; exact absurd h (by decide)
 exact ⟨h2, fun d hd => Nat.le_of_not_lt fun c => h3 ⟨d, hd, c⟩⟩
theorem wk_bytes {seed : Crc.R} {n : Int} {ls : List (List UInt8)} (h1 : 1 ≤ n) (h2 : n + (ls.length : Int) ≤ 9223372036854775807) (hd : ∀ d ∈ ls, d.length ≤ 4096) : ∀ i, i ≤ ls.length → (wk seed n ls i).1.length ≤ smS (ls.take i)
 | 0, _ => by simp [wk]
 | i + 1, hi => by
  have ih := wk_bytes (seed := seed) h1 h2 hd i (by omega)
  have e := wk_step (seed := seed) (i := i) (show i < ls.length by omega) h1 h2 hd
  have h3 := smS_take (ls := ls) (i := i) (by omega)
  rw [e, h3]
  simp only [List.length_append, frm_len]
  omega
theorem app_counts {S : DS} {M : Nat} {L2 : Dr} {PP : List Ch} {F : Nat → Fl} {c : Int} (h : Cm S M L2 PP F c) {s : ByteArray} {p : Nat} (hm : may s.data.toList = true) (hg : get (runs L2 PP) s.data.toList = some p) (D : List UInt8) : (S.append s D).1.c1 = S.c1 + 1 ∧ (S.append s D).1.c7 = S.c7 + 1 := by
 unfold DS.append
 rw [h.find hm hg, flt_none h.al]
 exact ⟨rfl, rfl⟩
theorem create_c1 {S : DS} {M : Nat} {L2 : Dr} {PP : List Ch} {F : Nat → Fl} {c : Int} (h : Cm S M L2 PP F c) {s : ByteArray} (hm : may s.data.toList = true) (hg : get (runs L2 PP) s.data.toList = none) (hl : (runs L2 PP).length < 256) (p : Nat) : (S.create s p).1.c1 = S.c1 := by
 have e : S.create s p = ({ (S.beg 0).str S.flt.2.1 with P := S.P ++ [.cr s p], F := upd S.F p ⟨[], [], 0⟩ }, 0) := by
  unfold DS.create
  rw [ref_up h.up hm, if_neg (by simp), h.dir, hg, if_neg (by simp), if_neg (by omega), flt_none h.al, if_neg (by decide)]
 rw [e, flt_none h.al]
 rfl
theorem sync_c1 {S : DS} {M : Nat} {L2 : Dr} {PP : List Ch} {F : Nat → Fl} {c : Int} (h : Cm S M L2 PP F c) {s : ByteArray} {p : Nat} (hm : may s.data.toList = true) (hg : get (runs L2 PP) s.data.toList = some p) : (S.sync s).1.c1 = S.c1 := by
 unfold DS.sync
 rw [h.find hm hg, flt_none h.al]
 rfl
theorem cre_c1 {S : DS} {M : Nat} {L2 : Dr} {PP : List Ch} {F : Nat → Fl} {c : Int} (h : Cm S M L2 PP F c) {file : ByteArray} {nm bs : Int} (seed : Crc.R) (h1 : 1 ≤ nm) (h2 : 1 ≤ bs) (hm : may file.data.toList = true) (hg : get (runs L2 PP) file.data.toList = none) (hl : (runs L2 PP).length < 256) (p : Nat) (hg2 : get (runs L2 (PP ++ [.cr file p])) file.data.toList = some p) (hM : sumL (upd F p ⟨[], [], 0⟩) (runs L2 (PP ++ [.cr file p])) + 32 ≤ M) :
    (creF S file nm bs seed p).1.c1 = S.c1 + 1 := by
 obtain ⟨a1, a2⟩ := h.create hm hg hl p
 obtain ⟨b1, b2, b3⟩ := a2.append hm hg2 (hed nm.toNat bs.toNat seed) (by rw [hed_len]; exact hM)
 have e : creF S file nm bs seed p = (((S.create file p).1.append file (hed nm.toNat bs.toNat seed)).1).sync file := by
  unfold creF
  rw [whF_ok h1 h2]
  simp only
  rw [if_neg (by simp), if_neg (by rw [a1]; simp), if_neg (by rw [b2]; simp)]
 rw [e, sync_c1 b3 hm hg2, (app_counts a2 hm hg2 _).1, create_c1 h hm hg hl]
structure RJ (s : SG) (S : DS) (b : Nat) (nm bs : Int) (seed : Crc.R) (ds : List (List UInt8)) (i : Nat) : Prop where
 cl : ∃ F p, Clm s S (whF nm bs seed).2.1 (hed nm.toNat bs.toNat seed) ds 4194304 [] [.cr fileB p] F S.c7 p
 c7 : 0 ≤ S.c7 ∧ S.c7 ≤ 3 + (i : Int)
 c1 : 0 ≤ S.c1 ∧ S.c1 ≤ 1 + (i : Int)
 b : s.b = b
 fl : s.file = fileB
 nm : s.num = nm
 bs : s.base = bs
 hs : s.hs = (seed.toNat : Int)
 sz : smS ds ≤ 65536 * i
theorem RJ.up {s : SG} {S : DS} {b : Nat} {nm bs : Int} {seed : Crc.R} {ds : List (List UInt8)} {i : Nat} (h : RJ s S b nm bs seed ds i) : RJ s S b nm bs seed ds (i + 1) :=
 ⟨h.cl, by have := h.c7; omega, by have := h.c1; omega, h.b, h.fl, h.nm, h.bs, h.hs, by have := h.sz; omega⟩
theorem RJ.new (nm bs : Int) (seed : Crc.R) (h1 : 1 ≤ nm) (h2 : 1 ≤ bs) (h3 : bs ≤ 9223372036854775807) (b p : Nat) :
    (creF (DS.new 4194304) fileB nm bs seed p).2 = 0 ∧ RJ (newSG b fileB nm bs seed (whF nm bs seed).2.1) (creF (DS.new 4194304) fileB nm bs seed p).1 b nm bs seed [] 0 := by
 obtain ⟨a1, a2⟩ := new_cre 4194304 (by decide) nm bs seed h1 h2 h3 b p
 have e : (creF (DS.new 4194304) fileB nm bs seed p).1.c7 = 3 := a2.cm.c7
 have hC : Cm (DS.new ((4194304 : Nat) : Int)) 4194304 [] [] noF 0 := ⟨rfl, rfl, rfl, rfl, rfl, rfl, rfl⟩
 have hg : get (runs [] [.cr fileB p]) fileB.data.toList = some p := by rw [run_file]; exact get_one _ _
 have e1 : (creF (DS.new 4194304) fileB nm bs seed p).1.c1 = 1 := cre_c1 hC seed h1 h2 may_file rfl (by decide) p hg (by show sumL _ (runs [] [.cr fileB p]) + 32 ≤ 4194304; rw [run_file, sum_one, upd_same]; simp)
 exact ⟨a1, ⟨_, p, by rw [e]; exact a2⟩, by rw [e]; decide, by rw [e1]; decide, rfl, rfl, rfl, rfl, rfl, by simp [smS]⟩
theorem fileB_len : fileB.size ≤ maxLen ∧ fileB.size ≤ 281474976710656 := by
 have : fileB.size = 24 := rfl
 rw [this]; unfold maxLen; omega
theorem RJ.put {wr : World} {sb : Nat} {s : SG} {S : DS} {O : Nat → Prop} {xb mb : Nat} {v : Value} {b : Nat} {nm bs : Int} {seed : Crc.R} {ds : List (List UInt8)} {i : Nat} (h : RJ s S b nm bs seed ds i) (g : SW wr sb s S O xb mb v) (hi : i < 30) (h1 : 1 ≤ bs) (h2 : bs ≤ 1152921504606846976) (vd : Value) (vs : List Value) (ls : List (List UInt8)) (hr : Row wr vd vs) (hs : Sls wr vs ls) (hsm : (∃ d ∈ ls, 4096 < d.length) ∨ smS ls ≤ 65536) :
    Calls Tryz.prog 15 #[.pointer (some ⟨sb, 0, none⟩), vd] wr fun e w' => ∃ n f : Int, e = .returned (.tuple #[.int .i64 n, .int .i64 f]) ∧ ((f ≠ 0 ∧ n = 0 ∧ Below wr.heap.size wr w') ∨ (f = 0 ∧ n = bs + (ds.length : Int) ∧ ls ≠ [] ∧ smS ls ≤ 65536 ∧ ∃ s' S' O' v', SW w' sb s' S' O' xb mb v' ∧ Sst wr w' sb xb mb v v' O O' ∧ RJ s' S' b nm bs seed (ds ++ ls) (i + 1) ∧ S'.c1 = S.c1 + 1 ∧ S'.c7 = S.c7 + 1)) := by
 obtain ⟨F, p, cl⟩ := h.cl
 by_cases hrf : refF s ls = 0
 rotate_left
 ·refine (putR_any g cl.co.ok vd vs ls hr hs hrf).mono ?_
  rintro e w' ⟨rfl, hb⟩
  exact ⟨0, _, rfl, .inl ⟨hrf, rfl, hb⟩⟩
 obtain ⟨r1, r2⟩ := ref_none hrf
 have hle : smS ls ≤ 65536 := by
  rcases hsm with ⟨d, hd, hl⟩ | hle
  ·have := r2 d hd; omega
  ·exact hle
 have hn := smS_len ls
 have hnd := smS_len ds
 have hsz := h.sz
 have hbs := h.bs
 have hco := cl.co
 have hds : ds.length ≤ 100000 := by omega
 have hnx := hco.n
 have hz := hco.z
 have hwd := wk_bytes (seed := (whF nm bs seed).2.1) (n := s.base) (ls := ds) (by omega) (by omega) hco.d ds.length (Nat.le_refl _)
 rw [List.take_length] at hwd
 have hwl := wk_bytes (seed := (wk (whF nm bs seed).2.1 s.base ds ds.length).2.2) (n := s.next) (ls := ls) (by omega) (by omega) r2 ls.length (Nat.le_refl _)
 rw [List.take_length] at hwl
 have hsl := cl.sl
 have hM : sumL F (runs [] [.cr fileB p]) + (wk (wk (whF nm bs seed).2.1 s.base ds ds.length).2.2 s.next ls ls.length).1.length ≤ 4194304 := by
  rw [run_file, sum_one, cl.by_, List.length_append, cl.hh]
  omega
 obtain ⟨q1, q2, q3⟩ := cl.put ls r1 r2 (by omega) (by omega) (by omega) hM
 obtain ⟨k1, k2⟩ := app_counts cl.cm cl.my cl.gt (wk (wk (whF nm bs seed).2.1 s.base ds ds.length).2.2 s.next ls ls.length).1
 have hc7 := h.c7
 have hP := putS_any g hco.ok (wk (whF nm bs seed).2.1 s.base ds ds.length).2.2 hco.e vd vs ls hr hs (by omega) (by omega) (by omega) (by rw [h.fl]; exact fileB_len.1) (by omega)
 have q4 : (putF s S (wk (whF nm bs seed).2.1 s.base ds ds.length).2.2 ls).1.2.c1 = S.c1 + 1 ∧ (putF s S (wk (whF nm bs seed).2.1 s.base ds ds.length).2.2 ls).1.2.c7 = S.c7 + 1 := by rw [q2]; exact ⟨k1, k2⟩
 obtain ⟨g1, g2, g3, g4, g5, g6, g7⟩ := gk_b s (wk (wk (whF nm bs seed).2.1 s.base ds ds.length).2.2 s.next ls ls.length).2.1 ls.length
 have q5 : (putF s S (wk (whF nm bs seed).2.1 s.base ds ds.length).2.2 ls).1.1 = gk s (wk (wk (whF nm bs seed).2.1 s.base ds ds.length).2.2 s.next ls ls.length).2.1 ls.length := by rw [q2]
 refine hP.mono ?_
 rintro e w' ⟨rfl, v', O', hC', hst⟩
 have e1 : (putF s S (wk (whF nm bs seed).2.1 s.base ds ds.length).2.2 ls).2.1 = s.next := by rw [q1]
 have e2 : (putF s S (wk (whF nm bs seed).2.1 s.base ds ds.length).2.2 ls).2.2 = 0 := by rw [q1]
 refine ⟨_, _, rfl, .inr ⟨e2, by rw [e1, hnx, hbs], r1, hle, _, _, O', v', hC', hst, ⟨⟨_, p, by rw [q4.2]; exact q3⟩, ?_, ?_, ?_, ?_, ?_, ?_, ?_, ?_⟩, q4.1, q4.2⟩⟩
 ·rw [q4.2]; omega
 ·rw [q4.1]; have := h.c1; omega
 ·rw [q5, g1]; exact h.b
 ·rw [q5, g2]; exact h.fl
 ·rw [q5, g5]; exact h.nm
 ·rw [q5, g4]; exact h.bs
 ·rw [q5, g6]; exact h.hs
 ·have : smS (ds ++ ls) = smS ds + smS ls := by simp [smS]
  rw [this]; omega
theorem RJ.opens {w wr : World} {sb : Nat} {s : SG} {S : DS} {b : Nat} {nm bs : Int} {seed : Crc.R} {ds : List (List UInt8)} {i : Nat} (h : RJ s S b nm bs seed ds i) (hC : CS w wr sb s S) (hi : i ≤ 30) (n1 : 1 ≤ nm) (n2 : nm ≤ 9223372036854775807) (h1 : 1 ≤ bs) (h2 : bs ≤ 1152921504606846976) :
    Calls Tryz.prog 18 #[.pointer (some ⟨b, 0, none⟩), .string fileB] wr fun e w' => ∃ tb z1 z2 z3 t, e = .returned (.tuple #[.pointer (some ⟨tb, 0, none⟩), .agg #[.int .i64 (ds.length : Int), .int .i64 z1, .int .i64 z2, .int .u32 z3, .int .i64 1], .int .i64 0]) ∧ CS w w' sb s S ∧ CS w w' tb t S ∧ t.look = s.look ∧ SOk t ∧ t.base = bs ∧ t.file = fileB ∧ Below wr.heap.size wr w' ∧ ∀ lsn, bs ≤ lsn → lsn < bs + (ds.length : Int) → rdS t S lsn = ((lsn, ds.getD (lsn - bs).toNat []), 0) := by
 obtain ⟨F, p, cl⟩ := h.cl
 have hC0 := hC
 obtain ⟨O, xb, mb, v, g, gB, l1, l2⟩ := hC
 have hco := cl.co
 have hsz := h.sz
 have hnd := smS_len ds
 have hds : ds.length ≤ 100000 := by omega
 have hbs := h.bs
 have hwd := wk_bytes (seed := (whF nm bs seed).2.1) (n := s.base) (ls := ds) (by omega) (by omega) hco.d ds.length (Nat.le_refl _)
 rw [List.take_length] at hwd
 have hhas := cl.has
 rw [h.fl, hbs] at hhas
 rw [hbs] at hwd
 have hdk := g.dk
 rw [h.b] at hdk
 obtain ⟨o1, o2, ⟨xs, o3, z1, z2, z3, o4⟩, o5, o6, o7, o8, o9, o10, o11, o12⟩ := open_coh b fileB seed n1 n2 h1 (ds := ds) (by omega) hco.d (by omega) (L := hed nm.toNat bs.toNat seed ++ (wk (whF nm bs seed).2.1 bs ds ds.length).1) rfl rfl
 have hlen : (hed nm.toNat bs.toNat seed ++ (wk (whF nm bs seed).2.1 bs ds ds.length).1).length ≤ 16777216 := by rw [List.length_append, cl.hh]; omega
 have hO := openS_any hdk fileB fileB_len.1 fileB_len.2 _ (raF_has hhas) o1 hlen nm bs seed (whF nm bs seed).2.1 o2 h1 (by omega) xs o3
 refine hO.mono ?_
 rintro e w' ⟨tb, xb2, mb2, v2, K, rfl, hK, hSW, hown, hb⟩
 have hKe := o5 K hK
 subst hKe
 have hs1 := gB.size
 refine ⟨tb, z1, z2, z3, _, by rw [o4], hC0.below hb, ⟨O, xb2, mb2, v2, hSW, bs2 gB hb, l1, fun k hk => Nat.le_trans hs1 (hown k hk)⟩, ?_, o6.ok, o9, o7, hb, fun lsn q1 q2 => ?_⟩
 ·exact hco.look o6 (by rw [o7, h.fl]) (by rw [o8, h.nm]) (by rw [o9, hbs]) (by rw [o10, h.hs]) (by rw [o11, cl.cd])
 ·have hn := o6.n
  rw [o9] at hn
  have := o6.read cl.hh (S := S) (by rw [o7, o9]; exact hhas) (lsn := lsn) (by rw [o9]; exact q1) (by rw [hn]; exact q2)
  rw [o9] at this
  exact this
theorem RJ.read {s : SG} {S : DS} {b : Nat} {nm bs : Int} {seed : Crc.R} {ds : List (List UInt8)} {i : Nat} (h : RJ s S b nm bs seed ds i) {lsn : Int} (q1 : bs ≤ lsn) (q2 : lsn < bs + (ds.length : Int)) : rdS s S lsn = ((lsn, ds.getD (lsn - bs).toNat []), 0) := by
 obtain ⟨F, p, cl⟩ := h.cl
 have hn := cl.co.n
 have := cl.read (lsn := lsn) (by rw [h.bs]; exact q1) (by rw [hn, h.bs]; exact q2)
 rw [h.bs] at this
 exact this
def acs (n : Int) : List Value → List Value
 | [] => []
 | u :: r => .int .i64 n :: u :: acs (n + 1) r
theorem acs_snoc : ∀ (us : List Value) (n : Int) (u : Value), acs n (us ++ [u]) = acs n us ++ [.int .i64 (n + (us.length : Int)), u]
 | [], n, u => by simp [acs]
 | a :: r, n, u => by
  have := acs_snoc r (n + 1) u
  simp only [List.cons_append, acs, this, List.length_cons]
  rw [show n + 1 + (r.length : Int) = n + ((r.length + 1 : Nat) : Int) by omega]
theorem acs_get : ∀ (us : List Value) (n : Int) (k : Nat) (hk : k < us.length), (acs n us)[k * 2]? = some (.int .i64 (n + (k : Int))) ∧ (acs n us)[k * 2 + 1]? = some us[k]
 | a :: r, n, 0, hk => by simp [acs]
 | a :: r, n, k + 1, hk => by
  obtain ⟨h1, h2⟩ := acs_get r (n + 1) k (by simpa using hk)
  rw [show (k + 1) * 2 = k * 2 + 1 + 1 by omega]
  refine ⟨?_, ?_⟩
  ·show (acs (n + 1) r)[k * 2]? = _
   rw [h1]
   congr 2
   omega
  ·show (acs (n + 1) r)[k * 2 + 1]? = _
   rw [h2]
   rfl
def AL (w wr : World) (n : Int) (us : List Value) (v : Value) : Prop := wr.ownsRow w.heap.size 66 2 v us.length (acs n us)
theorem AL.but {X : Nat → Prop} {w A B : World} {n : Int} {us : List Value} {v : Value} (h : AL w A n us v) (hb : But X A B) (hx : ∀ k, v.ownBlock = some k → ¬ X k) : AL w B n us v := by
 refine ⟨h.1, ?_⟩
 rcases h.2 with h | ⟨g, cap, cur, rfl, hg, hh, r⟩
 ·exact .inl h
 ·exact .inr ⟨g, cap, cur, rfl, hg, hb.at hh (hx g rfl), r⟩
theorem AL.form {w wr : World} {n : Int} {us : List Value} {v : Value} (h : AL w wr n us v) : ∃ a c, v = .slice a us.length c := by
 rcases h.2 with ⟨rfl, h0⟩ | ⟨g, cap, cur, rfl, _⟩
 ·exact ⟨none, 0, by rw [h0]⟩
 ·exact ⟨_, _, rfl⟩
theorem AL.lt {w wr : World} {n : Int} {us : List Value} {v : Value} (h : AL w wr n us v) : ∀ k, v.ownBlock = some k → w.heap.size ≤ k ∧ k < wr.heap.size := fun k hk => World.ownsRow.lt h k hk
theorem AL.cells {w wr : World} {n : Int} {us : List Value} {v : Value} (h : AL w wr n us v) {k : Nat} (hk : k < us.length) : ∃ g cap, v = .slice (some ⟨g, 0, none⟩) us.length cap ∧ wr.cell? ⟨g, k * 2, none⟩ = some (.int .i64 (n + (k : Int))) ∧ wr.cell? ⟨g, k * 2 + 1, none⟩ = some us[k] := by
 rcases h.2 with ⟨_, h0⟩ | ⟨g, cap, cur, rfl, hg, hh, h1, h2, h3, h4⟩
 ·omega
 obtain ⟨a1, a2⟩ := acs_get us n k hk
 rw [← h4] at a1 a2
 refine ⟨g, cap, rfl, ?_, ?_⟩
 ·rw [cell_of hh, ← Array.getElem?_toList]
  rw [List.getElem?_take] at a1
  split at a1
  ·exact a1
  ·cases a1
 ·rw [cell_of hh, ← Array.getElem?_toList]
  rw [List.getElem?_take] at a2
  split at a2
  ·exact a2
  ·cases a2
theorem infoRec : (Tryz.prog.info? 66).map (fun i => (i.zero, i.size, i.bytes)) = some (some (.agg #[.int .i64 0, .slice none 0 0]), 2, 32) := by kernel_rfl
theorem run_appA {w wr : World} {n : Int} {us : List Value} {v : Value} (ao : Option Addr) (ln ca : Nat) (gg : Nat) (h : AL w wr n us v) (h0 : wr.cell? ⟨gg, 0, none⟩ = some (.int .i64 (n + (us.length : Int)))) (h1 : wr.cell? ⟨gg, 1, none⟩ = some (.slice ao ln ca)) (hl : us.length ≤ 1000000) (hw : w.heap.size ≤ wr.heap.size) (ty : TypeId) :
    ∃ v' w', (Builtin.append_ #[72, 72] ty #[v, .slice (some ⟨gg, 0, none⟩) 1 1]).run Tryz.prog wr = .ok v' w' ∧ AL w w' n (us ++ [.slice ao ln ca]) v' ∧ wr.grownBy w' v.ownBlock ∧ (v'.ownBlock = v.ownBlock ∨ v'.ownBlock = some wr.heap.size) := by
 obtain ⟨i0, hi, hz0, hz1, hz2⟩ := info_parts infoRec
 have hcells : ∀ j u, ([.int .i64 (n + (us.length : Int)), .slice ao ln ca] : List Value)[j]? = some u → wr.cell? ((⟨gg, 0, none⟩ : Addr).add j) = some u := by
  intro j u hu
  rw [addr_add]
  match j with
  | 0 => simp at hu; subst hu; exact h0
  | 1 => simp at hu; subst hu; exact h1
  | j + 2 => simp at hu
 obtain ⟨v', w', hr, ho, hg, _, hat⟩ := run_append_own_at (P := Tryz.prog) wr w.heap.size 72 ty 66 i0 (.agg #[.int .i64 0, .slice none 0 0]) 2 32 Tryz.underlying72 hi hz0 hz1 hz2 rfl (by decide) v us.length (acs n us) h ⟨gg, 0, none⟩ 1 1 [.int .i64 (n + (us.length : Int)), .slice ao ln ca] rfl hcells (by
     intro u hu
     simp at hu
     rcases hu with rfl | rfl <;> rfl) (by unfold maxLen; omega) (by omega) hw
 refine ⟨v', w', hr, ?_, hg, hat⟩
 unfold AL
 rw [List.length_append, acs_snoc]
 exact ho
structure LJ (w wr : World) (sb : Nat) (s : SG) (S : DS) (n : Int) (us : List Value) (va : Value) : Prop where
 sw : ∃ O xb mb v, SW wr sb s S O xb mb v ∧ (∀ k, O k → w.heap.size ≤ k) ∧ (∀ k, SOwn sb xb mb v k → w.heap.size ≤ k) ∧ ∀ k, va.ownBlock = some k → ¬ O k ∧ ¬ SOwn sb xb mb v k
 be : Below w.heap.size w wr
 al : AL w wr n us va
theorem LJ.cs {w wr : World} {sb : Nat} {s : SG} {S : DS} {n : Int} {us : List Value} {va : Value} (h : LJ w wr sb s S n us va) : CS w wr sb s S := by
 obtain ⟨O, xb, mb, v, h1, h2, h3, h4⟩ := h.sw
 exact ⟨O, xb, mb, v, h1, h.be, h2, h3⟩
theorem LJ.below {w wr q : World} {sb : Nat} {s : SG} {S : DS} {n : Int} {us : List Value} {va : Value} (h : LJ w wr sb s S n us va) (hb : Below wr.heap.size wr q) : LJ w q sb s S n us va := by
 obtain ⟨O, xb, mb, v, h1, h2, h3, h4⟩ := h.sw
 exact ⟨⟨O, xb, mb, v, h1.below hb, h2, h3, h4⟩, bs2 h.be hb, h.al.but (But.of_below hb fun _ => False) fun _ _ c => c⟩
theorem LJ.new {w wr : World} {sb : Nat} {s : SG} {S : DS} (h : CS w wr sb s S) (n : Int) : LJ w wr sb s S n [] (.slice none 0 0) := by
 obtain ⟨O, xb, mb, v, h1, hB, h2, h3⟩ := h
 exact ⟨⟨O, xb, mb, v, h1, h2, h3, fun k hk => by simp [Value.ownBlock] at hk⟩, hB, World.ownsRow_nil _ _ _ _⟩
theorem LJ.put {w q wr : World} {sb : Nat} {s : SG} {S : DS} {n : Int} {us : List Value} {va : Value} (h : LJ w q sb s S n us va) (hq : Below q.heap.size q wr) {b : Nat} {nm bs : Int} {seed : Crc.R} {ds : List (List UInt8)} {i : Nat} (hJ : RJ s S b nm bs seed ds i) (hi : i < 30) (h1 : 1 ≤ bs) (h2 : bs ≤ 1152921504606846976) (vd : Value) (vs : List Value) (ls : List (List UInt8)) (hr : Row wr vd vs) (hs : Sls wr vs ls) (hsm : (∃ d ∈ ls, 4096 < d.length) ∨ smS ls ≤ 65536) :
    Calls Tryz.prog 15 #[.pointer (some ⟨sb, 0, none⟩), vd] wr fun e w' => ∃ m f : Int, e = .returned (.tuple #[.int .i64 m, .int .i64 f]) ∧ (∀ k, q.heap.size ≤ k → k < wr.heap.size → w'.heap[k]? = wr.heap[k]?) ∧ ((f ≠ 0 ∧ m = 0 ∧ LJ w w' sb s S n us va) ∨ (f = 0 ∧ m = bs + (ds.length : Int) ∧ smS ls ≤ 65536 ∧ ∃ s' S', LJ w w' sb s' S' n us va ∧ RJ s' S' b nm bs seed (ds ++ ls) (i + 1) ∧ S'.c1 = S.c1 + 1 ∧ S'.c7 = S.c7 + 1)) := by
 have h0 := h.below hq
 obtain ⟨O, xb, mb, v, g0, l1, l2, l3⟩ := h.sw
 have g := g0.below hq
 refine (hJ.put g hi h1 h2 vd vs ls hr hs hsm).mono ?_
 rintro e w' ⟨m, f, rfl, ⟨a1, a2, a3⟩ | ⟨a1, a2, _, a3, s', S', O', v', b1, b2, b3, b4, b5⟩⟩
 ·exact ⟨m, f, rfl, fun k _ hk => a3.block k hk, .inl ⟨a1, a2, h0.below a3⟩⟩
 have hz := h0.be.size
 have hb : Below w.heap.size w w' := ⟨b2.but.os.trans h0.be.os, b2.but.tape.trans h0.be.tape, b2.but.output.trans h0.be.output, Nat.le_trans h0.be.size b2.but.size, fun k hk => (b2.but.block k (Nat.lt_of_lt_of_le hk h0.be.size) (fun c => by
  rcases c with c | c
  ·have := l2 k c; omega
  ·have := l1 k c; omega)).trans (h0.be.block k hk)⟩
 have hall := h0.al.lt
 refine ⟨m, f, rfl, fun k k1 k2 => b2.but.block k k2 (fun c => ?_), .inr ⟨a1, a2, a3, s', S', ⟨⟨O', xb, mb, v', b1, fun k hk => ?_, fun k hk => ?_, fun k hk => ⟨fun c => ?_, fun c => ?_⟩⟩, hb, h0.al.but b2.but (fun k hk c => ?_)⟩, b3, b4, b5⟩⟩
 ·rcases c with c | c
  ·have := g0.sg.lt k c; omega
  ·have := g0.dk.lt k c; omega
 ·rcases b2.o k hk with c | c
  ·exact l1 k c
  ·omega
 ·rcases hk with hk | hk | hk | hk
  ·exact l2 k (.inl hk)
  ·exact l2 k (.inr (.inl hk))
  ·exact l2 k (.inr (.inr (.inl hk)))
  ·rcases b2.v k hk with c | c
   ·exact l2 k (.inr (.inr (.inr c)))
   ·omega
 ·rcases b2.o k c with c | c
  ·exact (l3 k hk).1 c
  ·have := (hall k hk).2; omega
 ·rcases c with c | c | c | c
  ·exact (l3 k hk).2 (.inl c)
  ·exact (l3 k hk).2 (.inr (.inl c))
  ·exact (l3 k hk).2 (.inr (.inr (.inl c)))
  ·rcases b2.v k c with c | c
   ·exact (l3 k hk).2 (.inr (.inr (.inr c)))
   ·have := (hall k hk).2; omega
 ·rcases c with c | c
  ·exact (l3 k hk).2 c
  ·exact (l3 k hk).1 c
theorem LJ.app {w wr w' : World} {sb : Nat} {s : SG} {S : DS} {n : Int} {us us' : List Value} {va va' : Value} (h : LJ w wr sb s S n us va) (ha : AL w w' n us' va') (hg : wr.grownBy w' va.ownBlock) (hat : va'.ownBlock = va.ownBlock ∨ va'.ownBlock = some wr.heap.size) : LJ w w' sb s S n us' va' := by
 obtain ⟨O, xb, mb, v, g, l1, l2, l3⟩ := h.sw
 have hb : But (fun k => va.ownBlock = some k) wr w' := But.of_grownBy hg fun k e => e
 refine ⟨⟨O, xb, mb, v, ⟨g.sg.but hb fun k hk c => (l3 k c).2 hk, g.dk.but hb fun k hk c => (l3 k c).1 hk, g.ap⟩, l1, l2, fun k hk => ?_⟩, ?_, ha⟩
 ·rcases hat with c | c
  ·exact l3 k (by rw [← c]; exact hk)
  ·rw [c] at hk
   simp at hk
   have q1 := g.dk.lt k
   have q2 := g.sg.lt k
   exact ⟨fun c => by have := q1 c; omega, fun c => by have := q2 c; omega⟩
 ·exact h.be.trans (hb.below h.be.size fun k hk => (h.al.lt k hk).1)
end Go.Proofs.YtpflaglfnkmjiaaGreat.Sg
namespace Go.Proofs.YtpflaglfnkmjiaaGreat.Sg
open Go.RowKit Go.Maps Go.Sort Go.Shelf Go.Proofs.YtpflaglfnkmjiaaGreat.Nm Go.Proofs.YtpflaglfnkmjiaaGreat.Dk
open Go.Deep (open_slice1)
set_option maxRecDepth 100000
theorem countsFs : ∃ n0 n1 n2 n3 n4 n5 n6 n7 n8 : String, Tryz.prog.underlying 74 = some (.struct (Tryz.prog.fieldsOf 74)) ∧ (Tryz.prog.fieldsOf 74).toList.map (fun f => (f.name, f.type, f.offset)) = [(n0, 2, 0), (n1, 2, 1), (n2, 2, 2), (n3, 2, 3), (n4, 2, 4), (n5, 2, 5), (n6, 2, 6), (n7, 2, 7), (n8, 2, 8)] ∧ n0 ≠ "_" ∧ n1 ≠ "_" ∧ n2 ≠ "_" ∧ n3 ≠ "_" ∧ n4 ≠ "_" ∧ n5 ≠ "_" ∧ n6 ≠ "_" ∧ n7 ≠ "_" ∧ n8 ≠ "_" :=
 ⟨"Creates", "Appends", "Syncs", "Cuts", "Renames", "Removes", "DirSyncs", "All", "Bytes", by kernel_rfl, by kernel_rfl, by decide, by decide, by decide, by decide, by decide, by decide, by decide, by decide, by decide⟩
theorem countsHeld : Tryz.prog.stoodInHeld 74 = false := by kernel_rfl
theorem countsEq (w : World) (a0 a1 a2 a3 a4 a5 a6 a7 a8 : Int) : (Op.equalIn 10000 74 (.agg #[.int .i64 a0, .int .i64 a1, .int .i64 a2, .int .i64 a3, .int .i64 a4, .int .i64 a5, .int .i64 a6, .int .i64 a7, .int .i64 a8]) (.agg #[.int .i64 a0, .int .i64 a1, .int .i64 a2, .int .i64 a3, .int .i64 a4, .int .i64 a5, .int .i64 a6, .int .i64 a7, .int .i64 a8])).run Tryz.prog w = .ok true w := by
 obtain ⟨n0, n1, n2, n3, n4, n5, n6, n7, n8, h1, h2, q0, q1, q2, q3, q4, q5, q6, q7, q8⟩ := countsFs
 rw [run_equalIn_struct w 9999 74 _ _ h1 countsHeld]
 generalize (Tryz.prog.fieldsOf 74).toList = fs at h2
 have hl : fs.length = 9 := by have := congrArg List.length h2; simpa using this
 match fs, hl with
 | [f0, f1, f2, f3, f4, f5, f6, f7, f8], _ =>
  simp only [List.map_cons, List.map_nil, List.cons.injEq, Prod.mk.injEq, and_true] at h2
  obtain ⟨⟨b0, c0, d0⟩, ⟨b1, c1, d1⟩, ⟨b2, c2, d2⟩, ⟨b3, c3, d3⟩, ⟨b4, c4, d4⟩, ⟨b5, c5, d5⟩, ⟨b6, c6, d6⟩, ⟨b7, c7, d7⟩, ⟨b8, c8, d8⟩⟩ := h2
  have p0 : f0.name ≠ "_" := by rw [b0]; exact q0
  have p1 : f1.name ≠ "_" := by rw [b1]; exact q1
  have p2 : f2.name ≠ "_" := by rw [b2]; exact q2
  have p3 : f3.name ≠ "_" := by rw [b3]; exact q3
  have p4 : f4.name ≠ "_" := by rw [b4]; exact q4
  have p5 : f5.name ≠ "_" := by rw [b5]; exact q5
  have p6 : f6.name ≠ "_" := by rw [b6]; exact q6
  have p7 : f7.name ≠ "_" := by rw [b7]; exact q7
  have p8 : f8.name ≠ "_" := by rw [b8]; exact q8
  simp [Op.eqFields, p0, c0, d0, p1, c1, d1, p2, c2, d2, p3, c3, d3, p4, c4, d4, p5, c5, d5, p6, c6, d6, p7, c7, d7, p8, c8, d8, go_sem]
theorem countsSame (w : World) (a0 a1 a2 a3 a4 a5 a6 a7 a8 : Int) : (binOp .neq 74 (.agg #[.int .i64 a0, .int .i64 a1, .int .i64 a2, .int .i64 a3, .int .i64 a4, .int .i64 a5, .int .i64 a6, .int .i64 a7, .int .i64 a8]) (.agg #[.int .i64 a0, .int .i64 a1, .int .i64 a2, .int .i64 a3, .int .i64 a4, .int .i64 a5, .int .i64 a6, .int .i64 a7, .int .i64 a8])).run Tryz.prog w = .ok (.bool false) w := by
 rw [run_neq_struct, countsEq]
 rfl
def Lots (w : World) (vs : List Value) (lots : List (List (List UInt8))) : Prop := vs.length = lots.length ∧ ∀ i (h1 : i < vs.length) (h2 : i < lots.length), ∃ us, Row w vs[i] us ∧ Sls w us lots[i]
theorem Lots.below {w w' : World} {vs : List Value} {lots : List (List (List UInt8))} (h : Lots w vs lots) (hb : Below w.heap.size w w') : Lots w' vs lots :=
 ⟨h.1, fun i h1 h2 => by
  obtain ⟨us, r, s⟩ := h.2 i h1 h2
  exact ⟨us, Below.row hb r, Below.sls hb s⟩⟩
theorem open_lots {H : Type} {enc : TypeId × Value → H} {w : World} {base : Nat} {spare : Nat → Bool} {held : Bool} {fuel : Nat} {v : Value} {x : DataW H × List MemPlace}
    (h : DataW.trod enc Tryz.prog w base spare held fuel 71 [v] = some x) :
    ∃ vs lots, Row w v vs ∧ Lots w vs lots ∧ ((x.1 = .nil ∧ lots = []) ∨ ∃ elems sp, x.1 = .slice elems sp ∧ elems.length = lots.length ∧ ∀ i (h1 : i < elems.length) (h2 : i < lots.length), (elems[i] = .nil ∧ lots[i] = []) ∨ ∃ es sp', elems[i] = .slice es sp' ∧ es.length = lots[i].length) := by
 rcases open_slice1 Tryz.underlying71 (by kernel_rfl) h with ⟨hcs, hx⟩ | ⟨a, len, cap, m, n, V, D, Pl, hcs, hb, hl, hm, hmm, hx, hel⟩
 ·simp at hcs
  subst hcs hx
  exact ⟨[], [], Row.nil _, ⟨rfl, fun i h1 => by simp at h1⟩, .inl ⟨rfl, rfl⟩⟩
 ·simp at hcs
  subst hcs hx
  have hlm : len ≤ m := by split at hmm <;> omega
  have each : ∀ i, ∃ l, i < m → (∃ us, Row w (V i) us ∧ Sls w us l) ∧ ((D i = .nil ∧ l = []) ∨ ∃ es sp', D i = .slice es sp' ∧ es.length = l.length) := by
   intro i
   by_cases hi : i < m
   ·obtain ⟨us, l, h1, h2, h3⟩ := open_byteses (hel i hi).2
    refine ⟨l, fun _ => ⟨⟨us, h1, h2⟩, ?_⟩⟩
    rcases h3 with h3 | ⟨es, sp', e1, e2, _⟩
    ·exact .inl h3
    ·exact .inr ⟨es, sp', e1, e2⟩
   ·exact ⟨[], fun h => absurd h hi⟩
  obtain ⟨L, hL⟩ : ∃ L : Nat → List (List UInt8), ∀ i, i < m → (∃ us, Row w (V i) us ∧ Sls w us (L i)) ∧ ((D i = .nil ∧ L i = []) ∨ ∃ es sp', D i = .slice es sp' ∧ es.length = (L i).length) := ⟨fun i => Classical.choose (each i), fun i => Classical.choose_spec (each i)⟩
  refine ⟨(List.range len).map V, (List.range len).map L, ⟨some a, cap, by simp, fun e => by simp at e, by simpa using hl, hm, ?_⟩, ⟨by simp, fun i h1 h2 => ?_⟩, .inr ⟨_, _, rfl, by simp, fun i h1 h2 => ?_⟩⟩
  ·intro i hi
   simp at hi
   have hc := (hel i (by omega)).1
   obtain ⟨b, off, sp⟩ := a
   have hsp : sp = none := by
    have h0 := (hel 0 (by omega)).1
    simpa [Addr.add] using World.cell?_spot h0
   subst hsp
   rw [addr_add] at hc
   exact ⟨b, off, rfl, by rw [hc]; simp⟩
  ·simp at h1
   simpa using (hL i (by omega)).1
  ·simp at h1
   simpa using (hL i (by omega)).2
theorem lots_reach {H : Type} {ts : List TypeId} {ds : List (DataW H)} (hsz : (DataW.weightsEach Tryz.prog ts ds).all (· ≤ reachBytes) = true) {j : Nat} {d : DataW H} {lots : List (List (List UInt8))} (ht : ts[j]? = some 71) (hd : ds[j]? = some d)
    (h : (d = .nil ∧ lots = []) ∨ ∃ elems sp, d = .slice elems sp ∧ elems.length = lots.length ∧ ∀ i (h1 : i < elems.length) (h2 : i < lots.length), (elems[i] = .nil ∧ lots[i] = []) ∨ ∃ es sp', elems[i] = .slice es sp' ∧ es.length = lots[i].length) : ∀ x ∈ lots, x.length ≤ 140737488351232 := by
 rcases h with ⟨_, rfl⟩ | ⟨elems, sp, rfl, he, hx⟩
 ·intro x hx; simp at hx
 ·intro x hxm
  obtain ⟨i, hi, rfl⟩ := List.getElem_of_mem hxm
  have hi2 : i < elems.length := by omega
  rcases hx i hi2 hi with ⟨_, e0⟩ | ⟨es, sp', e1, e2⟩
  ·rw [e0]; simp
  ·have hm : (es.length + sp'.length) * Tryz.prog.bytesOf 39 ∈ (elems[i]).weights Tryz.prog 35 := by
     rw [e1]; simp [DataW.weights, Tryz.underlying35]
   have hm2 := weightsAll_mem (e := 35) hi2 _ hm
   have hm3 : (es.length + sp'.length) * Tryz.prog.bytesOf 39 ∈ DataW.weights Tryz.prog 71 (DataW.slice elems sp) := by
    simp only [DataW.weights, Tryz.underlying71, List.mem_cons, List.mem_append]
    exact Or.inr (Or.inl hm2)
   have := List.all_eq_true.1 hsz _ (DataW.weights_mem_each ht hd _ hm3)
   have h4 : (es.length + sp'.length) * Tryz.prog.bytesOf 39 ≤ reachBytes := by simpa using this
   have hby : Tryz.prog.bytesOf 39 = 24 := by kernel_rfl
   rw [hby] at h4
   simp only [reachBytes] at h4
   omega
end Go.Proofs.YtpflaglfnkmjiaaGreat.Sg
namespace Go.Proofs.YtpflaglfnkmjiaaGreat.Sg
open Go.RowKit Go.Maps Go.Sort Go.Shelf Go.Proofs.YtpflaglfnkmjiaaGreat.Nm Go.Proofs.YtpflaglfnkmjiaaGreat.Dk
set_option maxRecDepth 100000
theorem headFs13 : ∃ n0 n1 n2 : String, Tryz.prog.underlying 38 = some (.struct (Tryz.prog.fieldsOf 38)) ∧ (Tryz.prog.fieldsOf 38).toList.map (fun f => (f.name, f.type, f.offset)) = [(n0, 2, 0), (n1, 2, 1), (n2, 36, 2)] ∧ n0 ≠ "_" ∧ n1 ≠ "_" ∧ n2 ≠ "_" :=
 ⟨"Num", "Base", "Seed", by kernel_rfl, by kernel_rfl, by decide, by decide, by decide⟩
theorem headHeld13 : Tryz.prog.stoodInHeld 38 = false := by kernel_rfl
theorem headEq13 (w : World) (f : Nat) (a b c : Int) : (Op.equalIn (f + 2) 38 (.agg #[.int .i64 a, .int .i64 b, .int .u32 c]) (.agg #[.int .i64 a, .int .i64 b, .int .u32 c])).run Tryz.prog w = .ok true w := by
 obtain ⟨n0, n1, n2, h1, h2, q0, q1, q2⟩ := headFs13
 rw [run_equalIn_struct w (f + 1) 38 _ _ h1 headHeld13]
 generalize (Tryz.prog.fieldsOf 38).toList = fs at h2
 have hl : fs.length = 3 := by have := congrArg List.length h2; simpa using this
 match fs, hl with
 | [f0, f1, f2], _ =>
  simp only [List.map_cons, List.map_nil, List.cons.injEq, Prod.mk.injEq, and_true] at h2
  obtain ⟨⟨b0, c0, d0⟩, ⟨b1, c1, d1⟩, ⟨b2, c2, d2⟩⟩ := h2
  have p0 : f0.name ≠ "_" := by rw [b0]; exact q0
  have p1 : f1.name ≠ "_" := by rw [b1]; exact q1
  have p2 : f2.name ≠ "_" := by rw [b2]; exact q2
  simp [Op.eqFields, p0, c0, d0, p1, c1, d1, p2, c2, d2, go_sem]
theorem lookFs : ∃ n0 n1 n2 n3 n4 n5 : String, Tryz.prog.underlying 77 = some (.struct (Tryz.prog.fieldsOf 77)) ∧ (Tryz.prog.fieldsOf 77).toList.map (fun f => (f.name, f.type, f.offset)) = [(n0, 9, 0), (n1, 38, 1), (n2, 2, 4), (n3, 3, 5), (n4, 36, 6), (n5, 4, 7)] ∧ n0 ≠ "_" ∧ n1 ≠ "_" ∧ n2 ≠ "_" ∧ n3 ≠ "_" ∧ n4 ≠ "_" ∧ n5 ≠ "_" :=
 ⟨"File", "Head", "Next", "Size", "Seed", "Broken", by kernel_rfl, by kernel_rfl, by decide, by decide, by decide, by decide, by decide, by decide⟩
theorem lookHeld : Tryz.prog.stoodInHeld 77 = false := by kernel_rfl
theorem looksEq (w : World) (s : ByteArray) (a b c d e f : Int) (g : Bool) : (Op.equalIn 10000 77 (.agg #[.string s, .int .i64 a, .int .i64 b, .int .u32 c, .int .i64 d, .int .i64 e, .int .u32 f, .bool g]) (.agg #[.string s, .int .i64 a, .int .i64 b, .int .u32 c, .int .i64 d, .int .i64 e, .int .u32 f, .bool g])).run Tryz.prog w = .ok true w := by
 obtain ⟨n0, n1, n2, n3, n4, n5, h1, h2, q0, q1, q2, q3, q4, q5⟩ := lookFs
 rw [run_equalIn_struct w 9999 77 _ _ h1 lookHeld]
 generalize (Tryz.prog.fieldsOf 77).toList = fs at h2
 have hl : fs.length = 6 := by have := congrArg List.length h2; simpa using this
 have hh := headEq13 w 9997 a b c
 match fs, hl with
 | [f0, f1, f2, f3, f4, f5], _ =>
  simp only [List.map_cons, List.map_nil, List.cons.injEq, Prod.mk.injEq, and_true] at h2
  obtain ⟨⟨b0, c0, d0⟩, ⟨b1, c1, d1⟩, ⟨b2, c2, d2⟩, ⟨b3, c3, d3⟩, ⟨b4, c4, d4⟩, ⟨b5, c5, d5⟩⟩ := h2
  have p0 : f0.name ≠ "_" := by rw [b0]; exact q0
  have p1 : f1.name ≠ "_" := by rw [b1]; exact q1
  have p2 : f2.name ≠ "_" := by rw [b2]; exact q2
  have p3 : f3.name ≠ "_" := by rw [b3]; exact q3
  have p4 : f4.name ≠ "_" := by rw [b4]; exact q4
  have p5 : f5.name ≠ "_" := by rw [b5]; exact q5
  simp [Op.eqFields, p0, c0, d0, p1, c1, d1, p2, c2, d2, p3, c3, d3, p4, c4, d4, p5, c5, d5, go_sem]
theorem looksSame (w : World) (s : ByteArray) (a b c d e f : Int) (g : Bool) : (binOp .neq 77 (.agg #[.string s, .int .i64 a, .int .i64 b, .int .u32 c, .int .i64 d, .int .i64 e, .int .u32 f, .bool g]) (.agg #[.string s, .int .i64 a, .int .i64 b, .int .u32 c, .int .i64 d, .int .i64 e, .int .u32 f, .bool g])).run Tryz.prog w = .ok (.bool false) w := by
 rw [run_neq_struct, looksEq]
 rfl
end Go.Proofs.YtpflaglfnkmjiaaGreat.Sg
namespace Go.Proofs.YtpflaglfnkmjiaaGreat
open Go.RowKit
theorem eqS_any (w : World) (v u : Value) (l m : List UInt8) (hv : Sl w v l) (hu : Sl w u m) :
    Calls Tryz.prog 73 #[v, u] w fun e w' => e = .returned (.bool (decide (l = m))) ∧ Qt w w' := by
 have a := hv.le
 have b := hu.le
 obtain ⟨ao, ca, rfl, _, _, _, h5⟩ := hv
 obtain ⟨bo, cb, rfl, _, _, _, k5⟩ := hu
 exact eq_any w ao bo l m ca cb a b h5 k5
theorem eq6_any (w : World) (a b : Int) (v u : Value) (l m : List UInt8) (hv : Sl w v l) (hu : Sl w u m) :
    Calls Tryz.prog 20 #[.agg #[.int .i64 a, v], .agg #[.int .i64 b, u]] w fun e w' => e = .returned (.bool (decide (a = b) && decide (l = m))) ∧ Below w.heap.size w w' := by
 have hbb := hide (keepF (box_below w (.cells #[.int .i64 a, v] 66)) (box_below (w.alloc (.cells #[.int .i64 a, v] 66)) (.cells #[.int .i64 b, u] 66)))
 have hv2 := hide (Below.sl hbb.out hv)
 have hu2 := hide (Below.sl hbb.out hu)
 clear hv hu
 by_cases h : a = b
 ·subst h
  rw [decide_eq_true rfl, Bool.true_and]
  obtain ⟨D, hD⟩ : ∃ D, Hid (decide (l = m) = D) := ⟨_, rfl⟩
  rw [hD.out]
  go_enter Tryz.func20, Tryz.ntmps20
  go_wp2_with fail
  refine (eqS_any _ _ _ l m hv2.out hu2.out).mono ?_
  rintro e w1 ⟨rfl, hq⟩
  rw [hD.out]
  have hb2 := hide (keepF hbb.out (hq.below _))
  clear hq
  go_wp2_with fail
  go_ret
  exact ⟨rfl, hb2.out⟩
 ·rw [decide_eq_false h, Bool.false_and]
  have hi : (a == b) = false := by simpa using h
  clear h
  go_enter Tryz.func20, Tryz.ntmps20
  go_wp2_with fail
  go_ret
  exact ⟨rfl, hbb.out⟩
end Go.Proofs.YtpflaglfnkmjiaaGreat
