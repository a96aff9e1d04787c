/-
  Copy.
-/
import Derived.Test.YtjehpijjneghpaaGreatM17
import Derived.Test.YtjehpijjneghpaaGreatM13
import Derived.Test.YtjehpijjneghpaaGreatM14
namespace Go.Proofs.YtjehpijjneghpaaGreat.Dk
open Go.RowKit Go.Maps Go.Sort Go.Shelf Go.Proofs.YtjehpijjneghpaaGreat.Nm
open Ix (wp_region_T wpAnyT wpAnyT_take wpAnyT_one wpAnyT_done vac)
set_option maxRecDepth 100000 in
set_option maxHeartbeats 1000000 in
theorem copyD_any {w : World} {b : Nat} {S : DS} {O : Nat → Prop} {f g : Nat} {pd : Value} {am : Option Nat} {VB VL : Nat → Value} (h : Dsk w b S O f g pd am VB VL) (hu : S.uq) (hc : S.c7 < 900000000) :
    Calls Tryz.prog 41 #[.pointer (some ⟨b, 0, none⟩)] w fun e w' => ∃ b' σ S' O', e = .returned (.pointer (some ⟨b', 0, none⟩)) ∧ Alike σ S S' ∧ DskE w' b' S' O' ∧ (∀ k, O' k → w.heap.size ≤ k) ∧ Below w.heap.size w w' := by
  have hM := made_any w _ _ h.dk.dp
  rw [show madeD (some (S.dc f g pd am)) = true from rfl] at hM
  have H := hide h
  have hu := hide hu
  have KC : Hid (∀ q : World, Below w.heap.size w q → q.cell? ⟨b, 0, none⟩ = some (.int .i64 S.most) ∧ q.cell? ⟨b, 1, none⟩ = some (.bool S.up) ∧ q.cell? ⟨b, 5, none⟩ = some (.map am) ∧ q.cell? ⟨b, 6, none⟩ = some (.int .i64 S.c0) ∧ q.cell? ⟨b, 7, none⟩ = some (.int .i64 S.c1) ∧ q.cell? ⟨b, 8, none⟩ = some (.int .i64 S.c2) ∧ q.cell? ⟨b, 9, none⟩ = some (.int .i64 S.c3) ∧ q.cell? ⟨b, 10, none⟩ = some (.int .i64 S.c4) ∧ q.cell? ⟨b, 11, none⟩ = some (.int .i64 S.c5) ∧ q.cell? ⟨b, 12, none⟩ = some (.int .i64 S.c6) ∧ q.cell? ⟨b, 13, none⟩ = some (.int .i64 S.c7) ∧ q.cell? ⟨b, 14, none⟩ = some (.int .i64 S.c8)) := fun q hq => by
    have e : q.heap[b]? = some (.cells (dcells (S.dc f g pd am)) TD (0, 0)) := (H.out.below hq).dk.box
    simp [World.cell?, e, dcells, DS.dc]
  have hAm : Hid (∀ q, Below w.heap.size w q → Calls Tryz.prog 93 #[.map am] q fun e w' => ∃ am', e = .returned (.map am') ∧ AmN q.heap.size w' am' S.al ∧ Below q.heap.size q w') := fun q hq => cloneA_any q am S.al (fun m e => ((H.out.below hq).dk.am m e).1) (fun e => H.out.dk.an e)
  clear h
  have hmm := @run_makeMap Tryz.prog
  go_enter Tryz.func41, Tryz.ntmps41
  go_upto_region 3 with (go_at_call 79; refine hM.mono ?_; rintro e w1 ⟨rfl, e1⟩; subst w1)
  clear hM
  have KP : Hid (Below w.heap.size w w.drew) := (Below.refl _ _).drew
  refine wp_region_T (fun q => Below w.heap.size w q) 20 (by kernel_rfl) ?_
  generalize w.drew = q at *
  refine Ix.tk 0 ⟨some 11, .move (.tmp 0), 24, "disk.go:105", #[], none⟩ (.pointer (some ⟨b, 0, none⟩)) [1,2,3,18,19,20] ?_ KP.out ?_
  · intro wq hSw
    obtain ⟨y0, y1, y5, z0, z1, z2, z3, z4, z5, z6, z7, z8⟩ := KC.out wq hSw
    go_simp
  (try simp only [zzp, zza, zzb, zzc])
  refine Ix.tk 1 ⟨some 12, .nilCheck (.tmp 11), 0, "disk.go:105", #[⟨0,.data⟩], none⟩ (.pointer (some ⟨b, 0, none⟩)) [2,3,18,19,20] ?_ KP.out ?_
  · intro wq hSw
    obtain ⟨y0, y1, y5, z0, z1, z2, z3, z4, z5, z6, z7, z8⟩ := KC.out wq hSw
    go_simp
  (try simp only [zzp, zza, zzb, zzc])
  refine Ix.tk 2 ⟨some 13, .fieldAddr 98 (.tmp 12) 0, 0, "disk.go:105", #[⟨1,.data⟩], none⟩ (.pointer (some ⟨b, 0, none⟩)) [3,18,19,20] ?_ KP.out ?_
  · intro wq hSw
    obtain ⟨y0, y1, y5, z0, z1, z2, z3, z4, z5, z6, z7, z8⟩ := KC.out wq hSw
    go_simp
  (try simp only [zzp, zza, zzb, zzc])
  refine Ix.tk 3 ⟨some 14, .load 3 (.tmp 13), 3, "disk.go:105", #[⟨2,.data⟩], none⟩ (.int .i64 S.most) [18,19,20] ?_ KP.out ?_
  · intro wq hSw
    obtain ⟨y0, y1, y5, z0, z1, z2, z3, z4, z5, z6, z7, z8⟩ := KC.out wq hSw
    go_simp
  (try simp only [zzp, zza, zzb, zzc])
  refine Ix.tk 4 ⟨some 15, .move (.tmp 0), 24, "disk.go:105", #[], none⟩ (.pointer (some ⟨b, 0, none⟩)) [5,6,7,18,19,20] ?_ KP.out ?_
  · intro wq hSw
    obtain ⟨y0, y1, y5, z0, z1, z2, z3, z4, z5, z6, z7, z8⟩ := KC.out wq hSw
    go_simp
  (try simp only [zzp, zza, zzb, zzc])
  refine Ix.tk 5 ⟨some 16, .nilCheck (.tmp 15), 0, "disk.go:105", #[⟨4,.data⟩], none⟩ (.pointer (some ⟨b, 0, none⟩)) [6,7,18,19,20] ?_ KP.out ?_
  · intro wq hSw
    obtain ⟨y0, y1, y5, z0, z1, z2, z3, z4, z5, z6, z7, z8⟩ := KC.out wq hSw
    go_simp
  (try simp only [zzp, zza, zzb, zzc])
  refine Ix.tk 6 ⟨some 17, .fieldAddr 98 (.tmp 16) 1, 0, "disk.go:105", #[⟨5,.data⟩], none⟩ (.pointer (some ⟨b, 1, none⟩)) [7,18,19,20] ?_ KP.out ?_
  · intro wq hSw
    obtain ⟨y0, y1, y5, z0, z1, z2, z3, z4, z5, z6, z7, z8⟩ := KC.out wq hSw
    go_simp
  (try simp only [zzp, zza, zzb, zzc])
  refine Ix.tk 7 ⟨some 18, .load 4 (.tmp 17), 4, "disk.go:105", #[⟨6,.data⟩], none⟩ (.bool S.up) [18,19,20] ?_ KP.out ?_
  · intro wq hSw
    obtain ⟨y0, y1, y5, z0, z1, z2, z3, z4, z5, z6, z7, z8⟩ := KC.out wq hSw
    go_simp
  (try simp only [zzp, zza, zzb, zzc])
  refine Ix.tk 9 ⟨some 20, .move (.tmp 0), 24, "disk.go:105", #[], none⟩ (.pointer (some ⟨b, 0, none⟩)) [10,11,12,13,18,19,20] ?_ KP.out ?_
  · intro wq hSw
    obtain ⟨y0, y1, y5, z0, z1, z2, z3, z4, z5, z6, z7, z8⟩ := KC.out wq hSw
    go_simp
  (try simp only [zzp, zza, zzb, zzc])
  refine Ix.tk 10 ⟨some 21, .nilCheck (.tmp 20), 0, "disk.go:105", #[⟨9,.data⟩], none⟩ (.pointer (some ⟨b, 0, none⟩)) [11,12,13,18,19,20] ?_ KP.out ?_
  · intro wq hSw
    obtain ⟨y0, y1, y5, z0, z1, z2, z3, z4, z5, z6, z7, z8⟩ := KC.out wq hSw
    go_simp
  (try simp only [zzp, zza, zzb, zzc])
  refine Ix.tk 11 ⟨some 22, .fieldAddr 98 (.tmp 21) 5, 0, "disk.go:105", #[⟨10,.data⟩], none⟩ (.pointer (some ⟨b, 5, none⟩)) [12,13,18,19,20] ?_ KP.out ?_
  · intro wq hSw
    obtain ⟨y0, y1, y5, z0, z1, z2, z3, z4, z5, z6, z7, z8⟩ := KC.out wq hSw
    go_simp
  (try simp only [zzp, zza, zzb, zzc])
  refine Ix.tk 12 ⟨some 23, .load 94 (.tmp 22), 94, "disk.go:105", #[⟨11,.data⟩], none⟩ (.map am) [13,18,19,20] ?_ KP.out ?_
  · intro wq hSw
    obtain ⟨y0, y1, y5, z0, z1, z2, z3, z4, z5, z6, z7, z8⟩ := KC.out wq hSw
    go_simp
  (try simp only [zzp, zza, zzb, zzc])
  refine Ix.tk 14 ⟨some 25, .move (.tmp 0), 24, "disk.go:105", #[], none⟩ (.pointer (some ⟨b, 0, none⟩)) [15,16,17,18,19,20] ?_ KP.out ?_
  · intro wq hSw
    obtain ⟨y0, y1, y5, z0, z1, z2, z3, z4, z5, z6, z7, z8⟩ := KC.out wq hSw
    go_simp
  (try simp only [zzp, zza, zzb, zzc])
  refine Ix.tk 15 ⟨some 26, .nilCheck (.tmp 25), 0, "disk.go:105", #[⟨14,.data⟩], none⟩ (.pointer (some ⟨b, 0, none⟩)) [16,17,18,19,20] ?_ KP.out ?_
  · intro wq hSw
    obtain ⟨y0, y1, y5, z0, z1, z2, z3, z4, z5, z6, z7, z8⟩ := KC.out wq hSw
    go_simp
  (try simp only [zzp, zza, zzb, zzc])
  refine Ix.tk 16 ⟨some 27, .fieldAddr 98 (.tmp 26) 6, 0, "disk.go:105", #[⟨15,.data⟩], none⟩ (.pointer (some ⟨b, 6, none⟩)) [17,18,19,20] ?_ KP.out ?_
  · intro wq hSw
    obtain ⟨y0, y1, y5, z0, z1, z2, z3, z4, z5, z6, z7, z8⟩ := KC.out wq hSw
    go_simp
  (try simp only [zzp, zza, zzb, zzc])
  refine Ix.tk 17 ⟨some 28, .load 96 (.tmp 27), 96, "disk.go:105", #[⟨16,.data⟩], none⟩ (.agg #[.int .i64 S.c0, .int .i64 S.c1, .int .i64 S.c2, .int .i64 S.c3, .int .i64 S.c4, .int .i64 S.c5, .int .i64 S.c6, .int .i64 S.c7, .int .i64 S.c8]) [18,19,20] ?_ KP.out ?_
  · intro wq hSw
    obtain ⟨y0, y1, y5, z0, z1, z2, z3, z4, z5, z6, z7, z8⟩ := KC.out wq hSw
    go_simp
  (try simp only [zzp, zza, zzb, zzc])
  refine wpAnyT_pair (i := 8) (j := 13) (oi := ⟨some 19, .makeMap 92 none, 92, "disk.go:105", #[], none⟩) (oj := ⟨some 24, .call { callee := .value (.func 93), args := #[.tmp 23], argTypes := #[94] }, 94, "disk.go:105", #[⟨12, .data⟩], none⟩) (fun vi vj w2 => ∃ mc am', vi = .map (some mc) ∧ vj = .map am' ∧ w.heap.size ≤ mc ∧ Mp w2 mc [] ∧ AmN w.heap.size w2 am' S.al ∧ (∀ m, am' = some m → m ≠ mc) ∧ Below w.heap.size w w2) (by decide) (by kernel_rfl) rfl rfl (by kernel_rfl) (by kernel_rfl) (fun _ _ => rfl) ?_ ?_ ?_ ?_
  · intro K hK
    go_simp
    have B1 : Hid (Below w.heap.size w (q.alloc (.map #[] 0))) := KP.out.alloc KP.out.size (.map #[] 0)
    refine hK.out (.map (some q.heap.size)) _ B1.out (fun K2 hK2 => ?_)
    clear hK K
    have M1 := hide (Mp.made q)
    go_simp
    go_at_call 93
    refine (hAm.out _ B1.out).mono ?_
    rintro e w2 ⟨am', rfl, A2, B2⟩
    (try go_simp)
    refine hK2.out (.map am') _ ⟨q.heap.size, am', rfl, rfl, KP.out.size, M1.out.heap (B2.block _ M1.out.lt), A2.low B1.out.size, fun m e => ?_, B1.out.trans (B2.mono B1.out.size)⟩
    have := (A2.lt e).1
    simp at this
    omega
  · intro K hK
    go_simp
    go_at_call 93
    refine (hAm.out _ KP.out).mono ?_
    rintro e w1 ⟨am', rfl, A1, B1⟩
    replace B1 : Below w.heap.size w w1 := KP.out.trans (B1.mono KP.out.size)
    (try go_simp)
    refine hK.out (.map am') _ B1 (fun K2 hK2 => ?_)
    clear hK K
    go_simp
    refine hK2.out (.map (some w1.heap.size)) _ ⟨w1.heap.size, am', rfl, rfl, B1.size, Mp.made w1, ?_, fun m e => ?_, B1.alloc B1.size (.map #[] 0)⟩
    · exact (A1.low KP.out.size).below (box_below w1 (.map #[] 0))
    · have := (A1.lt e).2
      omega
  · rintro vi vj w2 ⟨mc, am', _, _, _, _, _, _, hb⟩
    exact hb
  rintro vi vj w2 ⟨mc, am', rfl, rfl, hmc, M2, A2, hne, B2⟩
  replace M2 := hide M2
  replace A2 := hide A2
  replace hne := hide hne
  replace B2 := hide B2
  replace hmc := hide hmc
  (try simp only [zzp, zza, zzb, zzc])
  refine wpAnyT_one (i := 18) (o := ⟨some 29, .build 98 #[(0, .tmp 14), (1, .tmp 18), (3, .tmp 19), (5, .tmp 24), (6, .tmp 28)], 98, "disk.go:105", #[⟨3, .data⟩, ⟨7, .data⟩, ⟨8, .data⟩, ⟨13, .data⟩, ⟨17, .data⟩], none⟩) (by kernel_rfl) rfl (fun K hK => ?_)
  go_simp
  refine hK.out _ _ (fun _ => B2.out) ?_
  clear hK K
  (try simp only [zzp, zza, zzb, zzc])
  refine wpAnyT_one (i := 19) (o := ⟨some 30, .box 98 (.tmp 29), 24, "disk.go:105", #[⟨18, .data⟩], none⟩) (by kernel_rfl) rfl (fun K hK => ?_)
  go_simp
  have B3 : Hid (Below w.heap.size w (w2.alloc (.cells (ccells S mc (.slice none 0 0) am') 98))) := B2.out.trans ((box_below w2 _).mono B2.out.size)
  have N3 := hide (heap_alloc_new w2 (.cells (ccells S mc (.slice none 0 0) am') 98))
  have U3 := hide (box_below w2 (.cells (ccells S mc (.slice none 0 0) am') 98))
  unfold ccells at B3 N3 U3
  refine hK.out _ _ (fun _ => B3.out) ?_
  clear hK K
  (try simp only [zzp, zza, zzb, zzc])
  refine wpAnyT_one (i := 20) (o := ⟨some 3, .assign (.tmp 30), 24, "disk.go:105", #[⟨19, .data⟩, ⟨13, .chain⟩, ⟨0, .phase⟩, ⟨1, .phase⟩, ⟨2, .phase⟩, ⟨3, .phase⟩, ⟨4, .phase⟩, ⟨5, .phase⟩, ⟨6, .phase⟩, ⟨7, .phase⟩, ⟨8, .phase⟩, ⟨9, .phase⟩, ⟨10, .phase⟩, ⟨11, .phase⟩, ⟨12, .phase⟩, ⟨13, .phase⟩, ⟨14, .phase⟩, ⟨15, .phase⟩, ⟨16, .phase⟩, ⟨17, .phase⟩, ⟨18, .phase⟩, ⟨19, .phase⟩], none⟩) (by kernel_rfl) rfl (fun K hK => ?_)
  go_simp
  refine hK.out _ _ (vac (by kernel_rfl)) ?_
  clear hK K
  (try simp only [zzp, zza, zzb, zzc])
  refine wpAnyT_done (by kernel_rfl) ?_ _
  have M3 := hide (M2.out.heap (U3.out.block mc M2.out.lt))
  have A3 := hide (A2.out.below U3.out)
  obtain ⟨bc, hbc⟩ : ∃ bc, Hid (w2.heap.size = bc) := ⟨_, rfl⟩
  have hlt : Hid (mc < bc ∧ w.heap.size ≤ mc ∧ w.heap.size ≤ bc ∧ (∀ m, am' = some m → m < bc ∧ m ≠ mc)) := ⟨by rw [← hbc.out]; exact M2.out.lt, hmc.out, by rw [← hbc.out]; exact B2.out.size, fun m e => ⟨by rw [← hbc.out]; exact (A2.out.lt e).2, hne.out m e⟩⟩
  rw [hbc.out] at N3 ⊢
  generalize (w2.alloc (.cells #[.int .i64 S.most, .bool S.up, .map none, .map (some mc), .slice none 0 0, .map am', .int .i64 S.c0, .int .i64 S.c1, .int .i64 S.c2, .int .i64 S.c3, .int .i64 S.c4, .int .i64 S.c5, .int .i64 S.c6, .int .i64 S.c7, .int .i64 S.c8] 98)) = w3 at *
  clear M2 A2 U3 hne B2 hmc hbc KC hAm hmm KP
  have D3 := hide (H.out.below B3.out)
  have c3 : w3.cell? ⟨b, 3, none⟩ = some (.map (some g)) := D3.out.dk.box.cells.2.2.2.1
  have hown : w3.ownsMap Tryz.prog TS ptrR g S.l2.length (dirD S.l2) := D3.out.dk.mg
  have hrise := hide H.out.dk.mg.rise
  have hd := hide (dir_len H.out.ok (by omega))
  have hgl : Hid (g < w.heap.size) := H.out.dk.mg.lt
  have b3 : Hid (bc < w3.heap.size) := heap_lt N3.out
  go_wp2_with (first
    | (at_range; refine wpList_range_own _ rfl _ TM rfl TS TF keyS undM ptrR g S.l2.length (dirD S.l2) rfl hown ?_; intro w0 hrg0 hg0 hs0)
    | go_in)
  go_frame
  have hb0 : Hid (But (fun _ => False) w3 w0) := But.of_grownBy hg0 (fun k e => by cases e)
  have Q0 : Hid (CpI w w3.heap.size bc mc (ccells S mc (.slice none 0 0) am') am' S.al S.l2 S.F w0 (Maps.has (dirD S.l2)) [] id VB VL) := CpI.start (B3.out.grown hg0 (B3.out.size) (fun j hj => by cases hj)) (hb0.out.at N3.out (fun c => c)) (M3.out.but hb0.out (fun c => c)) (A3.out.but hb0.out (fun _ _ c => c)) (by omega)
  clear hg0 c3 hown M3 A3
  replace hs0 := hide hs0
  go_loopw [] (fun wr => ∃ (left : Lit → Bool) (cnt : Nat) (lp : Dr) (σ : Nat → Nat) (VB' VL' : Nat → Value), wr.ranges Tryz.prog TS ptrR g w3.heap.size S.l2.length (dirD S.l2) left cnt ∧ Hid (CpI w w3.heap.size bc mc (ccells S mc (.slice none 0 0) am') am' S.al S.l2 S.F wr left lp σ VB' VL')) (fun wr => wr.rangeLeft g w3.heap.size)
  case atStart => exact ⟨_, _, [], id, VB, VL, hrg0, Q0.out⟩
  case round =>
    obtain ⟨left, cnt, lp, σ, VB', VL', hrgs, hQ⟩ := hrel
    go_wp2_with (first
      | (at_next; refine wpList_next_ranges _ rfl _ rfl TS keyS ptrR Value.string (fun c : Option Nat => .pointer (c.map fun b => ⟨b, 0, none⟩)) (fun key kl hk => keyOf_str_inv hk) (fun v y hv => ptrR_shape hv) g w3.heap.size S.l2.length _ _ _ rfl hrgs ?_ ?_)
      | go_in)
    · intro hc0 hl0
      have J0 := hide (hQ.out.two hl0 hrise.out)
      clear hQ hrgs hl0 hc0
      have hpr := hide H.out.dk.pd.row
      obtain ⟨ao, ca, epd, p0, p1, p2, p3⟩ := hpr.out
      rw [List.length_map] at p1 epd
      have epd' : pd = .slice ao S.P.length ca := epd
      subst epd'
      clear epd hpr p0
      replace p3 := hide p3
      obtain ⟨N, hN⟩ : ∃ N, Hid (S.P.length = N) := ⟨_, rfl⟩
      have c4 : wr.cell? ⟨b, 4, none⟩ = some (.slice ao S.P.length ca) := (H.out.below J0.out.low).dk.box.cells.2.2.2.2.1
      rw [hN.out] at c4 p1
      have i4 : (ca : Int) ≤ 9223372036854775807 := by unfold maxLen at p2; omega
      have hN3 : Hid (N < 1000000000) := by have := hd.out.2.1; have := hN.out; show _ < _; omega
      clear p2
      obtain ⟨i0, hi, hz0, hz1, hz2⟩ : ∃ i, Tryz.prog.info? 148 = some i ∧ i.zero = some .nilIface ∧ i.size = 1 ∧ i.bytes = 16 := infoCh2
      replace hi := hide hi
      go_wp2_with fail
      go_loopw [53] (fun i wq => ∃ (k : Nat) (pv : Value) (σ' : Nat → Nat) (VB2 VL2 : Nat → Value), i = .int .i64 k ∧ k ≤ N ∧ Hid (CpJ w w3.heap.size bc mc S am' wq k pv σ' VB2 VL2)) (fun i _ => N - (intOf i).toNat)
      case atStart => exact ⟨0, _, _, _, _, rfl, Nat.zero_le _, J0.out⟩
      case round =>
        obtain ⟨k, pv, σ', VB2, VL2, rfl, hk, hJ⟩ := hrel
        by_cases hlt2 : k < N
        · have i1 : (k : Int) < (N : Int) := by omega
          have hkl : k < S.P.length := by rw [hN.out]; exact hlt2
          obtain ⟨gb, off, rfl, hcl⟩ := p3.out k (by rw [List.length_map]; exact hkl)
          have hcell : wr.cell? ⟨gb, off + k, none⟩ = some (.iface (S.P[k]).ty (S.P[k]).val) := by
            rw [hJ.out.low.cell (p := ⟨gb, off + k, none⟩) (lt_of_cell hcl), hcl, List.getElem_map]; rfl
          obtain ⟨d1, d2⟩ := dispC_any S.P[k]
          have hC : Hid (∀ q, Below w.heap.size w q → Calls Tryz.prog (S.P[k]).cf #[(S.P[k]).val] q fun e w' => ∃ c', e = .returned (.iface c'.ty c'.val) ∧ Ch.like q.heap.size w' S.F S.P[k] c' ∧ Below q.heap.size q w') := fun q hq => cp_any q S.P[k] S.F VB VL (fun p hp => (H.out.below hq).fs.at_ p (List.mem_append_right _ (List.mem_filterMap.2 ⟨_, List.getElem_mem hkl, hp⟩)))
          have hck : Hid (S.P[k]? = some S.P[k]) := List.getElem?_eq_getElem hkl
          clear hcl
          generalize S.P[k] = c at *
          clear hkl
          generalize c.cf = cf at *
          generalize c.ty = T at *
          generalize c.val = u at *
          go_upto_region 11 with fail
          have KC : Hid (∀ q : World, q.heap[bc]? = some (.cells (ccells S mc pv am') TD (0, 0)) → q.cell? ⟨bc, 4, none⟩ = some pv) := fun q hq => by simp [World.cell?, hq, ccells]
          refine wp_region_T (fun q => q.heap[bc]? = some (.cells (ccells S mc pv am') TD (0, 0))) 11 (by kernel_rfl) ?_
          have hq2 : Hid (Below wr.heap.size wr wr.drew) := (Below.refl _ _).drew
          generalize wr.drew = q at *
          have KP : Hid (q.heap[bc]? = some (.cells (ccells S mc pv am') TD (0, 0))) := (hq2.out.block bc (heap_lt hJ.out.box)).trans hJ.out.box
          have low2 : Hid (Below w.heap.size w q) := hJ.out.low.trans (hq2.out.mono hJ.out.low.size)
          refine Ix.tk 0 ⟨some 57, .move (.tmp 3), 24, "disk.go:110", #[], none⟩ (.pointer (some ⟨bc, 0, none⟩)) [9,10,11] ?_ KP.out ?_
          · intro wq hSw
            have y2 := KC.out wq hSw
            go_simp
          (try simp only [zzp, zza, zzb, zzc])
          refine Ix.tk 1 ⟨some 58, .move (.tmp 3), 24, "disk.go:110", #[], none⟩ (.pointer (some ⟨bc, 0, none⟩)) [2,3,4,8,11] ?_ KP.out ?_
          · intro wq hSw
            have y2 := KC.out wq hSw
            go_simp
          (try simp only [zzp, zza, zzb, zzc])
          refine Ix.tk 2 ⟨some 59, .nilCheck (.tmp 58), 0, "disk.go:110", #[⟨1,.data⟩], none⟩ (.pointer (some ⟨bc, 0, none⟩)) [3,4,8,11] ?_ KP.out ?_
          · intro wq hSw
            have y2 := KC.out wq hSw
            go_simp
          (try simp only [zzp, zza, zzb, zzc])
          refine Ix.tk 3 ⟨some 60, .fieldAddr 98 (.tmp 59) 4, 0, "disk.go:110", #[⟨2,.data⟩], none⟩ (.pointer (some ⟨bc, 4, none⟩)) [4,8,11] ?_ KP.out ?_
          · intro wq hSw
            have y2 := KC.out wq hSw
            go_simp
          (try simp only [zzp, zza, zzb, zzc])
          refine Ix.tk 4 ⟨some 61, .load 93 (.tmp 60), 93, "disk.go:110", #[⟨3,.data⟩], none⟩ (pv) [8,11] ?_ KP.out ?_
          · intro wq hSw
            have y2 := KC.out wq hSw
            go_simp
          (try simp only [zzp, zza, zzb, zzc])
          refine Ix.tk 5 ⟨some 62, .move (.tmp 7), 148, "disk.go:110", #[], none⟩ (.iface T u) [6,7,8,11] ?_ KP.out ?_
          · intro wq hSw
            have y2 := KC.out wq hSw
            go_simp
          (try simp only [zzp, zza, zzb, zzc])
          refine wpAnyT_one (i := 6) (o := ⟨some 63, .call { callee := .invoke (.tmp 62) "flume/disk.copy", args := #[], argTypes := #[] }, 148, "disk.go:110", #[⟨5, .data⟩], none⟩) (by kernel_rfl) rfl (fun K hK => ?_)
          go_simp
          refine (hC.out q low2.out).mono ?_
          rintro e w4 ⟨c', rfl, L4, B4⟩
          replace L4 := hide L4
          replace B4 := hide B4
          have K4 : Hid (w4.heap[bc]? = some (.cells (ccells S mc pv am') TD (0, 0))) := (B4.out.block bc (heap_lt KP.out)).trans KP.out
          have P4 : Hid (w4.ownsRow (w3.heap.size + 1) 148 1 pv k (((S.P.take k).map (Ch.mv σ')).map Ch.iface)) := row_but hJ.out.pd (But.of_below (hq2.out.trans (B4.out.mono hq2.out.size)) fun _ => False) (fun _ _ c => c)
          have sz4 : Hid (w3.heap.size < w4.heap.size) := Nat.lt_of_lt_of_le (Nat.lt_of_lt_of_le hJ.out.sz hq2.out.size) B4.out.size
          clear hC d1 d2
          (try go_simp)
          refine hK.out _ _ (fun _ => K4.out) ?_
          clear hK K
          (try simp only [zzp, zza, zzb, zzc])
          refine wpAnyT_one (i := 7) (o := ⟨some 64, .buildSlice 93 1 #[(0, .tmp 63)], 93, "disk.go:110", #[⟨6, .data⟩], none⟩) (by kernel_rfl) rfl (fun K hK => ?_)
          go_simp
          have K5 : Hid ((w4.alloc (.cells #[.iface c'.ty c'.val] 148)).heap[bc]? = some (.cells (ccells S mc pv am') TD (0, 0))) := ((box_below w4 _).block bc (heap_lt K4.out)).trans K4.out
          refine hK.out _ _ (fun _ => K5.out) ?_
          clear hK K
          (try simp only [zzp, zza, zzb, zzc])
          refine wpAnyT_one (i := 8) (o := ⟨some 65, .call { callee := .builtin .append, args := #[.tmp 61, .tmp 64], argTypes := #[93, 93] }, 93, "disk.go:110", #[⟨4, .data⟩, ⟨7, .data⟩, ⟨6, .chain⟩], none⟩) (by kernel_rfl) rfl (fun K hK => ?_)
          refine step_append_lies _ rfl (.tmp 61) (.tmp 64) 93 rfl (w3.heap.size + 1) 148 i0 .nilIface 1 16 Tryz.underlying93 hi.out hz0 hz1 hz2 rfl (by decide) pv k (((S.P.take k).map (Ch.mv σ')).map Ch.iface) (by simp [Act.eval]) (World.ownsRow.alloc P4.out _) ⟨w4.heap.size, 0, none⟩ 1 1 [.iface c'.ty c'.val] (by simp [Act.eval]) rfl (cell_one_new _ _ _) (by simp [Value.oneCell']) (by decide) (by have := hN3.out; unfold maxLen; omega) (by have := hN3.out; omega) (by have := sz4.out; simp; omega) (w4.heap.size + 1) (by simp) ?_
          intro g2 cap2 w5 ho5 hg5 hat hlt5
          replace ho5 := hide ho5
          replace hg5 := hide hg5
          have K6 : Hid (w5.heap[bc]? = some (.cells (ccells S mc pv am') TD (0, 0))) := (But.of_grownBy (X := fun j => pv.ownBlock = some j) hg5.out fun j e => e).at K5.out (fun e => by have := (World.ownsRow.lt P4.out _ e).1; have := b3.out; omega)
          refine hK.out _ _ (fun _ => K6.out) ?_
          clear hK K hat hlt5
          (try simp only [zzp, zza, zzb, zzc])
          refine Ix.tk 9 ⟨some 66, .nilCheck (.tmp 57), 0, "disk.go:110", #[⟨0,.data⟩,⟨0,.phase⟩,⟨1,.phase⟩,⟨2,.phase⟩,⟨3,.phase⟩,⟨4,.phase⟩,⟨5,.phase⟩,⟨6,.phase⟩,⟨7,.phase⟩,⟨8,.phase⟩], none⟩ (.pointer (some ⟨bc, 0, none⟩)) [10,11] ?_ K6.out ?_
          · intro wq hSw
            have y2 := KC.out wq hSw
            go_simp
          (try simp only [zzp, zza, zzb, zzc])
          refine Ix.tk 10 ⟨some 67, .fieldAddr 98 (.tmp 66) 4, 0, "disk.go:110", #[⟨9,.data⟩,⟨0,.phase⟩,⟨1,.phase⟩,⟨2,.phase⟩,⟨3,.phase⟩,⟨4,.phase⟩,⟨5,.phase⟩,⟨6,.phase⟩,⟨7,.phase⟩,⟨8,.phase⟩], none⟩ (.pointer (some ⟨bc, 4, none⟩)) [11] ?_ K6.out ?_
          · intro wq hSw
            have y2 := KC.out wq hSw
            go_simp
          (try simp only [zzp, zza, zzb, zzc])
          have e1 := KC.out _ K6.out
          have e2 : w5.frozen? ⟨bc, 4, none⟩ = false := by simp [World.frozen?, K6.out]
          refine wpAnyT_one (i := 11) (o := ⟨none, .store 93 (.tmp 67) (.tmp 65), 0, "disk.go:110", #[⟨10, .data⟩, ⟨8, .data⟩, ⟨8, .chain⟩, ⟨0, .phase⟩, ⟨1, .phase⟩, ⟨2, .phase⟩, ⟨3, .phase⟩, ⟨4, .phase⟩, ⟨5, .phase⟩, ⟨6, .phase⟩, ⟨7, .phase⟩, ⟨8, .phase⟩], none⟩) (by kernel_rfl) rfl (fun K hK => ?_)
          go_simp
          refine hK.out _ _ (vac (by kernel_rfl)) ?_
          clear hK K e1 e2 KC
          (try simp only [zzq])
          refine wpAnyT_done (by kernel_rfl) ?_ _
          obtain ⟨σ2, VB3, VL3, J6⟩ := hJ.out.next (w6 := w5.setCell ⟨bc, 4, none⟩ (.slice (some ⟨g2, 0, none⟩) (k + 1) cap2)) hu.out hck.out ⟨hlt.out.2.1, by have := hlt.out; have := b3.out; omega⟩ ⟨b3.out, hlt.out.2.2.1, by have := hlt.out; omega⟩ (fun m e => by have := hlt.out.2.2.2 m e; have := b3.out; omega) hq2.out L4.out B4.out hg5.out ho5.out rfl
          replace J6 := hide J6
          clear K6 K5 K4 KP low2 hq2 P4 L4 B4 ho5 hg5 hck
          go_wp2_with fail
          go_roundw
          case rel => exact ⟨k + 1, _, σ2, VB3, VL3, by go_num, by omega, J6.out⟩
          case measure => simp [intOf]; omega
        · obtain rfl : k = N := by omega
          have hJ' : CpJ w w3.heap.size bc mc S am' wr S.P.length pv σ' VB2 VL2 := by rw [hN.out]; exact hJ.out
          have hpd := hJ'.pd
          rw [List.take_length] at hpd
          have hrow := row_of_owns hpd (by simp)
          obtain ⟨po, pc, epv, _, r3, r4, _⟩ := hrow
          rw [List.length_map, List.length_map] at epv r3
          subst epv
          have hD := directory_any wr bc mc (ccells S mc (.slice po S.P.length pc) am') (mvD σ' S.l2) (S.P.map (Ch.mv σ')) (.slice po S.P.length pc) (S.P.length : Int) hJ'.box rfl rfl hJ'.mp (row_of_owns hpd (by simp)) (fun c hc => by obtain ⟨c0, h0, rfl⟩ := List.mem_map.1 hc; exact ok_mv σ' (H.out.dk.ok c0 h0)) (cans_mv σ' H.out.dk.can) (by have := hd.out; unfold mvD maxLen; rw [List.length_map, List.length_map]; omega) (by omega) (by have := hd.out; omega)
          have e5 : runs (mvD σ' S.l2) ((S.P.map (Ch.mv σ')).take (wthn (S.P.length : Int) (S.P.map (Ch.mv σ')).length)) = mvD σ' S.dir := by
            rw [List.length_map, show wthn (S.P.length : Int) S.P.length = S.P.length by unfold wthn; omega, List.take_of_length_le (by rw [List.length_map]; omega), runs_mv]; rfl
          rw [e5] at hD
          have y4 : wr.cell? ⟨bc, 4, none⟩ = some (.slice po S.P.length pc) := by simp [World.cell?, hJ'.box, ccells]
          have i5 : (pc : Int) ≤ 9223372036854775807 := by unfold maxLen at r4; omega
          have hend : Hid (∀ w7, Below wr.heap.size wr w7 → Mp w7 wr.heap.size (mvD σ' S.dir) → ∃ S' O', Alike σ' S S' ∧ DskE (w7.setCell ⟨bc, 2, none⟩ (.map (some wr.heap.size))) bc S' O' ∧ (∀ k, O' k → w.heap.size ≤ k) ∧ Below w.heap.size w (w7.setCell ⟨bc, 2, none⟩ (.map (some wr.heap.size)))) := fun w7 b7 m7 => hJ'.disk H.out B3.out.size ⟨hlt.out.2.1, by have := hlt.out; have := b3.out; omega⟩ ⟨b3.out, hlt.out.2.2.1, by have := hlt.out; omega⟩ (fun m e => by have := hlt.out.2.2.2 m e; have := b3.out; omega) b7 m7 rfl
          have hbx : Hid (∀ w7, Below wr.heap.size wr w7 → w7.heap[bc]? = some (.cells (ccells S mc (.slice po S.P.length pc) am') TD (0, 0))) := fun w7 b7 => (b7.block bc (heap_lt hJ'.box)).trans hJ'.box
          clear hJ' hpd hJ e5 r3 r4
          go_wp2_with (go_at_call 80; refine hD.mono ?_; rintro e w7 ⟨rfl, M7, B7⟩; replace M7 := hide M7; replace B7 := hide B7; have y2 : w7.cell? ⟨bc, 2, none⟩ = some (.map none) := (by simp [World.cell?, hbx.out w7 B7.out, ccells]); have y3 : w7.frozen? ⟨bc, 2, none⟩ = false := (by simp [World.frozen?, hbx.out w7 B7.out]))
          go_ret
          obtain ⟨S', O', q1, q2, q3, q4⟩ := hend.out w7 B7.out M7.out
          exact ⟨bc, σ', S', O', rfl, q1, q2, q3, q4⟩
    · intro x c kl ya yb w1 cnt1 hkey hlx hv hat hrg1 hlt1 hg1 hs1 hen
      obtain ⟨rfl, hxs⟩ := keyOf_str_lit hkey
      obtain ⟨p, rfl, hp⟩ := round_get (y := (ya, yb)) hat hv (hQ.out.lk _ hlx)
      simp only [Option.map_some] at hen
      have hb1 : Hid (But (fun k => k = w3.heap.size) wr w1) := But.of_grownBy hg1 (fun k e => by cases e; rfl)
      replace hp := hide hp
      replace hlx := hide hlx
      replace hrg1 := hide hrg1
      replace hrgs := hide hrgs
      replace hlt1 := hide hlt1
      replace hxs := hide hxs
      clear hv hat hkey hg1 hs1
      go_upto_region 7 with fail
      have KC : Hid (∀ q : World, q.heap[bc]? = some (.cells (ccells S mc (.slice none 0 0) am') TD (0, 0)) → q.cell? ⟨bc, 3, none⟩ = some (.map (some mc))) := fun q hq => by simp [World.cell?, hq, ccells]
      refine wp_region_T (fun q => q.heap[bc]? = some (.cells (ccells S mc (.slice none 0 0) am') TD (0, 0))) 7 (by kernel_rfl) ?_
      have hb2 : Hid (But (fun k => k = w3.heap.size) wr w1.drew) := hb1.out.trans (But.of_below (Below.refl _ _).drew _)
      have hrg2 : Hid (w1.drew.ranges Tryz.prog TS ptrR g w3.heap.size S.l2.length (dirD S.l2) (fun z => left z && !z.sameKey (.string x.data.toList)) cnt1) := ranges_but (X := fun _ => False) hrg1.out (But.of_below (Below.refl _ _).drew _) (fun c => c) (fun c => c)
      clear hb1 hrg1
      generalize w1.drew = q at *
      have KP : Hid (q.heap[bc]? = some (.cells (ccells S mc (.slice none 0 0) am') TD (0, 0))) := hb2.out.at hQ.out.box (by have := b3.out; omega)
      have low2 : Hid (Below w.heap.size w q) := Mp.turned hQ.out.low hb2.out B3.out.size
      refine Ix.tk 0 ⟨some 41, .move (.tmp 3), 24, "disk.go:107", #[], none⟩ (.pointer (some ⟨bc, 0, none⟩)) [1,2,3,7] ?_ KP.out ?_
      · intro wq hSw
        have y2 := KC.out wq hSw
        go_simp
      (try simp only [zzp, zza, zzb, zzc])
      refine Ix.tk 1 ⟨some 42, .nilCheck (.tmp 41), 0, "disk.go:107", #[⟨0,.data⟩], none⟩ (.pointer (some ⟨bc, 0, none⟩)) [2,3,7] ?_ KP.out ?_
      · intro wq hSw
        have y2 := KC.out wq hSw
        go_simp
      (try simp only [zzp, zza, zzb, zzc])
      refine Ix.tk 2 ⟨some 43, .fieldAddr 98 (.tmp 42) 3, 0, "disk.go:107", #[⟨1,.data⟩], none⟩ (.pointer (some ⟨bc, 3, none⟩)) [3,7] ?_ KP.out ?_
      · intro wq hSw
        have y2 := KC.out wq hSw
        go_simp
      (try simp only [zzp, zza, zzb, zzc])
      refine Ix.tk 3 ⟨some 44, .load 92 (.tmp 43), 92, "disk.go:107", #[⟨2,.data⟩], none⟩ (.map (some mc)) [7] ?_ KP.out ?_
      · intro wq hSw
        have y2 := KC.out wq hSw
        go_simp
      (try simp only [zzp, zza, zzb, zzc])
      refine Ix.tk 4 ⟨some 45, .move (.tmp 4), 9, "disk.go:107", #[], none⟩ (.string x) [7] ?_ KP.out ?_
      · intro wq hSw
        have y2 := KC.out wq hSw
        go_simp
      (try simp only [zzp, zza, zzb, zzc])
      refine Ix.tk 5 ⟨some 46, .move (.tmp 5), 114, "disk.go:107", #[], none⟩ (.pointer (some ⟨p, 0, none⟩)) [6,7] ?_ KP.out ?_
      · intro wq hSw
        have y2 := KC.out wq hSw
        go_simp
      (try simp only [zzp, zza, zzb, zzc])
      have hC := copyF_any q p (S.F p) (VB p) (VL p) ((H.out.below low2.out).fs.at_ p (l2_mem hp.out))
      refine wpAnyT_one (i := 6) (o := ⟨some 47, .call { callee := .value (.func 94), args := #[.tmp 46], argTypes := #[114] }, 114, "disk.go:107", #[⟨5, .data⟩], none⟩) (by kernel_rfl) rfl (fun K hK => ?_)
      go_simp
      go_at_call 94
      refine hC.mono ?_
      rintro e w4 ⟨p', vb', vl', rfl, F4, B4⟩
      replace F4 := hide F4
      replace B4 := hide B4
      have K4 : Hid (w4.heap[bc]? = some (.cells (ccells S mc (.slice none 0 0) am') TD (0, 0))) := (B4.out.block bc (heap_lt KP.out)).trans KP.out
      clear hC
      (try go_simp)
      refine hK.out _ _ (fun _ => K4.out) ?_
      clear hK K
      (try simp only [zzp, zza, zzb, zzc])
      have M1 : Mp q mc lp := hQ.out.mp.but hb2.out (by have := hlt.out; have := b3.out; omega)
      have M4 : Mp w4 mc lp := M1.heap (B4.out.block mc M1.lt)
      obtain ⟨w5, hU, M5, t5⟩ := M4.store (s := x) (p := p') hxs.out (by have := hQ.out.len; have := hd.out; unfold maxLen; omega)
      replace M5 := hide M5
      have hb5 := hide (turned_but t5)
      unfold TM at hU
      clear M1 M4 t5
      refine wpAnyT_one (i := 7) (o := ⟨none, .mapUpdate 92 (.tmp 44) (.tmp 45) (.tmp 47), 0, "disk.go:107", #[⟨3, .data⟩, ⟨4, .data⟩, ⟨6, .data⟩, ⟨6, .chain⟩, ⟨0, .phase⟩, ⟨1, .phase⟩, ⟨2, .phase⟩, ⟨3, .phase⟩, ⟨4, .phase⟩, ⟨5, .phase⟩, ⟨6, .phase⟩], none⟩) (by kernel_rfl) rfl (fun K hK => ?_)
      go_simp
      refine hK.out _ _ (vac (by kernel_rfl)) ?_
      clear hK K hU KC KP K4
      (try simp only [zzq])
      refine wpAnyT_done (by kernel_rfl) ?_ _
      have R5 : Hid (w5.ranges Tryz.prog TS ptrR g w3.heap.size S.l2.length (dirD S.l2) (fun z => left z && !z.sameKey (.string x.data.toList)) cnt1) := ranges_but (X := fun k => k = mc) hrg2.out ((But.of_below B4.out _).trans hb5.out) (by have := hlt.out; have := hgl.out; omega) (by have := hlt.out; have := b3.out; omega)
      have Q5 : Hid (CpI w w3.heap.size bc mc (ccells S mc (.slice none 0 0) am') am' S.al S.l2 S.F w5 (fun z => left z && !z.sameKey (.string x.data.toList)) (dput lp x.data.toList p') (upd σ p p') (upd VB' p vb') (upd VL' p vl')) := hQ.out.next (rise_keys hrise.out) hu.out.inj B3.out.size ⟨hlt.out.2.1, by have := hlt.out; have := b3.out; omega⟩ ⟨b3.out, by have := hlt.out; omega⟩ (fun m e => by have := hlt.out.2.2.2 m e; have := b3.out; omega) hlx.out hp.out hb2.out F4.out B4.out hb5.out M5.out
      clear hb2 hrg2 low2 F4 B4 M5 hb5
      go_wp2_with fail
      go_roundw
      case rel => exact ⟨_, cnt1, _, _, _, _, R5.out, Q5.out⟩
      case measure => rw [R5.out.left_eq, hrgs.out.left_eq]; exact hlt1.out
end Go.Proofs.YtjehpijjneghpaaGreat.Dk
namespace Go.Proofs.YtjehpijjneghpaaGreat.Dk
open Go.RowKit Go.Maps Go.Sort Go.Shelf Go.Proofs.YtjehpijjneghpaaGreat.Nm
set_option linter.unusedVariables false
def prodT : Tls → Nat
  | [] => 1
  | e :: r => (e.2 + 1) * prodT r
def DS.cnts (S : DS) (k : Nat) : List Nat := (List.range k).map fun (d : Nat) => prodT (S.tails (d : Int))
def DS.ways (S : DS) : Nat := (S.cnts (S.P.length + 1)).sum
theorem cnts_snoc (S : DS) (k : Nat) : S.cnts (k + 1) = S.cnts k ++ [prodT (S.tails (k : Int))] := by unfold DS.cnts; rw [List.range_succ, List.map_append]; rfl
theorem cnts_sum (S : DS) (k : Nat) : (S.cnts (k + 1)).sum = (S.cnts k).sum + prodT (S.tails (k : Int)) := by rw [cnts_snoc, List.sum_append]; simp
theorem cnts_mono (S : DS) {k m : Nat} (h : k ≤ m) : (S.cnts k).sum ≤ (S.cnts m).sum := by
  induction m with
  | zero => obtain rfl : k = 0 := Nat.le_zero.1 h
            exact Nat.le_refl _
  | succ m ih =>
    by_cases e : k = m + 1
    · rw [e]; exact Nat.le_refl _
    · rw [cnts_sum]; have := ih (by omega); omega
end Go.Proofs.YtjehpijjneghpaaGreat.Dk
