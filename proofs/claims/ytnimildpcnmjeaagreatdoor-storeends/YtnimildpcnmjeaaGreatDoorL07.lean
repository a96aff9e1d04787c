/-
  Records read from the disk anew: Read. (gen_SgP.py)
-/
import Derived.Test.YtnimildpcnmjeaaGreatDoorL06
import Derived.Deep.CutRange
import Derived.Test.YtnimildpcnmjeaaGreatDoorL02
import Derived.Deep.LoopGhost
import Derived.Laws.OwnMore
import Derived.Test.YtnimildpcnmjeaaGreatDoorL04
import Derived.Laws.Rows
import Derived.Deep.RegionHeld3
import Derived.BigRegion
set_option maxRecDepth 100000
set_option maxHeartbeats 40000000
set_option linter.unusedVariables false
namespace Go.Proofs.YtnimildpcnmjeaaGreatDoor.Sg
open Go.RowKit Go.Maps Go.Sort Go.Shelf Go.Proofs.YtnimildpcnmjeaaGreatDoor.Nm Go.Proofs.YtnimildpcnmjeaaGreatDoor.Dk
open Ix (wp_region_T wpAnyT wpAnyT_take wpAnyT_one wpAnyT_done vac)
def rlF (s : SG) (S : DS) : Nat → Int → Int → Crc.R → (Int × List UInt8) × Int
 | 0, n, off, seed => ((rfF s S n off seed).1, (rfF s S n off seed).2.2.2)
 | k + 1, n, off, seed => if (rfF s S n off seed).2.2.2 ≠ 0 then ((rfF s S n off seed).1, (rfF s S n off seed).2.2.2) else rlF s S k (n + 1) (off + (rfF s S n off seed).2.1) (rfF s S n off seed).2.2.1
def seedAt (s : SG) (n : Int) : Crc.R := BitVec.ofNat 32 ((sget s.sd n).getD 0).toNat
def rdS (s : SG) (S : DS) (lsn : Int) : (Int × List UInt8) × Int :=
 if lsn < s.base ∨ s.next ≤ lsn then ((0, []), 6)
 else rlF s S (lsn - (Ix.findF s.x.l lsn).1.1).toNat (Ix.findF s.x.l lsn).1.1 (Ix.findF s.x.l lsn).1.2 (seedAt s (Ix.findF s.x.l lsn).1.1)
theorem rd_size {seed : Crc.R} {l : List UInt8} (h : (rdF seed l).2.2.2.2 = 0) : 0 ≤ (rdF seed l).2.2.1 ∧ (rdF seed l).2.2.1 ≤ (l.length : Int) := by
 unfold rdF at h ⊢
 split
 ·rename_i h0
  simp only
  unfold rdE at h0
  split at h0
  ·omega
  ·split at h0
   ·omega
   ·split at h0
    ·omega
    ·split at h0
     ·omega
     ·omega
 ·rename_i h0
  rw [if_neg h0] at h
  exact absurd h h0
theorem fb_len {s : SG} {S : DS} {off : Int} (h : (fbF s S off).2 = 0) (hz : 0 ≤ s.size - off) : ((fbF s S off).1.length : Int) ≤ s.size - off := by
 unfold fbF at h ⊢
 split
 ·simp; omega
 ·split
  ·simp; omega
  ·rename_i h1 h2
   have := read_len S s.file off (szF (stv (S.read s.file off (min 16 (s.size - off))).1 4 (0, 0) : Int))
   have h3 : 0 ≤ szF (stv (S.read s.file off (min 16 (s.size - off))).1 4 (0, 0) : Int) := by unfold szF; split <;> omega
   omega
theorem fb_neg {s : SG} {S : DS} {off : Int} (h : (fbF s S off).2 = 0) : 0 ≤ s.size - off := by
 unfold fbF at h
 split at h
 ·rename_i h1; exact absurd h h1
 ·split at h
  ·simp at h
  ·rename_i h1 h2
   have h3 : 0 ≤ szF (stv (S.read s.file off (min 16 (s.size - off))).1 4 (0, 0) : Int) := by unfold szF; split <;> omega
   omega
theorem rf_size {s : SG} {S : DS} {n off : Int} {seed : Crc.R} (h : (rfF s S n off seed).2.2.2 = 0) : 0 ≤ (rfF s S n off seed).2.1 ∧ off + (rfF s S n off seed).2.1 ≤ s.size := by
 unfold rfF at h ⊢
 by_cases h1 : (fbF s S off).2 ≠ 0
 ·rw [if_pos h1] at h; exact absurd h h1
 ·rw [if_neg h1] at h ⊢
  by_cases h2 : (rdF seed (fbF s S off).1).2.2.2.2 ≠ 0 ∨ (rdF seed (fbF s S off).1).1 ≠ n
  ·rw [if_pos h2] at h; simp at h
  ·rw [if_neg h2]
   simp only
   have hf : (fbF s S off).2 = 0 := by omega
   have h3 := fb_len hf (fb_neg hf)
   have h4 := rd_size (seed := seed) (l := (fbF s S off).1) (by omega)
   omega
theorem find_rng {x : Ix.X} (h : Ix.Ok x) (n : Int) (hn : 0 ≤ n) : 0 ≤ (Ix.findF x.l n).1.1 ∧ (Ix.findF x.l n).1.1 ≤ n ∧ 0 ≤ (Ix.findF x.l n).1.2 ∧ (Ix.findF x.l n).1.2 ≤ 2147483647 := by
 unfold Ix.findF
 cases hg : (x.l.filter fun e => decide (e.1 ≤ n)).getLast? with
 | none => simp only; omega
 | some e =>
  have hm := List.mem_of_getLast? hg
  obtain ⟨h1, h2⟩ := List.mem_filter.1 hm
  have h3 := h.srt.rng e h1
  have h4 : e.1 ≤ n := of_decide_eq_true h2
  simp only
  omega
theorem seed_at {s : SG} (ok : SOk s) (n : Int) : (sget s.sd n).getD 0 = ((seedAt s n).toNat : Int) := by
 have hb : 0 ≤ (sget s.sd n).getD 0 ∧ (sget s.sd n).getD 0 < 4294967296 := by
  unfold sget
  cases hf : s.sd.find? fun p => p.1 == n with
  | none => simp
  | some p => exact ok.d p (List.mem_of_find?_eq_some hf)
 unfold seedAt
 rw [BitVec.toNat_ofNat, Nat.mod_eq_of_lt (by omega)]
 omega
def nAt (w : World) (p : Nat) : Int := match w.cell? ⟨p, 0, none⟩ with | some (.int _ n) => n | _ => 0
theorem readS_any {w : World} {sb : Nat} {s : SG} {S : DS} {O : Nat → Prop} {xb mb : Nat} {v : Value} (h : SW w sb s S O xb mb v) (ok : SOk s) (lsn : Int) (h0 : -9223372036854775808 ≤ lsn) (h1 : lsn ≤ 9223372036854775807) (hbs : 1 ≤ s.base) (hf : s.file.size ≤ maxLen) :
    Calls Tryz.prog 39 #[.pointer (some ⟨sb, 0, none⟩), .int .i64 lsn] w fun e w' => ∃ vd, e = .returned (.tuple #[.agg #[.int .i64 (rdS s S lsn).1.1, vd], .int .i64 (rdS s S lsn).2]) ∧ Ob w.heap.size w' vd (rdS s S lsn).1.2 ∧ Below w.heap.size w w' := by
 have B1 := box_below w (.cells #[.int .i64 0, .slice none 0 0] 56)
 have N1 := heap_alloc_new w (.cells #[.int .i64 0, .slice none 0 0] 56)
 obtain ⟨w1, hw1⟩ : ∃ w1, Hid (w.alloc (.cells #[.int .i64 0, .slice none 0 0] 56) = w1) := ⟨_, rfl⟩
 rw [hw1.out] at B1 N1
 have H1 := h.below B1
 obtain ⟨y0, y1, y2, y3, y4, y5, y6, y7, y8, y9, y10⟩ := H1.sg.cells
 have hM := hide (made_yes w1 sb s.b y0)
 have z0 : w1.frozen? ⟨w.heap.size, 0, none⟩ = false := by simp [World.frozen?, N1]
 have z1 : w1.frozen? ⟨w.heap.size, 1, none⟩ = false := by simp [World.frozen?, N1]
 have q0 : w1.cell? ⟨w.heap.size, 0, none⟩ = some (.int .i64 0) := by rw [cell_of N1]; rfl
 have q1 : w1.cell? ⟨w.heap.size, 1, none⟩ = some (.slice none 0 0) := by rw [cell_of N1]; rfl
 have ST : Hid (SW w1 sb s S O xb mb v ∧ Below w.heap.size w w1 ∧ w1.heap[w.heap.size]? = some (.cells #[.int .i64 0, .slice none 0 0] 56 (0, 0))) := hide ⟨H1, B1, N1⟩
 obtain ⟨RS, hRS⟩ : ∃ RS, Hid (rdS s S lsn = RS) := ⟨_, rfl⟩
 rw [hRS.out]
 have hFn := hide (Ix.find_any w1 xb s.x v lsn H1.sg.ix ok.x h0 h1)
 have hO0 : Hid (∀ k, O k → k < w.heap.size) := hide h.dk.lt
 have hS0 : Hid (∀ k, SOwn sb xb mb v k → k < w.heap.size) := hide h.sg.lt
 clear B1 N1 H1 h
 generalize hpa : w.heap.size = pA at *
 replace hpa := hide hpa
 by_cases hin : lsn < s.base ∨ s.next ≤ lsn
 ·have hE : Hid (RS = ((0, []), 6)) := hide (by rw [← hRS.out]; unfold rdS; rw [if_pos hin])
  have FH := put2_heap ST.out.2.2 (.int .i64 0) (.slice none 0 0)
  have c0 := (cell_of FH (j := 0)).trans (show (#[Value.int .i64 0, .slice none 0 0] : Array Value)[0]? = some (.int .i64 0) from rfl)
  have c1 := (cell_of FH (j := 1)).trans (show (#[Value.int .i64 0, .slice none 0 0] : Array Value)[1]? = some (.slice none 0 0) from rfl)
  have FB2 := hide (put2_below ST.out.2.1 (Nat.le_refl pA) (.int .i64 0) (.slice none 0 0))
  have hcase : (lsn < s.base) ∨ (¬ lsn < s.base ∧ s.next ≤ lsn) := by omega
  clear FH ST hFn hRS hin
  rcases hcase with hq | ⟨hq, hq2⟩
  all_goals
   go_enter Tryz.func39, Tryz.ntmps39
   go_upto_region 1 with fail
   rw [hw1.out, hpa.out]
   go_wp2_with (first | (go_at_call 51; refine hM.out.mono ?_; rintro e w2 ⟨rfl, e1⟩; rw [e1]; clear e1 w2) | fail)
   try simp only [Exit.inBlock, Exit.then]
   refine bodyPost_ret (v := .tuple #[.agg #[.int .i64 0, .slice none 0 0], .int .i64 6]) (by simp [results, Tryz.results39, go_sem, c0, c1]; try rfl) rfl ?_
   rw [hE.out]
   exact ⟨_, rfl, World.ownsRow_nil _ _ _ _, FB2.out⟩
 have hq : ¬ lsn < s.base := by omega
 have hq2 : ¬ s.next ≤ lsn := by omega
 have hrng := find_rng ok.x lsn (by omega)
 have hsd := seed_at ok (Ix.findF s.x.l lsn).1.1
 have hE : Hid (RS = rlF s S (lsn - (Ix.findF s.x.l lsn).1.1).toNat (Ix.findF s.x.l lsn).1.1 (Ix.findF s.x.l lsn).1.2 (seedAt s (Ix.findF s.x.l lsn).1.1)) := hide (by rw [← hRS.out]; unfold rdS; rw [if_neg hin])
 obtain ⟨FE, hFE⟩ : ∃ FE, Hid (Ix.findF s.x.l lsn = FE) := ⟨_, rfl⟩
 rw [hFE.out] at hrng hsd hE hFn
 obtain ⟨⟨f1, f2⟩, f3⟩ := FE
 unfold Ix.entv at hFn
 simp only at hrng hsd hE hFn
 clear hRS hin
 go_enter Tryz.func39, Tryz.ntmps39
 go_upto_region 1 with fail
 rw [hw1.out, hpa.out]
 go_upto_region 5 with (first | (go_at_call 51; refine hM.out.mono ?_; rintro e w2 ⟨rfl, e1⟩; rw [e1]; clear e1 w2) | fail)
 go_wp2_with fail
 go_at_call 59
 refine hFn.out.mono ?_
 rintro e w2 ⟨rfl, b2⟩
 obtain ⟨t1, t2, t3⟩ := ST.out
 have hs1 : pA < w1.heap.size := heap_lt t3
 have B3 := box_below w2 (.cells #[.int .i64 f1, .int .i64 f2] 117)
 have N3 := heap_alloc_new w2 (.cells #[.int .i64 f1, .int .i64 f2] 117)
 obtain ⟨w3, hw3⟩ : ∃ w3, Hid (w2.alloc (.cells #[.int .i64 f1, .int .i64 f2] 117) = w3) := ⟨_, rfl⟩
 obtain ⟨pE, hpE⟩ : ∃ pE, Hid (w2.heap.size = pE) := ⟨_, rfl⟩
 rw [hw3.out] at B3 N3
 rw [hpE.out] at N3
 have b13 : Below w1.heap.size w1 w3 := keepF b2 B3
 have T3 : Hid (SW w3 sb s S O xb mb v ∧ Below pA w w3 ∧ w3.heap[pA]? = some (.cells #[.int .i64 0, .slice none 0 0] 56 (0, 0)) ∧ w3.heap[pE]? = some (.cells #[.int .i64 f1, .int .i64 f2] 117 (0, 0)) ∧ pA < pE ∧ (∀ k, O k → k < pA) ∧ (∀ k, SOwn sb xb mb v k → k < pA)) := hide ⟨t1.below b13, t2.trans (b13.mono (by omega)), (But.of_below b13 fun _ => False).at t3 (fun c => c), N3, by have := b2.size; have := hpE.out; omega, hO0.out, hS0.out⟩
 clear t1 t2 t3 b2 B3 N3 b13 hs1 ST hFn hM y0 y1 y2 y3 y4 y5 y6 y7 y8 y9 y10 z0 z1 q0 q1
 go_upto_region 6 with fail
 rw [hw3.out, hpE.out]
 clear hw1 hw3
 go_cut [8] from 44 to 50 (fun y8 wx => y8 = .int .u32 ((seedAt s f1).toNat : Int) ∧ Hid (Below w3.heap.size w3 wx))
 case first =>
  refine wp_region_T (fun q => Below w3.heap.size w3 q) 7 (by kernel_rfl) ?_
  have KP : Hid (Below w3.heap.size w3 w3.drew) := hide (Below.refl _ _).drew
  generalize w3.drew = q at *
  refine Ix.tk 0 ⟨some 44, .move (.tmp 0), _, _, _, _⟩ (.pointer (some ⟨sb, 0, none⟩)) [7] ?_ KP.out ?_
  ·intro wq hSw
   obtain ⟨y0, y1, y2, y3, y4, y5, y6, y7, y8, y9, y10⟩ := (T3.out.1.below hSw).sg.cells
   have e0 : wq.cell? ⟨pE, 0, none⟩ = some (.int .i64 f1) := by rw [cell_of ((But.of_below hSw fun _ => False).at T3.out.2.2.2.1 (fun c => c))]; rfl
   go_simp
  (try simp only [zzp, zzb, zzc])
  refine Ix.tk 1 ⟨some 45, .nilCheck (.tmp 44), _, _, _, _⟩ (.pointer (some ⟨sb, 0, none⟩)) [7] ?_ KP.out ?_
  ·intro wq hSw
   obtain ⟨y0, y1, y2, y3, y4, y5, y6, y7, y8, y9, y10⟩ := (T3.out.1.below hSw).sg.cells
   have e0 : wq.cell? ⟨pE, 0, none⟩ = some (.int .i64 f1) := by rw [cell_of ((But.of_below hSw fun _ => False).at T3.out.2.2.2.1 (fun c => c))]; rfl
   go_simp
  (try simp only [zzp, zzb, zzc])
  refine Ix.tk 2 ⟨some 46, .fieldAddr 109 (.tmp 45) 8, _, _, _, _⟩ (.pointer (some ⟨sb, 10, none⟩)) [7] ?_ KP.out ?_
  ·intro wq hSw
   obtain ⟨y0, y1, y2, y3, y4, y5, y6, y7, y8, y9, y10⟩ := (T3.out.1.below hSw).sg.cells
   have e0 : wq.cell? ⟨pE, 0, none⟩ = some (.int .i64 f1) := by rw [cell_of ((But.of_below hSw fun _ => False).at T3.out.2.2.2.1 (fun c => c))]; rfl
   go_simp
  (try simp only [zzp, zzb, zzc])
  refine Ix.tk 3 ⟨some 47, .load 107 (.tmp 46), _, _, _, _⟩ (.map (some mb)) [7] ?_ KP.out ?_
  ·intro wq hSw
   obtain ⟨y0, y1, y2, y3, y4, y5, y6, y7, y8, y9, y10⟩ := (T3.out.1.below hSw).sg.cells
   have e0 : wq.cell? ⟨pE, 0, none⟩ = some (.int .i64 f1) := by rw [cell_of ((But.of_below hSw fun _ => False).at T3.out.2.2.2.1 (fun c => c))]; rfl
   go_simp
  (try simp only [zzp, zzb, zzc])
  refine Ix.tk 4 ⟨some 48, .fieldAddr 117 (.tmp 6) 0, _, _, _, _⟩ (.pointer (some ⟨pE, 0, none⟩)) [7] ?_ KP.out ?_
  ·intro wq hSw
   obtain ⟨y0, y1, y2, y3, y4, y5, y6, y7, y8, y9, y10⟩ := (T3.out.1.below hSw).sg.cells
   have e0 : wq.cell? ⟨pE, 0, none⟩ = some (.int .i64 f1) := by rw [cell_of ((But.of_below hSw fun _ => False).at T3.out.2.2.2.1 (fun c => c))]; rfl
   go_simp
  (try simp only [zzp, zzb, zzc])
  refine Ix.tk 5 ⟨some 49, .load 2 (.tmp 48), _, _, _, _⟩ (.int .i64 f1) [7] ?_ KP.out ?_
  ·intro wq hSw
   obtain ⟨y0, y1, y2, y3, y4, y5, y6, y7, y8, y9, y10⟩ := (T3.out.1.below hSw).sg.cells
   have e0 : wq.cell? ⟨pE, 0, none⟩ = some (.int .i64 f1) := by rw [cell_of ((But.of_below hSw fun _ => False).at T3.out.2.2.2.1 (fun c => c))]; rfl
   go_simp
  (try simp only [zzp, zzb, zzc])
  have hlk : ∀ wq, Below w3.heap.size w3 wq → (Instr.lookup 107 (.map (some mb)) (.int .i64 f1) false).run Tryz.prog wq = .ok (.int .u32 ((seedAt s f1).toNat : Int)) wq := fun wq hq => by
   have := (T3.out.1.below hq).sg.sm.look (n := f1) (by omega) (by omega)
   rw [hsd] at this
   exact this
  refine Ix.tk 6 ⟨some 50, .lookup 107 (.tmp 47) (.tmp 49) false, _, _, _, _⟩ (.int .u32 ((seedAt s f1).toNat : Int)) [7] ?_ KP.out ?_
  ·intro wq hSw
   have hl9 := hlk wq hSw
   go_simp
  (try simp only [zzp, zzb, zzc])
  refine wpAnyT_one (i := 7) (o := ⟨some 8, .assign (.tmp 50), _, _, _, _⟩) (by kernel_rfl) rfl (fun K hK => ?_)
  go_simp
  refine hK.out _ _ (vac (by kernel_rfl)) ?_
  clear hK K
  (try simp only [zzp, zzb, zzc])
  refine wpAnyT_done (by kernel_rfl) ?_ _
  go_wp2_with fail
  go_meet
  case rel => exact ⟨rfl, KP.out⟩
 case rest =>
  obtain ⟨rfl, hcu⟩ := hcut
  have b4 := hcu.out
  clear hcu
  generalize hwc : wc = w4 at *
  clear hwc
  obtain ⟨t1, t2, t3, t4, t5, t6, t7⟩ := T3.out
  have T4 : Hid (SW w4 sb s S O xb mb v ∧ Below pA w w4 ∧ w4.heap[pA]? = some (.cells #[.int .i64 0, .slice none 0 0] 56 (0, 0)) ∧ w4.heap[pE]? = some (.cells #[.int .i64 f1, .int .i64 f2] 117 (0, 0)) ∧ pA < pE ∧ (∀ k, O k → k < pA) ∧ (∀ k, SOwn sb xb mb v k → k < pA)) := hide ⟨t1.below b4, t2.trans (b4.mono (by have := heap_lt t3; omega)), (But.of_below b4 fun _ => False).at t3 (fun c => c), (But.of_below b4 fun _ => False).at t4 (fun c => c), t5, t6, t7⟩
  have z2 := ok.z2
  have OK := hide ok
  clear t1 t2 t3 t4 t5 t6 t7 b4 T3 ok hsd
  generalize seedAt s f1 = sd0 at *
  go_wp2_with fail
  go_loopw [8] (fun v8 wr => ∃ n off : Int, ∃ sd : Crc.R, v8 = .int .u32 (sd.toNat : Int) ∧ 0 ≤ n ∧ n ≤ lsn ∧ 0 ≤ off ∧ off ≤ 2147483647 ∧ Hid (RS = rlF s S (lsn - n).toNat n off sd) ∧ Hid (SW wr sb s S O xb mb v ∧ Below pA w wr ∧ wr.heap[pA]? = some (.cells #[.int .i64 0, .slice none 0 0] 56 (0, 0)) ∧ wr.heap[pE]? = some (.cells #[.int .i64 n, .int .i64 off] 117 (0, 0)))) (fun _ wr => (lsn - nAt wr pE).toNat)
  case atStart => exact ⟨f1, f2, sd0, rfl, hrng.1, hrng.2.1, hrng.2.2.1, hrng.2.2.2, hE.out, T4.out.1, T4.out.2.1, T4.out.2.2.1, T4.out.2.2.2.1⟩
  case round =>
   obtain ⟨n, off, sd, rfl, n0, n1, f0, f9, hRR, QQ⟩ := hrel
   obtain ⟨q1, q2, q3, q4⟩ := QQ.out
   have hrf := hide (readFrame_any q1 OK.out n off sd f0 (by omega) hf)
   have hsz := hide (rf_size (s := s) (S := S) (n := n) (off := off) (seed := sd))
   have e0 : wr.cell? ⟨pE, 0, none⟩ = some (.int .i64 n) := by rw [cell_of q4]; rfl
   have e1 : wr.cell? ⟨pE, 1, none⟩ = some (.int .i64 off) := by rw [cell_of q4]; rfl
   have hn9 : Hid (nAt wr pE = n) := hide (by unfold nAt; rw [e0])
   have hst : Hid (RS = if (rfF s S n off sd).2.2.2 ≠ 0 ∨ n = lsn then ((rfF s S n off sd).1, (rfF s S n off sd).2.2.2) else rlF s S (lsn - (n + 1)).toNat (n + 1) (off + (rfF s S n off sd).2.1) (rfF s S n off sd).2.2.1) := hide (by
    rw [hRR.out]
    by_cases hnl : n = lsn
    ·rw [if_pos (.inr hnl), show (lsn - n).toNat = 0 by omega]; rfl
    ·obtain ⟨k, hk⟩ : ∃ k, (lsn - n).toNat = k + 1 := ⟨(lsn - n).toNat - 1, by omega⟩
     rw [hk, show (lsn - (n + 1)).toNat = k by omega]
     show (if _ then _ else _) = _
     by_cases hee : (rfF s S n off sd).2.2.2 ≠ 0
     ·rw [if_pos hee, if_pos (.inl hee)]
     ·rw [if_neg hee, if_neg (by rintro (c | c); exact hee c; exact hnl c)])
   obtain ⟨RF, hRF⟩ : ∃ RF, Hid (rfF s S n off sd = RF) := ⟨_, rfl⟩
   rw [hRF.out] at hrf hsz hst
   obtain ⟨⟨rl, rd⟩, rz, rs, re⟩ := RF
   simp only at hrf hsz hst
   have KQ : Hid (Below pA w wr ∧ wr.heap[pA]? = some (.cells #[.int .i64 0, .slice none 0 0] 56 (0, 0)) ∧ wr.heap[pE]? = some (.cells #[.int .i64 n, .int .i64 off] 117 (0, 0)) ∧ SW wr sb s S O xb mb v) := hide ⟨q2, q3, q4, q1⟩
   clear q1 q2 q3 q4 QQ hRR
   go_wp2_with fail
   go_at_call 60
   refine hrf.out.mono ?_
   rintro e w5 ⟨vd, rfl, o5, b5⟩
   obtain ⟨da, dn, dc, hvd⟩ := ob_form o5
   subst hvd
   obtain ⟨q2, q3, q4, q1⟩ := KQ.out
   have B6 := box_below w5 (.cells #[.int .i64 rl, .slice da dn dc] 56)
   have N6 := heap_alloc_new w5 (.cells #[.int .i64 rl, .slice da dn dc] 56)
   obtain ⟨w6, hw6⟩ : ∃ w6, Hid (w5.alloc (.cells #[.int .i64 rl, .slice da dn dc] 56) = w6) := ⟨_, rfl⟩
   obtain ⟨pC, hpC⟩ : ∃ pC, Hid (w5.heap.size = pC) := ⟨_, rfl⟩
   rw [hw6.out] at B6 N6
   rw [hpC.out] at N6
   have b56 : Below wr.heap.size wr w6 := keepF b5 B6
   have M3 := (But.of_below b56 fun _ => False).at q3 (fun c => c)
   have M4 := (But.of_below b56 fun _ => False).at q4 (fun c => c)
   have hAw : pA < wr.heap.size := heap_lt q3
   have Bw6 : Below pA w w6 := q2.trans (b56.mono (by omega))
   have o6 : Ob pA w6 (.slice da dn dc) rd := owns_lower (ob_but o5 (But.of_below B6 fun _ => False) (fun _ _ c => c)) (by omega)
   have T6 := q1.below b56
   have v0 : w6.cell? ⟨pC, 0, none⟩ = some (.int .i64 rl) := by rw [cell_of N6]; rfl
   have v1 : w6.cell? ⟨pC, 1, none⟩ = some (.slice da dn dc) := by rw [cell_of N6]; rfl
   have k0 : w6.cell? ⟨pE, 0, none⟩ = some (.int .i64 n) := by rw [cell_of M4]; rfl
   have k1 : w6.cell? ⟨pE, 1, none⟩ = some (.int .i64 off) := by rw [cell_of M4]; rfl
   have z0 : w6.frozen? ⟨pA, 0, none⟩ = false := by simp [World.frozen?, M3]
   have z1 : w6.frozen? ⟨pA, 1, none⟩ = false := by simp [World.frozen?, M3]
   have z3 : w6.frozen? ⟨pE, 0, none⟩ = false := by simp [World.frozen?, M4]
   have z4 : w6.frozen? ⟨pE, 1, none⟩ = false := by simp [World.frozen?, M4]
   have a0 : w6.cell? ⟨pA, 0, none⟩ = some (.int .i64 0) := by rw [cell_of M3]; rfl
   have a1 : w6.cell? ⟨pA, 1, none⟩ = some (.slice none 0 0) := by rw [cell_of M3]; rfl
   have ST6 : Hid (SW w6 sb s S O xb mb v ∧ Below pA w w6 ∧ w6.heap[pA]? = some (.cells #[.int .i64 0, .slice none 0 0] 56 (0, 0)) ∧ w6.heap[pE]? = some (.cells #[.int .i64 n, .int .i64 off] 117 (0, 0)) ∧ Ob pA w6 (.slice da dn dc) rd) := hide ⟨T6, Bw6, M3, M4, o6⟩
   clear q1 q2 q3 q4 B6 N6 b56 M3 M4 hAw Bw6 o6 o5 b5 T6 KQ hrf e0 e1
   go_upto_region 8 with fail
   rw [hw6.out, hpC.out]
   by_cases hend : re ≠ 0 ∨ n = lsn
   ·have hE9 : Hid (RS = ((rl, rd), re)) := hide (by rw [hst.out, if_pos hend])
    have FH := put2_heap ST6.out.2.2.1 (.int .i64 rl) (.slice da dn dc)
    have c0 := (cell_of FH (j := 0)).trans (show (#[Value.int .i64 rl, .slice da dn dc] : Array Value)[0]? = some (.int .i64 rl) from rfl)
    have c1 := (cell_of FH (j := 1)).trans (show (#[Value.int .i64 rl, .slice da dn dc] : Array Value)[1]? = some (.slice da dn dc) from rfl)
    have FB2 := hide (put2_below ST6.out.2.1 (Nat.le_refl pA) (.int .i64 rl) (.slice da dn dc))
    have hno : (Value.slice da dn dc).ownBlock ≠ some pA := fun c => by
     rcases ST6.out.2.2.2.2.2 with ⟨e, _⟩ | ⟨g, cap, cur, e, hg, hh, r⟩
     ·rw [e] at c; simp [Value.ownBlock] at c
     ·rw [e] at c
      simp [Value.ownBlock] at c
      subst c
      have h9 := ST6.out.2.2.1
      rw [hh] at h9
      simp at h9
    have FO : Hid (Ob pA ((w6.setCell ⟨pA, 0, none⟩ (.int .i64 rl)).setCell ⟨pA, 1, none⟩ (.slice da dn dc)) (.slice da dn dc) rd) := hide (ob_but ST6.out.2.2.2.2 (X := fun k => k = pA) ((but_sb _ pA 0 _ (fun k => k = pA) rfl).trans (but_sb _ pA 1 _ (fun k => k = pA) rfl)) (fun k hk c => hno (by rw [← c]; exact hk)))
    have hway : ((re != 0) = true) ∨ (re = 0 ∧ (n == lsn) = true) := by
     by_cases hre : re = 0
     ·rcases hend with c | c
      ·exact absurd hre c
      ·exact .inr ⟨hre, by simp [c]⟩
     ·exact .inl (by simp [hre])
    clear hst hsz FH ST6 hend
    rcases hway with hw | ⟨hr, hw⟩
    ·go_wp2_with fail
     try simp only [Exit.inBlock, Exit.then]
     refine bodyPost_ret (v := .tuple #[.agg #[.int .i64 rl, .slice da dn dc], .int .i64 re]) (by simp [results, Tryz.results39, go_sem, c0, c1]; try rfl) rfl ?_
     rw [hE9.out]
     exact ⟨_, rfl, FO.out, FB2.out⟩
    ·subst hr
     go_wp2_with fail
     try simp only [Exit.inBlock, Exit.then]
     refine bodyPost_ret (v := .tuple #[.agg #[.int .i64 rl, .slice da dn dc], .int .i64 0]) (by simp [results, Tryz.results39, go_sem, c0, c1]; try rfl) rfl ?_
     rw [hE9.out]
     exact ⟨_, rfl, FO.out, FB2.out⟩
   ·have hre : re = 0 := by omega
    have hnl : n ≠ lsn := fun c => hend (.inr c)
    subst hre
    have hk : (n == lsn) = false := by simp [hnl]
    have hE9 : Hid (RS = rlF s S (lsn - (n + 1)).toNat (n + 1) (off + rz) rs) := hide (by rw [hst.out, if_neg hend])
    obtain ⟨y1, y2⟩ := hsz.out rfl
    have kw1 : IntKind.i64.wrap (n + 1) = n + 1 := by simp [IntKind.wrap, IntKind.bits, IntKind.signed]; omega
    have kw2 : IntKind.i64.wrap (off + rz) = off + rz := by simp [IntKind.wrap, IntKind.bits, IntKind.signed]; omega
    have hpe : Hid (pA < pE ∧ (∀ k, O k → k < pA) ∧ (∀ k, SOwn sb xb mb v k → k < pA)) := hide T4.out.2.2.2.2
    have BE : But (fun k => k = pE) w6 ((w6.setCell ⟨pE, 0, none⟩ (.int .i64 (n + 1))).setCell ⟨pE, 1, none⟩ (.int .i64 (off + rz))) := (but_sb _ pE 0 _ (fun k => k = pE) rfl).trans (but_sb _ pE 1 _ (fun k => k = pE) rfl)
    have FIN : Hid (SW ((w6.setCell ⟨pE, 0, none⟩ (.int .i64 (n + 1))).setCell ⟨pE, 1, none⟩ (.int .i64 (off + rz))) sb s S O xb mb v ∧ Below pA w ((w6.setCell ⟨pE, 0, none⟩ (.int .i64 (n + 1))).setCell ⟨pE, 1, none⟩ (.int .i64 (off + rz))) ∧ ((w6.setCell ⟨pE, 0, none⟩ (.int .i64 (n + 1))).setCell ⟨pE, 1, none⟩ (.int .i64 (off + rz))).heap[pA]? = some (.cells #[.int .i64 0, .slice none 0 0] 56 (0, 0)) ∧ ((w6.setCell ⟨pE, 0, none⟩ (.int .i64 (n + 1))).setCell ⟨pE, 1, none⟩ (.int .i64 (off + rz))).heap[pE]? = some (.cells #[.int .i64 (n + 1), .int .i64 (off + rz)] 117 (0, 0))) := hide (by
     obtain ⟨u1, u2, u3, u4, u5⟩ := ST6.out
     obtain ⟨p1, p2, p3⟩ := hpe.out
     refine ⟨⟨u1.sg.but BE (fun k hk c => ?_), u1.dk.but BE (fun k hk c => ?_), u1.ap⟩, put2_below u2 (Nat.le_of_lt p1) _ _, BE.at u3 (fun c => ?_), put2_heap u4 _ _⟩
     ·have := p3 k hk; omega
     ·have := p2 k hk; omega
     ·omega)
    have hn8 : Hid (nAt ((w6.setCell ⟨pE, 0, none⟩ (.int .i64 (n + 1))).setCell ⟨pE, 1, none⟩ (.int .i64 (off + rz))) pE = n + 1) := hide (by
     unfold nAt
     rw [cell_of FIN.out.2.2.2]
     rfl)
    replace hend := hide hend
    replace hnl := hide hnl
    clear hst hsz ST6 BE
    go_wp2_with fail
    go_roundw
    case rel => exact ⟨n + 1, off + rz, rs, rfl, by omega, by have := hnl.out; omega, by omega, by omega, hE9.out, FIN.out⟩
    case measure => (show (lsn - nAt _ pE).toNat < (lsn - nAt wr pE).toNat); rw [hn8.out, hn9.out]; have := hnl.out; omega
end Go.Proofs.YtnimildpcnmjeaaGreatDoor.Sg
namespace Go.Proofs.YtnimildpcnmjeaaGreatDoor
open Go.RowKit
theorem cut2 (a b r : List UInt8) (n m : Nat) (ha : a.length = n) (hb : b.length = m) : ((a ++ (b ++ r)).drop n).take m = b := by
 rw [List.drop_left' ha, List.take_left' hb]
theorem rd_back (seed : Crc.R) (lsn : Nat) (d r : List UInt8) (h1 : 1 ≤ lsn) (h2 : lsn ≤ 9223372036854775806) (hd : d.length ≤ 4096) :
    rdF seed (frm seed lsn d ++ r) = ((lsn : Int), d, 16 + (d.length : Int), fsum seed lsn d, 0) := by
 have e0 : frm seed lsn d ++ r = fx 4 d.length ++ (fx 8 lsn ++ (fmark (fsum seed lsn d) ++ (d ++ r))) := by simp [frm, ffs]
 have n1 : fN (frm seed lsn d ++ r) = d.length := by
  rw [fN, e0, List.take_left' (fx_len 4 _)]
  exact fx_num 4 _ (by simp; omega)
 have n2 : fL (frm seed lsn d ++ r) = lsn := by
  rw [fL, e0, cut2 _ _ _ 4 8 (fx_len _ _) (fx_len _ _)]
  exact fx_num 8 _ (by simp; omega)
 have e1 : frm seed lsn d ++ r = (fx 4 d.length ++ fx 8 lsn) ++ (fmark (fsum seed lsn d) ++ (d ++ r)) := by simp [frm, ffs]
 have n3 : fM (frm seed lsn d ++ r) = (Crc.maskOf (fsum seed lsn d)).toNat := by
  rw [fM, e1, cut2 _ _ _ 12 4 (by simp [fx_len]) (fmark_len _), fmark]
  exact fx_num 4 _ (by have := Crc.lt32 (Crc.maskOf (fsum seed lsn d)); simpa using this)
 have e2 : frm seed lsn d ++ r = (fx 4 d.length ++ (fx 8 lsn ++ fmark (fsum seed lsn d))) ++ (d ++ r) := by simp [frm, ffs]
 have n4 : fD (frm seed lsn d ++ r) = d := by
  rw [fD, n1, e2, cut2 _ _ _ 16 d.length (by simp [fx_len, fmark_len]) rfl]
 have n5 : (frm seed lsn d ++ r).length = 16 + d.length + r.length := by rw [List.length_append, frm_len]
 have e : rdE seed (frm seed lsn d ++ r) = 0 := by
  rw [rdE, n1, n2, n3, n4, n5, if_neg (by omega), if_neg (by omega), if_neg (by omega), if_neg (by omega), if_neg (by simp)]
 rw [rdF, if_pos e, n1, n2, n4]
theorem wrF_ok {seed : Crc.R} {lsn : Int} {d : List UInt8} (h1 : 1 ≤ lsn) (h2 : lsn ≤ 9223372036854775806) (hd : d.length ≤ 4096) : wrF seed lsn d = (frm seed lsn.toNat d, fsum seed lsn.toNat d, 0) := by
 rw [wrF, if_neg (by simp [inB, h1, h2]), if_neg (by omega)]
theorem whF_ok {nm bs : Int} {seed : Crc.R} (h1 : 1 ≤ nm) (h2 : 1 ≤ bs) : whF nm bs seed = (hed nm.toNat bs.toNat seed, hsum nm.toNat bs.toNat seed, 0) := by
 rw [whF, if_neg (by omega)]
end Go.Proofs.YtnimildpcnmjeaaGreatDoor
namespace Go.Proofs.YtnimildpcnmjeaaGreatDoor.Sg
open Go.RowKit Go.Maps Go.Sort Go.Shelf Go.Proofs.YtnimildpcnmjeaaGreatDoor.Nm Go.Proofs.YtnimildpcnmjeaaGreatDoor.Dk
def Has (S : DS) (file : ByteArray) (B : List UInt8) : Prop := ∃ p, S.find file = (some p, 0) ∧ (S.F p).by_ = B
theorem Has.read {S : DS} {file : ByteArray} {B : List UInt8} (h : Has S file B) (o n : Nat) (hn : o + n ≤ B.length) : S.read file (o : Int) (n : Int) = ((B.drop o).take n, 0) := by
 obtain ⟨p, e, hB⟩ := h
 unfold DS.read
 rw [e]
 dsimp only
 rw [hB, if_pos (by omega)]
 simp
theorem frm_front (seed : Crc.R) (lsn : Nat) (d r : List UInt8) : (frm seed lsn d ++ r).take 4 = fx 4 d.length := by
 have : frm seed lsn d ++ r = fx 4 d.length ++ (fx 8 lsn ++ (fmark (fsum seed lsn d) ++ (d ++ r))) := by simp [frm, ffs]
 rw [this, List.take_left' (fx_len 4 _)]
theorem rf_at {s : SG} {S : DS} {pre post d : List UInt8} {lsn : Nat} {seed : Crc.R} (h : Has S s.file (pre ++ (frm seed lsn d ++ post))) (hs : s.size = ((pre ++ (frm seed lsn d ++ post)).length : Int)) (h1 : 1 ≤ lsn) (h2 : lsn ≤ 9223372036854775806) (hd : d.length ≤ 4096) :
    rfF s S (lsn : Int) (pre.length : Int) seed = (((lsn : Int), d), 16 + (d.length : Int), fsum seed lsn d, 0) := by
 have hl := frm_len seed lsn d
 have hB : (pre ++ (frm seed lsn d ++ post)).length = pre.length + (16 + d.length + post.length) := by simp [hl]
 have hm : min 16 (s.size - (pre.length : Int)) = ((16 : Nat) : Int) := by rw [hs, hB]; omega
 have hdr : (pre ++ (frm seed lsn d ++ post)).drop pre.length = frm seed lsn d ++ post := by simp
 have r1 := h.read pre.length 16 (by rw [hB]; omega)
 rw [hdr] at r1
 have hst : stv ((frm seed lsn d ++ post).take 16) 4 (0, 0) = d.length := by
  unfold stv
  rw [if_pos ⟨rfl, by simp [hl]; omega⟩]
  simp only [List.drop_zero, List.take_take]
  rw [show min 4 16 = 4 by rfl, frm_front, fx_num 4 _ (Nat.lt_of_le_of_lt hd (by decide))]
 have hsz : szF ((d.length : Nat) : Int) = ((16 + d.length : Nat) : Int) := by unfold szF; rw [if_pos (by omega)]; omega
 have r2 := h.read pre.length (16 + d.length) (by rw [hB]; omega)
 rw [hdr, List.take_left' hl] at r2
 have hfb : fbF s S (pre.length : Int) = (frm seed lsn d, 0) := by
  unfold fbF
  rw [hm, r1]
  simp only
  rw [if_neg (by simp), hst, hsz, if_neg (by rw [hs, hB]; omega), r2]
 have hrd := rd_back seed lsn d [] h1 h2 hd
 rw [List.append_nil] at hrd
 unfold rfF
 rw [hfb]
 simp only
 rw [if_neg (by simp), hrd]
 simp only
 rw [if_neg (by simp)]
theorem wk_step {seed : Crc.R} {n : Int} {ls : List (List UInt8)} {i : Nat} (hi : i < ls.length) (h1 : 1 ≤ n) (h2 : n + (ls.length : Int) ≤ 9223372036854775807) (hd : ∀ d ∈ ls, d.length ≤ 4096) :
    wk seed n ls (i + 1) = ((wk seed n ls i).1 ++ frm (wk seed n ls i).2.2 (n + (i : Int)).toNat (ls.getD i []), (wk seed n ls i).2.1 ++ [((16 + (ls.getD i []).length : Int), ((fsum (wk seed n ls i).2.2 (n + (i : Int)).toNat (ls.getD i [])).toNat : Int))], fsum (wk seed n ls i).2.2 (n + (i : Int)).toNat (ls.getD i [])) := by
 have hm : ls.getD i [] ∈ ls := by simp [List.getD, hi]
 rw [wk, wrF_ok (by omega) (by omega) (hd _ hm)]
 simp only [frm_len]
 congr 3
theorem wk_prefix (seed : Crc.R) (n : Int) (ls ls' : List (List UInt8)) : ∀ i, i ≤ ls.length → wk seed n (ls ++ ls') i = wk seed n ls i
 | 0, _ => rfl
 | i + 1, hi => by
  have e : (ls ++ ls').getD i [] = ls.getD i [] := by simp [List.getD, List.getElem?_append_left (show i < ls.length by omega)]
  rw [wk, wk, wk_prefix seed n ls ls' i (by omega), e]
theorem wk_split {seed : Crc.R} {n : Int} {ls : List (List UInt8)} (h1 : 1 ≤ n) (h2 : n + (ls.length : Int) ≤ 9223372036854775807) (hd : ∀ d ∈ ls, d.length ≤ 4096) (i : Nat) : ∀ j, i + j ≤ ls.length → ∃ post, (wk seed n ls (i + j)).1 = (wk seed n ls i).1 ++ post
 | 0, _ => ⟨[], by simp⟩
 | j + 1, hj => by
  obtain ⟨post, hp⟩ := wk_split h1 h2 hd i j (by omega)
  have := wk_step (seed := seed) (i := i + j) (show i + j < ls.length by omega) h1 h2 hd
  refine ⟨post ++ frm (wk seed n ls (i + j)).2.2 (n + ((i + j : Nat) : Int)).toNat (ls.getD (i + j) []), ?_⟩
  rw [← Nat.add_assoc, this, hp]
  simp
theorem wk_at {seed : Crc.R} {n : Int} {ls : List (List UInt8)} (h1 : 1 ≤ n) (h2 : n + (ls.length : Int) ≤ 9223372036854775807) (hd : ∀ d ∈ ls, d.length ≤ 4096) {i : Nat} (hi : i < ls.length) : ∃ post, (wk seed n ls ls.length).1 = (wk seed n ls i).1 ++ (frm (wk seed n ls i).2.2 (n + (i : Int)).toNat (ls.getD i []) ++ post) := by
 obtain ⟨post, hp⟩ := wk_split (seed := seed) h1 h2 hd (i + 1) (ls.length - (i + 1)) (by omega)
 rw [show i + 1 + (ls.length - (i + 1)) = ls.length by omega] at hp
 refine ⟨post, ?_⟩
 rw [hp, wk_step hi h1 h2 hd]
 simp
theorem rl_at {s : SG} {S : DS} {hd : List UInt8} {sd0 : Crc.R} {ls : List (List UInt8)} (h : Has S s.file (hd ++ (wk sd0 s.base ls ls.length).1)) (hs : s.size = ((hd ++ (wk sd0 s.base ls ls.length).1).length : Int)) (h1 : 1 ≤ s.base) (h2 : s.base + (ls.length : Int) ≤ 9223372036854775807) (hdl : ∀ d ∈ ls, d.length ≤ 4096) : ∀ k i, i + k < ls.length →
    rlF s S k (s.base + (i : Int)) ((hd.length : Int) + ((wk sd0 s.base ls i).1.length : Int)) (wk sd0 s.base ls i).2.2 = ((s.base + ((i + k : Nat) : Int), ls.getD (i + k) []), 0) := by
 have step : ∀ i, i < ls.length → rfF s S (s.base + (i : Int)) ((hd.length : Int) + ((wk sd0 s.base ls i).1.length : Int)) (wk sd0 s.base ls i).2.2 = ((s.base + (i : Int), ls.getD i []), 16 + ((ls.getD i []).length : Int), fsum (wk sd0 s.base ls i).2.2 (s.base + (i : Int)).toNat (ls.getD i []), 0) := fun i hi => by
  obtain ⟨post, hp⟩ := wk_at (seed := sd0) h1 h2 hdl hi
  have hm : ls.getD i [] ∈ ls := by simp [List.getD, hi]
  rw [hp, ← List.append_assoc] at h hs
  have := rf_at (pre := hd ++ (wk sd0 s.base ls i).1) (lsn := (s.base + (i : Int)).toNat) h hs (by omega) (by omega) (hdl _ hm)
  rw [List.length_append, show (((s.base + (i : Int)).toNat : Nat) : Int) = s.base + (i : Int) by omega] at this
  rw [show ((hd.length : Int) + ((wk sd0 s.base ls i).1.length : Int)) = ((hd.length + (wk sd0 s.base ls i).1.length : Nat) : Int) by omega]
  exact this
 intro k
 induction k with
 | zero =>
  intro i hi
  rw [rlF, step i (by omega)]
  simp
 | succ k ih =>
  intro i hi
  rw [rlF, step i (by omega)]
  simp only
  rw [if_neg (by simp)]
  have hw := wk_step (seed := sd0) (i := i) (show i < ls.length by omega) h1 h2 hdl
  have := ih (i + 1) (by omega)
  rw [hw] at this
  simp only [List.length_append, frm_len] at this
  rw [show s.base + (i : Int) + 1 = s.base + ((i + 1 : Nat) : Int) by omega, show ((hd.length : Int) + ((wk sd0 s.base ls i).1.length : Int) + (16 + ((ls.getD i []).length : Int))) = ((hd.length : Int) + (((wk sd0 s.base ls i).1.length + (16 + (ls.getD i []).length) : Nat) : Int)) by omega, this]
  rw [show i + 1 + k = i + (k + 1) by omega]
theorem sget_sins_ne (n f m : Int) (h : m ≠ n) : ∀ l : Sr, sget (sins (n, f) l) m = sget l m
 | [] => by
  have : (n == m) = false := by simpa using fun c => h c.symm
  simp [sins, sget, this]
 | y :: r => by
  have h1 : (n == m) = false := by simpa using fun c => h c.symm
  have ih := sget_sins_ne n f m h r
  simp only [sins]
  split
  ·simp only [sget, List.find?_cons, h1]
  ·simp only [sget, List.find?_cons] at ih ⊢
   cases y.1 == m
   ·exact ih
   ·rfl
theorem sget_sdel_ne (n m : Int) (h : m ≠ n) : ∀ l : Sr, sget (sdel l n) m = sget l m
 | [] => rfl
 | y :: r => by
  have ih := sget_sdel_ne n m h r
  unfold sdel at ih ⊢
  by_cases hy : y.1 = n
  ·have h1 : (y.1 == n) = true := by simpa using hy
   have h2 : (y.1 == m) = false := by simpa [hy] using fun c => h c.symm
   rw [List.filter_cons_of_neg (by simp [hy])]
   rw [ih]
   simp only [sget, List.find?_cons, h2]
  ·rw [List.filter_cons_of_pos (by simpa using hy)]
   simp only [sget, List.find?_cons] at ih ⊢
   cases y.1 == m
   ·exact ih
   ·rfl
theorem sget_sput_ne (l : Sr) {n f m : Int} (h : m ≠ n) : sget (sput l n f) m = sget l m := by
 unfold sput
 rw [sget_sins_ne n f m h, sget_sdel_ne n m h]
theorem find_some {l : List (Int × Int)} {n : Int} {p : Int × Int} (hp : p ∈ l) (h : p.1 ≤ n) : ∃ e, e ∈ l ∧ e.1 ≤ n ∧ Ix.findF l n = (e, true) := by
 have hm : p ∈ l.filter fun e => decide (e.1 ≤ n) := by simp [hp, h]
 unfold Ix.findF
 cases hq : (l.filter fun e => decide (e.1 ≤ n)).getLast? with
 | none => rw [List.getLast?_eq_none_iff] at hq; rw [hq] at hm; simp at hm
 | some e =>
  have := List.mem_of_getLast? hq
  simp at this
  exact ⟨e, this.1, this.2, rfl⟩
theorem find_snoc (l : List (Int × Int)) (n o : Int) : Ix.findF (l ++ [(n, o)]) n = ((n, o), true) := by
 unfold Ix.findF
 rw [List.filter_append]
 simp
structure Coh (s : SG) (sd0 : Crc.R) (ds : List (List UInt8)) : Prop where
 ok : SOk s
 b1 : 1 ≤ s.base
 n : s.next = s.base + (ds.length : Int)
 z : s.size = 32 + ((wk sd0 s.base ds ds.length).1.length : Int)
 e : s.seed = ((wk sd0 s.base ds ds.length).2.2.toNat : Int)
 d : ∀ d ∈ ds, d.length ≤ 4096
 x : ∀ p ∈ s.x.l, ∃ i, i < ds.length ∧ p = (s.base + (i : Int), 32 + ((wk sd0 s.base ds i).1.length : Int)) ∧ sget s.sd p.1 = some ((wk sd0 s.base ds i).2.2.toNat : Int)
 f : ds ≠ [] → (s.base, (32 : Int)) ∈ s.x.l
 f0 : ds = [] → s.x.l = []
 la : ds ≠ [] → s.x.la.1 = s.next - 1 ∧ s.x.la.2 < s.size
theorem newSG_coh (b : Nat) (file : ByteArray) (nm bs : Int) (seed sum : Crc.R) (h1 : 1 ≤ bs) (h2 : bs ≤ 9223372036854775807) : Coh (newSG b file nm bs seed sum) sum [] :=
 ⟨newSG_ok b file nm bs seed sum h1 h2, h1, by simp [newSG], rfl, rfl, fun d hd => by simp at hd, fun p hp => by simp [newSG] at hp, fun h => absurd rfl h, fun _ => rfl, fun h => absurd rfl h⟩
theorem Coh.next2 {s : SG} {sd0 : Crc.R} {ds : List (List UInt8)} (h : Coh s sd0 ds) : s.base + (ds.length : Int) ≤ 9223372036854775807 := by have := h.ok.n2; have := h.n; omega
theorem Coh.add {s : SG} {sd0 : Crc.R} {ds : List (List UInt8)} (h : Coh s sd0 ds) : ∃ l, (Ix.addF s.x s.next s.size).2 = ⟨s.x.st, l, (s.next, s.size)⟩ ∧ ((ds ≠ [] ∧ l = s.x.l) ∨ l = s.x.l ++ [(s.next, s.size)]) := by
 have a1 := h.ok.n1
 have a2 := h.ok.z1
 have a3 := h.ok.z2
 unfold Ix.addF
 rw [if_neg (by omega)]
 by_cases hd : ds = []
 ·have e := h.f0 hd
  rw [if_neg (by rw [e]; simp), if_pos (.inl e)]
  exact ⟨_, rfl, .inr rfl⟩
 ·obtain ⟨b1, b2⟩ := h.la hd
  rw [if_neg (by rintro ⟨_, c⟩; exact c ⟨by omega, b2⟩)]
  split
  ·exact ⟨_, rfl, .inr rfl⟩
  ·exact ⟨_, rfl, .inl ⟨hd, rfl⟩⟩
theorem Coh.grow {s : SG} {sd0 : Crc.R} {ds : List (List UInt8)} (h : Coh s sd0 ds) {d : List UInt8} {seed : Crc.R} (hs : s.seed = (seed.toNat : Int)) (hd : d.length ≤ 4096) (hn : s.next ≤ 9223372036854775806) (hz : s.size + 4112 ≤ 2147483647) (hl : s.sd.length + 1 ≤ 1000000000) :
    Coh (s.grown (16 + (d.length : Int)) ((fsum seed s.next.toNat d).toNat : Int)) sd0 (ds ++ [d]) := by
 have hds : ∀ d' ∈ ds ++ [d], d'.length ≤ 4096 := fun d' hd' => by
  rw [List.mem_append] at hd'
  rcases hd' with c | c
  ·exact h.d _ c
  ·simp at c; rw [c]; exact hd
 have hL : (ds ++ [d]).length = ds.length + 1 := by simp
 have hn0 := h.n
 have h2 : s.base + ((ds ++ [d]).length : Int) ≤ 9223372036854775807 := by rw [hL]; omega
 have hse : seed = (wk sd0 s.base ds ds.length).2.2 := by
  apply BitVec.eq_of_toNat_eq
  have := h.e
  omega
 have hgd : (ds ++ [d]).getD ds.length [] = d := by simp [List.getD]
 have hw := wk_step (seed := sd0) (i := ds.length) (ls := ds ++ [d]) (by rw [hL]; omega) h.b1 h2 hds
 rw [wk_prefix sd0 s.base ds [d] ds.length (Nat.le_refl _), hgd, ← hse, ← hn0] at hw
 have hok : SOk (s.grown (16 + (d.length : Int)) ((fsum seed s.next.toNat d).toNat : Int)) := by
  have q := (fsum seed s.next.toNat d).isLt
  have := (gk_ok h.ok [((16 + (d.length : Int)), ((fsum seed s.next.toNat d).toNat : Int))] (fun f hf => by simp at hf; rw [hf]; exact ⟨by show 0 ≤ 16 + (d.length : Int); omega, by show 16 + (d.length : Int) ≤ 4112; omega⟩) (fun f hf => by simp at hf; rw [hf]; exact ⟨by show (0 : Int) ≤ ((fsum seed s.next.toNat d).toNat : Int); omega, by show ((fsum seed s.next.toNat d).toNat : Int) < 4294967296; omega⟩) (by simp; omega) (by simp; omega) (by simpa using hl) 1 (by simp)).1
  exact this
 obtain ⟨l, hl1, hl2⟩ := h.add
 have hx : (s.grown (16 + (d.length : Int)) ((fsum seed s.next.toNat d).toNat : Int)).x = ⟨s.x.st, l, (s.next, s.size)⟩ := hl1
 have hsd : (s.grown (16 + (d.length : Int)) ((fsum seed s.next.toNat d).toNat : Int)).sd = if (Ix.findF l s.next).1.1 = s.next then sput s.sd s.next s.seed else s.sd := by
  show (if (Ix.findF (Ix.addF s.x s.next s.size).2.l s.next).1.1 = s.next then sput s.sd s.next s.seed else s.sd) = _
  rw [hl1]
 have old : ∀ p ∈ s.x.l, p.1 ≠ s.next ∧ ∃ i, i < (ds ++ [d]).length ∧ p = (s.base + (i : Int), 32 + ((wk sd0 s.base (ds ++ [d]) i).1.length : Int)) ∧ sget s.sd p.1 = some ((wk sd0 s.base (ds ++ [d]) i).2.2.toNat : Int) := fun p hp => by
  obtain ⟨i, hi, e1, e2⟩ := h.x p hp
  refine ⟨by rw [e1]; show s.base + (i : Int) ≠ _; omega, i, by rw [hL]; omega, ?_, ?_⟩
  ·rw [wk_prefix sd0 s.base ds [d] i (by omega)]; exact e1
  ·rw [wk_prefix sd0 s.base ds [d] i (by omega)]; exact e2
 refine ⟨hok, h.b1, ?_, ?_, ?_, hds, ?_, ?_, fun c => by simp at c, fun _ => ?_⟩
 ·show s.next + 1 = s.base + _; rw [hL]; omega
 ·show s.size + (16 + (d.length : Int)) = 32 + ((wk sd0 s.base (ds ++ [d]) (ds ++ [d]).length).1.length : Int)
  rw [hL, hw]
  have := h.z
  simp only [List.length_append, frm_len]
  omega
 ·show ((fsum seed s.next.toNat d).toNat : Int) = ((wk sd0 s.base (ds ++ [d]) (ds ++ [d]).length).2.2.toNat : Int)
  rw [hL, hw]
 ·intro p hp
  rw [hx] at hp
  rw [hsd]
  show ∃ i, i < (ds ++ [d]).length ∧ p = (s.base + (i : Int), 32 + ((wk sd0 s.base (ds ++ [d]) i).1.length : Int)) ∧ _
  rcases hl2 with ⟨hne, rfl⟩ | rfl
  ·obtain ⟨o1, o2⟩ := old p hp
   have hb := h.f hne
   obtain ⟨e, e1, e2, e3⟩ := find_some hb (show s.base ≤ s.next by omega)
   rw [if_neg (by rw [e3]; exact (old e e1).1)]
   exact o2
  ·rw [find_snoc, if_pos rfl]
   rw [List.mem_append] at hp
   rcases hp with hp | hp
   ·obtain ⟨o1, i, i1, i2, i3⟩ := old p hp
    exact ⟨i, i1, i2, by rw [sget_sput_ne _ o1]; exact i3⟩
   ·simp at hp
    subst hp
    refine ⟨ds.length, by rw [hL]; omega, ?_, ?_⟩
    ·rw [wk_prefix sd0 s.base ds [d] ds.length (Nat.le_refl _), hn0, h.z]
    ·show sget (sput s.sd s.next s.seed) s.next = some ((wk sd0 s.base (ds ++ [d]) ds.length).2.2.toNat : Int)
     rw [wk_prefix sd0 s.base ds [d] ds.length (Nat.le_refl _), sget_sput, h.e]
 ·intro _
  rw [hx]
  show (s.base, (32 : Int)) ∈ l
  by_cases hne : ds = []
  ·rcases hl2 with ⟨c, _⟩ | rfl
   ·exact absurd hne c
   ·have e1 : s.next = s.base := by rw [hn0, hne]; simp
    have e2 : s.size = 32 := by rw [h.z, hne]; simp [wk]
    rw [e1, e2]; simp
  ·have := h.f hne
   rcases hl2 with ⟨_, rfl⟩ | rfl
   ·exact this
   ·simp [this]
 ·rw [hx]
  refine ⟨?_, ?_⟩
  ·show s.next = s.next + 1 - 1; omega
  ·show s.size < s.size + (16 + (d.length : Int)); omega
theorem wk_shift {seed : Crc.R} {n : Int} (ds ls : List (List UInt8)) : ∀ i, wk (wk seed n ds ds.length).2.2 (n + (ds.length : Int)) ls i = ((wk seed n (ds ++ ls) (ds.length + i)).1.drop (wk seed n ds ds.length).1.length, (wk seed n (ds ++ ls) (ds.length + i)).2.1.drop ds.length, (wk seed n (ds ++ ls) (ds.length + i)).2.2) ∧ (wk seed n (ds ++ ls) (ds.length + i)).1 = (wk seed n ds ds.length).1 ++ (wk (wk seed n ds ds.length).2.2 (n + (ds.length : Int)) ls i).1
 | 0 => by
  rw [Nat.add_zero, wk_prefix seed n ds ls ds.length (Nat.le_refl _)]
  have := (wk_len seed n ds ds.length).2
  simp [wk, this]
 | i + 1 => by
  obtain ⟨e1, e2⟩ := wk_shift (seed := seed) (n := n) ds ls i
  have g : (ds ++ ls).getD (ds.length + i) [] = ls.getD i [] := by simp [List.getD, List.getElem?_append_right]
  have l1 := (wk_len seed n (ds ++ ls) (ds.length + i)).2
  have k : (wk (wk seed n ds ds.length).2.2 (n + (ds.length : Int)) ls i).2.2 = (wk seed n (ds ++ ls) (ds.length + i)).2.2 := by rw [e1]
  have k2 : (wk (wk seed n ds ds.length).2.2 (n + (ds.length : Int)) ls i).2.1 = (wk seed n (ds ++ ls) (ds.length + i)).2.1.drop ds.length := by rw [e1]
  have a : n + (ds.length : Int) + (i : Int) = n + ((ds.length + i : Nat) : Int) := by omega
  rw [← Nat.add_assoc, wk, wk, g, k, k2, a]
  refine ⟨?_, ?_⟩
  ·rw [e2]
   simp only [List.append_assoc, List.drop_left']
   congr 2
   rw [List.drop_append_of_le_length (by omega)]
  ·simp only
   rw [e2]
   simp
theorem wk_fsat {seed : Crc.R} {n : Int} {ls : List (List UInt8)} (h1 : 1 ≤ n) (h2 : n + (ls.length : Int) ≤ 9223372036854775807) (hd : ∀ d ∈ ls, d.length ≤ 4096) {i : Nat} : ∀ m, i < m → m ≤ ls.length → (wk seed n ls m).2.1.getD i (0, 0) = ((16 + (ls.getD i []).length : Int), ((fsum (wk seed n ls i).2.2 (n + (i : Int)).toNat (ls.getD i [])).toNat : Int))
 | 0, h, _ => by omega
 | m + 1, h, hm => by
  have l1 := (wk_len seed n ls m).2
  rw [wk_step (by omega) h1 h2 hd]
  by_cases e : i = m
  ·subst e
   simp [List.getD, l1]
  ·have := wk_fsat (seed := seed) h1 h2 hd (i := i) m (by omega) (by omega)
   rw [← this]
   simp [List.getD, List.getElem?_append_left (show i < (wk seed n ls m).2.1.length by omega)]
theorem Coh.puts {s : SG} {sd0 : Crc.R} {ds : List (List UInt8)} (h : Coh s sd0 ds) {seed : Crc.R} (hs : s.seed = (seed.toNat : Int)) (ls : List (List UInt8)) (hd : ∀ d ∈ ls, d.length ≤ 4096) (hn : s.next + (ls.length : Int) ≤ 9223372036854775807) (hz : s.size + (ls.length : Int) * 4112 ≤ 2147483647) (hl : s.sd.length + ls.length ≤ 1000000000) : ∀ i, i ≤ ls.length →
    Coh (gk s (wk seed s.next ls ls.length).2.1 i) sd0 (ds ++ ls.take i) ∧ (gk s (wk seed s.next ls ls.length).2.1 i).seed = ((wk seed s.next ls i).2.2.toNat : Int)
 | 0, _ => ⟨by simpa [gk] using h, hs⟩
 | i + 1, hi => by
  obtain ⟨c1, c2⟩ := h.puts hs ls hd hn hz hl i (by omega)
  have hf := wk_fs seed s.next ls ls.length
  have hlen := (wk_len seed s.next ls ls.length).2
  obtain ⟨_, _, _, g4, _, _, g7⟩ := gk_b s (wk seed s.next ls ls.length).2.1 i
  have gz := (gk_size s (wk seed s.next ls ls.length).2.1 (fun f h => (hf f h).1) i).2
  have gl := (gk_ok h.ok (wk seed s.next ls ls.length).2.1 (fun f h => (hf f h).1) (fun f h => (hf f h).2) (by rw [hlen]; omega) (by rw [hlen]; omega) (by rw [hlen]; omega) i (by omega)).2
  have hm : ls.getD i [] ∈ ls := by simp [List.getD, show i < ls.length by omega]
  have hw := wk_step (seed := seed) (i := i) (show i < ls.length by omega) h.ok.n1 hn hd
  have e1 := wk_fsat (seed := seed) h.ok.n1 hn hd (i := i) ls.length (by omega) (Nat.le_refl _)
  have hi4 : ((i : Int) + 1) * 4112 ≤ (ls.length : Int) * 4112 := by omega
  have q := c1.grow c2 (hd _ hm) (by omega) (by omega) (by omega)
  rw [g7] at q
  have e2 : gk s (wk seed s.next ls ls.length).2.1 (i + 1) = (gk s (wk seed s.next ls ls.length).2.1 i).grown (16 + ((ls.getD i []).length : Int)) ((fsum (wk seed s.next ls i).2.2 (s.next + (i : Int)).toNat (ls.getD i [])).toNat : Int) := by
   rw [gk, e1]
  have e3 : ds ++ ls.take (i + 1) = (ds ++ ls.take i) ++ [ls.getD i []] := by
   have hii : i < ls.length := by omega
   rw [List.take_add_one]
   simp [List.getD, hii]
  rw [e2, e3]
  refine ⟨q, ?_⟩
  rw [hw]
  rfl
theorem Coh.read {s : SG} {sd0 : Crc.R} {ds : List (List UInt8)} (h : Coh s sd0 ds) {S : DS} {hd : List UInt8} (hh : hd.length = 32) (H : Has S s.file (hd ++ (wk sd0 s.base ds ds.length).1)) {lsn : Int} (h1 : s.base ≤ lsn) (h2 : lsn < s.next) :
    rdS s S lsn = ((lsn, ds.getD (lsn - s.base).toNat []), 0) := by
 have hn := h.n
 have hne : ds ≠ [] := fun c => by rw [c] at hn; simp at hn; omega
 obtain ⟨e, e1, e2, e3⟩ := find_some (h.f hne) h1
 obtain ⟨i, i1, i2, i3⟩ := h.x e e1
 have hsz : s.size = ((hd ++ (wk sd0 s.base ds ds.length).1).length : Int) := by rw [List.length_append, hh, h.z]; simp
 have hsd : seedAt s e.1 = (wk sd0 s.base ds i).2.2 := by
  unfold seedAt
  rw [i3]
  simp
 have hi : e.1 = s.base + (i : Int) := by rw [i2]
 have ho : e.2 = (hd.length : Int) + ((wk sd0 s.base ds i).1.length : Int) := by rw [i2, hh]; rfl
 unfold rdS
 rw [if_neg (by omega), e3]
 simp only
 rw [hsd, ho, hi]
 have := rl_at H hsz h.b1 h.next2 h.d (lsn - (s.base + (i : Int))).toNat i (by omega)
 rw [this]
 have q : i + (lsn - (s.base + (i : Int))).toNat = (lsn - s.base).toNat := by omega
 rw [q, show s.base + (((lsn - s.base).toNat : Nat) : Int) = lsn by omega]
end Go.Proofs.YtnimildpcnmjeaaGreatDoor.Sg
namespace Go.Proofs.YtnimildpcnmjeaaGreatDoor.St
open Go.RowKit Go.Maps Go.Sort Go.Shelf Go.Proofs.YtnimildpcnmjeaaGreatDoor.Nm Go.Proofs.YtnimildpcnmjeaaGreatDoor.Dk Go.Proofs.YtnimildpcnmjeaaGreatDoor.Sg Go.Proofs.YtnimildpcnmjeaaGreatDoor.Ct
open Ix (wp_region_T wpAnyT wpAnyT_take wpAnyT_one wpAnyT_done vac)
theorem ca_cre {S : DS} {M : Nat} {D : Dr} {F : Nat → Fl} {c : Int} (h : Ca S M D F c) {file : ByteArray} (m : may file.data.toList = true) (hg : Dk.get D file.data.toList = none) (hl : D.length < 256) {p : Nat} (hp : p ∉ S.ps) {nm bs : Int} (seed : Crc.R) (h1 : 1 ≤ nm) (h2 : 1 ≤ bs) (hM : sumL F D + 32 ≤ M) :
    (creF S file nm bs seed p).2 = 0 ∧ Ca (creF S file nm bs seed p).1 M (dput D file.data.toList p) (upd F p (whl (hed nm.toNat bs.toNat seed))) (c + 3) ∧ sumL (upd F p (whl (hed nm.toNat bs.toNat seed))) (dput D file.data.toList p) = sumL F D + 32 ∧ (dput D file.data.toList p).length = D.length + 1 ∧ p ∉ D.map (·.2) := by
 obtain ⟨a1, a2, a3, a4, a5⟩ := h.create m hg hl hp
 have g1 : Dk.get (dput D file.data.toList p) file.data.toList = some p := by rw [get_dput, if_pos rfl]
 have hL := hed_len nm.toNat bs.toNat seed
 obtain ⟨b1, b2, b3⟩ := a2.append m g1 (hed nm.toNat bs.toNat seed) (by rw [a3, hL]; exact hM)
 obtain ⟨c1, c2, c3⟩ := b2.sync m g1
 have e : creF S file nm bs seed p = (((S.create file p).1.append file (hed nm.toNat bs.toNat seed)).1).sync file := by
  unfold creF
  rw [whF_ok h1 h2]
  simp only
  rw [if_neg (by simp), if_neg (by rw [a1]; simp), if_neg (by rw [b1]; simp)]
 rw [e]
 rw [upd_same, upd_same, upd_thrice] at c2 c3
 rw [upd_same, hL] at b3
 refine ⟨c1, ?_, ?_, a4, a5⟩
 ·rw [show c + 3 = c + 1 + 1 + 1 by omega]; exact c2
 ·show sumL (upd F p (syF (apF ⟨[], [], 0⟩ (hed nm.toNat bs.toNat seed)))) _ = _
  rw [c3, b3, a3]
theorem lay_any {w : World} {stb b : Nat} {c1 c2 c3 c4 c5 c6 c7 c8 c9 : Value} (hb : StB w stb #[.pointer (some ⟨b, 0, none⟩), c1, c2, c3, c4, c5, c6, c7, c8, c9]) {S : DS} {O : Nat → Prop} (hd : DskE w b S O) (hno : ¬ O stb) (g : Sg) (n1 : 1 ≤ g.nm) (n2 : g.nm ≤ 9223372036854775807) (b1 : 1 ≤ g.ba) (b2 : g.ba ≤ 9223372036854775807) (seed : Crc.R) (hse : g.se = seed.toNat) (hT : Tab16 w)
    {M : Nat} {D : Dr} {F : Nat → Fl} {c : Int} (ca : Ca S M D F c) (hc : c < 700000000) (hg : Dk.get D (nmF g.nm).data.toList = none) (hl : D.length < 256) (hM : sumL F D + 32 ≤ M) :
    Calls Tryz.prog 49 #[.pointer (some ⟨stb, 0, none⟩), .agg #[.int .i64 g.nm, .int .i64 g.ba, .int .u32 (g.se : Int), .int .i64 g.en, .int .i64 g.sz]] w fun e w' => ∃ p O' sb xb mb v, e = .returned (.pointer (some ⟨sb, 0, none⟩)) ∧ p ∉ S.ps ∧ SW w' sb (newSG b (nmF g.nm) g.nm g.ba seed (whF g.nm g.ba seed).2.1) (creF S (nmF g.nm) g.nm g.ba seed p).1 O' xb mb v ∧ Sgo w w' O O' ∧ ∀ k, SOwn sb xb mb v k → w.heap.size ≤ k := by
 have B0 := box_below w (.cells #[.int .i64 g.nm, .int .i64 g.ba, .int .u32 (g.se : Int), .int .i64 g.en, .int .i64 g.sz] 51)
 have N0 := heap_alloc_new w (.cells #[.int .i64 g.nm, .int .i64 g.ba, .int .u32 (g.se : Int), .int .i64 g.en, .int .i64 g.sz] 51)
 obtain ⟨w0, hw0⟩ : ∃ w0, Hid (w.alloc (.cells #[.int .i64 g.nm, .int .i64 g.ba, .int .u32 (g.se : Int), .int .i64 g.en, .int .i64 g.sz] 51) = w0) := ⟨_, rfl⟩
 obtain ⟨g0, hg0⟩ : ∃ g0, Hid (w.heap.size = g0) := ⟨_, rfl⟩
 rw [hw0.out] at B0 N0
 rw [hg0.out] at N0
 have KC : ∀ q : World, q.heap[stb]? = some (.cells #[.pointer (some ⟨b, 0, none⟩), c1, c2, c3, c4, c5, c6, c7, c8, c9] 69 (0, 0)) → q.heap[g0]? = some (.cells #[.int .i64 g.nm, .int .i64 g.ba, .int .u32 (g.se : Int), .int .i64 g.en, .int .i64 g.sz] 51 (0, 0)) → q.cell? ⟨stb, 0, none⟩ = some (.pointer (some ⟨b, 0, none⟩)) ∧ q.cell? ⟨g0, 0, none⟩ = some (.int .i64 g.nm) ∧ q.cell? ⟨g0, 1, none⟩ = some (.int .i64 g.ba) ∧ q.cell? ⟨g0, 2, none⟩ = some (.int .u32 (g.se : Int)) ∧ q.cell? ⟨g0, 3, none⟩ = some (.int .i64 g.en) ∧ q.cell? ⟨g0, 4, none⟩ = some (.int .i64 g.sz) := fun q e1 e0 => by
  refine ⟨by rw [cell_of e1]; rfl, by rw [cell_of e0]; rfl, by rw [cell_of e0]; rfl, by rw [cell_of e0]; rfl, by rw [cell_of e0]; rfl, by rw [cell_of e0]; rfl⟩
 have KS : Hid (∀ q : World, Below w0.heap.size w0 q → q.cell? ⟨stb, 0, none⟩ = some (.pointer (some ⟨b, 0, none⟩)) ∧ q.cell? ⟨g0, 0, none⟩ = some (.int .i64 g.nm) ∧ q.cell? ⟨g0, 1, none⟩ = some (.int .i64 g.ba) ∧ q.cell? ⟨g0, 2, none⟩ = some (.int .u32 (g.se : Int)) ∧ q.cell? ⟨g0, 3, none⟩ = some (.int .i64 g.en) ∧ q.cell? ⟨g0, 4, none⟩ = some (.int .i64 g.sz)) := hide fun q hq => KC q (((keepF B0 hq).block _ (heap_lt hb)).trans hb) ((hq.block _ (heap_lt N0)).trans N0)
 have hgO : ¬ O g0 := fun k => by
  rw [← hg0.out] at k
  have := hd.lt _ k
  omega
 have hFo : Hid (∀ q, Below w0.heap.size w0 q → Calls Tryz.prog 78 #[.agg #[.int .i64 g.nm, .int .i64 g.ba, .int .u32 (g.se : Int), .int .i64 g.en, .int .i64 g.sz]] q fun e w' => e = .returned (.string (nmF g.nm)) ∧ Below q.heap.size q w') := hide fun q hq => fileOf_any q g n1 n2 (hT.below (keepF B0 hq))
 have hHo : Hid (∀ q, Calls Tryz.prog 79 #[.agg #[.int .i64 g.nm, .int .i64 g.ba, .int .u32 (g.se : Int), .int .i64 g.en, .int .i64 g.sz]] q fun e w' => e = .returned (.agg #[.int .i64 g.nm, .int .i64 g.ba, .int .u32 (g.se : Int)]) ∧ Below q.heap.size q w') := hide fun q => headOf_any q g
 have hCr : Hid (∀ q, Below w0.heap.size w0 q → Calls Tryz.prog 77 #[.pointer (some ⟨b, 0, none⟩), .string (nmF g.nm), .agg #[.int .i64 g.nm, .int .i64 g.ba, .int .u32 (g.se : Int)]] q fun e w' => ∃ p O' sb xb mb v, e = .returned (.tuple #[.pointer (some ⟨sb, 0, none⟩), .int .i64 0]) ∧ p ∉ S.ps ∧ SW w' sb (newSG b (nmF g.nm) g.nm g.ba seed (whF g.nm g.ba seed).2.1) (creF S (nmF g.nm) g.nm g.ba seed p).1 O' xb mb v ∧ Sgo w w' O O' ∧ (∀ k, SOwn sb xb mb v k → w.heap.size ≤ k) ∧ w'.cell? ⟨stb, 0, none⟩ = some (.pointer (some ⟨b, 0, none⟩)) ∧ w'.cell? ⟨g0, 0, none⟩ = some (.int .i64 g.nm) ∧ w'.cell? ⟨g0, 1, none⟩ = some (.int .i64 g.ba) ∧ w'.cell? ⟨g0, 2, none⟩ = some (.int .u32 (g.se : Int)) ∧ w'.cell? ⟨g0, 3, none⟩ = some (.int .i64 g.en) ∧ w'.cell? ⟨g0, 4, none⟩ = some (.int .i64 g.sz)) := hide fun q hq => by
  have hse' : (g.se : Int) = (seed.toNat : Int) := by rw [hse]
  rw [hse']
  have hz := nmF_size g.nm
  refine (createS_any (hd.below (keepF B0 hq)) (nmF g.nm) g.nm g.ba seed (by rw [hz]; decide) (by rw [hz]; decide) (by rw [ca.c7]; omega) (by omega) n2 (by omega) b2).mono ?_
  rintro e w' ⟨p, O', hpw, hp, hgo, hx⟩
  have h0 := (ca_cre ca (may_nm g.nm) hg hl hp seed n1 b1 hM).1
  rcases hx with ⟨hne, _⟩ | ⟨_, sb, xb, mb, v, rfl, hS, hlo⟩
  ·exact absurd h0 hne
  ·have hs := (keepF B0 hq).size
   have u1 := ((keepF B0 hq).block _ (heap_lt hb)).trans hb
   have u0 := (hq.block _ (heap_lt N0)).trans N0
   have hk := KC w' ((hgo.but.block _ (heap_lt u1) hno).trans u1) ((hgo.but.block _ (heap_lt u0) hgO).trans u0)
   rw [hse'] at hk
   exact ⟨p, O', sb, xb, mb, v, rfl, hp, hS, (Sgo.of_below (keepF B0 hq)).trans hgo, fun k hk => Nat.le_trans hs (hlo k hk), hk⟩
 clear hd hb hno ca hg hl hM hc hT n1 n2 b1 b2 hse N0 B0 KC hgO
 generalize nmF g.nm = FN at *
 obtain ⟨nm, ba, se, en, sz⟩ := g
 simp only at *
 go_enter Tryz.func49, Tryz.ntmps49
 go_upto_region 1 with fail
 rw [hw0.out, hg0.out]
 refine wp_region_T (fun q => q.cell? ⟨stb, 0, none⟩ = some (.pointer (some ⟨b, 0, none⟩)) ∧ q.cell? ⟨g0, 0, none⟩ = some (.int .i64 nm) ∧ q.cell? ⟨g0, 1, none⟩ = some (.int .i64 ba) ∧ q.cell? ⟨g0, 2, none⟩ = some (.int .u32 (se : Int)) ∧ q.cell? ⟨g0, 3, none⟩ = some (.int .i64 en) ∧ q.cell? ⟨g0, 4, none⟩ = some (.int .i64 sz)) 13 (by kernel_rfl) ?_
 have KB : Hid (Below w0.heap.size w0 w0.drew) := hide (Below.refl _ _).drew
 have KP := hide (KS.out _ KB.out)
 generalize w0.drew = q at *
 refine Ix.tk 0 ⟨some 8, .move (.tmp 0), _, _, _, _⟩ (.pointer (some ⟨stb, 0, none⟩)) [1,2,3,8,9,10,12,13] ?_ KP.out ?_
 ·intro wq hSw; go_simp
 (try simp only [zzp, zzb, zzc])
 refine Ix.tk 1 ⟨some 9, .nilCheck (.tmp 8), _, _, _, _⟩ (.pointer (some ⟨stb, 0, none⟩)) [2,3,8,9,10,12,13] ?_ KP.out ?_
 ·intro wq hSw; go_simp
 (try simp only [zzp, zzb, zzc])
 refine Ix.tk 2 ⟨some 10, .fieldAddr 69 (.tmp 9) 0, _, _, _, _⟩ (.pointer (some ⟨stb, 0, none⟩)) [3,8,9,10,12,13] ?_ KP.out ?_
 ·intro wq hSw; go_simp
 (try simp only [zzp, zzb, zzc])
 refine Ix.tk 3 ⟨some 11, .load 26 (.tmp 10), _, _, _, _⟩ (.pointer (some ⟨b, 0, none⟩)) [8,9,10,12,13] ?_ KP.out ?_
 ·intro wq hSw
  obtain ⟨x0, x1, x2, x3, x4, x5⟩ := hSw
  go_simp
 (try simp only [zzp, zzb, zzc])
 refine Ix.tk 4 ⟨some 12, .load 51 (.tmp 3), _, _, _, _⟩ (.agg #[.int .i64 nm, .int .i64 ba, .int .u32 (se : Int), .int .i64 en, .int .i64 sz]) [5,8,9,10,12,13] ?_ KP.out ?_
 ·intro wq hSw
  obtain ⟨x0, x1, x2, x3, x4, x5⟩ := hSw
  go_simp
 (try simp only [zzp, zzb, zzc])
 refine Ix.tk 6 ⟨some 14, .load 51 (.tmp 3), _, _, _, _⟩ (.agg #[.int .i64 nm, .int .i64 ba, .int .u32 (se : Int), .int .i64 en, .int .i64 sz]) [7,8,9,10,12,13] ?_ KP.out ?_
 ·intro wq hSw
  obtain ⟨x0, x1, x2, x3, x4, x5⟩ := hSw
  go_simp
 (try simp only [zzp, zzb, zzc])
 refine wpAnyT_one (i := 5) (o := ⟨some 13, .call { callee := .value (.func 78), args := #[.tmp 12], argTypes := #[51] }, _, _, _, _⟩) (by kernel_rfl) rfl (fun K hK => ?_)
 go_simp
 go_at_call 78
 refine (hFo.out _ KB.out).mono ?_
 rintro e w3 ⟨rfl, b3⟩
 have K3 := hide (keepF KB.out b3)
 (try go_simp)
 refine hK.out _ _ (fun _ => KS.out _ K3.out) ?_
 clear hK K
 (try simp only [zzp, zzb, zzc])
 refine wpAnyT_one (i := 7) (o := ⟨some 15, .call { callee := .value (.func 79), args := #[.tmp 14], argTypes := #[51] }, _, _, _, _⟩) (by kernel_rfl) rfl (fun K hK => ?_)
 go_simp
 go_at_call 79
 refine (hHo.out _).mono ?_
 rintro e w4 ⟨rfl, b4'⟩
 have b4 := hide (keepF K3.out b4')
 (try go_simp)
 refine hK.out _ _ (fun _ => KS.out _ b4.out) ?_
 clear hK K
 (try simp only [zzp, zzb, zzc])
 refine wpAnyT_one (i := 8) (o := ⟨some 16, .call { callee := .value (.func 77), args := #[.tmp 11, .tmp 13, .tmp 15], argTypes := #[26, 9, 77] }, _, _, _, _⟩) (by kernel_rfl) rfl (fun K hK => ?_)
 go_simp
 go_at_call 77
 refine (hCr.out _ b4.out).mono ?_
 rintro e w5 ⟨p, O5, sb, xb, mb, v, rfl, hp, W5, G5, l5, K5⟩
 replace W5 := hide W5
 replace G5 := hide G5
 replace l5 := hide l5
 replace K5 := hide K5
 (try go_simp)
 refine hK.out _ _ (fun _ => K5.out) ?_
 clear hK K
 (try simp only [zzp, zzb, zzc])
 refine wpAnyT_one (i := 9) (o := ⟨some 7, .move (.tmp 16), _, _, _, _⟩) (by kernel_rfl) rfl (fun K hK => ?_)
 go_simp
 refine hK.out _ _ (fun _ => K5.out) ?_
 clear hK K
 (try simp only [zzp, zzb, zzc])
 refine Ix.tk 10 ⟨some 17, .extract (.tmp 7) 0, _, _, _, _⟩ (.pointer (some ⟨sb, 0, none⟩)) [12,13] ?_ K5.out ?_
 ·intro wq hSw
  obtain ⟨x0, x1, x2, x3, x4, x5⟩ := hSw
  go_simp
 (try simp only [zzp, zzb, zzc])
 refine Ix.tk 11 ⟨some 18, .extract (.tmp 7) 1, _, _, _, _⟩ (.int .i64 0) [13] ?_ K5.out ?_
 ·intro wq hSw
  obtain ⟨x0, x1, x2, x3, x4, x5⟩ := hSw
  go_simp
 (try simp only [zzp, zzb, zzc])
 refine wpAnyT_one (i := 12) (o := ⟨some 5, .assign (.tmp 17), _, _, _, _⟩) (by kernel_rfl) rfl (fun K hK => ?_)
 go_simp
 refine hK.out _ _ (fun _ => K5.out) ?_
 clear hK K
 (try simp only [zzp, zzb, zzc])
 refine wpAnyT_one (i := 13) (o := ⟨some 6, .assign (.tmp 18), _, _, _, _⟩) (by kernel_rfl) rfl (fun K hK => ?_)
 go_simp
 refine hK.out _ _ (vac (by kernel_rfl)) ?_
 clear hK K
 (try simp only [zzp, zzb, zzc])
 refine wpAnyT_done (by kernel_rfl) ?_ _
 go_wp2_with (first
  | (go_at_call 35; refine (must_ok _).mono ?_; rintro e wm ⟨rfl, hwm⟩; rw [hwm]; clear hwm wm)
  | fail)
 go_ret
 exact ⟨p, O5, sb, xb, mb, v, rfl, hp, W5.out, G5.out, l5.out⟩
end Go.Proofs.YtnimildpcnmjeaaGreatDoor.St
namespace Go.Proofs.YtnimildpcnmjeaaGreatDoor.St
open Go.RowKit Go.Maps Go.Sort Go.Shelf Go.Proofs.YtnimildpcnmjeaaGreatDoor.Nm Go.Proofs.YtnimildpcnmjeaaGreatDoor.Dk Go.Proofs.YtnimildpcnmjeaaGreatDoor.Sg Go.Proofs.YtnimildpcnmjeaaGreatDoor.Ct
open Ix (wp_region_T wpAnyT wpAnyT_take wpAnyT_one wpAnyT_done vac)
set_option linter.unusedSimpArgs false
set_option maxRecDepth 100000
theorem idle_open (p q r : Addr) (w : World) :
    CallsD Tryz.prog 16 #[.pointer (some p), .pointer (some q), .pointer (some r)] .returning w fun e u' w' => e = .returned (.tuple #[]) ∧ u' = .returning ∧ w' = w := by
 refine callsD_of_wpS Tryz.func16 rfl fun c₀ cs hu => ?_
 have hnil : ∀ u : World, (binOp .neq 20 .nilIface .nilIface).run Tryz.prog u = .ok (.bool false) u := fun u => by kernel_rfl
 apply wpS_seq
 apply wpS_region
 simp [wpOpsS, go_sem, recoverD, hu, Tryz.ntmps16, Exit.thenS]
 refine wpS_of_wp ?_
 go_wp2_with fail
 cases c₀
 simp_all [bodyPostS, results, Tryz.results16]
theorem idle_append (p q r : Addr) (w : World) :
    CallsD Tryz.prog 29 #[.pointer (some p), .pointer (some q), .pointer (some r)] .returning w fun e u' w' => e = .returned (.tuple #[]) ∧ u' = .returning ∧ w' = w := by
 refine callsD_of_wpS Tryz.func29 rfl fun c₀ cs hu => ?_
 have hnil : ∀ u : World, (binOp .neq 20 .nilIface .nilIface).run Tryz.prog u = .ok (.bool false) u := fun u => by kernel_rfl
 apply wpS_seq
 apply wpS_region
 simp [wpOpsS, go_sem, recoverD, hu, Tryz.ntmps29, Exit.thenS]
 refine wpS_of_wp ?_
 go_wp2_with fail
 cases c₀
 simp_all [bodyPostS, results, Tryz.results29]
theorem idle_sync (p q : Addr) (w : World) :
    CallsD Tryz.prog 34 #[.pointer (some p), .pointer (some q)] .returning w fun e u' w' => e = .returned (.tuple #[]) ∧ u' = .returning ∧ w' = w := by
 refine callsD_of_wpS Tryz.func34 rfl fun c₀ cs hu => ?_
 have hnil : ∀ u : World, (binOp .neq 20 .nilIface .nilIface).run Tryz.prog u = .ok (.bool false) u := fun u => by kernel_rfl
 apply wpS_seq
 apply wpS_region
 simp [wpOpsS, go_sem, recoverD, hu, Tryz.ntmps34, Exit.thenS]
 refine wpS_of_wp ?_
 go_wp2_with fail
 cases c₀
 simp_all [bodyPostS, results, Tryz.results34]
theorem strays_nil (w : World) (a : Option Addr) (c : Nat) :
    Calls Tryz.prog 45 #[.slice a 0 c, .slice none 0 0] w fun e w' => e = .returned (.slice none 0 0) ∧ w' = w := by
 go_enter Tryz.func45, Tryz.ntmps45
 go_wp2_with fail
 go_loopg [5, 11] 0 (fun kx v5 v11 wr => v5 = .slice none 0 0 ∧ v11 = .int .i64 0 ∧ wr = w)
 case atStart => exact ⟨rfl, rfl, rfl⟩
 case round =>
  obtain ⟨rfl, rfl, hw⟩ := hrel
  rw [hw]
  go_wp2_with fail
  go_ret
  exact ⟨rfl, rfl⟩
theorem remove_nil (w : World) (p : Option Addr) :
    Calls Tryz.prog 46 #[.pointer p, .slice none 0 0] w fun e w' => e = .returned (.tuple #[]) ∧ w' = w := by
 go_enter Tryz.func46, Tryz.ntmps46
 go_wp2_with fail
 refine bodyPost_ret (results_none rfl _ _ _) rfl ?_
 exact ⟨rfl, rfl⟩
theorem index_nil (w : World) (a : Option Addr) (c : Nat) (s : ByteArray) :
    Calls Tryz.prog 43 #[.slice a 0 c, .string s] w fun e w' => e = .returned (.int .i64 (-1)) ∧ w' = w := by
 go_enter Tryz.func43, Tryz.ntmps43
 go_wp2_with fail
 go_loopg [8] 0 (fun kx v8 wr => v8 = .int .i64 0 ∧ wr = w)
 case atStart => exact ⟨rfl, rfl⟩
 case round =>
  obtain ⟨rfl, hw⟩ := hrel
  rw [hw]
  go_wp2_with fail
  go_ret
  exact ⟨rfl, rfl⟩
theorem contains_nil (w : World) (a : Option Addr) (c : Nat) (s : ByteArray) :
    Calls Tryz.prog 19 #[.slice a 0 c, .string s] w fun e w' => e = .returned (.bool false) ∧ w' = w := by
 have hI := hide (index_nil w a c s)
 go_enter Tryz.func19, Tryz.ntmps19
 go_wp2_with (first
  | (go_at_call 43; refine hI.out.mono ?_; rintro e wm ⟨rfl, hwm⟩; rw [hwm]; clear hwm wm)
  | fail)
 go_ret
 exact ⟨rfl, rfl⟩
theorem settle_any {w : World} {stb b : Nat} {c1 c2 c3 c4 c5 c6 c7 c8 c9 : Value} (hb : StB w stb #[.pointer (some ⟨b, 0, none⟩), c1, c2, c3, c4, c5, c6, c7, c8, c9]) {S : DS} {O : Nat → Prop} (hd : DskE w b S O) (hu : S.up = true) (hD : S.dir = []) (hP : S.P = []) (hc : S.c7 < 1000000000) :
    Calls Tryz.prog 18 #[.pointer (some ⟨stb, 0, none⟩)] w fun e w' => ∃ a c, e = .returned (.slice a 0 c) ∧ Below w.heap.size w w' := by
 have hL : Hid (Calls Tryz.prog 40 #[.pointer (some ⟨b, 0, none⟩)] w fun e w' => ∃ a c, e = .returned (.tuple #[.slice a 0 c, .int .i64 0]) ∧ Below w.heap.size w w') := hide (by
  obtain ⟨f, g, pd, am, VB, VL, h⟩ := hd
  have := list_any h hc
  have e : S.list = ([], 0) := by unfold DS.list; rw [hu, hD]; simp [nms]
  rw [e] at this
  refine this.mono ?_
  rintro e w' ⟨v, rfl, hv, hb⟩
  rcases hv.2 with ⟨rfl, _⟩ | ⟨g, cap, cur, rfl, _⟩
  ·exact ⟨none, 0, rfl, hb⟩
  ·exact ⟨_, cap, rfl, hb⟩)
 have hPn : Hid (∀ q, Below w.heap.size w q → Calls Tryz.prog 41 #[.pointer (some ⟨b, 0, none⟩)] q fun e w' => e = .returned (.int .i64 0) ∧ w' = q) := hide fun q hq => by
  have := pending_dsk (hd.below hq)
  rw [hP] at this
  exact this
 have y0 := stb_b hb
 go_enter Tryz.func18, Tryz.ntmps18
 go_upto_region 3 with (first
  | (go_at_call 40; refine hL.out.mono ?_; rintro e w1 ⟨va, vc, rfl, B1⟩; replace B1 := hide B1)
  | (go_at_call 35; refine (must_ok _).mono ?_; rintro e wm ⟨rfl, hwm⟩; rw [hwm]; clear hwm wm)
  | fail)
 have y1 := (B1.out.cell (lt_of_cell y0)).trans y0
 go_wp2_with (first
  | (go_at_call 41; refine (hPn.out _ B1.out).mono ?_; rintro e wm ⟨rfl, hwm⟩; rw [hwm]; clear hwm wm)
  | fail)
 go_ret
 exact ⟨_, _, rfl, B1.out⟩
theorem may_yes (w : World) (m ba : Int) (h1 : 64 ≤ m) (h2 : m ≤ 1048576) (h3 : 1 ≤ ba) :
    Calls Tryz.prog 15 #[.agg #[.int .i64 m, .int .i64 ba]] w fun e w' => e = .returned (.bool true) ∧ Below w.heap.size w w' := by
 have B0 := hide (box_below w (.cells #[.int .i64 m, .int .i64 ba] 23))
 have N0 := heap_alloc_new w (.cells #[.int .i64 m, .int .i64 ba] 23)
 obtain ⟨w0, hw0⟩ : ∃ w0, Hid (w.alloc (.cells #[.int .i64 m, .int .i64 ba] 23) = w0) := ⟨_, rfl⟩
 obtain ⟨g0, hg0⟩ : ∃ g0, Hid (w.heap.size = g0) := ⟨_, rfl⟩
 rw [hw0.out] at N0
 rw [hg0.out] at N0
 have y0 : w0.cell? ⟨g0, 0, none⟩ = some (.int .i64 m) := by rw [cell_of N0]; rfl
 have y1 : w0.cell? ⟨g0, 1, none⟩ = some (.int .i64 ba) := by rw [cell_of N0]; rfl
 go_enter Tryz.func15, Tryz.ntmps15
 go_upto_region 1 with fail
 rw [hw0.out, hg0.out]
 go_wp2_with fail
 go_ret
 exact ⟨rfl, by rw [← hw0.out]; exact B0.out⟩
end Go.Proofs.YtnimildpcnmjeaaGreatDoor.St
namespace Go.Proofs.YtnimildpcnmjeaaGreatDoor.St
open Go.RowKit Go.Maps Go.Sort Go.Shelf Go.Proofs.YtnimildpcnmjeaaGreatDoor.Nm Go.Proofs.YtnimildpcnmjeaaGreatDoor.Dk Go.Proofs.YtnimildpcnmjeaaGreatDoor.Sg Go.Proofs.YtnimildpcnmjeaaGreatDoor.Ct
set_option maxRecDepth 100000
structure Bls where
 sb : Nat
 xb : Nat
 mb : Nat
 v : Value
def Bls.own (q : Bls) : Nat → Prop := SOwn q.sb q.xb q.mb q.v
def StO (stb : Nat) (O : Nat → Prop) (qs : List Bls) (vC vS : Value) : Nat → Prop := fun k => k = stb ∨ O k ∨ vC.ownBlock = some k ∨ vS.ownBlock = some k ∨ ∃ q ∈ qs, q.own k
structure StR (w : World) (stb b : Nat) (cs : List Sg) (ss : List SG) (S : DS) (O : Nat → Prop) (qs : List Bls) (vC vS : Value) : Prop where
 ct : Ct.Own 0 w vC cs
 sp : w.ownsRow 0 80 1 vS qs.length (qs.map fun q => .pointer (some ⟨q.sb, 0, none⟩))
 len : ss.length = qs.length
 sg : ∀ (i : Nat) (q : Bls) (s : SG), qs[i]? = some q → ss[i]? = some s → Seg w q.sb s q.xb q.mb q.v ∧ s.b = b
 dk : DskE w b S O
 ap : ∀ (i j : Nat) (q r : Bls), i ≠ j → qs[i]? = some q → qs[j]? = some r → ∀ k, q.own k → ¬ r.own k
 aO : ∀ q ∈ qs, ∀ k, q.own k → ¬ O k ∧ k ≠ stb ∧ vC.ownBlock ≠ some k ∧ vS.ownBlock ≠ some k
 nC : ∀ k, vC.ownBlock = some k → ¬ O k ∧ k ≠ stb ∧ vS.ownBlock ≠ some k
 nS : ∀ k, vS.ownBlock = some k → ¬ O k ∧ k ≠ stb
 nO : ¬ O stb
theorem StR.lt {w : World} {stb b : Nat} {cs : List Sg} {ss : List SG} {S : DS} {O : Nat → Prop} {qs : List Bls} {vC vS : Value} {bx : Array Value} (h : StR w stb b cs ss S O qs vC vS) (hb : StB w stb bx) : ∀ k, StO stb O qs vC vS k → k < w.heap.size := by
 rintro k (rfl | hk | hk | hk | ⟨q, hq, hk⟩)
 ·exact heap_lt hb
 ·exact h.dk.lt k hk
 ·exact (h.ct.lt k hk).2
 ·exact (World.ownsRow.lt h.sp k hk).2
 ·obtain ⟨i, hi, rfl⟩ := List.getElem_of_mem hq
  have hi2 : i < ss.length := by rw [h.len]; exact hi
  exact (h.sg i _ _ (List.getElem?_eq_getElem hi) (List.getElem?_eq_getElem hi2)).1.lt k hk
theorem StR.but {X : Nat → Prop} {A B : World} {stb b : Nat} {cs : List Sg} {ss : List SG} {S : DS} {O : Nat → Prop} {qs : List Bls} {vC vS : Value} (h : StR A stb b cs ss S O qs vC vS) (hb : But X A B) (hx : ∀ k, StO stb O qs vC vS k → ¬ X k) : StR B stb b cs ss S O qs vC vS :=
 ⟨h.ct.but hb fun k hk => hx k (.inr (.inr (.inl hk))), row_but h.sp hb fun k hk => hx k (.inr (.inr (.inr (.inl hk)))), h.len,
  fun i q s hq hs => ⟨(h.sg i q s hq hs).1.but hb fun k hk => hx k (.inr (.inr (.inr (.inr ⟨q, List.mem_of_getElem? hq, hk⟩)))), (h.sg i q s hq hs).2⟩,
  h.dk.but hb fun k hk => hx k (.inr (.inl hk)), h.ap, h.aO, h.nC, h.nS, h.nO⟩
theorem StR.below {A B : World} {stb b : Nat} {cs : List Sg} {ss : List SG} {S : DS} {O : Nat → Prop} {qs : List Bls} {vC vS : Value} (h : StR A stb b cs ss S O qs vC vS) (hb : Below A.heap.size A B) : StR B stb b cs ss S O qs vC vS := h.but (But.of_below hb fun _ => False) fun _ _ c => c
def sg1 (ba : Int) : Sg := ⟨1, ba, 0, 0, 0⟩
theorem may1 {ba : Int} (h : 1 ≤ ba) : May 1 ba [sg1 ba] := by
 refine ⟨by decide, by simp, by simp, fun i hi => by simp at hi, ?_, ?_⟩
 ·show opF (sg1 ba)
  exact ⟨Int.le_refl 1, h, fun c => by rcases c with c | c <;> exact c rfl⟩
 ·show beF ba (sg1 ba)
  exact ⟨Int.le_refl _, fun c => by rcases c with c | c <;> exact absurd rfl c⟩
theorem bytes1_len (ba : Int) : (bytesC 1 ba [sg1 ba]).length ≤ 100 := by
 have := frontC_len 1 ba [sg1 ba]
 unfold bytesC
 rw [List.length_append, fx_len]
 simp at this
 omega
theorem nmF_ne (n : Int) : (nmF n).data.toList ≠ catB.data.toList ∧ (nmF n).data.toList ≠ cnxB.data.toList := by
 rw [nmF_list]
 have h := segL_len n.toNat
 constructor
 ·intro e; rw [e] at h; simp [catB] at h
 ·intro e; rw [e] at h; simp [cnxB] at h
theorem but_cut {C0 X : Nat → Prop} {A B C : World} (h : But C0 A B) (k : But X B C) (hX : ∀ i, i < A.heap.size → X i → C0 i) : But C0 A C :=
 ⟨k.os.trans h.os, k.tape.trans h.tape, k.output.trans h.output, Nat.le_trans h.size k.size, fun i hi hx => (k.block i (Nat.lt_of_lt_of_le hi h.size) (fun c => hx (hX i hi c))).trans (h.block i hi hx)⟩
theorem begin_fin {w w1 w2 w3 w4 w5 w6 w7 : World} {stb b g0 gS sb xb mb : Nat} {v : Value} {O O2 O6 : Nat → Prop} {cs : List Sg} {s : SG} {S2 Sx : DS} {bx : Array Value}
    (hg : w.heap.size = g0) (FR : stb < g0 ∧ (∀ k, O k → k < g0) ∧ w1.heap.size = g0 + 2 ∧ Below w.heap.size w w1)
    (KK : SW w2 sb s S2 O2 xb mb v ∧ Sgo w1 w2 O O2 ∧ (∀ k, SOwn sb xb mb v k → w1.heap.size ≤ k) ∧ Below w2.heap.size w2 w3 ∧ But (fun k => k = stb) w3 w4 ∧ Below w4.heap.size w4 w5 ∧ w3.ownsRow 0 80 1 (.slice (some ⟨gS, 0, none⟩) 1 1) 1 [.pointer (some ⟨sb, 0, none⟩)] ∧ Ct.Own 0 w5 (.slice (some ⟨gS + 1, 0, none⟩) 1 1) cs ∧ w3.heap.size = gS + 1 ∧ w5.heap.size = gS + 2)
    (hz2 : w2.heap.size = gS) (KO : g0 + 2 ≤ gS ∧ (∀ k, O2 k → k < g0 ∨ g0 + 2 ≤ k) ∧ (∀ k, O2 k → k < gS) ∧ ¬ O2 stb)
    (D6 : DskE w6 b Sx O6) (T6 : Sto w5 w6 stb O2 O6) (E7 : But (fun k => k = g0) w6 w7) (S6 : StB w6 stb bx) (no6 : ¬ O6 stb) (hb : s.b = b) :
    StB w7 stb bx ∧ StR w7 stb b cs [s] Sx O6 [⟨sb, xb, mb, v⟩] (.slice (some ⟨gS + 1, 0, none⟩) 1 1) (.slice (some ⟨gS, 0, none⟩) 1 1) ∧ Sgo w w7 (fun k => k = stb ∨ O k) (StO stb O6 [⟨sb, xb, mb, v⟩] (.slice (some ⟨gS + 1, 0, none⟩) 1 1) (.slice (some ⟨gS, 0, none⟩) 1 1)) := by
 obtain ⟨f1, f2, f3, f4⟩ := FR
 obtain ⟨W2, G2, l2, B3, E4, B5, R3, hO1, hz3, hz5⟩ := KK
 obtain ⟨k1, k2, k3, k4⟩ := KO
 have hq : ∀ k, SOwn sb xb mb v k → g0 + 2 ≤ k ∧ k < gS ∧ ¬ O2 k := fun k hk => ⟨by have := l2 k hk; omega, by have := W2.sg.lt k hk; omega, W2.ap k hk⟩
 have h6 : ∀ k, O6 k → (O2 k ∨ gS + 2 ≤ k) := fun k hk => by rcases T6.own k hk with c | c; exact .inl c; exact .inr (by omega)
 have b57 : But (fun k => k = stb ∨ O2 k ∨ k = g0) w5 w7 := (T6.but.mono fun k _ c => by rcases c with c | c; exact .inl c; exact .inr (.inl c)).trans (E7.mono fun k _ c => .inr (.inr c))
 have b37 : But (fun k => k = stb ∨ O2 k ∨ k = g0) w3 w7 := ((E4.mono fun k _ c => .inl c).trans (But.of_below B5 _)).trans b57
 have b27 : But (fun k => k = stb ∨ O2 k ∨ k = g0) w2 w7 := (But.of_below B3 _).trans b37
 have nX : ∀ k, g0 + 2 ≤ k → ¬ O2 k → ¬ (k = stb ∨ O2 k ∨ k = g0) := fun k h1 h2 c => by rcases c with c | c | c; omega; exact h2 c; omega
 have oC : ∀ k, (Value.slice (some ⟨gS + 1, 0, none⟩) 1 1).ownBlock = some k → k = gS + 1 := fun k h => by cases h; rfl
 have oS : ∀ k, (Value.slice (some ⟨gS, 0, none⟩) 1 1).ownBlock = some k → k = gS := fun k h => by cases h; rfl
 have nG : ¬ O2 gS := fun c => by have := k3 _ c; omega
 have nG1 : ¬ O2 (gS + 1) := fun c => by have := k3 _ c; omega
 refine ⟨(E7.block _ (heap_lt S6) (by omega)).trans S6, ⟨hO1.but b57 fun k hk => ?_, row_but R3 b37 fun k hk => ?_, rfl, ?_, D6.but E7 fun k hk c => ?_, ?_, ?_, ?_, ?_, no6⟩, ⟨?_, ?_⟩⟩
 ·rw [oC k hk]; exact nX _ (by omega) nG1
 ·rw [oS k hk]; exact nX _ (by omega) nG
 ·intro i q s' hi hs
  cases i with
  | succ i => simp at hi
  | zero =>
   simp only [List.getElem?_cons_zero, Option.some.injEq] at hi hs
   subst hi hs
   exact ⟨W2.sg.but b27 fun k hk => nX k (hq k hk).1 (hq k hk).2.2, hb⟩
 ·rcases h6 k hk with c2 | c2
  ·have := k2 k c2; omega
  ·omega
 ·intro i j q r hij hi hj
  cases i with
  | succ i => simp at hi
  | zero =>
   cases j with
   | zero => exact absurd rfl hij
   | succ j => simp at hj
 ·intro q hq' k hk
  simp only [List.mem_singleton] at hq'
  subst hq'
  obtain ⟨a1, a2, a3⟩ := hq k hk
  refine ⟨fun c => ?_, by omega, fun c => ?_, fun c => ?_⟩
  ·rcases h6 k c with c2 | c2
   ·exact a3 c2
   ·omega
  ·have := oC k c; omega
  ·have := oS k c; omega
 ·intro k hk
  obtain rfl := oC k hk
  refine ⟨fun c => ?_, by omega, fun c => ?_⟩
  ·rcases h6 _ c with c2 | c2
   ·exact nG1 c2
   ·omega
  ·have := oS _ c; omega
 ·intro k hk
  obtain rfl := oS k hk
  refine ⟨fun c => ?_, by omega⟩
  rcases h6 _ c with c2 | c2
  ·exact nG c2
  ·omega
 ·refine but_cut (but_cut (But.of_below f4 _) G2.but fun i _ c => .inr c) b27 fun i hi c => ?_
  rcases c with c | c | c
  ·exact .inl c
  ·rcases G2.own i c with d | d
   ·exact .inr d
   ·omega
  ·omega
 ·intro k hk
  rcases hk with c | c | c | c | ⟨q, hq', c⟩
  ·exact .inl (.inl c)
  ·rcases h6 k c with d | d
   ·rcases G2.own k d with e | e
    ·exact .inl (.inr e)
    ·exact .inr (by omega)
   ·exact .inr (by omega)
  ·have := oC k c; exact .inr (by omega)
  ·have := oS k c; exact .inr (by omega)
  ·simp only [List.mem_singleton] at hq'
   subst hq'
   have := (hq k c).1
   exact .inr (by omega)
theorem begin_any {w : World} {stb b : Nat} {c1 z2 z3 z4 z5 c6 c7 c8 c9 : Value} (hb : StB w stb #[.pointer (some ⟨b, 0, none⟩), c1, z2, z3, z4, z5, c6, c7, c8, c9]) {S : DS} {O : Nat → Prop} (hd : DskE w b S O) (hno : ¬ O stb) (a : Option Addr) (ca : Nat) (ba : Int) (h1 : 1 ≤ ba) (h2 : ba ≤ 9223372036854775807) (hT : Tab16 w)
    {M : Nat} {D : Dr} {F : Nat → Fl} {c : Int} (hca : Ca S M D F c) (hc : c < 600000000) (hg : Dk.get D (nmF 1).data.toList = none) (hg2 : Dk.get D cnxB.data.toList = none) (hl : D.length < 250) (hM : sumL F D + 200 ≤ M) :
    Calls Tryz.prog 22 #[.pointer (some ⟨stb, 0, none⟩), .slice a 0 ca, .int .i64 ba] w fun e w' => e = .returned (.agg #[.bool true, .int .i64 0, .int .i64 0]) ∧ ∃ p1 p2 O' q vC vS, p1 ∉ S.ps ∧ p2 ∉ (creF S (nmF 1) 1 ba 0#32 p1).1.ps ∧ StB w' stb #[.pointer (some ⟨b, 0, none⟩), c1, .int .i64 1, .int .i64 ba, vC, vS, c6, c7, c8, c9] ∧
     StR w' stb b [sg1 ba] [newSG b (nmF 1) 1 ba 0#32 (whF 1 ba 0#32).2.1] (re5 (creF S (nmF 1) 1 ba 0#32 p1).1 catB cnxB (bytesC 1 ba [sg1 ba]) p2) O' [q] vC vS ∧ Sgo w w' (fun k => k = stb ∨ O k) (StO stb O' [q] vC vS) := by
 obtain ⟨g0, hg0⟩ : ∃ g0, Hid (w.heap.size = g0) := ⟨_, rfl⟩
 have B0 := box_below w (.cells #[.bool false, .int .i64 0, .int .i64 0] 30)
 have N0 := heap_alloc_new w (.cells #[.bool false, .int .i64 0, .int .i64 0] 30)
 obtain ⟨w0, hw0⟩ : ∃ w0, Hid (w.alloc (.cells #[.bool false, .int .i64 0, .int .i64 0] 30) = w0) := ⟨_, rfl⟩
 have hz0 : w0.heap.size = g0 + 1 := by rw [← hw0.out, ← hg0.out]; simp
 rw [hw0.out] at B0 N0
 rw [hg0.out] at N0
 have B1 := box_below w0 (.cells #[.int .i64 1, .int .i64 ba, .int .u32 0, .int .i64 0, .int .i64 0] 51)
 have N1 := heap_alloc_new w0 (.cells #[.int .i64 1, .int .i64 ba, .int .u32 0, .int .i64 0, .int .i64 0] 51)
 obtain ⟨w1, hw1⟩ : ∃ w1, Hid (w0.alloc (.cells #[.int .i64 1, .int .i64 ba, .int .u32 0, .int .i64 0, .int .i64 0] 51) = w1) := ⟨_, rfl⟩
 have hz1 : w1.heap.size = g0 + 2 := by rw [← hw1.out]; simp [hz0]
 rw [hw1.out] at B1 N1
 rw [hz0] at N1
 have B01 := keepF B0 B1
 have N01 := (B1.block _ (heap_lt N0)).trans N0
 have hsl : stb < g0 := by have := heap_lt hb; rw [← hg0.out]; exact this
 have hOl : ∀ k, O k → k < g0 := fun k hk => by have := hd.lt k hk; rw [← hg0.out]; exact this
 have S1 := (B01.block _ (heap_lt hb)).trans hb
 have hLay := hide (lay_any S1 (hd.below B01) hno (sg1 ba) (show (1 : Int) ≤ 1 by decide) (show (1 : Int) ≤ 9223372036854775807 by decide) h1 h2 0#32 rfl (hT.below B01) hca (by omega) hg (by omega) (by omega))
 have y0 : w1.cell? ⟨g0 + 1, 0, none⟩ = some (.int .i64 1) := by rw [cell_of N1]; rfl
 have y1 : w1.cell? ⟨g0 + 1, 1, none⟩ = some (.int .i64 ba) := by rw [cell_of N1]; rfl
 have y2 : w1.cell? ⟨g0 + 1, 2, none⟩ = some (.int .u32 0) := by rw [cell_of N1]; rfl
 have y3 : w1.cell? ⟨g0 + 1, 3, none⟩ = some (.int .i64 0) := by rw [cell_of N1]; rfl
 have y4 : w1.cell? ⟨g0 + 1, 4, none⟩ = some (.int .i64 0) := by rw [cell_of N1]; rfl
 have FR : Hid (stb < g0 ∧ (∀ k, O k → k < g0) ∧ w1.heap.size = g0 + 2 ∧ Below w.heap.size w w1) := hide ⟨hsl, hOl, hz1, B01⟩
 replace N1 := hide N1
 replace N01 := hide N01
 replace S1 := hide S1
 have HN := hide hno
 have CAH : Hid (∀ p, p ∉ S.ps → _) := hide fun p hp => ca_cre hca (may_nm 1) hg (by omega) hp 0#32 (show (1 : Int) ≤ 1 by decide) h1 (by omega)
 have Hc : Hid (c < 600000000 ∧ Dk.get D cnxB.data.toList = none ∧ D.length < 250 ∧ sumL F D + 200 ≤ M ∧ 1 ≤ ba ∧ ba ≤ 9223372036854775807) := hide ⟨hc, hg2, hl, hM, h1, h2⟩
 replace hz0 := hide hz0
 clear hsl hOl hz1 B0 B1 N0 B01 hb hd hno hca hg hg2 hl hM hT hc h1 h2
 go_enter Tryz.func22, Tryz.ntmps22
 go_upto_region 1 with fail
 rw [hw0.out, hg0.out]
 go_upto_region 4 with (first
  | (go_at_call 45; refine (strays_nil _ _ _).mono ?_; rintro e wm ⟨rfl, hwm⟩; rw [hwm]; clear hwm wm)
  | (go_at_call 46; refine (remove_nil _ _).mono ?_; rintro e wm ⟨rfl, hwm⟩; rw [hwm]; clear hwm wm)
  | fail)
 rw [hz0.out, hw1.out]
 go_upto_region 5 with (first
  | (go_at_call 49; refine hLay.out.mono ?_; rintro e w2 ⟨p1, O2, sb, xb, mb, v, rfl, hp1, W2, G2, l2⟩
     have S2 := stb_sgo S1.out G2 HN.out
     have B3 := box_below w2 (.cells #[.pointer (some ⟨sb, 0, none⟩)] 80)
     have S3 := (B3.block _ (heap_lt S2.1)).trans S2.1
     have z5' : (w2.alloc (.cells #[.pointer (some ⟨sb, 0, none⟩)] 80)).cell? ⟨stb, 5, none⟩ = some z5 := by rw [cell_of S3]; rfl
     have f5 : (w2.alloc (.cells #[.pointer (some ⟨sb, 0, none⟩)] 80)).frozen? ⟨stb, 5, none⟩ = false := put3_frozen S3)
  | fail)
 obtain ⟨gS, hgS⟩ : ∃ g, Hid (w2.heap.size = g) := ⟨_, rfl⟩
 obtain ⟨w3, hw3⟩ : ∃ w3, Hid (w2.alloc (.cells #[.pointer (some ⟨sb, 0, none⟩)] 80) = w3) := ⟨_, rfl⟩
 have R3 := World.ownsRow_lit (base := 0) (e := 80) (size := 1) w2 #[.pointer (some ⟨sb, 0, none⟩)] 1 (Nat.zero_le _) (by decide) rfl
 have hz3 : w3.heap.size = gS + 1 := by rw [← hw3.out, ← hgS.out]; simp
 rw [hw3.out] at B3 S3 R3
 rw [hgS.out] at R3
 rw [hw3.out, hgS.out]
 clear z5' f5
 obtain ⟨hsl, hOl, hz1, B01⟩ := FR.out
 have hgs : g0 + 2 ≤ gS := by rw [← hgS.out, ← hz1]; exact G2.but.size
 have O2g : ∀ k, O2 k → k < g0 ∨ g0 + 2 ≤ k := fun k hk => (G2.own k hk).imp (hOl k) (fun c => by rw [← hz1]; exact c)
 have O2s : ∀ k, O2 k → k < gS := fun k hk => by rw [← hgS.out]; exact W2.dk.lt k hk
 have S4 : Hid (StB (w3.setCell ⟨stb, 5, none⟩ (.slice (some ⟨gS, 0, none⟩) 1 1)) stb #[.pointer (some ⟨b, 0, none⟩), c1, z2, z3, z4, .slice (some ⟨gS, 0, none⟩) 1 1, c6, c7, c8, c9]) := hide (by show _ = _; rw [heap_setCell_same _ stb 5 _ _ _ S3]; rfl)
 have E4 : But (fun k => k = stb) w3 (w3.setCell ⟨stb, 5, none⟩ (.slice (some ⟨gS, 0, none⟩) 1 1)) := But.of_grownBy (grown_setCell w3 stb 5 _) fun k e => by cases e; rfl
 have hz4 : (w3.setCell ⟨stb, 5, none⟩ (.slice (some ⟨gS, 0, none⟩) 1 1)).heap.size = gS + 1 := by simp [hz3]
 obtain ⟨w4, hw4⟩ : ∃ w4, Hid (w3.setCell ⟨stb, 5, none⟩ (.slice (some ⟨gS, 0, none⟩) 1 1) = w4) := ⟨_, rfl⟩
 rw [hw4.out] at S4 E4 hz4
 rw [hw4.out]
 have B5 := box_below w4 (.cells #[.int .i64 1, .int .i64 ba, .int .u32 0, .int .i64 0, .int .i64 0] 51)
 have R5 := World.ownsRow_lit (base := 0) (e := 51) (size := 5) w4 #[.int .i64 1, .int .i64 ba, .int .u32 0, .int .i64 0, .int .i64 0] 1 (Nat.zero_le _) (by decide) rfl
 obtain ⟨w5, hw5⟩ : ∃ w5, Hid (w4.alloc (.cells #[.int .i64 1, .int .i64 ba, .int .u32 0, .int .i64 0, .int .i64 0] 51) = w5) := ⟨_, rfl⟩
 have hz5 : w5.heap.size = gS + 2 := by rw [← hw5.out]; simp [hz4]
 rw [hw5.out] at B5 R5
 rw [hz4] at R5
 obtain ⟨hc, hg2, hl, hM, h1, h2⟩ := Hc.out
 have hO1 : Ct.Own 0 w5 (.slice (some ⟨gS + 1, 0, none⟩) 1 1) [sg1 ba] := ⟨fun s hs => by
  simp only [List.mem_singleton] at hs
  subst hs
  exact ⟨by show -9223372036854775808 ≤ (1 : Int); decide, by show (1 : Int) ≤ 9223372036854775807; decide, by show -9223372036854775808 ≤ ba; omega, h2, by show 0 < 4294967296; decide, by show -9223372036854775808 ≤ (0 : Int); decide, by show (0 : Int) ≤ 9223372036854775807; decide, by show -9223372036854775808 ≤ (0 : Int); decide, by show (0 : Int) ≤ 9223372036854775807; decide⟩, R5⟩
 obtain ⟨_, q2, q3, q4, q5⟩ := CAH.out p1 hp1
 have D3 := W2.dk.below B3
 have D4 := D3.but E4 (fun k hk e => S2.2 (by rw [← e]; exact hk))
 have D5 := D4.below B5
 have S5 := (B5.block _ (heap_lt S4.out)).trans S4.out
 have hne := nmF_ne 1
 have hWr := hide (write_any S5 D5 S2.2 1 ba (.slice (some ⟨gS + 1, 0, none⟩) 1 1) [sg1 ba] hO1.sgs (may1 h1) (by decide) h2 q2 (by omega) (by rw [get_dput, if_neg hne.2]; exact hg2) (by rw [q4]; omega) (by have := bytes1_len ba; rw [q3]; omega))
 have M1 := (G2.but.block _ (heap_lt N1.out) (fun c => by have := hOl _ c; omega)).trans N1.out
 have M3 := (B3.block _ (heap_lt M1)).trans M1
 have M4 := (E4.block _ (heap_lt M3) (by omega)).trans M3
 have L1 := (G2.but.block _ (heap_lt N01.out) (fun c => by have := hOl _ c; omega)).trans N01.out
 have L3 := (B3.block _ (heap_lt L1)).trans L1
 have L4 := (E4.block _ (heap_lt L3) (by omega)).trans L3
 have L5 := hide ((B5.block _ (heap_lt L4)).trans L4)
 have y0 : w4.cell? ⟨g0 + 1, 0, none⟩ = some (.int .i64 1) := by rw [cell_of M4]; rfl
 have y1 : w4.cell? ⟨g0 + 1, 1, none⟩ = some (.int .i64 ba) := by rw [cell_of M4]; rfl
 have y2 : w4.cell? ⟨g0 + 1, 2, none⟩ = some (.int .u32 0) := by rw [cell_of M4]; rfl
 have y3 : w4.cell? ⟨g0 + 1, 3, none⟩ = some (.int .i64 0) := by rw [cell_of M4]; rfl
 have y4 : w4.cell? ⟨g0 + 1, 4, none⟩ = some (.int .i64 0) := by rw [cell_of M4]; rfl
 have KK : Hid (SW w2 sb (newSG b (nmF 1) 1 ba 0#32 (whF 1 ba 0#32).2.1) (creF S (nmF 1) 1 ba 0#32 p1).1 O2 xb mb v ∧ Sgo w1 w2 O O2 ∧ (∀ k, SOwn sb xb mb v k → w1.heap.size ≤ k) ∧ Below w2.heap.size w2 w3 ∧ But (fun k => k = stb) w3 w4 ∧ Below w4.heap.size w4 w5 ∧ w3.ownsRow 0 80 1 (.slice (some ⟨gS, 0, none⟩) 1 1) 1 [.pointer (some ⟨sb, 0, none⟩)] ∧ Ct.Own 0 w5 (.slice (some ⟨gS + 1, 0, none⟩) 1 1) [sg1 ba] ∧ w3.heap.size = gS + 1 ∧ w5.heap.size = gS + 2) := hide ⟨W2, G2, l2, B3, E4, B5, R3, hO1, hz3, hz5⟩
 have KO : Hid (g0 + 2 ≤ gS ∧ (∀ k, O2 k → k < g0 ∨ g0 + 2 ≤ k) ∧ (∀ k, O2 k → k < gS) ∧ ¬ O2 stb) := hide ⟨hgs, O2g, O2s, S2.2⟩
 replace hz4 := hide hz4
 clear W2 G2 l2 B3 E4 B5 R3 R5 hO1 hz3 hz5 hgs O2g O2s S2 S3 S5 D3 D4 D5 M1 M3 M4 L1 L3 L4 q2 q3 q4 q5 hc hg2 hl hM h1 h2 hsl hOl hz1 B01 hne
 have szF : (Tryz.prog.info? 30).map (·.size) = some 3 := by kernel_rfl
 go_upto_region 6 with (first
  | (go_at_call 50; rw [hz4.out, hw5.out]; refine hWr.out.mono ?_; rintro e w6 ⟨rfl, p2, O6, hp2, D6, T6, S6, no6⟩
     obtain ⟨hgs, O2g, O2s, no2⟩ := KO.out
     have hx0 : ¬ (g0 = stb ∨ O2 g0) := fun c => by
      have := FR.out.1
      rcases c with c | c
      ·omega
      ·have := O2g _ c; omega
     have L6 := (T6.but.block _ (heap_lt L5.out) hx0).trans L5.out
     have FZ : ∀ j, w6.frozen? ⟨g0, j, none⟩ = false := fun j => by simp [World.frozen?, L6]
     have c0 : ∀ j, w6.cell? ⟨g0, j, none⟩ = _ := fun j => cell_of L6)
  | fail)
 have FIN := hide (put3_heap L6 (.bool true) (.int .i64 0) (.int .i64 0))
 have E7 : Hid (But (fun k => k = g0) w6 (put3 w6 g0 (.bool true) (.int .i64 0) (.int .i64 0))) := hide (((But.of_grownBy (grown_setCell w6 g0 0 _) fun k e => by cases e; rfl).trans (But.of_grownBy (grown_setCell _ g0 1 _) fun k e => by cases e; rfl)).trans (But.of_grownBy (grown_setCell _ g0 2 _) fun k e => by cases e; rfl))
 unfold put3 at FIN E7
 clear y0 y1 y2 y3 y4 L5 L6 hWr hx0
 go_wp2_with fail
 try simp only [Exit.inBlock, Exit.then]
 refine bodyPost_ret (v := .agg _) (results_cell_row rfl _ _ g0 30 _ (0, 0) _ rfl FIN.out Tryz.underlying30 rfl szF) rfl ?_
 refine ⟨rfl, p1, p2, O6, ⟨sb, xb, mb, v⟩, .slice (some ⟨gS + 1, 0, none⟩) 1 1, .slice (some ⟨gS, 0, none⟩) 1 1, hp1, hp2, ?_⟩
 exact begin_fin hg0.out FR.out KK.out hgS.out KO.out D6 T6 E7.out S6 no6 rfl
end Go.Proofs.YtnimildpcnmjeaaGreatDoor.St
namespace Go.Proofs.YtnimildpcnmjeaaGreatDoor.Sg
open Go.RowKit Go.Maps Go.Sort Go.Shelf Go.Proofs.YtnimildpcnmjeaaGreatDoor.Nm Go.Proofs.YtnimildpcnmjeaaGreatDoor.Dk
open Ix (wp_region_T wpAnyT wpAnyT_take wpAnyT_one wpAnyT_done vac)
def put8 (w : World) (g : Nat) (a0 a1 a2 a3 a4 a5 a6 a7 : Value) : World := ((((((((w.setCell ⟨g, 0, none⟩ a0).setCell ⟨g, 1, none⟩ a1).setCell ⟨g, 2, none⟩ a2).setCell ⟨g, 3, none⟩ a3).setCell ⟨g, 4, none⟩ a4).setCell ⟨g, 5, none⟩ a5).setCell ⟨g, 6, none⟩ a6).setCell ⟨g, 7, none⟩ a7)
theorem put8_heap {w : World} {g : Nat} {z0 z1 z2 z3 z4 z5 z6 z7 : Value} {T : TypeId} (h : w.heap[g]? = some (.cells #[z0, z1, z2, z3, z4, z5, z6, z7] T (0, 0))) (a0 a1 a2 a3 a4 a5 a6 a7 : Value) : (put8 w g a0 a1 a2 a3 a4 a5 a6 a7).heap[g]? = some (.cells #[a0, a1, a2, a3, a4, a5, a6, a7] T (0, 0)) := by
 unfold put8
 have e0 : (w.setCell ⟨g, 0, none⟩ a0).heap[g]? = some (.cells #[a0, z1, z2, z3, z4, z5, z6, z7] T (0, 0)) := by rw [heap_setCell_same _ g 0 _ _ _ h]; rfl
 have e1 : ((w.setCell ⟨g, 0, none⟩ a0).setCell ⟨g, 1, none⟩ a1).heap[g]? = some (.cells #[a0, a1, z2, z3, z4, z5, z6, z7] T (0, 0)) := by rw [heap_setCell_same _ g 1 _ _ _ e0]; rfl
 have e2 : (((w.setCell ⟨g, 0, none⟩ a0).setCell ⟨g, 1, none⟩ a1).setCell ⟨g, 2, none⟩ a2).heap[g]? = some (.cells #[a0, a1, a2, z3, z4, z5, z6, z7] T (0, 0)) := by rw [heap_setCell_same _ g 2 _ _ _ e1]; rfl
 have e3 : ((((w.setCell ⟨g, 0, none⟩ a0).setCell ⟨g, 1, none⟩ a1).setCell ⟨g, 2, none⟩ a2).setCell ⟨g, 3, none⟩ a3).heap[g]? = some (.cells #[a0, a1, a2, a3, z4, z5, z6, z7] T (0, 0)) := by rw [heap_setCell_same _ g 3 _ _ _ e2]; rfl
 have e4 : (((((w.setCell ⟨g, 0, none⟩ a0).setCell ⟨g, 1, none⟩ a1).setCell ⟨g, 2, none⟩ a2).setCell ⟨g, 3, none⟩ a3).setCell ⟨g, 4, none⟩ a4).heap[g]? = some (.cells #[a0, a1, a2, a3, a4, z5, z6, z7] T (0, 0)) := by rw [heap_setCell_same _ g 4 _ _ _ e3]; rfl
 have e5 : ((((((w.setCell ⟨g, 0, none⟩ a0).setCell ⟨g, 1, none⟩ a1).setCell ⟨g, 2, none⟩ a2).setCell ⟨g, 3, none⟩ a3).setCell ⟨g, 4, none⟩ a4).setCell ⟨g, 5, none⟩ a5).heap[g]? = some (.cells #[a0, a1, a2, a3, a4, a5, z6, z7] T (0, 0)) := by rw [heap_setCell_same _ g 5 _ _ _ e4]; rfl
 have e6 : (((((((w.setCell ⟨g, 0, none⟩ a0).setCell ⟨g, 1, none⟩ a1).setCell ⟨g, 2, none⟩ a2).setCell ⟨g, 3, none⟩ a3).setCell ⟨g, 4, none⟩ a4).setCell ⟨g, 5, none⟩ a5).setCell ⟨g, 6, none⟩ a6).heap[g]? = some (.cells #[a0, a1, a2, a3, a4, a5, a6, z7] T (0, 0)) := by rw [heap_setCell_same _ g 6 _ _ _ e5]; rfl
 have e7 : ((((((((w.setCell ⟨g, 0, none⟩ a0).setCell ⟨g, 1, none⟩ a1).setCell ⟨g, 2, none⟩ a2).setCell ⟨g, 3, none⟩ a3).setCell ⟨g, 4, none⟩ a4).setCell ⟨g, 5, none⟩ a5).setCell ⟨g, 6, none⟩ a6).setCell ⟨g, 7, none⟩ a7).heap[g]? = some (.cells #[a0, a1, a2, a3, a4, a5, a6, a7] T (0, 0)) := by rw [heap_setCell_same _ g 7 _ _ _ e6]; rfl
 exact e7
theorem put8_below {B : Nat} {u w : World} (h : Below B u w) {g : Nat} (hg : B ≤ g) (a0 a1 a2 a3 a4 a5 a6 a7 : Value) : Below B u (put8 w g a0 a1 a2 a3 a4 a5 a6 a7) := (((((((h.setCell hg a0).setCell hg a1).setCell hg a2).setCell hg a3).setCell hg a4).setCell hg a5).setCell hg a6).setCell hg a7
def SG.look (s : SG) : Array Value := #[.string s.file, .int .i64 s.num, .int .i64 s.base, .int .u32 s.hs, .int .i64 s.next, .int .i64 s.size, .int .u32 s.seed, .bool (s.cond != 0)]
theorem look_any {w : World} {sb : Nat} {s : SG} {xb mb : Nat} {v : Value} (h : Seg w sb s xb mb v) : Calls Tryz.prog 24 #[.pointer (some ⟨sb, 0, none⟩)] w fun e w' => e = .returned (.agg s.look) ∧ Below w.heap.size w w' := by
 have B1 := box_below w (.cells lookZ 79)
 have N1 := heap_alloc_new w (.cells lookZ 79)
 have S1 := h.below B1
 obtain ⟨y0, _⟩ := S1.cells
 have hM := hide (made_yes _ sb s.b y0)
 clear y0 h
 unfold lookZ at *
 obtain ⟨w1, hw1⟩ : ∃ w1, Hid (w.alloc (.cells #[.string ⟨#[]⟩, .int .i64 0, .int .i64 0, .int .u32 0, .int .i64 0, .int .i64 0, .int .u32 0, .bool false] 79) = w1) := ⟨_, rfl⟩
 rw [hw1.out] at B1 N1 S1 hM
 replace B1 := hide B1
 have hg : w.heap.size ≤ w.heap.size := Nat.le_refl _
 unfold SG.look
 go_enter Tryz.func24, Tryz.ntmps24
 go_upto_region 1 with fail
 rw [hw1.out]
 go_upto_region 3 with (first | (go_at_call 51; refine hM.out.mono ?_; rintro e w2 ⟨rfl, e1⟩; rw [e1]; clear e1 w2) | fail)
 obtain ⟨g, hgs⟩ : ∃ g, Hid (w.heap.size = g) := ⟨_, rfl⟩
 rw [hgs.out] at B1 N1 hg ⊢
 refine wp_region_T (fun q => Seg q sb s xb mb v) 26 (by kernel_rfl) ?_
 have KP : Hid (Seg w1.drew sb s xb mb v) := S1.below (Below.refl _ _).drew
 have KB : Hid (Below g w w1.drew) := hide (B1.out.trans ((Below.refl g w1).drew))
 have KN : Hid (w1.drew.heap[g]? = _) := hide N1
 clear S1 N1 B1 hM
 generalize w1.drew = q at *
 refine Ix.tk 0 ⟨some 7, .move (.tmp 0), _, _, _, _⟩ (.pointer (some ⟨sb, 0, none⟩)) [1,2,3,25,26] ?_ KP.out ?_
 ·intro wq hSw
  obtain ⟨y0, y1, y2, y3, y4, y5, y6, y7, y8, y9, y10⟩ := hSw.cells
  go_simp
 (try simp only [zzp, zzb, zzc])
 refine Ix.tk 1 ⟨some 8, .nilCheck (.tmp 7), _, _, _, _⟩ (.pointer (some ⟨sb, 0, none⟩)) [2,3,25,26] ?_ KP.out ?_
 ·intro wq hSw
  obtain ⟨y0, y1, y2, y3, y4, y5, y6, y7, y8, y9, y10⟩ := hSw.cells
  go_simp
 (try simp only [zzp, zzb, zzc])
 refine Ix.tk 2 ⟨some 9, .fieldAddr 109 (.tmp 8) 1, _, _, _, _⟩ (.pointer (some ⟨sb, 1, none⟩)) [3,25,26] ?_ KP.out ?_
 ·intro wq hSw
  obtain ⟨y0, y1, y2, y3, y4, y5, y6, y7, y8, y9, y10⟩ := hSw.cells
  go_simp
 (try simp only [zzp, zzb, zzc])
 refine Ix.tk 3 ⟨some 10, .load 9 (.tmp 9), _, _, _, _⟩ (.string s.file) [25,26] ?_ KP.out ?_
 ·intro wq hSw
  obtain ⟨y0, y1, y2, y3, y4, y5, y6, y7, y8, y9, y10⟩ := hSw.cells
  go_simp
 (try simp only [zzp, zzb, zzc])
 refine Ix.tk 4 ⟨some 11, .move (.tmp 0), _, _, _, _⟩ (.pointer (some ⟨sb, 0, none⟩)) [5,6,7,25,26] ?_ KP.out ?_
 ·intro wq hSw
  obtain ⟨y0, y1, y2, y3, y4, y5, y6, y7, y8, y9, y10⟩ := hSw.cells
  go_simp
 (try simp only [zzp, zzb, zzc])
 refine Ix.tk 5 ⟨some 12, .nilCheck (.tmp 11), _, _, _, _⟩ (.pointer (some ⟨sb, 0, none⟩)) [6,7,25,26] ?_ KP.out ?_
 ·intro wq hSw
  obtain ⟨y0, y1, y2, y3, y4, y5, y6, y7, y8, y9, y10⟩ := hSw.cells
  go_simp
 (try simp only [zzp, zzb, zzc])
 refine Ix.tk 6 ⟨some 13, .fieldAddr 109 (.tmp 12) 2, _, _, _, _⟩ (.pointer (some ⟨sb, 2, none⟩)) [7,25,26] ?_ KP.out ?_
 ·intro wq hSw
  obtain ⟨y0, y1, y2, y3, y4, y5, y6, y7, y8, y9, y10⟩ := hSw.cells
  go_simp
 (try simp only [zzp, zzb, zzc])
 refine Ix.tk 7 ⟨some 14, .load 77 (.tmp 13), _, _, _, _⟩ (.agg #[.int .i64 s.num, .int .i64 s.base, .int .u32 s.hs]) [25,26] ?_ KP.out ?_
 ·intro wq hSw
  obtain ⟨y0, y1, y2, y3, y4, y5, y6, y7, y8, y9, y10⟩ := hSw.cells
  go_simp
 (try simp only [zzp, zzb, zzc])
 refine Ix.tk 8 ⟨some 15, .move (.tmp 0), _, _, _, _⟩ (.pointer (some ⟨sb, 0, none⟩)) [9,10,11,25,26] ?_ KP.out ?_
 ·intro wq hSw
  obtain ⟨y0, y1, y2, y3, y4, y5, y6, y7, y8, y9, y10⟩ := hSw.cells
  go_simp
 (try simp only [zzp, zzb, zzc])
 refine Ix.tk 9 ⟨some 16, .nilCheck (.tmp 15), _, _, _, _⟩ (.pointer (some ⟨sb, 0, none⟩)) [10,11,25,26] ?_ KP.out ?_
 ·intro wq hSw
  obtain ⟨y0, y1, y2, y3, y4, y5, y6, y7, y8, y9, y10⟩ := hSw.cells
  go_simp
 (try simp only [zzp, zzb, zzc])
 refine Ix.tk 10 ⟨some 17, .fieldAddr 109 (.tmp 16) 3, _, _, _, _⟩ (.pointer (some ⟨sb, 5, none⟩)) [11,25,26] ?_ KP.out ?_
 ·intro wq hSw
  obtain ⟨y0, y1, y2, y3, y4, y5, y6, y7, y8, y9, y10⟩ := hSw.cells
  go_simp
 (try simp only [zzp, zzb, zzc])
 refine Ix.tk 11 ⟨some 18, .load 2 (.tmp 17), _, _, _, _⟩ (.int .i64 s.next) [25,26] ?_ KP.out ?_
 ·intro wq hSw
  obtain ⟨y0, y1, y2, y3, y4, y5, y6, y7, y8, y9, y10⟩ := hSw.cells
  go_simp
 (try simp only [zzp, zzb, zzc])
 refine Ix.tk 12 ⟨some 19, .move (.tmp 0), _, _, _, _⟩ (.pointer (some ⟨sb, 0, none⟩)) [13,14,15,25,26] ?_ KP.out ?_
 ·intro wq hSw
  obtain ⟨y0, y1, y2, y3, y4, y5, y6, y7, y8, y9, y10⟩ := hSw.cells
  go_simp
 (try simp only [zzp, zzb, zzc])
 refine Ix.tk 13 ⟨some 20, .nilCheck (.tmp 19), _, _, _, _⟩ (.pointer (some ⟨sb, 0, none⟩)) [14,15,25,26] ?_ KP.out ?_
 ·intro wq hSw
  obtain ⟨y0, y1, y2, y3, y4, y5, y6, y7, y8, y9, y10⟩ := hSw.cells
  go_simp
 (try simp only [zzp, zzb, zzc])
 refine Ix.tk 14 ⟨some 21, .fieldAddr 109 (.tmp 20) 4, _, _, _, _⟩ (.pointer (some ⟨sb, 6, none⟩)) [15,25,26] ?_ KP.out ?_
 ·intro wq hSw
  obtain ⟨y0, y1, y2, y3, y4, y5, y6, y7, y8, y9, y10⟩ := hSw.cells
  go_simp
 (try simp only [zzp, zzb, zzc])
 refine Ix.tk 15 ⟨some 22, .load 3 (.tmp 21), _, _, _, _⟩ (.int .i64 s.size) [25,26] ?_ KP.out ?_
 ·intro wq hSw
  obtain ⟨y0, y1, y2, y3, y4, y5, y6, y7, y8, y9, y10⟩ := hSw.cells
  go_simp
 (try simp only [zzp, zzb, zzc])
 refine Ix.tk 16 ⟨some 23, .move (.tmp 0), _, _, _, _⟩ (.pointer (some ⟨sb, 0, none⟩)) [17,18,19,25,26] ?_ KP.out ?_
 ·intro wq hSw
  obtain ⟨y0, y1, y2, y3, y4, y5, y6, y7, y8, y9, y10⟩ := hSw.cells
  go_simp
 (try simp only [zzp, zzb, zzc])
 refine Ix.tk 17 ⟨some 24, .nilCheck (.tmp 23), _, _, _, _⟩ (.pointer (some ⟨sb, 0, none⟩)) [18,19,25,26] ?_ KP.out ?_
 ·intro wq hSw
  obtain ⟨y0, y1, y2, y3, y4, y5, y6, y7, y8, y9, y10⟩ := hSw.cells
  go_simp
 (try simp only [zzp, zzb, zzc])
 refine Ix.tk 18 ⟨some 25, .fieldAddr 109 (.tmp 24) 5, _, _, _, _⟩ (.pointer (some ⟨sb, 7, none⟩)) [19,25,26] ?_ KP.out ?_
 ·intro wq hSw
  obtain ⟨y0, y1, y2, y3, y4, y5, y6, y7, y8, y9, y10⟩ := hSw.cells
  go_simp
 (try simp only [zzp, zzb, zzc])
 refine Ix.tk 19 ⟨some 26, .load 49 (.tmp 25), _, _, _, _⟩ (.int .u32 s.seed) [25,26] ?_ KP.out ?_
 ·intro wq hSw
  obtain ⟨y0, y1, y2, y3, y4, y5, y6, y7, y8, y9, y10⟩ := hSw.cells
  go_simp
 (try simp only [zzp, zzb, zzc])
 refine Ix.tk 20 ⟨some 27, .move (.tmp 0), _, _, _, _⟩ (.pointer (some ⟨sb, 0, none⟩)) [21,22,23,24,25,26] ?_ KP.out ?_
 ·intro wq hSw
  obtain ⟨y0, y1, y2, y3, y4, y5, y6, y7, y8, y9, y10⟩ := hSw.cells
  go_simp
 (try simp only [zzp, zzb, zzc])
 refine Ix.tk 21 ⟨some 28, .nilCheck (.tmp 27), _, _, _, _⟩ (.pointer (some ⟨sb, 0, none⟩)) [22,23,24,25,26] ?_ KP.out ?_
 ·intro wq hSw
  obtain ⟨y0, y1, y2, y3, y4, y5, y6, y7, y8, y9, y10⟩ := hSw.cells
  go_simp
 (try simp only [zzp, zzb, zzc])
 refine Ix.tk 22 ⟨some 29, .fieldAddr 109 (.tmp 28) 6, _, _, _, _⟩ (.pointer (some ⟨sb, 8, none⟩)) [23,24,25,26] ?_ KP.out ?_
 ·intro wq hSw
  obtain ⟨y0, y1, y2, y3, y4, y5, y6, y7, y8, y9, y10⟩ := hSw.cells
  go_simp
 (try simp only [zzp, zzb, zzc])
 refine Ix.tk 23 ⟨some 30, .load 105 (.tmp 29), _, _, _, _⟩ (.int .i64 s.cond) [24,25,26] ?_ KP.out ?_
 ·intro wq hSw
  obtain ⟨y0, y1, y2, y3, y4, y5, y6, y7, y8, y9, y10⟩ := hSw.cells
  go_simp
 (try simp only [zzp, zzb, zzc])
 refine Ix.tk 24 ⟨some 31, .binOp .neq 105 (.tmp 30) (.const (Value.int IntKind.i64 0)) 105, _, _, _, _⟩ (.bool (s.cond != 0)) [25,26] ?_ KP.out ?_
 ·intro wq hSw
  obtain ⟨y0, y1, y2, y3, y4, y5, y6, y7, y8, y9, y10⟩ := hSw.cells
  go_simp
 (try simp only [zzp, zzb, zzc])
 refine Ix.tk 25 ⟨some 32, .build 79 #[(0, .tmp 10), (1, .tmp 14), (2, .tmp 18), (3, .tmp 22), (4, .tmp 26), (5, .tmp 31)], _, _, _, _⟩ (.agg #[.string s.file, .int .i64 s.num, .int .i64 s.base, .int .u32 s.hs, .int .i64 s.next, .int .i64 s.size, .int .u32 s.seed, .bool (s.cond != 0)]) [26] ?_ KP.out ?_
 ·intro wq hSw
  obtain ⟨y0, y1, y2, y3, y4, y5, y6, y7, y8, y9, y10⟩ := hSw.cells
  go_simp
 (try simp only [zzp, zzb, zzc])
 have FIN := hide (put8_heap KN.out (.string s.file) (.int .i64 s.num) (.int .i64 s.base) (.int .u32 s.hs) (.int .i64 s.next) (.int .i64 s.size) (.int .u32 s.seed) (.bool (s.cond != 0)))
 have FB := hide (put8_below KB.out hg (.string s.file) (.int .i64 s.num) (.int .i64 s.base) (.int .u32 s.hs) (.int .i64 s.next) (.int .i64 s.size) (.int .u32 s.seed) (.bool (s.cond != 0)))
 have FZ : ∀ j, q.frozen? ⟨g, j, none⟩ = false := fun j => by simp [World.frozen?, KN.out]
 have c0 : ∀ j, q.cell? ⟨g, j, none⟩ = _ := fun j => cell_of KN.out
 unfold put8 at FIN FB
 refine wpAnyT_one (i := 26) (o := ⟨none, .store 79 (.tmp 2) (.tmp 32), _, _, _, _⟩) (by kernel_rfl) rfl (fun K hK => ?_)
 go_simp
 refine hK.out _ _ (vac (by kernel_rfl)) ?_
 clear hK K
 (try simp only [zzq])
 refine wpAnyT_done (by kernel_rfl) ?_ _
 go_wp2_with fail
 try simp only [Exit.inBlock, Exit.then]
 refine bodyPost_ret (v := .agg _) (results_cell_row rfl _ _ g 79 _ (0, 0) _ rfl FIN.out Tryz.underlying79 rfl lookSize) rfl ?_
 exact ⟨rfl, by rw [hgs.out]; exact FB.out⟩
end Go.Proofs.YtnimildpcnmjeaaGreatDoor.Sg
namespace Go.Proofs.YtnimildpcnmjeaaGreatDoor.St
open Go.RowKit Go.Maps Go.Sort Go.Shelf Go.Proofs.YtnimildpcnmjeaaGreatDoor.Nm Go.Proofs.YtnimildpcnmjeaaGreatDoor.Dk Go.Proofs.YtnimildpcnmjeaaGreatDoor.Sg Go.Proofs.YtnimildpcnmjeaaGreatDoor.Ct
open Ix (wp_region_T wpAnyT wpAnyT_take wpAnyT_one wpAnyT_done vac)
set_option maxRecDepth 100000
theorem opn_any {w : World} {stb vb n cap : Nat} {p : Option Addr} (h5 : w.cell? ⟨stb, 5, none⟩ = some (.slice (some ⟨vb, 0, none⟩) (n + 1) cap)) (hp : w.cell? ⟨vb, n, none⟩ = some (.pointer p)) (hn : n < 1000000) :
    Calls Tryz.prog 23 #[.pointer (some ⟨stb, 0, none⟩)] w fun e w' => e = .returned (.pointer p) ∧ Qt w w' := by
 go_enter Tryz.func23, Tryz.ntmps23
 go_upto_region 1 with fail
 go_quiet (fail)
 all_goals go_wp2_with fail
 all_goals go_ret
 all_goals exact ⟨rfl, nq, rfl⟩
theorem StR.butS {X : Nat → Prop} {A B : World} {stb b : Nat} {cs : List Sg} {ss : List SG} {S : DS} {O : Nat → Prop} {qs : List Bls} {vC vS : Value} (h : StR A stb b cs ss S O qs vC vS) (hb : But X A B) (hx : ∀ k, k ≠ stb → StO stb O qs vC vS k → ¬ X k) : StR B stb b cs ss S O qs vC vS :=
 ⟨h.ct.but hb fun k hk => hx k (h.nC k hk).2.1 (.inr (.inr (.inl hk))), row_but h.sp hb fun k hk => hx k (h.nS k hk).2 (.inr (.inr (.inr (.inl hk)))), h.len,
  fun i q s hq hs => ⟨(h.sg i q s hq hs).1.but hb fun k hk => hx k (h.aO q (List.mem_of_getElem? hq) k hk).2.1 (.inr (.inr (.inr (.inr ⟨q, List.mem_of_getElem? hq, hk⟩)))), (h.sg i q s hq hs).2⟩,
  h.dk.but hb fun k hk => hx k (fun c => h.nO (c ▸ hk)) (.inr (.inl hk)), h.ap, h.aO, h.nC, h.nS, h.nO⟩
theorem StR.last {w : World} {stb b : Nat} {cs : List Sg} {ss : List SG} {S : DS} {O : Nat → Prop} {qs : List Bls} {vC vS : Value} (h : StR w stb b cs ss S O qs vC vS) {n : Nat} (hn : qs.length = n + 1) : ∃ vb cap, vS = .slice (some ⟨vb, 0, none⟩) (n + 1) cap ∧ ∀ q, qs[n]? = some q → w.cell? ⟨vb, n, none⟩ = some (.pointer (some ⟨q.sb, 0, none⟩)) := by
 have h0 := h.sp
 rcases h.sp.2 with ⟨e1, e2⟩ | ⟨g, cap, cur, e, hb, hg, r⟩
 ·omega
 ·rw [hn] at e
  refine ⟨g, cap, e, fun q hq => ?_⟩
  rw [e, hn] at h0
  rw [World.ownsRow.cellAt h0 n (by omega), List.getElem?_map, hq]
  rfl
theorem open_new {w : World} {b : Nat} {S : DS} {O : Nat → Prop} (hd : DskE w b S O) (hu : S.up = true) (hP : S.P = []) (m ba : Int) (m1 : 64 ≤ m) (m2 : m ≤ 1048576) (h1 : 1 ≤ ba) (h2 : ba ≤ 9223372036854775807) (hT : Tab16 w)
    {M : Nat} {F : Nat → Fl} {c : Int} (hca : Ca S M [] F c) (hc : c < 600000000) (hM : 200 ≤ M) :
    Calls Tryz.prog 7 #[.pointer (some ⟨b, 0, none⟩), .agg #[.int .i64 m, .int .i64 ba]] w fun e w' => ∃ stb p1 p2 O' q vC vS, e = .returned (.tuple #[.pointer (some ⟨stb, 0, none⟩), .agg #[.bool true, .int .i64 0, .int .i64 0], .int .i64 0]) ∧ w.heap.size ≤ stb ∧ p1 ∉ S.ps ∧ p2 ∉ (creF S (nmF 1) 1 ba 0#32 p1).1.ps ∧ StB w' stb #[.pointer (some ⟨b, 0, none⟩), .int .i64 m, .int .i64 1, .int .i64 ba, vC, vS, .int .i64 ba, .int .i64 ba, .int .i64 0, .bool false] ∧
     StR w' stb b [sg1 ba] [newSG b (nmF 1) 1 ba 0#32 (whF 1 ba 0#32).2.1] (re5 (creF S (nmF 1) 1 ba 0#32 p1).1 catB cnxB (bytesC 1 ba [sg1 ba]) p2) O' [q] vC vS ∧ Sgo w w' O (StO stb O' [q] vC vS) := by
 have hmf : ∀ (fn : Fn) (first cap : Array Value) (w : World), (Instr.makeFunc fn first cap).run Tryz.prog w = .ok (.func fn first cap) w := fun _ _ _ _ => rfl
 obtain ⟨g0, hg0⟩ : ∃ g0, Hid (w.heap.size = g0) := ⟨_, rfl⟩
 have B0 := box_below w (.cells #[.int .i64 m, .int .i64 ba] 23)
 have N0 := heap_alloc_new w (.cells #[.int .i64 m, .int .i64 ba] 23)
 obtain ⟨w0, hw0⟩ : ∃ w0, Hid (w.alloc (.cells #[.int .i64 m, .int .i64 ba] 23) = w0) := ⟨_, rfl⟩
 have hz0 : w0.heap.size = g0 + 1 := by rw [← hw0.out, ← hg0.out]; simp
 rw [hw0.out] at B0 N0
 rw [hg0.out] at N0
 have B1 := box_below w0 (.cells #[.pointer none] 28)
 have N1 := heap_alloc_new w0 (.cells #[.pointer none] 28)
 obtain ⟨w1, hw1⟩ : ∃ w1, Hid (w0.alloc (.cells #[.pointer none] 28) = w1) := ⟨_, rfl⟩
 have hz1 : w1.heap.size = g0 + 2 := by rw [← hw1.out]; simp [hz0]
 rw [hw1.out] at B1 N1
 rw [hz0] at N1
 have B2 := box_below w1 (.cells #[.bool false, .int .i64 0, .int .i64 0] 30)
 have N2 := heap_alloc_new w1 (.cells #[.bool false, .int .i64 0, .int .i64 0] 30)
 obtain ⟨w2, hw2⟩ : ∃ w2, Hid (w1.alloc (.cells #[.bool false, .int .i64 0, .int .i64 0] 30) = w2) := ⟨_, rfl⟩
 have hz2 : w2.heap.size = g0 + 3 := by rw [← hw2.out]; simp [hz1]
 rw [hw2.out] at B2 N2
 rw [hz1] at N2
 have B3 := box_below w2 (.cells #[.int .i64 0] 31)
 have N3 := heap_alloc_new w2 (.cells #[.int .i64 0] 31)
 obtain ⟨w3, hw3⟩ : ∃ w3, Hid (w2.alloc (.cells #[.int .i64 0] 31) = w3) := ⟨_, rfl⟩
 have hz3 : w3.heap.size = g0 + 4 := by rw [← hw3.out]; simp [hz2]
 rw [hw3.out] at B3 N3
 rw [hz2] at N3
 have P3 := hide ((keepF B1 (keepF B2 B3)).block _ (heap_lt N0) |>.trans N0)
 have Q3 := hide ((keepF B2 B3).block _ (heap_lt N1) |>.trans N1)
 have F3 := hide (B3.block _ (heap_lt N2) |>.trans N2)
 have E3 := hide N3
 have B03 := hide (keepF B0 (keepF B1 (keepF B2 B3)))
 have y0 : w3.cell? ⟨g0, 0, none⟩ = some (.int .i64 m) := by rw [cell_of P3.out]; rfl
 have y1 : w3.cell? ⟨g0, 1, none⟩ = some (.int .i64 ba) := by rw [cell_of P3.out]; rfl
 have hMay := hide (may_yes w3 m ba m1 m2 h1)
 clear B0 B1 B2 B3 N0 N1 N2 N3
 replace hz0 := hide hz0; replace hz1 := hide hz1; replace hz2 := hide hz2; replace hz3 := hide hz3
 go_enter_defers Tryz.func7, Tryz.ntmps7
 go_upto_region 1 with fail
 rw [hw0.out, hw1.out, hw2.out, hw3.out, hg0.out, show g0 + 1 + 1 = g0 + 2 from rfl, show g0 + 2 + 1 = g0 + 3 from rfl]
 go_upto_region 4 with (first
  | (go_at_call 15; refine hMay.out.mono ?_; rintro e w4 ⟨rfl, B4⟩; replace B4 := hide B4)
  | fail)
 clear y0 y1
 have P4 := hide ((B4.out.block _ (heap_lt P3.out)).trans P3.out)
 have Q4 := (B4.out.block _ (heap_lt Q3.out)).trans Q3.out
 have F4 := (B4.out.block _ (heap_lt F3.out)).trans F3.out
 have E4 := (B4.out.block _ (heap_lt E3.out)).trans E3.out
 obtain ⟨gb, hgb⟩ : ∃ g, Hid (w4.heap.size = g) := ⟨_, rfl⟩
 have hgb4 : g0 + 4 ≤ gb := by rw [← hgb.out, ← hz3.out]; exact B4.out.size
 have B5 := box_below w4 (.cells #[.pointer (some ⟨b, 0, none⟩), .int .i64 m, .int .i64 0, .int .i64 0, .slice none 0 0, .slice none 0 0, .int .i64 0, .int .i64 0, .int .i64 0, .bool false] 69)
 have N5 := heap_alloc_new w4 (.cells #[.pointer (some ⟨b, 0, none⟩), .int .i64 m, .int .i64 0, .int .i64 0, .slice none 0 0, .slice none 0 0, .int .i64 0, .int .i64 0, .int .i64 0, .bool false] 69)
 obtain ⟨w5, hw5⟩ : ∃ w5, Hid (w4.alloc (.cells #[.pointer (some ⟨b, 0, none⟩), .int .i64 m, .int .i64 0, .int .i64 0, .slice none 0 0, .slice none 0 0, .int .i64 0, .int .i64 0, .int .i64 0, .bool false] 69) = w5) := ⟨_, rfl⟩
 rw [hw5.out] at B5 N5
 rw [hgb.out] at N5
 have P5 := (B5.block _ (heap_lt P4.out)).trans P4.out
 have Q5 := (B5.block _ (heap_lt Q4)).trans Q4
 have F5 := (B5.block _ (heap_lt F4)).trans F4
 have E5 := (B5.block _ (heap_lt E4)).trans E4
 have E6 : But (fun k => k = g0 + 1) w5 (w5.setCell ⟨g0 + 1, 0, none⟩ (.pointer (some ⟨gb, 0, none⟩))) := But.of_grownBy (grown_setCell w5 (g0 + 1) 0 _) fun k e => by cases e; rfl
 have Q6 : (w5.setCell ⟨g0 + 1, 0, none⟩ (.pointer (some ⟨gb, 0, none⟩))).heap[g0 + 1]? = some (.cells #[.pointer (some ⟨gb, 0, none⟩)] 28 (0, 0)) := by rw [heap_setCell_same _ (g0 + 1) 0 _ _ _ Q5]; rfl
 have y0 : w4.cell? ⟨g0, 0, none⟩ = some (.int .i64 m) := by rw [cell_of P4.out]; rfl
 have zq : (w4.alloc (.cells #[.pointer (some ⟨b, 0, none⟩), .int .i64 m, .int .i64 0, .int .i64 0, .slice none 0 0, .slice none 0 0, .int .i64 0, .int .i64 0, .int .i64 0, .bool false] 69)).frozen? ⟨g0 + 1, 0, none⟩ = false := by rw [hw5.out]; exact put3_frozen Q5
 have xq : (w4.alloc (.cells #[.pointer (some ⟨b, 0, none⟩), .int .i64 m, .int .i64 0, .int .i64 0, .slice none 0 0, .slice none 0 0, .int .i64 0, .int .i64 0, .int .i64 0, .bool false] 69)).cell? ⟨g0 + 1, 0, none⟩ = some (.pointer none) := by rw [hw5.out, cell_of Q5]; rfl
 go_upto_region 5 with fail
 clear zq xq
 rw [hw5.out, hgb.out]
 have hz5 : w5.heap.size = gb + 1 := by rw [← hw5.out, ← hgb.out]; simp
 obtain ⟨w6, hw6⟩ : ∃ w6, Hid (w5.setCell ⟨g0 + 1, 0, none⟩ (.pointer (some ⟨gb, 0, none⟩)) = w6) := ⟨_, rfl⟩
 have hz6 : w6.heap.size = gb + 1 := by rw [← hw6.out]; simp [hz5]
 rw [hw6.out] at E6 Q6
 rw [hw6.out]
 have P6 := (E6.block _ (heap_lt P5) (by omega)).trans P5
 have F6 := (E6.block _ (heap_lt F5) (by omega)).trans F5
 have E6' := (E6.block _ (heap_lt E5) (by omega)).trans E5
 have S6 := (E6.block _ (heap_lt N5) (by omega)).trans N5
 have hOl : ∀ k, O k → k < g0 := fun k hk => by have := hd.lt k hk; rw [← hg0.out]; exact this
 have D6 := (((hd.below B03.out).below B4.out).below B5).but E6 fun k hk e => by have := hOl k hk; omega
 have T5 := ((hT.below B03.out).below B4.out).below B5
 have T6 : Tab16 w6 := by
  have hG := lt_of_cell hT
  rw [hg0.out] at hG
  have e : w6.heap[3]? = w5.heap[3]? := E6.block _ (by rw [hz5]; exact Nat.lt_trans hG (by omega)) (fun c => by have h : (3 : Nat) < g0 := hG; omega)
  have hh := T5
  unfold Tab16 World.cell? at hh ⊢
  rw [e]
  exact hh
 have hSet := hide (settle_any S6 D6 hu hca.dir hP (by rw [hca.c7]; omega))
 have y6 : w6.cell? ⟨g0 + 1, 0, none⟩ = some (.pointer (some ⟨gb, 0, none⟩)) := by rw [cell_of Q6]; rfl
 have FR : Hid (g0 + 4 ≤ gb ∧ (∀ k, O k → k < g0) ∧ w6.heap.size = gb + 1 ∧ Tab16 w6 ∧ DskE w6 b S O) := hide ⟨hgb4, hOl, hz6, T6, D6⟩
 have C6 : Hid (w6.heap[g0]? = some (.cells #[.int .i64 m, .int .i64 ba] 23 (0, 0)) ∧ w6.heap[g0 + 1]? = some (.cells #[.pointer (some ⟨gb, 0, none⟩)] 28 (0, 0)) ∧ w6.heap[g0 + 2]? = some (.cells #[.bool false, .int .i64 0, .int .i64 0] 30 (0, 0)) ∧ w6.heap[g0 + 3]? = some (.cells #[.int .i64 0] 31 (0, 0)) ∧ StB w6 gb #[.pointer (some ⟨b, 0, none⟩), .int .i64 m, .int .i64 0, .int .i64 0, .slice none 0 0, .slice none 0 0, .int .i64 0, .int .i64 0, .int .i64 0, .bool false]) := hide ⟨P6, Q6, F6, E6', S6⟩
 have BW : Hid (But O w w6) := hide (by
  refine but_cut (But.of_below (keepF (keepF B03.out B4.out) B5) _) E6 fun i hi c => ?_
  have := hg0.out
  omega)
 clear T5 T6 D6 hOl P6 Q6 F6 E6' S6 E6 P5 Q5 F5 E5 N5 B5 P4 Q4 F4 E4 P3 Q3 F3 E3 B4 B03 hMay y0 hgb4 hd hT
 replace hz5 := hide hz5; replace hz6 := hide hz6
 go_upto_region 8 with (first
  | (go_at_call 18; refine hSet.out.mono ?_; rintro e w7 ⟨va, vc, rfl, B7⟩; replace B7 := hide B7; have y7 := (B7.out.cell (lt_of_cell y6)).trans y6)
  | (go_at_call 20; refine (cat_any _).mono ?_; rintro e wm ⟨rfl, hwm⟩; rw [hwm]; clear hwm wm)
  | (go_at_call 19; refine (contains_nil _ _ _ _).mono ?_; rintro e wm ⟨rfl, hwm⟩; rw [hwm]; clear hwm wm)
  | fail)
 obtain ⟨f1, f2, f3, f4, f5⟩ := FR.out
 obtain ⟨p6, q6, e6, r6, s6⟩ := C6.out
 have p7 := (B7.out.block _ (heap_lt p6)).trans p6
 have q7 := (B7.out.block _ (heap_lt q6)).trans q6
 have e7 := (B7.out.block _ (heap_lt e6)).trans e6
 have r7 := (B7.out.block _ (heap_lt r6)).trans r6
 have s7 := (B7.out.block _ (heap_lt s6)).trans s6
 have hBe := hide (begin_any s7 (f5.below B7.out) (fun c => by have := f2 _ c; omega) va vc ba h1 h2 (f4.below B7.out) hca hc rfl rfl (by decide) (by show 0 + 200 ≤ M; omega))
 have y8 : w7.cell? ⟨g0, 1, none⟩ = some (.int .i64 ba) := by rw [cell_of p7]; rfl
 have hz7 : gb + 1 ≤ w7.heap.size := by rw [← hz6.out]; exact B7.out.size
 have C7 : Hid (w7.heap[g0 + 1]? = some (.cells #[.pointer (some ⟨gb, 0, none⟩)] 28 (0, 0)) ∧ w7.heap[g0 + 2]? = some (.cells #[.bool false, .int .i64 0, .int .i64 0] 30 (0, 0)) ∧ w7.heap[g0 + 3]? = some (.cells #[.int .i64 0] 31 (0, 0))) := hide ⟨q7, e7, r7⟩
 have FR7 : Hid (g0 + 4 ≤ gb ∧ (∀ k, O k → k < g0) ∧ gb + 1 ≤ w7.heap.size) := hide ⟨f1, f2, hz7⟩
 clear f1 f2 f3 f4 f5 p6 q6 e6 r6 s6 p7 q7 e7 r7 s7 hz7 FR C6 hSet y6
 go_upto_region 9 with (first
  | (go_at_call 22; refine hBe.out.mono ?_; rintro e w8 ⟨rfl, p1, p2, O', qq, vC, vS, hp1, hp2, S8, R8, G8⟩
     obtain ⟨f1, f2, f3⟩ := FR7.out
     obtain ⟨q7, e7, r7⟩ := C7.out
     have nx : ∀ k, g0 < k → k < gb → ¬ (k = gb ∨ O k) := fun k h1 h2 c => by
      rcases c with c | c
      ·omega
      ·have := f2 k c; omega
     have q8 := (G8.but.block _ (heap_lt q7) (nx _ (by omega) (by omega))).trans q7
     have e8 := (G8.but.block _ (heap_lt e7) (nx _ (by omega) (by omega))).trans e7
     have r8 := (G8.but.block _ (heap_lt r7) (nx _ (by omega) (by omega))).trans r7
     have FZ : ∀ j, w8.frozen? ⟨g0 + 2, j, none⟩ = false := fun j => by simp [World.frozen?, e8]
     have c8 : ∀ j, w8.cell? ⟨g0 + 2, j, none⟩ = _ := fun j => cell_of e8)
  | fail)
 have F9 := put3_heap e8 (.bool true) (.int .i64 0) (.int .i64 0)
 have X9 : But (fun k => k = g0 + 2) w8 (put3 w8 (g0 + 2) (.bool true) (.int .i64 0) (.int .i64 0)) := ((But.of_grownBy (grown_setCell w8 (g0 + 2) 0 _) fun k e => by cases e; rfl).trans (But.of_grownBy (grown_setCell _ (g0 + 2) 1 _) fun k e => by cases e; rfl)).trans (But.of_grownBy (grown_setCell _ (g0 + 2) 2 _) fun k e => by cases e; rfl)
 unfold put3 at F9 X9
 obtain ⟨w9, hw9⟩ : ∃ w9, Hid (((w8.setCell ⟨g0 + 2, 0, none⟩ (.bool true)).setCell ⟨g0 + 2, 1, none⟩ (.int .i64 0)).setCell ⟨g0 + 2, 2, none⟩ (.int .i64 0) = w9) := ⟨_, rfl⟩
 rw [hw9.out] at F9 X9
 rw [hw9.out]
 obtain ⟨f1, f2, f3⟩ := FR7.out
 have OW : ∀ k, StO gb O' [qq] vC vS k → k = gb ∨ O k ∨ gb + 1 ≤ k := fun k hk => by
  rcases G8.own k hk with (c | c) | c
  ·exact .inl c
  ·exact .inr (.inl c)
  ·exact .inr (.inr (by omega))
 have nY : ∀ k, k ≠ gb → StO gb O' [qq] vC vS k → ¬ (k = g0 + 1 ∨ k = g0 + 2 ∨ k = g0 + 3 ∨ k = gb) := fun k hne hk c => by
  have := OW k hk
  rcases this with d | d | d
  ·exact hne d
  ·have := f2 k d; omega
  ·omega
 have R9 := R8.butS X9 fun k hne hk c => nY k hne hk (.inr (.inl c))
 have S9 := (X9.block _ (heap_lt S8) (by omega)).trans S8
 have q9 := (X9.block _ (heap_lt q8) (by omega)).trans q8
 have r9 := (X9.block _ (heap_lt r8) (by omega)).trans r8
 have B89 := X9.trans (But.of_below (Below.refl _ w9).drew _)
 clear FZ c8 R8 S8 q8 e8 r8 y7 y8 hBe C7
 refine wp_region_noPanic ?_
 refine wp_region_T (fun q => q.cell? ⟨g0 + 1, 0, none⟩ = some (.pointer (some ⟨gb, 0, none⟩))) 7 (by kernel_rfl) ?_
 have DR := (Below.refl w9.heap.size w9).drew
 have R10 := R9.below DR
 have S10 := (DR.block _ (heap_lt S9)).trans S9
 have q10 := (DR.block _ (heap_lt q9)).trans q9
 have r10 := (DR.block _ (heap_lt r9)).trans r9
 have F10 := (DR.block _ (heap_lt F9)).trans F9
 have KP : Hid (w9.drew.cell? ⟨g0 + 1, 0, none⟩ = some (.pointer (some ⟨gb, 0, none⟩))) := hide (by rw [cell_of q10]; rfl)
 clear DR R9 S9 q9 r9 F9
 generalize w9.drew = q at *
 obtain ⟨vb, cap, rfl, hcl⟩ := R10.last (n := 0) rfl
 have hcl := hcl qq rfl
 have h5 : q.cell? ⟨gb, 5, none⟩ = some (.slice (some ⟨vb, 0, none⟩) (0 + 1) cap) := by rw [cell_of S10]; rfl
 have hOp := hide (opn_any h5 hcl (by omega))
 have hSg := (R10.sg 0 qq _ rfl rfl).1
 have hLk : Hid (∀ u, Qt q u → Calls Tryz.prog 24 #[.pointer (some ⟨qq.sb, 0, none⟩)] u fun e w' => e = .returned (.agg #[.string (nmF 1), .int .i64 1, .int .i64 ba, .int .u32 0, .int .i64 ba, .int .i64 32, .int .u32 ((whF 1 ba 0#32).2.1.toNat : Int), .bool false]) ∧ Below u.heap.size u w') := hide fun u hu => look_any (hSg.below (Qt.below hu _))
 clear hcl h5 hSg
 refine Ix.tk 0 ⟨some 35, .load 28 (.tmp 4), _, _, _, _⟩ (.pointer (some ⟨gb, 0, none⟩)) [5,6,7] ?_ KP.out ?_
 ·intro wq hSw; go_simp
 (try simp only [zzp, zzb, zzc])
 refine Ix.tk 1 ⟨some 36, .load 28 (.tmp 4), _, _, _, _⟩ (.pointer (some ⟨gb, 0, none⟩)) [2,3,4,7] ?_ KP.out ?_
 ·intro wq hSw; go_simp
 (try simp only [zzp, zzb, zzc])
 refine wpAnyT_one (i := 2) (o := ⟨some 37, .call { callee := .value (.func 23), args := #[.tmp 36], argTypes := #[28] }, _, _, _, _⟩) (by kernel_rfl) rfl (fun K hK => ?_)
 go_simp
 go_at_call 23
 refine hOp.out.mono ?_
 rintro e w10 ⟨rfl, Q10⟩
 replace Q10 := hide Q10
 have K10 := hide ((Qt.below Q10.out _).cell (lt_of_cell KP.out) |>.trans KP.out)
 (try go_simp)
 refine hK.out _ _ (fun _ => K10.out) ?_
 clear hK K
 (try simp only [zzp, zzb, zzc])
 refine wpAnyT_one (i := 3) (o := ⟨some 38, .call { callee := .value (.func 24), args := #[.tmp 37], argTypes := #[80] }, _, _, _, _⟩) (by kernel_rfl) rfl (fun K hK => ?_)
 go_simp
 go_at_call 24
 refine (hLk.out _ Q10.out).mono ?_
 rintro e w11 ⟨rfl, B11⟩
 replace B11 := hide B11
 have K11 := hide (B11.out.cell (lt_of_cell K10.out) |>.trans K10.out)
 (try go_simp)
 refine hK.out _ _ (fun _ => K11.out) ?_
 clear hK K
 (try simp only [zzp, zzb, zzc])
 refine wpAnyT_one (i := 4) (o := ⟨some 39, .field 79 (.tmp 38) 2, _, _, _, _⟩) (by kernel_rfl) rfl (fun K hK => ?_)
 go_simp
 refine hK.out _ _ (fun _ => K11.out) ?_
 clear hK K
 (try simp only [zzp, zzb, zzc])
 refine wpAnyT_one (i := 5) (o := ⟨some 40, .nilCheck (.tmp 35), _, _, _, _⟩) (by kernel_rfl) rfl (fun K hK => ?_)
 go_simp
 refine hK.out _ _ (fun _ => K11.out) ?_
 clear hK K
 (try simp only [zzp, zzb, zzc])
 refine wpAnyT_one (i := 6) (o := ⟨some 41, .fieldAddr 69 (.tmp 40) 4, _, _, _, _⟩) (by kernel_rfl) rfl (fun K hK => ?_)
 go_simp
 refine hK.out _ _ (fun _ => K11.out) ?_
 clear hK K
 (try simp only [zzp, zzb, zzc])
 have BQ := hide (keepF (Qt.below Q10.out q.heap.size) B11.out)
 have S11 := (BQ.out.block _ (heap_lt S10)).trans S10
 have f6 : w11.frozen? ⟨gb, 6, none⟩ = false := by simp [World.frozen?, S11]
 have c6 : w11.cell? ⟨gb, 6, none⟩ = some (.int .i64 0) := by rw [cell_of S11]; rfl
 refine wpAnyT_one (i := 7) (o := ⟨none, .store 2 (.tmp 41) (.tmp 39), _, _, _, _⟩) (by kernel_rfl) rfl (fun K hK => ?_)
 go_simp
 refine hK.out _ _ (vac (by kernel_rfl)) ?_
 clear hK K
 (try simp only [zzq])
 refine wpAnyT_done (by kernel_rfl) ?_ _
 refine NoPanic.normal ?_
 clear f6 c6
 have q11 := (BQ.out.block _ (heap_lt q10)).trans q10
 have r11 := (BQ.out.block _ (heap_lt r10)).trans r10
 have F11 := (BQ.out.block _ (heap_lt F10)).trans F10
 have R11 := hide (R10.below BQ.out)
 have B811 := hide (B89.trans (But.of_below BQ.out _))
 have X12 : But (fun k => k = gb) w11 (w11.setCell ⟨gb, 6, none⟩ (.int .i64 ba)) := But.of_grownBy (grown_setCell w11 gb 6 _) fun k e => by cases e; rfl
 have S12 : StB (w11.setCell ⟨gb, 6, none⟩ (.int .i64 ba)) gb #[.pointer (some ⟨b, 0, none⟩), .int .i64 m, .int .i64 1, .int .i64 ba, vC, .slice (some ⟨vb, 0, none⟩) (0 + 1) cap, .int .i64 ba, .int .i64 0, .int .i64 0, .bool false] := by show _ = _; rw [heap_setCell_same _ gb 6 _ _ _ S11]; rfl
 clear S10 q10 r10 F10 B89 R10 S11
 obtain ⟨w12, hw12⟩ : ∃ w12, Hid (w11.setCell ⟨gb, 6, none⟩ (.int .i64 ba) = w12) := ⟨_, rfl⟩
 rw [hw12.out] at X12 S12
 rw [hw12.out]
 have q12 := (X12.block _ (heap_lt q11) (by omega)).trans q11
 have r12 := (X12.block _ (heap_lt r11) (by omega)).trans r11
 have F12 := (X12.block _ (heap_lt F11) (by omega)).trans F11
 have y1 : w12.cell? ⟨g0 + 1, 0, none⟩ = some (.pointer (some ⟨gb, 0, none⟩)) := by rw [cell_of q12]; rfl
 have y2 : w12.cell? ⟨gb, 6, none⟩ = some (.int .i64 ba) := by rw [cell_of S12]; rfl
 have y3 : w12.cell? ⟨gb, 7, none⟩ = some (.int .i64 0) := by rw [cell_of S12]; rfl
 have y4 : w12.frozen? ⟨gb, 7, none⟩ = false := by simp [World.frozen?, S12]
 replace q11 := hide q11; replace r11 := hide r11; replace F11 := hide F11; replace X12 := hide X12; replace S12 := hide S12; replace q12 := hide q12; replace r12 := hide r12; replace F12 := hide F12
 go_upto_region 10 with fail
 go_region
 clear y1 y2 y3 y4
 try simp only [Exit.then]
 have X13 : But (fun k => k = gb) w12 (w12.setCell ⟨gb, 7, none⟩ (.int .i64 ba)).drew := (But.of_grownBy (grown_setCell w12 gb 7 _) fun k e => by cases e; rfl).trans (But.of_below (Below.refl _ _).drew _)
 have S13 : StB (w12.setCell ⟨gb, 7, none⟩ (.int .i64 ba)).drew gb #[.pointer (some ⟨b, 0, none⟩), .int .i64 m, .int .i64 1, .int .i64 ba, vC, .slice (some ⟨vb, 0, none⟩) (0 + 1) cap, .int .i64 ba, .int .i64 ba, .int .i64 0, .bool false] := by
  have h : StB (w12.setCell ⟨gb, 7, none⟩ (.int .i64 ba)) gb #[.pointer (some ⟨b, 0, none⟩), .int .i64 m, .int .i64 1, .int .i64 ba, vC, .slice (some ⟨vb, 0, none⟩) (0 + 1) cap, .int .i64 ba, .int .i64 ba, .int .i64 0, .bool false] := by show _ = _; rw [heap_setCell_same _ gb 7 _ _ _ S12.out]; rfl
  exact ((Below.refl _ _).drew.block _ (heap_lt h)).trans h
 generalize hw13 : (w12.setCell ⟨gb, 7, none⟩ (.int .i64 ba)).drew = w13 at *
 have q13 := (X13.block _ (heap_lt q12.out) (by omega)).trans q12.out
 have r13 := (X13.block _ (heap_lt r12.out) (by omega)).trans r12.out
 have F13 := (X13.block _ (heap_lt F12.out) (by omega)).trans F12.out
 have z1 : ∀ j, w13.frozen? ⟨g0 + 1, j, none⟩ = false := fun j => by simp [World.frozen?, q13]
 have z2 : ∀ j, w13.frozen? ⟨g0 + 2, j, none⟩ = false := fun j => by simp [World.frozen?, F13]
 have z3 : ∀ j, w13.frozen? ⟨g0 + 3, j, none⟩ = false := fun j => by simp [World.frozen?, r13]
 have c1 : w13.cell? ⟨g0 + 1, 0, none⟩ = some (.pointer (some ⟨gb, 0, none⟩)) := by rw [cell_of q13]; rfl
 have c3 : w13.cell? ⟨g0 + 3, 0, none⟩ = some (.int .i64 0) := by rw [cell_of r13]; rfl
 have d0 : w13.cell? ⟨g0 + 2, 0, none⟩ = some (.bool true) := by rw [cell_of F13]; rfl
 have d1 : w13.cell? ⟨g0 + 2, 1, none⟩ = some (.int .i64 0) := by rw [cell_of F13]; rfl
 have d2 : w13.cell? ⟨g0 + 2, 2, none⟩ = some (.int .i64 0) := by rw [cell_of F13]; rfl
 replace q13 := hide q13; replace r13 := hide r13; replace F13 := hide F13; replace X13 := hide X13; replace S13 := hide S13
 replace hw13 := hide hw13
 go_upto_region 11 with fail
 go_region
 clear z1 z2 z3 c1 c3 d0 d1 d2
 try simp only [Exit.then]
 have XA : But (fun k => k = g0 + 1) w13 (w13.setCell ⟨g0 + 1, 0, none⟩ (.pointer (some ⟨gb, 0, none⟩))) := But.of_grownBy (grown_setCell w13 (g0 + 1) 0 _) fun k e => by cases e; rfl
 have qA : (w13.setCell ⟨g0 + 1, 0, none⟩ (.pointer (some ⟨gb, 0, none⟩))).heap[g0 + 1]? = some (.cells #[.pointer (some ⟨gb, 0, none⟩)] 28 (0, 0)) := by rw [heap_setCell_same _ (g0 + 1) 0 _ _ _ q13.out]; rfl
 have FA := (XA.block _ (heap_lt F13.out) (by omega)).trans F13.out
 have rA := (XA.block _ (heap_lt r13.out) (by omega)).trans r13.out
 generalize hwA : w13.setCell ⟨g0 + 1, 0, none⟩ (.pointer (some ⟨gb, 0, none⟩)) = wA at *
 have FB := put3_heap FA (.bool true) (.int .i64 0) (.int .i64 0)
 have XB : But (fun k => k = g0 + 2) wA (put3 wA (g0 + 2) (.bool true) (.int .i64 0) (.int .i64 0)) := ((But.of_grownBy (grown_setCell wA (g0 + 2) 0 _) fun k e => by cases e; rfl).trans (But.of_grownBy (grown_setCell _ (g0 + 2) 1 _) fun k e => by cases e; rfl)).trans (But.of_grownBy (grown_setCell _ (g0 + 2) 2 _) fun k e => by cases e; rfl)
 unfold put3 at FB XB
 generalize hwB : ((wA.setCell ⟨g0 + 2, 0, none⟩ (.bool true)).setCell ⟨g0 + 2, 1, none⟩ (.int .i64 0)).setCell ⟨g0 + 2, 2, none⟩ (.int .i64 0) = wB at *
 have qB := (XB.block _ (heap_lt qA) (by omega)).trans qA
 have rB := (XB.block _ (heap_lt rA) (by omega)).trans rA
 have XC : But (fun k => k = g0 + 3) wB (wB.setCell ⟨g0 + 3, 0, none⟩ (.int .i64 0)).drew := (But.of_grownBy (grown_setCell wB (g0 + 3) 0 _) fun k e => by cases e; rfl).trans (But.of_below (Below.refl _ _).drew _)
 have rC : (wB.setCell ⟨g0 + 3, 0, none⟩ (.int .i64 0)).drew.heap[g0 + 3]? = some (.cells #[.int .i64 0] 31 (0, 0)) := by
  have h : (wB.setCell ⟨g0 + 3, 0, none⟩ (.int .i64 0)).heap[g0 + 3]? = some (.cells #[.int .i64 0] 31 (0, 0)) := by rw [heap_setCell_same _ (g0 + 3) 0 _ _ _ rB]; rfl
  exact ((Below.refl _ _).drew.block _ (heap_lt h)).trans h
 generalize hwC : (wB.setCell ⟨g0 + 3, 0, none⟩ (.int .i64 0)).drew = wC at *
 have qC := (XC.block _ (heap_lt qB) (by omega)).trans qB
 have FC := (XC.block _ (heap_lt FB) (by omega)).trans FB
 have X14 : Hid (But (fun k => k = g0 + 1 ∨ k = g0 + 2 ∨ k = g0 + 3) w13 wC) := hide (((XA.mono fun k _ c => .inl c).trans (XB.mono fun k _ c => .inr (.inl c))).trans (XC.mono fun k _ c => .inr (.inr c)))
 have c1 : wC.cell? ⟨g0 + 1, 0, none⟩ = some (.pointer (some ⟨gb, 0, none⟩)) := by rw [cell_of qC]; rfl
 have c3 : wC.cell? ⟨g0 + 3, 0, none⟩ = some (.int .i64 0) := by rw [cell_of rC]; rfl
 have d0 : wC.cell? ⟨g0 + 2, 0, none⟩ = some (.bool true) := by rw [cell_of FC]; rfl
 have d1 : wC.cell? ⟨g0 + 2, 1, none⟩ = some (.int .i64 0) := by rw [cell_of FC]; rfl
 have d2 : wC.cell? ⟨g0 + 2, 2, none⟩ = some (.int .i64 0) := by rw [cell_of FC]; rfl
 clear XA qA FA rA FB XB qB rB XC rC qC FC hwA hwB hwC
 have szF : (Tryz.prog.info? 30).map (·.size) = some 3 := by kernel_rfl
 go_wp2_with fail
 refine leaves_cons (f := 16) (args := #[.pointer (some ⟨g0 + 1, 0, none⟩), .pointer (some ⟨g0 + 2, 0, none⟩), .pointer (some ⟨g0 + 3, 0, none⟩)]) (by simp) (by simp [go_sem]) ?_
 refine (idle_open _ _ _ _).mono ?_
 rintro e u' wl ⟨rfl, rfl, rfl⟩
 simp [Leaves, settle, results, Tryz.results7, go_sem, c1, c3, d0, d1, d2]
 have XE : But (fun k => k = g0 + 1 ∨ k = g0 + 2 ∨ k = g0 + 3 ∨ k = gb) w11 wl := ((X12.out.mono fun k _ c => .inr (.inr (.inr c))).trans (X13.out.mono fun k _ c => .inr (.inr (.inr c)))).trans (X14.out.mono fun k _ c => by
  rcases c with c | c | c
  ·exact .inl c
  ·exact .inr (.inl c)
  ·exact .inr (.inr (.inl c)))
 have hw := hg0.out
 refine ⟨by omega, p1, hp1, p2, hp2, O', qq, vC, .slice (some ⟨vb, 0, none⟩) (0 + 1) cap, (X14.out.block _ (heap_lt S13.out) (by omega)).trans S13.out, R11.out.butS XE nY, ?_, fun k hk => ?_⟩
 ·refine but_cut (but_cut (but_cut (but_cut BW.out (But.of_below B7.out fun _ => False) fun i _ c => c.elim) G8.but fun i hi c => ?_) B811.out fun i hi c => ?_) XE fun i hi c => ?_
  ·rcases c with c | c
   ·omega
   ·exact c
  ·omega
  ·omega
 ·rcases OW k hk with c | c | c
  ·exact .inr (by omega)
  ·exact .inl c
  ·exact .inr (by omega)
set_option maxRecDepth 100000
theorem smade_yes {w : World} {stb b : Nat} (h : w.cell? ⟨stb, 0, none⟩ = some (.pointer (some ⟨b, 0, none⟩))) : Calls Tryz.prog 25 #[.pointer (some ⟨stb, 0, none⟩)] w fun e w' => e = .returned (.bool true) ∧ w' = w := by
 go_enter Tryz.func25, Tryz.ntmps25
 go_wp2_with fail
 go_ret
 exact ⟨rfl, rfl⟩
theorem srefuse_ok {w : World} {stb b : Nat} (h : w.cell? ⟨stb, 0, none⟩ = some (.pointer (some ⟨b, 0, none⟩))) (h8 : w.cell? ⟨stb, 8, none⟩ = some (.int .i64 0)) (h9 : w.cell? ⟨stb, 9, none⟩ = some (.bool false)) : Calls Tryz.prog 33 #[.pointer (some ⟨stb, 0, none⟩)] w fun e w' => e = .returned (.int .i64 0) ∧ w' = w := by
 have hM := hide (smade_yes h)
 go_enter Tryz.func33, Tryz.ntmps33
 go_wp2_with (first | (go_at_call 25; refine hM.out.mono ?_; rintro e wm ⟨rfl, hwm⟩; rw [hwm]; clear hwm wm) | fail)
 go_ret
 exact ⟨rfl, rfl⟩
def slookV (f nx du g : Int) (N : Nat) : Array Value := #[.int .i64 f, .int .i64 nx, .int .i64 du, .int .i64 g, .int .i64 (N : Int), .bool false, .bool false, .int .i64 0]
theorem slookSize : (Tryz.prog.info? 37).map (·.size) = some 8 := by kernel_rfl
theorem slook_any {w : World} {stb b : Nat} {m g f nx du : Int} {ac : Option Addr} {N cc : Nat} {vS : Value} (h : StB w stb #[.pointer (some ⟨b, 0, none⟩), .int .i64 m, .int .i64 g, .int .i64 f, .slice ac N cc, vS, .int .i64 nx, .int .i64 du, .int .i64 0, .bool false]) : Calls Tryz.prog 9 #[.pointer (some ⟨stb, 0, none⟩)] w fun e w' => e = .returned (.agg (slookV f nx du g N)) ∧ Below w.heap.size w w' := by
 have B1 := box_below w (.cells #[.int .i64 0, .int .i64 0, .int .i64 0, .int .i64 0, .int .i64 0, .bool false, .bool false, .int .i64 0] 37)
 have N1 := heap_alloc_new w (.cells #[.int .i64 0, .int .i64 0, .int .i64 0, .int .i64 0, .int .i64 0, .bool false, .bool false, .int .i64 0] 37)
 have S1 := (B1.block _ (heap_lt h)).trans h
 have hM := hide (smade_yes (stb_b S1))
 clear h
 obtain ⟨w1, hw1⟩ : ∃ w1, Hid (w.alloc (.cells #[.int .i64 0, .int .i64 0, .int .i64 0, .int .i64 0, .int .i64 0, .bool false, .bool false, .int .i64 0] 37) = w1) := ⟨_, rfl⟩
 rw [hw1.out] at B1 N1 S1 hM
 have hg : w.heap.size ≤ w.heap.size := Nat.le_refl _
 unfold slookV
 go_enter Tryz.func9, Tryz.ntmps9
 go_upto_region 1 with fail
 rw [hw1.out]
 go_upto_region 3 with (first | (go_at_call 25; refine hM.out.mono ?_; rintro e w2 ⟨rfl, e1⟩; rw [e1]; clear e1 w2) | fail)
 obtain ⟨gl, hgs⟩ : ∃ g, Hid (w.heap.size = g) := ⟨_, rfl⟩
 rw [hgs.out] at B1 N1 hg ⊢
 refine wp_region_T (fun q => q.cell? ⟨stb, 2, none⟩ = some (.int .i64 g) ∧ q.cell? ⟨stb, 3, none⟩ = some (.int .i64 f) ∧ q.cell? ⟨stb, 4, none⟩ = some (.slice ac N cc) ∧ q.cell? ⟨stb, 6, none⟩ = some (.int .i64 nx) ∧ q.cell? ⟨stb, 7, none⟩ = some (.int .i64 du) ∧ q.cell? ⟨stb, 8, none⟩ = some (.int .i64 0) ∧ q.cell? ⟨stb, 9, none⟩ = some (.bool false)) 38 (by kernel_rfl) ?_
 have KB : Hid (Below gl w w1.drew) := hide (B1.trans ((Below.refl gl w1).drew))
 have KN : Hid (w1.drew.heap[gl]? = _) := hide N1
 have SQ : StB w1.drew stb _ := S1
 have KP : Hid (w1.drew.cell? ⟨stb, 2, none⟩ = some (.int .i64 g) ∧ w1.drew.cell? ⟨stb, 3, none⟩ = some (.int .i64 f) ∧ w1.drew.cell? ⟨stb, 4, none⟩ = some (.slice ac N cc) ∧ w1.drew.cell? ⟨stb, 6, none⟩ = some (.int .i64 nx) ∧ w1.drew.cell? ⟨stb, 7, none⟩ = some (.int .i64 du) ∧ w1.drew.cell? ⟨stb, 8, none⟩ = some (.int .i64 0) ∧ w1.drew.cell? ⟨stb, 9, none⟩ = some (.bool false)) := hide ⟨by rw [cell_of SQ]; rfl, by rw [cell_of SQ]; rfl, by rw [cell_of SQ]; rfl, by rw [cell_of SQ]; rfl, by rw [cell_of SQ]; rfl, by rw [cell_of SQ]; rfl, by rw [cell_of SQ]; rfl⟩
 clear S1 N1 B1 hM SQ
 generalize w1.drew = q at *
 refine Ix.tk 0 ⟨some 7, .move (.tmp 0), _, _, _, _⟩ (.pointer (some ⟨stb, 0, none⟩)) [1,2,3,4,37,38] ?_ KP.out ?_
 ·intro wq hSw; go_simp
 (try simp only [zzp, zzb, zzc])
 refine Ix.tk 1 ⟨some 8, .nilCheck (.tmp 7), _, _, _, _⟩ (.pointer (some ⟨stb, 0, none⟩)) [2,3,4,37,38] ?_ KP.out ?_
 ·intro wq hSw; go_simp
 (try simp only [zzp, zzb, zzc])
 refine Ix.tk 2 ⟨some 9, .fieldAddr 69 (.tmp 8) 2, _, _, _, _⟩ (.pointer (some ⟨stb, 2, none⟩)) [3,4,37,38] ?_ KP.out ?_
 ·intro wq hSw; go_simp
 (try simp only [zzp, zzb, zzc])
 refine Ix.tk 3 ⟨some 10, .fieldAddr 47 (.tmp 9) 1, _, _, _, _⟩ (.pointer (some ⟨stb, 3, none⟩)) [4,37,38] ?_ KP.out ?_
 ·intro wq hSw; go_simp
 (try simp only [zzp, zzb, zzc])
 refine Ix.tk 4 ⟨some 11, .load 2 (.tmp 10), _, _, _, _⟩ (.int .i64 f) [37,38] ?_ KP.out ?_
 ·intro wq hSw
  obtain ⟨y0, y1, y2, y3, y4, y5, y6⟩ := hSw
  go_simp
 (try simp only [zzp, zzb, zzc])
 refine Ix.tk 5 ⟨some 12, .move (.tmp 0), _, _, _, _⟩ (.pointer (some ⟨stb, 0, none⟩)) [6,7,8,37,38] ?_ KP.out ?_
 ·intro wq hSw; go_simp
 (try simp only [zzp, zzb, zzc])
 refine Ix.tk 6 ⟨some 13, .nilCheck (.tmp 12), _, _, _, _⟩ (.pointer (some ⟨stb, 0, none⟩)) [7,8,37,38] ?_ KP.out ?_
 ·intro wq hSw; go_simp
 (try simp only [zzp, zzb, zzc])
 refine Ix.tk 7 ⟨some 14, .fieldAddr 69 (.tmp 13) 4, _, _, _, _⟩ (.pointer (some ⟨stb, 6, none⟩)) [8,37,38] ?_ KP.out ?_
 ·intro wq hSw; go_simp
 (try simp only [zzp, zzb, zzc])
 refine Ix.tk 8 ⟨some 15, .load 2 (.tmp 14), _, _, _, _⟩ (.int .i64 nx) [37,38] ?_ KP.out ?_
 ·intro wq hSw
  obtain ⟨y0, y1, y2, y3, y4, y5, y6⟩ := hSw
  go_simp
 (try simp only [zzp, zzb, zzc])
 refine Ix.tk 9 ⟨some 16, .move (.tmp 0), _, _, _, _⟩ (.pointer (some ⟨stb, 0, none⟩)) [10,11,12,37,38] ?_ KP.out ?_
 ·intro wq hSw; go_simp
 (try simp only [zzp, zzb, zzc])
 refine Ix.tk 10 ⟨some 17, .nilCheck (.tmp 16), _, _, _, _⟩ (.pointer (some ⟨stb, 0, none⟩)) [11,12,37,38] ?_ KP.out ?_
 ·intro wq hSw; go_simp
 (try simp only [zzp, zzb, zzc])
 refine Ix.tk 11 ⟨some 18, .fieldAddr 69 (.tmp 17) 5, _, _, _, _⟩ (.pointer (some ⟨stb, 7, none⟩)) [12,37,38] ?_ KP.out ?_
 ·intro wq hSw; go_simp
 (try simp only [zzp, zzb, zzc])
 refine Ix.tk 12 ⟨some 19, .load 2 (.tmp 18), _, _, _, _⟩ (.int .i64 du) [37,38] ?_ KP.out ?_
 ·intro wq hSw
  obtain ⟨y0, y1, y2, y3, y4, y5, y6⟩ := hSw
  go_simp
 (try simp only [zzp, zzb, zzc])
 refine Ix.tk 13 ⟨some 20, .move (.tmp 0), _, _, _, _⟩ (.pointer (some ⟨stb, 0, none⟩)) [14,15,16,17,37,38] ?_ KP.out ?_
 ·intro wq hSw; go_simp
 (try simp only [zzp, zzb, zzc])
 refine Ix.tk 14 ⟨some 21, .nilCheck (.tmp 20), _, _, _, _⟩ (.pointer (some ⟨stb, 0, none⟩)) [15,16,17,37,38] ?_ KP.out ?_
 ·intro wq hSw; go_simp
 (try simp only [zzp, zzb, zzc])
 refine Ix.tk 15 ⟨some 22, .fieldAddr 69 (.tmp 21) 2, _, _, _, _⟩ (.pointer (some ⟨stb, 2, none⟩)) [16,17,37,38] ?_ KP.out ?_
 ·intro wq hSw; go_simp
 (try simp only [zzp, zzb, zzc])
 refine Ix.tk 16 ⟨some 23, .fieldAddr 47 (.tmp 22) 0, _, _, _, _⟩ (.pointer (some ⟨stb, 2, none⟩)) [17,37,38] ?_ KP.out ?_
 ·intro wq hSw; go_simp
 (try simp only [zzp, zzb, zzc])
 refine Ix.tk 17 ⟨some 24, .load 2 (.tmp 23), _, _, _, _⟩ (.int .i64 g) [37,38] ?_ KP.out ?_
 ·intro wq hSw
  obtain ⟨y0, y1, y2, y3, y4, y5, y6⟩ := hSw
  go_simp
 (try simp only [zzp, zzb, zzc])
 refine Ix.tk 18 ⟨some 25, .move (.tmp 0), _, _, _, _⟩ (.pointer (some ⟨stb, 0, none⟩)) [19,20,21,22,23,37,38] ?_ KP.out ?_
 ·intro wq hSw; go_simp
 (try simp only [zzp, zzb, zzc])
 refine Ix.tk 19 ⟨some 26, .nilCheck (.tmp 25), _, _, _, _⟩ (.pointer (some ⟨stb, 0, none⟩)) [20,21,22,23,37,38] ?_ KP.out ?_
 ·intro wq hSw; go_simp
 (try simp only [zzp, zzb, zzc])
 refine Ix.tk 20 ⟨some 27, .fieldAddr 69 (.tmp 26) 2, _, _, _, _⟩ (.pointer (some ⟨stb, 2, none⟩)) [21,22,23,37,38] ?_ KP.out ?_
 ·intro wq hSw; go_simp
 (try simp only [zzp, zzb, zzc])
 refine Ix.tk 21 ⟨some 28, .fieldAddr 47 (.tmp 27) 2, _, _, _, _⟩ (.pointer (some ⟨stb, 4, none⟩)) [22,23,37,38] ?_ KP.out ?_
 ·intro wq hSw; go_simp
 (try simp only [zzp, zzb, zzc])
 refine Ix.tk 22 ⟨some 29, .load 45 (.tmp 28), _, _, _, _⟩ (.slice ac N cc) [23,37,38] ?_ KP.out ?_
 ·intro wq hSw
  obtain ⟨y0, y1, y2, y3, y4, y5, y6⟩ := hSw
  go_simp
 (try simp only [zzp, zzb, zzc])
 refine Ix.tk 23 ⟨some 30, .call { callee := .builtin .len, args := #[.tmp 29], argTypes := #[45] }, _, _, _, _⟩ (.int .i64 (N : Int)) [37,38] ?_ KP.out ?_
 ·intro wq hSw
  obtain ⟨y0, y1, y2, y3, y4, y5, y6⟩ := hSw
  go_simp
 (try simp only [zzp, zzb, zzc])
 refine Ix.tk 24 ⟨some 31, .move (.tmp 0), _, _, _, _⟩ (.pointer (some ⟨stb, 0, none⟩)) [25,26,27,28,37,38] ?_ KP.out ?_
 ·intro wq hSw; go_simp
 (try simp only [zzp, zzb, zzc])
 refine Ix.tk 25 ⟨some 32, .nilCheck (.tmp 31), _, _, _, _⟩ (.pointer (some ⟨stb, 0, none⟩)) [26,27,28,37,38] ?_ KP.out ?_
 ·intro wq hSw; go_simp
 (try simp only [zzp, zzb, zzc])
 refine Ix.tk 26 ⟨some 33, .fieldAddr 69 (.tmp 32) 6, _, _, _, _⟩ (.pointer (some ⟨stb, 8, none⟩)) [27,28,37,38] ?_ KP.out ?_
 ·intro wq hSw; go_simp
 (try simp only [zzp, zzb, zzc])
 refine Ix.tk 27 ⟨some 34, .load 31 (.tmp 33), _, _, _, _⟩ (.int .i64 0) [28,37,38] ?_ KP.out ?_
 ·intro wq hSw
  obtain ⟨y0, y1, y2, y3, y4, y5, y6⟩ := hSw
  go_simp
 (try simp only [zzp, zzb, zzc])
 refine Ix.tk 28 ⟨some 35, .binOp .neq 31 (.tmp 34) (.const (Value.int IntKind.i64 0)) 31, _, _, _, _⟩ (.bool false) [37,38] ?_ KP.out ?_
 ·intro wq hSw
  obtain ⟨y0, y1, y2, y3, y4, y5, y6⟩ := hSw
  go_simp
 (try simp only [zzp, zzb, zzc])
 refine Ix.tk 29 ⟨some 36, .move (.tmp 0), _, _, _, _⟩ (.pointer (some ⟨stb, 0, none⟩)) [30,31,32,37,38] ?_ KP.out ?_
 ·intro wq hSw; go_simp
 (try simp only [zzp, zzb, zzc])
 refine Ix.tk 30 ⟨some 37, .nilCheck (.tmp 36), _, _, _, _⟩ (.pointer (some ⟨stb, 0, none⟩)) [31,32,37,38] ?_ KP.out ?_
 ·intro wq hSw; go_simp
 (try simp only [zzp, zzb, zzc])
 refine Ix.tk 31 ⟨some 38, .fieldAddr 69 (.tmp 37) 7, _, _, _, _⟩ (.pointer (some ⟨stb, 9, none⟩)) [32,37,38] ?_ KP.out ?_
 ·intro wq hSw; go_simp
 (try simp only [zzp, zzb, zzc])
 refine Ix.tk 32 ⟨some 39, .load 4 (.tmp 38), _, _, _, _⟩ (.bool false) [37,38] ?_ KP.out ?_
 ·intro wq hSw
  obtain ⟨y0, y1, y2, y3, y4, y5, y6⟩ := hSw
  go_simp
 (try simp only [zzp, zzb, zzc])
 refine Ix.tk 33 ⟨some 40, .move (.tmp 0), _, _, _, _⟩ (.pointer (some ⟨stb, 0, none⟩)) [34,35,36,37,38] ?_ KP.out ?_
 ·intro wq hSw; go_simp
 (try simp only [zzp, zzb, zzc])
 refine Ix.tk 34 ⟨some 41, .nilCheck (.tmp 40), _, _, _, _⟩ (.pointer (some ⟨stb, 0, none⟩)) [35,36,37,38] ?_ KP.out ?_
 ·intro wq hSw; go_simp
 (try simp only [zzp, zzb, zzc])
 refine Ix.tk 35 ⟨some 42, .fieldAddr 69 (.tmp 41) 6, _, _, _, _⟩ (.pointer (some ⟨stb, 8, none⟩)) [36,37,38] ?_ KP.out ?_
 ·intro wq hSw; go_simp
 (try simp only [zzp, zzb, zzc])
 refine Ix.tk 36 ⟨some 43, .load 31 (.tmp 42), _, _, _, _⟩ (.int .i64 0) [37,38] ?_ KP.out ?_
 ·intro wq hSw
  obtain ⟨y0, y1, y2, y3, y4, y5, y6⟩ := hSw
  go_simp
 (try simp only [zzp, zzb, zzc])
 refine Ix.tk 37 ⟨some 44, .build 37 #[(0, .tmp 11), (1, .tmp 15), (2, .tmp 19), (3, .tmp 24), (4, .tmp 30), (5, .tmp 35), (6, .tmp 39), (7, .tmp 43)], _, _, _, _⟩ (.agg #[.int .i64 f, .int .i64 nx, .int .i64 du, .int .i64 g, .int .i64 (N : Int), .bool false, .bool false, .int .i64 0]) [38] ?_ KP.out ?_
 ·intro wq hSw
  obtain ⟨y0, y1, y2, y3, y4, y5, y6⟩ := hSw
  go_simp
 (try simp only [zzp, zzb, zzc])
 have FIN := hide (put8_heap KN.out (.int .i64 f) (.int .i64 nx) (.int .i64 du) (.int .i64 g) (.int .i64 (N : Int)) (.bool false) (.bool false) (.int .i64 0))
 have FB := hide (put8_below KB.out (show gl ≤ gl from Nat.le_refl _) (.int .i64 f) (.int .i64 nx) (.int .i64 du) (.int .i64 g) (.int .i64 (N : Int)) (.bool false) (.bool false) (.int .i64 0))
 have FZ : ∀ j, q.frozen? ⟨gl, j, none⟩ = false := fun j => by simp [World.frozen?, KN.out]
 have c0 : ∀ j, q.cell? ⟨gl, j, none⟩ = _ := fun j => cell_of KN.out
 unfold put8 at FIN FB
 refine wpAnyT_one (i := 38) (o := ⟨none, .store 37 (.tmp 2) (.tmp 44), _, _, _, _⟩) (by kernel_rfl) rfl (fun K hK => ?_)
 go_simp
 refine hK.out _ _ (vac (by kernel_rfl)) ?_
 clear hK K
 (try simp only [zzq])
 refine wpAnyT_done (by kernel_rfl) ?_ _
 go_wp2_with fail
 try simp only [Exit.inBlock, Exit.then]
 refine bodyPost_ret (v := .agg _) (results_cell_row rfl _ _ gl 37 _ (0, 0) _ rfl FIN.out Tryz.underlying37 rfl slookSize) rfl ?_
 exact ⟨rfl, by rw [hgs.out]; exact FB.out⟩
def rollsV (N : Nat) (g n : Int) : Int := min (min (64 - (N : Int)) (9223372036854775807 - g)) (9223372036854775807 - n)
theorem srolls_any {w : World} {stb vb n cap : Nat} {g nm : Int} (h2 : w.cell? ⟨stb, 2, none⟩ = some (.int .i64 g)) (h4 : w.cell? ⟨stb, 4, none⟩ = some (.slice (some ⟨vb, 0, none⟩) (n + 1) cap)) (hn : w.cell? ⟨vb, n * 5, none⟩ = some (.int .i64 nm)) (hN : n < 100) (g1 : 1 ≤ g) (g2 : g ≤ 9223372036854775807) (n1 : 1 ≤ nm) (n2 : nm ≤ 9223372036854775807) :
    Calls Tryz.prog 28 #[.pointer (some ⟨stb, 0, none⟩)] w fun e w' => e = .returned (.int .i64 (rollsV (n + 1) g nm)) ∧ Qt w w' := by
 have a1 : wrap64 (64 - ((n : Int) + 1)) = 64 - ((n : Int) + 1) := by unfold wrap64; omega
 have a2 : wrap64 (9223372036854775807 - g) = 9223372036854775807 - g := by unfold wrap64; omega
 have a3 : wrap64 (9223372036854775807 - nm) = 9223372036854775807 - nm := by unfold wrap64; omega
 go_enter Tryz.func28, Tryz.ntmps28
 go_upto_region 2 with fail
 go_quiet (fail)
 all_goals go_wp2_with fail
 all_goals go_ret
 all_goals
  (refine ⟨?_, nq, rfl⟩
   show Ending.returned (Value.int .i64 _) = Ending.returned (Value.int .i64 _)
   unfold rollsV
   congr 2
   by_cases hx : 9223372036854775807 - g < 64 - ((n : Int) + 1)
   ·(try simp only [if_pos hx] at *)
    omega
   ·(try simp only [if_neg hx] at *)
    omega)
end Go.Proofs.YtnimildpcnmjeaaGreatDoor.St
