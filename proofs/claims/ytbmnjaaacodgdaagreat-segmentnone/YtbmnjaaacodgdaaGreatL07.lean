/-
  Records read from the disk anew: Read. (gen_SgP.py)
-/
import Derived.Test.YtbmnjaaacodgdaaGreatL06
import Derived.Deep.CutRange
import Derived.Test.YtbmnjaaacodgdaaGreatL04
import Derived.Test.YtbmnjaaacodgdaaGreatL05
import Derived.Laws.Rows
import Derived.Test.YtbmnjaaacodgdaaGreatL01
import Derived.Deep.Strs
import Derived.Deep.Slices
set_option maxRecDepth 100000
set_option maxHeartbeats 40000000
set_option linter.unusedVariables false
namespace Go.Proofs.YtbmnjaaacodgdaaGreat.Sg
open Go.RowKit Go.Maps Go.Sort Go.Shelf Go.Proofs.YtbmnjaaacodgdaaGreat.Nm Go.Proofs.YtbmnjaaacodgdaaGreat.Dk
open Ix (wp_region_T wpAnyT wpAnyT_take wpAnyT_one wpAnyT_done vac)
def rlF (s : SG) (S : DS) : Nat → Int → Int → Crc.R → (Int × List UInt8) × Int
 | 0, n, off, seed => ((rfF s S n off seed).1, (rfF s S n off seed).2.2.2)
 | k + 1, n, off, seed => if (rfF s S n off seed).2.2.2 ≠ 0 then ((rfF s S n off seed).1, (rfF s S n off seed).2.2.2) else rlF s S k (n + 1) (off + (rfF s S n off seed).2.1) (rfF s S n off seed).2.2.1
def seedAt (s : SG) (n : Int) : Crc.R := BitVec.ofNat 32 ((sget s.sd n).getD 0).toNat
def rdS (s : SG) (S : DS) (lsn : Int) : (Int × List UInt8) × Int :=
 if lsn < s.base ∨ s.next ≤ lsn then ((0, []), 6)
 else rlF s S (lsn - (Ix.findF s.x.l lsn).1.1).toNat (Ix.findF s.x.l lsn).1.1 (Ix.findF s.x.l lsn).1.2 (seedAt s (Ix.findF s.x.l lsn).1.1)
theorem rd_size {seed : Crc.R} {l : List UInt8} (h : (rdF seed l).2.2.2.2 = 0) : 0 ≤ (rdF seed l).2.2.1 ∧ (rdF seed l).2.2.1 ≤ (l.length : Int) := by
 unfold rdF at h ⊢
 split
 ·rename_i h0
  simp only
  unfold rdE at h0
  split at h0
  ·omega
  ·split at h0
   ·omega
   ·split at h0
    ·omega
    ·split at h0
     ·omega
     ·omega
 ·rename_i h0
  rw [if_neg h0] at h
  exact absurd h h0
theorem fb_len {s : SG} {S : DS} {off : Int} (h : (fbF s S off).2 = 0) (hz : 0 ≤ s.size - off) : ((fbF s S off).1.length : Int) ≤ s.size - off := by
 unfold fbF at h ⊢
 split
 ·simp; omega
 ·split
  ·simp; omega
  ·rename_i h1 h2
   have := read_len S s.file off (szF (stv (S.read s.file off (min 16 (s.size - off))).1 4 (0, 0) : Int))
   have h3 : 0 ≤ szF (stv (S.read s.file off (min 16 (s.size - off))).1 4 (0, 0) : Int) := by unfold szF; split <;> omega
   omega
theorem fb_neg {s : SG} {S : DS} {off : Int} (h : (fbF s S off).2 = 0) : 0 ≤ s.size - off := by
 unfold fbF at h
 split at h
 ·rename_i h1; exact absurd h h1
 ·split at h
  ·simp at h
  ·rename_i h1 h2
   have h3 : 0 ≤ szF (stv (S.read s.file off (min 16 (s.size - off))).1 4 (0, 0) : Int) := by unfold szF; split <;> omega
   omega
theorem rf_size {s : SG} {S : DS} {n off : Int} {seed : Crc.R} (h : (rfF s S n off seed).2.2.2 = 0) : 0 ≤ (rfF s S n off seed).2.1 ∧ off + (rfF s S n off seed).2.1 ≤ s.size := by
 unfold rfF at h ⊢
 by_cases h1 : (fbF s S off).2 ≠ 0
 ·rw [if_pos h1] at h; exact absurd h h1
 ·rw [if_neg h1] at h ⊢
  by_cases h2 : (rdF seed (fbF s S off).1).2.2.2.2 ≠ 0 ∨ (rdF seed (fbF s S off).1).1 ≠ n
  ·rw [if_pos h2] at h; simp at h
  ·rw [if_neg h2]
   simp only
   have hf : (fbF s S off).2 = 0 := by omega
   have h3 := fb_len hf (fb_neg hf)
   have h4 := rd_size (seed := seed) (l := (fbF s S off).1) (by omega)
   omega
theorem find_rng {x : Ix.X} (h : Ix.Ok x) (n : Int) (hn : 0 ≤ n) : 0 ≤ (Ix.findF x.l n).1.1 ∧ (Ix.findF x.l n).1.1 ≤ n ∧ 0 ≤ (Ix.findF x.l n).1.2 ∧ (Ix.findF x.l n).1.2 ≤ 2147483647 := by
 unfold Ix.findF
 cases hg : (x.l.filter fun e => decide (e.1 ≤ n)).getLast? with
 | none => simp only; omega
 | some e =>
  have hm := List.mem_of_getLast? hg
  obtain ⟨h1, h2⟩ := List.mem_filter.1 hm
  have h3 := h.srt.rng e h1
  have h4 : e.1 ≤ n := of_decide_eq_true h2
  simp only
  omega
theorem seed_at {s : SG} (ok : SOk s) (n : Int) : (sget s.sd n).getD 0 = ((seedAt s n).toNat : Int) := by
 have hb : 0 ≤ (sget s.sd n).getD 0 ∧ (sget s.sd n).getD 0 < 4294967296 := by
  unfold sget
  cases hf : s.sd.find? fun p => p.1 == n with
  | none => simp
  | some p => exact ok.d p (List.mem_of_find?_eq_some hf)
 unfold seedAt
 rw [BitVec.toNat_ofNat, Nat.mod_eq_of_lt (by omega)]
 omega
def nAt (w : World) (p : Nat) : Int := match w.cell? ⟨p, 0, none⟩ with | some (.int _ n) => n | _ => 0
theorem readS_any {w : World} {sb : Nat} {s : SG} {S : DS} {O : Nat → Prop} {xb mb : Nat} {v : Value} (h : SW w sb s S O xb mb v) (ok : SOk s) (lsn : Int) (h0 : -9223372036854775808 ≤ lsn) (h1 : lsn ≤ 9223372036854775807) (hbs : 1 ≤ s.base) (hf : s.file.size ≤ maxLen) :
    Calls Tryz.prog 20 #[.pointer (some ⟨sb, 0, none⟩), .int .i64 lsn] w fun e w' => ∃ vd, e = .returned (.tuple #[.agg #[.int .i64 (rdS s S lsn).1.1, vd], .int .i64 (rdS s S lsn).2]) ∧ Ob w.heap.size w' vd (rdS s S lsn).1.2 ∧ Below w.heap.size w w' := by
 have B1 := box_below w (.cells #[.int .i64 0, .slice none 0 0] 66)
 have N1 := heap_alloc_new w (.cells #[.int .i64 0, .slice none 0 0] 66)
 obtain ⟨w1, hw1⟩ : ∃ w1, Hid (w.alloc (.cells #[.int .i64 0, .slice none 0 0] 66) = w1) := ⟨_, rfl⟩
 rw [hw1.out] at B1 N1
 have H1 := h.below B1
 obtain ⟨y0, y1, y2, y3, y4, y5, y6, y7, y8, y9, y10⟩ := H1.sg.cells
 have hM := hide (made_yes w1 sb s.b y0)
 have z0 : w1.frozen? ⟨w.heap.size, 0, none⟩ = false := by simp [World.frozen?, N1]
 have z1 : w1.frozen? ⟨w.heap.size, 1, none⟩ = false := by simp [World.frozen?, N1]
 have q0 : w1.cell? ⟨w.heap.size, 0, none⟩ = some (.int .i64 0) := by rw [cell_of N1]; rfl
 have q1 : w1.cell? ⟨w.heap.size, 1, none⟩ = some (.slice none 0 0) := by rw [cell_of N1]; rfl
 have ST : Hid (SW w1 sb s S O xb mb v ∧ Below w.heap.size w w1 ∧ w1.heap[w.heap.size]? = some (.cells #[.int .i64 0, .slice none 0 0] 66 (0, 0))) := hide ⟨H1, B1, N1⟩
 obtain ⟨RS, hRS⟩ : ∃ RS, Hid (rdS s S lsn = RS) := ⟨_, rfl⟩
 rw [hRS.out]
 have hFn := hide (Ix.find_any w1 xb s.x v lsn H1.sg.ix ok.x h0 h1)
 have hO0 : Hid (∀ k, O k → k < w.heap.size) := hide h.dk.lt
 have hS0 : Hid (∀ k, SOwn sb xb mb v k → k < w.heap.size) := hide h.sg.lt
 clear B1 N1 H1 h
 generalize hpa : w.heap.size = pA at *
 replace hpa := hide hpa
 by_cases hin : lsn < s.base ∨ s.next ≤ lsn
 ·have hE : Hid (RS = ((0, []), 6)) := hide (by rw [← hRS.out]; unfold rdS; rw [if_pos hin])
  have FH := put2_heap ST.out.2.2 (.int .i64 0) (.slice none 0 0)
  have c0 := (cell_of FH (j := 0)).trans (show (#[Value.int .i64 0, .slice none 0 0] : Array Value)[0]? = some (.int .i64 0) from rfl)
  have c1 := (cell_of FH (j := 1)).trans (show (#[Value.int .i64 0, .slice none 0 0] : Array Value)[1]? = some (.slice none 0 0) from rfl)
  have FB2 := hide (put2_below ST.out.2.1 (Nat.le_refl pA) (.int .i64 0) (.slice none 0 0))
  have hcase : (lsn < s.base) ∨ (¬ lsn < s.base ∧ s.next ≤ lsn) := by omega
  clear FH ST hFn hRS hin
  rcases hcase with hq | ⟨hq, hq2⟩
  all_goals
   go_enter Tryz.func20, Tryz.ntmps20
   go_upto_region 1 with fail
   rw [hw1.out, hpa.out]
   go_wp2_with (first | (go_at_call 62; refine hM.out.mono ?_; rintro e w2 ⟨rfl, e1⟩; rw [e1]; clear e1 w2) | fail)
   try simp only [Exit.inBlock, Exit.then]
   refine bodyPost_ret (v := .tuple #[.agg #[.int .i64 0, .slice none 0 0], .int .i64 6]) (by simp [results, Tryz.results20, go_sem, c0, c1]; try rfl) rfl ?_
   rw [hE.out]
   exact ⟨_, rfl, World.ownsRow_nil _ _ _ _, FB2.out⟩
 have hq : ¬ lsn < s.base := by omega
 have hq2 : ¬ s.next ≤ lsn := by omega
 have hrng := find_rng ok.x lsn (by omega)
 have hsd := seed_at ok (Ix.findF s.x.l lsn).1.1
 have hE : Hid (RS = rlF s S (lsn - (Ix.findF s.x.l lsn).1.1).toNat (Ix.findF s.x.l lsn).1.1 (Ix.findF s.x.l lsn).1.2 (seedAt s (Ix.findF s.x.l lsn).1.1)) := hide (by rw [← hRS.out]; unfold rdS; rw [if_neg hin])
 obtain ⟨FE, hFE⟩ : ∃ FE, Hid (Ix.findF s.x.l lsn = FE) := ⟨_, rfl⟩
 rw [hFE.out] at hrng hsd hE hFn
 obtain ⟨⟨f1, f2⟩, f3⟩ := FE
 unfold Ix.entv at hFn
 simp only at hrng hsd hE hFn
 clear hRS hin
 go_enter Tryz.func20, Tryz.ntmps20
 go_upto_region 1 with fail
 rw [hw1.out, hpa.out]
 go_upto_region 5 with (first | (go_at_call 62; refine hM.out.mono ?_; rintro e w2 ⟨rfl, e1⟩; rw [e1]; clear e1 w2) | fail)
 go_wp2_with fail
 go_at_call 72
 refine hFn.out.mono ?_
 rintro e w2 ⟨rfl, b2⟩
 obtain ⟨t1, t2, t3⟩ := ST.out
 have hs1 : pA < w1.heap.size := heap_lt t3
 have B3 := box_below w2 (.cells #[.int .i64 f1, .int .i64 f2] 148)
 have N3 := heap_alloc_new w2 (.cells #[.int .i64 f1, .int .i64 f2] 148)
 obtain ⟨w3, hw3⟩ : ∃ w3, Hid (w2.alloc (.cells #[.int .i64 f1, .int .i64 f2] 148) = w3) := ⟨_, rfl⟩
 obtain ⟨pE, hpE⟩ : ∃ pE, Hid (w2.heap.size = pE) := ⟨_, rfl⟩
 rw [hw3.out] at B3 N3
 rw [hpE.out] at N3
 have b13 : Below w1.heap.size w1 w3 := keepF b2 B3
 have T3 : Hid (SW w3 sb s S O xb mb v ∧ Below pA w w3 ∧ w3.heap[pA]? = some (.cells #[.int .i64 0, .slice none 0 0] 66 (0, 0)) ∧ w3.heap[pE]? = some (.cells #[.int .i64 f1, .int .i64 f2] 148 (0, 0)) ∧ pA < pE ∧ (∀ k, O k → k < pA) ∧ (∀ k, SOwn sb xb mb v k → k < pA)) := hide ⟨t1.below b13, t2.trans (b13.mono (by omega)), (But.of_below b13 fun _ => False).at t3 (fun c => c), N3, by have := b2.size; have := hpE.out; omega, hO0.out, hS0.out⟩
 clear t1 t2 t3 b2 B3 N3 b13 hs1 ST hFn hM y0 y1 y2 y3 y4 y5 y6 y7 y8 y9 y10 z0 z1 q0 q1
 go_upto_region 6 with fail
 rw [hw3.out, hpE.out]
 clear hw1 hw3
 go_cut [8] from 44 to 50 (fun y8 wx => y8 = .int .u32 ((seedAt s f1).toNat : Int) ∧ Hid (Below w3.heap.size w3 wx))
 case first =>
  refine wp_region_T (fun q => Below w3.heap.size w3 q) 7 (by kernel_rfl) ?_
  have KP : Hid (Below w3.heap.size w3 w3.drew) := hide (Below.refl _ _).drew
  generalize w3.drew = q at *
  refine Ix.tk 0 ⟨some 44, .move (.tmp 0), _, _, _, _⟩ (.pointer (some ⟨sb, 0, none⟩)) [7] ?_ KP.out ?_
  ·intro wq hSw
   obtain ⟨y0, y1, y2, y3, y4, y5, y6, y7, y8, y9, y10⟩ := (T3.out.1.below hSw).sg.cells
   have e0 : wq.cell? ⟨pE, 0, none⟩ = some (.int .i64 f1) := by rw [cell_of ((But.of_below hSw fun _ => False).at T3.out.2.2.2.1 (fun c => c))]; rfl
   go_simp
  (try simp only [zzp, zzb, zzc])
  refine Ix.tk 1 ⟨some 45, .nilCheck (.tmp 44), _, _, _, _⟩ (.pointer (some ⟨sb, 0, none⟩)) [7] ?_ KP.out ?_
  ·intro wq hSw
   obtain ⟨y0, y1, y2, y3, y4, y5, y6, y7, y8, y9, y10⟩ := (T3.out.1.below hSw).sg.cells
   have e0 : wq.cell? ⟨pE, 0, none⟩ = some (.int .i64 f1) := by rw [cell_of ((But.of_below hSw fun _ => False).at T3.out.2.2.2.1 (fun c => c))]; rfl
   go_simp
  (try simp only [zzp, zzb, zzc])
  refine Ix.tk 2 ⟨some 46, .fieldAddr 131 (.tmp 45) 8, _, _, _, _⟩ (.pointer (some ⟨sb, 10, none⟩)) [7] ?_ KP.out ?_
  ·intro wq hSw
   obtain ⟨y0, y1, y2, y3, y4, y5, y6, y7, y8, y9, y10⟩ := (T3.out.1.below hSw).sg.cells
   have e0 : wq.cell? ⟨pE, 0, none⟩ = some (.int .i64 f1) := by rw [cell_of ((But.of_below hSw fun _ => False).at T3.out.2.2.2.1 (fun c => c))]; rfl
   go_simp
  (try simp only [zzp, zzb, zzc])
  refine Ix.tk 3 ⟨some 47, .load 129 (.tmp 46), _, _, _, _⟩ (.map (some mb)) [7] ?_ KP.out ?_
  ·intro wq hSw
   obtain ⟨y0, y1, y2, y3, y4, y5, y6, y7, y8, y9, y10⟩ := (T3.out.1.below hSw).sg.cells
   have e0 : wq.cell? ⟨pE, 0, none⟩ = some (.int .i64 f1) := by rw [cell_of ((But.of_below hSw fun _ => False).at T3.out.2.2.2.1 (fun c => c))]; rfl
   go_simp
  (try simp only [zzp, zzb, zzc])
  refine Ix.tk 4 ⟨some 48, .fieldAddr 148 (.tmp 6) 0, _, _, _, _⟩ (.pointer (some ⟨pE, 0, none⟩)) [7] ?_ KP.out ?_
  ·intro wq hSw
   obtain ⟨y0, y1, y2, y3, y4, y5, y6, y7, y8, y9, y10⟩ := (T3.out.1.below hSw).sg.cells
   have e0 : wq.cell? ⟨pE, 0, none⟩ = some (.int .i64 f1) := by rw [cell_of ((But.of_below hSw fun _ => False).at T3.out.2.2.2.1 (fun c => c))]; rfl
   go_simp
  (try simp only [zzp, zzb, zzc])
  refine Ix.tk 5 ⟨some 49, .load 2 (.tmp 48), _, _, _, _⟩ (.int .i64 f1) [7] ?_ KP.out ?_
  ·intro wq hSw
   obtain ⟨y0, y1, y2, y3, y4, y5, y6, y7, y8, y9, y10⟩ := (T3.out.1.below hSw).sg.cells
   have e0 : wq.cell? ⟨pE, 0, none⟩ = some (.int .i64 f1) := by rw [cell_of ((But.of_below hSw fun _ => False).at T3.out.2.2.2.1 (fun c => c))]; rfl
   go_simp
  (try simp only [zzp, zzb, zzc])
  have hlk : ∀ wq, Below w3.heap.size w3 wq → (Instr.lookup 129 (.map (some mb)) (.int .i64 f1) false).run Tryz.prog wq = .ok (.int .u32 ((seedAt s f1).toNat : Int)) wq := fun wq hq => by
   have := (T3.out.1.below hq).sg.sm.look (n := f1) (by omega) (by omega)
   rw [hsd] at this
   exact this
  refine Ix.tk 6 ⟨some 50, .lookup 129 (.tmp 47) (.tmp 49) false, _, _, _, _⟩ (.int .u32 ((seedAt s f1).toNat : Int)) [7] ?_ KP.out ?_
  ·intro wq hSw
   have hl9 := hlk wq hSw
   go_simp
  (try simp only [zzp, zzb, zzc])
  refine wpAnyT_one (i := 7) (o := ⟨some 8, .assign (.tmp 50), _, _, _, _⟩) (by kernel_rfl) rfl (fun K hK => ?_)
  go_simp
  refine hK.out _ _ (vac (by kernel_rfl)) ?_
  clear hK K
  (try simp only [zzp, zzb, zzc])
  refine wpAnyT_done (by kernel_rfl) ?_ _
  go_wp2_with fail
  go_meet
  case rel => exact ⟨rfl, KP.out⟩
 case rest =>
  obtain ⟨rfl, hcu⟩ := hcut
  have b4 := hcu.out
  clear hcu
  generalize hwc : wc = w4 at *
  clear hwc
  obtain ⟨t1, t2, t3, t4, t5, t6, t7⟩ := T3.out
  have T4 : Hid (SW w4 sb s S O xb mb v ∧ Below pA w w4 ∧ w4.heap[pA]? = some (.cells #[.int .i64 0, .slice none 0 0] 66 (0, 0)) ∧ w4.heap[pE]? = some (.cells #[.int .i64 f1, .int .i64 f2] 148 (0, 0)) ∧ pA < pE ∧ (∀ k, O k → k < pA) ∧ (∀ k, SOwn sb xb mb v k → k < pA)) := hide ⟨t1.below b4, t2.trans (b4.mono (by have := heap_lt t3; omega)), (But.of_below b4 fun _ => False).at t3 (fun c => c), (But.of_below b4 fun _ => False).at t4 (fun c => c), t5, t6, t7⟩
  have z2 := ok.z2
  have OK := hide ok
  clear t1 t2 t3 t4 t5 t6 t7 b4 T3 ok hsd
  generalize seedAt s f1 = sd0 at *
  go_wp2_with fail
  go_loopw [8] (fun v8 wr => ∃ n off : Int, ∃ sd : Crc.R, v8 = .int .u32 (sd.toNat : Int) ∧ 0 ≤ n ∧ n ≤ lsn ∧ 0 ≤ off ∧ off ≤ 2147483647 ∧ Hid (RS = rlF s S (lsn - n).toNat n off sd) ∧ Hid (SW wr sb s S O xb mb v ∧ Below pA w wr ∧ wr.heap[pA]? = some (.cells #[.int .i64 0, .slice none 0 0] 66 (0, 0)) ∧ wr.heap[pE]? = some (.cells #[.int .i64 n, .int .i64 off] 148 (0, 0)))) (fun _ wr => (lsn - nAt wr pE).toNat)
  case atStart => exact ⟨f1, f2, sd0, rfl, hrng.1, hrng.2.1, hrng.2.2.1, hrng.2.2.2, hE.out, T4.out.1, T4.out.2.1, T4.out.2.2.1, T4.out.2.2.2.1⟩
  case round =>
   obtain ⟨n, off, sd, rfl, n0, n1, f0, f9, hRR, QQ⟩ := hrel
   obtain ⟨q1, q2, q3, q4⟩ := QQ.out
   have hrf := hide (readFrame_any q1 OK.out n off sd f0 (by omega) hf)
   have hsz := hide (rf_size (s := s) (S := S) (n := n) (off := off) (seed := sd))
   have e0 : wr.cell? ⟨pE, 0, none⟩ = some (.int .i64 n) := by rw [cell_of q4]; rfl
   have e1 : wr.cell? ⟨pE, 1, none⟩ = some (.int .i64 off) := by rw [cell_of q4]; rfl
   have hn9 : Hid (nAt wr pE = n) := hide (by unfold nAt; rw [e0])
   have hst : Hid (RS = if (rfF s S n off sd).2.2.2 ≠ 0 ∨ n = lsn then ((rfF s S n off sd).1, (rfF s S n off sd).2.2.2) else rlF s S (lsn - (n + 1)).toNat (n + 1) (off + (rfF s S n off sd).2.1) (rfF s S n off sd).2.2.1) := hide (by
    rw [hRR.out]
    by_cases hnl : n = lsn
    ·rw [if_pos (.inr hnl), show (lsn - n).toNat = 0 by omega]; rfl
    ·obtain ⟨k, hk⟩ : ∃ k, (lsn - n).toNat = k + 1 := ⟨(lsn - n).toNat - 1, by omega⟩
     rw [hk, show (lsn - (n + 1)).toNat = k by omega]
     show (if _ then _ else _) = _
     by_cases hee : (rfF s S n off sd).2.2.2 ≠ 0
     ·rw [if_pos hee, if_pos (.inl hee)]
     ·rw [if_neg hee, if_neg (by rintro (c | c); exact hee c; exact hnl c)])
   obtain ⟨RF, hRF⟩ : ∃ RF, Hid (rfF s S n off sd = RF) := ⟨_, rfl⟩
   rw [hRF.out] at hrf hsz hst
   obtain ⟨⟨rl, rd⟩, rz, rs, re⟩ := RF
   simp only at hrf hsz hst
   have KQ : Hid (Below pA w wr ∧ wr.heap[pA]? = some (.cells #[.int .i64 0, .slice none 0 0] 66 (0, 0)) ∧ wr.heap[pE]? = some (.cells #[.int .i64 n, .int .i64 off] 148 (0, 0)) ∧ SW wr sb s S O xb mb v) := hide ⟨q2, q3, q4, q1⟩
   clear q1 q2 q3 q4 QQ hRR
   go_wp2_with fail
   go_at_call 73
   refine hrf.out.mono ?_
   rintro e w5 ⟨vd, rfl, o5, b5⟩
   obtain ⟨da, dn, dc, hvd⟩ := ob_form o5
   subst hvd
   obtain ⟨q2, q3, q4, q1⟩ := KQ.out
   have B6 := box_below w5 (.cells #[.int .i64 rl, .slice da dn dc] 66)
   have N6 := heap_alloc_new w5 (.cells #[.int .i64 rl, .slice da dn dc] 66)
   obtain ⟨w6, hw6⟩ : ∃ w6, Hid (w5.alloc (.cells #[.int .i64 rl, .slice da dn dc] 66) = w6) := ⟨_, rfl⟩
   obtain ⟨pC, hpC⟩ : ∃ pC, Hid (w5.heap.size = pC) := ⟨_, rfl⟩
   rw [hw6.out] at B6 N6
   rw [hpC.out] at N6
   have b56 : Below wr.heap.size wr w6 := keepF b5 B6
   have M3 := (But.of_below b56 fun _ => False).at q3 (fun c => c)
   have M4 := (But.of_below b56 fun _ => False).at q4 (fun c => c)
   have hAw : pA < wr.heap.size := heap_lt q3
   have Bw6 : Below pA w w6 := q2.trans (b56.mono (by omega))
   have o6 : Ob pA w6 (.slice da dn dc) rd := owns_lower (ob_but o5 (But.of_below B6 fun _ => False) (fun _ _ c => c)) (by omega)
   have T6 := q1.below b56
   have v0 : w6.cell? ⟨pC, 0, none⟩ = some (.int .i64 rl) := by rw [cell_of N6]; rfl
   have v1 : w6.cell? ⟨pC, 1, none⟩ = some (.slice da dn dc) := by rw [cell_of N6]; rfl
   have k0 : w6.cell? ⟨pE, 0, none⟩ = some (.int .i64 n) := by rw [cell_of M4]; rfl
   have k1 : w6.cell? ⟨pE, 1, none⟩ = some (.int .i64 off) := by rw [cell_of M4]; rfl
   have z0 : w6.frozen? ⟨pA, 0, none⟩ = false := by simp [World.frozen?, M3]
   have z1 : w6.frozen? ⟨pA, 1, none⟩ = false := by simp [World.frozen?, M3]
   have z3 : w6.frozen? ⟨pE, 0, none⟩ = false := by simp [World.frozen?, M4]
   have z4 : w6.frozen? ⟨pE, 1, none⟩ = false := by simp [World.frozen?, M4]
   have a0 : w6.cell? ⟨pA, 0, none⟩ = some (.int .i64 0) := by rw [cell_of M3]; rfl
   have a1 : w6.cell? ⟨pA, 1, none⟩ = some (.slice none 0 0) := by rw [cell_of M3]; rfl
   have ST6 : Hid (SW w6 sb s S O xb mb v ∧ Below pA w w6 ∧ w6.heap[pA]? = some (.cells #[.int .i64 0, .slice none 0 0] 66 (0, 0)) ∧ w6.heap[pE]? = some (.cells #[.int .i64 n, .int .i64 off] 148 (0, 0)) ∧ Ob pA w6 (.slice da dn dc) rd) := hide ⟨T6, Bw6, M3, M4, o6⟩
   clear q1 q2 q3 q4 B6 N6 b56 M3 M4 hAw Bw6 o6 o5 b5 T6 KQ hrf e0 e1
   go_upto_region 8 with fail
   rw [hw6.out, hpC.out]
   by_cases hend : re ≠ 0 ∨ n = lsn
   ·have hE9 : Hid (RS = ((rl, rd), re)) := hide (by rw [hst.out, if_pos hend])
    have FH := put2_heap ST6.out.2.2.1 (.int .i64 rl) (.slice da dn dc)
    have c0 := (cell_of FH (j := 0)).trans (show (#[Value.int .i64 rl, .slice da dn dc] : Array Value)[0]? = some (.int .i64 rl) from rfl)
    have c1 := (cell_of FH (j := 1)).trans (show (#[Value.int .i64 rl, .slice da dn dc] : Array Value)[1]? = some (.slice da dn dc) from rfl)
    have FB2 := hide (put2_below ST6.out.2.1 (Nat.le_refl pA) (.int .i64 rl) (.slice da dn dc))
    have hno : (Value.slice da dn dc).ownBlock ≠ some pA := fun c => by
     rcases ST6.out.2.2.2.2.2 with ⟨e, _⟩ | ⟨g, cap, cur, e, hg, hh, r⟩
     ·rw [e] at c; simp [Value.ownBlock] at c
     ·rw [e] at c
      simp [Value.ownBlock] at c
      subst c
      have h9 := ST6.out.2.2.1
      rw [hh] at h9
      simp at h9
    have FO : Hid (Ob pA ((w6.setCell ⟨pA, 0, none⟩ (.int .i64 rl)).setCell ⟨pA, 1, none⟩ (.slice da dn dc)) (.slice da dn dc) rd) := hide (ob_but ST6.out.2.2.2.2 (X := fun k => k = pA) ((but_sb _ pA 0 _ (fun k => k = pA) rfl).trans (but_sb _ pA 1 _ (fun k => k = pA) rfl)) (fun k hk c => hno (by rw [← c]; exact hk)))
    have hway : ((re != 0) = true) ∨ (re = 0 ∧ (n == lsn) = true) := by
     by_cases hre : re = 0
     ·rcases hend with c | c
      ·exact absurd hre c
      ·exact .inr ⟨hre, by simp [c]⟩
     ·exact .inl (by simp [hre])
    clear hst hsz FH ST6 hend
    rcases hway with hw | ⟨hr, hw⟩
    ·go_wp2_with fail
     try simp only [Exit.inBlock, Exit.then]
     refine bodyPost_ret (v := .tuple #[.agg #[.int .i64 rl, .slice da dn dc], .int .i64 re]) (by simp [results, Tryz.results20, go_sem, c0, c1]; try rfl) rfl ?_
     rw [hE9.out]
     exact ⟨_, rfl, FO.out, FB2.out⟩
    ·subst hr
     go_wp2_with fail
     try simp only [Exit.inBlock, Exit.then]
     refine bodyPost_ret (v := .tuple #[.agg #[.int .i64 rl, .slice da dn dc], .int .i64 0]) (by simp [results, Tryz.results20, go_sem, c0, c1]; try rfl) rfl ?_
     rw [hE9.out]
     exact ⟨_, rfl, FO.out, FB2.out⟩
   ·have hre : re = 0 := by omega
    have hnl : n ≠ lsn := fun c => hend (.inr c)
    subst hre
    have hk : (n == lsn) = false := by simp [hnl]
    have hE9 : Hid (RS = rlF s S (lsn - (n + 1)).toNat (n + 1) (off + rz) rs) := hide (by rw [hst.out, if_neg hend])
    obtain ⟨y1, y2⟩ := hsz.out rfl
    have kw1 : IntKind.i64.wrap (n + 1) = n + 1 := by simp [IntKind.wrap, IntKind.bits, IntKind.signed]; omega
    have kw2 : IntKind.i64.wrap (off + rz) = off + rz := by simp [IntKind.wrap, IntKind.bits, IntKind.signed]; omega
    have hpe : Hid (pA < pE ∧ (∀ k, O k → k < pA) ∧ (∀ k, SOwn sb xb mb v k → k < pA)) := hide T4.out.2.2.2.2
    have BE : But (fun k => k = pE) w6 ((w6.setCell ⟨pE, 0, none⟩ (.int .i64 (n + 1))).setCell ⟨pE, 1, none⟩ (.int .i64 (off + rz))) := (but_sb _ pE 0 _ (fun k => k = pE) rfl).trans (but_sb _ pE 1 _ (fun k => k = pE) rfl)
    have FIN : Hid (SW ((w6.setCell ⟨pE, 0, none⟩ (.int .i64 (n + 1))).setCell ⟨pE, 1, none⟩ (.int .i64 (off + rz))) sb s S O xb mb v ∧ Below pA w ((w6.setCell ⟨pE, 0, none⟩ (.int .i64 (n + 1))).setCell ⟨pE, 1, none⟩ (.int .i64 (off + rz))) ∧ ((w6.setCell ⟨pE, 0, none⟩ (.int .i64 (n + 1))).setCell ⟨pE, 1, none⟩ (.int .i64 (off + rz))).heap[pA]? = some (.cells #[.int .i64 0, .slice none 0 0] 66 (0, 0)) ∧ ((w6.setCell ⟨pE, 0, none⟩ (.int .i64 (n + 1))).setCell ⟨pE, 1, none⟩ (.int .i64 (off + rz))).heap[pE]? = some (.cells #[.int .i64 (n + 1), .int .i64 (off + rz)] 148 (0, 0))) := hide (by
     obtain ⟨u1, u2, u3, u4, u5⟩ := ST6.out
     obtain ⟨p1, p2, p3⟩ := hpe.out
     refine ⟨⟨u1.sg.but BE (fun k hk c => ?_), u1.dk.but BE (fun k hk c => ?_), u1.ap⟩, put2_below u2 (Nat.le_of_lt p1) _ _, BE.at u3 (fun c => ?_), put2_heap u4 _ _⟩
     ·have := p3 k hk; omega
     ·have := p2 k hk; omega
     ·omega)
    have hn8 : Hid (nAt ((w6.setCell ⟨pE, 0, none⟩ (.int .i64 (n + 1))).setCell ⟨pE, 1, none⟩ (.int .i64 (off + rz))) pE = n + 1) := hide (by
     unfold nAt
     rw [cell_of FIN.out.2.2.2]
     rfl)
    replace hend := hide hend
    replace hnl := hide hnl
    clear hst hsz ST6 BE
    go_wp2_with fail
    go_roundw
    case rel => exact ⟨n + 1, off + rz, rs, rfl, by omega, by have := hnl.out; omega, by omega, by omega, hE9.out, FIN.out⟩
    case measure => (show (lsn - nAt _ pE).toNat < (lsn - nAt wr pE).toNat); rw [hn8.out, hn9.out]; have := hnl.out; omega
end Go.Proofs.YtbmnjaaacodgdaaGreat.Sg
namespace Go.Proofs.YtbmnjaaacodgdaaGreat
open Go.RowKit
theorem cut2 (a b r : List UInt8) (n m : Nat) (ha : a.length = n) (hb : b.length = m) : ((a ++ (b ++ r)).drop n).take m = b := by
 rw [List.drop_left' ha, List.take_left' hb]
theorem rd_back (seed : Crc.R) (lsn : Nat) (d r : List UInt8) (h1 : 1 ≤ lsn) (h2 : lsn ≤ 9223372036854775806) (hd : d.length ≤ 4096) :
    rdF seed (frm seed lsn d ++ r) = ((lsn : Int), d, 16 + (d.length : Int), fsum seed lsn d, 0) := by
 have e0 : frm seed lsn d ++ r = fx 4 d.length ++ (fx 8 lsn ++ (fmark (fsum seed lsn d) ++ (d ++ r))) := by simp [frm, ffs]
 have n1 : fN (frm seed lsn d ++ r) = d.length := by
  rw [fN, e0, List.take_left' (fx_len 4 _)]
  exact fx_num 4 _ (by simp; omega)
 have n2 : fL (frm seed lsn d ++ r) = lsn := by
  rw [fL, e0, cut2 _ _ _ 4 8 (fx_len _ _) (fx_len _ _)]
  exact fx_num 8 _ (by simp; omega)
 have e1 : frm seed lsn d ++ r = (fx 4 d.length ++ fx 8 lsn) ++ (fmark (fsum seed lsn d) ++ (d ++ r)) := by simp [frm, ffs]
 have n3 : fM (frm seed lsn d ++ r) = (Crc.maskOf (fsum seed lsn d)).toNat := by
  rw [fM, e1, cut2 _ _ _ 12 4 (by simp [fx_len]) (fmark_len _), fmark]
  exact fx_num 4 _ (by have := Crc.lt32 (Crc.maskOf (fsum seed lsn d)); simpa using this)
 have e2 : frm seed lsn d ++ r = (fx 4 d.length ++ (fx 8 lsn ++ fmark (fsum seed lsn d))) ++ (d ++ r) := by simp [frm, ffs]
 have n4 : fD (frm seed lsn d ++ r) = d := by
  rw [fD, n1, e2, cut2 _ _ _ 16 d.length (by simp [fx_len, fmark_len]) rfl]
 have n5 : (frm seed lsn d ++ r).length = 16 + d.length + r.length := by rw [List.length_append, frm_len]
 have e : rdE seed (frm seed lsn d ++ r) = 0 := by
  rw [rdE, n1, n2, n3, n4, n5, if_neg (by omega), if_neg (by omega), if_neg (by omega), if_neg (by omega), if_neg (by simp)]
 rw [rdF, if_pos e, n1, n2, n4]
theorem wrF_ok {seed : Crc.R} {lsn : Int} {d : List UInt8} (h1 : 1 ≤ lsn) (h2 : lsn ≤ 9223372036854775806) (hd : d.length ≤ 4096) : wrF seed lsn d = (frm seed lsn.toNat d, fsum seed lsn.toNat d, 0) := by
 rw [wrF, if_neg (by simp [inB, h1, h2]), if_neg (by omega)]
theorem whF_ok {nm bs : Int} {seed : Crc.R} (h1 : 1 ≤ nm) (h2 : 1 ≤ bs) : whF nm bs seed = (hed nm.toNat bs.toNat seed, hsum nm.toNat bs.toNat seed, 0) := by
 rw [whF, if_neg (by omega)]
end Go.Proofs.YtbmnjaaacodgdaaGreat
namespace Go.Proofs.YtbmnjaaacodgdaaGreat.Sg
open Go.RowKit Go.Maps Go.Sort Go.Shelf Go.Proofs.YtbmnjaaacodgdaaGreat.Nm Go.Proofs.YtbmnjaaacodgdaaGreat.Dk
def Has (S : DS) (file : ByteArray) (B : List UInt8) : Prop := ∃ p, S.find file = (some p, 0) ∧ (S.F p).by_ = B
theorem Has.read {S : DS} {file : ByteArray} {B : List UInt8} (h : Has S file B) (o n : Nat) (hn : o + n ≤ B.length) : S.read file (o : Int) (n : Int) = ((B.drop o).take n, 0) := by
 obtain ⟨p, e, hB⟩ := h
 unfold DS.read
 rw [e]
 dsimp only
 rw [hB, if_pos (by omega)]
 simp
theorem frm_front (seed : Crc.R) (lsn : Nat) (d r : List UInt8) : (frm seed lsn d ++ r).take 4 = fx 4 d.length := by
 have : frm seed lsn d ++ r = fx 4 d.length ++ (fx 8 lsn ++ (fmark (fsum seed lsn d) ++ (d ++ r))) := by simp [frm, ffs]
 rw [this, List.take_left' (fx_len 4 _)]
theorem rf_at {s : SG} {S : DS} {pre post d : List UInt8} {lsn : Nat} {seed : Crc.R} (h : Has S s.file (pre ++ (frm seed lsn d ++ post))) (hs : s.size = ((pre ++ (frm seed lsn d ++ post)).length : Int)) (h1 : 1 ≤ lsn) (h2 : lsn ≤ 9223372036854775806) (hd : d.length ≤ 4096) :
    rfF s S (lsn : Int) (pre.length : Int) seed = (((lsn : Int), d), 16 + (d.length : Int), fsum seed lsn d, 0) := by
 have hl := frm_len seed lsn d
 have hB : (pre ++ (frm seed lsn d ++ post)).length = pre.length + (16 + d.length + post.length) := by simp [hl]
 have hm : min 16 (s.size - (pre.length : Int)) = ((16 : Nat) : Int) := by rw [hs, hB]; omega
 have hdr : (pre ++ (frm seed lsn d ++ post)).drop pre.length = frm seed lsn d ++ post := by simp
 have r1 := h.read pre.length 16 (by rw [hB]; omega)
 rw [hdr] at r1
 have hst : stv ((frm seed lsn d ++ post).take 16) 4 (0, 0) = d.length := by
  unfold stv
  rw [if_pos ⟨rfl, by simp [hl]; omega⟩]
  simp only [List.drop_zero, List.take_take]
  rw [show min 4 16 = 4 by rfl, frm_front, fx_num 4 _ (Nat.lt_of_le_of_lt hd (by decide))]
 have hsz : szF ((d.length : Nat) : Int) = ((16 + d.length : Nat) : Int) := by unfold szF; rw [if_pos (by omega)]; omega
 have r2 := h.read pre.length (16 + d.length) (by rw [hB]; omega)
 rw [hdr, List.take_left' hl] at r2
 have hfb : fbF s S (pre.length : Int) = (frm seed lsn d, 0) := by
  unfold fbF
  rw [hm, r1]
  simp only
  rw [if_neg (by simp), hst, hsz, if_neg (by rw [hs, hB]; omega), r2]
 have hrd := rd_back seed lsn d [] h1 h2 hd
 rw [List.append_nil] at hrd
 unfold rfF
 rw [hfb]
 simp only
 rw [if_neg (by simp), hrd]
 simp only
 rw [if_neg (by simp)]
theorem wk_step {seed : Crc.R} {n : Int} {ls : List (List UInt8)} {i : Nat} (hi : i < ls.length) (h1 : 1 ≤ n) (h2 : n + (ls.length : Int) ≤ 9223372036854775807) (hd : ∀ d ∈ ls, d.length ≤ 4096) :
    wk seed n ls (i + 1) = ((wk seed n ls i).1 ++ frm (wk seed n ls i).2.2 (n + (i : Int)).toNat (ls.getD i []), (wk seed n ls i).2.1 ++ [((16 + (ls.getD i []).length : Int), ((fsum (wk seed n ls i).2.2 (n + (i : Int)).toNat (ls.getD i [])).toNat : Int))], fsum (wk seed n ls i).2.2 (n + (i : Int)).toNat (ls.getD i [])) := by
 have hm : ls.getD i [] ∈ ls := by simp [List.getD, hi]
 rw [wk, wrF_ok (by omega) (by omega) (hd _ hm)]
 simp only [frm_len]
 congr 3
theorem wk_prefix (seed : Crc.R) (n : Int) (ls ls' : List (List UInt8)) : ∀ i, i ≤ ls.length → wk seed n (ls ++ ls') i = wk seed n ls i
 | 0, _ => rfl
 | i + 1, hi => by
  have e : (ls ++ ls').getD i [] = ls.getD i [] := by simp [List.getD, List.getElem?_append_left (show i < ls.length by omega)]
  rw [wk, wk, wk_prefix seed n ls ls' i (by omega), e]
theorem wk_split {seed : Crc.R} {n : Int} {ls : List (List UInt8)} (h1 : 1 ≤ n) (h2 : n + (ls.length : Int) ≤ 9223372036854775807) (hd : ∀ d ∈ ls, d.length ≤ 4096) (i : Nat) : ∀ j, i + j ≤ ls.length → ∃ post, (wk seed n ls (i + j)).1 = (wk seed n ls i).1 ++ post
 | 0, _ => ⟨[], by simp⟩
 | j + 1, hj => by
  obtain ⟨post, hp⟩ := wk_split h1 h2 hd i j (by omega)
  have := wk_step (seed := seed) (i := i + j) (show i + j < ls.length by omega) h1 h2 hd
  refine ⟨post ++ frm (wk seed n ls (i + j)).2.2 (n + ((i + j : Nat) : Int)).toNat (ls.getD (i + j) []), ?_⟩
  rw [← Nat.add_assoc, this, hp]
  simp
theorem wk_at {seed : Crc.R} {n : Int} {ls : List (List UInt8)} (h1 : 1 ≤ n) (h2 : n + (ls.length : Int) ≤ 9223372036854775807) (hd : ∀ d ∈ ls, d.length ≤ 4096) {i : Nat} (hi : i < ls.length) : ∃ post, (wk seed n ls ls.length).1 = (wk seed n ls i).1 ++ (frm (wk seed n ls i).2.2 (n + (i : Int)).toNat (ls.getD i []) ++ post) := by
 obtain ⟨post, hp⟩ := wk_split (seed := seed) h1 h2 hd (i + 1) (ls.length - (i + 1)) (by omega)
 rw [show i + 1 + (ls.length - (i + 1)) = ls.length by omega] at hp
 refine ⟨post, ?_⟩
 rw [hp, wk_step hi h1 h2 hd]
 simp
theorem rl_at {s : SG} {S : DS} {hd : List UInt8} {sd0 : Crc.R} {ls : List (List UInt8)} (h : Has S s.file (hd ++ (wk sd0 s.base ls ls.length).1)) (hs : s.size = ((hd ++ (wk sd0 s.base ls ls.length).1).length : Int)) (h1 : 1 ≤ s.base) (h2 : s.base + (ls.length : Int) ≤ 9223372036854775807) (hdl : ∀ d ∈ ls, d.length ≤ 4096) : ∀ k i, i + k < ls.length →
    rlF s S k (s.base + (i : Int)) ((hd.length : Int) + ((wk sd0 s.base ls i).1.length : Int)) (wk sd0 s.base ls i).2.2 = ((s.base + ((i + k : Nat) : Int), ls.getD (i + k) []), 0) := by
 have step : ∀ i, i < ls.length → rfF s S (s.base + (i : Int)) ((hd.length : Int) + ((wk sd0 s.base ls i).1.length : Int)) (wk sd0 s.base ls i).2.2 = ((s.base + (i : Int), ls.getD i []), 16 + ((ls.getD i []).length : Int), fsum (wk sd0 s.base ls i).2.2 (s.base + (i : Int)).toNat (ls.getD i []), 0) := fun i hi => by
  obtain ⟨post, hp⟩ := wk_at (seed := sd0) h1 h2 hdl hi
  have hm : ls.getD i [] ∈ ls := by simp [List.getD, hi]
  rw [hp, ← List.append_assoc] at h hs
  have := rf_at (pre := hd ++ (wk sd0 s.base ls i).1) (lsn := (s.base + (i : Int)).toNat) h hs (by omega) (by omega) (hdl _ hm)
  rw [List.length_append, show (((s.base + (i : Int)).toNat : Nat) : Int) = s.base + (i : Int) by omega] at this
  rw [show ((hd.length : Int) + ((wk sd0 s.base ls i).1.length : Int)) = ((hd.length + (wk sd0 s.base ls i).1.length : Nat) : Int) by omega]
  exact this
 intro k
 induction k with
 | zero =>
  intro i hi
  rw [rlF, step i (by omega)]
  simp
 | succ k ih =>
  intro i hi
  rw [rlF, step i (by omega)]
  simp only
  rw [if_neg (by simp)]
  have hw := wk_step (seed := sd0) (i := i) (show i < ls.length by omega) h1 h2 hdl
  have := ih (i + 1) (by omega)
  rw [hw] at this
  simp only [List.length_append, frm_len] at this
  rw [show s.base + (i : Int) + 1 = s.base + ((i + 1 : Nat) : Int) by omega, show ((hd.length : Int) + ((wk sd0 s.base ls i).1.length : Int) + (16 + ((ls.getD i []).length : Int))) = ((hd.length : Int) + (((wk sd0 s.base ls i).1.length + (16 + (ls.getD i []).length) : Nat) : Int)) by omega, this]
  rw [show i + 1 + k = i + (k + 1) by omega]
theorem sget_sins_ne (n f m : Int) (h : m ≠ n) : ∀ l : Sr, sget (sins (n, f) l) m = sget l m
 | [] => by
  have : (n == m) = false := by simpa using fun c => h c.symm
  simp [sins, sget, this]
 | y :: r => by
  have h1 : (n == m) = false := by simpa using fun c => h c.symm
  have ih := sget_sins_ne n f m h r
  simp only [sins]
  split
  ·simp only [sget, List.find?_cons, h1]
  ·simp only [sget, List.find?_cons] at ih ⊢
   cases y.1 == m
   ·exact ih
   ·rfl
theorem sget_sdel_ne (n m : Int) (h : m ≠ n) : ∀ l : Sr, sget (sdel l n) m = sget l m
 | [] => rfl
 | y :: r => by
  have ih := sget_sdel_ne n m h r
  unfold sdel at ih ⊢
  by_cases hy : y.1 = n
  ·have h1 : (y.1 == n) = true := by simpa using hy
   have h2 : (y.1 == m) = false := by simpa [hy] using fun c => h c.symm
   rw [List.filter_cons_of_neg (by simp [hy])]
   rw [ih]
   simp only [sget, List.find?_cons, h2]
  ·rw [List.filter_cons_of_pos (by simpa using hy)]
   simp only [sget, List.find?_cons] at ih ⊢
   cases y.1 == m
   ·exact ih
   ·rfl
theorem sget_sput_ne (l : Sr) {n f m : Int} (h : m ≠ n) : sget (sput l n f) m = sget l m := by
 unfold sput
 rw [sget_sins_ne n f m h, sget_sdel_ne n m h]
theorem find_some {l : List (Int × Int)} {n : Int} {p : Int × Int} (hp : p ∈ l) (h : p.1 ≤ n) : ∃ e, e ∈ l ∧ e.1 ≤ n ∧ Ix.findF l n = (e, true) := by
 have hm : p ∈ l.filter fun e => decide (e.1 ≤ n) := by simp [hp, h]
 unfold Ix.findF
 cases hq : (l.filter fun e => decide (e.1 ≤ n)).getLast? with
 | none => rw [List.getLast?_eq_none_iff] at hq; rw [hq] at hm; simp at hm
 | some e =>
  have := List.mem_of_getLast? hq
  simp at this
  exact ⟨e, this.1, this.2, rfl⟩
theorem find_snoc (l : List (Int × Int)) (n o : Int) : Ix.findF (l ++ [(n, o)]) n = ((n, o), true) := by
 unfold Ix.findF
 rw [List.filter_append]
 simp
structure Coh (s : SG) (sd0 : Crc.R) (ds : List (List UInt8)) : Prop where
 ok : SOk s
 b1 : 1 ≤ s.base
 n : s.next = s.base + (ds.length : Int)
 z : s.size = 32 + ((wk sd0 s.base ds ds.length).1.length : Int)
 e : s.seed = ((wk sd0 s.base ds ds.length).2.2.toNat : Int)
 d : ∀ d ∈ ds, d.length ≤ 4096
 x : ∀ p ∈ s.x.l, ∃ i, i < ds.length ∧ p = (s.base + (i : Int), 32 + ((wk sd0 s.base ds i).1.length : Int)) ∧ sget s.sd p.1 = some ((wk sd0 s.base ds i).2.2.toNat : Int)
 f : ds ≠ [] → (s.base, (32 : Int)) ∈ s.x.l
 f0 : ds = [] → s.x.l = []
 la : ds ≠ [] → s.x.la.1 = s.next - 1 ∧ s.x.la.2 < s.size
theorem newSG_coh (b : Nat) (file : ByteArray) (nm bs : Int) (seed sum : Crc.R) (h1 : 1 ≤ bs) (h2 : bs ≤ 9223372036854775807) : Coh (newSG b file nm bs seed sum) sum [] :=
 ⟨newSG_ok b file nm bs seed sum h1 h2, h1, by simp [newSG], rfl, rfl, fun d hd => by simp at hd, fun p hp => by simp [newSG] at hp, fun h => absurd rfl h, fun _ => rfl, fun h => absurd rfl h⟩
theorem Coh.next2 {s : SG} {sd0 : Crc.R} {ds : List (List UInt8)} (h : Coh s sd0 ds) : s.base + (ds.length : Int) ≤ 9223372036854775807 := by have := h.ok.n2; have := h.n; omega
theorem Coh.add {s : SG} {sd0 : Crc.R} {ds : List (List UInt8)} (h : Coh s sd0 ds) : ∃ l, (Ix.addF s.x s.next s.size).2 = ⟨s.x.st, l, (s.next, s.size)⟩ ∧ ((ds ≠ [] ∧ l = s.x.l) ∨ l = s.x.l ++ [(s.next, s.size)]) := by
 have a1 := h.ok.n1
 have a2 := h.ok.z1
 have a3 := h.ok.z2
 unfold Ix.addF
 rw [if_neg (by omega)]
 by_cases hd : ds = []
 ·have e := h.f0 hd
  rw [if_neg (by rw [e]; simp), if_pos (.inl e)]
  exact ⟨_, rfl, .inr rfl⟩
 ·obtain ⟨b1, b2⟩ := h.la hd
  rw [if_neg (by rintro ⟨_, c⟩; exact c ⟨by omega, b2⟩)]
  split
  ·exact ⟨_, rfl, .inr rfl⟩
  ·exact ⟨_, rfl, .inl ⟨hd, rfl⟩⟩
theorem Coh.grow {s : SG} {sd0 : Crc.R} {ds : List (List UInt8)} (h : Coh s sd0 ds) {d : List UInt8} {seed : Crc.R} (hs : s.seed = (seed.toNat : Int)) (hd : d.length ≤ 4096) (hn : s.next ≤ 9223372036854775806) (hz : s.size + 4112 ≤ 2147483647) (hl : s.sd.length + 1 ≤ 1000000000) :
    Coh (s.grown (16 + (d.length : Int)) ((fsum seed s.next.toNat d).toNat : Int)) sd0 (ds ++ [d]) := by
 have hds : ∀ d' ∈ ds ++ [d], d'.length ≤ 4096 := fun d' hd' => by
  rw [List.mem_append] at hd'
  rcases hd' with c | c
  ·exact h.d _ c
  ·simp at c; rw [c]; exact hd
 have hL : (ds ++ [d]).length = ds.length + 1 := by simp
 have hn0 := h.n
 have h2 : s.base + ((ds ++ [d]).length : Int) ≤ 9223372036854775807 := by rw [hL]; omega
 have hse : seed = (wk sd0 s.base ds ds.length).2.2 := by
  apply BitVec.eq_of_toNat_eq
  have := h.e
  omega
 have hgd : (ds ++ [d]).getD ds.length [] = d := by simp [List.getD]
 have hw := wk_step (seed := sd0) (i := ds.length) (ls := ds ++ [d]) (by rw [hL]; omega) h.b1 h2 hds
 rw [wk_prefix sd0 s.base ds [d] ds.length (Nat.le_refl _), hgd, ← hse, ← hn0] at hw
 have hok : SOk (s.grown (16 + (d.length : Int)) ((fsum seed s.next.toNat d).toNat : Int)) := by
  have q := (fsum seed s.next.toNat d).isLt
  have := (gk_ok h.ok [((16 + (d.length : Int)), ((fsum seed s.next.toNat d).toNat : Int))] (fun f hf => by simp at hf; rw [hf]; exact ⟨by show 0 ≤ 16 + (d.length : Int); omega, by show 16 + (d.length : Int) ≤ 4112; omega⟩) (fun f hf => by simp at hf; rw [hf]; exact ⟨by show (0 : Int) ≤ ((fsum seed s.next.toNat d).toNat : Int); omega, by show ((fsum seed s.next.toNat d).toNat : Int) < 4294967296; omega⟩) (by simp; omega) (by simp; omega) (by simpa using hl) 1 (by simp)).1
  exact this
 obtain ⟨l, hl1, hl2⟩ := h.add
 have hx : (s.grown (16 + (d.length : Int)) ((fsum seed s.next.toNat d).toNat : Int)).x = ⟨s.x.st, l, (s.next, s.size)⟩ := hl1
 have hsd : (s.grown (16 + (d.length : Int)) ((fsum seed s.next.toNat d).toNat : Int)).sd = if (Ix.findF l s.next).1.1 = s.next then sput s.sd s.next s.seed else s.sd := by
  show (if (Ix.findF (Ix.addF s.x s.next s.size).2.l s.next).1.1 = s.next then sput s.sd s.next s.seed else s.sd) = _
  rw [hl1]
 have old : ∀ p ∈ s.x.l, p.1 ≠ s.next ∧ ∃ i, i < (ds ++ [d]).length ∧ p = (s.base + (i : Int), 32 + ((wk sd0 s.base (ds ++ [d]) i).1.length : Int)) ∧ sget s.sd p.1 = some ((wk sd0 s.base (ds ++ [d]) i).2.2.toNat : Int) := fun p hp => by
  obtain ⟨i, hi, e1, e2⟩ := h.x p hp
  refine ⟨by rw [e1]; show s.base + (i : Int) ≠ _; omega, i, by rw [hL]; omega, ?_, ?_⟩
  ·rw [wk_prefix sd0 s.base ds [d] i (by omega)]; exact e1
  ·rw [wk_prefix sd0 s.base ds [d] i (by omega)]; exact e2
 refine ⟨hok, h.b1, ?_, ?_, ?_, hds, ?_, ?_, fun c => by simp at c, fun _ => ?_⟩
 ·show s.next + 1 = s.base + _; rw [hL]; omega
 ·show s.size + (16 + (d.length : Int)) = 32 + ((wk sd0 s.base (ds ++ [d]) (ds ++ [d]).length).1.length : Int)
  rw [hL, hw]
  have := h.z
  simp only [List.length_append, frm_len]
  omega
 ·show ((fsum seed s.next.toNat d).toNat : Int) = ((wk sd0 s.base (ds ++ [d]) (ds ++ [d]).length).2.2.toNat : Int)
  rw [hL, hw]
 ·intro p hp
  rw [hx] at hp
  rw [hsd]
  show ∃ i, i < (ds ++ [d]).length ∧ p = (s.base + (i : Int), 32 + ((wk sd0 s.base (ds ++ [d]) i).1.length : Int)) ∧ _
  rcases hl2 with ⟨hne, rfl⟩ | rfl
  ·obtain ⟨o1, o2⟩ := old p hp
   have hb := h.f hne
   obtain ⟨e, e1, e2, e3⟩ := find_some hb (show s.base ≤ s.next by omega)
   rw [if_neg (by rw [e3]; exact (old e e1).1)]
   exact o2
  ·rw [find_snoc, if_pos rfl]
   rw [List.mem_append] at hp
   rcases hp with hp | hp
   ·obtain ⟨o1, i, i1, i2, i3⟩ := old p hp
    exact ⟨i, i1, i2, by rw [sget_sput_ne _ o1]; exact i3⟩
   ·simp at hp
    subst hp
    refine ⟨ds.length, by rw [hL]; omega, ?_, ?_⟩
    ·rw [wk_prefix sd0 s.base ds [d] ds.length (Nat.le_refl _), hn0, h.z]
    ·show sget (sput s.sd s.next s.seed) s.next = some ((wk sd0 s.base (ds ++ [d]) ds.length).2.2.toNat : Int)
     rw [wk_prefix sd0 s.base ds [d] ds.length (Nat.le_refl _), sget_sput, h.e]
 ·intro _
  rw [hx]
  show (s.base, (32 : Int)) ∈ l
  by_cases hne : ds = []
  ·rcases hl2 with ⟨c, _⟩ | rfl
   ·exact absurd hne c
   ·have e1 : s.next = s.base := by rw [hn0, hne]; simp
    have e2 : s.size = 32 := by rw [h.z, hne]; simp [wk]
    rw [e1, e2]; simp
  ·have := h.f hne
   rcases hl2 with ⟨_, rfl⟩ | rfl
   ·exact this
   ·simp [this]
 ·rw [hx]
  refine ⟨?_, ?_⟩
  ·show s.next = s.next + 1 - 1; omega
  ·show s.size < s.size + (16 + (d.length : Int)); omega
theorem wk_shift {seed : Crc.R} {n : Int} (ds ls : List (List UInt8)) : ∀ i, wk (wk seed n ds ds.length).2.2 (n + (ds.length : Int)) ls i = ((wk seed n (ds ++ ls) (ds.length + i)).1.drop (wk seed n ds ds.length).1.length, (wk seed n (ds ++ ls) (ds.length + i)).2.1.drop ds.length, (wk seed n (ds ++ ls) (ds.length + i)).2.2) ∧ (wk seed n (ds ++ ls) (ds.length + i)).1 = (wk seed n ds ds.length).1 ++ (wk (wk seed n ds ds.length).2.2 (n + (ds.length : Int)) ls i).1
 | 0 => by
  rw [Nat.add_zero, wk_prefix seed n ds ls ds.length (Nat.le_refl _)]
  have := (wk_len seed n ds ds.length).2
  simp [wk, this]
 | i + 1 => by
  obtain ⟨e1, e2⟩ := wk_shift (seed := seed) (n := n) ds ls i
  have g : (ds ++ ls).getD (ds.length + i) [] = ls.getD i [] := by simp [List.getD, List.getElem?_append_right]
  have l1 := (wk_len seed n (ds ++ ls) (ds.length + i)).2
  have k : (wk (wk seed n ds ds.length).2.2 (n + (ds.length : Int)) ls i).2.2 = (wk seed n (ds ++ ls) (ds.length + i)).2.2 := by rw [e1]
  have k2 : (wk (wk seed n ds ds.length).2.2 (n + (ds.length : Int)) ls i).2.1 = (wk seed n (ds ++ ls) (ds.length + i)).2.1.drop ds.length := by rw [e1]
  have a : n + (ds.length : Int) + (i : Int) = n + ((ds.length + i : Nat) : Int) := by omega
  rw [← Nat.add_assoc, wk, wk, g, k, k2, a]
  refine ⟨?_, ?_⟩
  ·rw [e2]
   simp only [List.append_assoc, List.drop_left']
   congr 2
   rw [List.drop_append_of_le_length (by omega)]
  ·simp only
   rw [e2]
   simp
theorem wk_fsat {seed : Crc.R} {n : Int} {ls : List (List UInt8)} (h1 : 1 ≤ n) (h2 : n + (ls.length : Int) ≤ 9223372036854775807) (hd : ∀ d ∈ ls, d.length ≤ 4096) {i : Nat} : ∀ m, i < m → m ≤ ls.length → (wk seed n ls m).2.1.getD i (0, 0) = ((16 + (ls.getD i []).length : Int), ((fsum (wk seed n ls i).2.2 (n + (i : Int)).toNat (ls.getD i [])).toNat : Int))
 | 0, h, _ => by omega
 | m + 1, h, hm => by
  have l1 := (wk_len seed n ls m).2
  rw [wk_step (by omega) h1 h2 hd]
  by_cases e : i = m
  ·subst e
   simp [List.getD, l1]
  ·have := wk_fsat (seed := seed) h1 h2 hd (i := i) m (by omega) (by omega)
   rw [← this]
   simp [List.getD, List.getElem?_append_left (show i < (wk seed n ls m).2.1.length by omega)]
theorem Coh.puts {s : SG} {sd0 : Crc.R} {ds : List (List UInt8)} (h : Coh s sd0 ds) {seed : Crc.R} (hs : s.seed = (seed.toNat : Int)) (ls : List (List UInt8)) (hd : ∀ d ∈ ls, d.length ≤ 4096) (hn : s.next + (ls.length : Int) ≤ 9223372036854775807) (hz : s.size + (ls.length : Int) * 4112 ≤ 2147483647) (hl : s.sd.length + ls.length ≤ 1000000000) : ∀ i, i ≤ ls.length →
    Coh (gk s (wk seed s.next ls ls.length).2.1 i) sd0 (ds ++ ls.take i) ∧ (gk s (wk seed s.next ls ls.length).2.1 i).seed = ((wk seed s.next ls i).2.2.toNat : Int)
 | 0, _ => ⟨by simpa [gk] using h, hs⟩
 | i + 1, hi => by
  obtain ⟨c1, c2⟩ := h.puts hs ls hd hn hz hl i (by omega)
  have hf := wk_fs seed s.next ls ls.length
  have hlen := (wk_len seed s.next ls ls.length).2
  obtain ⟨_, _, _, g4, _, _, g7⟩ := gk_b s (wk seed s.next ls ls.length).2.1 i
  have gz := (gk_size s (wk seed s.next ls ls.length).2.1 (fun f h => (hf f h).1) i).2
  have gl := (gk_ok h.ok (wk seed s.next ls ls.length).2.1 (fun f h => (hf f h).1) (fun f h => (hf f h).2) (by rw [hlen]; omega) (by rw [hlen]; omega) (by rw [hlen]; omega) i (by omega)).2
  have hm : ls.getD i [] ∈ ls := by simp [List.getD, show i < ls.length by omega]
  have hw := wk_step (seed := seed) (i := i) (show i < ls.length by omega) h.ok.n1 hn hd
  have e1 := wk_fsat (seed := seed) h.ok.n1 hn hd (i := i) ls.length (by omega) (Nat.le_refl _)
  have hi4 : ((i : Int) + 1) * 4112 ≤ (ls.length : Int) * 4112 := by omega
  have q := c1.grow c2 (hd _ hm) (by omega) (by omega) (by omega)
  rw [g7] at q
  have e2 : gk s (wk seed s.next ls ls.length).2.1 (i + 1) = (gk s (wk seed s.next ls ls.length).2.1 i).grown (16 + ((ls.getD i []).length : Int)) ((fsum (wk seed s.next ls i).2.2 (s.next + (i : Int)).toNat (ls.getD i [])).toNat : Int) := by
   rw [gk, e1]
  have e3 : ds ++ ls.take (i + 1) = (ds ++ ls.take i) ++ [ls.getD i []] := by
   have hii : i < ls.length := by omega
   rw [List.take_add_one]
   simp [List.getD, hii]
  rw [e2, e3]
  refine ⟨q, ?_⟩
  rw [hw]
  rfl
theorem Coh.read {s : SG} {sd0 : Crc.R} {ds : List (List UInt8)} (h : Coh s sd0 ds) {S : DS} {hd : List UInt8} (hh : hd.length = 32) (H : Has S s.file (hd ++ (wk sd0 s.base ds ds.length).1)) {lsn : Int} (h1 : s.base ≤ lsn) (h2 : lsn < s.next) :
    rdS s S lsn = ((lsn, ds.getD (lsn - s.base).toNat []), 0) := by
 have hn := h.n
 have hne : ds ≠ [] := fun c => by rw [c] at hn; simp at hn; omega
 obtain ⟨e, e1, e2, e3⟩ := find_some (h.f hne) h1
 obtain ⟨i, i1, i2, i3⟩ := h.x e e1
 have hsz : s.size = ((hd ++ (wk sd0 s.base ds ds.length).1).length : Int) := by rw [List.length_append, hh, h.z]; simp
 have hsd : seedAt s e.1 = (wk sd0 s.base ds i).2.2 := by
  unfold seedAt
  rw [i3]
  simp
 have hi : e.1 = s.base + (i : Int) := by rw [i2]
 have ho : e.2 = (hd.length : Int) + ((wk sd0 s.base ds i).1.length : Int) := by rw [i2, hh]; rfl
 unfold rdS
 rw [if_neg (by omega), e3]
 simp only
 rw [hsd, ho, hi]
 have := rl_at H hsz h.b1 h.next2 h.d (lsn - (s.base + (i : Int))).toNat i (by omega)
 rw [this]
 have q : i + (lsn - (s.base + (i : Int))).toNat = (lsn - s.base).toNat := by omega
 rw [q, show s.base + (((lsn - s.base).toNat : Nat) : Int) = lsn by omega]
open Ix (wp_region_T wpAnyT wpAnyT_take wpAnyT_one wpAnyT_done vac)
def put8 (w : World) (g : Nat) (a0 a1 a2 a3 a4 a5 a6 a7 : Value) : World := ((((((((w.setCell ⟨g, 0, none⟩ a0).setCell ⟨g, 1, none⟩ a1).setCell ⟨g, 2, none⟩ a2).setCell ⟨g, 3, none⟩ a3).setCell ⟨g, 4, none⟩ a4).setCell ⟨g, 5, none⟩ a5).setCell ⟨g, 6, none⟩ a6).setCell ⟨g, 7, none⟩ a7)
theorem put8_heap {w : World} {g : Nat} {z0 z1 z2 z3 z4 z5 z6 z7 : Value} {T : TypeId} (h : w.heap[g]? = some (.cells #[z0, z1, z2, z3, z4, z5, z6, z7] T (0, 0))) (a0 a1 a2 a3 a4 a5 a6 a7 : Value) : (put8 w g a0 a1 a2 a3 a4 a5 a6 a7).heap[g]? = some (.cells #[a0, a1, a2, a3, a4, a5, a6, a7] T (0, 0)) := by
 unfold put8
 have e0 : (w.setCell ⟨g, 0, none⟩ a0).heap[g]? = some (.cells #[a0, z1, z2, z3, z4, z5, z6, z7] T (0, 0)) := by rw [heap_setCell_same _ g 0 _ _ _ h]; rfl
 have e1 : ((w.setCell ⟨g, 0, none⟩ a0).setCell ⟨g, 1, none⟩ a1).heap[g]? = some (.cells #[a0, a1, z2, z3, z4, z5, z6, z7] T (0, 0)) := by rw [heap_setCell_same _ g 1 _ _ _ e0]; rfl
 have e2 : (((w.setCell ⟨g, 0, none⟩ a0).setCell ⟨g, 1, none⟩ a1).setCell ⟨g, 2, none⟩ a2).heap[g]? = some (.cells #[a0, a1, a2, z3, z4, z5, z6, z7] T (0, 0)) := by rw [heap_setCell_same _ g 2 _ _ _ e1]; rfl
 have e3 : ((((w.setCell ⟨g, 0, none⟩ a0).setCell ⟨g, 1, none⟩ a1).setCell ⟨g, 2, none⟩ a2).setCell ⟨g, 3, none⟩ a3).heap[g]? = some (.cells #[a0, a1, a2, a3, z4, z5, z6, z7] T (0, 0)) := by rw [heap_setCell_same _ g 3 _ _ _ e2]; rfl
 have e4 : (((((w.setCell ⟨g, 0, none⟩ a0).setCell ⟨g, 1, none⟩ a1).setCell ⟨g, 2, none⟩ a2).setCell ⟨g, 3, none⟩ a3).setCell ⟨g, 4, none⟩ a4).heap[g]? = some (.cells #[a0, a1, a2, a3, a4, z5, z6, z7] T (0, 0)) := by rw [heap_setCell_same _ g 4 _ _ _ e3]; rfl
 have e5 : ((((((w.setCell ⟨g, 0, none⟩ a0).setCell ⟨g, 1, none⟩ a1).setCell ⟨g, 2, none⟩ a2).setCell ⟨g, 3, none⟩ a3).setCell ⟨g, 4, none⟩ a4).setCell ⟨g, 5, none⟩ a5).heap[g]? = some (.cells #[a0, a1, a2, a3, a4, a5, z6, z7] T (0, 0)) := by rw [heap_setCell_same _ g 5 _ _ _ e4]; rfl
 have e6 : (((((((w.setCell ⟨g, 0, none⟩ a0).setCell ⟨g, 1, none⟩ a1).setCell ⟨g, 2, none⟩ a2).setCell ⟨g, 3, none⟩ a3).setCell ⟨g, 4, none⟩ a4).setCell ⟨g, 5, none⟩ a5).setCell ⟨g, 6, none⟩ a6).heap[g]? = some (.cells #[a0, a1, a2, a3, a4, a5, a6, z7] T (0, 0)) := by rw [heap_setCell_same _ g 6 _ _ _ e5]; rfl
 have e7 : ((((((((w.setCell ⟨g, 0, none⟩ a0).setCell ⟨g, 1, none⟩ a1).setCell ⟨g, 2, none⟩ a2).setCell ⟨g, 3, none⟩ a3).setCell ⟨g, 4, none⟩ a4).setCell ⟨g, 5, none⟩ a5).setCell ⟨g, 6, none⟩ a6).setCell ⟨g, 7, none⟩ a7).heap[g]? = some (.cells #[a0, a1, a2, a3, a4, a5, a6, a7] T (0, 0)) := by rw [heap_setCell_same _ g 7 _ _ _ e6]; rfl
 exact e7
theorem put8_below {B : Nat} {u w : World} (h : Below B u w) {g : Nat} (hg : B ≤ g) (a0 a1 a2 a3 a4 a5 a6 a7 : Value) : Below B u (put8 w g a0 a1 a2 a3 a4 a5 a6 a7) := (((((((h.setCell hg a0).setCell hg a1).setCell hg a2).setCell hg a3).setCell hg a4).setCell hg a5).setCell hg a6).setCell hg a7
def SG.look (s : SG) : Array Value := #[.string s.file, .int .i64 s.num, .int .i64 s.base, .int .u32 s.hs, .int .i64 s.next, .int .i64 s.size, .int .u32 s.seed, .bool (s.cond != 0)]
theorem look_any {w : World} {sb : Nat} {s : SG} {xb mb : Nat} {v : Value} (h : Seg w sb s xb mb v) : Calls Tryz.prog 24 #[.pointer (some ⟨sb, 0, none⟩)] w fun e w' => e = .returned (.agg s.look) ∧ Below w.heap.size w w' := by
 have B1 := box_below w (.cells lookZ 73)
 have N1 := heap_alloc_new w (.cells lookZ 73)
 have S1 := h.below B1
 obtain ⟨y0, _⟩ := S1.cells
 have hM := hide (made_yes _ sb s.b y0)
 clear y0 h
 unfold lookZ at *
 obtain ⟨w1, hw1⟩ : ∃ w1, Hid (w.alloc (.cells #[.string ⟨#[]⟩, .int .i64 0, .int .i64 0, .int .u32 0, .int .i64 0, .int .i64 0, .int .u32 0, .bool false] 73) = w1) := ⟨_, rfl⟩
 rw [hw1.out] at B1 N1 S1 hM
 replace B1 := hide B1
 have hg : w.heap.size ≤ w.heap.size := Nat.le_refl _
 unfold SG.look
 go_enter Tryz.func24, Tryz.ntmps24
 go_upto_region 1 with fail
 rw [hw1.out]
 go_upto_region 3 with (first | (go_at_call 62; refine hM.out.mono ?_; rintro e w2 ⟨rfl, e1⟩; rw [e1]; clear e1 w2) | fail)
 obtain ⟨g, hgs⟩ : ∃ g, Hid (w.heap.size = g) := ⟨_, rfl⟩
 rw [hgs.out] at B1 N1 hg ⊢
 refine wp_region_T (fun q => Seg q sb s xb mb v) 26 (by kernel_rfl) ?_
 have KP : Hid (Seg w1.drew sb s xb mb v) := S1.below (Below.refl _ _).drew
 have KB : Hid (Below g w w1.drew) := hide (B1.out.trans ((Below.refl g w1).drew))
 have KN : Hid (w1.drew.heap[g]? = _) := hide N1
 clear S1 N1 B1 hM
 generalize w1.drew = q at *
 refine Ix.tk 0 ⟨some 7, .move (.tmp 0), _, _, _, _⟩ (.pointer (some ⟨sb, 0, none⟩)) [1,2,3,25,26] ?_ KP.out ?_
 ·intro wq hSw
  obtain ⟨y0, y1, y2, y3, y4, y5, y6, y7, y8, y9, y10⟩ := hSw.cells
  go_simp
 (try simp only [zzp, zzb, zzc])
 refine Ix.tk 1 ⟨some 8, .nilCheck (.tmp 7), _, _, _, _⟩ (.pointer (some ⟨sb, 0, none⟩)) [2,3,25,26] ?_ KP.out ?_
 ·intro wq hSw
  obtain ⟨y0, y1, y2, y3, y4, y5, y6, y7, y8, y9, y10⟩ := hSw.cells
  go_simp
 (try simp only [zzp, zzb, zzc])
 refine Ix.tk 2 ⟨some 9, .fieldAddr 131 (.tmp 8) 1, _, _, _, _⟩ (.pointer (some ⟨sb, 1, none⟩)) [3,25,26] ?_ KP.out ?_
 ·intro wq hSw
  obtain ⟨y0, y1, y2, y3, y4, y5, y6, y7, y8, y9, y10⟩ := hSw.cells
  go_simp
 (try simp only [zzp, zzb, zzc])
 refine Ix.tk 3 ⟨some 10, .load 9 (.tmp 9), _, _, _, _⟩ (.string s.file) [25,26] ?_ KP.out ?_
 ·intro wq hSw
  obtain ⟨y0, y1, y2, y3, y4, y5, y6, y7, y8, y9, y10⟩ := hSw.cells
  go_simp
 (try simp only [zzp, zzb, zzc])
 refine Ix.tk 4 ⟨some 11, .move (.tmp 0), _, _, _, _⟩ (.pointer (some ⟨sb, 0, none⟩)) [5,6,7,25,26] ?_ KP.out ?_
 ·intro wq hSw
  obtain ⟨y0, y1, y2, y3, y4, y5, y6, y7, y8, y9, y10⟩ := hSw.cells
  go_simp
 (try simp only [zzp, zzb, zzc])
 refine Ix.tk 5 ⟨some 12, .nilCheck (.tmp 11), _, _, _, _⟩ (.pointer (some ⟨sb, 0, none⟩)) [6,7,25,26] ?_ KP.out ?_
 ·intro wq hSw
  obtain ⟨y0, y1, y2, y3, y4, y5, y6, y7, y8, y9, y10⟩ := hSw.cells
  go_simp
 (try simp only [zzp, zzb, zzc])
 refine Ix.tk 6 ⟨some 13, .fieldAddr 131 (.tmp 12) 2, _, _, _, _⟩ (.pointer (some ⟨sb, 2, none⟩)) [7,25,26] ?_ KP.out ?_
 ·intro wq hSw
  obtain ⟨y0, y1, y2, y3, y4, y5, y6, y7, y8, y9, y10⟩ := hSw.cells
  go_simp
 (try simp only [zzp, zzb, zzc])
 refine Ix.tk 7 ⟨some 14, .load 38 (.tmp 13), _, _, _, _⟩ (.agg #[.int .i64 s.num, .int .i64 s.base, .int .u32 s.hs]) [25,26] ?_ KP.out ?_
 ·intro wq hSw
  obtain ⟨y0, y1, y2, y3, y4, y5, y6, y7, y8, y9, y10⟩ := hSw.cells
  go_simp
 (try simp only [zzp, zzb, zzc])
 refine Ix.tk 8 ⟨some 15, .move (.tmp 0), _, _, _, _⟩ (.pointer (some ⟨sb, 0, none⟩)) [9,10,11,25,26] ?_ KP.out ?_
 ·intro wq hSw
  obtain ⟨y0, y1, y2, y3, y4, y5, y6, y7, y8, y9, y10⟩ := hSw.cells
  go_simp
 (try simp only [zzp, zzb, zzc])
 refine Ix.tk 9 ⟨some 16, .nilCheck (.tmp 15), _, _, _, _⟩ (.pointer (some ⟨sb, 0, none⟩)) [10,11,25,26] ?_ KP.out ?_
 ·intro wq hSw
  obtain ⟨y0, y1, y2, y3, y4, y5, y6, y7, y8, y9, y10⟩ := hSw.cells
  go_simp
 (try simp only [zzp, zzb, zzc])
 refine Ix.tk 10 ⟨some 17, .fieldAddr 131 (.tmp 16) 3, _, _, _, _⟩ (.pointer (some ⟨sb, 5, none⟩)) [11,25,26] ?_ KP.out ?_
 ·intro wq hSw
  obtain ⟨y0, y1, y2, y3, y4, y5, y6, y7, y8, y9, y10⟩ := hSw.cells
  go_simp
 (try simp only [zzp, zzb, zzc])
 refine Ix.tk 11 ⟨some 18, .load 2 (.tmp 17), _, _, _, _⟩ (.int .i64 s.next) [25,26] ?_ KP.out ?_
 ·intro wq hSw
  obtain ⟨y0, y1, y2, y3, y4, y5, y6, y7, y8, y9, y10⟩ := hSw.cells
  go_simp
 (try simp only [zzp, zzb, zzc])
 refine Ix.tk 12 ⟨some 19, .move (.tmp 0), _, _, _, _⟩ (.pointer (some ⟨sb, 0, none⟩)) [13,14,15,25,26] ?_ KP.out ?_
 ·intro wq hSw
  obtain ⟨y0, y1, y2, y3, y4, y5, y6, y7, y8, y9, y10⟩ := hSw.cells
  go_simp
 (try simp only [zzp, zzb, zzc])
 refine Ix.tk 13 ⟨some 20, .nilCheck (.tmp 19), _, _, _, _⟩ (.pointer (some ⟨sb, 0, none⟩)) [14,15,25,26] ?_ KP.out ?_
 ·intro wq hSw
  obtain ⟨y0, y1, y2, y3, y4, y5, y6, y7, y8, y9, y10⟩ := hSw.cells
  go_simp
 (try simp only [zzp, zzb, zzc])
 refine Ix.tk 14 ⟨some 21, .fieldAddr 131 (.tmp 20) 4, _, _, _, _⟩ (.pointer (some ⟨sb, 6, none⟩)) [15,25,26] ?_ KP.out ?_
 ·intro wq hSw
  obtain ⟨y0, y1, y2, y3, y4, y5, y6, y7, y8, y9, y10⟩ := hSw.cells
  go_simp
 (try simp only [zzp, zzb, zzc])
 refine Ix.tk 15 ⟨some 22, .load 3 (.tmp 21), _, _, _, _⟩ (.int .i64 s.size) [25,26] ?_ KP.out ?_
 ·intro wq hSw
  obtain ⟨y0, y1, y2, y3, y4, y5, y6, y7, y8, y9, y10⟩ := hSw.cells
  go_simp
 (try simp only [zzp, zzb, zzc])
 refine Ix.tk 16 ⟨some 23, .move (.tmp 0), _, _, _, _⟩ (.pointer (some ⟨sb, 0, none⟩)) [17,18,19,25,26] ?_ KP.out ?_
 ·intro wq hSw
  obtain ⟨y0, y1, y2, y3, y4, y5, y6, y7, y8, y9, y10⟩ := hSw.cells
  go_simp
 (try simp only [zzp, zzb, zzc])
 refine Ix.tk 17 ⟨some 24, .nilCheck (.tmp 23), _, _, _, _⟩ (.pointer (some ⟨sb, 0, none⟩)) [18,19,25,26] ?_ KP.out ?_
 ·intro wq hSw
  obtain ⟨y0, y1, y2, y3, y4, y5, y6, y7, y8, y9, y10⟩ := hSw.cells
  go_simp
 (try simp only [zzp, zzb, zzc])
 refine Ix.tk 18 ⟨some 25, .fieldAddr 131 (.tmp 24) 5, _, _, _, _⟩ (.pointer (some ⟨sb, 7, none⟩)) [19,25,26] ?_ KP.out ?_
 ·intro wq hSw
  obtain ⟨y0, y1, y2, y3, y4, y5, y6, y7, y8, y9, y10⟩ := hSw.cells
  go_simp
 (try simp only [zzp, zzb, zzc])
 refine Ix.tk 19 ⟨some 26, .load 36 (.tmp 25), _, _, _, _⟩ (.int .u32 s.seed) [25,26] ?_ KP.out ?_
 ·intro wq hSw
  obtain ⟨y0, y1, y2, y3, y4, y5, y6, y7, y8, y9, y10⟩ := hSw.cells
  go_simp
 (try simp only [zzp, zzb, zzc])
 refine Ix.tk 20 ⟨some 27, .move (.tmp 0), _, _, _, _⟩ (.pointer (some ⟨sb, 0, none⟩)) [21,22,23,24,25,26] ?_ KP.out ?_
 ·intro wq hSw
  obtain ⟨y0, y1, y2, y3, y4, y5, y6, y7, y8, y9, y10⟩ := hSw.cells
  go_simp
 (try simp only [zzp, zzb, zzc])
 refine Ix.tk 21 ⟨some 28, .nilCheck (.tmp 27), _, _, _, _⟩ (.pointer (some ⟨sb, 0, none⟩)) [22,23,24,25,26] ?_ KP.out ?_
 ·intro wq hSw
  obtain ⟨y0, y1, y2, y3, y4, y5, y6, y7, y8, y9, y10⟩ := hSw.cells
  go_simp
 (try simp only [zzp, zzb, zzc])
 refine Ix.tk 22 ⟨some 29, .fieldAddr 131 (.tmp 28) 6, _, _, _, _⟩ (.pointer (some ⟨sb, 8, none⟩)) [23,24,25,26] ?_ KP.out ?_
 ·intro wq hSw
  obtain ⟨y0, y1, y2, y3, y4, y5, y6, y7, y8, y9, y10⟩ := hSw.cells
  go_simp
 (try simp only [zzp, zzb, zzc])
 refine Ix.tk 23 ⟨some 30, .load 127 (.tmp 29), _, _, _, _⟩ (.int .i64 s.cond) [24,25,26] ?_ KP.out ?_
 ·intro wq hSw
  obtain ⟨y0, y1, y2, y3, y4, y5, y6, y7, y8, y9, y10⟩ := hSw.cells
  go_simp
 (try simp only [zzp, zzb, zzc])
 refine Ix.tk 24 ⟨some 31, .binOp .neq 127 (.tmp 30) (.const (Value.int IntKind.i64 0)) 127, _, _, _, _⟩ (.bool (s.cond != 0)) [25,26] ?_ KP.out ?_
 ·intro wq hSw
  obtain ⟨y0, y1, y2, y3, y4, y5, y6, y7, y8, y9, y10⟩ := hSw.cells
  go_simp
 (try simp only [zzp, zzb, zzc])
 refine Ix.tk 25 ⟨some 32, .build 73 #[(0, .tmp 10), (1, .tmp 14), (2, .tmp 18), (3, .tmp 22), (4, .tmp 26), (5, .tmp 31)], _, _, _, _⟩ (.agg #[.string s.file, .int .i64 s.num, .int .i64 s.base, .int .u32 s.hs, .int .i64 s.next, .int .i64 s.size, .int .u32 s.seed, .bool (s.cond != 0)]) [26] ?_ KP.out ?_
 ·intro wq hSw
  obtain ⟨y0, y1, y2, y3, y4, y5, y6, y7, y8, y9, y10⟩ := hSw.cells
  go_simp
 (try simp only [zzp, zzb, zzc])
 have FIN := hide (put8_heap KN.out (.string s.file) (.int .i64 s.num) (.int .i64 s.base) (.int .u32 s.hs) (.int .i64 s.next) (.int .i64 s.size) (.int .u32 s.seed) (.bool (s.cond != 0)))
 have FB := hide (put8_below KB.out hg (.string s.file) (.int .i64 s.num) (.int .i64 s.base) (.int .u32 s.hs) (.int .i64 s.next) (.int .i64 s.size) (.int .u32 s.seed) (.bool (s.cond != 0)))
 have FZ : ∀ j, q.frozen? ⟨g, j, none⟩ = false := fun j => by simp [World.frozen?, KN.out]
 have c0 : ∀ j, q.cell? ⟨g, j, none⟩ = _ := fun j => cell_of KN.out
 unfold put8 at FIN FB
 refine wpAnyT_one (i := 26) (o := ⟨none, .store 73 (.tmp 2) (.tmp 32), _, _, _, _⟩) (by kernel_rfl) rfl (fun K hK => ?_)
 go_simp
 refine hK.out _ _ (vac (by kernel_rfl)) ?_
 clear hK K
 (try simp only [zzq])
 refine wpAnyT_done (by kernel_rfl) ?_ _
 go_wp2_with fail
 try simp only [Exit.inBlock, Exit.then]
 refine bodyPost_ret (v := .agg _) (results_cell_row rfl _ _ g 73 _ (0, 0) _ rfl FIN.out Tryz.underlying73 rfl lookSize) rfl ?_
 exact ⟨rfl, by rw [hgs.out]; exact FB.out⟩
def CS (w q : World) (sb : Nat) (s : SG) (S : DS) : Prop :=
 ∃ (O : Nat → Prop) (xb mb : Nat) (v : Value), SW q sb s S O xb mb v ∧ Below w.heap.size w q ∧ (∀ k, O k → w.heap.size ≤ k) ∧ ∀ k, SOwn sb xb mb v k → w.heap.size ≤ k
theorem CS.below {w q q' : World} {sb : Nat} {s : SG} {S : DS} (h : CS w q sb s S) (hb : Below q.heap.size q q') : CS w q' sb s S := by
 obtain ⟨O, xb, mb, v, h, hB, l1, l2⟩ := h
 exact ⟨O, xb, mb, v, h.below hb, hB.trans (hb.mono hB.size), l1, l2⟩
theorem CS.bel {w q : World} {sb : Nat} {s : SG} {S : DS} (h : CS w q sb s S) : Below w.heap.size w q := by
 obtain ⟨O, xb, mb, v, h, hB, l1, l2⟩ := h
 exact hB
theorem Sst.cs {w q q' : World} {sb xb mb : Nat} {v v' : Value} {O O' : Nat → Prop} {s : SG} {S : DS} (h : Sst q q' sb xb mb v v' O O') (hS : SW q' sb s S O' xb mb v') (hB : Below w.heap.size w q) (l1 : ∀ k, O k → w.heap.size ≤ k) (l2 : ∀ k, SOwn sb xb mb v k → w.heap.size ≤ k) : CS w q' sb s S := by
 refine ⟨O', xb, mb, v', hS, ⟨h.but.os.trans hB.os, h.but.tape.trans hB.tape, h.but.output.trans hB.output, Nat.le_trans hB.size h.but.size, fun k hk => (h.but.block k (Nat.lt_of_lt_of_le hk hB.size) (fun c => ?_)).trans (hB.block k hk)⟩, fun k hk => ?_, fun k hk => ?_⟩
 ·rcases c with c | c
  ·have := l2 k c; omega
  ·have := l1 k c; omega
 ·rcases h.o k hk with c | c
  ·exact l1 k c
  ·exact Nat.le_trans hB.size c
 ·rcases hk with c | c | c | c
  ·exact l2 k (.inl c)
  ·exact l2 k (.inr (.inl c))
  ·exact l2 k (.inr (.inr (.inl c)))
  ·rcases h.v k c with c | c
   ·exact l2 k (.inr (.inr (.inr c)))
   ·exact Nat.le_trans hB.size c
theorem cs_put {w q : World} {sb : Nat} {s : SG} {S : DS} (h : CS w q sb s S) (ok : SOk s) (seed : Crc.R) (hsd : s.seed = (seed.toNat : Int)) (vd : Value) (vs : List Value) (ls : List (List UInt8)) (hr : Row q vd vs) (hs : Sls q vs ls) (hl : ls.length ≤ 34000000000) (hz : s.size + (ls.length : Int) * 4112 ≤ 2147483647) (hl2 : s.sd.length + ls.length ≤ 1000000000) (hf : s.file.size ≤ maxLen) (hc : S.c7 < 900000000) :
    Calls Tryz.prog 16 #[.pointer (some ⟨sb, 0, none⟩), vd] q fun e w' => e = .returned (.tuple #[.int .i64 (putF s S seed ls).2.1, .int .i64 (putF s S seed ls).2.2]) ∧ CS w w' sb (putF s S seed ls).1.1 (putF s S seed ls).1.2 := by
 obtain ⟨O, xb, mb, v, h, hB, l1, l2⟩ := h
 refine (putS_any h ok seed hsd vd vs ls hr hs hl hz hl2 hf hc).mono ?_
 rintro e w' ⟨rfl, v', O', hS, hst⟩
 exact ⟨rfl, hst.cs hS hB l1 l2⟩
theorem cs_read {w q : World} {sb : Nat} {s : SG} {S : DS} (h : CS w q sb s S) (ok : SOk s) (lsn : Int) (h0 : -9223372036854775808 ≤ lsn) (h1 : lsn ≤ 9223372036854775807) (hbs : 1 ≤ s.base) (hf : s.file.size ≤ maxLen) :
    Calls Tryz.prog 20 #[.pointer (some ⟨sb, 0, none⟩), .int .i64 lsn] q fun e w' => ∃ vd, e = .returned (.tuple #[.agg #[.int .i64 (rdS s S lsn).1.1, vd], .int .i64 (rdS s S lsn).2]) ∧ Ob q.heap.size w' vd (rdS s S lsn).1.2 ∧ Below q.heap.size q w' := by
 obtain ⟨O, xb, mb, v, h, hB, l1, l2⟩ := h
 exact readS_any h ok lsn h0 h1 hbs hf
theorem cs_look {w q : World} {sb : Nat} {s : SG} {S : DS} (h : CS w q sb s S) : Calls Tryz.prog 24 #[.pointer (some ⟨sb, 0, none⟩)] q fun e w' => e = .returned (.agg s.look) ∧ Below q.heap.size q w' := by
 obtain ⟨O, xb, mb, v, h, hB, l1, l2⟩ := h
 exact look_any h.sg
theorem cs_count {w q : World} {sb : Nat} {s : SG} {S : DS} (h : CS w q sb s S) : Calls Tryz.prog 25 #[.pointer (some ⟨s.b, 0, none⟩)] q fun e w' => e = .returned (.agg S.cs) ∧ Below q.heap.size q w' := by
 obtain ⟨O, xb, mb, v, h, hB, l1, l2⟩ := h
 exact count_dsk h.dk
theorem cs_create {w q : World} {b : Nat} {S : DS} {O : Nat → Prop} (h : DskE q b S O) (hB : Below w.heap.size w q) (l1 : ∀ k, O k → w.heap.size ≤ k) (file : ByteArray) (nm bs : Int) (seed : Crc.R) (hf : file.size ≤ 140737488355328) (hm : file.size ≤ maxLen) (hc : S.c7 < 800000000) (n0 : -9223372036854775808 ≤ nm) (n1 : nm ≤ 9223372036854775807) (b0 : -9223372036854775808 ≤ bs) (b1 : bs ≤ 9223372036854775807)
    (hgo : ∀ p, (creF S file nm bs seed p).2 = 0) :
    Calls Tryz.prog 14 #[.pointer (some ⟨b, 0, none⟩), .string file, .agg #[.int .i64 nm, .int .i64 bs, .int .u32 (seed.toNat : Int)]] q fun e w' => ∃ p sb, e = .returned (.tuple #[.pointer (some ⟨sb, 0, none⟩), .int .i64 0]) ∧ p ∉ S.ps ∧ CS w w' sb (newSG b file nm bs seed (whF nm bs seed).2.1) (creF S file nm bs seed p).1 := by
 refine (createS_any h file nm bs seed hf hm hc n0 n1 b0 b1).mono ?_
 rintro e w' ⟨p, O', hp, hps, hg, ⟨c, _⟩ | ⟨_, sb, xb, mb, v, rfl, hS, hlo⟩⟩
 ·exact absurd (hgo p) c
 ·exact ⟨p, sb, rfl, hps, O', xb, mb, v, hS, hg.under l1 (Nat.le_refl _) hB, hg.low hB.size l1, fun k hk => Nat.le_trans hB.size (hlo k hk)⟩
structure Clm (s : SG) (S : DS) (sd0 : Crc.R) (hd : List UInt8) (ds : List (List UInt8)) (M : Nat) (L2 : Dr) (PP : List Ch) (F : Nat → Fl) (c : Int) (p : Nat) : Prop where
 co : Coh s sd0 ds
 cd : s.cond = 0
 hh : hd.length = 32
 cm : Cm S M L2 PP F c
 my : may s.file.data.toList = true
 gt : get (runs L2 PP) s.file.data.toList = some p
 by_ : (F p).by_ = hd ++ (wk sd0 s.base ds ds.length).1
 sl : s.sd.length ≤ ds.length
theorem Clm.has {s : SG} {S : DS} {sd0 : Crc.R} {hd : List UInt8} {ds : List (List UInt8)} {M : Nat} {L2 : Dr} {PP : List Ch} {F : Nat → Fl} {c : Int} {p : Nat} (h : Clm s S sd0 hd ds M L2 PP F c p) : Has S s.file (hd ++ (wk sd0 s.base ds ds.length).1) :=
 ⟨p, h.cm.find h.my h.gt, by rw [h.cm.F]; exact h.by_⟩
theorem Clm.read {s : SG} {S : DS} {sd0 : Crc.R} {hd : List UInt8} {ds : List (List UInt8)} {M : Nat} {L2 : Dr} {PP : List Ch} {F : Nat → Fl} {c : Int} {p : Nat} (h : Clm s S sd0 hd ds M L2 PP F c p) {lsn : Int} (h1 : s.base ≤ lsn) (h2 : lsn < s.next) : rdS s S lsn = ((lsn, ds.getD (lsn - s.base).toNat []), 0) := h.co.read h.hh h.has h1 h2
theorem Clm.put {s : SG} {S : DS} {sd0 : Crc.R} {hd : List UInt8} {ds : List (List UInt8)} {M : Nat} {L2 : Dr} {PP : List Ch} {F : Nat → Fl} {c : Int} {p : Nat} (h : Clm s S sd0 hd ds M L2 PP F c p) (ls : List (List UInt8)) (h0 : ls ≠ []) (hd4 : ∀ d ∈ ls, d.length ≤ 4096) (hn : s.next + (ls.length : Int) ≤ 9223372036854775807) (hz : s.size + (ls.length : Int) * 4112 ≤ 2147483647) (hl : ds.length + ls.length ≤ 1000000000)
    (hM : sumL F (runs L2 PP) + (wk (wk sd0 s.base ds ds.length).2.2 s.next ls ls.length).1.length ≤ M) :
    (putF s S (wk sd0 s.base ds ds.length).2.2 ls).2 = (s.next, 0) ∧ (putF s S (wk sd0 s.base ds ds.length).2.2 ls).1 = (gk s (wk (wk sd0 s.base ds ds.length).2.2 s.next ls ls.length).2.1 ls.length, (S.append s.file (wk (wk sd0 s.base ds ds.length).2.2 s.next ls ls.length).1).1) ∧
     Clm (putF s S (wk sd0 s.base ds ds.length).2.2 ls).1.1 (putF s S (wk sd0 s.base ds ds.length).2.2 ls).1.2 sd0 hd (ds ++ ls) M L2 PP (upd F p (apF (F p) (wk (wk sd0 s.base ds ds.length).2.2 s.next ls ls.length).1)) (c + 1) p := by
 have hr : refF s ls = 0 := by
  unfold refF
  rw [if_neg (by rw [h.cd]; decide), if_neg h0, if_neg (by rintro ⟨d, d1, d2⟩; have := hd4 d d1; omega), if_neg (by omega)]
 obtain ⟨k1, k2, k3⟩ := h.cm.append h.my h.gt _ hM
 have e : putF s S (wk sd0 s.base ds ds.length).2.2 ls = ((gk s (wk (wk sd0 s.base ds ds.length).2.2 s.next ls ls.length).2.1 ls.length, (S.append s.file (wk (wk sd0 s.base ds ds.length).2.2 s.next ls ls.length).1).1), s.next, 0) := by
  unfold putF
  rw [if_neg (by rw [hr]; decide), if_neg (by rw [k2]; decide)]
 rw [e]
 have hsl := h.sl
 have hlen := (wk_len (wk sd0 s.base ds ds.length).2.2 s.next ls ls.length).2
 have hf := wk_fs (wk sd0 s.base ds ds.length).2.2 s.next ls ls.length
 obtain ⟨c1, _⟩ := h.co.puts h.co.e ls hd4 hn hz (by omega) ls.length (Nat.le_refl _)
 rw [List.take_length] at c1
 obtain ⟨g1, g2, g3, g4, g5, g6, g7⟩ := gk_b s (wk (wk sd0 s.base ds ds.length).2.2 s.next ls ls.length).2.1 ls.length
 have gl := (gk_ok h.co.ok (wk (wk sd0 s.base ds ds.length).2.2 s.next ls ls.length).2.1 (fun f h => (hf f h).1) (fun f h => (hf f h).2) (by rw [hlen]; omega) (by rw [hlen]; omega) (by rw [hlen]; omega) ls.length (by omega)).2
 refine ⟨rfl, rfl, ⟨c1, by show (gk s _ ls.length).cond = 0; rw [g3]; exact h.cd, h.hh, k3, ?_, ?_, ?_, ?_⟩⟩
 ·show may (gk s _ ls.length).file.data.toList = true; rw [g2]; exact h.my
 ·show get _ (gk s _ ls.length).file.data.toList = _; rw [g2]; exact h.gt
 ·show _ = hd ++ (wk sd0 (gk s _ ls.length).base (ds ++ ls) (ds ++ ls).length).1
  rw [upd_same, g4, List.length_append, (wk_shift (seed := sd0) (n := s.base) ds ls ls.length).2, ← h.co.n]
  show (F p).by_ ++ _ = _
  rw [h.by_, List.append_assoc]
 ·show (gk s _ ls.length).sd.length ≤ _
  rw [List.length_append]
  omega
theorem upd_upd {α : Type} (F : Nat → α) (p : Nat) (s t : α) : upd (upd F p s) p t = upd F p t := by
 funext q
 unfold upd
 split <;> rfl
theorem apNew (H : List UInt8) : apF ⟨[], [], 0⟩ H = ⟨H, [], 0⟩ := rfl
theorem cm_cre {S : DS} {M : Nat} {L2 : Dr} {PP : List Ch} {F : Nat → Fl} {c : Int} (h : Cm S M L2 PP F c) {file : ByteArray} {nm bs : Int} (seed : Crc.R) (h1 : 1 ≤ nm) (h2 : 1 ≤ bs) (hm : may file.data.toList = true) (hg : get (runs L2 PP) file.data.toList = none) (hl : (runs L2 PP).length < 256) (p : Nat) (hg2 : get (runs L2 (PP ++ [.cr file p])) file.data.toList = some p) (hM : sumL (upd F p ⟨[], [], 0⟩) (runs L2 (PP ++ [.cr file p])) + 32 ≤ M) :
    (creF S file nm bs seed p).2 = 0 ∧ Cm (creF S file nm bs seed p).1 M L2 (PP ++ [.cr file p]) (upd F p (syF ⟨hed nm.toNat bs.toNat seed, [], 0⟩)) (c + 3) := by
 obtain ⟨a1, a2⟩ := h.create hm hg hl p
 obtain ⟨b1, b2, b3⟩ := a2.append hm hg2 (hed nm.toNat bs.toNat seed) (by rw [hed_len]; exact hM)
 obtain ⟨c1, c2⟩ := b3.sync hm hg2
 have e : creF S file nm bs seed p = (((S.create file p).1.append file (hed nm.toNat bs.toNat seed)).1).sync file := by
  unfold creF
  rw [whF_ok h1 h2]
  simp only
  rw [if_neg (by simp), if_neg (by rw [a1]; simp), if_neg (by rw [b2]; simp)]
 rw [e]
 refine ⟨c1, ?_⟩
 rw [upd_same, upd_same, upd_upd, upd_upd, apNew] at c2
 rw [show c + 3 = c + 1 + 1 + 1 by omega]
 exact c2
theorem cm_clm {S : DS} {M : Nat} {L2 : Dr} {PP : List Ch} {F : Nat → Fl} {c : Int} {b p : Nat} {file : ByteArray} {nm bs : Int} {seed : Crc.R} (h : Cm S M L2 PP (upd F p (syF ⟨hed nm.toNat bs.toNat seed, [], 0⟩)) c) (h1 : 1 ≤ nm) (h2 : 1 ≤ bs) (h3 : bs ≤ 9223372036854775807) (hm : may file.data.toList = true) (hg : get (runs L2 PP) file.data.toList = some p) :
    Clm (newSG b file nm bs seed (whF nm bs seed).2.1) S (whF nm bs seed).2.1 (hed nm.toNat bs.toNat seed) [] M L2 PP (upd F p (syF ⟨hed nm.toNat bs.toNat seed, [], 0⟩)) c p :=
 ⟨newSG_coh b file nm bs seed _ h2 h3, rfl, hed_len _ _ _, h, hm, hg, by rw [upd_same]; show hed nm.toNat bs.toNat seed = hed nm.toNat bs.toNat seed ++ []; simp, Nat.le_refl _⟩
def fileB : ByteArray := ⟨#[115, 101, 103, 45, 48, 48, 48, 48, 48, 48, 48, 48, 48, 48, 48, 48, 48, 48, 48, 49, 46, 108, 111, 103]⟩
theorem may_file : may fileB.data.toList = true := by decide
theorem run_file (p : Nat) : runs [] [.cr fileB p] = [(fileB.data.toList, p)] := rfl
theorem get_one (k : List UInt8) (p : Nat) : get [(k, p)] k = some p := by simp [Dk.get]
theorem sum_one (F : Nat → Fl) (k : List UInt8) (p : Nat) : sumL F [(k, p)] = (F p).by_.length := by simp [sumL]
theorem new_cre (M : Nat) (h0 : 32 ≤ M) (nm bs : Int) (seed : Crc.R) (h1 : 1 ≤ nm) (h2 : 1 ≤ bs) (h3 : bs ≤ 9223372036854775807) (b p : Nat) :
    (creF (DS.new (M : Int)) fileB nm bs seed p).2 = 0 ∧ Clm (newSG b fileB nm bs seed (whF nm bs seed).2.1) (creF (DS.new (M : Int)) fileB nm bs seed p).1 (whF nm bs seed).2.1 (hed nm.toNat bs.toNat seed) [] M [] [.cr fileB p] (upd noF p (syF ⟨hed nm.toNat bs.toNat seed, [], 0⟩)) 3 p := by
 have hC : Cm (DS.new (M : Int)) M [] [] noF 0 := ⟨rfl, rfl, rfl, rfl, rfl, rfl, rfl⟩
 have hg : get (runs [] [.cr fileB p]) fileB.data.toList = some p := by rw [run_file]; exact get_one _ _
 obtain ⟨a1, a2⟩ := cm_cre hC seed h1 h2 may_file rfl (by decide) p hg (by show sumL _ (runs [] [.cr fileB p]) + 32 ≤ M; rw [run_file, sum_one, upd_same]; simpa using h0)
 exact ⟨a1, cm_clm a2 h1 h2 h3 may_file hg⟩
theorem wk_two {seed : Crc.R} {n : Int} (a b : List UInt8) (h1 : 1 ≤ n) (h2 : n + 2 ≤ 9223372036854775807) (ha : a.length ≤ 4096) (hb : b.length ≤ 4096) : (wk seed n [a, b] 2).1.length = 32 + a.length + b.length := by
 have hd : ∀ d ∈ [a, b], d.length ≤ 4096 := fun d hd => by simp at hd; rcases hd with rfl | rfl <;> assumption
 have h3 : n + (([a, b] : List (List UInt8)).length : Int) ≤ 9223372036854775807 := h2
 rw [wk_step (i := 1) (by simp) h1 h3 hd, wk_step (i := 0) (by simp) h1 h3 hd]
 simp only [List.length_append, frm_len, wk]
 simp
 omega
structure B2 (s : SG) (S : DS) (b : Nat) : Prop where
 b : s.b = b
 n : s.next = 7
 z : s.size = 67
 c : S.c7 = 4
 r : rdS s S 6 = ((6, [98, 99]), 0)
 ok : SOk s
 bs : s.base = 5
 f : s.file = fileB
theorem begun_put (b p : Nat) : (putF (newSG b fileB 1 5 0#32 (whF 1 5 0#32).2.1) (creF (DS.new 65536) fileB 1 5 0#32 p).1 (whF 1 5 0#32).2.1 [[97], [98, 99]]).2 = (5, 0) ∧
    B2 (putF (newSG b fileB 1 5 0#32 (whF 1 5 0#32).2.1) (creF (DS.new 65536) fileB 1 5 0#32 p).1 (whF 1 5 0#32).2.1 [[97], [98, 99]]).1.1 (putF (newSG b fileB 1 5 0#32 (whF 1 5 0#32).2.1) (creF (DS.new 65536) fileB 1 5 0#32 p).1 (whF 1 5 0#32).2.1 [[97], [98, 99]]).1.2 b := by
 obtain ⟨_, h⟩ := new_cre 65536 (by decide) 1 5 0#32 (by decide) (by decide) (by decide) b p
 have w2 := wk_two (seed := (whF 1 5 0#32).2.1) (n := 5) [97] [98, 99] (by decide) (by decide) (by decide) (by decide)
 have hnx : (newSG b fileB 1 5 0#32 (whF 1 5 0#32).2.1).next = 5 := rfl
 have hsz : (newSG b fileB 1 5 0#32 (whF 1 5 0#32).2.1).size = 32 := rfl
 have hbs : (newSG b fileB 1 5 0#32 (whF 1 5 0#32).2.1).base = 5 := rfl
 have hb : (newSG b fileB 1 5 0#32 (whF 1 5 0#32).2.1).b = b := rfl
 have hfl : (newSG b fileB 1 5 0#32 (whF 1 5 0#32).2.1).file = fileB := rfl
 have hhl := hed_len (1 : Int).toNat (5 : Int).toNat 0#32
 rw [show ((65536 : Nat) : Int) = 65536 from rfl] at h
 generalize (creF (DS.new 65536) fileB 1 5 0#32 p).1 = S at *
 generalize newSG b fileB 1 5 0#32 (whF 1 5 0#32).2.1 = s at *
 generalize (whF 1 5 0#32).2.1 = sd0 at *
 generalize hed (1 : Int).toNat (5 : Int).toNat 0#32 = H at *
 have hk : (wk sd0 s.base [] ([] : List (List UInt8)).length).2.2 = sd0 := rfl
 have hM : sumL (upd noF p (syF ⟨H, [], 0⟩)) (runs [] [.cr fileB p]) + (wk sd0 5 [[97], [98, 99]] 2).1.length ≤ 65536 := by
  rw [run_file, sum_one, upd_same, w2]
  show H.length + _ ≤ 65536
  rw [hhl]
  decide
 have hp := h.put [[97], [98, 99]] (by decide) (by decide) (by rw [hnx]; decide) (by rw [hsz]; decide) (by decide) (by rw [hk, hnx]; exact hM)
 rw [hk] at hp
 obtain ⟨p1, p2, p3⟩ := hp
 rw [hnx] at p1
 refine ⟨p1, ?_⟩
 have hcc := p3.cm.c7
 obtain ⟨g1, g2, g3, g4, g5, g6, g7⟩ := gk_b s (wk sd0 s.next [[97], [98, 99]] 2).2.1 2
 have q1 : (putF s S sd0 [[97], [98, 99]]).1.1 = gk s (wk sd0 s.next [[97], [98, 99]] 2).2.1 2 := by rw [p2]; rfl
 have hn2 := p3.co.n
 have hz2 := p3.co.z
 have hb2 : (putF s S sd0 [[97], [98, 99]]).1.1.base = 5 := by rw [q1, g4, hbs]
 rw [hb2] at hn2 hz2
 have hrd := p3.read (lsn := 6) (by rw [hb2]; decide) (by rw [hn2]; decide)
 rw [hb2] at hrd
 refine ⟨by rw [q1, g1, hb], hn2, ?_, hcc, hrd, p3.co.ok, hb2, by rw [q1, g2, hfl]⟩
 rw [hz2]
 show 32 + ((wk sd0 5 [[97], [98, 99]] 2).1.length : Int) = 67
 rw [w2]
 decide
theorem str2 {B : Nat} {w : World} {ra : Option Addr} {rc : Nat} (h : Ob B w (.slice ra 2 rc) [98, 99]) : (convert 39 9 (.slice ra 2 rc)).run Tryz.prog w = .ok (.string ⟨#[98, 99]⟩) w := by
 obtain ⟨ao, ca, e, h2, h3, h4, h5⟩ := h.sl
 simp only [Value.slice.injEq] at e
 obtain ⟨rfl, _, rfl⟩ := e
 obtain ⟨b, off, rfl, _⟩ := h5 0 (by decide)
 refine run_convert_bytes_arg w 39 5 Tryz.underlying39 Tryz.underlying5 b off 2 rc [98, 99] rfl (fun i hi => ?_) 9 Tryz.underlying9
 obtain ⟨b', off', e', hc⟩ := h5 i hi
 simp only [Option.some.injEq, Addr.mk.injEq] at e'
 obtain ⟨rfl, rfl, _⟩ := e'
 rw [hc]
 match i, hi with
 | 0, _ => rfl
 | 1, _ => rfl
theorem begun13_any (w : World) : Calls Tryz.prog 7 #[] w fun e w' => e = .returned (.bool true) ∧ Below w.heap.size w w' := by
 have hN := new_dsk w 65536 (by decide) (by decide)
 have hC : Hid (∀ q b O, DskE q b (DS.new 65536) O → Below w.heap.size w q → (∀ k, O k → w.heap.size ≤ k) → Calls Tryz.prog 14 #[.pointer (some ⟨b, 0, none⟩), .string ⟨#[115, 101, 103, 45, 48, 48, 48, 48, 48, 48, 48, 48, 48, 48, 48, 48, 48, 48, 48, 49, 46, 108, 111, 103]⟩, .agg #[.int .i64 1, .int .i64 5, .int .u32 0]] q fun e w' => ∃ p sb, e = .returned (.tuple #[.pointer (some ⟨sb, 0, none⟩), .int .i64 0]) ∧ p ∉ (DS.new 65536).ps ∧ CS w w' sb (newSG b fileB 1 5 0#32 (whF 1 5 0#32).2.1) (creF (DS.new 65536) fileB 1 5 0#32 p).1) := fun q b O h hB hl =>
  cs_create h hB hl fileB 1 5 0#32 (by decide) (by decide) (by decide) (by decide) (by decide) (by decide) (by decide) fun p => (new_cre 65536 (by decide) 1 5 0#32 (by decide) (by decide) (by decide) b p).1
 have hP : Hid (∀ q sb b p vd vs, CS w q sb (newSG b fileB 1 5 0#32 (whF 1 5 0#32).2.1) (creF (DS.new 65536) fileB 1 5 0#32 p).1 → Row q vd vs → Sls q vs [[97], [98, 99]] → Calls Tryz.prog 16 #[.pointer (some ⟨sb, 0, none⟩), vd] q fun e w' => e = .returned (.tuple #[.int .i64 5, .int .i64 0]) ∧ ∃ s S, CS w w' sb s S ∧ B2 s S b) := fun q sb b p vd vs h hr hs => by
  obtain ⟨_, hc⟩ := new_cre 65536 (by decide) 1 5 0#32 (by decide) (by decide) (by decide) b p
  have hc7 := hc.cm.c7
  refine (cs_put h hc.co.ok (whF 1 5 0#32).2.1 rfl vd vs [[97], [98, 99]] hr hs (by decide) (by show (32 : Int) + _ ≤ _; decide) (by show (0 : Nat) + _ ≤ _; decide) (by show fileB.size ≤ maxLen; decide) (by show (creF (DS.new ((65536 : Nat) : Int)) fileB 1 5 0#32 p).1.c7 < _; rw [hc7]; decide)).mono ?_
  rintro e w' ⟨rfl, hS⟩
  obtain ⟨e1, e2⟩ := begun_put b p
  rw [e1]
  exact ⟨rfl, _, _, hS, e2⟩
 have hR : Hid (∀ q sb b s S, CS w q sb s S → B2 s S b → Calls Tryz.prog 20 #[.pointer (some ⟨sb, 0, none⟩), .int .i64 6] q fun e w' => ∃ vd, e = .returned (.tuple #[.agg #[.int .i64 6, vd], .int .i64 0]) ∧ Ob q.heap.size w' vd [98, 99] ∧ Below q.heap.size q w') := fun q sb b s S h k => by
  have := cs_read h k.ok 6 (by decide) (by decide) (by rw [k.bs]; decide) (by rw [k.f]; decide)
  rw [k.r] at this
  exact this
 have hL : Hid (∀ q sb s S b, CS w q sb s S → B2 s S b → Calls Tryz.prog 24 #[.pointer (some ⟨sb, 0, none⟩)] q fun e w' => ∃ l0 l1 l2 l3 l6 l7, e = .returned (.agg #[.string l0, .int .i64 l1, .int .i64 l2, .int .u32 l3, .int .i64 7, .int .i64 67, .int .u32 l6, .bool l7]) ∧ Below q.heap.size q w') := fun q sb s S b h k => by
  have := cs_look h
  unfold SG.look at this
  rw [k.n, k.z] at this
  refine this.mono ?_
  rintro e w' ⟨rfl, hb⟩
  exact ⟨_, _, _, _, _, _, rfl, hb⟩
 have hK : Hid (∀ q sb s S b, CS w q sb s S → B2 s S b → Calls Tryz.prog 25 #[.pointer (some ⟨b, 0, none⟩)] q fun e w' => ∃ l0 l1 l2 l3 l4 l5 l6 l8, e = .returned (.agg #[.int .i64 l0, .int .i64 l1, .int .i64 l2, .int .i64 l3, .int .i64 l4, .int .i64 l5, .int .i64 l6, .int .i64 4, .int .i64 l8]) ∧ Below q.heap.size q w') := fun q sb s S b h k => by
  have := cs_count h
  unfold DS.cs at this
  rw [k.c, k.b] at this
  refine this.mono ?_
  rintro e w' ⟨rfl, hb⟩
  exact ⟨_, _, _, _, _, _, _, _, rfl, hb⟩
 have kc := fun (w : World) (C : Array Value) (n c : Nat) => Lib.run_convert_bytes_const (P := Tryz.prog) w 39 5 C n c Tryz.underlying39 Tryz.underlying5
 go_enter Tryz.func7, Tryz.ntmps7
 go_upto_region 5 with (first
  | (go_at_call 8; refine hN.mono ?_; rintro e w1 ⟨b, O1, rfl, D1, B1, L1⟩; replace D1 := hide D1; replace B1 := hide B1; replace L1 := hide L1)
  | (go_at_call 14; refine (hC.out _ _ _ D1.out B1.out L1.out).mono ?_; rintro e w2 ⟨p, sb, rfl, _, C2⟩; replace C2 := hide C2)
  | fail)
 have kc2 := kc (w2.alloc (.cells #[.int .u8 97] 5 (1, 2))) #[.int .u8 98, .int .u8 99] 2 2
 rw [show (w2.alloc (.cells #[.int .u8 97] 5 (1, 2))).heap.size = w2.heap.size + 1 by simp] at kc2
 have X1 := box_below w2 (.cells #[.int .u8 97] 5 (1, 2))
 have X2 := box_below (w2.alloc (.cells #[.int .u8 97] 5 (1, 2))) (.cells #[.int .u8 98, .int .u8 99] 5 (2, 3))
 have X3 := box_below ((w2.alloc (.cells #[.int .u8 97] 5 (1, 2))).alloc (.cells #[.int .u8 98, .int .u8 99] 5 (2, 3))) (.cells #[.slice (some ⟨w2.heap.size, 0, none⟩) 1 1, .slice (some ⟨w2.heap.size + 1, 0, none⟩) 2 2] 39)
 have S1 : Sl (w2.alloc (.cells #[.int .u8 97] 5 (1, 2))) (.slice (some ⟨w2.heap.size, 0, none⟩) 1 1) [97] := sl_lit_mark w2 [97] 5 (1, 2) (by decide) _ rfl
 have S2 : Sl ((w2.alloc (.cells #[.int .u8 97] 5 (1, 2))).alloc (.cells #[.int .u8 98, .int .u8 99] 5 (2, 3))) (.slice (some ⟨w2.heap.size + 1, 0, none⟩) 2 2) [98, 99] := by
  have := sl_lit_mark (w2.alloc (.cells #[.int .u8 97] 5 (1, 2))) [98, 99] 5 (2, 3) (by decide) _ rfl
  rw [show (w2.alloc (.cells #[.int .u8 97] 5 (1, 2))).heap.size = w2.heap.size + 1 by simp] at this
  exact this
 have R3 : Row (((w2.alloc (.cells #[.int .u8 97] 5 (1, 2))).alloc (.cells #[.int .u8 98, .int .u8 99] 5 (2, 3))).alloc (.cells #[.slice (some ⟨w2.heap.size, 0, none⟩) 1 1, .slice (some ⟨w2.heap.size + 1, 0, none⟩) 2 2] 39)) (.slice (some ⟨w2.heap.size + 1 + 1, 0, none⟩) 2 2) [.slice (some ⟨w2.heap.size, 0, none⟩) 1 1, .slice (some ⟨w2.heap.size + 1, 0, none⟩) 2 2] := by
  have := row_lit ((w2.alloc (.cells #[.int .u8 97] 5 (1, 2))).alloc (.cells #[.int .u8 98, .int .u8 99] 5 (2, 3))) [.slice (some ⟨w2.heap.size, 0, none⟩) 1 1, .slice (some ⟨w2.heap.size + 1, 0, none⟩) 2 2] 39 (by show 2 ≤ maxLen; decide)
  rw [show ((w2.alloc (.cells #[.int .u8 97] 5 (1, 2))).alloc (.cells #[.int .u8 98, .int .u8 99] 5 (2, 3))).heap.size = w2.heap.size + 1 + 1 by simp] at this
  exact this
 have T3 : Sls (((w2.alloc (.cells #[.int .u8 97] 5 (1, 2))).alloc (.cells #[.int .u8 98, .int .u8 99] 5 (2, 3))).alloc (.cells #[.slice (some ⟨w2.heap.size, 0, none⟩) 1 1, .slice (some ⟨w2.heap.size + 1, 0, none⟩) 2 2] 39)) [.slice (some ⟨w2.heap.size, 0, none⟩) 1 1, .slice (some ⟨w2.heap.size + 1, 0, none⟩) 2 2] [[97], [98, 99]] := ⟨rfl, fun i h h' => match i, h, h' with
  | 0, _, _ => Below.sl X3 (Below.sl X2 S1)
  | 1, _, _ => Below.sl X3 S2⟩
 have C3 := hide (((C2.out.below X1).below X2).below X3)
 replace R3 := hide R3
 replace T3 := hide T3
 clear X1 X2 X3 S1 S2 C2
 go_upto_region 6 with (first
  | (go_at_call 16; refine (hP.out _ _ _ _ _ _ C3.out R3.out T3.out).mono ?_; rintro e w4 ⟨rfl, s4, S4, C4, K4⟩; replace C4 := hide C4; replace K4 := hide K4)
  | fail)
 clear C3 R3 T3 kc2
 go_upto_region 7 with (first
  | (go_at_call 20; refine (hR.out _ _ _ _ _ C4.out K4.out).mono ?_; rintro e w5 ⟨vd, rfl, O5, B5⟩; obtain ⟨ra, rc, rfl, rr1, rr2⟩ := O5.form; have hst := hide (str2 O5); replace O5 := hide O5; replace rr1 := hide rr1; replace rr2 := hide rr2; have C5 := hide (C4.out.below B5); replace B5 := hide B5)
  | fail)
 have X6 := box_below w5 (.cells #[.int .i64 6, .slice ra 2 rc] 66)
 have N6 := heap_alloc_new w5 (.cells #[.int .i64 6, .slice ra 2 rc] 66)
 have C6 := hide (C5.out.below X6)
 have O6 := hide (Ob.below O5.out X6)
 obtain ⟨w6, hw6⟩ : ∃ w6, Hid (w5.alloc (.cells #[.int .i64 6, .slice ra 2 rc] 66) = w6) := ⟨_, rfl⟩
 rw [hw6.out] at N6 C6 O6
 obtain ⟨g6, hg6⟩ : ∃ g6, Hid (w5.heap.size = g6) := ⟨_, rfl⟩
 rw [hg6.out] at N6
 replace N6 := hide N6
 rw [hw6.out, hg6.out]
 clear X6 C5 O5 hst B5 hw6 C4
 go_upto_region 8 with (first
  | (go_at_call 24; refine (hL.out _ _ _ _ _ C6.out K4.out).mono ?_; rintro e w7 ⟨l0, l1, l2, l3, l6, l7, rfl, B7⟩; have C7 := hide (C6.out.below B7); have N7 := hide ((B7.block _ (heap_lt N6.out)).trans N6.out); have O7 := hide (Ob.below O6.out B7); clear B7)
  | fail)
 have X8 := box_below w7 (.cells #[.string l0, .int .i64 l1, .int .i64 l2, .int .u32 l3, .int .i64 7, .int .i64 67, .int .u32 l6, .bool l7] 73)
 have C8 := hide (C7.out.below X8)
 have N8 := (X8.block _ (heap_lt N7.out)).trans N7.out
 have hst := str2 (Ob.below O7.out X8)
 have x0 : (w7.alloc (.cells #[.string l0, .int .i64 l1, .int .i64 l2, .int .u32 l3, .int .i64 7, .int .i64 67, .int .u32 l6, .bool l7] 73)).cell? ⟨g6, 0, none⟩ = some (.int .i64 6) := by rw [cell_of N8]; rfl
 have x1 : (w7.alloc (.cells #[.string l0, .int .i64 l1, .int .i64 l2, .int .u32 l3, .int .i64 7, .int .i64 67, .int .u32 l6, .bool l7] 73)).cell? ⟨g6, 1, none⟩ = some (.slice ra 2 rc) := by rw [cell_of N8]; rfl
 clear X8 N8 C7 N7 O7 N6 O6 C6
 have hf7 : ∀ (q : World) (k0 k1 k2 k3 k4 k5 k6 k8 : Int), (Instr.field 79 (.agg #[.int .i64 k0, .int .i64 k1, .int .i64 k2, .int .i64 k3, .int .i64 k4, .int .i64 k5, .int .i64 k6, .int .i64 4, .int .i64 k8]) 7).run Tryz.prog q = .ok (.int .i64 4) q := fun q k0 k1 k2 k3 k4 k5 k6 k8 => by kernel_rfl
 go_wp2_with (first
  | (go_at_call 25; refine (hK.out _ _ _ _ _ C8.out K4.out).mono ?_; rintro e w9 ⟨k0, k1, k2, k3, k4, k5, k6, k8, rfl, B9⟩; have C9 := hide (C8.out.below B9); clear B9)
  | fail)
 go_ret
 exact ⟨rfl, C9.out.bel⟩
theorem none_walk (w : World) (n b : Int) (s : Crc.R) (lsn : Int) (a : Option Addr) (len cap : Nat) :
    Calls Tryz.prog 5 #[.agg #[.int .i64 n, .int .i64 b, .int .u32 (s.toNat : Int)], .int .i64 lsn, .slice a len cap] w fun e w' => e = .returned (.bool true) ∧ Below w.heap.size w w' := by
 have B0 := box_below w (.cells #[.int .i64 n, .int .i64 b, .int .u32 (s.toNat : Int)] 38)
 have N0 := heap_alloc_new w (.cells #[.int .i64 n, .int .i64 b, .int .u32 (s.toNat : Int)] 38)
 generalize s.toNat = sn at *
 obtain ⟨w0, hw0⟩ : ∃ w0, Hid (w.alloc (.cells #[.int .i64 n, .int .i64 b, .int .u32 (sn : Int)] 38) = w0) := ⟨_, rfl⟩
 obtain ⟨g0, hg0⟩ : ∃ g0, Hid (w.heap.size = g0) := ⟨_, rfl⟩
 rw [hw0.out] at B0 N0
 rw [hg0.out] at N0
 replace B0 := hide B0
 replace N0 := hide N0
 have hB := hide (begun13_any w0)
 have hC : Hid (∀ q, _) := fun q => create_nil q ⟨#[115, 101, 103, 45, 48, 48, 48, 48, 48, 48, 48, 48, 48, 48, 48, 48, 48, 48, 48, 49, 46, 108, 111, 103]⟩ n b sn
 have hO : Hid (∀ q, _) := fun q => open_nil q ⟨#[115, 101, 103, 45, 48, 48, 48, 48, 48, 48, 48, 48, 48, 48, 48, 48, 48, 48, 48, 49, 46, 108, 111, 103]⟩
 have hP : Hid (∀ q, _) := fun q => put_nil q a len cap
 have hR : Hid (∀ q, _) := fun q => read_nil q lsn
 have hM : Hid (∀ q, _) := fun q => moved_nil q ⟨#[120]⟩
 have hS : Hid (∀ q, _) := fun q => sync_nil q
 have hT : Hid (∀ q, _) := fun q => trim_nil q
 have hL : Hid (∀ q, Calls Tryz.prog 24 #[.pointer none] q fun e w' => e = .returned (.agg #[.string ⟨#[]⟩, .int .i64 0, .int .i64 0, .int .u32 0, .int .i64 0, .int .i64 0, .int .u32 0, .bool false]) ∧ Below q.heap.size q w') := fun q => look_nil q
 have hq : ∀ q : World, (binOp .eql 73 (.agg #[.string ⟨#[]⟩, .int .i64 0, .int .i64 0, .int .u32 0, .int .i64 0, .int .i64 0, .int .u32 0, .bool false]) (.agg #[.string ⟨#[]⟩, .int .i64 0, .int .i64 0, .int .u32 0, .int .i64 0, .int .i64 0, .int .u32 0, .bool false])).run Tryz.prog q = .ok (.bool true) q := fun q => by kernel_rfl
 go_enter Tryz.func5, Tryz.ntmps5
 go_upto_region 1 with fail
 rw [hw0.out, hg0.out]
 go_upto_region 3 with (first
  | (go_at_call 7; refine hB.out.mono ?_; rintro e w1 ⟨rfl, B1⟩; have N1 := (B1.block _ (heap_lt N0.out)).trans N0.out; have E1 := hide (bs2 B0.out B1); clear B1)
  | fail)
 obtain ⟨x0, x1, x2⟩ := tri N1
 go_upto_region 4 with (first
  | (go_at_call 14; refine (hC.out _).mono ?_; rintro e w2 ⟨rfl, B2⟩; have E2 := hide (bs2 E1.out B2); clear B2)
  | fail)
 clear x0 x1 x2 N1 N0
 go_upto_region 5 with (first
  | (go_at_call 19; refine (hO.out _).mono ?_; rintro e w3 ⟨rfl, B3⟩; have E3 := hide (bs2 E2.out B3); clear B3)
  | fail)
 have X4 := box_below w3 (.cells #[.int .i64 0, .int .i64 0, .int .i64 0, .int .u32 0, .int .i64 0] 62)
 have N4 := heap_alloc_new w3 (.cells #[.int .i64 0, .int .i64 0, .int .i64 0, .int .u32 0, .int .i64 0] 62)
 have E4 := hide (bs2 E3.out X4)
 obtain ⟨w4, hw4⟩ : ∃ w4, Hid (w3.alloc (.cells #[.int .i64 0, .int .i64 0, .int .i64 0, .int .u32 0, .int .i64 0] 62) = w4) := ⟨_, rfl⟩
 obtain ⟨g4, hg4⟩ : ∃ g4, Hid (w3.heap.size = g4) := ⟨_, rfl⟩
 rw [hw4.out] at N4 E4
 rw [hg4.out] at N4
 rw [hw4.out, hg4.out]
 replace N4 := hide N4
 clear X4 hw4 hg4 E3 E2 E1 B0 hw0 hg0
 go_upto_region 8 with (first
  | (go_at_call 16; refine (hP.out _).mono ?_; rintro e w5 ⟨rfl, B5⟩; have E5 := hide (bs2 E4.out B5); have N5 := hide ((B5.block _ (heap_lt N4.out)).trans N4.out); clear B5)
  | (go_at_call 20; refine (hR.out _).mono ?_; rintro e w6 ⟨rfl, B6⟩; have E6 := hide (bs2 E5.out B6); have N6 := hide ((B6.block _ (heap_lt N5.out)).trans N5.out); clear B6)
  | fail)
 have X7 := box_below w6 (.cells #[.int .i64 0, .slice none 0 0] 66)
 have R7 := heap_alloc_new w6 (.cells #[.int .i64 0, .slice none 0 0] 66)
 have E7 := hide (bs2 E6.out X7)
 have N7 := (X7.block _ (heap_lt N6.out)).trans N6.out
 obtain ⟨w7, hw7⟩ : ∃ w7, Hid (w6.alloc (.cells #[.int .i64 0, .slice none 0 0] 66) = w7) := ⟨_, rfl⟩
 obtain ⟨g7, hg7⟩ : ∃ g7, Hid (w6.heap.size = g7) := ⟨_, rfl⟩
 rw [hw7.out] at N7 E7 R7
 rw [hg7.out] at R7
 rw [hw7.out, hg7.out]
 clear X7 hw7 hg7 E6 E5 E4 N6 N5 N4
 have y0 : w7.cell? ⟨g4, 0, none⟩ = some (.int .i64 0) := by rw [cell_of N7]; rfl
 have y1 : w7.cell? ⟨g4, 1, none⟩ = some (.int .i64 0) := by rw [cell_of N7]; rfl
 have y2 : w7.cell? ⟨g4, 2, none⟩ = some (.int .i64 0) := by rw [cell_of N7]; rfl
 have y3 : w7.cell? ⟨g4, 3, none⟩ = some (.int .u32 0) := by rw [cell_of N7]; rfl
 have y4 : w7.cell? ⟨g4, 4, none⟩ = some (.int .i64 0) := by rw [cell_of N7]; rfl
 have z0 : w7.cell? ⟨g7, 0, none⟩ = some (.int .i64 0) := by rw [cell_of R7]; rfl
 have z1 : w7.cell? ⟨g7, 1, none⟩ = some (.slice none 0 0) := by rw [cell_of R7]; rfl
 clear N7 R7
 go_upto_region 9 with (first
  | (go_at_call 22; refine (hM.out _).mono ?_; rintro e w8 ⟨rfl, e8⟩; subst w8)
  | fail)
 go_wp2_with (first
  | (go_at_call 17; refine (hS.out _).mono ?_; rintro e w9 ⟨rfl, B9⟩; have E9 := hide (bs2 E7.out B9); clear B9)
  | (go_at_call 23; refine (hT.out _).mono ?_; rintro e w10 ⟨rfl, e10⟩; subst w10)
  | (go_at_call 24; refine (hL.out _).mono ?_; rintro e w11 ⟨rfl, B11⟩; have E11 := hide (bs2 E9.out B11); clear B11)
  | fail)
 go_ret
 exact ⟨rfl, E11.out⟩
end Go.Proofs.YtbmnjaaacodgdaaGreat.Sg
namespace Go.Proofs.YtbmnjaaacodgdaaGreat
open Go.ChangeShapes Go.WideShapes Go.ChangeAt Go.RowKit Go.Deep
set_option maxRecDepth 100000
theorem cellsHead : Tryz.prog.cellsOf 38 = 3 := by kernel_rfl
theorem cellsI64 : Tryz.prog.cellsOf 2 = 1 := by kernel_rfl
theorem cellsU32 : Tryz.prog.cellsOf 36 = 1 := by kernel_rfl
theorem open_head {H : Type} {enc : TypeId × Value → H} {w : World} {base : Nat} {spare : Nat → Bool} {held : Bool} {fuel : Nat} {cs : List Value} {y : DataW H × List MemPlace}
    (h : DataW.trod enc Tryz.prog w base spare held fuel 38 cs = some y) :
    ∃ (nm bs : Int) (s : BitVec 32), cs = [.int .i64 nm, .int .i64 bs, .int .u32 (s.toNat : Int)] ∧ -9223372036854775808 ≤ nm ∧ nm ≤ 9223372036854775807 ∧ -9223372036854775808 ≤ bs ∧ bs ≤ 9223372036854775807 := by
 obtain ⟨y0, y1, y2, n, _, hlen, h0, h1, h2⟩ := trod_struct3 Tryz.underlying38 h
 rw [cellsHead] at hlen
 obtain ⟨c0, c1, c2, rfl⟩ : ∃ c0 c1 c2, cs = [c0, c1, c2] := by
  match cs, hlen with
  | [c0, c1, c2], _ => exact ⟨c0, c1, c2, rfl⟩
 simp only [cellsI64, cellsU32] at h0 h1 h2
 obtain ⟨a0, e0, _, w0⟩ := DataW.trod_int Tryz.underlying2 h0
 obtain ⟨a1, e1, _, w1⟩ := DataW.trod_int Tryz.underlying2 h1
 obtain ⟨a2, e2, _, w2⟩ := DataW.trod_int Tryz.underlying36 h2
 simp at e0 e1 e2
 subst e0 e1 e2
 obtain ⟨s, rfl⟩ := u32_bv w2
 exact ⟨a0, a1, s, rfl, (i64_bounds w0).1, (i64_bounds w0).2, (i64_bounds w1).1, (i64_bounds w1).2⟩
end Go.Proofs.YtbmnjaaacodgdaaGreat
