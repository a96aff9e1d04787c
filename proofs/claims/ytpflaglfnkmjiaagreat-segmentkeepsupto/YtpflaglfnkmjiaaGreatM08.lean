/-
  Records read from the disk anew: Read. (gen_SgP.py)
-/
import Derived.Test.YtpflaglfnkmjiaaGreatM07
import Derived.Deep.CutRange
import Derived.Test.YtpflaglfnkmjiaaGreatM05
import Derived.Test.YtpflaglfnkmjiaaGreatM06
import Derived.Laws.Rows
set_option maxRecDepth 100000
set_option maxHeartbeats 40000000
set_option linter.unusedVariables false
namespace Go.Proofs.YtpflaglfnkmjiaaGreat.Sg
open Go.RowKit Go.Maps Go.Sort Go.Shelf Go.Proofs.YtpflaglfnkmjiaaGreat.Nm Go.Proofs.YtpflaglfnkmjiaaGreat.Dk
open Ix (wp_region_T wpAnyT wpAnyT_take wpAnyT_one wpAnyT_done vac)
def rlF (s : SG) (S : DS) : Nat → Int → Int → Crc.R → (Int × List UInt8) × Int
 | 0, n, off, seed => ((rfF s S n off seed).1, (rfF s S n off seed).2.2.2)
 | k + 1, n, off, seed => if (rfF s S n off seed).2.2.2 ≠ 0 then ((rfF s S n off seed).1, (rfF s S n off seed).2.2.2) else rlF s S k (n + 1) (off + (rfF s S n off seed).2.1) (rfF s S n off seed).2.2.1
def seedAt (s : SG) (n : Int) : Crc.R := BitVec.ofNat 32 ((sget s.sd n).getD 0).toNat
def rdS (s : SG) (S : DS) (lsn : Int) : (Int × List UInt8) × Int :=
 if lsn < s.base ∨ s.next ≤ lsn then ((0, []), 6)
 else rlF s S (lsn - (Ix.findF s.x.l lsn).1.1).toNat (Ix.findF s.x.l lsn).1.1 (Ix.findF s.x.l lsn).1.2 (seedAt s (Ix.findF s.x.l lsn).1.1)
theorem rd_size {seed : Crc.R} {l : List UInt8} (h : (rdF seed l).2.2.2.2 = 0) : 0 ≤ (rdF seed l).2.2.1 ∧ (rdF seed l).2.2.1 ≤ (l.length : Int) := by
 unfold rdF at h ⊢
 split
 ·rename_i h0
  simp only
  unfold rdE at h0
  split at h0
  ·omega
  ·split at h0
   ·omega
   ·split at h0
    ·omega
    ·split at h0
     ·omega
     ·omega
 ·rename_i h0
  rw [if_neg h0] at h
  exact absurd h h0
theorem fb_len {s : SG} {S : DS} {off : Int} (h : (fbF s S off).2 = 0) (hz : 0 ≤ s.size - off) : ((fbF s S off).1.length : Int) ≤ s.size - off := by
 unfold fbF at h ⊢
 split
 ·simp; omega
 ·split
  ·simp; omega
  ·rename_i h1 h2
   have := read_len S s.file off (szF (stv (S.read s.file off (min 16 (s.size - off))).1 4 (0, 0) : Int))
   have h3 : 0 ≤ szF (stv (S.read s.file off (min 16 (s.size - off))).1 4 (0, 0) : Int) := by unfold szF; split <;> omega
   omega
theorem fb_neg {s : SG} {S : DS} {off : Int} (h : (fbF s S off).2 = 0) : 0 ≤ s.size - off := by
 unfold fbF at h
 split at h
 ·rename_i h1; exact absurd h h1
 ·split at h
  ·simp at h
  ·rename_i h1 h2
   have h3 : 0 ≤ szF (stv (S.read s.file off (min 16 (s.size - off))).1 4 (0, 0) : Int) := by unfold szF; split <;> omega
   omega
theorem rf_size {s : SG} {S : DS} {n off : Int} {seed : Crc.R} (h : (rfF s S n off seed).2.2.2 = 0) : 0 ≤ (rfF s S n off seed).2.1 ∧ off + (rfF s S n off seed).2.1 ≤ s.size := by
 unfold rfF at h ⊢
 by_cases h1 : (fbF s S off).2 ≠ 0
 ·rw [if_pos h1] at h; exact absurd h h1
 ·rw [if_neg h1] at h ⊢
  by_cases h2 : (rdF seed (fbF s S off).1).2.2.2.2 ≠ 0 ∨ (rdF seed (fbF s S off).1).1 ≠ n
  ·rw [if_pos h2] at h; simp at h
  ·rw [if_neg h2]
   simp only
   have hf : (fbF s S off).2 = 0 := by omega
   have h3 := fb_len hf (fb_neg hf)
   have h4 := rd_size (seed := seed) (l := (fbF s S off).1) (by omega)
   omega
theorem find_rng {x : Ix.X} (h : Ix.Ok x) (n : Int) (hn : 0 ≤ n) : 0 ≤ (Ix.findF x.l n).1.1 ∧ (Ix.findF x.l n).1.1 ≤ n ∧ 0 ≤ (Ix.findF x.l n).1.2 ∧ (Ix.findF x.l n).1.2 ≤ 2147483647 := by
 unfold Ix.findF
 cases hg : (x.l.filter fun e => decide (e.1 ≤ n)).getLast? with
 | none => simp only; omega
 | some e =>
  have hm := List.mem_of_getLast? hg
  obtain ⟨h1, h2⟩ := List.mem_filter.1 hm
  have h3 := h.srt.rng e h1
  have h4 : e.1 ≤ n := of_decide_eq_true h2
  simp only
  omega
theorem seed_at {s : SG} (ok : SOk s) (n : Int) : (sget s.sd n).getD 0 = ((seedAt s n).toNat : Int) := by
 have hb : 0 ≤ (sget s.sd n).getD 0 ∧ (sget s.sd n).getD 0 < 4294967296 := by
  unfold sget
  cases hf : s.sd.find? fun p => p.1 == n with
  | none => simp
  | some p => exact ok.d p (List.mem_of_find?_eq_some hf)
 unfold seedAt
 rw [BitVec.toNat_ofNat, Nat.mod_eq_of_lt (by omega)]
 omega
def nAt (w : World) (p : Nat) : Int := match w.cell? ⟨p, 0, none⟩ with | some (.int _ n) => n | _ => 0
theorem readS_any {w : World} {sb : Nat} {s : SG} {S : DS} {O : Nat → Prop} {xb mb : Nat} {v : Value} (h : SW w sb s S O xb mb v) (ok : SOk s) (lsn : Int) (h0 : -9223372036854775808 ≤ lsn) (h1 : lsn ≤ 9223372036854775807) (hbs : 1 ≤ s.base) (hf : s.file.size ≤ maxLen) :
    Calls Tryz.prog 19 #[.pointer (some ⟨sb, 0, none⟩), .int .i64 lsn] w fun e w' => ∃ vd, e = .returned (.tuple #[.agg #[.int .i64 (rdS s S lsn).1.1, vd], .int .i64 (rdS s S lsn).2]) ∧ Ob w.heap.size w' vd (rdS s S lsn).1.2 ∧ Below w.heap.size w w' := by
 have B1 := box_below w (.cells #[.int .i64 0, .slice none 0 0] 66)
 have N1 := heap_alloc_new w (.cells #[.int .i64 0, .slice none 0 0] 66)
 obtain ⟨w1, hw1⟩ : ∃ w1, Hid (w.alloc (.cells #[.int .i64 0, .slice none 0 0] 66) = w1) := ⟨_, rfl⟩
 rw [hw1.out] at B1 N1
 have H1 := h.below B1
 obtain ⟨y0, y1, y2, y3, y4, y5, y6, y7, y8, y9, y10⟩ := H1.sg.cells
 have hM := hide (made_yes w1 sb s.b y0)
 have z0 : w1.frozen? ⟨w.heap.size, 0, none⟩ = false := by simp [World.frozen?, N1]
 have z1 : w1.frozen? ⟨w.heap.size, 1, none⟩ = false := by simp [World.frozen?, N1]
 have q0 : w1.cell? ⟨w.heap.size, 0, none⟩ = some (.int .i64 0) := by rw [cell_of N1]; rfl
 have q1 : w1.cell? ⟨w.heap.size, 1, none⟩ = some (.slice none 0 0) := by rw [cell_of N1]; rfl
 have ST : Hid (SW w1 sb s S O xb mb v ∧ Below w.heap.size w w1 ∧ w1.heap[w.heap.size]? = some (.cells #[.int .i64 0, .slice none 0 0] 66 (0, 0))) := hide ⟨H1, B1, N1⟩
 obtain ⟨RS, hRS⟩ : ∃ RS, Hid (rdS s S lsn = RS) := ⟨_, rfl⟩
 rw [hRS.out]
 have hFn := hide (Ix.find_any w1 xb s.x v lsn H1.sg.ix ok.x h0 h1)
 have hO0 : Hid (∀ k, O k → k < w.heap.size) := hide h.dk.lt
 have hS0 : Hid (∀ k, SOwn sb xb mb v k → k < w.heap.size) := hide h.sg.lt
 clear B1 N1 H1 h
 generalize hpa : w.heap.size = pA at *
 replace hpa := hide hpa
 by_cases hin : lsn < s.base ∨ s.next ≤ lsn
 ·have hE : Hid (RS = ((0, []), 6)) := hide (by rw [← hRS.out]; unfold rdS; rw [if_pos hin])
  have FH := put2_heap ST.out.2.2 (.int .i64 0) (.slice none 0 0)
  have c0 := (cell_of FH (j := 0)).trans (show (#[Value.int .i64 0, .slice none 0 0] : Array Value)[0]? = some (.int .i64 0) from rfl)
  have c1 := (cell_of FH (j := 1)).trans (show (#[Value.int .i64 0, .slice none 0 0] : Array Value)[1]? = some (.slice none 0 0) from rfl)
  have FB2 := hide (put2_below ST.out.2.1 (Nat.le_refl pA) (.int .i64 0) (.slice none 0 0))
  have hcase : (lsn < s.base) ∨ (¬ lsn < s.base ∧ s.next ≤ lsn) := by omega
  clear FH ST hFn hRS hin
  rcases hcase with hq | ⟨hq, hq2⟩
  all_goals
   go_enter Tryz.func19, Tryz.ntmps19
   go_upto_region 1 with fail
   rw [hw1.out, hpa.out]
   go_wp2_with (first | (go_at_call 61; refine hM.out.mono ?_; rintro e w2 ⟨rfl, e1⟩; rw [e1]; clear e1 w2) | fail)
   try simp only [Exit.inBlock, Exit.then]
   refine bodyPost_ret (v := .tuple #[.agg #[.int .i64 0, .slice none 0 0], .int .i64 6]) (by simp [results, Tryz.results19, go_sem, c0, c1]; try rfl) rfl ?_
   rw [hE.out]
   exact ⟨_, rfl, World.ownsRow_nil _ _ _ _, FB2.out⟩
 have hq : ¬ lsn < s.base := by omega
 have hq2 : ¬ s.next ≤ lsn := by omega
 have hrng := find_rng ok.x lsn (by omega)
 have hsd := seed_at ok (Ix.findF s.x.l lsn).1.1
 have hE : Hid (RS = rlF s S (lsn - (Ix.findF s.x.l lsn).1.1).toNat (Ix.findF s.x.l lsn).1.1 (Ix.findF s.x.l lsn).1.2 (seedAt s (Ix.findF s.x.l lsn).1.1)) := hide (by rw [← hRS.out]; unfold rdS; rw [if_neg hin])
 obtain ⟨FE, hFE⟩ : ∃ FE, Hid (Ix.findF s.x.l lsn = FE) := ⟨_, rfl⟩
 rw [hFE.out] at hrng hsd hE hFn
 obtain ⟨⟨f1, f2⟩, f3⟩ := FE
 unfold Ix.entv at hFn
 simp only at hrng hsd hE hFn
 clear hRS hin
 go_enter Tryz.func19, Tryz.ntmps19
 go_upto_region 1 with fail
 rw [hw1.out, hpa.out]
 go_upto_region 5 with (first | (go_at_call 61; refine hM.out.mono ?_; rintro e w2 ⟨rfl, e1⟩; rw [e1]; clear e1 w2) | fail)
 go_wp2_with fail
 go_at_call 71
 refine hFn.out.mono ?_
 rintro e w2 ⟨rfl, b2⟩
 obtain ⟨t1, t2, t3⟩ := ST.out
 have hs1 : pA < w1.heap.size := heap_lt t3
 have B3 := box_below w2 (.cells #[.int .i64 f1, .int .i64 f2] 147)
 have N3 := heap_alloc_new w2 (.cells #[.int .i64 f1, .int .i64 f2] 147)
 obtain ⟨w3, hw3⟩ : ∃ w3, Hid (w2.alloc (.cells #[.int .i64 f1, .int .i64 f2] 147) = w3) := ⟨_, rfl⟩
 obtain ⟨pE, hpE⟩ : ∃ pE, Hid (w2.heap.size = pE) := ⟨_, rfl⟩
 rw [hw3.out] at B3 N3
 rw [hpE.out] at N3
 have b13 : Below w1.heap.size w1 w3 := keepF b2 B3
 have T3 : Hid (SW w3 sb s S O xb mb v ∧ Below pA w w3 ∧ w3.heap[pA]? = some (.cells #[.int .i64 0, .slice none 0 0] 66 (0, 0)) ∧ w3.heap[pE]? = some (.cells #[.int .i64 f1, .int .i64 f2] 147 (0, 0)) ∧ pA < pE ∧ (∀ k, O k → k < pA) ∧ (∀ k, SOwn sb xb mb v k → k < pA)) := hide ⟨t1.below b13, t2.trans (b13.mono (by omega)), (But.of_below b13 fun _ => False).at t3 (fun c => c), N3, by have := b2.size; have := hpE.out; omega, hO0.out, hS0.out⟩
 clear t1 t2 t3 b2 B3 N3 b13 hs1 ST hFn hM y0 y1 y2 y3 y4 y5 y6 y7 y8 y9 y10 z0 z1 q0 q1
 go_upto_region 6 with fail
 rw [hw3.out, hpE.out]
 clear hw1 hw3
 go_cut [8] from 44 to 50 (fun y8 wx => y8 = .int .u32 ((seedAt s f1).toNat : Int) ∧ Hid (Below w3.heap.size w3 wx))
 case first =>
  refine wp_region_T (fun q => Below w3.heap.size w3 q) 7 (by kernel_rfl) ?_
  have KP : Hid (Below w3.heap.size w3 w3.drew) := hide (Below.refl _ _).drew
  generalize w3.drew = q at *
  refine Ix.tk 0 ⟨some 44, .move (.tmp 0), _, _, _, _⟩ (.pointer (some ⟨sb, 0, none⟩)) [7] ?_ KP.out ?_
  ·intro wq hSw
   obtain ⟨y0, y1, y2, y3, y4, y5, y6, y7, y8, y9, y10⟩ := (T3.out.1.below hSw).sg.cells
   have e0 : wq.cell? ⟨pE, 0, none⟩ = some (.int .i64 f1) := by rw [cell_of ((But.of_below hSw fun _ => False).at T3.out.2.2.2.1 (fun c => c))]; rfl
   go_simp
  (try simp only [zzp, zzb, zzc])
  refine Ix.tk 1 ⟨some 45, .nilCheck (.tmp 44), _, _, _, _⟩ (.pointer (some ⟨sb, 0, none⟩)) [7] ?_ KP.out ?_
  ·intro wq hSw
   obtain ⟨y0, y1, y2, y3, y4, y5, y6, y7, y8, y9, y10⟩ := (T3.out.1.below hSw).sg.cells
   have e0 : wq.cell? ⟨pE, 0, none⟩ = some (.int .i64 f1) := by rw [cell_of ((But.of_below hSw fun _ => False).at T3.out.2.2.2.1 (fun c => c))]; rfl
   go_simp
  (try simp only [zzp, zzb, zzc])
  refine Ix.tk 2 ⟨some 46, .fieldAddr 130 (.tmp 45) 8, _, _, _, _⟩ (.pointer (some ⟨sb, 10, none⟩)) [7] ?_ KP.out ?_
  ·intro wq hSw
   obtain ⟨y0, y1, y2, y3, y4, y5, y6, y7, y8, y9, y10⟩ := (T3.out.1.below hSw).sg.cells
   have e0 : wq.cell? ⟨pE, 0, none⟩ = some (.int .i64 f1) := by rw [cell_of ((But.of_below hSw fun _ => False).at T3.out.2.2.2.1 (fun c => c))]; rfl
   go_simp
  (try simp only [zzp, zzb, zzc])
  refine Ix.tk 3 ⟨some 47, .load 128 (.tmp 46), _, _, _, _⟩ (.map (some mb)) [7] ?_ KP.out ?_
  ·intro wq hSw
   obtain ⟨y0, y1, y2, y3, y4, y5, y6, y7, y8, y9, y10⟩ := (T3.out.1.below hSw).sg.cells
   have e0 : wq.cell? ⟨pE, 0, none⟩ = some (.int .i64 f1) := by rw [cell_of ((But.of_below hSw fun _ => False).at T3.out.2.2.2.1 (fun c => c))]; rfl
   go_simp
  (try simp only [zzp, zzb, zzc])
  refine Ix.tk 4 ⟨some 48, .fieldAddr 147 (.tmp 6) 0, _, _, _, _⟩ (.pointer (some ⟨pE, 0, none⟩)) [7] ?_ KP.out ?_
  ·intro wq hSw
   obtain ⟨y0, y1, y2, y3, y4, y5, y6, y7, y8, y9, y10⟩ := (T3.out.1.below hSw).sg.cells
   have e0 : wq.cell? ⟨pE, 0, none⟩ = some (.int .i64 f1) := by rw [cell_of ((But.of_below hSw fun _ => False).at T3.out.2.2.2.1 (fun c => c))]; rfl
   go_simp
  (try simp only [zzp, zzb, zzc])
  refine Ix.tk 5 ⟨some 49, .load 2 (.tmp 48), _, _, _, _⟩ (.int .i64 f1) [7] ?_ KP.out ?_
  ·intro wq hSw
   obtain ⟨y0, y1, y2, y3, y4, y5, y6, y7, y8, y9, y10⟩ := (T3.out.1.below hSw).sg.cells
   have e0 : wq.cell? ⟨pE, 0, none⟩ = some (.int .i64 f1) := by rw [cell_of ((But.of_below hSw fun _ => False).at T3.out.2.2.2.1 (fun c => c))]; rfl
   go_simp
  (try simp only [zzp, zzb, zzc])
  have hlk : ∀ wq, Below w3.heap.size w3 wq → (Instr.lookup 128 (.map (some mb)) (.int .i64 f1) false).run Tryz.prog wq = .ok (.int .u32 ((seedAt s f1).toNat : Int)) wq := fun wq hq => by
   have := (T3.out.1.below hq).sg.sm.look (n := f1) (by omega) (by omega)
   rw [hsd] at this
   exact this
  refine Ix.tk 6 ⟨some 50, .lookup 128 (.tmp 47) (.tmp 49) false, _, _, _, _⟩ (.int .u32 ((seedAt s f1).toNat : Int)) [7] ?_ KP.out ?_
  ·intro wq hSw
   have hl9 := hlk wq hSw
   go_simp
  (try simp only [zzp, zzb, zzc])
  refine wpAnyT_one (i := 7) (o := ⟨some 8, .assign (.tmp 50), _, _, _, _⟩) (by kernel_rfl) rfl (fun K hK => ?_)
  go_simp
  refine hK.out _ _ (vac (by kernel_rfl)) ?_
  clear hK K
  (try simp only [zzp, zzb, zzc])
  refine wpAnyT_done (by kernel_rfl) ?_ _
  go_wp2_with fail
  go_meet
  case rel => exact ⟨rfl, KP.out⟩
 case rest =>
  obtain ⟨rfl, hcu⟩ := hcut
  have b4 := hcu.out
  clear hcu
  generalize hwc : wc = w4 at *
  clear hwc
  obtain ⟨t1, t2, t3, t4, t5, t6, t7⟩ := T3.out
  have T4 : Hid (SW w4 sb s S O xb mb v ∧ Below pA w w4 ∧ w4.heap[pA]? = some (.cells #[.int .i64 0, .slice none 0 0] 66 (0, 0)) ∧ w4.heap[pE]? = some (.cells #[.int .i64 f1, .int .i64 f2] 147 (0, 0)) ∧ pA < pE ∧ (∀ k, O k → k < pA) ∧ (∀ k, SOwn sb xb mb v k → k < pA)) := hide ⟨t1.below b4, t2.trans (b4.mono (by have := heap_lt t3; omega)), (But.of_below b4 fun _ => False).at t3 (fun c => c), (But.of_below b4 fun _ => False).at t4 (fun c => c), t5, t6, t7⟩
  have z2 := ok.z2
  have OK := hide ok
  clear t1 t2 t3 t4 t5 t6 t7 b4 T3 ok hsd
  generalize seedAt s f1 = sd0 at *
  go_wp2_with fail
  go_loopw [8] (fun v8 wr => ∃ n off : Int, ∃ sd : Crc.R, v8 = .int .u32 (sd.toNat : Int) ∧ 0 ≤ n ∧ n ≤ lsn ∧ 0 ≤ off ∧ off ≤ 2147483647 ∧ Hid (RS = rlF s S (lsn - n).toNat n off sd) ∧ Hid (SW wr sb s S O xb mb v ∧ Below pA w wr ∧ wr.heap[pA]? = some (.cells #[.int .i64 0, .slice none 0 0] 66 (0, 0)) ∧ wr.heap[pE]? = some (.cells #[.int .i64 n, .int .i64 off] 147 (0, 0)))) (fun _ wr => (lsn - nAt wr pE).toNat)
  case atStart => exact ⟨f1, f2, sd0, rfl, hrng.1, hrng.2.1, hrng.2.2.1, hrng.2.2.2, hE.out, T4.out.1, T4.out.2.1, T4.out.2.2.1, T4.out.2.2.2.1⟩
  case round =>
   obtain ⟨n, off, sd, rfl, n0, n1, f0, f9, hRR, QQ⟩ := hrel
   obtain ⟨q1, q2, q3, q4⟩ := QQ.out
   have hrf := hide (readFrame_any q1 OK.out n off sd f0 (by omega) hf)
   have hsz := hide (rf_size (s := s) (S := S) (n := n) (off := off) (seed := sd))
   have e0 : wr.cell? ⟨pE, 0, none⟩ = some (.int .i64 n) := by rw [cell_of q4]; rfl
   have e1 : wr.cell? ⟨pE, 1, none⟩ = some (.int .i64 off) := by rw [cell_of q4]; rfl
   have hn9 : Hid (nAt wr pE = n) := hide (by unfold nAt; rw [e0])
   have hst : Hid (RS = if (rfF s S n off sd).2.2.2 ≠ 0 ∨ n = lsn then ((rfF s S n off sd).1, (rfF s S n off sd).2.2.2) else rlF s S (lsn - (n + 1)).toNat (n + 1) (off + (rfF s S n off sd).2.1) (rfF s S n off sd).2.2.1) := hide (by
    rw [hRR.out]
    by_cases hnl : n = lsn
    ·rw [if_pos (.inr hnl), show (lsn - n).toNat = 0 by omega]; rfl
    ·obtain ⟨k, hk⟩ : ∃ k, (lsn - n).toNat = k + 1 := ⟨(lsn - n).toNat - 1, by omega⟩
     rw [hk, show (lsn - (n + 1)).toNat = k by omega]
     show (if _ then _ else _) = _
     by_cases hee : (rfF s S n off sd).2.2.2 ≠ 0
     ·rw [if_pos hee, if_pos (.inl hee)]
     ·rw [if_neg hee, if_neg (by rintro (c | c); exact hee c; exact hnl c)])
   obtain ⟨RF, hRF⟩ : ∃ RF, Hid (rfF s S n off sd = RF) := ⟨_, rfl⟩
   rw [hRF.out] at hrf hsz hst
   obtain ⟨⟨rl, rd⟩, rz, rs, re⟩ := RF
   simp only at hrf hsz hst
   have KQ : Hid (Below pA w wr ∧ wr.heap[pA]? = some (.cells #[.int .i64 0, .slice none 0 0] 66 (0, 0)) ∧ wr.heap[pE]? = some (.cells #[.int .i64 n, .int .i64 off] 147 (0, 0)) ∧ SW wr sb s S O xb mb v) := hide ⟨q2, q3, q4, q1⟩
   clear q1 q2 q3 q4 QQ hRR
   go_wp2_with fail
   go_at_call 72
   refine hrf.out.mono ?_
   rintro e w5 ⟨vd, rfl, o5, b5⟩
   obtain ⟨da, dn, dc, hvd⟩ := ob_form o5
   subst hvd
   obtain ⟨q2, q3, q4, q1⟩ := KQ.out
   have B6 := box_below w5 (.cells #[.int .i64 rl, .slice da dn dc] 66)
   have N6 := heap_alloc_new w5 (.cells #[.int .i64 rl, .slice da dn dc] 66)
   obtain ⟨w6, hw6⟩ : ∃ w6, Hid (w5.alloc (.cells #[.int .i64 rl, .slice da dn dc] 66) = w6) := ⟨_, rfl⟩
   obtain ⟨pC, hpC⟩ : ∃ pC, Hid (w5.heap.size = pC) := ⟨_, rfl⟩
   rw [hw6.out] at B6 N6
   rw [hpC.out] at N6
   have b56 : Below wr.heap.size wr w6 := keepF b5 B6
   have M3 := (But.of_below b56 fun _ => False).at q3 (fun c => c)
   have M4 := (But.of_below b56 fun _ => False).at q4 (fun c => c)
   have hAw : pA < wr.heap.size := heap_lt q3
   have Bw6 : Below pA w w6 := q2.trans (b56.mono (by omega))
   have o6 : Ob pA w6 (.slice da dn dc) rd := owns_lower (ob_but o5 (But.of_below B6 fun _ => False) (fun _ _ c => c)) (by omega)
   have T6 := q1.below b56
   have v0 : w6.cell? ⟨pC, 0, none⟩ = some (.int .i64 rl) := by rw [cell_of N6]; rfl
   have v1 : w6.cell? ⟨pC, 1, none⟩ = some (.slice da dn dc) := by rw [cell_of N6]; rfl
   have k0 : w6.cell? ⟨pE, 0, none⟩ = some (.int .i64 n) := by rw [cell_of M4]; rfl
   have k1 : w6.cell? ⟨pE, 1, none⟩ = some (.int .i64 off) := by rw [cell_of M4]; rfl
   have z0 : w6.frozen? ⟨pA, 0, none⟩ = false := by simp [World.frozen?, M3]
   have z1 : w6.frozen? ⟨pA, 1, none⟩ = false := by simp [World.frozen?, M3]
   have z3 : w6.frozen? ⟨pE, 0, none⟩ = false := by simp [World.frozen?, M4]
   have z4 : w6.frozen? ⟨pE, 1, none⟩ = false := by simp [World.frozen?, M4]
   have a0 : w6.cell? ⟨pA, 0, none⟩ = some (.int .i64 0) := by rw [cell_of M3]; rfl
   have a1 : w6.cell? ⟨pA, 1, none⟩ = some (.slice none 0 0) := by rw [cell_of M3]; rfl
   have ST6 : Hid (SW w6 sb s S O xb mb v ∧ Below pA w w6 ∧ w6.heap[pA]? = some (.cells #[.int .i64 0, .slice none 0 0] 66 (0, 0)) ∧ w6.heap[pE]? = some (.cells #[.int .i64 n, .int .i64 off] 147 (0, 0)) ∧ Ob pA w6 (.slice da dn dc) rd) := hide ⟨T6, Bw6, M3, M4, o6⟩
   clear q1 q2 q3 q4 B6 N6 b56 M3 M4 hAw Bw6 o6 o5 b5 T6 KQ hrf e0 e1
   go_upto_region 8 with fail
   rw [hw6.out, hpC.out]
   by_cases hend : re ≠ 0 ∨ n = lsn
   ·have hE9 : Hid (RS = ((rl, rd), re)) := hide (by rw [hst.out, if_pos hend])
    have FH := put2_heap ST6.out.2.2.1 (.int .i64 rl) (.slice da dn dc)
    have c0 := (cell_of FH (j := 0)).trans (show (#[Value.int .i64 rl, .slice da dn dc] : Array Value)[0]? = some (.int .i64 rl) from rfl)
    have c1 := (cell_of FH (j := 1)).trans (show (#[Value.int .i64 rl, .slice da dn dc] : Array Value)[1]? = some (.slice da dn dc) from rfl)
    have FB2 := hide (put2_below ST6.out.2.1 (Nat.le_refl pA) (.int .i64 rl) (.slice da dn dc))
    have hno : (Value.slice da dn dc).ownBlock ≠ some pA := fun c => by
     rcases ST6.out.2.2.2.2.2 with ⟨e, _⟩ | ⟨g, cap, cur, e, hg, hh, r⟩
     ·rw [e] at c; simp [Value.ownBlock] at c
     ·rw [e] at c
      simp [Value.ownBlock] at c
      subst c
      have h9 := ST6.out.2.2.1
      rw [hh] at h9
      simp at h9
    have FO : Hid (Ob pA ((w6.setCell ⟨pA, 0, none⟩ (.int .i64 rl)).setCell ⟨pA, 1, none⟩ (.slice da dn dc)) (.slice da dn dc) rd) := hide (ob_but ST6.out.2.2.2.2 (X := fun k => k = pA) ((but_sb _ pA 0 _ (fun k => k = pA) rfl).trans (but_sb _ pA 1 _ (fun k => k = pA) rfl)) (fun k hk c => hno (by rw [← c]; exact hk)))
    have hway : ((re != 0) = true) ∨ (re = 0 ∧ (n == lsn) = true) := by
     by_cases hre : re = 0
     ·rcases hend with c | c
      ·exact absurd hre c
      ·exact .inr ⟨hre, by simp [c]⟩
     ·exact .inl (by simp [hre])
    clear hst hsz FH ST6 hend
    rcases hway with hw | ⟨hr, hw⟩
    ·go_wp2_with fail
     try simp only [Exit.inBlock, Exit.then]
     refine bodyPost_ret (v := .tuple #[.agg #[.int .i64 rl, .slice da dn dc], .int .i64 re]) (by simp [results, Tryz.results19, go_sem, c0, c1]; try rfl) rfl ?_
     rw [hE9.out]
     exact ⟨_, rfl, FO.out, FB2.out⟩
    ·subst hr
     go_wp2_with fail
     try simp only [Exit.inBlock, Exit.then]
     refine bodyPost_ret (v := .tuple #[.agg #[.int .i64 rl, .slice da dn dc], .int .i64 0]) (by simp [results, Tryz.results19, go_sem, c0, c1]; try rfl) rfl ?_
     rw [hE9.out]
     exact ⟨_, rfl, FO.out, FB2.out⟩
   ·have hre : re = 0 := by omega
    have hnl : n ≠ lsn := fun c => hend (.inr c)
    subst hre
    have hk : (n == lsn) = false := by simp [hnl]
    have hE9 : Hid (RS = rlF s S (lsn - (n + 1)).toNat (n + 1) (off + rz) rs) := hide (by rw [hst.out, if_neg hend])
    obtain ⟨y1, y2⟩ := hsz.out rfl
    have kw1 : IntKind.i64.wrap (n + 1) = n + 1 := by simp [IntKind.wrap, IntKind.bits, IntKind.signed]; omega
    have kw2 : IntKind.i64.wrap (off + rz) = off + rz := by simp [IntKind.wrap, IntKind.bits, IntKind.signed]; omega
    have hpe : Hid (pA < pE ∧ (∀ k, O k → k < pA) ∧ (∀ k, SOwn sb xb mb v k → k < pA)) := hide T4.out.2.2.2.2
    have BE : But (fun k => k = pE) w6 ((w6.setCell ⟨pE, 0, none⟩ (.int .i64 (n + 1))).setCell ⟨pE, 1, none⟩ (.int .i64 (off + rz))) := (but_sb _ pE 0 _ (fun k => k = pE) rfl).trans (but_sb _ pE 1 _ (fun k => k = pE) rfl)
    have FIN : Hid (SW ((w6.setCell ⟨pE, 0, none⟩ (.int .i64 (n + 1))).setCell ⟨pE, 1, none⟩ (.int .i64 (off + rz))) sb s S O xb mb v ∧ Below pA w ((w6.setCell ⟨pE, 0, none⟩ (.int .i64 (n + 1))).setCell ⟨pE, 1, none⟩ (.int .i64 (off + rz))) ∧ ((w6.setCell ⟨pE, 0, none⟩ (.int .i64 (n + 1))).setCell ⟨pE, 1, none⟩ (.int .i64 (off + rz))).heap[pA]? = some (.cells #[.int .i64 0, .slice none 0 0] 66 (0, 0)) ∧ ((w6.setCell ⟨pE, 0, none⟩ (.int .i64 (n + 1))).setCell ⟨pE, 1, none⟩ (.int .i64 (off + rz))).heap[pE]? = some (.cells #[.int .i64 (n + 1), .int .i64 (off + rz)] 147 (0, 0))) := hide (by
     obtain ⟨u1, u2, u3, u4, u5⟩ := ST6.out
     obtain ⟨p1, p2, p3⟩ := hpe.out
     refine ⟨⟨u1.sg.but BE (fun k hk c => ?_), u1.dk.but BE (fun k hk c => ?_), u1.ap⟩, put2_below u2 (Nat.le_of_lt p1) _ _, BE.at u3 (fun c => ?_), put2_heap u4 _ _⟩
     ·have := p3 k hk; omega
     ·have := p2 k hk; omega
     ·omega)
    have hn8 : Hid (nAt ((w6.setCell ⟨pE, 0, none⟩ (.int .i64 (n + 1))).setCell ⟨pE, 1, none⟩ (.int .i64 (off + rz))) pE = n + 1) := hide (by
     unfold nAt
     rw [cell_of FIN.out.2.2.2]
     rfl)
    replace hend := hide hend
    replace hnl := hide hnl
    clear hst hsz ST6 BE
    go_wp2_with fail
    go_roundw
    case rel => exact ⟨n + 1, off + rz, rs, rfl, by omega, by have := hnl.out; omega, by omega, by omega, hE9.out, FIN.out⟩
    case measure => (show (lsn - nAt _ pE).toNat < (lsn - nAt wr pE).toNat); rw [hn8.out, hn9.out]; have := hnl.out; omega
end Go.Proofs.YtpflaglfnkmjiaaGreat.Sg
namespace Go.Proofs.YtpflaglfnkmjiaaGreat
open Go.RowKit
theorem RdrAt.put {w : World} {rb b i : Nat} {l : List UInt8} {k : Nat} {er : Int} {cs : Array Value} {T : TypeId} {v : Value} (h : RdrAt w rb l k er) (hb : w.heap[b]? = some (.cells cs T (0, 0))) (hne : b ≠ rb) (hT : T ≠ 5 := by decide) : RdrAt (w.setCell ⟨b, i, none⟩ v) rb l k er := by
 obtain ⟨v0, h1, h2, h3, h4⟩ := h
 refine ⟨v0, ?_, ?_, h3, h4⟩
 ·rw [heap_setCell_other w ⟨b, i, none⟩ rb v (fun e => hne e.symm)]; exact h1
 ·refine ownsRow_setCell_other h2 (fun e => ?_) _
  obtain ⟨_, p⟩ := id h2
  rcases p with ⟨rfl, _⟩ | ⟨g, cap, cur, rfl, _, hg, _⟩
  ·simp [Value.ownBlock] at e
  ·simp [Value.ownBlock] at e
   subst e
   rw [hb] at hg
   simp at hg
   exact hT hg.2
theorem grown_new {w u : World} {b i : Nat} {row : Option Nat} (h : w.grownBy u row) (hb : w.heap.size ≤ b) (v : Value) : w.grownBy (u.setCell ⟨b, i, none⟩ v) row :=
 ⟨h.os, h.tape, h.output, by simpa [World.setCell] using h.size, fun k hk hr => by rw [heap_setCell_other u ⟨b, i, none⟩ k v (by show k ≠ b; omega)]; exact h.block k hk hr⟩
theorem grown_keep {w u : World} {b rb : Nat} {o : Obj} (h : w.grownBy u (some rb)) (hb : w.heap[b]? = some o) (hne : b ≠ rb) : u.heap[b]? = some o := by
 rw [h.block b (heap_lt hb) (by simpa using hne)]; exact hb
theorem heap_set {w : World} {b i : Nat} {cs : Array Value} {T : TypeId} (h : w.heap[b]? = some (.cells cs T (0, 0))) (v : Value) : (w.setCell ⟨b, i, none⟩ v).heap[b]? = some (.cells (cs.setIfInBounds i v) T (0, 0)) := by
 rw [heap_setCell_same _ _ _ _ _ _ h]
theorem heap_set_other (w : World) (b c i : Nat) (v : Value) (h : c ≠ b) : (w.setCell ⟨b, i, none⟩ v).heap[c]? = w.heap[c]? := heap_setCell_other w ⟨b, i, none⟩ c v h
theorem titled_any (w : World) (rb : Nat) (v : Value) (l : List UInt8) (s : Nat × Int) (h : RdrAt w rb l s.1 s.2) :
    Calls Tryz.prog 130 #[.agg #[.pointer (some ⟨rb, 0, none⟩), v]] w fun e w' => e = .returned (.bool (decide (fx 8 (stv l 8 s) = ttl))) ∧ RdrAt w' rb l (stp l 8 s).1 (stp l 8 s).2 ∧ w.grownBy w' (some rb) := by
 have hN := hide (stv_lt l 8 s)
 have hr := hide (h.below (box_below w (.cells #[.pointer (some ⟨rb, 0, none⟩), v] 212)))
 obtain ⟨N, hNe⟩ : ∃ N, Hid (stv l 8 s = N) := ⟨_, rfl⟩
 rw [hNe.out]
 rw [hNe.out] at hN
 have hNb : Hid (N < 18446744073709551616) := by simpa [Hid] using hN.out
 obtain ⟨D, hD⟩ : ∃ D, Hid (decide (fx 8 N = ttl) = D) := ⟨_, rfl⟩
 rw [hD.out]
 go_enter Tryz.func130, Tryz.ntmps130
 go_wp2_with fail
 refine (fixed64_tot _ rb l s hr.out).mono ?_
 rintro e w1 ⟨rfl, hr1, hg1⟩
 rw [hNe.out]
 replace hr1 := hide hr1
 have hg := hide (box_grown hg1)
 clear hg1
 go_wp2_with fail
 refine (fixed64_any w1 (N : Int) (by omega) (by have := hNb.out; omega)).mono ?_
 rintro e w2 ⟨v2, rfl, ho2, hb2⟩
 rw [Int.toNat_natCast] at ho2
 have s2 := Sl.of_owns ho2
 have k8 := conv8_any w2 v2 (fx 8 N) s2 (by simp [fx_len])
 have kt : ((fstr (fx 8 N)).toList == ([70, 76, 85, 77, 69, 76, 79, 71] : List UInt8)) = D := by
  rw [fstr_list, ← hD.out, Bool.eq_iff_iff, beq_iff_eq, decide_eq_true_eq]; rfl
 have hr2 := hide (hr1.out.below hb2)
 have hg2 := hide (grown_trans hg.out (Below.grownAny hb2 _))
 clear s2 ho2 hb2
 go_wp2_with fail
 go_ret
 exact ⟨rfl, hr2.out, hg2.out⟩
theorem head_any (w : World) (rb : Nat) (v : Value) (l : List UInt8) (s : Nat × Int) (h : RdrAt w rb l s.1 s.2) :
    Calls Tryz.prog 131 #[.agg #[.pointer (some ⟨rb, 0, none⟩), v]] w fun e w' => e = .returned (.agg #[.int .i64 (sg64 (stv l 8 s)), .int .i64 (sg64 (stv l 8 (stp l 8 s))), .int .u32 (stv l 4 (stp l 8 (stp l 8 s)) : Int)]) ∧ RdrAt w' rb l (stp l 4 (stp l 8 (stp l 8 s))).1 (stp l 4 (stp l 8 (stp l 8 s))).2 ∧ w.grownBy w' (some rb) := by
 have hlt := h.lt
 obtain ⟨w3, hw3⟩ : ∃ w3, Hid (((w.alloc (.cells #[.pointer (some ⟨rb, 0, none⟩), v] 212)).alloc (.cells #[.int .i64 0, .int .i64 0, .int .u32 0] 38)).alloc (.cells #[.int .i64 0, .int .i64 0, .int .u32 0] 38) = w3) := ⟨_, rfl⟩
 have x1 : Hid (w3.heap[w.heap.size]? = some (.cells #[.pointer (some ⟨rb, 0, none⟩), v] 212 (0, 0))) := by
  show _ = _
  rw [← hw3.out, (box_below _ _).block w.heap.size (by simp; omega), (box_below _ _).block w.heap.size (by simp)]; exact heap_alloc_new _ _
 have x2 : Hid (w3.heap[w.heap.size + 1]? = some (.cells #[.int .i64 0, .int .i64 0, .int .u32 0] 38 (0, 0))) := by
  show _ = _
  rw [← hw3.out, (box_below _ _).block (w.heap.size + 1) (by simp)]
  have := heap_alloc_new (w.alloc (.cells #[.pointer (some ⟨rb, 0, none⟩), v] 212)) (.cells #[.int .i64 0, .int .i64 0, .int .u32 0] 38)
  simpa using this
 have x3 : Hid (w3.heap[w.heap.size + 1 + 1]? = some (.cells #[.int .i64 0, .int .i64 0, .int .u32 0] 38 (0, 0))) := by
  show _ = _
  rw [← hw3.out]
  have := heap_alloc_new ((w.alloc (.cells #[.pointer (some ⟨rb, 0, none⟩), v] 212)).alloc (.cells #[.int .i64 0, .int .i64 0, .int .u32 0] 38)) (.cells #[.int .i64 0, .int .i64 0, .int .u32 0] 38)
  simpa [Nat.add_assoc] using this
 have b3 : Hid (Below w.heap.size w w3) := by
  rw [← hw3.out]; exact keepF (keepF (box_below _ _) (box_below _ _)) (box_below _ _)
 have r3 := hide (h.below b3.out)
 have g3 := hide (Below.grownAny b3.out (some rb))
 obtain ⟨A, hA⟩ : ∃ A, Hid (stv l 8 s = A) := ⟨_, rfl⟩
 obtain ⟨B, hB⟩ : ∃ B, Hid (stv l 8 (stp l 8 s) = B) := ⟨_, rfl⟩
 obtain ⟨C, hC⟩ : ∃ C, Hid (stv l 4 (stp l 8 (stp l 8 s)) = C) := ⟨_, rfl⟩
 obtain ⟨s1, hs1⟩ : ∃ s1, Hid (stp l 8 s = s1) := ⟨_, rfl⟩
 obtain ⟨s2, hs2⟩ : ∃ s2, Hid (stp l 8 s1 = s2) := ⟨_, rfl⟩
 obtain ⟨s3, hs3⟩ : ∃ s3, Hid (stp l 4 s2 = s3) := ⟨_, rfl⟩
 rw [hs1.out, hs2.out] at hC
 rw [hs1.out] at hB
 rw [hs1.out, hs2.out, hs3.out, hA.out, hB.out, hC.out]
 have n1 : Hid (w.heap.size ≠ rb) := by show _ ≠ _; omega
 have n2 : Hid (w.heap.size + 1 ≠ rb) := by show _ ≠ _; omega
 have n3 : Hid (w.heap.size + 1 + 1 ≠ rb) := by show _ ≠ _; omega
 clear h hlt
 go_enter Tryz.func131, Tryz.ntmps131
 go_wp2_with fail
 rw [hw3.out]
 clear hw3
 refine (number_any w3 rb v l s r3.out).mono ?_
 rintro e w4 ⟨rfl, hr4, hg4⟩
 rw [hs1.out] at hr4
 rw [hA.out]
 have y1 := hide (grown_keep hg4 x1.out n1.out)
 have y2 := hide (grown_keep hg4 x2.out n2.out)
 have y3 := hide (grown_keep hg4 x3.out n3.out)
 have g4 := hide (grown_trans g3.out hg4)
 replace hr4 := hide hr4
 clear hg4 x1 x2 x3 g3 r3 b3
 obtain ⟨c0, c1, c2, f0, f1, f2⟩ := three_cells y3.out
 have z1 : Hid ((w4.setCell ⟨w.heap.size + 1 + 1, 0, none⟩ (.int .i64 (sg64 A))).heap[w.heap.size]? = some (.cells #[.pointer (some ⟨rb, 0, none⟩), v] 212 (0, 0))) := by show _ = _; rw [heap_set_other _ _ _ _ _ (by omega)]; exact y1.out
 have z2 : Hid ((w4.setCell ⟨w.heap.size + 1 + 1, 0, none⟩ (.int .i64 (sg64 A))).heap[w.heap.size + 1]? = some (.cells #[.int .i64 0, .int .i64 0, .int .u32 0] 38 (0, 0))) := by show _ = _; rw [heap_set_other _ _ _ _ _ (by omega)]; exact y2.out
 have z3 : Hid ((w4.setCell ⟨w.heap.size + 1 + 1, 0, none⟩ (.int .i64 (sg64 A))).heap[w.heap.size + 1 + 1]? = some (.cells #[.int .i64 (sg64 A), .int .i64 0, .int .u32 0] 38 (0, 0))) := by show _ = _; rw [heap_set y3.out]; simp
 have r5 := hide (hr4.out.put (i := 0) (v := .int .i64 (sg64 A)) y3.out n3.out)
 have g5 := hide (grown_new (i := 0) g4.out (show w.heap.size ≤ w.heap.size + 1 + 1 by omega) (.int .i64 (sg64 A)))
 obtain ⟨d0, d1, _, _⟩ := two_cells y1.out
 go_wp2_with fail
 clear c0 c1 c2 f0 f1 f2 d0 d1 y1 y2 y3 hr4 g4
 generalize w4.setCell ⟨w.heap.size + 1 + 1, 0, none⟩ (.int .i64 (sg64 A)) = w5 at *
 refine (number_any w5 rb v l s1 r5.out).mono ?_
 rintro e w6 ⟨rfl, hr6, hg6⟩
 rw [hs2.out] at hr6
 rw [hB.out]
 have y1 := hide (grown_keep hg6 z1.out n1.out)
 have y2 := hide (grown_keep hg6 z2.out n2.out)
 have y3 := hide (grown_keep hg6 z3.out n3.out)
 have g6 := hide (grown_trans g5.out hg6)
 replace hr6 := hide hr6
 clear hg6 z1 z2 z3 g5 r5
 obtain ⟨c0, c1, c2, f0, f1, f2⟩ := three_cells y3.out
 have z1 : Hid ((w6.setCell ⟨w.heap.size + 1 + 1, 1, none⟩ (.int .i64 (sg64 B))).heap[w.heap.size]? = some (.cells #[.pointer (some ⟨rb, 0, none⟩), v] 212 (0, 0))) := by show _ = _; rw [heap_set_other _ _ _ _ _ (by omega)]; exact y1.out
 have z2 : Hid ((w6.setCell ⟨w.heap.size + 1 + 1, 1, none⟩ (.int .i64 (sg64 B))).heap[w.heap.size + 1]? = some (.cells #[.int .i64 0, .int .i64 0, .int .u32 0] 38 (0, 0))) := by show _ = _; rw [heap_set_other _ _ _ _ _ (by omega)]; exact y2.out
 have z3 : Hid ((w6.setCell ⟨w.heap.size + 1 + 1, 1, none⟩ (.int .i64 (sg64 B))).heap[w.heap.size + 1 + 1]? = some (.cells #[.int .i64 (sg64 A), .int .i64 (sg64 B), .int .u32 0] 38 (0, 0))) := by show _ = _; rw [heap_set y3.out]; simp
 have r7 := hide (hr6.out.put (i := 1) (v := .int .i64 (sg64 B)) y3.out n3.out)
 have g7 := hide (grown_new (i := 1) g6.out (show w.heap.size ≤ w.heap.size + 1 + 1 by omega) (.int .i64 (sg64 B)))
 obtain ⟨d0, d1, _, _⟩ := two_cells y1.out
 go_wp2_with fail
 clear c0 c1 c2 f0 f1 f2 d0 d1 y1 y2 y3 hr6 g6
 generalize w6.setCell ⟨w.heap.size + 1 + 1, 1, none⟩ (.int .i64 (sg64 B)) = w7 at *
 refine (fixed32_tot w7 rb l s2 r7.out).mono ?_
 rintro e w8 ⟨rfl, hr8, hg8⟩
 rw [hs3.out] at hr8
 rw [hC.out]
 have y1 := hide (grown_keep hg8 z1.out n1.out)
 have y2 := hide (grown_keep hg8 z2.out n2.out)
 have y3 := hide (grown_keep hg8 z3.out n3.out)
 have g8 := hide (grown_trans g7.out hg8)
 replace hr8 := hide hr8
 clear hg8 z1 z2 z3 g7 r7
 obtain ⟨c0, c1, c2, f0, f1, f2⟩ := three_cells y3.out
 obtain ⟨e0, e1, e2, h0, h1, h2⟩ := three_cells y2.out
 obtain ⟨w9, hw9⟩ : ∃ w9, Hid (w8.setCell ⟨w.heap.size + 1 + 1, 2, none⟩ (.int .u32 (C : Int)) = w9) := ⟨_, rfl⟩
 have z2 : Hid (w9.heap[w.heap.size + 1]? = some (.cells #[.int .i64 0, .int .i64 0, .int .u32 0] 38 (0, 0))) := by show _ = _; rw [← hw9.out, heap_set_other _ _ _ _ _ (by omega)]; exact y2.out
 have z3 : Hid (w9.heap[w.heap.size + 1 + 1]? = some (.cells #[.int .i64 (sg64 A), .int .i64 (sg64 B), .int .u32 (C : Int)] 38 (0, 0))) := by show _ = _; rw [← hw9.out, heap_set y3.out]; simp
 have r9 : Hid (RdrAt w9 rb l s3.1 s3.2) := by rw [← hw9.out]; exact hr8.out.put y3.out n3.out
 have g9 : Hid (w.grownBy w9 (some rb)) := by rw [← hw9.out]; exact grown_new g8.out (by omega) _
 go_upto_region 5 with fail
 rw [hw9.out]
 clear hw9 c0 c1 c2 f0 f1 f2 e0 e1 e2 h0 h1 h2 y1 y2 y3 hr8 g8
 obtain ⟨c0, c1, c2, _, _, _⟩ := three_cells z3.out
 obtain ⟨e0, e1, e2, h0, h1, h2⟩ := three_cells z2.out
 have hP := hide (three_cells (put3_heap z2.out (.int .i64 (sg64 A)) (.int .i64 (sg64 B)) (.int .u32 (C : Int))))
 have hR : Hid (RdrAt (put3 w9 (w.heap.size + 1) (.int .i64 (sg64 A)) (.int .i64 (sg64 B)) (.int .u32 (C : Int))) rb l s3.1 s3.2) := by
  have a1 := r9.out.put (i := 0) (v := .int .i64 (sg64 A)) z2.out n2.out
  have a2 := a1.put (i := 1) (v := .int .i64 (sg64 B)) (heap_set z2.out _) n2.out
  exact a2.put (i := 2) (v := .int .u32 (C : Int)) (heap_set (heap_set z2.out _) _) n2.out
 have hG : Hid (w.grownBy (put3 w9 (w.heap.size + 1) (.int .i64 (sg64 A)) (.int .i64 (sg64 B)) (.int .u32 (C : Int))) (some rb)) := grown_new (grown_new (grown_new g9.out (by omega) _) (by omega) _) (by omega) _
 go_wp2_with fail
 show bodyPost _ _ _ _ _ (put3 w9 (w.heap.size + 1) (.int .i64 (sg64 A)) (.int .i64 (sg64 B)) (.int .u32 (C : Int)))
 obtain ⟨wX, hwX⟩ : ∃ wX, Hid (put3 w9 (w.heap.size + 1) (.int .i64 (sg64 A)) (.int .i64 (sg64 B)) (.int .u32 (C : Int)) = wX) := ⟨_, rfl⟩
 rw [hwX.out] at hP hR hG ⊢
 obtain ⟨k0, k1, k2, _, _, _⟩ := hP.out
 refine bodyPost_ret (by simp [results, Tryz.results131, go_sem, k0, k1, k2]; rfl) rfl ?_
 exact ⟨rfl, hR.out, hG.out⟩
theorem stp_ok {l : List UInt8} {n : Nat} {s : Nat × Int} (h : (stp l n s).2 = 0) : s.2 = 0 ∧ (stp l n s).1 = s.1 + n ∧ s.1 + n ≤ l.length := by
 unfold stp at h ⊢
 by_cases h0 : s.2 = 0
 ·rw [if_pos h0] at h ⊢
  by_cases h1 : s.1 + n ≤ l.length
  ·rw [if_pos h1]; exact ⟨h0, rfl, h1⟩
  ·rw [if_neg h1] at h; simp at h
 ·rw [if_neg h0] at h; exact absurd h h0
theorem read5_no (l : List UInt8) (h : l.length < 32) : ((stp (l.take 32) 4 (stp (l.take 32) 4 (stp (l.take 32) 8 (stp (l.take 32) 8 (stp (l.take 32) 8 (0, 0)))))).2 != 0) = true := by
 have hl : (l.take 32).length = l.length := by simp; omega
 rw [bne_iff_ne]
 intro h0
 obtain ⟨a1, a2, a3⟩ := stp_ok h0
 obtain ⟨b1, b2, b3⟩ := stp_ok a1
 obtain ⟨c1, c2, c3⟩ := stp_ok b1
 obtain ⟨d1, d2, d3⟩ := stp_ok c1
 obtain ⟨e1, e2, e3⟩ := stp_ok d1
 rw [b2, c2, d2, e2] at a3
 simp only [Nat.zero_add] at a3
 omega
theorem num_fx (l : List UInt8) : fx l.length (num l) = l := by
 induction l with
 | nil => rfl
 | cons c r ih =>
  have hc := c.toNat_lt
  have e1 : (c.toNat + 256 * num r) % 256 = c.toNat := by omega
  have e2 : (c.toNat + 256 * num r) / 256 = num r := by omega
  rw [List.length_cons, num, fx, e1, e2, ih]
  simp
theorem num_fx8 (l : List UInt8) (n : Nat) (h : l.length = n) : fx n (num l) = l := by rw [← h]; exact num_fx l
theorem read5_ok (l : List UInt8) (h : 32 ≤ l.length) :
    stp (l.take 32) 4 (stp (l.take 32) 4 (stp (l.take 32) 8 (stp (l.take 32) 8 (stp (l.take 32) 8 (0, 0))))) = (32, 0) ∧
    fx 8 (stv (l.take 32) 8 (0, 0)) = l.take 8 ∧
    stv (l.take 32) 8 (stp (l.take 32) 8 (0, 0)) = gN l ∧
    stv (l.take 32) 8 (stp (l.take 32) 8 (stp (l.take 32) 8 (0, 0))) = gB l ∧
    stv (l.take 32) 4 (stp (l.take 32) 8 (stp (l.take 32) 8 (stp (l.take 32) 8 (0, 0)))) = gS l ∧
    stv (l.take 32) 4 (stp (l.take 32) 4 (stp (l.take 32) 8 (stp (l.take 32) 8 (stp (l.take 32) 8 (0, 0))))) = gM l := by
 have hl : (l.take 32).length = 32 := by simp; omega
 have e1 : stp (l.take 32) 8 (0, 0) = (8, 0) := by simp [stp, hl]
 have e2 : stp (l.take 32) 8 (8, 0) = (16, 0) := by simp [stp, hl]
 have e3 : stp (l.take 32) 8 (16, 0) = (24, 0) := by simp [stp, hl]
 have e4 : stp (l.take 32) 4 (24, 0) = (28, 0) := by simp [stp, hl]
 have e5 : stp (l.take 32) 4 (28, 0) = (32, 0) := by simp [stp, hl]
 rw [e1, e2, e3, e4, e5]
 refine ⟨rfl, ?_, ?_, ?_, ?_, ?_⟩
 ·have : stv (l.take 32) 8 (0, 0) = num (l.take 8) := by simp [stv, hl, List.take_take]
  rw [this]
  exact num_fx8 _ 8 (by simp; omega)
 ·simp [stv, hl, gN, List.drop_take, List.take_take]
 ·simp [stv, hl, gB, List.drop_take, List.take_take]
 ·simp [stv, hl, gS, List.drop_take, List.take_take]
 ·simp [stv, hl, gM, List.drop_take, List.take_take]
theorem hfs_take (l : List UInt8) (h : 32 ≤ l.length) (ht : l.take 8 = ttl) (seed : Crc.R) (hs : seed.toNat = gS l) : hfs (gN l) (gB l) seed = l.take 28 := by
 rw [hfs, ← ht, hs, gN, gB, gS, num_fx8 _ 8 (by simp; omega), num_fx8 _ 8 (by simp; omega), num_fx8 _ 4 (by simp; omega)]
 rw [show (28 : Nat) = 8 + 20 from rfl, List.take_add, show (20 : Nat) = 8 + 12 from rfl, List.take_add, show (12 : Nat) = 8 + 4 from rfl, List.take_add]
 simp [List.drop_drop]
theorem sg64_le (n : Nat) (h : n < 18446744073709551616) : sg64 n ≤ 9223372036854775807 ∧ -9223372036854775808 ≤ sg64 n := by unfold sg64; split <;> omega
theorem inB_top (n : Int) (h : n ≤ 9223372036854775807) : inB n 9223372036854775807 = decide (1 ≤ n) := by simp [inB, h]
theorem sg64_toNat (n : Nat) (h : n < 18446744073709551616) (h1 : 1 ≤ sg64 n) : (sg64 n).toNat = n := by unfold sg64 at h1 ⊢; split at h1 <;> split <;> omega
structure RSH (w0 q : World) (b0 b8 rb : Nat) (c0 : Array Value) (T0 : TypeId) (v : Value) (l : List UInt8) (s : Nat × Int) : Prop where
 out : RS w0 q b0 b8 rb c0 T0 v l s
theorem RSH.al {w0 q : World} {b0 b8 rb : Nat} {c0 : Array Value} {T0 : TypeId} {v : Value} {l : List UInt8} {s : Nat × Int} (h : RSH w0 q b0 b8 rb c0 T0 v l s) (o : Obj) : RSH w0 (q.alloc o) b0 b8 rb c0 T0 v l s := ⟨h.out.below (box_below _ _)⟩
theorem RSH.dr {w0 q : World} {b0 b8 rb : Nat} {c0 : Array Value} {T0 : TypeId} {v : Value} {l : List UInt8} {s : Nat × Int} (h : RSH w0 q b0 b8 rb c0 T0 v l s) : RSH w0 q.drew b0 b8 rb c0 T0 v l s := ⟨h.out.below (Below.refl _ _).drew⟩
theorem RSH.cells {w0 q : World} {b0 b8 rb : Nat} {c0 : Array Value} {T0 : TypeId} {v : Value} {l : List UInt8} {s : Nat × Int} (h : RSH w0 q b0 b8 rb c0 T0 v l s) : q.cell? ⟨b8, 0, none⟩ = some (.pointer (some ⟨rb, 0, none⟩)) ∧ q.cell? ⟨b8, 1, none⟩ = some v := h.out.cells
theorem RSH.lt {w0 q : World} {b0 b8 rb : Nat} {c0 : Array Value} {T0 : TypeId} {v : Value} {l : List UInt8} {s : Nat × Int} (h : RSH w0 q b0 b8 rb c0 T0 v l s) : rb < q.heap.size ∧ b0 < q.heap.size ∧ b8 < q.heap.size ∧ w0.heap.size ≤ q.heap.size := ⟨h.out.2.2.1.lt, heap_lt h.out.1, heap_lt h.out.2.1, h.out.2.2.2.1.size⟩
theorem RSH.titled {w0 q : World} {b0 b8 rb : Nat} {c0 : Array Value} {T0 : TypeId} {v : Value} {l : List UInt8} {s : Nat × Int} (h : RSH w0 q b0 b8 rb c0 T0 v l s) :
    Calls Tryz.prog 130 #[.agg #[.pointer (some ⟨rb, 0, none⟩), v]] q fun e w' => e = .returned (.bool (decide (fx 8 (stv l 8 s) = ttl))) ∧ RSH w0 w' b0 b8 rb c0 T0 v l (stp l 8 s) ∧ q.grownBy w' (some rb) :=
 (titled_any q rb v l s h.out.2.2.1).mono fun _ _ ⟨e, r, g⟩ => ⟨e, ⟨h.out.step g r⟩, g⟩
theorem RSH.head {w0 q : World} {b0 b8 rb : Nat} {c0 : Array Value} {T0 : TypeId} {v : Value} {l : List UInt8} {s : Nat × Int} (h : RSH w0 q b0 b8 rb c0 T0 v l s) :
    Calls Tryz.prog 131 #[.agg #[.pointer (some ⟨rb, 0, none⟩), v]] q fun e w' => e = .returned (.agg #[.int .i64 (sg64 (stv l 8 s)), .int .i64 (sg64 (stv l 8 (stp l 8 s))), .int .u32 (stv l 4 (stp l 8 (stp l 8 s)) : Int)]) ∧ RSH w0 w' b0 b8 rb c0 T0 v l (stp l 4 (stp l 8 (stp l 8 s))) ∧ q.grownBy w' (some rb) :=
 (head_any q rb v l s h.out.2.2.1).mono fun _ _ ⟨e, r, g⟩ => ⟨e, ⟨h.out.step g r⟩, g⟩
theorem RSH.f32 {w0 q : World} {b0 b8 rb : Nat} {c0 : Array Value} {T0 : TypeId} {v : Value} {l : List UInt8} {s : Nat × Int} (h : RSH w0 q b0 b8 rb c0 T0 v l s) :
    Calls Tryz.prog 132 #[.pointer (some ⟨rb, 0, none⟩)] q fun e w' => e = .returned (.int .u32 (stv l 4 s : Int)) ∧ RSH w0 w' b0 b8 rb c0 T0 v l (stp l 4 s) ∧ q.grownBy w' (some rb) :=
 (fixed32_tot q rb l s h.out.2.2.1).mono fun _ _ ⟨e, r, g⟩ => ⟨e, ⟨h.out.step g r⟩, g⟩
theorem RSH.put3 {w0 q : World} {b0 b8 rb b7 : Nat} {c0 : Array Value} {T0 T7 : TypeId} {v z0 z1 z2 a0 a1 a2 : Value} {l : List UInt8} {s : Nat × Int} (h : RSH w0 q b0 b8 rb c0 T0 v l s) (hb : q.heap[b7]? = some (.cells #[z0, z1, z2] T7 (0, 0))) (h0 : b0 ≠ b7) (h8 : b8 ≠ b7) (hr : b7 ≠ rb) (hw : w0.heap.size ≤ b7) (hT : T7 ≠ 5 := by decide) : RSH w0 (put3 q b7 a0 a1 a2) b0 b8 rb c0 T0 v l s := by
 obtain ⟨h1, h2, h3, h4, h5, h6, h7⟩ := h.out
 refine ⟨?_, ?_, ?_, put3_below h4 hw a0 a1 a2, h5, h6, h7⟩
 ·rw [put3_other _ _ _ _ _ _ h0]; exact h1
 ·rw [put3_other _ _ _ _ _ _ h8]; exact h2
 ·have a := h3.put (i := 0) (v := a0) hb hr hT
  have b := a.put (i := 1) (v := a1) (heap_set hb _) hr hT
  exact b.put (i := 2) (v := a2) (heap_set (heap_set hb _) _) hr hT
def RHx (w q : World) (b8 rb b7 : Nat) (v : Value) (l : List UInt8) (A B : Int) (C : Nat) (s : Nat × Int) : Prop :=
 RSH w q w.heap.size b8 rb #[.int .i64 0, .int .i64 0, .int .u32 0] 38 v l s ∧ q.heap[b7]? = some (.cells #[.int .i64 A, .int .i64 B, .int .u32 (C : Int)] 38 (0, 0)) ∧ w.heap.size ≠ b7
theorem RHx.below {w q q' : World} {b8 rb b7 : Nat} {v : Value} {l : List UInt8} {A B : Int} {C : Nat} {s : Nat × Int} (h : RHx w q b8 rb b7 v l A B C s) (hb : Below q.heap.size q q') : RHx w q' b8 rb b7 v l A B C s :=
 ⟨⟨h.1.out.below hb⟩, by rw [hb.block b7 (heap_lt h.2.1)]; exact h.2.1, h.2.2⟩
theorem RHx.late {w q : World} {b8 rb : Nat} {v : Value} {l : List UInt8} {A B : Int} {C : Nat} {s : Nat × Int} (h : RSH w q w.heap.size b8 rb #[.int .i64 0, .int .i64 0, .int .u32 0] 38 v l s) : RHx w (q.alloc (.cells #[.int .i64 A, .int .i64 B, .int .u32 (C : Int)] 38)) b8 rb q.heap.size v l A B C s :=
 ⟨h.al _, heap_alloc_new _ _, by have := h.lt; omega⟩
theorem RHx.early {w q : World} {b8 rb b7 : Nat} {v : Value} {l : List UInt8} {A B : Int} {C : Nat} {s : Nat × Int} (h : RSH w q w.heap.size b8 rb #[.int .i64 0, .int .i64 0, .int .u32 0] 38 v l s) (hb : q.heap[b7]? = some (.cells #[.int .i64 0, .int .i64 0, .int .u32 0] 38 (0, 0))) (h0 : w.heap.size < b7) (h8 : b8 < b7) (hr : rb < b7) : RHx w (put3 q b7 (.int .i64 A) (.int .i64 B) (.int .u32 (C : Int))) b8 rb b7 v l A B C s :=
 ⟨h.put3 hb (by omega) (by omega) (by omega) (by omega), put3_heap hb _ _ _, by omega⟩
theorem alloc_at (q : World) (o : Obj) : (q.alloc o).heap[q.heap.size]? = some o := heap_alloc_new _ _
theorem readHead_any : DoesRH 68 := by
 intro w v l hv
 have HV := hide hv
 obtain ⟨n, hn⟩ : ∃ n, Hid (l.length = n) := ⟨_, rfl⟩
 obtain ⟨ao, ca, rfl⟩ := hv.form hn.out
 have HV1 := hide (Below.sl (box_below w (.cells #[.int .i64 0, .int .i64 0, .int .u32 0] 38)) hv)
 clear hv
 obtain ⟨F, hF⟩ : ∃ F, Hid (rhF l = F) := ⟨_, rfl⟩
 rw [hF.out]
 obtain ⟨m, hm⟩ : ∃ m, Hid (l.take 32 = m) := ⟨_, rfl⟩
 go_enter Tryz.func68, Tryz.ntmps68
 go_upto_region 1 with fail
 go_wp2_with fail
 refine (newR_any _ _ l 32 (by omega) HV1.out).mono ?_
 rintro e w1 ⟨rb, rfl, hr, hb, hrb⟩
 rw [hm.out] at hr
 have hB : Hid (Below w.heap.size w w1) := keepF (box_below _ _) hb
 have hh := hb.block w.heap.size (by simp)
 rw [heap_alloc_new] at hh
 have hrb' : Hid (w.heap.size + 1 ≤ rb) := by simpa [Hid] using hrb
 replace hh := hide hh
 replace hr := hide hr
 clear hb hrb
 go_upto_region 2 with fail
 obtain ⟨T, hT⟩ : ∃ T, Hid (decide (fx 8 (stv m 8 (0, 0)) = ttl) = T) := ⟨_, rfl⟩
 obtain ⟨s1, hs1⟩ : ∃ s, Hid (stp m 8 (0, 0) = s) := ⟨_, rfl⟩
 obtain ⟨s4, hs4⟩ : ∃ s, Hid (stp m 4 (stp m 8 (stp m 8 s1)) = s) := ⟨_, rfl⟩
 obtain ⟨s5, hs5⟩ : ∃ s, Hid (stp m 4 s4 = s) := ⟨_, rfl⟩
 obtain ⟨A, hA⟩ : ∃ A, Hid (stv m 8 s1 = A) := ⟨_, rfl⟩
 obtain ⟨B, hB1⟩ : ∃ B, Hid (stv m 8 (stp m 8 s1) = B) := ⟨_, rfl⟩
 obtain ⟨C, hC⟩ : ∃ C, Hid (stv m 4 (stp m 8 (stp m 8 s1)) = C) := ⟨_, rfl⟩
 obtain ⟨M, hM⟩ : ∃ M, Hid (stv m 4 s4 = M) := ⟨_, rfl⟩
 go_cut [6, 7, 8] from 12 to 18 (fun v6 v7 v8 wx => ∃ b7, v6 = .bool T ∧ v7 = .pointer (some ⟨b7, 0, none⟩) ∧ v8 = .int .u32 (M : Int) ∧ Hid (RHx w wx w1.heap.size rb b7 (.slice ao n ca) m (sg64 A) (sg64 B) C s5))
 case first =>
  have R0 : RSH w (w1.alloc (.cells #[.pointer (some ⟨rb, 0, none⟩), .slice ao n ca] 212)) w.heap.size w1.heap.size rb #[.int .i64 0, .int .i64 0, .int .u32 0] 38 (.slice ao n ca) m (0, 0) := by
   have hlt := hr.out.lt
   have hbx := box_below w1 (.cells #[.pointer (some ⟨rb, 0, none⟩), .slice ao n ca] 212)
   refine ⟨⟨?_, heap_alloc_new _ _, hr.out.below hbx, keepF hB.out hbx, by have := hrb'.out; omega, by omega, by have := hrb'.out; omega⟩⟩
   show (w1.alloc _).heap[w.heap.size]? = _
   rw [hbx.block w.heap.size (heap_lt hh.out)]; exact hh.out
  obtain ⟨W, hW⟩ : ∃ W, Hid (w1.alloc (.cells #[.pointer (some ⟨rb, 0, none⟩), .slice ao n ca] 212) = W) := ⟨_, rfl⟩
  rw [hW.out] at R0 ⊢
  clear hh hr hrb' hB hW
  have hS0 := R0.dr.cells
  have L0 := R0.lt
  have HL0 := hide L0
  clear L0
  have T1 : Hid (∀ q, RSH w q w.heap.size w1.heap.size rb #[.int .i64 0, .int .i64 0, .int .u32 0] 38 (.slice ao n ca) m (0, 0) → Calls Tryz.prog 130 #[.agg #[.pointer (some ⟨rb, 0, none⟩), .slice ao n ca]] q fun e w' => e = .returned (.bool T) ∧ RSH w w' w.heap.size w1.heap.size rb #[.int .i64 0, .int .i64 0, .int .u32 0] 38 (.slice ao n ca) m s1 ∧ q.grownBy w' (some rb)) := fun q h => by
   have := h.titled
   rw [hT.out, hs1.out] at this
   exact this
  have T2 : Hid (∀ q, RSH w q w.heap.size w1.heap.size rb #[.int .i64 0, .int .i64 0, .int .u32 0] 38 (.slice ao n ca) m s1 → Calls Tryz.prog 131 #[.agg #[.pointer (some ⟨rb, 0, none⟩), .slice ao n ca]] q fun e w' => e = .returned (.agg #[.int .i64 (sg64 A), .int .i64 (sg64 B), .int .u32 (C : Int)]) ∧ RSH w w' w.heap.size w1.heap.size rb #[.int .i64 0, .int .i64 0, .int .u32 0] 38 (.slice ao n ca) m s4 ∧ q.grownBy w' (some rb)) := fun q h => by
   have := h.head
   rw [hA.out, hB1.out, hC.out, hs4.out] at this
   exact this
  have T3 : Hid (∀ q, RSH w q w.heap.size w1.heap.size rb #[.int .i64 0, .int .i64 0, .int .u32 0] 38 (.slice ao n ca) m s4 → Calls Tryz.prog 132 #[.pointer (some ⟨rb, 0, none⟩)] q fun e w' => e = .returned (.int .u32 (M : Int)) ∧ RSH w w' w.heap.size w1.heap.size rb #[.int .i64 0, .int .i64 0, .int .u32 0] 38 (.slice ao n ca) m s5 ∧ q.grownBy w' (some rb)) := fun q h => by
   have := h.f32
   rw [hM.out, hs5.out] at this
   exact this
  go_region_held3 (fun q => q.cell? ⟨w1.heap.size, 0, none⟩ = some (.pointer (some ⟨rb, 0, none⟩)) ∧ q.cell? ⟨w1.heap.size, 1, none⟩ = some (.slice ao n ca))
   (first | exact hS0 | assumption | exact RSH.cells R3 | exact RSH.cells R2 | exact RSH.cells R1 | exact RSH.cells (P3 _ _ _) | exact (R3.al _).cells | exact (R2.al _).cells | exact (R1.al _).cells | exact (R0.al _).dr.cells | fail)
   (first
    | (go_at_call 130; refine (T1.out _ (by first | exact R0.dr | exact (R0.al _).dr | fail)).mono ?_; rintro e u1 ⟨rfl, R1, G1⟩
       have N1 : rb < W.heap.size ∧ w.heap.size < W.heap.size ∧ w1.heap.size < W.heap.size ∧ W.heap.size ≤ u1.heap.size := ⟨HL0.out.1, HL0.out.2.1, HL0.out.2.2.1, by first | exact G1.size | exact Nat.le_trans (box_below W _).size G1.size⟩
       replace N1 := hide N1
       try (have A1 : Hid (u1.heap[W.heap.size]? = some (.cells #[.int .i64 0, .int .i64 0, .int .u32 0] 38 (0, 0))) := grown_keep G1 (alloc_at W _) (by have := N1.out.1; omega)))
    | (go_at_call 131; refine (T2.out _ (by first | exact R1 | exact R1.al _ | fail)).mono ?_; rintro e u2 ⟨rfl, R2, G2⟩
       have N2 : u1.heap.size ≤ u2.heap.size := by first | exact G2.size | exact Nat.le_trans (box_below u1 _).size G2.size
       replace N2 := hide N2
       first
        | (have A2 : Hid (u2.heap[W.heap.size]? = some (.cells #[.int .i64 0, .int .i64 0, .int .u32 0] 38 (0, 0))) := grown_keep G2 A1.out (by have := N1.out.1; omega))
        | (have A2 : Hid (u2.heap[u1.heap.size]? = some (.cells #[.int .i64 0, .int .i64 0, .int .u32 0] 38 (0, 0))) := grown_keep G2 (alloc_at u1 _) (by have := N1.out.1; have := N1.out.2.2.2; omega))
        | skip)
    | (go_at_call 132; refine (T3.out _ (by first | exact R2 | exact R2.al _ | fail)).mono ?_; rintro e u3 ⟨rfl, R3, G3⟩
       first
        | (have A3 := hide (grown_keep G3 A2.out (by have := N1.out.1; have := N1.out.2.2.2; omega))
           obtain ⟨x0, x1, x2, y0, y1, y2⟩ := three_cells A3.out
           have P3 := fun a0 a1 a2 => RSH.put3 (a0 := a0) (a1 := a1) (a2 := a2) R3 A3.out (by have := N1.out; have := N2.out; omega) (by have := N1.out; have := N2.out; omega) (by have := N1.out; have := N2.out; omega) (by have := N1.out; have := N2.out; omega))
        | (have A3 : Hid (u3.heap[u2.heap.size]? = some (.cells #[.int .i64 0, .int .i64 0, .int .u32 0] 38 (0, 0))) := grown_keep G3 (alloc_at u2 _) (by have := N1.out.1; have := N1.out.2.2.2; have := N2.out; omega)
           obtain ⟨x0, x1, x2, y0, y1, y2⟩ := three_cells A3.out
           have P3 := fun a0 a1 a2 => RSH.put3 (a0 := a0) (a1 := a1) (a2 := a2) R3 A3.out (by have := N1.out; have := N2.out; omega) (by have := N1.out; have := N2.out; omega) (by have := N1.out; have := N2.out; omega) (by have := N1.out; have := N2.out; omega))
        | skip)
    | fail)
  all_goals
   go_wp2_with fail
   go_meet
   case rel => first | exact ⟨_, rfl, rfl, rfl, RHx.late R3⟩ | exact ⟨_, rfl, rfl, rfl, RHx.early R3 A3.out (by have := N1.out; have := N2.out; omega) (by have := N1.out; have := N2.out; omega) (by have := N1.out; have := N2.out; omega)⟩
 case rest =>
  obtain ⟨b7, rfl, rfl, rfl, hx⟩ := hcut
  clear hh hr hrb' hB HV1
  have hAb : A < 18446744073709551616 := by rw [← hA.out]; have := stv_lt m 8 s1; simpa using this
  have hBb : B < 18446744073709551616 := by rw [← hB1.out]; have := stv_lt m 8 (stp m 8 s1); simpa using this
  have hCb : C < 4294967296 := by rw [← hC.out]; have := stv_lt m 4 (stp m 8 (stp m 8 s1)); simpa using this
  have hMb : M < 4294967296 := by rw [← hM.out]; have := stv_lt m 4 s4; simpa using this
  have HAb := hide hAb
  have HBb := hide hBb
  clear hAb hBb
  obtain ⟨hc8, hc9⟩ := hx.out.1.cells
  go_wp2_with fail
  refine (short_any _ rb _ m s5.1 s5.2 hx.out.1.out.2.2.1).mono ?_
  rintro e u4 ⟨rfl, hb4⟩
  have hx4 := hide (hx.out.below hb4)
  clear hx hb4 hc8 hc9
  by_cases h32 : n < 32
  ·have hne : Hid ((s5.2 != 0) = true) := by
     rw [← hs5.out, ← hs4.out, ← hs1.out, ← hm.out]; exact read5_no l (by rw [hn.out]; exact h32)
   rw [hne.out]
   obtain rfl : F = (0, 0, 0#32, 0#32, 2) := by
    rw [← hF.out]
    have e : rhE l = 2 := by rw [rhE, if_pos (by rw [hn.out]; exact h32)]
    rw [rhF, e]; rfl
   have hP := hide (three_cells (put3_heap hx4.out.1.out.1 (.int .i64 0) (.int .i64 0) (.int .u32 0)))
   have hB2 := hide (put3_below hx4.out.1.out.2.2.2.1 (Nat.le_refl _) (.int .i64 0) (.int .i64 0) (.int .u32 0))
   obtain ⟨p0, p1, p2, p3, p4, p5⟩ := three_cells hx4.out.1.out.1
   go_wp2_with fail
   show bodyPost _ _ _ _ _ (put3 u4 w.heap.size (.int .i64 0) (.int .i64 0) (.int .u32 0))
   obtain ⟨w9, hw9⟩ : ∃ w9, Hid (put3 u4 w.heap.size (.int .i64 0) (.int .i64 0) (.int .u32 0) = w9) := ⟨_, rfl⟩
   rw [hw9.out] at hP hB2 ⊢
   obtain ⟨k0, k1, k2, _, _, _⟩ := hP.out
   refine bodyPost_ret (by simp [results, Tryz.results68, go_sem, k0, k1, k2]; rfl) rfl ?_
   exact ⟨rfl, hB2.out⟩
  ·obtain ⟨e0, e1, e2, e3, e4, e5⟩ := read5_ok l (by rw [hn.out]; omega)
   rw [hm.out] at e0 e1 e2 e3 e4 e5
   rw [hs1.out] at e0 e2 e3 e4 e5
   rw [hs4.out] at e0 e5
   rw [hs5.out] at e0
   rw [hA.out] at e2
   rw [hB1.out] at e3
   rw [hC.out] at e4
   rw [hM.out] at e5
   have hTl : Hid (decide (l.take 8 = ttl) = T) := by rw [← e1]; exact hT
   subst e0
   have hz : (((32 : Nat), (0 : Int)).2 != 0) = false := rfl
   rw [hz]
   have E32 : Hid (¬ l.length < 32) := by show ¬ _; rw [hn.out]; exact h32
   replace e2 := hide e2
   replace e3 := hide e3
   replace e4 := hide e4
   replace e5 := hide e5
   clear hz e1 hT hs1 hs4 hs5 hA hB1 hC hM
   obtain ⟨c0, c1, c2, _, _, _⟩ := three_cells hx4.out.2.1
   obtain ⟨P, hPA⟩ : ∃ P, Hid (sg64 A = P) := ⟨_, rfl⟩
   obtain ⟨R, hRB⟩ : ∃ R, Hid (sg64 B = R) := ⟨_, rfl⟩
   have HNP : Hid (sg64 (gN l) = P) := by rw [← e2.out]; exact hPA
   have HXP : Hid (sg64 (gB l) = R) := by rw [← e3.out]; exact hRB
   have bP := sg64_le A HAb.out
   have bR := sg64_le B HBb.out
   rw [hPA.out] at hx4 c0 bP
   rw [hRB.out] at hx4 c1 bR
   have hCv : Hid ((BitVec.ofNat 32 C).toNat = C) := by show _ = _; rw [BitVec.toNat_ofNat]; exact Nat.mod_eq_of_lt hCb
   cases T with
   | false =>
    have hTf : Hid (l.take 8 ≠ ttl) := by have := hTl.out; simpa [Hid] using this
    obtain rfl : F = (0, 0, 0#32, 0#32, 4) := by
     rw [← hF.out]
     have e : rhE l = 4 := by rw [rhE, if_neg E32.out, if_pos (Or.inl hTf.out)]
     rw [rhF, e]; rfl
    have hP := hide (three_cells (put3_heap hx4.out.1.out.1 (.int .i64 0) (.int .i64 0) (.int .u32 0)))
    have hB2 := hide (put3_below hx4.out.1.out.2.2.2.1 (Nat.le_refl _) (.int .i64 0) (.int .i64 0) (.int .u32 0))
    obtain ⟨p0, p1, p2, p3, p4, p5⟩ := three_cells hx4.out.1.out.1
    go_wp2_with fail
    show bodyPost _ _ _ _ _ (put3 u4 w.heap.size (.int .i64 0) (.int .i64 0) (.int .u32 0))
    obtain ⟨w9, hw9⟩ : ∃ w9, Hid (put3 u4 w.heap.size (.int .i64 0) (.int .i64 0) (.int .u32 0) = w9) := ⟨_, rfl⟩
    rw [hw9.out] at hP hB2 ⊢
    obtain ⟨k0, k1, k2, _, _, _⟩ := hP.out
    refine bodyPost_ret (by simp [results, Tryz.results68, go_sem, k0, k1, k2]; rfl) rfl ?_
    exact ⟨rfl, hB2.out⟩
   | true =>
    have hTt : Hid (l.take 8 = ttl) := by have := hTl.out; simpa [Hid] using this
    have Hmb : Hid (∀ q, Calls Tryz.prog 110 #[.agg #[.int .i64 P, .int .i64 R, .int .u32 (C : Int)]] q fun e w' => e = .returned (.bool (inB P 9223372036854775807 && inB R 9223372036854775807)) ∧ Below q.heap.size q w') := fun q => by
     have := mayBe_any q P R (BitVec.ofNat 32 C)
     rw [hCv.out] at this
     exact this
    cases hmb : inB P 9223372036854775807 && inB R 9223372036854775807 with
    | false =>
     have hbad : l.take 8 ≠ ttl ∨ sg64 (gN l) < 1 ∨ sg64 (gB l) < 1 := by
      rw [HNP.out, HXP.out]
      rw [inB_top P bP.1, inB_top R bR.1, Bool.and_eq_false_iff, decide_eq_false_iff_not, decide_eq_false_iff_not] at hmb
      right; omega
     obtain rfl : F = (0, 0, 0#32, 0#32, 4) := by
      rw [← hF.out]
      have e : rhE l = 4 := by rw [rhE, if_neg E32.out, if_pos hbad]
      rw [rhF, e]; rfl
     replace hmb := hide hmb
     clear hbad
     go_wp2_with fail
     refine (Hmb.out _).mono ?_
     rintro e u5 ⟨rfl, hb5⟩
     rw [hmb.out]
     have hx5 := hide (hx4.out.below hb5)
     clear hb5 hx4 c0 c1 c2
     have hP := hide (three_cells (put3_heap hx5.out.1.out.1 (.int .i64 0) (.int .i64 0) (.int .u32 0)))
     have hB2 := hide (put3_below hx5.out.1.out.2.2.2.1 (Nat.le_refl _) (.int .i64 0) (.int .i64 0) (.int .u32 0))
     obtain ⟨p0, p1, p2, p3, p4, p5⟩ := three_cells hx5.out.1.out.1
     go_wp2_with fail
     show bodyPost _ _ _ _ _ (put3 u5 w.heap.size (.int .i64 0) (.int .i64 0) (.int .u32 0))
     obtain ⟨w9, hw9⟩ : ∃ w9, Hid (put3 u5 w.heap.size (.int .i64 0) (.int .i64 0) (.int .u32 0) = w9) := ⟨_, rfl⟩
     rw [hw9.out] at hP hB2 ⊢
     obtain ⟨k0, k1, k2, _, _, _⟩ := hP.out
     refine bodyPost_ret (by simp [results, Tryz.results68, go_sem, k0, k1, k2]; rfl) rfl ?_
     exact ⟨rfl, hB2.out⟩
    | true =>
     have hgd : 1 ≤ P ∧ 1 ≤ R := by
      rw [inB_top P bP.1, inB_top R bR.1, Bool.and_eq_true, decide_eq_true_eq, decide_eq_true_eq] at hmb
      exact hmb
     have Hgd := hide hgd
     have hnb : Hid (¬ (l.take 8 ≠ ttl ∨ sg64 (gN l) < 1 ∨ sg64 (gB l) < 1)) := by
      show ¬ _
      rw [HNP.out, HXP.out, hTt.out]
      simp; omega
     have hfe : Hid (hfs P.toNat R.toNat (BitVec.ofNat 32 C) = l.take 28) := by
      show _ = _
      rw [← hPA.out, ← hRB.out, sg64_toNat A HAb.out (by rw [hPA.out]; exact hgd.1), sg64_toNat B HBb.out (by rw [hRB.out]; exact hgd.2), e2.out, e3.out]
      exact hfs_take l (by have := E32.out; omega) hTt.out _ (by rw [hCv.out, e4.out])
     have BP := hide bP
     have BR := hide bR
     have Hhf : Hid (∀ q, Calls Tryz.prog 111 #[.agg #[.int .i64 P, .int .i64 R, .int .u32 (C : Int)]] q fun e w' => ∃ v', e = .returned v' ∧ w'.ownsRow q.heap.size 5 1 v' (l.take 28).length (bvals (l.take 28)) ∧ Below q.heap.size q w') := fun q => by
      have := headFields_any q P R (BitVec.ofNat 32 C) Hgd.out.1 BP.out.1 Hgd.out.2 BR.out.1
      rw [hCv.out, hfe.out] at this
      exact this
     replace hmb := hide hmb
     clear hgd bP bR
     go_wp2_with fail
     refine (Hmb.out _).mono ?_
     rintro e u5 ⟨rfl, hb5⟩
     rw [hmb.out]
     have hx5 := hide (hx4.out.below hb5)
     clear hb5 hx4 c0 c1 c2
     obtain ⟨c0, c1, c2, _, _, _⟩ := three_cells hx5.out.2.1
     go_wp2_with fail
     refine (Hhf.out _).mono ?_
     rintro e u6 ⟨v6, rfl, ho6, hb6⟩
     have sv := hide (Sl.of_owns ho6)
     have hx6 := hide (hx5.out.below hb6)
     clear hb6 hx5 c0 c1 c2 ho6
     obtain ⟨S, hS⟩ : ∃ S, Hid (Crc.more 0#32 (l.take 28) = S) := ⟨_, rfl⟩
     go_wp2_with fail
     refine (Crc.sum_any _ _ _ sv.out).mono ?_
     rintro e u7 ⟨rfl, hb7⟩
     rw [hS.out]
     have hx7 := hide (hx6.out.below hb7)
     clear hb7 hx6 sv
     go_wp2_with fail
     refine (Crc.mask_any _ S).mono ?_
     rintro e w0 ⟨rfl, hw⟩
     obtain rfl := hw.symm
     by_cases hk : (Crc.maskOf S).toNat = M
     ·have hmi : (((Crc.maskOf S).toNat : Int) != (M : Int)) = false := by simp; omega
      obtain rfl : F = (P, R, BitVec.ofNat 32 C, S, 0) := by
       rw [← hF.out]
       have e : rhE l = 0 := by rw [rhE, if_neg E32.out, if_neg hnb.out, if_neg (by rw [hS.out, ← e5.out]; simpa using hk)]
       rw [rhF, e, if_pos rfl, HNP.out, HXP.out, hS.out, ← e4.out]
      obtain ⟨c0, c1, c2, _, _, _⟩ := three_cells hx7.out.2.1
      clear hk
      generalize (Crc.maskOf S).toNat = K at *
      have hP := hide (three_cells (put3_heap hx7.out.1.out.1 (.int .i64 P) (.int .i64 R) (.int .u32 (C : Int))))
      have hB2 := hide (put3_below hx7.out.1.out.2.2.2.1 (Nat.le_refl _) (.int .i64 P) (.int .i64 R) (.int .u32 (C : Int)))
      obtain ⟨p0, p1, p2, p3, p4, p5⟩ := three_cells hx7.out.1.out.1
      go_wp2_with fail
      show bodyPost _ _ _ _ _ (put3 u7 w.heap.size (.int .i64 P) (.int .i64 R) (.int .u32 (C : Int)))
      obtain ⟨w9, hw9⟩ : ∃ w9, Hid (put3 u7 w.heap.size (.int .i64 P) (.int .i64 R) (.int .u32 (C : Int)) = w9) := ⟨_, rfl⟩
      rw [hw9.out] at hP hB2 ⊢
      obtain ⟨k0, k1, k2, _, _, _⟩ := hP.out
      refine bodyPost_ret (by simp [results, Tryz.results68, go_sem, k0, k1, k2]; rfl) rfl ?_
      exact ⟨by first | rfl | (simp; omega), hB2.out⟩
     ·have hmi : (((Crc.maskOf S).toNat : Int) != (M : Int)) = true := by simp; omega
      obtain rfl : F = (0, 0, 0#32, 0#32, 5) := by
       rw [← hF.out]
       have e : rhE l = 5 := by rw [rhE, if_neg E32.out, if_neg hnb.out, if_pos (by rw [hS.out, ← e5.out]; simpa using hk)]
       rw [rhF, e]; rfl
      clear hk
      generalize (Crc.maskOf S).toNat = K at *
      have hP := hide (three_cells (put3_heap hx7.out.1.out.1 (.int .i64 0) (.int .i64 0) (.int .u32 0)))
      have hB2 := hide (put3_below hx7.out.1.out.2.2.2.1 (Nat.le_refl _) (.int .i64 0) (.int .i64 0) (.int .u32 0))
      obtain ⟨p0, p1, p2, p3, p4, p5⟩ := three_cells hx7.out.1.out.1
      go_wp2_with fail
      show bodyPost _ _ _ _ _ (put3 u7 w.heap.size (.int .i64 0) (.int .i64 0) (.int .u32 0))
      obtain ⟨w9, hw9⟩ : ∃ w9, Hid (put3 u7 w.heap.size (.int .i64 0) (.int .i64 0) (.int .u32 0) = w9) := ⟨_, rfl⟩
      rw [hw9.out] at hP hB2 ⊢
      obtain ⟨k0, k1, k2, _, _, _⟩ := hP.out
      refine bodyPost_ret (by simp [results, Tryz.results68, go_sem, k0, k1, k2]; rfl) rfl ?_
      exact ⟨rfl, hB2.out⟩
theorem cut2 (a b r : List UInt8) (n m : Nat) (ha : a.length = n) (hb : b.length = m) : ((a ++ (b ++ r)).drop n).take m = b := by
 rw [List.drop_left' ha, List.take_left' hb]
theorem rd_back (seed : Crc.R) (lsn : Nat) (d r : List UInt8) (h1 : 1 ≤ lsn) (h2 : lsn ≤ 9223372036854775806) (hd : d.length ≤ 4096) :
    rdF seed (frm seed lsn d ++ r) = ((lsn : Int), d, 16 + (d.length : Int), fsum seed lsn d, 0) := by
 have e0 : frm seed lsn d ++ r = fx 4 d.length ++ (fx 8 lsn ++ (fmark (fsum seed lsn d) ++ (d ++ r))) := by simp [frm, ffs]
 have n1 : fN (frm seed lsn d ++ r) = d.length := by
  rw [fN, e0, List.take_left' (fx_len 4 _)]
  exact fx_num 4 _ (by simp; omega)
 have n2 : fL (frm seed lsn d ++ r) = lsn := by
  rw [fL, e0, cut2 _ _ _ 4 8 (fx_len _ _) (fx_len _ _)]
  exact fx_num 8 _ (by simp; omega)
 have e1 : frm seed lsn d ++ r = (fx 4 d.length ++ fx 8 lsn) ++ (fmark (fsum seed lsn d) ++ (d ++ r)) := by simp [frm, ffs]
 have n3 : fM (frm seed lsn d ++ r) = (Crc.maskOf (fsum seed lsn d)).toNat := by
  rw [fM, e1, cut2 _ _ _ 12 4 (by simp [fx_len]) (fmark_len _), fmark]
  exact fx_num 4 _ (by have := Crc.lt32 (Crc.maskOf (fsum seed lsn d)); simpa using this)
 have e2 : frm seed lsn d ++ r = (fx 4 d.length ++ (fx 8 lsn ++ fmark (fsum seed lsn d))) ++ (d ++ r) := by simp [frm, ffs]
 have n4 : fD (frm seed lsn d ++ r) = d := by
  rw [fD, n1, e2, cut2 _ _ _ 16 d.length (by simp [fx_len, fmark_len]) rfl]
 have n5 : (frm seed lsn d ++ r).length = 16 + d.length + r.length := by rw [List.length_append, frm_len]
 have e : rdE seed (frm seed lsn d ++ r) = 0 := by
  rw [rdE, n1, n2, n3, n4, n5, if_neg (by omega), if_neg (by omega), if_neg (by omega), if_neg (by omega), if_neg (by simp)]
 rw [rdF, if_pos e, n1, n2, n4]
theorem wr_back {seed : Crc.R} {l : List UInt8} (h : (rdF seed l).2.2.2.2 = 0) :
    rdE seed l = 0 ∧ rdF seed l = ((fL l : Int), fD l, 16 + (fN l : Int), fsum seed (fL l) (fD l), 0) ∧ 16 + fN l ≤ l.length ∧ 1 ≤ fL l ∧ fL l ≤ 9223372036854775806 ∧ (fD l).length = fN l ∧ fN l ≤ 4096 ∧ frm seed (fL l) (fD l) = l.take (16 + fN l) := by
 have e : rdE seed l = 0 := by
  unfold rdF at h
  by_cases e : rdE seed l = 0
  ·exact e
  ·rw [if_neg e] at h; exact h
 have hF : rdF seed l = ((fL l : Int), fD l, 16 + (fN l : Int), fsum seed (fL l) (fD l), 0) := by rw [rdF, if_pos e]
 have e' := e
 unfold rdE at e'
 by_cases a1 : l.length < 16
 ·rw [if_pos a1] at e'; simp at e'
 rw [if_neg a1] at e'
 by_cases a2 : 4096 < fN l
 ·rw [if_pos a2] at e'; simp at e'
 rw [if_neg a2] at e'
 by_cases a3 : fL l < 1 ∨ 9223372036854775806 < fL l
 ·rw [if_pos a3] at e'; simp at e'
 rw [if_neg a3] at e'
 by_cases a4 : l.length - 16 < fN l
 ·rw [if_pos a4] at e'; simp at e'
 rw [if_neg a4] at e'
 by_cases a5 : (Crc.maskOf (fsum seed (fL l) (fD l))).toNat ≠ fM l
 ·rw [if_pos a5] at e'; simp at e'
 have a6 : (Crc.maskOf (fsum seed (fL l) (fD l))).toNat = fM l := by simpa using a5
 have hD : (fD l).length = fN l := by rw [fD]; simp; omega
 refine ⟨e, hF, by omega, by omega, by omega, hD, by omega, ?_⟩
 rw [frm, fmark, a6, hD, ffs, fN, fL, fM, num_fx8 _ 4 (by simp; omega), num_fx8 _ 8 (by simp; omega), num_fx8 _ 4 (by simp; omega)]
 rw [show 16 + num (l.take 4) = 4 + (8 + (4 + num (l.take 4))) by omega, List.take_add, List.take_add, List.take_add]
 simp [List.drop_drop, fD, fN]
theorem wrF_ok {seed : Crc.R} {lsn : Int} {d : List UInt8} (h1 : 1 ≤ lsn) (h2 : lsn ≤ 9223372036854775806) (hd : d.length ≤ 4096) : wrF seed lsn d = (frm seed lsn.toNat d, fsum seed lsn.toNat d, 0) := by
 rw [wrF, if_neg (by simp [inB, h1, h2]), if_neg (by omega)]
theorem rh_back (nm bs : Nat) (seed : Crc.R) (r : List UInt8) (h1 : 1 ≤ nm) (h2 : nm ≤ 9223372036854775807) (h3 : 1 ≤ bs) (h4 : bs ≤ 9223372036854775807) :
    rhF (hed nm bs seed ++ r) = ((nm : Int), (bs : Int), seed, hsum nm bs seed, 0) := by
 have hs := Crc.lt32 seed
 have e0 : hed nm bs seed ++ r = ttl ++ (fx 8 nm ++ (fx 8 bs ++ (fx 4 seed.toNat ++ (fmark (hsum nm bs seed) ++ r)))) := by simp [hed, hfs]
 have t0 : ttl.length = 8 := rfl
 have n0 : (hed nm bs seed ++ r).take 8 = ttl := by rw [e0, List.take_left' t0]
 have n1 : gN (hed nm bs seed ++ r) = nm := by
  rw [gN, e0, cut2 _ _ _ 8 8 t0 (fx_len _ _)]; exact fx_num 8 _ (by simp; omega)
 have e1 : hed nm bs seed ++ r = (ttl ++ fx 8 nm) ++ (fx 8 bs ++ (fx 4 seed.toNat ++ (fmark (hsum nm bs seed) ++ r))) := by simp [hed, hfs]
 have n2 : gB (hed nm bs seed ++ r) = bs := by
  rw [gB, e1, cut2 _ _ _ 16 8 (by simp [fx_len, t0]) (fx_len _ _)]; exact fx_num 8 _ (by simp; omega)
 have e2 : hed nm bs seed ++ r = (ttl ++ (fx 8 nm ++ fx 8 bs)) ++ (fx 4 seed.toNat ++ (fmark (hsum nm bs seed) ++ r)) := by simp [hed, hfs]
 have n3 : gS (hed nm bs seed ++ r) = seed.toNat := by
  rw [gS, e2, cut2 _ _ _ 24 4 (by simp [fx_len, t0]) (fx_len _ _)]; exact fx_num 4 _ (by simpa using hs)
 have e3 : hed nm bs seed ++ r = hfs nm bs seed ++ (fmark (hsum nm bs seed) ++ r) := by simp [hed]
 have n4 : gM (hed nm bs seed ++ r) = (Crc.maskOf (hsum nm bs seed)).toNat := by
  rw [gM, e3, cut2 _ _ _ 28 4 (hfs_len _ _ _) (fmark_len _), fmark]
  exact fx_num 4 _ (by have := Crc.lt32 (Crc.maskOf (hsum nm bs seed)); simpa using this)
 have n5 : (hed nm bs seed ++ r).take 28 = hfs nm bs seed := by rw [e3, List.take_left' (hfs_len _ _ _)]
 have n6 : (hed nm bs seed ++ r).length = 32 + r.length := by rw [List.length_append, hed_len]
 have s1 : sg64 nm = (nm : Int) := by rw [sg64, if_pos (by omega)]
 have s2 : sg64 bs = (bs : Int) := by rw [sg64, if_pos (by omega)]
 have e : rhE (hed nm bs seed ++ r) = 0 := by
  rw [rhE, n0, n1, n2, n4, n5, n6, s1, s2, if_neg (by omega), if_neg (by simp; omega), if_neg (by simp [hsum])]
 rw [rhF, if_pos e, n1, n2, n3, n5, s1, s2]
 simp [hsum]
theorem whF_ok {nm bs : Int} {seed : Crc.R} (h1 : 1 ≤ nm) (h2 : 1 ≤ bs) : whF nm bs seed = (hed nm.toNat bs.toNat seed, hsum nm.toNat bs.toNat seed, 0) := by
 rw [whF, if_neg (by omega)]
end Go.Proofs.YtpflaglfnkmjiaaGreat
namespace Go.Proofs.YtpflaglfnkmjiaaGreat.Sg
open Go.RowKit Go.Maps Go.Sort Go.Shelf Go.Proofs.YtpflaglfnkmjiaaGreat.Nm Go.Proofs.YtpflaglfnkmjiaaGreat.Dk
def Has (S : DS) (file : ByteArray) (B : List UInt8) : Prop := ∃ p, S.find file = (some p, 0) ∧ (S.F p).by_ = B
theorem Has.read {S : DS} {file : ByteArray} {B : List UInt8} (h : Has S file B) (o n : Nat) (hn : o + n ≤ B.length) : S.read file (o : Int) (n : Int) = ((B.drop o).take n, 0) := by
 obtain ⟨p, e, hB⟩ := h
 unfold DS.read
 rw [e]
 dsimp only
 rw [hB, if_pos (by omega)]
 simp
theorem frm_front (seed : Crc.R) (lsn : Nat) (d r : List UInt8) : (frm seed lsn d ++ r).take 4 = fx 4 d.length := by
 have : frm seed lsn d ++ r = fx 4 d.length ++ (fx 8 lsn ++ (fmark (fsum seed lsn d) ++ (d ++ r))) := by simp [frm, ffs]
 rw [this, List.take_left' (fx_len 4 _)]
theorem rf_at {s : SG} {S : DS} {pre post d : List UInt8} {lsn : Nat} {seed : Crc.R} (h : Has S s.file (pre ++ (frm seed lsn d ++ post))) (hs : s.size = ((pre ++ (frm seed lsn d ++ post)).length : Int)) (h1 : 1 ≤ lsn) (h2 : lsn ≤ 9223372036854775806) (hd : d.length ≤ 4096) :
    rfF s S (lsn : Int) (pre.length : Int) seed = (((lsn : Int), d), 16 + (d.length : Int), fsum seed lsn d, 0) := by
 have hl := frm_len seed lsn d
 have hB : (pre ++ (frm seed lsn d ++ post)).length = pre.length + (16 + d.length + post.length) := by simp [hl]
 have hm : min 16 (s.size - (pre.length : Int)) = ((16 : Nat) : Int) := by rw [hs, hB]; omega
 have hdr : (pre ++ (frm seed lsn d ++ post)).drop pre.length = frm seed lsn d ++ post := by simp
 have r1 := h.read pre.length 16 (by rw [hB]; omega)
 rw [hdr] at r1
 have hst : stv ((frm seed lsn d ++ post).take 16) 4 (0, 0) = d.length := by
  unfold stv
  rw [if_pos ⟨rfl, by simp [hl]; omega⟩]
  simp only [List.drop_zero, List.take_take]
  rw [show min 4 16 = 4 by rfl, frm_front, fx_num 4 _ (Nat.lt_of_le_of_lt hd (by decide))]
 have hsz : szF ((d.length : Nat) : Int) = ((16 + d.length : Nat) : Int) := by unfold szF; rw [if_pos (by omega)]; omega
 have r2 := h.read pre.length (16 + d.length) (by rw [hB]; omega)
 rw [hdr, List.take_left' hl] at r2
 have hfb : fbF s S (pre.length : Int) = (frm seed lsn d, 0) := by
  unfold fbF
  rw [hm, r1]
  simp only
  rw [if_neg (by simp), hst, hsz, if_neg (by rw [hs, hB]; omega), r2]
 have hrd := rd_back seed lsn d [] h1 h2 hd
 rw [List.append_nil] at hrd
 unfold rfF
 rw [hfb]
 simp only
 rw [if_neg (by simp), hrd]
 simp only
 rw [if_neg (by simp)]
theorem wk_step {seed : Crc.R} {n : Int} {ls : List (List UInt8)} {i : Nat} (hi : i < ls.length) (h1 : 1 ≤ n) (h2 : n + (ls.length : Int) ≤ 9223372036854775807) (hd : ∀ d ∈ ls, d.length ≤ 4096) :
    wk seed n ls (i + 1) = ((wk seed n ls i).1 ++ frm (wk seed n ls i).2.2 (n + (i : Int)).toNat (ls.getD i []), (wk seed n ls i).2.1 ++ [((16 + (ls.getD i []).length : Int), ((fsum (wk seed n ls i).2.2 (n + (i : Int)).toNat (ls.getD i [])).toNat : Int))], fsum (wk seed n ls i).2.2 (n + (i : Int)).toNat (ls.getD i [])) := by
 have hm : ls.getD i [] ∈ ls := by simp [List.getD, hi]
 rw [wk, wrF_ok (by omega) (by omega) (hd _ hm)]
 simp only [frm_len]
 congr 3
theorem wk_prefix (seed : Crc.R) (n : Int) (ls ls' : List (List UInt8)) : ∀ i, i ≤ ls.length → wk seed n (ls ++ ls') i = wk seed n ls i
 | 0, _ => rfl
 | i + 1, hi => by
  have e : (ls ++ ls').getD i [] = ls.getD i [] := by simp [List.getD, List.getElem?_append_left (show i < ls.length by omega)]
  rw [wk, wk, wk_prefix seed n ls ls' i (by omega), e]
theorem wk_split {seed : Crc.R} {n : Int} {ls : List (List UInt8)} (h1 : 1 ≤ n) (h2 : n + (ls.length : Int) ≤ 9223372036854775807) (hd : ∀ d ∈ ls, d.length ≤ 4096) (i : Nat) : ∀ j, i + j ≤ ls.length → ∃ post, (wk seed n ls (i + j)).1 = (wk seed n ls i).1 ++ post
 | 0, _ => ⟨[], by simp⟩
 | j + 1, hj => by
  obtain ⟨post, hp⟩ := wk_split h1 h2 hd i j (by omega)
  have := wk_step (seed := seed) (i := i + j) (show i + j < ls.length by omega) h1 h2 hd
  refine ⟨post ++ frm (wk seed n ls (i + j)).2.2 (n + ((i + j : Nat) : Int)).toNat (ls.getD (i + j) []), ?_⟩
  rw [← Nat.add_assoc, this, hp]
  simp
theorem wk_at {seed : Crc.R} {n : Int} {ls : List (List UInt8)} (h1 : 1 ≤ n) (h2 : n + (ls.length : Int) ≤ 9223372036854775807) (hd : ∀ d ∈ ls, d.length ≤ 4096) {i : Nat} (hi : i < ls.length) : ∃ post, (wk seed n ls ls.length).1 = (wk seed n ls i).1 ++ (frm (wk seed n ls i).2.2 (n + (i : Int)).toNat (ls.getD i []) ++ post) := by
 obtain ⟨post, hp⟩ := wk_split (seed := seed) h1 h2 hd (i + 1) (ls.length - (i + 1)) (by omega)
 rw [show i + 1 + (ls.length - (i + 1)) = ls.length by omega] at hp
 refine ⟨post, ?_⟩
 rw [hp, wk_step hi h1 h2 hd]
 simp
theorem rl_at {s : SG} {S : DS} {hd : List UInt8} {sd0 : Crc.R} {ls : List (List UInt8)} (h : Has S s.file (hd ++ (wk sd0 s.base ls ls.length).1)) (hs : s.size = ((hd ++ (wk sd0 s.base ls ls.length).1).length : Int)) (h1 : 1 ≤ s.base) (h2 : s.base + (ls.length : Int) ≤ 9223372036854775807) (hdl : ∀ d ∈ ls, d.length ≤ 4096) : ∀ k i, i + k < ls.length →
    rlF s S k (s.base + (i : Int)) ((hd.length : Int) + ((wk sd0 s.base ls i).1.length : Int)) (wk sd0 s.base ls i).2.2 = ((s.base + ((i + k : Nat) : Int), ls.getD (i + k) []), 0) := by
 have step : ∀ i, i < ls.length → rfF s S (s.base + (i : Int)) ((hd.length : Int) + ((wk sd0 s.base ls i).1.length : Int)) (wk sd0 s.base ls i).2.2 = ((s.base + (i : Int), ls.getD i []), 16 + ((ls.getD i []).length : Int), fsum (wk sd0 s.base ls i).2.2 (s.base + (i : Int)).toNat (ls.getD i []), 0) := fun i hi => by
  obtain ⟨post, hp⟩ := wk_at (seed := sd0) h1 h2 hdl hi
  have hm : ls.getD i [] ∈ ls := by simp [List.getD, hi]
  rw [hp, ← List.append_assoc] at h hs
  have := rf_at (pre := hd ++ (wk sd0 s.base ls i).1) (lsn := (s.base + (i : Int)).toNat) h hs (by omega) (by omega) (hdl _ hm)
  rw [List.length_append, show (((s.base + (i : Int)).toNat : Nat) : Int) = s.base + (i : Int) by omega] at this
  rw [show ((hd.length : Int) + ((wk sd0 s.base ls i).1.length : Int)) = ((hd.length + (wk sd0 s.base ls i).1.length : Nat) : Int) by omega]
  exact this
 intro k
 induction k with
 | zero =>
  intro i hi
  rw [rlF, step i (by omega)]
  simp
 | succ k ih =>
  intro i hi
  rw [rlF, step i (by omega)]
  simp only
  rw [if_neg (by simp)]
  have hw := wk_step (seed := sd0) (i := i) (show i < ls.length by omega) h1 h2 hdl
  have := ih (i + 1) (by omega)
  rw [hw] at this
  simp only [List.length_append, frm_len] at this
  rw [show s.base + (i : Int) + 1 = s.base + ((i + 1 : Nat) : Int) by omega, show ((hd.length : Int) + ((wk sd0 s.base ls i).1.length : Int) + (16 + ((ls.getD i []).length : Int))) = ((hd.length : Int) + (((wk sd0 s.base ls i).1.length + (16 + (ls.getD i []).length) : Nat) : Int)) by omega, this]
  rw [show i + 1 + k = i + (k + 1) by omega]
theorem sget_sins_ne (n f m : Int) (h : m ≠ n) : ∀ l : Sr, sget (sins (n, f) l) m = sget l m
 | [] => by
  have : (n == m) = false := by simpa using fun c => h c.symm
  simp [sins, sget, this]
 | y :: r => by
  have h1 : (n == m) = false := by simpa using fun c => h c.symm
  have ih := sget_sins_ne n f m h r
  simp only [sins]
  split
  ·simp only [sget, List.find?_cons, h1]
  ·simp only [sget, List.find?_cons] at ih ⊢
   cases y.1 == m
   ·exact ih
   ·rfl
theorem sget_sdel_ne (n m : Int) (h : m ≠ n) : ∀ l : Sr, sget (sdel l n) m = sget l m
 | [] => rfl
 | y :: r => by
  have ih := sget_sdel_ne n m h r
  unfold sdel at ih ⊢
  by_cases hy : y.1 = n
  ·have h1 : (y.1 == n) = true := by simpa using hy
   have h2 : (y.1 == m) = false := by simpa [hy] using fun c => h c.symm
   rw [List.filter_cons_of_neg (by simp [hy])]
   rw [ih]
   simp only [sget, List.find?_cons, h2]
  ·rw [List.filter_cons_of_pos (by simpa using hy)]
   simp only [sget, List.find?_cons] at ih ⊢
   cases y.1 == m
   ·exact ih
   ·rfl
theorem sget_sput_ne (l : Sr) {n f m : Int} (h : m ≠ n) : sget (sput l n f) m = sget l m := by
 unfold sput
 rw [sget_sins_ne n f m h, sget_sdel_ne n m h]
theorem find_some {l : List (Int × Int)} {n : Int} {p : Int × Int} (hp : p ∈ l) (h : p.1 ≤ n) : ∃ e, e ∈ l ∧ e.1 ≤ n ∧ Ix.findF l n = (e, true) := by
 have hm : p ∈ l.filter fun e => decide (e.1 ≤ n) := by simp [hp, h]
 unfold Ix.findF
 cases hq : (l.filter fun e => decide (e.1 ≤ n)).getLast? with
 | none => rw [List.getLast?_eq_none_iff] at hq; rw [hq] at hm; simp at hm
 | some e =>
  have := List.mem_of_getLast? hq
  simp at this
  exact ⟨e, this.1, this.2, rfl⟩
theorem find_snoc (l : List (Int × Int)) (n o : Int) : Ix.findF (l ++ [(n, o)]) n = ((n, o), true) := by
 unfold Ix.findF
 rw [List.filter_append]
 simp
structure Coh (s : SG) (sd0 : Crc.R) (ds : List (List UInt8)) : Prop where
 ok : SOk s
 b1 : 1 ≤ s.base
 n : s.next = s.base + (ds.length : Int)
 z : s.size = 32 + ((wk sd0 s.base ds ds.length).1.length : Int)
 e : s.seed = ((wk sd0 s.base ds ds.length).2.2.toNat : Int)
 d : ∀ d ∈ ds, d.length ≤ 4096
 x : ∀ p ∈ s.x.l, ∃ i, i < ds.length ∧ p = (s.base + (i : Int), 32 + ((wk sd0 s.base ds i).1.length : Int)) ∧ sget s.sd p.1 = some ((wk sd0 s.base ds i).2.2.toNat : Int)
 f : ds ≠ [] → (s.base, (32 : Int)) ∈ s.x.l
 f0 : ds = [] → s.x.l = []
 la : ds ≠ [] → s.x.la.1 = s.next - 1 ∧ s.x.la.2 < s.size
theorem newSG_coh (b : Nat) (file : ByteArray) (nm bs : Int) (seed sum : Crc.R) (h1 : 1 ≤ bs) (h2 : bs ≤ 9223372036854775807) : Coh (newSG b file nm bs seed sum) sum [] :=
 ⟨newSG_ok b file nm bs seed sum h1 h2, h1, by simp [newSG], rfl, rfl, fun d hd => by simp at hd, fun p hp => by simp [newSG] at hp, fun h => absurd rfl h, fun _ => rfl, fun h => absurd rfl h⟩
theorem Coh.next2 {s : SG} {sd0 : Crc.R} {ds : List (List UInt8)} (h : Coh s sd0 ds) : s.base + (ds.length : Int) ≤ 9223372036854775807 := by have := h.ok.n2; have := h.n; omega
theorem Coh.add {s : SG} {sd0 : Crc.R} {ds : List (List UInt8)} (h : Coh s sd0 ds) : ∃ l, (Ix.addF s.x s.next s.size).2 = ⟨s.x.st, l, (s.next, s.size)⟩ ∧ ((ds ≠ [] ∧ l = s.x.l) ∨ l = s.x.l ++ [(s.next, s.size)]) := by
 have a1 := h.ok.n1
 have a2 := h.ok.z1
 have a3 := h.ok.z2
 unfold Ix.addF
 rw [if_neg (by omega)]
 by_cases hd : ds = []
 ·have e := h.f0 hd
  rw [if_neg (by rw [e]; simp), if_pos (.inl e)]
  exact ⟨_, rfl, .inr rfl⟩
 ·obtain ⟨b1, b2⟩ := h.la hd
  rw [if_neg (by rintro ⟨_, c⟩; exact c ⟨by omega, b2⟩)]
  split
  ·exact ⟨_, rfl, .inr rfl⟩
  ·exact ⟨_, rfl, .inl ⟨hd, rfl⟩⟩
theorem Coh.grow {s : SG} {sd0 : Crc.R} {ds : List (List UInt8)} (h : Coh s sd0 ds) {d : List UInt8} {seed : Crc.R} (hs : s.seed = (seed.toNat : Int)) (hd : d.length ≤ 4096) (hn : s.next ≤ 9223372036854775806) (hz : s.size + 4112 ≤ 2147483647) (hl : s.sd.length + 1 ≤ 1000000000) :
    Coh (s.grown (16 + (d.length : Int)) ((fsum seed s.next.toNat d).toNat : Int)) sd0 (ds ++ [d]) := by
 have hds : ∀ d' ∈ ds ++ [d], d'.length ≤ 4096 := fun d' hd' => by
  rw [List.mem_append] at hd'
  rcases hd' with c | c
  ·exact h.d _ c
  ·simp at c; rw [c]; exact hd
 have hL : (ds ++ [d]).length = ds.length + 1 := by simp
 have hn0 := h.n
 have h2 : s.base + ((ds ++ [d]).length : Int) ≤ 9223372036854775807 := by rw [hL]; omega
 have hse : seed = (wk sd0 s.base ds ds.length).2.2 := by
  apply BitVec.eq_of_toNat_eq
  have := h.e
  omega
 have hgd : (ds ++ [d]).getD ds.length [] = d := by simp [List.getD]
 have hw := wk_step (seed := sd0) (i := ds.length) (ls := ds ++ [d]) (by rw [hL]; omega) h.b1 h2 hds
 rw [wk_prefix sd0 s.base ds [d] ds.length (Nat.le_refl _), hgd, ← hse, ← hn0] at hw
 have hok : SOk (s.grown (16 + (d.length : Int)) ((fsum seed s.next.toNat d).toNat : Int)) := by
  have q := (fsum seed s.next.toNat d).isLt
  have := (gk_ok h.ok [((16 + (d.length : Int)), ((fsum seed s.next.toNat d).toNat : Int))] (fun f hf => by simp at hf; rw [hf]; exact ⟨by show 0 ≤ 16 + (d.length : Int); omega, by show 16 + (d.length : Int) ≤ 4112; omega⟩) (fun f hf => by simp at hf; rw [hf]; exact ⟨by show (0 : Int) ≤ ((fsum seed s.next.toNat d).toNat : Int); omega, by show ((fsum seed s.next.toNat d).toNat : Int) < 4294967296; omega⟩) (by simp; omega) (by simp; omega) (by simpa using hl) 1 (by simp)).1
  exact this
 obtain ⟨l, hl1, hl2⟩ := h.add
 have hx : (s.grown (16 + (d.length : Int)) ((fsum seed s.next.toNat d).toNat : Int)).x = ⟨s.x.st, l, (s.next, s.size)⟩ := hl1
 have hsd : (s.grown (16 + (d.length : Int)) ((fsum seed s.next.toNat d).toNat : Int)).sd = if (Ix.findF l s.next).1.1 = s.next then sput s.sd s.next s.seed else s.sd := by
  show (if (Ix.findF (Ix.addF s.x s.next s.size).2.l s.next).1.1 = s.next then sput s.sd s.next s.seed else s.sd) = _
  rw [hl1]
 have old : ∀ p ∈ s.x.l, p.1 ≠ s.next ∧ ∃ i, i < (ds ++ [d]).length ∧ p = (s.base + (i : Int), 32 + ((wk sd0 s.base (ds ++ [d]) i).1.length : Int)) ∧ sget s.sd p.1 = some ((wk sd0 s.base (ds ++ [d]) i).2.2.toNat : Int) := fun p hp => by
  obtain ⟨i, hi, e1, e2⟩ := h.x p hp
  refine ⟨by rw [e1]; show s.base + (i : Int) ≠ _; omega, i, by rw [hL]; omega, ?_, ?_⟩
  ·rw [wk_prefix sd0 s.base ds [d] i (by omega)]; exact e1
  ·rw [wk_prefix sd0 s.base ds [d] i (by omega)]; exact e2
 refine ⟨hok, h.b1, ?_, ?_, ?_, hds, ?_, ?_, fun c => by simp at c, fun _ => ?_⟩
 ·show s.next + 1 = s.base + _; rw [hL]; omega
 ·show s.size + (16 + (d.length : Int)) = 32 + ((wk sd0 s.base (ds ++ [d]) (ds ++ [d]).length).1.length : Int)
  rw [hL, hw]
  have := h.z
  simp only [List.length_append, frm_len]
  omega
 ·show ((fsum seed s.next.toNat d).toNat : Int) = ((wk sd0 s.base (ds ++ [d]) (ds ++ [d]).length).2.2.toNat : Int)
  rw [hL, hw]
 ·intro p hp
  rw [hx] at hp
  rw [hsd]
  show ∃ i, i < (ds ++ [d]).length ∧ p = (s.base + (i : Int), 32 + ((wk sd0 s.base (ds ++ [d]) i).1.length : Int)) ∧ _
  rcases hl2 with ⟨hne, rfl⟩ | rfl
  ·obtain ⟨o1, o2⟩ := old p hp
   have hb := h.f hne
   obtain ⟨e, e1, e2, e3⟩ := find_some hb (show s.base ≤ s.next by omega)
   rw [if_neg (by rw [e3]; exact (old e e1).1)]
   exact o2
  ·rw [find_snoc, if_pos rfl]
   rw [List.mem_append] at hp
   rcases hp with hp | hp
   ·obtain ⟨o1, i, i1, i2, i3⟩ := old p hp
    exact ⟨i, i1, i2, by rw [sget_sput_ne _ o1]; exact i3⟩
   ·simp at hp
    subst hp
    refine ⟨ds.length, by rw [hL]; omega, ?_, ?_⟩
    ·rw [wk_prefix sd0 s.base ds [d] ds.length (Nat.le_refl _), hn0, h.z]
    ·show sget (sput s.sd s.next s.seed) s.next = some ((wk sd0 s.base (ds ++ [d]) ds.length).2.2.toNat : Int)
     rw [wk_prefix sd0 s.base ds [d] ds.length (Nat.le_refl _), sget_sput, h.e]
 ·intro _
  rw [hx]
  show (s.base, (32 : Int)) ∈ l
  by_cases hne : ds = []
  ·rcases hl2 with ⟨c, _⟩ | rfl
   ·exact absurd hne c
   ·have e1 : s.next = s.base := by rw [hn0, hne]; simp
    have e2 : s.size = 32 := by rw [h.z, hne]; simp [wk]
    rw [e1, e2]; simp
  ·have := h.f hne
   rcases hl2 with ⟨_, rfl⟩ | rfl
   ·exact this
   ·simp [this]
 ·rw [hx]
  refine ⟨?_, ?_⟩
  ·show s.next = s.next + 1 - 1; omega
  ·show s.size < s.size + (16 + (d.length : Int)); omega
theorem wk_shift {seed : Crc.R} {n : Int} (ds ls : List (List UInt8)) : ∀ i, wk (wk seed n ds ds.length).2.2 (n + (ds.length : Int)) ls i = ((wk seed n (ds ++ ls) (ds.length + i)).1.drop (wk seed n ds ds.length).1.length, (wk seed n (ds ++ ls) (ds.length + i)).2.1.drop ds.length, (wk seed n (ds ++ ls) (ds.length + i)).2.2) ∧ (wk seed n (ds ++ ls) (ds.length + i)).1 = (wk seed n ds ds.length).1 ++ (wk (wk seed n ds ds.length).2.2 (n + (ds.length : Int)) ls i).1
 | 0 => by
  rw [Nat.add_zero, wk_prefix seed n ds ls ds.length (Nat.le_refl _)]
  have := (wk_len seed n ds ds.length).2
  simp [wk, this]
 | i + 1 => by
  obtain ⟨e1, e2⟩ := wk_shift (seed := seed) (n := n) ds ls i
  have g : (ds ++ ls).getD (ds.length + i) [] = ls.getD i [] := by simp [List.getD, List.getElem?_append_right]
  have l1 := (wk_len seed n (ds ++ ls) (ds.length + i)).2
  have k : (wk (wk seed n ds ds.length).2.2 (n + (ds.length : Int)) ls i).2.2 = (wk seed n (ds ++ ls) (ds.length + i)).2.2 := by rw [e1]
  have k2 : (wk (wk seed n ds ds.length).2.2 (n + (ds.length : Int)) ls i).2.1 = (wk seed n (ds ++ ls) (ds.length + i)).2.1.drop ds.length := by rw [e1]
  have a : n + (ds.length : Int) + (i : Int) = n + ((ds.length + i : Nat) : Int) := by omega
  rw [← Nat.add_assoc, wk, wk, g, k, k2, a]
  refine ⟨?_, ?_⟩
  ·rw [e2]
   simp only [List.append_assoc, List.drop_left']
   congr 2
   rw [List.drop_append_of_le_length (by omega)]
  ·simp only
   rw [e2]
   simp
theorem wk_fsat {seed : Crc.R} {n : Int} {ls : List (List UInt8)} (h1 : 1 ≤ n) (h2 : n + (ls.length : Int) ≤ 9223372036854775807) (hd : ∀ d ∈ ls, d.length ≤ 4096) {i : Nat} : ∀ m, i < m → m ≤ ls.length → (wk seed n ls m).2.1.getD i (0, 0) = ((16 + (ls.getD i []).length : Int), ((fsum (wk seed n ls i).2.2 (n + (i : Int)).toNat (ls.getD i [])).toNat : Int))
 | 0, h, _ => by omega
 | m + 1, h, hm => by
  have l1 := (wk_len seed n ls m).2
  rw [wk_step (by omega) h1 h2 hd]
  by_cases e : i = m
  ·subst e
   simp [List.getD, l1]
  ·have := wk_fsat (seed := seed) h1 h2 hd (i := i) m (by omega) (by omega)
   rw [← this]
   simp [List.getD, List.getElem?_append_left (show i < (wk seed n ls m).2.1.length by omega)]
theorem Coh.puts {s : SG} {sd0 : Crc.R} {ds : List (List UInt8)} (h : Coh s sd0 ds) {seed : Crc.R} (hs : s.seed = (seed.toNat : Int)) (ls : List (List UInt8)) (hd : ∀ d ∈ ls, d.length ≤ 4096) (hn : s.next + (ls.length : Int) ≤ 9223372036854775807) (hz : s.size + (ls.length : Int) * 4112 ≤ 2147483647) (hl : s.sd.length + ls.length ≤ 1000000000) : ∀ i, i ≤ ls.length →
    Coh (gk s (wk seed s.next ls ls.length).2.1 i) sd0 (ds ++ ls.take i) ∧ (gk s (wk seed s.next ls ls.length).2.1 i).seed = ((wk seed s.next ls i).2.2.toNat : Int)
 | 0, _ => ⟨by simpa [gk] using h, hs⟩
 | i + 1, hi => by
  obtain ⟨c1, c2⟩ := h.puts hs ls hd hn hz hl i (by omega)
  have hf := wk_fs seed s.next ls ls.length
  have hlen := (wk_len seed s.next ls ls.length).2
  obtain ⟨_, _, _, g4, _, _, g7⟩ := gk_b s (wk seed s.next ls ls.length).2.1 i
  have gz := (gk_size s (wk seed s.next ls ls.length).2.1 (fun f h => (hf f h).1) i).2
  have gl := (gk_ok h.ok (wk seed s.next ls ls.length).2.1 (fun f h => (hf f h).1) (fun f h => (hf f h).2) (by rw [hlen]; omega) (by rw [hlen]; omega) (by rw [hlen]; omega) i (by omega)).2
  have hm : ls.getD i [] ∈ ls := by simp [List.getD, show i < ls.length by omega]
  have hw := wk_step (seed := seed) (i := i) (show i < ls.length by omega) h.ok.n1 hn hd
  have e1 := wk_fsat (seed := seed) h.ok.n1 hn hd (i := i) ls.length (by omega) (Nat.le_refl _)
  have hi4 : ((i : Int) + 1) * 4112 ≤ (ls.length : Int) * 4112 := by omega
  have q := c1.grow c2 (hd _ hm) (by omega) (by omega) (by omega)
  rw [g7] at q
  have e2 : gk s (wk seed s.next ls ls.length).2.1 (i + 1) = (gk s (wk seed s.next ls ls.length).2.1 i).grown (16 + ((ls.getD i []).length : Int)) ((fsum (wk seed s.next ls i).2.2 (s.next + (i : Int)).toNat (ls.getD i [])).toNat : Int) := by
   rw [gk, e1]
  have e3 : ds ++ ls.take (i + 1) = (ds ++ ls.take i) ++ [ls.getD i []] := by
   have hii : i < ls.length := by omega
   rw [List.take_add_one]
   simp [List.getD, hii]
  rw [e2, e3]
  refine ⟨q, ?_⟩
  rw [hw]
  rfl
theorem Coh.read {s : SG} {sd0 : Crc.R} {ds : List (List UInt8)} (h : Coh s sd0 ds) {S : DS} {hd : List UInt8} (hh : hd.length = 32) (H : Has S s.file (hd ++ (wk sd0 s.base ds ds.length).1)) {lsn : Int} (h1 : s.base ≤ lsn) (h2 : lsn < s.next) :
    rdS s S lsn = ((lsn, ds.getD (lsn - s.base).toNat []), 0) := by
 have hn := h.n
 have hne : ds ≠ [] := fun c => by rw [c] at hn; simp at hn; omega
 obtain ⟨e, e1, e2, e3⟩ := find_some (h.f hne) h1
 obtain ⟨i, i1, i2, i3⟩ := h.x e e1
 have hsz : s.size = ((hd ++ (wk sd0 s.base ds ds.length).1).length : Int) := by rw [List.length_append, hh, h.z]; simp
 have hsd : seedAt s e.1 = (wk sd0 s.base ds i).2.2 := by
  unfold seedAt
  rw [i3]
  simp
 have hi : e.1 = s.base + (i : Int) := by rw [i2]
 have ho : e.2 = (hd.length : Int) + ((wk sd0 s.base ds i).1.length : Int) := by rw [i2, hh]; rfl
 unfold rdS
 rw [if_neg (by omega), e3]
 simp only
 rw [hsd, ho, hi]
 have := rl_at H hsz h.b1 h.next2 h.d (lsn - (s.base + (i : Int))).toNat i (by omega)
 rw [this]
 have q : i + (lsn - (s.base + (i : Int))).toNat = (lsn - s.base).toNat := by omega
 rw [q, show s.base + (((lsn - s.base).toNat : Nat) : Int) = lsn by omega]
open Ix (wp_region_T wpAnyT wpAnyT_take wpAnyT_one wpAnyT_done vac)
def put8 (w : World) (g : Nat) (a0 a1 a2 a3 a4 a5 a6 a7 : Value) : World := ((((((((w.setCell ⟨g, 0, none⟩ a0).setCell ⟨g, 1, none⟩ a1).setCell ⟨g, 2, none⟩ a2).setCell ⟨g, 3, none⟩ a3).setCell ⟨g, 4, none⟩ a4).setCell ⟨g, 5, none⟩ a5).setCell ⟨g, 6, none⟩ a6).setCell ⟨g, 7, none⟩ a7)
theorem put8_heap {w : World} {g : Nat} {z0 z1 z2 z3 z4 z5 z6 z7 : Value} {T : TypeId} (h : w.heap[g]? = some (.cells #[z0, z1, z2, z3, z4, z5, z6, z7] T (0, 0))) (a0 a1 a2 a3 a4 a5 a6 a7 : Value) : (put8 w g a0 a1 a2 a3 a4 a5 a6 a7).heap[g]? = some (.cells #[a0, a1, a2, a3, a4, a5, a6, a7] T (0, 0)) := by
 unfold put8
 have e0 : (w.setCell ⟨g, 0, none⟩ a0).heap[g]? = some (.cells #[a0, z1, z2, z3, z4, z5, z6, z7] T (0, 0)) := by rw [heap_setCell_same _ g 0 _ _ _ h]; rfl
 have e1 : ((w.setCell ⟨g, 0, none⟩ a0).setCell ⟨g, 1, none⟩ a1).heap[g]? = some (.cells #[a0, a1, z2, z3, z4, z5, z6, z7] T (0, 0)) := by rw [heap_setCell_same _ g 1 _ _ _ e0]; rfl
 have e2 : (((w.setCell ⟨g, 0, none⟩ a0).setCell ⟨g, 1, none⟩ a1).setCell ⟨g, 2, none⟩ a2).heap[g]? = some (.cells #[a0, a1, a2, z3, z4, z5, z6, z7] T (0, 0)) := by rw [heap_setCell_same _ g 2 _ _ _ e1]; rfl
 have e3 : ((((w.setCell ⟨g, 0, none⟩ a0).setCell ⟨g, 1, none⟩ a1).setCell ⟨g, 2, none⟩ a2).setCell ⟨g, 3, none⟩ a3).heap[g]? = some (.cells #[a0, a1, a2, a3, z4, z5, z6, z7] T (0, 0)) := by rw [heap_setCell_same _ g 3 _ _ _ e2]; rfl
 have e4 : (((((w.setCell ⟨g, 0, none⟩ a0).setCell ⟨g, 1, none⟩ a1).setCell ⟨g, 2, none⟩ a2).setCell ⟨g, 3, none⟩ a3).setCell ⟨g, 4, none⟩ a4).heap[g]? = some (.cells #[a0, a1, a2, a3, a4, z5, z6, z7] T (0, 0)) := by rw [heap_setCell_same _ g 4 _ _ _ e3]; rfl
 have e5 : ((((((w.setCell ⟨g, 0, none⟩ a0).setCell ⟨g, 1, none⟩ a1).setCell ⟨g, 2, none⟩ a2).setCell ⟨g, 3, none⟩ a3).setCell ⟨g, 4, none⟩ a4).setCell ⟨g, 5, none⟩ a5).heap[g]? = some (.cells #[a0, a1, a2, a3, a4, a5, z6, z7] T (0, 0)) := by rw [heap_setCell_same _ g 5 _ _ _ e4]; rfl
 have e6 : (((((((w.setCell ⟨g, 0, none⟩ a0).setCell ⟨g, 1, none⟩ a1).setCell ⟨g, 2, none⟩ a2).setCell ⟨g, 3, none⟩ a3).setCell ⟨g, 4, none⟩ a4).setCell ⟨g, 5, none⟩ a5).setCell ⟨g, 6, none⟩ a6).heap[g]? = some (.cells #[a0, a1, a2, a3, a4, a5, a6, z7] T (0, 0)) := by rw [heap_setCell_same _ g 6 _ _ _ e5]; rfl
 have e7 : ((((((((w.setCell ⟨g, 0, none⟩ a0).setCell ⟨g, 1, none⟩ a1).setCell ⟨g, 2, none⟩ a2).setCell ⟨g, 3, none⟩ a3).setCell ⟨g, 4, none⟩ a4).setCell ⟨g, 5, none⟩ a5).setCell ⟨g, 6, none⟩ a6).setCell ⟨g, 7, none⟩ a7).heap[g]? = some (.cells #[a0, a1, a2, a3, a4, a5, a6, a7] T (0, 0)) := by rw [heap_setCell_same _ g 7 _ _ _ e6]; rfl
 exact e7
theorem put8_below {B : Nat} {u w : World} (h : Below B u w) {g : Nat} (hg : B ≤ g) (a0 a1 a2 a3 a4 a5 a6 a7 : Value) : Below B u (put8 w g a0 a1 a2 a3 a4 a5 a6 a7) := (((((((h.setCell hg a0).setCell hg a1).setCell hg a2).setCell hg a3).setCell hg a4).setCell hg a5).setCell hg a6).setCell hg a7
def SG.look (s : SG) : Array Value := #[.string s.file, .int .i64 s.num, .int .i64 s.base, .int .u32 s.hs, .int .i64 s.next, .int .i64 s.size, .int .u32 s.seed, .bool (s.cond != 0)]
theorem look_any {w : World} {sb : Nat} {s : SG} {xb mb : Nat} {v : Value} (h : Seg w sb s xb mb v) : Calls Tryz.prog 22 #[.pointer (some ⟨sb, 0, none⟩)] w fun e w' => e = .returned (.agg s.look) ∧ Below w.heap.size w w' := by
 have B1 := box_below w (.cells lookZ 77)
 have N1 := heap_alloc_new w (.cells lookZ 77)
 have S1 := h.below B1
 obtain ⟨y0, _⟩ := S1.cells
 have hM := hide (made_yes _ sb s.b y0)
 clear y0 h
 unfold lookZ at *
 obtain ⟨w1, hw1⟩ : ∃ w1, Hid (w.alloc (.cells #[.string ⟨#[]⟩, .int .i64 0, .int .i64 0, .int .u32 0, .int .i64 0, .int .i64 0, .int .u32 0, .bool false] 77) = w1) := ⟨_, rfl⟩
 rw [hw1.out] at B1 N1 S1 hM
 replace B1 := hide B1
 have hg : w.heap.size ≤ w.heap.size := Nat.le_refl _
 unfold SG.look
 go_enter Tryz.func22, Tryz.ntmps22
 go_upto_region 1 with fail
 rw [hw1.out]
 go_upto_region 3 with (first | (go_at_call 61; refine hM.out.mono ?_; rintro e w2 ⟨rfl, e1⟩; rw [e1]; clear e1 w2) | fail)
 obtain ⟨g, hgs⟩ : ∃ g, Hid (w.heap.size = g) := ⟨_, rfl⟩
 rw [hgs.out] at B1 N1 hg ⊢
 refine wp_region_T (fun q => Seg q sb s xb mb v) 26 (by kernel_rfl) ?_
 have KP : Hid (Seg w1.drew sb s xb mb v) := S1.below (Below.refl _ _).drew
 have KB : Hid (Below g w w1.drew) := hide (B1.out.trans ((Below.refl g w1).drew))
 have KN : Hid (w1.drew.heap[g]? = _) := hide N1
 clear S1 N1 B1 hM
 generalize w1.drew = q at *
 refine Ix.tk 0 ⟨some 7, .move (.tmp 0), _, _, _, _⟩ (.pointer (some ⟨sb, 0, none⟩)) [1,2,3,25,26] ?_ KP.out ?_
 ·intro wq hSw
  obtain ⟨y0, y1, y2, y3, y4, y5, y6, y7, y8, y9, y10⟩ := hSw.cells
  go_simp
 (try simp only [zzp, zzb, zzc])
 refine Ix.tk 1 ⟨some 8, .nilCheck (.tmp 7), _, _, _, _⟩ (.pointer (some ⟨sb, 0, none⟩)) [2,3,25,26] ?_ KP.out ?_
 ·intro wq hSw
  obtain ⟨y0, y1, y2, y3, y4, y5, y6, y7, y8, y9, y10⟩ := hSw.cells
  go_simp
 (try simp only [zzp, zzb, zzc])
 refine Ix.tk 2 ⟨some 9, .fieldAddr 130 (.tmp 8) 1, _, _, _, _⟩ (.pointer (some ⟨sb, 1, none⟩)) [3,25,26] ?_ KP.out ?_
 ·intro wq hSw
  obtain ⟨y0, y1, y2, y3, y4, y5, y6, y7, y8, y9, y10⟩ := hSw.cells
  go_simp
 (try simp only [zzp, zzb, zzc])
 refine Ix.tk 3 ⟨some 10, .load 9 (.tmp 9), _, _, _, _⟩ (.string s.file) [25,26] ?_ KP.out ?_
 ·intro wq hSw
  obtain ⟨y0, y1, y2, y3, y4, y5, y6, y7, y8, y9, y10⟩ := hSw.cells
  go_simp
 (try simp only [zzp, zzb, zzc])
 refine Ix.tk 4 ⟨some 11, .move (.tmp 0), _, _, _, _⟩ (.pointer (some ⟨sb, 0, none⟩)) [5,6,7,25,26] ?_ KP.out ?_
 ·intro wq hSw
  obtain ⟨y0, y1, y2, y3, y4, y5, y6, y7, y8, y9, y10⟩ := hSw.cells
  go_simp
 (try simp only [zzp, zzb, zzc])
 refine Ix.tk 5 ⟨some 12, .nilCheck (.tmp 11), _, _, _, _⟩ (.pointer (some ⟨sb, 0, none⟩)) [6,7,25,26] ?_ KP.out ?_
 ·intro wq hSw
  obtain ⟨y0, y1, y2, y3, y4, y5, y6, y7, y8, y9, y10⟩ := hSw.cells
  go_simp
 (try simp only [zzp, zzb, zzc])
 refine Ix.tk 6 ⟨some 13, .fieldAddr 130 (.tmp 12) 2, _, _, _, _⟩ (.pointer (some ⟨sb, 2, none⟩)) [7,25,26] ?_ KP.out ?_
 ·intro wq hSw
  obtain ⟨y0, y1, y2, y3, y4, y5, y6, y7, y8, y9, y10⟩ := hSw.cells
  go_simp
 (try simp only [zzp, zzb, zzc])
 refine Ix.tk 7 ⟨some 14, .load 38 (.tmp 13), _, _, _, _⟩ (.agg #[.int .i64 s.num, .int .i64 s.base, .int .u32 s.hs]) [25,26] ?_ KP.out ?_
 ·intro wq hSw
  obtain ⟨y0, y1, y2, y3, y4, y5, y6, y7, y8, y9, y10⟩ := hSw.cells
  go_simp
 (try simp only [zzp, zzb, zzc])
 refine Ix.tk 8 ⟨some 15, .move (.tmp 0), _, _, _, _⟩ (.pointer (some ⟨sb, 0, none⟩)) [9,10,11,25,26] ?_ KP.out ?_
 ·intro wq hSw
  obtain ⟨y0, y1, y2, y3, y4, y5, y6, y7, y8, y9, y10⟩ := hSw.cells
  go_simp
 (try simp only [zzp, zzb, zzc])
 refine Ix.tk 9 ⟨some 16, .nilCheck (.tmp 15), _, _, _, _⟩ (.pointer (some ⟨sb, 0, none⟩)) [10,11,25,26] ?_ KP.out ?_
 ·intro wq hSw
  obtain ⟨y0, y1, y2, y3, y4, y5, y6, y7, y8, y9, y10⟩ := hSw.cells
  go_simp
 (try simp only [zzp, zzb, zzc])
 refine Ix.tk 10 ⟨some 17, .fieldAddr 130 (.tmp 16) 3, _, _, _, _⟩ (.pointer (some ⟨sb, 5, none⟩)) [11,25,26] ?_ KP.out ?_
 ·intro wq hSw
  obtain ⟨y0, y1, y2, y3, y4, y5, y6, y7, y8, y9, y10⟩ := hSw.cells
  go_simp
 (try simp only [zzp, zzb, zzc])
 refine Ix.tk 11 ⟨some 18, .load 2 (.tmp 17), _, _, _, _⟩ (.int .i64 s.next) [25,26] ?_ KP.out ?_
 ·intro wq hSw
  obtain ⟨y0, y1, y2, y3, y4, y5, y6, y7, y8, y9, y10⟩ := hSw.cells
  go_simp
 (try simp only [zzp, zzb, zzc])
 refine Ix.tk 12 ⟨some 19, .move (.tmp 0), _, _, _, _⟩ (.pointer (some ⟨sb, 0, none⟩)) [13,14,15,25,26] ?_ KP.out ?_
 ·intro wq hSw
  obtain ⟨y0, y1, y2, y3, y4, y5, y6, y7, y8, y9, y10⟩ := hSw.cells
  go_simp
 (try simp only [zzp, zzb, zzc])
 refine Ix.tk 13 ⟨some 20, .nilCheck (.tmp 19), _, _, _, _⟩ (.pointer (some ⟨sb, 0, none⟩)) [14,15,25,26] ?_ KP.out ?_
 ·intro wq hSw
  obtain ⟨y0, y1, y2, y3, y4, y5, y6, y7, y8, y9, y10⟩ := hSw.cells
  go_simp
 (try simp only [zzp, zzb, zzc])
 refine Ix.tk 14 ⟨some 21, .fieldAddr 130 (.tmp 20) 4, _, _, _, _⟩ (.pointer (some ⟨sb, 6, none⟩)) [15,25,26] ?_ KP.out ?_
 ·intro wq hSw
  obtain ⟨y0, y1, y2, y3, y4, y5, y6, y7, y8, y9, y10⟩ := hSw.cells
  go_simp
 (try simp only [zzp, zzb, zzc])
 refine Ix.tk 15 ⟨some 22, .load 3 (.tmp 21), _, _, _, _⟩ (.int .i64 s.size) [25,26] ?_ KP.out ?_
 ·intro wq hSw
  obtain ⟨y0, y1, y2, y3, y4, y5, y6, y7, y8, y9, y10⟩ := hSw.cells
  go_simp
 (try simp only [zzp, zzb, zzc])
 refine Ix.tk 16 ⟨some 23, .move (.tmp 0), _, _, _, _⟩ (.pointer (some ⟨sb, 0, none⟩)) [17,18,19,25,26] ?_ KP.out ?_
 ·intro wq hSw
  obtain ⟨y0, y1, y2, y3, y4, y5, y6, y7, y8, y9, y10⟩ := hSw.cells
  go_simp
 (try simp only [zzp, zzb, zzc])
 refine Ix.tk 17 ⟨some 24, .nilCheck (.tmp 23), _, _, _, _⟩ (.pointer (some ⟨sb, 0, none⟩)) [18,19,25,26] ?_ KP.out ?_
 ·intro wq hSw
  obtain ⟨y0, y1, y2, y3, y4, y5, y6, y7, y8, y9, y10⟩ := hSw.cells
  go_simp
 (try simp only [zzp, zzb, zzc])
 refine Ix.tk 18 ⟨some 25, .fieldAddr 130 (.tmp 24) 5, _, _, _, _⟩ (.pointer (some ⟨sb, 7, none⟩)) [19,25,26] ?_ KP.out ?_
 ·intro wq hSw
  obtain ⟨y0, y1, y2, y3, y4, y5, y6, y7, y8, y9, y10⟩ := hSw.cells
  go_simp
 (try simp only [zzp, zzb, zzc])
 refine Ix.tk 19 ⟨some 26, .load 36 (.tmp 25), _, _, _, _⟩ (.int .u32 s.seed) [25,26] ?_ KP.out ?_
 ·intro wq hSw
  obtain ⟨y0, y1, y2, y3, y4, y5, y6, y7, y8, y9, y10⟩ := hSw.cells
  go_simp
 (try simp only [zzp, zzb, zzc])
 refine Ix.tk 20 ⟨some 27, .move (.tmp 0), _, _, _, _⟩ (.pointer (some ⟨sb, 0, none⟩)) [21,22,23,24,25,26] ?_ KP.out ?_
 ·intro wq hSw
  obtain ⟨y0, y1, y2, y3, y4, y5, y6, y7, y8, y9, y10⟩ := hSw.cells
  go_simp
 (try simp only [zzp, zzb, zzc])
 refine Ix.tk 21 ⟨some 28, .nilCheck (.tmp 27), _, _, _, _⟩ (.pointer (some ⟨sb, 0, none⟩)) [22,23,24,25,26] ?_ KP.out ?_
 ·intro wq hSw
  obtain ⟨y0, y1, y2, y3, y4, y5, y6, y7, y8, y9, y10⟩ := hSw.cells
  go_simp
 (try simp only [zzp, zzb, zzc])
 refine Ix.tk 22 ⟨some 29, .fieldAddr 130 (.tmp 28) 6, _, _, _, _⟩ (.pointer (some ⟨sb, 8, none⟩)) [23,24,25,26] ?_ KP.out ?_
 ·intro wq hSw
  obtain ⟨y0, y1, y2, y3, y4, y5, y6, y7, y8, y9, y10⟩ := hSw.cells
  go_simp
 (try simp only [zzp, zzb, zzc])
 refine Ix.tk 23 ⟨some 30, .load 126 (.tmp 29), _, _, _, _⟩ (.int .i64 s.cond) [24,25,26] ?_ KP.out ?_
 ·intro wq hSw
  obtain ⟨y0, y1, y2, y3, y4, y5, y6, y7, y8, y9, y10⟩ := hSw.cells
  go_simp
 (try simp only [zzp, zzb, zzc])
 refine Ix.tk 24 ⟨some 31, .binOp .neq 126 (.tmp 30) (.const (Value.int IntKind.i64 0)) 126, _, _, _, _⟩ (.bool (s.cond != 0)) [25,26] ?_ KP.out ?_
 ·intro wq hSw
  obtain ⟨y0, y1, y2, y3, y4, y5, y6, y7, y8, y9, y10⟩ := hSw.cells
  go_simp
 (try simp only [zzp, zzb, zzc])
 refine Ix.tk 25 ⟨some 32, .build 77 #[(0, .tmp 10), (1, .tmp 14), (2, .tmp 18), (3, .tmp 22), (4, .tmp 26), (5, .tmp 31)], _, _, _, _⟩ (.agg #[.string s.file, .int .i64 s.num, .int .i64 s.base, .int .u32 s.hs, .int .i64 s.next, .int .i64 s.size, .int .u32 s.seed, .bool (s.cond != 0)]) [26] ?_ KP.out ?_
 ·intro wq hSw
  obtain ⟨y0, y1, y2, y3, y4, y5, y6, y7, y8, y9, y10⟩ := hSw.cells
  go_simp
 (try simp only [zzp, zzb, zzc])
 have FIN := hide (put8_heap KN.out (.string s.file) (.int .i64 s.num) (.int .i64 s.base) (.int .u32 s.hs) (.int .i64 s.next) (.int .i64 s.size) (.int .u32 s.seed) (.bool (s.cond != 0)))
 have FB := hide (put8_below KB.out hg (.string s.file) (.int .i64 s.num) (.int .i64 s.base) (.int .u32 s.hs) (.int .i64 s.next) (.int .i64 s.size) (.int .u32 s.seed) (.bool (s.cond != 0)))
 have FZ : ∀ j, q.frozen? ⟨g, j, none⟩ = false := fun j => by simp [World.frozen?, KN.out]
 have c0 : ∀ j, q.cell? ⟨g, j, none⟩ = _ := fun j => cell_of KN.out
 unfold put8 at FIN FB
 refine wpAnyT_one (i := 26) (o := ⟨none, .store 77 (.tmp 2) (.tmp 32), _, _, _, _⟩) (by kernel_rfl) rfl (fun K hK => ?_)
 go_simp
 refine hK.out _ _ (vac (by kernel_rfl)) ?_
 clear hK K
 (try simp only [zzq])
 refine wpAnyT_done (by kernel_rfl) ?_ _
 go_wp2_with fail
 try simp only [Exit.inBlock, Exit.then]
 refine bodyPost_ret (v := .agg _) (results_cell_row rfl _ _ g 77 _ (0, 0) _ rfl FIN.out Tryz.underlying77 rfl lookSize) rfl ?_
 exact ⟨rfl, by rw [hgs.out]; exact FB.out⟩
end Go.Proofs.YtpflaglfnkmjiaaGreat.Sg
