/-
  A segment in memory; headed. (gen_SgC.py)
-/
import Derived.Test.YtnimildpcnmjeaaGreatDoorL03
import Derived.Test.YtnimildpcnmjeaaGreatDoorL02
import Derived.Deep.LoopGhost
import Derived.BigQuiet
import Derived.Deep.CutRange
import Derived.Test.YtnimildpcnmjeaaGreatDoorL01
import Derived.Defers
set_option maxRecDepth 100000
set_option maxHeartbeats 40000000
set_option linter.unusedVariables false
namespace Go.Proofs.YtnimildpcnmjeaaGreatDoor.Sg
open Go.RowKit Go.Maps Go.Sort Go.Shelf Go.Proofs.YtnimildpcnmjeaaGreatDoor.Nm Go.Proofs.YtnimildpcnmjeaaGreatDoor.Dk
open Ix (wp_region_T wpAnyT wpAnyT_take wpAnyT_one wpAnyT_done vac)
theorem bs2 {w q q' : World} (h : Below w.heap.size w q) (h2 : Below q.heap.size q q') : Below w.heap.size w q' := h.trans (h2.mono h.size)
theorem tri {w : World} {g : Nat} {a b c : Value} {T : TypeId} {z : Nat × Nat} (h : w.heap[g]? = some (.cells #[a, b, c] T z)) : w.cell? ⟨g, 0, none⟩ = some a ∧ w.cell? ⟨g, 1, none⟩ = some b ∧ w.cell? ⟨g, 2, none⟩ = some c := ⟨by simp [World.cell?, h], by simp [World.cell?, h], by simp [World.cell?, h]⟩
structure SG where
 b : Nat
 file : ByteArray
 num : Int
 base : Int
 hs : Int
 next : Int
 size : Int
 seed : Int
 cond : Int
 x : Ix.X
 sd : Sr
def SG.cs (s : SG) (xb mb : Nat) : Array Value := #[.pointer (some ⟨s.b, 0, none⟩), .string s.file, .int .i64 s.num, .int .i64 s.base, .int .u32 s.hs, .int .i64 s.next, .int .i64 s.size, .int .u32 s.seed, .int .i64 s.cond, .pointer (some ⟨xb, 0, none⟩), .map (some mb)]
structure Seg (w : World) (sb : Nat) (s : SG) (xb mb : Nat) (v : Value) : Prop where
 box : w.heap[sb]? = some (.cells (s.cs xb mb) 109 (0, 0))
 ix : Ix.At Ix.TI w xb s.x v
 sm : Sm w mb s.sd
 ap : xb ≠ mb ∧ xb ≠ sb ∧ mb ≠ sb ∧ ∀ k, v.ownBlock = some k → k ≠ sb ∧ k ≠ xb ∧ k ≠ mb
theorem headed_any (w : World) (b : Nat) (s : ByteArray) (num base hs sum : Int) (hs2 : s.size ≤ 281474976710656) :
    Calls Tryz.prog 123 #[.pointer (some ⟨b, 0, none⟩), .string s, .agg #[.int .i64 num, .int .i64 base, .int .u32 hs], .int .u32 sum] w fun e w' => ∃ sb xb mb v, e = .returned (.pointer (some ⟨sb, 0, none⟩)) ∧ Seg w' sb ⟨b, s, num, base, hs, base, 32, sum, 0, ⟨1024, [], (0, 0)⟩, []⟩ xb mb v ∧ Below w.heap.size w w' ∧ (w.heap.size ≤ sb ∧ w.heap.size ≤ xb ∧ w.heap.size ≤ mb ∧ ∀ k, v.ownBlock = some k → w.heap.size ≤ k) := by
 replace hs2 := hide hs2
 have B1 := hide (box_below w (.cells #[.int .i64 num, .int .i64 base, .int .u32 hs] 77))
 have N1 := hide (heap_alloc_new w (.cells #[.int .i64 num, .int .i64 base, .int .u32 hs] 77))
 obtain ⟨w1, hw1⟩ : ∃ w1, Hid (w.alloc (.cells #[.int .i64 num, .int .i64 base, .int .u32 hs] 77) = w1) := ⟨_, rfl⟩
 obtain ⟨g6, hg6⟩ : ∃ g6, Hid (w.heap.size = g6) := ⟨_, rfl⟩
 rw [hw1.out] at B1 N1
 rw [hg6.out] at N1
 have hX := Ix.new_any w1 1024 (by omega) (by omega)
 go_enter Tryz.func123, Tryz.ntmps123
 go_upto_region 1 with fail
 rw [hw1.out, hg6.out]
 go_upto_region 2 with (first
  | (go_at_call 177; refine hX.mono ?_; rintro e w3 ⟨b3, ⟨c, _⟩ | ⟨_, _, xb, lx, rfl, X3⟩⟩; (exact absurd (show (1 : Int) ≤ 1024 ∧ (1024 : Int) ≤ 1048576 by decide) c); replace X3 := hide X3; replace b3 := hide b3; replace lx := hide lx)
  | fail)
 clear hX
 have N3 := hide ((b3.out.block _ (heap_lt N1.out)).trans N1.out)
 have B03 := hide (bs2 B1.out b3.out)
 have KP : Hid (w3.drew.heap[g6]? = some (.cells #[.int .i64 num, .int .i64 base, .int .u32 hs] 77 (0, 0))) := N3.out
 have GQ : Hid (Below w3.heap.size w3 w3.drew) := (Below.refl _ _).drew
 refine wp_region_T (fun q => q.heap[g6]? = some (.cells #[.int .i64 num, .int .i64 base, .int .u32 hs] 77 (0, 0))) 11 (by kernel_rfl) ?_
 generalize w3.drew = q at *
 refine Ix.tk 0 ⟨some 15, .move (.tmp 0), _, _, _, _⟩ (.pointer (some ⟨b, 0, none⟩)) [9,10,11] ?_ KP.out ?_
 ·intro wq hSw
  obtain ⟨y0, y1, y2⟩ := tri hSw
  go_simp
 (try simp only [zzp, zzb, zzc])
 refine Ix.tk 1 ⟨some 16, .move (.tmp 1), _, _, _, _⟩ (.string s) [2,9,10,11] ?_ KP.out ?_
 ·intro wq hSw
  obtain ⟨y0, y1, y2⟩ := tri hSw
  go_simp
 (try simp only [zzp, zzb, zzc])
 refine Ix.tk 3 ⟨some 18, .load 77 (.tmp 6), _, _, _, _⟩ (.agg #[.int .i64 num, .int .i64 base, .int .u32 hs]) [9,10,11] ?_ KP.out ?_
 ·intro wq hSw
  obtain ⟨y0, y1, y2⟩ := tri hSw
  go_simp
 (try simp only [zzp, zzb, zzc])
 refine Ix.tk 4 ⟨some 19, .fieldAddr 77 (.tmp 6) 1, _, _, _, _⟩ (.pointer (some ⟨g6, 1, none⟩)) [5,9,10,11] ?_ KP.out ?_
 ·intro wq hSw
  obtain ⟨y0, y1, y2⟩ := tri hSw
  go_simp
 (try simp only [zzp, zzb, zzc])
 refine Ix.tk 5 ⟨some 20, .load 2 (.tmp 19), _, _, _, _⟩ (.int .i64 base) [9,10,11] ?_ KP.out ?_
 ·intro wq hSw
  obtain ⟨y0, y1, y2⟩ := tri hSw
  go_simp
 (try simp only [zzp, zzb, zzc])
 refine Ix.tk 6 ⟨some 21, .move (.tmp 3), _, _, _, _⟩ (.int .u32 sum) [9,10,11] ?_ KP.out ?_
 ·intro wq hSw
  obtain ⟨y0, y1, y2⟩ := tri hSw
  go_simp
 (try simp only [zzp, zzb, zzc])
 refine Ix.tk 7 ⟨some 22, .move (.tmp 9), _, _, _, _⟩ (.pointer (some ⟨xb, 0, none⟩)) [9,10,11] ?_ KP.out ?_
 ·intro wq hSw
  obtain ⟨y0, y1, y2⟩ := tri hSw
  go_simp
 (try simp only [zzp, zzb, zzc])
 refine wpAnyT_pair (i := 2) (j := 8) (oi := ⟨some 17, .call { callee := .value (.func 114), args := #[.tmp 16], argTypes := #[9] }, _, _, _, _⟩) (oj := ⟨some 23, .makeMap 107 none, _, _, _, _⟩) (fun vi vj w2 => vi = .string s ∧ ∃ mb, vj = .map (some mb) ∧ q.heap.size ≤ mb ∧ Sm w2 mb [] ∧ Below q.heap.size q w2) (by decide) (by kernel_rfl) rfl rfl (by kernel_rfl) (by kernel_rfl) (fun _ _ => rfl) ?_ ?_ ?_ ?_
 ·intro K hK
  go_simp
  go_at_call 114
  refine (clone_str s q hs2.out).mono ?_
  rintro e w4 ⟨rfl, b4⟩
  (try go_simp)
  refine hK.out (.string s) _ ((b4.block _ (heap_lt KP.out)).trans KP.out) (fun K2 hK2 => ?_)
  clear hK K
  go_simp
  exact hK2.out (.map (some w4.heap.size)) _ ⟨rfl, w4.heap.size, rfl, b4.size, Sm.made w4, b4.alloc b4.size (.map #[] 0)⟩
 ·intro K hK
  go_simp
  have B4 : Below q.heap.size q (q.alloc (.map #[] 0)) := (Below.refl _ _).alloc (Nat.le_refl _) (.map #[] 0)
  refine hK.out (.map (some q.heap.size)) _ ((B4.block _ (heap_lt KP.out)).trans KP.out) (fun K2 hK2 => ?_)
  clear hK K
  have M1 := Sm.made q
  go_simp
  go_at_call 114
  refine (clone_str s _ hs2.out).mono ?_
  rintro e w4 ⟨rfl, b4⟩
  (try go_simp)
  exact hK2.out (.string s) _ ⟨rfl, q.heap.size, rfl, Nat.le_refl _, M1.heap (b4.block _ M1.lt), bs2 B4 b4⟩
 ·rintro vi vj w2 ⟨_, mb, _, _, _, hb⟩
  exact (hb.block _ (heap_lt KP.out)).trans KP.out
 rintro vi vj w4 ⟨rfl, mb, rfl, hmb, M4, b4⟩
 replace M4 := hide M4
 replace b4 := hide b4
 have K4 : Hid (w4.heap[g6]? = some (.cells #[.int .i64 num, .int .i64 base, .int .u32 hs] 77 (0, 0))) := (b4.out.block _ (heap_lt KP.out)).trans KP.out
 (try simp only [zzp, zzb, zzc])
 refine wpAnyT_one (i := 9) (o := ⟨some 24, .build 109 #[(0, .tmp 15), (1, .tmp 17), (2, .tmp 18), (3, .tmp 20), (4, .const (Value.int IntKind.i64 32)), (5, .tmp 21), (7, .tmp 22), (8, .tmp 23)], _, _, _, _⟩) (by kernel_rfl) rfl (fun K hK => ?_)
 go_simp
 refine hK.out _ _ (fun _ => K4.out) ?_
 clear hK K
 (try simp only [zzp, zzb, zzc])
 have B5 := hide (box_below w4 (.cells #[.pointer (some ⟨b, 0, none⟩), .string s, .int .i64 num, .int .i64 base, .int .u32 hs, .int .i64 base, .int .i64 32, .int .u32 sum, .int .i64 0, .pointer (some ⟨xb, 0, none⟩), .map (some mb)] 109))
 have N5 := hide (heap_alloc_new w4 (.cells #[.pointer (some ⟨b, 0, none⟩), .string s, .int .i64 num, .int .i64 base, .int .u32 hs, .int .i64 base, .int .i64 32, .int .u32 sum, .int .i64 0, .pointer (some ⟨xb, 0, none⟩), .map (some mb)] 109))
 have K5 : Hid ((w4.alloc (.cells #[.pointer (some ⟨b, 0, none⟩), .string s, .int .i64 num, .int .i64 base, .int .u32 hs, .int .i64 base, .int .i64 32, .int .u32 sum, .int .i64 0, .pointer (some ⟨xb, 0, none⟩), .map (some mb)] 109)).heap[g6]? = some (.cells #[.int .i64 num, .int .i64 base, .int .u32 hs] 77 (0, 0))) := (B5.out.block _ (heap_lt K4.out)).trans K4.out
 refine wpAnyT_one (i := 10) (o := ⟨some 25, .box 109 (.tmp 24), _, _, _, _⟩) (by kernel_rfl) rfl (fun K hK => ?_)
 go_simp
 refine hK.out _ _ (fun _ => K5.out) ?_
 clear hK K
 (try simp only [zzp, zzb, zzc])
 refine wpAnyT_one (i := 11) (o := ⟨some 8, .assign (.tmp 25), _, _, _, _⟩) (by kernel_rfl) rfl (fun K hK => ?_)
 go_simp
 refine hK.out _ _ (vac (by kernel_rfl)) ?_
 clear hK K
 (try simp only [zzp, zzb, zzc])
 refine wpAnyT_done (by kernel_rfl) ?_ _
 go_wp2_with fail
 go_ret
 have bq := bs2 GQ.out (bs2 b4.out B5.out)
 have xa := (X3.out.below bq)
 refine ⟨_, xb, mb, _, rfl, ⟨N5.out, xa, M4.out.heap (B5.out.block _ M4.out.lt), ?_⟩, ?_, ?_⟩
 ·have z1 := X3.out.lt xb (.inl rfl)
  have z2 := GQ.out.size
  have z3 := M4.out.lt
  refine ⟨by omega, by omega, by omega, fun k hk => by simp [Value.ownBlock] at hk⟩
 ·exact bs2 B03.out bq
 ·have z1 := GQ.out.size
  have z2 := B03.out.size
  have z3 := b4.out.size
  have z4 := B1.out.size
  have z5 := lx.out
  exact ⟨by omega, by omega, by omega, fun k hk => by simp [Value.ownBlock] at hk⟩
end Go.Proofs.YtnimildpcnmjeaaGreatDoor.Sg
namespace Go.Proofs.YtnimildpcnmjeaaGreatDoor.Ix
open Go.RowKit
def cmpF (a b : Int) : Int := if a < b then -1 else if b < a then 1 else 0
theorem nan_any (w : World) (a : Int) : Calls Tryz.prog 184 #[.int .i64 a] w fun e w' => e = .returned (.bool false) ∧ w' = w := by
 go_enter Tryz.func184, Tryz.ntmps184
 go_wp2_with fail
 go_ret
 exact ⟨by simp, rfl⟩
theorem compare_any (w : World) (a b : Int) : Calls Tryz.prog 136 #[.int .i64 a, .int .i64 b] w fun e w' => e = .returned (.int .i64 (cmpF a b)) ∧ w' = w := by
 go_enter Tryz.func136, Tryz.ntmps136
 go_wp2_with fail
 refine (nan_any _ _).mono ?_
 rintro e w1 ⟨rfl, rfl⟩
 go_wp2_with fail
 refine (nan_any _ _).mono ?_
 rintro e w1 ⟨rfl, rfl⟩
 by_cases h1 : a < b
 ·have hc : Hid (cmpF a b = -1) := by show _ = _; rw [cmpF, if_pos h1]
  go_wp2_with fail
  go_ret
  exact ⟨by rw [hc.out]; rfl, rfl⟩
 ·by_cases h2 : b < a
  ·have hc : Hid (cmpF a b = 1) := by show _ = _; rw [cmpF, if_neg h1, if_pos h2]
   go_wp2_with fail
   go_ret
   exact ⟨by rw [hc.out]; rfl, rfl⟩
  ·have hc : Hid (cmpF a b = 0) := by show _ = _; rw [cmpF, if_neg h1, if_neg h2]
   go_wp2_with fail
   go_ret
   exact ⟨by rw [hc.out]; rfl, rfl⟩
theorem clo_any (w : World) (a o n : Int) : Calls Tryz.prog 135 #[.agg #[.int .i64 a, .int .i64 o], .int .i64 n] w fun e w' => e = .returned (.int .i64 (cmpF a n)) ∧ Below w.heap.size w w' := by
 have hB := hide (box_below w (.cells #[.int .i64 a, .int .i64 o] 117))
 go_enter Tryz.func135, Tryz.ntmps135
 go_wp2_with fail
 refine (compare_any _ _ _).mono ?_
 rintro e w1 ⟨rfl, rfl⟩
 go_wp2_with fail
 go_ret
 exact ⟨rfl, hB.out⟩
def isAt (l : List (Int × Int)) (n : Int) : Bool := match l[cnt l n]? with
 | some e => decide (e.1 = n)
 | none => false
theorem cmpF_neg (a b : Int) : (cmpF a b < 0) = (a < b) := by
 unfold cmpF
 by_cases h : a < b
 ·simp [h]
 ·by_cases h2 : b < a <;> simp [h, h2]
theorem cmpF_zero (a b : Int) : (cmpF a b = 0) = (a = b) := by
 unfold cmpF
 by_cases h : a < b
 ·simp [h]; omega
 ·by_cases h2 : b < a
  ·simp [h, h2]; omega
  ·simp [h, h2]; omega
theorem bsf_any (w : World) (v : Value) (st : Nat) (l : List (Int × Int)) (n : Int) (hv : Ents w v l) (hs : Srt st l) :
    Calls Tryz.prog 134 #[v, .int .i64 n, .func (.func 135) #[] #[]] w fun e w' =>
     e = .returned (.tuple #[.int .i64 (cnt l n : Int), .bool (isAt l n)]) ∧ Below w.heap.size w w' := by
 by_cases hl : l = []
 ·subst hl
  obtain ⟨ao, ca, rfl, q1, q2⟩ := hv.form
  have hR : Hid ((cnt [] n : Int) = 0 ∧ isAt [] n = false) := ⟨rfl, rfl⟩
  clear hv
  simp only [List.length_nil]
  go_enter Tryz.func134, Tryz.ntmps134
  go_wp2_with fail
  go_loopw [9, 10] (fun s9 s10 wr => s9 = .int .i64 0 ∧ s10 = .int .i64 0 ∧ wr = w) (fun _ _ _ => 0)
  case atStart => exact ⟨rfl, rfl, rfl⟩
  case round =>
   obtain ⟨rfl, rfl, rfl⟩ := hrel
   go_wp2_with fail
   go_ret2
   exact ⟨by rw [hR.out.1, hR.out.2]; rfl, Below.refl _ _⟩
 ·obtain ⟨g, ca, rfl, hc, q1, q2, _⟩ := hv.at hl
  have HC := hide hc
  have HS := hide (cnt_split hs n)
  have hcl := cnt_le l n
  have hlen := hs.len
  have hR : Hid (∀ (hk : cnt l n < l.length), isAt l n = decide (l[cnt l n].1 = n)) := fun hk => by
   unfold isAt; rw [List.getElem?_eq_getElem hk]
  have hR2 : Hid (l.length ≤ cnt l n → isAt l n = false) := fun hk => by
   unfold isAt; rw [List.getElem?_eq_none hk]
  have SRT := hide hs
  obtain ⟨C, hC⟩ : ∃ C, Hid (cnt l n = C) := ⟨_, rfl⟩
  obtain ⟨N, hN⟩ : ∃ N, Hid (l.length = N) := ⟨_, rfl⟩
  obtain ⟨iz, hiz⟩ : ∃ iz, Hid (isAt l n = iz) := ⟨_, rfl⟩
  rw [hC.out] at hcl
  rw [hN.out] at q1 hlen hcl
  rw [hC.out, hN.out, hiz.out]
  clear hc hv hs hl
  go_enter Tryz.func134, Tryz.ntmps134
  go_wp2_with fail
  go_loopg [9, 10] N (fun kx s9 s10 wr => ∃ lo hi : Nat, s9 = .int .i64 (lo : Int) ∧ s10 = .int .i64 (hi : Int) ∧ lo ≤ C ∧ C ≤ hi ∧ hi ≤ N ∧ hi - lo ≤ kx ∧ Hid (Below w.heap.size w wr))
  case atStart => exact ⟨0, N, rfl, rfl, Nat.zero_le _, hcl, Nat.le_refl _, by omega, Below.refl _ _⟩
  case round =>
   obtain ⟨lo, hi, rfl, rfl, h1, h2, h3, h4, hB⟩ := hrel
   by_cases hlt : lo < hi
   ·have hm : (lo + hi) / 2 < l.length := by rw [hN.out]; omega
    obtain ⟨k0, k1⟩ := HC.out _ hm
    have gB := hB.out.cell (lt_of_cell k0)
    have gB1 := hB.out.cell (lt_of_cell k1)
    rw [k0] at gB
    rw [k1] at gB1
    have hL : Hid ((lo + hi) / 2 < C → l[(lo + hi) / 2].1 < n) := fun h => HS.out.1 _ hm (by rw [hC.out]; exact h)
    have hG : Hid (C ≤ (lo + hi) / 2 → n ≤ l[(lo + hi) / 2].1) := fun h => HS.out.2 _ hm (by rw [hC.out]; exact h)
    generalize l[(lo + hi) / 2] = en at *
    obtain ⟨e1, e2⟩ := en
    simp only at gB gB1 hL hG
    obtain ⟨M, hM⟩ : ∃ M, M = (lo + hi) / 2 := ⟨_, rfl⟩
    rw [← hM] at gB gB1 hL hG hm
    have hMi : ((lo : Int) + (hi : Int)) / 2 = (M : Int) := by omega
    have hMN : M < N := by omega
    have hM1 : lo ≤ M ∧ M < hi := by omega
    replace hM := hide hM
    replace hm := hide hm
    clear k0 k1
    have hcn := hide (cmpF_neg e1 n)
    go_wp2_with fail
    refine (clo_any _ _ _ _).mono ?_
    rintro e w2 ⟨rfl, b2⟩
    have hB2 := hide (keepF hB.out b2)
    clear b2 gB gB1
    by_cases hlt2 : e1 < n
    ·have hMC : M < C := by
       refine Classical.byContradiction fun c => ?_
       have := hG.out (by omega)
       omega
     rw [show cmpF e1 n = -1 by rw [cmpF, if_pos hlt2]]
     go_wp2_with fail
     go_roundg (hi - (M + 1))
     case measure => omega
     case rel => exact ⟨M + 1, hi, rfl, rfl, by omega, h2, h3, Nat.le_refl _, hB2.out⟩
    ·have hMC : C ≤ M := by
       refine Classical.byContradiction fun c => ?_
       have := hL.out (by omega)
       omega
     have hz : ¬ cmpF e1 n < 0 := by rw [cmpF_neg]; exact hlt2
     generalize cmpF e1 n = z at *
     go_wp2_with fail
     go_roundg (M - lo)
     case measure => omega
     case rel => exact ⟨lo, M, rfl, rfl, h1, hMC, by omega, Nat.le_refl _, hB2.out⟩
   ·obtain rfl : lo = C := by omega
    obtain rfl : hi = lo := by omega
    clear HS
    by_cases hin : hi < N
    ·have hm : hi < l.length := by rw [hN.out]; exact hin
     obtain ⟨k0, k1⟩ := HC.out _ hm
     have gB := hB.out.cell (lt_of_cell k0)
     have gB1 := hB.out.cell (lt_of_cell k1)
     rw [k0] at gB
     rw [k1] at gB1
     have hQ : Hid (iz = decide (l[hi].1 = n)) := by
      show _ = _
      rw [← hiz.out, hR.out (by rw [hC.out]; exact hm)]
      simp only [hC.out]
     generalize l[hi] = en at *
     obtain ⟨e1, e2⟩ := en
     simp only at gB gB1 hQ
     replace hm := hide hm
     have hcz := hide (cmpF_zero e1 n)
     clear k0 k1
     go_wp2_with fail
     refine (clo_any _ _ _ _).mono ?_
     rintro e w2 ⟨rfl, b2⟩
     have hB2 := hide (keepF hB.out b2)
     clear b2 gB gB1
     have hfin : Hid (iz = decide (cmpF e1 n = 0)) := by show _ = _; rw [hQ.out]; simp only [hcz.out]
     generalize cmpF e1 n = z at *
     go_wp2_with fail
     go_ret2
     exact ⟨by rw [hfin.out]; first | rfl | simp, hB2.out⟩
    ·have hfin : Hid (iz = false) := by show _ = _; rw [← hiz.out]; exact hR2.out (by rw [hC.out, hN.out]; omega)
     go_wp2_with fail
     go_ret2
     exact ⟨by rw [hfin.out]; rfl, hB.out⟩
theorem below_any (w : World) (b : Nat) (x : X) (v : Value) (n : Int) (h : At TI w b x v) (hk : Ok x) :
    Calls Tryz.prog 96 #[.pointer (some ⟨b, 0, none⟩), .int .i64 n] w fun e w' => e = .returned (.tuple #[.int .i64 (cnt x.l n : Int), .bool (isAt x.l n)]) ∧ Below w.heap.size w w' := by
 obtain ⟨c0, c1, _, _⟩ := h.cells
 obtain ⟨ao, ca, rfl, _, _⟩ := h.row.form
 have H := hide h
 have HK := hide hk
 clear h hk
 generalize hL : x.l.length = N at *
 replace hL := hide hL
 go_enter Tryz.func96, Tryz.ntmps96
 go_wp2_with fail
 refine (bsf_any _ _ x.st x.l n H.out.row HK.out.srt).mono ?_
 rintro e w1 ⟨rfl, hb⟩
 replace hb := hide hb
 go_wp2_with fail
 go_ret2
 exact ⟨rfl, hb.out⟩
def entv (e : Int × Int) : Value := .agg #[.int .i64 e.1, .int .i64 e.2]
def DoesFind (T : TypeId) (f : Nat) : Prop := ∀ (w : World) (b : Nat) (x : X) (v : Value) (n : Int), At T w b x v → Ok x → -9223372036854775808 ≤ n → n ≤ 9223372036854775807 →
 Calls Tryz.prog f #[.pointer (some ⟨b, 0, none⟩), .int .i64 n] w fun e w' => e = .returned (.tuple #[entv (findF x.l n).1, .bool (findF x.l n).2]) ∧ Below w.heap.size w w'
theorem find_prog {st : Nat} {l : List (Int × Int)} (h : Srt st l) (n : Int) :
    (∀ hk : cnt l n < l.length, isAt l n = true → findF l n = (l[cnt l n], true)) ∧ (isAt l n = false → ∀ hk : 0 < cnt l n, findF l n = (l[cnt l n - 1]'(by have := cnt_le l n; omega), true)) ∧ (isAt l n = false → cnt l n = 0 → findF l n = ((0, 0), false)) ∧ (isAt l n = true → cnt l n < l.length) := by
 obtain ⟨h1, h2⟩ := cnt_split h n
 have hc := cnt_le l n
 have key : ∀ hk : cnt l n < l.length, isAt l n = decide (l[cnt l n].1 = n) := fun hk => by unfold isAt; rw [List.getElem?_eq_getElem hk]
 refine ⟨fun hk hi => ?_, fun hi hk => ?_, fun hi hk => ?_, fun hi => ?_⟩
 ·rw [key hk] at hi
  have hi' : l[cnt l n].1 = n := of_decide_eq_true hi
  refine find_at hk (by omega) fun j hj hij => ?_
  have := (h.lt hk hj hij).1
  omega
 ·refine find_at (by omega) (by have := h1 (cnt l n - 1) (by omega) (by omega); omega) fun j hj hij => ?_
  have g := h2 j hj (by omega)
  have hk2 : cnt l n < l.length := by omega
  rw [key hk2] at hi
  have hi' : ¬ l[cnt l n].1 = n := of_decide_eq_false hi
  have g2 := h2 (cnt l n) hk2 (Nat.le_refl _)
  have g3 := h.le hk2 hj (by omega)
  omega
 ·refine find_no fun j hj => ?_
  have hk2 : cnt l n < l.length := by omega
  rw [key hk2] at hi
  have hi' : ¬ l[cnt l n].1 = n := of_decide_eq_false hi
  have g2 := h2 (cnt l n) hk2 (Nat.le_refl _)
  have g3 := h.le hk2 hj (by omega)
  omega
 ·refine Classical.byContradiction fun c => ?_
  have : isAt l n = false := by unfold isAt; rw [List.getElem?_eq_none (by omega)]
  rw [this] at hi; cases hi
theorem find_any : DoesFind TI 59 := by
 intro w b x v n h hk n0 n1
 obtain ⟨ao, ca, rfl, _, _⟩ := h.row.form
 obtain ⟨P1, P2, P3, P4⟩ := find_prog hk.srt n
 have H1 := hide (h.below (box_below w (.cells #[.int .i64 0, .int .i64 0] 117)))
 have HK := hide hk
 have hcl := cnt_le x.l n
 have hlen := hk.srt.len
 replace P1 := hide P1
 replace P2 := hide P2
 replace P3 := hide P3
 replace P4 := hide P4
 clear h hk
 go_enter Tryz.func59, Tryz.ntmps59
 go_wp2_with fail
 refine (below_any _ b x _ n H1.out HK.out).mono ?_
 rintro e w2 ⟨rfl, b2⟩
 have hh := b2.block w.heap.size (by simp)
 rw [heap_alloc_new] at hh
 have hB : Hid (Below w.heap.size w w2) := keepF (box_below _ _) b2
 have H2 := hide (H1.out.below b2)
 obtain ⟨x0, x1, y0, y1⟩ := two_cells hh
 replace hh := hide hh
 clear b2
 obtain ⟨d0, d1, _, _⟩ := H2.out.cells
 have fin : ∀ (tm : Array Value) (F : (Int × Int) × Bool), Hid (findF x.l n = F) → tm[4]? = some (.pointer (some ⟨w.heap.size, 0, none⟩)) → tm[5]? = some (.bool F.2) →
     bodyPost Tryz.prog Tryz.f59 (fun e w' => e = .returned (.tuple #[entv (findF x.l n).1, .bool (findF x.l n).2]) ∧ Below w.heap.size w w') .ret ⟨tm, []⟩ (put2 w2 w.heap.size (.int .i64 F.1.1) (.int .i64 F.1.2)) := by
  intro tm F hF t4 t5
  obtain ⟨k0, k1, _, _⟩ := two_cells (put2_heap hh.out (.int .i64 F.1.1) (.int .i64 F.1.2))
  refine bodyPost_ret (by simp [results, Tryz.results59, go_sem, k0, k1, t4, t5]; rfl) rfl ?_
  rw [hF.out]
  exact ⟨rfl, put2_below hB.out (Nat.le_refl _) _ _⟩
 replace fin := hide fin
 by_cases hi : isAt x.l n = true
 ·have hlt := P4.out hi
  have hF := hide (P1.out hlt hi)
  obtain ⟨g, ca', ev, hc, q1, q2, _⟩ := H2.out.row.at (fun c => by rw [c] at hlt; simp at hlt)
  simp only [Value.slice.injEq] at ev
  obtain ⟨rfl, _, rfl⟩ := ev
  obtain ⟨k0, k1⟩ := hc _ hlt
  rw [hi]
  clear hc P1 P2 P3 P4 hi
  generalize x.l[cnt x.l n] = en at *
  generalize cnt x.l n = C at *
  generalize hN : x.l.length = N at *
  replace hN := hide hN
  go_wp2_with fail
  exact fin.out _ (en, true) hF.out (by simp) (by simp)
 ·have hi' : isAt x.l n = false := by simpa using hi
  rw [hi']
  by_cases hz : cnt x.l n = 0
  ·have hF := hide (P3.out hi' hz)
   rw [hz]
   clear P1 P2 P3 P4 hi hi'
   go_wp2_with fail
   exact fin.out _ ((0, 0), false) hF.out (by simp) (by simp)
  ·obtain ⟨M, hM⟩ : ∃ M, cnt x.l n = M + 1 := ⟨cnt x.l n - 1, by omega⟩
   have hlt : M < x.l.length := by omega
   have hF : Hid (findF x.l n = (x.l[M], true)) := by
    show _ = _
    rw [P2.out hi' (by omega)]
    simp only [hM, Nat.add_sub_cancel]
   obtain ⟨g, ca', ev, hc, q1, q2, _⟩ := H2.out.row.at (fun c => by rw [c] at hlt; simp at hlt)
   simp only [Value.slice.injEq] at ev
   obtain ⟨rfl, _, rfl⟩ := ev
   obtain ⟨k0, k1⟩ := hc _ hlt
   rw [hM]
   rw [hM] at hcl
   clear hc P1 P2 P3 P4 hi hi' hz hM
   generalize x.l[M] = en at *
   generalize hN : x.l.length = N at *
   replace hN := hide hN
   have hw2 : IntKind.i64.wrap (M : Int) = (M : Int) := by rw [IntKind.wrap_i64]; omega
   go_wp2_with fail
   exact fin.out _ (en, true) hF.out (by simp) (by simp)
end Go.Proofs.YtnimildpcnmjeaaGreatDoor.Ix
namespace Go.Proofs.YtnimildpcnmjeaaGreatDoor.Sg
open Go.RowKit Go.Maps Go.Sort Go.Shelf Go.Proofs.YtnimildpcnmjeaaGreatDoor.Nm Go.Proofs.YtnimildpcnmjeaaGreatDoor.Dk
open Ix (wp_region_T wpAnyT wpAnyT_take wpAnyT_one wpAnyT_done vac)
theorem wpAnyT_two {P : Program} {ops : Array Oper} {Q : Exit → Act → World → Prop} {md : Region.Mode} {S : World → Prop} {d : Nat} {i j : Nat} {oi oj : Oper} {fuel : Nat} {listed : Array Bool} {a : Act} {w : World} (hr : Region.ready md ops listed = [i, j]) (hoi : ops[i]? = some oi) (hoj : ops[j]? = some oj)
    (hI : ∀ K' : Act → World → Prop, Shut (∀ a w, ((listed.setIfInBounds i true).getD d false = false → S w) → wpAnyT P md ops Q S d fuel (listed.setIfInBounds i true) a w → K' a w) → if Region.wanted oi (yielded ops a.tmps) = true then Oper.wp P oi a w K' Q else K' (a.put oi.dst undef) w)
    (hJ : ∀ K' : Act → World → Prop, Shut (∀ a w, ((listed.setIfInBounds j true).getD d false = false → S w) → wpAnyT P md ops Q S d fuel (listed.setIfInBounds j true) a w → K' a w) → if Region.wanted oj (yielded ops a.tmps) = true then Oper.wp P oj a w K' Q else K' (a.put oj.dst undef) w) :
    wpAnyT P md ops Q S d (fuel + 1) listed a w := by
 refine ⟨fun h0 => (by rw [h0] at hr; cases hr), fun k hk => ?_⟩
 rw [hr] at hk
 simp only [List.mem_cons, List.not_mem_nil, or_false] at hk
 rcases hk with rfl | rfl
 ·exact wpOp_step hoi (fun K' hK => hI K' (fun a w hS hW => hK a w ⟨hS, hW⟩))
 ·exact wpOp_step hoj (fun K' hK => hJ K' (fun a w hS hW => hK a w ⟨hS, hW⟩))
theorem keepF {w u v : World} (h : Below w.heap.size w u) (q : Below u.heap.size u v) : Below w.heap.size w v := h.trans (q.mono h.size)
theorem cell_of {w : World} {b j : Nat} {cs : Array Value} {T : TypeId} {z : Nat × Nat} (h : w.heap[b]? = some (.cells cs T z)) : w.cell? ⟨b, j, none⟩ = cs[j]? := by simp [World.cell?, h]
def SOwn (sb xb mb : Nat) (v : Value) : Nat → Prop := fun k => k = sb ∨ k = xb ∨ k = mb ∨ v.ownBlock = some k
theorem Seg.cells {w : World} {sb : Nat} {s : SG} {xb mb : Nat} {v : Value} (h : Seg w sb s xb mb v) : w.cell? ⟨sb, 0, none⟩ = some (.pointer (some ⟨s.b, 0, none⟩)) ∧ w.cell? ⟨sb, 1, none⟩ = some (.string s.file) ∧ w.cell? ⟨sb, 2, none⟩ = some (.int .i64 s.num) ∧ w.cell? ⟨sb, 3, none⟩ = some (.int .i64 s.base) ∧ w.cell? ⟨sb, 4, none⟩ = some (.int .u32 s.hs) ∧ w.cell? ⟨sb, 5, none⟩ = some (.int .i64 s.next) ∧ w.cell? ⟨sb, 6, none⟩ = some (.int .i64 s.size) ∧ w.cell? ⟨sb, 7, none⟩ = some (.int .u32 s.seed) ∧ w.cell? ⟨sb, 8, none⟩ = some (.int .i64 s.cond) ∧ w.cell? ⟨sb, 9, none⟩ = some (.pointer (some ⟨xb, 0, none⟩)) ∧ w.cell? ⟨sb, 10, none⟩ = some (.map (some mb)) := by
 refine ⟨?_, ?_, ?_, ?_, ?_, ?_, ?_, ?_, ?_, ?_, ?_⟩ <;> (rw [cell_of h.box]; rfl)
theorem Seg.frozen {w : World} {sb : Nat} {s : SG} {xb mb : Nat} {v : Value} (h : Seg w sb s xb mb v) (j : Nat) : w.frozen? ⟨sb, j, none⟩ = false := by simp [World.frozen?, h.box]
theorem Seg.but {Y : Nat → Prop} {A B : World} {sb : Nat} {s : SG} {xb mb : Nat} {v : Value} (h : Seg A sb s xb mb v) (hb : But Y A B) (hx : ∀ k, SOwn sb xb mb v k → ¬ Y k) : Seg B sb s xb mb v :=
 ⟨hb.at h.box (hx sb (.inl rfl)), h.ix.but hb fun k hk => hx k (by rcases hk with hk | hk; exact .inr (.inl hk); exact .inr (.inr (.inr hk))), h.sm.heap (hb.block mb h.sm.lt (hx mb (.inr (.inr (.inl rfl))))), h.ap⟩
theorem Seg.below {A B : World} {sb : Nat} {s : SG} {xb mb : Nat} {v : Value} (h : Seg A sb s xb mb v) (hb : Below A.heap.size A B) : Seg B sb s xb mb v := h.but (But.of_below hb fun _ => False) fun _ _ c => c
theorem Seg.lt {w : World} {sb : Nat} {s : SG} {xb mb : Nat} {v : Value} (h : Seg w sb s xb mb v) : ∀ k, SOwn sb xb mb v k → k < w.heap.size := fun k hk => by
 rcases hk with rfl | rfl | rfl | hk
 ·exact heap_lt h.box
 ·exact h.ix.lt _ (.inl rfl)
 ·exact h.sm.lt
 ·exact h.ix.lt _ (.inr hk)
theorem Seg.add {w w' : World} {sb : Nat} {s : SG} {xb mb : Nat} {v v' : Value} {x' : Ix.X} (h : Seg w sb s xb mb v) (hx : Ix.At Ix.TI w' xb x' v') (hb : But (Ix.Own xb v) w w') (ho : ∀ k, v'.ownBlock = some k → v.ownBlock = some k ∨ w.heap.size ≤ k) : Seg w' sb { s with x := x' } xb mb v' := by
 obtain ⟨a1, a2, a3, a4⟩ := h.ap
 refine ⟨hb.at h.box ?_, hx, h.sm.heap (hb.block mb h.sm.lt ?_), a1, a2, a3, fun k hk => ?_⟩
 ·rintro (c | c)
  ·exact a2 c.symm
  ·exact (a4 _ c).1 rfl
 ·rintro (c | c)
  ·exact a1 c.symm
  ·exact (a4 _ c).2.2 rfl
 ·rcases ho k hk with c | c
  ·exact a4 k c
  ·have z1 := h.lt sb (.inl rfl)
   have z2 := h.lt xb (.inr (.inl rfl))
   have z3 := h.lt mb (.inr (.inr (.inl rfl)))
   omega
theorem Seg.seeds {w w' : World} {sb : Nat} {s : SG} {xb mb : Nat} {v : Value} {l : Sr} (h : Seg w sb s xb mb v) (hm : Sm w' mb l) (hb : But (fun k => k = mb) w w') : Seg w' sb { s with sd := l } xb mb v := by
 obtain ⟨a1, a2, a3, a4⟩ := h.ap
 refine ⟨hb.at h.box (fun c => a3 c.symm), h.ix.but hb ?_, hm, a1, a2, a3, a4⟩
 rintro k (rfl | hk) c
 ·exact a1 c
 ·exact (a4 k hk).2.2 c
theorem Seg.set5 {w : World} {sb : Nat} {s : SG} {xb mb : Nat} {v : Value} (h : Seg w sb s xb mb v) (n : Int) : Seg (w.setCell ⟨sb, 5, none⟩ (.int .i64 n)) sb { s with next := n } xb mb v := by
 have hb : But (fun k => k = sb) w (w.setCell ⟨sb, 5, none⟩ (.int .i64 n)) := But.of_grownBy (grown_setCell w sb 5 _) fun k e => by cases e; rfl
 obtain ⟨a1, a2, a3, a4⟩ := h.ap
 refine ⟨by rw [heap_setCell_same w sb 5 _ _ _ h.box]; rfl, h.ix.but hb ?_, h.sm.heap (hb.block mb h.sm.lt a3), a1, a2, a3, a4⟩
 rintro k (rfl | hk) c
 ·exact a2 c
 ·exact (a4 k hk).1 c
theorem Seg.set6 {w : World} {sb : Nat} {s : SG} {xb mb : Nat} {v : Value} (h : Seg w sb s xb mb v) (n : Int) : Seg (w.setCell ⟨sb, 6, none⟩ (.int .i64 n)) sb { s with size := n } xb mb v := by
 have hb : But (fun k => k = sb) w (w.setCell ⟨sb, 6, none⟩ (.int .i64 n)) := But.of_grownBy (grown_setCell w sb 6 _) fun k e => by cases e; rfl
 obtain ⟨a1, a2, a3, a4⟩ := h.ap
 refine ⟨by rw [heap_setCell_same w sb 6 _ _ _ h.box]; rfl, h.ix.but hb ?_, h.sm.heap (hb.block mb h.sm.lt a3), a1, a2, a3, a4⟩
 rintro k (rfl | hk) c
 ·exact a2 c
 ·exact (a4 k hk).1 c
theorem Seg.set7 {w : World} {sb : Nat} {s : SG} {xb mb : Nat} {v : Value} (h : Seg w sb s xb mb v) (n : Int) : Seg (w.setCell ⟨sb, 7, none⟩ (.int .u32 n)) sb { s with seed := n } xb mb v := by
 have hb : But (fun k => k = sb) w (w.setCell ⟨sb, 7, none⟩ (.int .u32 n)) := But.of_grownBy (grown_setCell w sb 7 _) fun k e => by cases e; rfl
 obtain ⟨a1, a2, a3, a4⟩ := h.ap
 refine ⟨by rw [heap_setCell_same w sb 7 _ _ _ h.box]; rfl, h.ix.but hb ?_, h.sm.heap (hb.block mb h.sm.lt a3), a1, a2, a3, a4⟩
 rintro k (rfl | hk) c
 ·exact a2 c
 ·exact (a4 k hk).1 c
theorem Seg.set8 {w : World} {sb : Nat} {s : SG} {xb mb : Nat} {v : Value} (h : Seg w sb s xb mb v) (n : Int) : Seg (w.setCell ⟨sb, 8, none⟩ (.int .i64 n)) sb { s with cond := n } xb mb v := by
 have hb : But (fun k => k = sb) w (w.setCell ⟨sb, 8, none⟩ (.int .i64 n)) := But.of_grownBy (grown_setCell w sb 8 _) fun k e => by cases e; rfl
 obtain ⟨a1, a2, a3, a4⟩ := h.ap
 refine ⟨by rw [heap_setCell_same w sb 8 _ _ _ h.box]; rfl, h.ix.but hb ?_, h.sm.heap (hb.block mb h.sm.lt a3), a1, a2, a3, a4⟩
 rintro k (rfl | hk) c
 ·exact a2 c
 ·exact (a4 k hk).1 c
theorem but_sb (w : World) (sb j : Nat) (x : Value) (Y : Nat → Prop) (hY : Y sb) : But Y w (w.setCell ⟨sb, j, none⟩ x) := But.of_grownBy (grown_setCell w sb j x) fun k e => by cases e; exact hY
def SG.grown (s : SG) (z sum : Int) : SG :=
 { s with next := s.next + 1, size := s.size + z, seed := sum, x := (Ix.addF s.x s.next s.size).2, sd := if (Ix.findF (Ix.addF s.x s.next s.size).2.l s.next).1.1 = s.next then sput s.sd s.next s.seed else s.sd }
structure SOk (s : SG) : Prop where
 x : Ix.Ok s.x
 n1 : 1 ≤ s.next
 n2 : s.next ≤ 9223372036854775807
 z1 : 32 ≤ s.size
 z2 : s.size ≤ 2147483647
 l : s.sd.length ≤ 1000000000
 e : 0 ≤ s.seed ∧ s.seed < 4294967296
 d : ∀ p ∈ s.sd, 0 ≤ p.2 ∧ p.2 < 4294967296
theorem sput_mem {l : Sr} {n f : Int} {p : Int × Int} (h : p ∈ sput l n f) : p = (n, f) ∨ p ∈ l := by
 have h1 : ∀ (x : Int × Int) (r : Sr), p ∈ sins x r → p = x ∨ p ∈ r := fun x r => by
  induction r with
  | nil => intro h; simp [sins] at h; exact .inl h
  | cons y r ih =>
   intro h
   unfold sins at h
   split at h
   ·simpa using h
   ·rcases List.mem_cons.1 h with h | h
    ·exact .inr (by simp [h])
    ·rcases ih h with h | h
     ·exact .inl h
     ·exact .inr (by simp [h])
 rcases h1 _ _ h with h | h
 ·exact .inl h
 ·exact .inr (List.mem_filter.1 h).1
theorem sput_len (l : Sr) (n f : Int) : (sput l n f).length ≤ l.length + 1 := by
 have h1 : ∀ (x : Int × Int) (r : Sr), (sins x r).length = r.length + 1 := fun x r => by
  induction r with
  | nil => rfl
  | cons y r ih =>
   unfold sins
   split
   ·simp
   ·simp [ih]
 unfold sput sdel
 rw [h1]
 have := List.length_filter_le (fun p : Int × Int => !(p.1 == n)) l
 omega
theorem grow_any {w : World} {sb : Nat} {s : SG} {xb mb : Nat} {v : Value} (h : Seg w sb s xb mb v) (ok : SOk s) (z sum : Int) (hn : s.next ≤ 9223372036854775806) (hz : 0 ≤ z) (hz2 : s.size + z ≤ 2147483647) :
    Calls Tryz.prog 87 #[.pointer (some ⟨sb, 0, none⟩), .int .i64 z, .int .u32 sum] w fun e w' => e = .returned (.tuple #[]) ∧ ∃ v', Seg w' sb (s.grown z sum) xb mb v' ∧ But (SOwn sb xb mb v) w w' ∧ (∀ k, v'.ownBlock = some k → v.ownBlock = some k ∨ w.heap.size ≤ k) := by
 have hz1 := ok.z1
 have hn1 := ok.n1
 have hll := ok.l
 have hA := hide (fun u (hu : Ix.At Ix.TI u xb s.x v) => Ix.add_any u xb s.x v s.next s.size hu ok.x (by omega) (by omega) (by omega) (by omega))
 have hXok := hide (ok.x.add s.next s.size (by omega))
 obtain ⟨X, hX⟩ : ∃ X, Hid ((Ix.addF s.x s.next s.size).2 = X) := ⟨_, rfl⟩
 rw [hX.out] at hA hXok
 generalize (Ix.addF s.x s.next s.size).1 = er at hA
 have H := hide h
 have hG : Hid (s.grown z sum = { s with next := s.next + 1, size := s.size + z, seed := sum, x := X, sd := if (Ix.findF X.l s.next).1.1 = s.next then sput s.sd s.next s.seed else s.sd }) := hide (by unfold SG.grown; rw [hX.out])
 rw [hG.out]
 obtain ⟨fe, hfe⟩ : ∃ fe, Hid (Ix.findF X.l s.next = fe) := ⟨_, rfl⟩
 rw [hfe.out]
 obtain ⟨⟨f1, f2⟩, f3⟩ := fe
 simp only
 obtain ⟨SL, hSL⟩ : ∃ SL, Hid ((if f1 = s.next then sput s.sd s.next s.seed else s.sd) = SL) := ⟨_, rfl⟩
 rw [hSL.out]
 clear h hG hX
 go_enter Tryz.func87, Tryz.ntmps87
 go_upto_region 0 with fail
 go_cut [20] from 8 to 19 (fun y wx => y = .int .i64 er ∧ Hid (∃ v', Seg wx sb { s with x := X } xb mb v' ∧ But (SOwn sb xb mb v) w wx ∧ (∀ k, v'.ownBlock = some k → v.ownBlock = some k ∨ w.heap.size ≤ k)))
 case first =>
  refine wp_region_T (fun q => Seg q sb s xb mb v) 12 (by kernel_rfl) ?_
  have KP : Hid (Seg w.drew sb s xb mb v) := H.out.below (Below.refl _ _).drew
  have KB : Hid (Below w.heap.size w w.drew) := hide (Below.refl _ _).drew
  generalize w.drew = q at *
  refine Ix.tk 0 ⟨some 8, .move (.tmp 0), _, _, _, _⟩ (.pointer (some ⟨sb, 0, none⟩)) [1,2,3,12] ?_ KP.out ?_
  ·intro wq hSw
   obtain ⟨y0, y1, y2, y3, y4, y5, y6, y7, y8, y9, y10⟩ := hSw.cells
   go_simp
  (try simp only [zzp, zzb, zzc])
  refine Ix.tk 1 ⟨some 9, .nilCheck (.tmp 8), _, _, _, _⟩ (.pointer (some ⟨sb, 0, none⟩)) [2,3,12] ?_ KP.out ?_
  ·intro wq hSw
   obtain ⟨y0, y1, y2, y3, y4, y5, y6, y7, y8, y9, y10⟩ := hSw.cells
   go_simp
  (try simp only [zzp, zzb, zzc])
  refine Ix.tk 2 ⟨some 10, .fieldAddr 109 (.tmp 9) 7, _, _, _, _⟩ (.pointer (some ⟨sb, 9, none⟩)) [3,12] ?_ KP.out ?_
  ·intro wq hSw
   obtain ⟨y0, y1, y2, y3, y4, y5, y6, y7, y8, y9, y10⟩ := hSw.cells
   go_simp
  (try simp only [zzp, zzb, zzc])
  refine Ix.tk 3 ⟨some 11, .load 106 (.tmp 10), _, _, _, _⟩ (.pointer (some ⟨xb, 0, none⟩)) [12] ?_ KP.out ?_
  ·intro wq hSw
   obtain ⟨y0, y1, y2, y3, y4, y5, y6, y7, y8, y9, y10⟩ := hSw.cells
   go_simp
  (try simp only [zzp, zzb, zzc])
  refine Ix.tk 4 ⟨some 12, .move (.tmp 0), _, _, _, _⟩ (.pointer (some ⟨sb, 0, none⟩)) [5,6,7,12] ?_ KP.out ?_
  ·intro wq hSw
   obtain ⟨y0, y1, y2, y3, y4, y5, y6, y7, y8, y9, y10⟩ := hSw.cells
   go_simp
  (try simp only [zzp, zzb, zzc])
  refine Ix.tk 5 ⟨some 13, .nilCheck (.tmp 12), _, _, _, _⟩ (.pointer (some ⟨sb, 0, none⟩)) [6,7,12] ?_ KP.out ?_
  ·intro wq hSw
   obtain ⟨y0, y1, y2, y3, y4, y5, y6, y7, y8, y9, y10⟩ := hSw.cells
   go_simp
  (try simp only [zzp, zzb, zzc])
  refine Ix.tk 6 ⟨some 14, .fieldAddr 109 (.tmp 13) 3, _, _, _, _⟩ (.pointer (some ⟨sb, 5, none⟩)) [7,12] ?_ KP.out ?_
  ·intro wq hSw
   obtain ⟨y0, y1, y2, y3, y4, y5, y6, y7, y8, y9, y10⟩ := hSw.cells
   go_simp
  (try simp only [zzp, zzb, zzc])
  refine Ix.tk 7 ⟨some 15, .load 2 (.tmp 14), _, _, _, _⟩ (.int .i64 s.next) [12] ?_ KP.out ?_
  ·intro wq hSw
   obtain ⟨y0, y1, y2, y3, y4, y5, y6, y7, y8, y9, y10⟩ := hSw.cells
   go_simp
  (try simp only [zzp, zzb, zzc])
  refine Ix.tk 8 ⟨some 16, .move (.tmp 0), _, _, _, _⟩ (.pointer (some ⟨sb, 0, none⟩)) [9,10,11,12] ?_ KP.out ?_
  ·intro wq hSw
   obtain ⟨y0, y1, y2, y3, y4, y5, y6, y7, y8, y9, y10⟩ := hSw.cells
   go_simp
  (try simp only [zzp, zzb, zzc])
  refine Ix.tk 9 ⟨some 17, .nilCheck (.tmp 16), _, _, _, _⟩ (.pointer (some ⟨sb, 0, none⟩)) [10,11,12] ?_ KP.out ?_
  ·intro wq hSw
   obtain ⟨y0, y1, y2, y3, y4, y5, y6, y7, y8, y9, y10⟩ := hSw.cells
   go_simp
  (try simp only [zzp, zzb, zzc])
  refine Ix.tk 10 ⟨some 18, .fieldAddr 109 (.tmp 17) 4, _, _, _, _⟩ (.pointer (some ⟨sb, 6, none⟩)) [11,12] ?_ KP.out ?_
  ·intro wq hSw
   obtain ⟨y0, y1, y2, y3, y4, y5, y6, y7, y8, y9, y10⟩ := hSw.cells
   go_simp
  (try simp only [zzp, zzb, zzc])
  refine Ix.tk 11 ⟨some 19, .load 3 (.tmp 18), _, _, _, _⟩ (.int .i64 s.size) [12] ?_ KP.out ?_
  ·intro wq hSw
   obtain ⟨y0, y1, y2, y3, y4, y5, y6, y7, y8, y9, y10⟩ := hSw.cells
   go_simp
  (try simp only [zzp, zzb, zzc])
  refine wpAnyT_one (i := 12) (o := ⟨some 20, .call { callee := .value (.func 130), args := #[.tmp 11, .tmp 15, .tmp 19], argTypes := #[106, 2, 3] }, _, _, _, _⟩) (by kernel_rfl) rfl (fun K hK => ?_)
  go_simp
  go_at_call 130
  refine (hA.out q KP.out.ix).mono ?_
  rintro e w1 ⟨rfl, v1, X1, b1, o1⟩
  have S1 := hide (KP.out.add X1 b1 o1)
  have B1 : Hid (But (SOwn sb xb mb v) w w1) := hide ((But.of_below KB.out _).trans (b1.mono fun k _ hk => by rcases hk with hk | hk; exact .inr (.inl hk); exact .inr (.inr (.inr hk))))
  have O1 : Hid (∀ k, v1.ownBlock = some k → v.ownBlock = some k ∨ w.heap.size ≤ k) := hide fun k hk => (o1 k hk).imp id fun c => Nat.le_trans KB.out.size c
  clear X1 b1 o1
  (try go_simp)
  refine hK.out _ _ (vac (by kernel_rfl)) ?_
  clear hK K
  (try simp only [zzp, zzb, zzc])
  refine wpAnyT_done (by kernel_rfl) ?_ _
  go_wp2_with fail
  go_meet
  case rel => exact ⟨rfl, v1, S1.out, B1.out, O1.out⟩
 case rest =>
  obtain ⟨rfl, hcu⟩ := hcut
  obtain ⟨v1, S1, B1, O1⟩ := hcu.out
  replace S1 := hide S1
  replace B1 := hide B1
  replace O1 := hide O1
  clear hcu H hA
  generalize hwc : wc = w1 at *
  clear hwc
  have hF := hide (fun u (hu : Ix.At Ix.TI u xb X v1) => Ix.find_any u xb X v1 s.next hu hXok.out (by omega) (by omega))
  rw [hfe.out] at hF
  unfold Ix.entv at hF
  simp only at hF
  go_upto_region 1 with fail
  go_cut [6, 7] from 21 to 32 (fun y6 y7 wx => ∃ eb, y6 = .pointer (some ⟨eb, 0, none⟩) ∧ y7 = .bool f3 ∧ Hid (Below w1.heap.size w1 wx ∧ wx.heap[eb]? = some (.cells #[.int .i64 f1, .int .i64 f2] 117 (0, 0))))
  case first =>
   refine wp_region_T (fun q => Seg q sb { s with x := X } xb mb v1) 14 (by kernel_rfl) ?_
   have KP : Hid (Seg w1.drew sb { s with x := X } xb mb v1) := S1.out.below (Below.refl _ _).drew
   have KB : Hid (Below w1.heap.size w1 w1.drew) := hide (Below.refl _ _).drew
   generalize w1.drew = q at *
   refine Ix.tk 0 ⟨some 22, .move (.tmp 0), _, _, _, _⟩ (.pointer (some ⟨sb, 0, none⟩)) [14] ?_ KP.out ?_
   ·intro wq hSw
    obtain ⟨y0, y1, y2, y3, y4, y5, y6, y7, y8, y9, y10⟩ := hSw.cells
    go_simp
   (try simp only [zzp, zzb, zzc])
   refine Ix.tk 1 ⟨some 23, .nilCheck (.tmp 22), _, _, _, _⟩ (.pointer (some ⟨sb, 0, none⟩)) [14] ?_ KP.out ?_
   ·intro wq hSw
    obtain ⟨y0, y1, y2, y3, y4, y5, y6, y7, y8, y9, y10⟩ := hSw.cells
    go_simp
   (try simp only [zzp, zzb, zzc])
   refine Ix.tk 2 ⟨some 24, .fieldAddr 109 (.tmp 23) 7, _, _, _, _⟩ (.pointer (some ⟨sb, 9, none⟩)) [14] ?_ KP.out ?_
   ·intro wq hSw
    obtain ⟨y0, y1, y2, y3, y4, y5, y6, y7, y8, y9, y10⟩ := hSw.cells
    go_simp
   (try simp only [zzp, zzb, zzc])
   refine Ix.tk 3 ⟨some 25, .load 106 (.tmp 24), _, _, _, _⟩ (.pointer (some ⟨xb, 0, none⟩)) [14] ?_ KP.out ?_
   ·intro wq hSw
    obtain ⟨y0, y1, y2, y3, y4, y5, y6, y7, y8, y9, y10⟩ := hSw.cells
    go_simp
   (try simp only [zzp, zzb, zzc])
   refine Ix.tk 4 ⟨some 26, .move (.tmp 0), _, _, _, _⟩ (.pointer (some ⟨sb, 0, none⟩)) [14] ?_ KP.out ?_
   ·intro wq hSw
    obtain ⟨y0, y1, y2, y3, y4, y5, y6, y7, y8, y9, y10⟩ := hSw.cells
    go_simp
   (try simp only [zzp, zzb, zzc])
   refine Ix.tk 5 ⟨some 27, .nilCheck (.tmp 26), _, _, _, _⟩ (.pointer (some ⟨sb, 0, none⟩)) [14] ?_ KP.out ?_
   ·intro wq hSw
    obtain ⟨y0, y1, y2, y3, y4, y5, y6, y7, y8, y9, y10⟩ := hSw.cells
    go_simp
   (try simp only [zzp, zzb, zzc])
   refine Ix.tk 6 ⟨some 28, .fieldAddr 109 (.tmp 27) 3, _, _, _, _⟩ (.pointer (some ⟨sb, 5, none⟩)) [14] ?_ KP.out ?_
   ·intro wq hSw
    obtain ⟨y0, y1, y2, y3, y4, y5, y6, y7, y8, y9, y10⟩ := hSw.cells
    go_simp
   (try simp only [zzp, zzb, zzc])
   refine Ix.tk 7 ⟨some 29, .load 2 (.tmp 28), _, _, _, _⟩ (.int .i64 s.next) [14] ?_ KP.out ?_
   ·intro wq hSw
    obtain ⟨y0, y1, y2, y3, y4, y5, y6, y7, y8, y9, y10⟩ := hSw.cells
    go_simp
   (try simp only [zzp, zzb, zzc])
   have N8 := hide (heap_alloc_new q (.cells #[.int .i64 0, .int .i64 0] 117))
   have B8 := hide (box_below q (.cells #[.int .i64 0, .int .i64 0] 117))
   have K8 := hide (KP.out.below B8.out)
   refine wpAnyT_two (i := 8) (j := 12) (oi := ⟨some 30, .call { callee := .value (.func 59), args := #[.tmp 25, .tmp 29], argTypes := #[106, 2] }, _, _, _, _⟩) (oj := ⟨some 6, .alloc 117, _, _, _, _⟩) (by kernel_rfl) rfl rfl ?_ ?_
   ·intro K hK
    go_simp
    go_at_call 59
    refine (hF.out q KP.out.ix).mono ?_
    rintro e w2 ⟨rfl, b2⟩
    have KU := hide (keepF KB.out b2)
    have K2 := hide (KP.out.below b2)
    (try go_simp)
    refine hK.out _ _ (fun _ => K2.out) ?_
    clear hK K
    (try simp only [zzp, zzb, zzc])
    refine Ix.tk 9 ⟨some 21, .move (.tmp 30), _, _, _, _⟩ (.tuple #[.agg #[.int .i64 f1, .int .i64 f2], .bool f3]) [14] ?_ K2.out ?_
    ·intro wq hSw; go_simp
    (try simp only [zzp, zzb, zzc])
    refine Ix.tk 10 ⟨some 31, .extract (.tmp 21) 0, _, _, _, _⟩ (.agg #[.int .i64 f1, .int .i64 f2]) [14] ?_ K2.out ?_
    ·intro wq hSw; go_simp
    (try simp only [zzp, zzb, zzc])
    refine Ix.tk 11 ⟨some 32, .extract (.tmp 21) 1, _, _, _, _⟩ (.bool f3) [14] ?_ K2.out ?_
    ·intro wq hSw; go_simp
    (try simp only [zzp, zzb, zzc])
    refine wpAnyT_one (i := 12) (o := ⟨some 6, .alloc 117, _, _, _, _⟩) (by kernel_rfl) rfl (fun K hK => ?_)
    go_simp
    refine hK.out _ _ (fun _ => K2.out.below (box_below w2 (.cells #[.int .i64 0, .int .i64 0] 117))) ?_
    clear hK K
    (try simp only [zzp, zzb, zzc])
    refine wpAnyT_one (i := 13) (o := ⟨none, .store 117 (.tmp 6) (.tmp 31), _, _, _, _⟩) (by kernel_rfl) rfl (fun K hK => ?_)
    go_simp
    refine hK.out _ _ (fun _ => K2.out.below (box_below w2 (.cells #[.int .i64 f1, .int .i64 f2] 117))) ?_
    clear hK K
    (try simp only [zzq])
    refine wpAnyT_one (i := 14) (o := ⟨some 7, .assign (.tmp 32), _, _, _, _⟩) (by kernel_rfl) rfl (fun K hK => ?_)
    go_simp
    refine hK.out _ _ (vac (by kernel_rfl)) ?_
    clear hK K
    (try simp only [zzp, zzb, zzc])
    refine wpAnyT_done (by kernel_rfl) ?_ _
    go_wp2_with fail
    go_meet
    case rel => exact ⟨w2.heap.size, rfl, rfl, keepF KU.out (box_below w2 (.cells #[.int .i64 f1, .int .i64 f2] 117)), heap_alloc_new w2 (.cells #[.int .i64 f1, .int .i64 f2] 117)⟩
   ·intro K hK
    go_simp
    refine hK.out _ _ (fun _ => K8.out) ?_
    clear hK K
    (try simp only [zzp, zzb, zzc])
    refine wpAnyT_one (i := 8) (o := ⟨some 30, .call { callee := .value (.func 59), args := #[.tmp 25, .tmp 29], argTypes := #[106, 2] }, _, _, _, _⟩) (by kernel_rfl) rfl (fun K hK => ?_)
    go_simp
    go_at_call 59
    refine (hF.out (q.alloc (.cells #[.int .i64 0, .int .i64 0] 117)) K8.out.ix).mono ?_
    rintro e w2 ⟨rfl, b2⟩
    have KU := hide (keepF (keepF KB.out B8.out) b2)
    have NU := (But.of_below b2 fun _ => False).at N8.out (fun c => c)
    have z0 : w2.frozen? ⟨q.heap.size, 0, none⟩ = false := by simp [World.frozen?, NU]
    have z1 : w2.frozen? ⟨q.heap.size, 1, none⟩ = false := by simp [World.frozen?, NU]
    have d0 : w2.cell? ⟨q.heap.size, 0, none⟩ = some (.int .i64 0) := by rw [cell_of NU]; rfl
    have d1 : w2.cell? ⟨q.heap.size, 1, none⟩ = some (.int .i64 0) := by rw [cell_of NU]; rfl
    replace NU := hide NU
    have K2 := hide (K8.out.below b2)
    (try go_simp)
    refine hK.out _ _ (fun _ => K2.out) ?_
    clear hK K
    (try simp only [zzp, zzb, zzc])
    refine Ix.tk 9 ⟨some 21, .move (.tmp 30), _, _, _, _⟩ (.tuple #[.agg #[.int .i64 f1, .int .i64 f2], .bool f3]) [14] ?_ K2.out ?_
    ·intro wq hSw; go_simp
    (try simp only [zzp, zzb, zzc])
    refine Ix.tk 10 ⟨some 31, .extract (.tmp 21) 0, _, _, _, _⟩ (.agg #[.int .i64 f1, .int .i64 f2]) [14] ?_ K2.out ?_
    ·intro wq hSw; go_simp
    (try simp only [zzp, zzb, zzc])
    refine Ix.tk 11 ⟨some 32, .extract (.tmp 21) 1, _, _, _, _⟩ (.bool f3) [14] ?_ K2.out ?_
    ·intro wq hSw; go_simp
    (try simp only [zzp, zzb, zzc])
    have hqs : w1.heap.size ≤ q.heap.size := KB.out.size
    have K3 : Hid (Seg ((w2.setCell ⟨q.heap.size, 0, none⟩ (.int .i64 f1)).setCell ⟨q.heap.size, 1, none⟩ (.int .i64 f2)) sb { s with x := X } xb mb v1) := hide (by
     refine K2.out.but (Y := fun k => k = q.heap.size) ((but_sb w2 _ 0 _ (fun k => k = q.heap.size) rfl).trans (but_sb _ _ 1 _ (fun k => k = q.heap.size) rfl)) fun k hk c => ?_
     have := KP.out.lt k hk
     omega)
    refine wpAnyT_one (i := 13) (o := ⟨none, .store 117 (.tmp 6) (.tmp 31), _, _, _, _⟩) (by kernel_rfl) rfl (fun K hK => ?_)
    go_simp
    refine hK.out _ _ (fun _ => K3.out) ?_
    clear hK K
    (try simp only [zzq])
    refine wpAnyT_one (i := 14) (o := ⟨some 7, .assign (.tmp 32), _, _, _, _⟩) (by kernel_rfl) rfl (fun K hK => ?_)
    go_simp
    refine hK.out _ _ (vac (by kernel_rfl)) ?_
    clear hK K
    (try simp only [zzp, zzb, zzc])
    refine wpAnyT_done (by kernel_rfl) ?_ _
    go_wp2_with fail
    go_meet
    case rel => exact ⟨q.heap.size, rfl, rfl, (KU.out.setCell hqs _).setCell hqs _, by rw [heap_setCell_same _ _ 1 _ _ _ (heap_setCell_same w2 q.heap.size 0 _ _ _ NU.out)]; rfl⟩
  case rest =>
   obtain ⟨eb, rfl, rfl, hcu⟩ := hcut
   obtain ⟨b2, n2⟩ := hcu.out
   have S2 := hide (S1.out.below b2)
   replace B1 : Hid (But (SOwn sb xb mb v) w wc) := hide (B1.out.trans (But.of_below b2 _))
   replace n2 := hide n2
   clear hcu b2 S1 hF
   generalize hwc : wc = w2 at *
   clear hwc
   have e0 : w2.cell? ⟨eb, 0, none⟩ = some (.int .i64 f1) := by rw [cell_of n2.out]; rfl
   obtain ⟨y0, y1, y2, y3, y4, y5, y6, y7, y8, y9, y10⟩ := S2.out.cells
   simp only at y5
   have kn : IntKind.i64.wrap (s.next + 1) = s.next + 1 := by simp [IntKind.wrap, IntKind.bits, IntKind.signed]; omega
   have kz : IntKind.i64.wrap (s.size + z) = s.size + z := by simp [IntKind.wrap, IntKind.bits, IntKind.signed]; omega
   have FIN : Hid (∀ (u : World) (l : Sr) (vx : Value), Seg u sb { s with x := X, sd := l } xb mb v1 → But (SOwn sb xb mb v) w u → ∃ v', Seg (((u.setCell ⟨sb, 5, none⟩ (.int .i64 (s.next + 1))).setCell ⟨sb, 6, none⟩ (.int .i64 (s.size + z))).setCell ⟨sb, 7, none⟩ (.int .u32 sum)) sb { s with next := s.next + 1, size := s.size + z, seed := sum, x := X, sd := l } xb mb v' ∧ But (SOwn sb xb mb v) w (((u.setCell ⟨sb, 5, none⟩ (.int .i64 (s.next + 1))).setCell ⟨sb, 6, none⟩ (.int .i64 (s.size + z))).setCell ⟨sb, 7, none⟩ (.int .u32 sum)) ∧ (∀ k, v'.ownBlock = some k → v.ownBlock = some k ∨ w.heap.size ≤ k)) := hide fun u l _ hs hb =>
    ⟨v1, ((hs.set5 _).set6 _).set7 _, ((hb.trans (but_sb _ sb 5 _ _ (.inl rfl))).trans (but_sb _ sb 6 _ _ (.inl rfl))).trans (but_sb _ sb 7 _ _ (.inl rfl)), O1.out⟩
   by_cases hf : f1 = s.next
   ·have kf : (f1 == s.next) = true := by simp [hf]
    have hSL2 : Hid (sput s.sd s.next s.seed = SL) := hide (by have := hSL.out; rwa [if_pos hf] at this)
    clear hSL
    replace hf := hide hf
    go_upto_region 2 with fail
    go_quiet (fail)
    have b3 : Below w2.heap.size w2 (w2.drewN nq) := below_drewN (Below.refl _ _) nq
    have S3 := hide (S2.out.below b3)
    replace B1 := hide (B1.out.trans (But.of_below b3 _))
    clear b3 e0 y0 y1 y2 y3 y4 y5 y6 y7 y8 y9 y10 S2 n2
    generalize w2.drewN nq = w3 at *
    go_upto_region 3 with fail
    refine wp_region_T (fun q => Seg q sb { s with x := X } xb mb v1) 12 (by kernel_rfl) ?_
    have KP : Hid (Seg w3.drew sb { s with x := X } xb mb v1) := S3.out.below (Below.refl _ _).drew
    replace B1 : Hid (But (SOwn sb xb mb v) w w3.drew) := hide (B1.out.trans (But.of_below (Below.refl _ _).drew _))
    generalize w3.drew = q at *
    refine Ix.tk 0 ⟨some 40, .move (.tmp 0), _, _, _, _⟩ (.pointer (some ⟨sb, 0, none⟩)) [12] ?_ KP.out ?_
    ·intro wq hSw
     obtain ⟨y0, y1, y2, y3, y4, y5, y6, y7, y8, y9, y10⟩ := hSw.cells
     go_simp
    (try simp only [zzp, zzb, zzc])
    refine Ix.tk 1 ⟨some 41, .nilCheck (.tmp 40), _, _, _, _⟩ (.pointer (some ⟨sb, 0, none⟩)) [12] ?_ KP.out ?_
    ·intro wq hSw
     obtain ⟨y0, y1, y2, y3, y4, y5, y6, y7, y8, y9, y10⟩ := hSw.cells
     go_simp
    (try simp only [zzp, zzb, zzc])
    refine Ix.tk 2 ⟨some 42, .fieldAddr 109 (.tmp 41) 8, _, _, _, _⟩ (.pointer (some ⟨sb, 10, none⟩)) [12] ?_ KP.out ?_
    ·intro wq hSw
     obtain ⟨y0, y1, y2, y3, y4, y5, y6, y7, y8, y9, y10⟩ := hSw.cells
     go_simp
    (try simp only [zzp, zzb, zzc])
    refine Ix.tk 3 ⟨some 43, .load 107 (.tmp 42), _, _, _, _⟩ (.map (some mb)) [12] ?_ KP.out ?_
    ·intro wq hSw
     obtain ⟨y0, y1, y2, y3, y4, y5, y6, y7, y8, y9, y10⟩ := hSw.cells
     go_simp
    (try simp only [zzp, zzb, zzc])
    refine Ix.tk 4 ⟨some 44, .move (.tmp 0), _, _, _, _⟩ (.pointer (some ⟨sb, 0, none⟩)) [12] ?_ KP.out ?_
    ·intro wq hSw
     obtain ⟨y0, y1, y2, y3, y4, y5, y6, y7, y8, y9, y10⟩ := hSw.cells
     go_simp
    (try simp only [zzp, zzb, zzc])
    refine Ix.tk 5 ⟨some 45, .nilCheck (.tmp 44), _, _, _, _⟩ (.pointer (some ⟨sb, 0, none⟩)) [12] ?_ KP.out ?_
    ·intro wq hSw
     obtain ⟨y0, y1, y2, y3, y4, y5, y6, y7, y8, y9, y10⟩ := hSw.cells
     go_simp
    (try simp only [zzp, zzb, zzc])
    refine Ix.tk 6 ⟨some 46, .fieldAddr 109 (.tmp 45) 3, _, _, _, _⟩ (.pointer (some ⟨sb, 5, none⟩)) [12] ?_ KP.out ?_
    ·intro wq hSw
     obtain ⟨y0, y1, y2, y3, y4, y5, y6, y7, y8, y9, y10⟩ := hSw.cells
     go_simp
    (try simp only [zzp, zzb, zzc])
    refine Ix.tk 7 ⟨some 47, .load 2 (.tmp 46), _, _, _, _⟩ (.int .i64 s.next) [12] ?_ KP.out ?_
    ·intro wq hSw
     obtain ⟨y0, y1, y2, y3, y4, y5, y6, y7, y8, y9, y10⟩ := hSw.cells
     go_simp
    (try simp only [zzp, zzb, zzc])
    refine Ix.tk 8 ⟨some 48, .move (.tmp 0), _, _, _, _⟩ (.pointer (some ⟨sb, 0, none⟩)) [12] ?_ KP.out ?_
    ·intro wq hSw
     obtain ⟨y0, y1, y2, y3, y4, y5, y6, y7, y8, y9, y10⟩ := hSw.cells
     go_simp
    (try simp only [zzp, zzb, zzc])
    refine Ix.tk 9 ⟨some 49, .nilCheck (.tmp 48), _, _, _, _⟩ (.pointer (some ⟨sb, 0, none⟩)) [12] ?_ KP.out ?_
    ·intro wq hSw
     obtain ⟨y0, y1, y2, y3, y4, y5, y6, y7, y8, y9, y10⟩ := hSw.cells
     go_simp
    (try simp only [zzp, zzb, zzc])
    refine Ix.tk 10 ⟨some 50, .fieldAddr 109 (.tmp 49) 5, _, _, _, _⟩ (.pointer (some ⟨sb, 7, none⟩)) [12] ?_ KP.out ?_
    ·intro wq hSw
     obtain ⟨y0, y1, y2, y3, y4, y5, y6, y7, y8, y9, y10⟩ := hSw.cells
     go_simp
    (try simp only [zzp, zzb, zzc])
    refine Ix.tk 11 ⟨some 51, .load 49 (.tmp 50), _, _, _, _⟩ (.int .u32 s.seed) [12] ?_ KP.out ?_
    ·intro wq hSw
     obtain ⟨y0, y1, y2, y3, y4, y5, y6, y7, y8, y9, y10⟩ := hSw.cells
     go_simp
    (try simp only [zzp, zzb, zzc])
    obtain ⟨w4, hr4, m4, t4⟩ := KP.out.sm.store (n := s.next) (f := s.seed) (by omega) (by omega) (by simp only; unfold maxLen; omega)
    unfold TS sv at hr4
    simp only at m4
    rw [hSL2.out] at m4
    have S4 := KP.out.seeds m4 (turned_but t4)
    have B4 : But (SOwn sb xb mb v) w w4 := B1.out.trans ((turned_but t4).mono fun k _ hk => .inr (.inr (.inl hk)))
    obtain ⟨v', FS, FB, FO⟩ := FIN.out w4 SL v1 S4 B4
    obtain ⟨y0, y1, y2, y3, y4, y5, y6, y7, y8, y9, y10⟩ := S4.cells
    have z5 := S4.frozen 5
    have z6 := S4.frozen 6
    have z7 := S4.frozen 7
    simp only at y5 y6 y7
    replace FS := hide FS
    replace FB := hide FB
    replace FO := hide FO
    clear S4 B4 m4 t4
    refine wpAnyT_one (i := 12) (o := ⟨none, .mapUpdate 107 (.tmp 43) (.tmp 47) (.tmp 51), _, _, _, _⟩) (by kernel_rfl) rfl (fun K hK => ?_)
    go_simp
    refine hK.out _ _ (vac (by kernel_rfl)) ?_
    clear hK K hr4
    (try simp only [zzq])
    refine wpAnyT_done (by kernel_rfl) ?_ _
    go_wp2_with fail
    go_returns
    exact ⟨rfl, v', FS.out, FB.out, FO.out⟩
   ·have kf : (f1 == s.next) = false := by simp [hf]
    have hSL2 : Hid (s.sd = SL) := hide (by have := hSL.out; rwa [if_neg hf] at this)
    clear hSL
    replace hf := hide hf
    go_upto_region 2 with fail
    go_quiet (fail)
    have b3 : Below w2.heap.size w2 (w2.drewN nq) := below_drewN (Below.refl _ _) nq
    have S3 : Seg (w2.drewN nq) sb { s with x := X, sd := SL } xb mb v1 := by have := S2.out.below b3; rwa [← hSL2.out]
    have B3 : But (SOwn sb xb mb v) w (w2.drewN nq) := B1.out.trans (But.of_below b3 _)
    obtain ⟨v', FS, FB, FO⟩ := FIN.out _ SL v1 S3 B3
    clear e0 y0 y1 y2 y3 y4 y5 y6 y7 y8 y9 y10
    obtain ⟨y0, y1, y2, y3, y4, y5, y6, y7, y8, y9, y10⟩ := S3.cells
    have z5 := S3.frozen 5
    have z6 := S3.frozen 6
    have z7 := S3.frozen 7
    simp only at y5 y6 y7
    replace FS := hide FS
    replace FB := hide FB
    replace FO := hide FO
    clear S3 B3 b3 S2
    generalize w2.drewN nq = w3 at *
    go_wp2_with fail
    go_returns
    exact ⟨rfl, v', FS.out, FB.out, FO.out⟩
theorem made_yes (w : World) (sb b : Nat) (h : w.cell? ⟨sb, 0, none⟩ = some (.pointer (some ⟨b, 0, none⟩))) : Calls Tryz.prog 51 #[.pointer (some ⟨sb, 0, none⟩)] w fun e w' => e = .returned (.bool true) ∧ w' = w := by
 go_enter Tryz.func51, Tryz.ntmps51
 go_wp2_with fail
 go_ret
 exact ⟨rfl, rfl⟩
theorem lookSize : (Tryz.prog.info? 79).map (·.size) = some 8 := by kernel_rfl
def lookZ : Array Value := #[.string ⟨#[]⟩, .int .i64 0, .int .i64 0, .int .u32 0, .int .i64 0, .int .i64 0, .int .u32 0, .bool false]
end Go.Proofs.YtnimildpcnmjeaaGreatDoor.Sg
namespace Go.Proofs.YtnimildpcnmjeaaGreatDoor
open Go.RowKit
def sg64 (n : Nat) : Int := if n < 9223372036854775808 then (n : Int) else (n : Int) - 18446744073709551616
theorem sg64_wrap (n : Nat) (h : n < 18446744073709551616) : IntKind.i64.wrap (n : Int) = sg64 n := by
 rw [IntKind.wrap_i64]; unfold sg64; split <;> omega
theorem number_any (w : World) (rb : Nat) (v : Value) (l : List UInt8) (s : Nat × Int) (h : RdrAt w rb l s.1 s.2) :
    Calls Tryz.prog 138 #[.agg #[.pointer (some ⟨rb, 0, none⟩), v]] w fun e w' => e = .returned (.int .i64 (sg64 (stv l 8 s))) ∧ RdrAt w' rb l (stp l 8 s).1 (stp l 8 s).2 ∧ w.grownBy w' (some rb) := by
 have hN := hide (stv_lt l 8 s)
 have hr := hide (h.below (box_below w (.cells #[.pointer (some ⟨rb, 0, none⟩), v] 211)))
 obtain ⟨N, hNe⟩ : ∃ N, Hid (stv l 8 s = N) := ⟨_, rfl⟩
 rw [hNe.out]
 rw [hNe.out] at hN
 have hW : IntKind.i64.wrap (N : Int) = sg64 N := sg64_wrap N (by simpa using hN.out)
 go_enter Tryz.func138, Tryz.ntmps138
 go_wp2_with fail
 refine (fixed64_tot _ rb l s hr.out).mono ?_
 rintro e w1 ⟨rfl, hr1, hg1⟩
 rw [hNe.out]
 replace hr1 := hide hr1
 have hg := hide (box_grown hg1)
 clear hg1
 go_wp2_with fail
 go_ret
 exact ⟨by first | rfl | (rw [← hW]) , hr1.out, hg.out⟩
theorem short_any (w : World) (rb : Nat) (v : Value) (l : List UInt8) (k : Nat) (er : Int) (h : RdrAt w rb l k er) :
    Calls Tryz.prog 139 #[.agg #[.pointer (some ⟨rb, 0, none⟩), v]] w fun e w' => e = .returned (.bool (er != 0)) ∧ Below w.heap.size w w' := by
 have hr := hide (h.below (box_below w (.cells #[.pointer (some ⟨rb, 0, none⟩), v] 211)))
 go_enter Tryz.func139, Tryz.ntmps139
 go_wp2_with fail
 refine (err_any _ rb l k er hr.out).mono ?_
 rintro e w1 ⟨rfl, hq⟩
 have hb := hide (keepF (box_below w (.cells #[.pointer (some ⟨rb, 0, none⟩), v] 211)) (hq.below _))
 clear hq
 generalize (if er = 0 then 0 else (k : Int)) = z
 go_wp2_with fail
 go_ret
 exact ⟨rfl, hb.out⟩
theorem behind_any (w : World) (rb : Nat) (v : Value) (l m : List UInt8) (k : Nat) (er : Int) (n : Nat) (hn : n ≤ 4096) (h : RdrAt w rb m k er) (hv : Sl w v l) (hk : k ≤ l.length) :
    Calls Tryz.prog 141 #[.agg #[.pointer (some ⟨rb, 0, none⟩), v], .int .i64 (n : Int)] w fun e w' =>
     (l.length - k < n ∧ e = .returned (.tuple #[.slice none 0 0, .bool false]) ∧ Below w.heap.size w w') ∨
     (n ≤ l.length - k ∧ ∃ v', e = .returned (.tuple #[v', .bool true]) ∧ w'.ownsRow w.heap.size 5 1 v' ((l.drop k).take n).length (bvals ((l.drop k).take n)) ∧ Below w.heap.size w w') := by
 have hr0 := hide (h.below (box_below w (.cells #[.pointer (some ⟨rb, 0, none⟩), v] 211)))
 obtain ⟨ao, ca, rfl, g2, g3, g4, g5⟩ := hv
 have HS := hide (sl_drop k hk g2 g3 g4 g5)
 have HL := hide hk
 obtain ⟨L, hL⟩ : ∃ L, Hid (l.length = L) := ⟨_, rfl⟩
 rw [hL.out] at hk g3 HS hr0
 rw [hL.out]
 have hm : ca ≤ 9223372036854775807 := by unfold maxLen at g4; omega
 have hkc : k ≤ ca := by omega
 generalize hz : (if ca = k then ao else Option.map (fun x : Addr => x.add k) ao) = zo at *
 clear g2 g4 g5 h
 go_enter Tryz.func141, Tryz.ntmps141
 go_wp2_with fail
 go_quiet ((go_at_call 186; exact Calls.quiet_of_same (at_any _ rb m k er (hr0.out.below (Qt.below ⟨_, rfl⟩ _)))))
 clear hz
 have HB : Hid (Below w.heap.size w ((w.alloc (.cells #[.pointer (some ⟨rb, 0, none⟩), .slice ao L ca] 211)).drewN nq)) := keepF (box_below _ _) (Qt.below ⟨_, rfl⟩ _)
 clear hr0
 generalize (w.alloc (.cells #[.pointer (some ⟨rb, 0, none⟩), .slice ao L ca] 211)).drewN nq = wq at *
 obtain ⟨J, hJ⟩ : ∃ J, J = L - k := ⟨_, rfl⟩
 have hcJ : J ≤ ca - k := by omega
 have hcm : ca - k ≤ 9223372036854775807 := by omega
 have HJ := hide hJ
 rw [← hJ] at HS ⊢
 generalize ca - k = cb at *
 clear hJ hkc hk g3 hm
 by_cases hlt : J < n
 ·go_wp2_with fail
  go_ret2
  exact Or.inl ⟨by rw [← HJ.out]; exact hlt, rfl, HB.out⟩
 ·have hle : n ≤ J := by omega
  have hnc : n ≤ cb := by omega
  have hlen : Hid ((l.drop k).length = J) := by show _ = _; rw [List.length_drop, hL.out, HJ.out]
  have s1 := hide (Below.sl HB.out (sl_take n (by rw [hlen.out]; exact hle) HS.out hlen.out))
  have hbl : Hid (((l.drop k).take n).length ≤ 140737488355328) := by show _ ≤ _; simp; omega
  go_wp2_with fail
  refine (clone_any _ _ _ s1.out hbl.out).mono ?_
  rintro e w2 ⟨v2, rfl, ho, hb⟩
  have ho2 := hide (owns_lower ho HB.out.size)
  have hb2 := hide (keepF HB.out hb)
  clear ho hb
  go_wp2_with fail
  go_ret2
  exact Or.inr ⟨by rw [← HJ.out]; exact hle, _, rfl, ho2.out, hb2.out⟩
def fN (l : List UInt8) : Nat := num (l.take 4)
def fL (l : List UInt8) : Nat := num ((l.drop 4).take 8)
def fM (l : List UInt8) : Nat := num ((l.drop 12).take 4)
def fD (l : List UInt8) : List UInt8 := (l.drop 16).take (fN l)
def rdE (seed : Crc.R) (l : List UInt8) : Int :=
 if l.length < 16 then 2 else if 4096 < fN l then 3 else if fL l < 1 ∨ 9223372036854775806 < fL l then 4 else if l.length - 16 < fN l then 2 else if (Crc.maskOf (fsum seed (fL l) (fD l))).toNat ≠ fM l then 5 else 0
def rdF (seed : Crc.R) (l : List UInt8) : Int × List UInt8 × Int × Crc.R × Int :=
 if rdE seed l = 0 then ((fL l : Int), fD l, 16 + (fN l : Int), fsum seed (fL l) (fD l), 0) else (0, [], 0, 0#32, rdE seed l)
def DoesRead (f : Nat) : Prop := ∀ (w : World) (seed : Crc.R) (v : Value) (l : List UInt8), Sl w v l →
 Calls Tryz.prog f #[.int .u32 (seed.toNat : Int), v] w fun e w' => ∃ v', e = .returned (.tuple #[.agg #[.int .i64 (rdF seed l).1, v'], .int .i64 (rdF seed l).2.2.1, .int .u32 ((rdF seed l).2.2.2.1.toNat : Int), .int .i64 (rdF seed l).2.2.2.2]) ∧ w'.ownsRow w.heap.size 5 1 v' (rdF seed l).2.1.length (bvals (rdF seed l).2.1) ∧ Below w.heap.size w w'
theorem read3_ok (l : List UInt8) (h : 16 ≤ l.length) : stp (l.take 16) 4 (stp (l.take 16) 8 (stp (l.take 16) 4 (0, 0))) = (16, 0) ∧ stv (l.take 16) 4 (0, 0) = fN l ∧ stv (l.take 16) 8 (stp (l.take 16) 4 (0, 0)) = fL l ∧ stv (l.take 16) 4 (stp (l.take 16) 8 (stp (l.take 16) 4 (0, 0))) = fM l := by
 have hl : (l.take 16).length = 16 := by simp; omega
 have e1 : stp (l.take 16) 4 (0, 0) = (4, 0) := by simp [stp, hl]
 have e2 : stp (l.take 16) 8 (4, 0) = (12, 0) := by simp [stp, hl]
 have e3 : stp (l.take 16) 4 (12, 0) = (16, 0) := by simp [stp, hl]
 rw [e1, e2, e3]
 refine ⟨rfl, ?_, ?_, ?_⟩
 ·simp [stv, hl, fN, List.take_take]
 ·simp [stv, hl, fL, List.drop_take, List.take_take]
 ·simp [stv, hl, fM, List.drop_take, List.take_take]
theorem read3_no (l : List UInt8) (h : l.length < 16) : ((stp (l.take 16) 4 (stp (l.take 16) 8 (stp (l.take 16) 4 (0, 0)))).2 != 0) = true := by
 have hl : (l.take 16).length = l.length := by simp; omega
 unfold stp
 rw [hl]
 simp only [Nat.zero_add, if_true]
 by_cases h4 : 4 ≤ l.length
 ·simp only [h4, if_true]
  by_cases h12 : 4 + 8 ≤ l.length
  ·simp only [h12, if_true]
   rw [if_neg (by omega)]; rfl
  ·simp [h12]
 ·simp [h4]
def RS (w0 q : World) (b0 b8 rb : Nat) (c0 : Array Value) (T0 : TypeId) (v : Value) (l : List UInt8) (s : Nat × Int) : Prop :=
 q.heap[b0]? = some (.cells c0 T0 (0, 0)) ∧ q.heap[b8]? = some (.cells #[.pointer (some ⟨rb, 0, none⟩), v] 211 (0, 0)) ∧ RdrAt q rb l s.1 s.2 ∧ Below w0.heap.size w0 q ∧ b0 ≠ rb ∧ b8 ≠ rb ∧ w0.heap.size ≤ rb
theorem RS.step {w0 q q' : World} {b0 b8 rb : Nat} {c0 : Array Value} {T0 : TypeId} {v : Value} {l : List UInt8} {s s' : Nat × Int} (h : RS w0 q b0 b8 rb c0 T0 v l s) (hg : q.grownBy q' (some rb)) (hr : RdrAt q' rb l s'.1 s'.2) : RS w0 q' b0 b8 rb c0 T0 v l s' := by
 obtain ⟨h1, h2, h3, h4, h5, h6, h7⟩ := h
 refine ⟨?_, ?_, hr, below_block h4 hg h7, h5, h6, h7⟩
 ·rw [hg.block b0 (heap_lt h1) (by simpa using h5)]; exact h1
 ·rw [hg.block b8 (heap_lt h2) (by simpa using h6)]; exact h2
theorem RS.below {w0 q q' : World} {b0 b8 rb : Nat} {c0 : Array Value} {T0 : TypeId} {v : Value} {l : List UInt8} {s : Nat × Int} (h : RS w0 q b0 b8 rb c0 T0 v l s) (hb : Below q.heap.size q q') : RS w0 q' b0 b8 rb c0 T0 v l s := by
 obtain ⟨h1, h2, h3, h4, h5, h6, h7⟩ := h
 exact ⟨by rw [hb.block b0 (heap_lt h1)]; exact h1, by rw [hb.block b8 (heap_lt h2)]; exact h2, h3.below hb, keepF h4 hb, h5, h6, h7⟩
theorem RS.cells {w0 q : World} {b0 b8 rb : Nat} {c0 : Array Value} {T0 : TypeId} {v : Value} {l : List UInt8} {s : Nat × Int} (h : RS w0 q b0 b8 rb c0 T0 v l s) : q.cell? ⟨b8, 0, none⟩ = some (.pointer (some ⟨rb, 0, none⟩)) ∧ q.cell? ⟨b8, 1, none⟩ = some v :=
 ⟨(two_cells h.2.1).1, (two_cells h.2.1).2.1⟩
theorem RS.f32 {w0 q : World} {b0 b8 rb : Nat} {c0 : Array Value} {T0 : TypeId} {v : Value} {l : List UInt8} {s : Nat × Int} (h : RS w0 q b0 b8 rb c0 T0 v l s) :
    Calls Tryz.prog 107 #[.pointer (some ⟨rb, 0, none⟩)] q fun e w' => e = .returned (.int .u32 (stv l 4 s : Int)) ∧ RS w0 w' b0 b8 rb c0 T0 v l (stp l 4 s) :=
 (fixed32_tot q rb l s h.2.2.1).mono fun _ _ ⟨e, r, g⟩ => ⟨e, h.step g r⟩
theorem RS.num {w0 q : World} {b0 b8 rb : Nat} {c0 : Array Value} {T0 : TypeId} {v : Value} {l : List UInt8} {s : Nat × Int} (h : RS w0 q b0 b8 rb c0 T0 v l s) :
    Calls Tryz.prog 138 #[.agg #[.pointer (some ⟨rb, 0, none⟩), v]] q fun e w' => e = .returned (.int .i64 (sg64 (stv l 8 s))) ∧ RS w0 w' b0 b8 rb c0 T0 v l (stp l 8 s) :=
 (number_any q rb v l s h.2.2.1).mono fun _ _ ⟨e, r, g⟩ => ⟨e, h.step g r⟩
theorem RS.short {w0 q : World} {b0 b8 rb : Nat} {c0 : Array Value} {T0 : TypeId} {v : Value} {l : List UInt8} {s : Nat × Int} (h : RS w0 q b0 b8 rb c0 T0 v l s) :
    Calls Tryz.prog 139 #[.agg #[.pointer (some ⟨rb, 0, none⟩), v]] q fun e w' => e = .returned (.bool (s.2 != 0)) ∧ RS w0 w' b0 b8 rb c0 T0 v l s :=
 (short_any q rb v l s.1 s.2 h.2.2.1).mono fun _ _ ⟨e, b⟩ => ⟨e, h.below b⟩
theorem inB_sg (X : Nat) (h : X < 18446744073709551616) : inB (sg64 X) 9223372036854775806 = decide (1 ≤ X ∧ X ≤ 9223372036854775806) := by
 rw [Bool.eq_iff_iff]
 unfold inB sg64
 simp only [Bool.and_eq_true, decide_eq_true_eq]
 split <;> omega
theorem put2_owns {w : World} {b base n : Nat} {v : Value} {xs : List Value} {z0 z1 : Value} {T : TypeId} (h : w.ownsRow base 5 1 v n xs) (hb : w.heap[b]? = some (.cells #[z0, z1] T (0, 0))) (hT : T ≠ 5 := by decide) {a0 a1 : Value} : (put2 w b a0 a1).ownsRow base 5 1 v n xs := by
 have hne : v.ownBlock ≠ some b := fun e => by
  obtain ⟨_, p⟩ := id h
  rcases p with ⟨rfl, _⟩ | ⟨g, cap, cur, rfl, _, hg, _⟩
  ·simp [Value.ownBlock] at e
  ·simp [Value.ownBlock] at e
   subst e
   rw [hb] at hg
   simp at hg
   exact hT hg.2
 exact ownsRow_setCell_other (ownsRow_setCell_other h hne _) hne _
theorem read_any : DoesRead 98 := by
 intro w seed v l hv
 have HV := hide hv
 obtain ⟨n, hn⟩ : ∃ n, Hid (l.length = n) := ⟨_, rfl⟩
 obtain ⟨ao, ca, rfl⟩ := hv.form hn.out
 have HV1 := hide (Below.sl (box_below w (.cells #[.int .i64 0, .slice none 0 0] 56)) hv)
 clear hv
 obtain ⟨F, hF⟩ : ∃ F, Hid (rdF seed l = F) := ⟨_, rfl⟩
 rw [hF.out]
 go_enter Tryz.func98, Tryz.ntmps98
 go_wp2_with fail
 refine (newR_any _ _ l 16 (by omega) HV1.out).mono ?_
 rintro e w1 ⟨rb, rfl, hr, hb, hrb⟩
 have hB : Hid (Below w.heap.size w w1) := keepF (box_below _ _) hb
 have hh := hb.block w.heap.size (by simp)
 rw [heap_alloc_new] at hh
 have hrb' : Hid (w.heap.size + 1 ≤ rb) := by simpa [Hid] using hrb
 replace hh := hide hh
 replace hr := hide hr
 clear hb hrb
 go_wp2_with fail
 have R0 : Hid (RS w (w1.alloc (.cells #[.pointer (some ⟨rb, 0, none⟩), .slice ao n ca] 211)).drew w.heap.size w1.heap.size rb #[.int .i64 0, .slice none 0 0] 56 (.slice ao n ca) (l.take 16) (0, 0)) := by
  have hlt := hr.out.lt
  have hbx := box_below w1 (.cells #[.pointer (some ⟨rb, 0, none⟩), .slice ao n ca] 211)
  refine ⟨?_, heap_alloc_new _ _, (hr.out.below hbx).drew, (keepF hB.out hbx).drew, by have := hrb'.out; omega, by omega, by have := hrb'.out; omega⟩
  show (w1.alloc _).heap[w.heap.size]? = _
  rw [hbx.block w.heap.size (heap_lt hh.out)]; exact hh.out
 have hS0 := R0.out.cells
 clear hh hr hB hrb'
 go_region_held3 (fun q => q.cell? ⟨w1.heap.size, 0, none⟩ = some (.pointer (some ⟨rb, 0, none⟩)) ∧ q.cell? ⟨w1.heap.size, 1, none⟩ = some (.slice ao n ca))
  (first | exact hS0 | assumption | exact RS.cells (by assumption))
  (first
   | (go_at_call 107; refine (RS.f32 R2).mono ?_; rintro e u3 ⟨rfl, R3⟩)
   | (go_at_call 138; refine (RS.num R1).mono ?_; rintro e u2 ⟨rfl, R2⟩)
   | (go_at_call 107; refine (RS.f32 R0.out).mono ?_; rintro e u1 ⟨rfl, R1⟩))
 clear R0 R1 R2 hS0 HV1
 have R3' := hide R3
 obtain ⟨hc8, hc9⟩ := R3.cells
 clear R3
 rename_i hold
 clear hold
 obtain ⟨N, hN⟩ : ∃ N, Hid (stv (l.take 16) 4 (0, 0) = N) := ⟨_, rfl⟩
 obtain ⟨X, hX⟩ : ∃ X, Hid (stv (l.take 16) 8 (stp (l.take 16) 4 (0, 0)) = X) := ⟨_, rfl⟩
 obtain ⟨M, hM⟩ : ∃ M, Hid (stv (l.take 16) 4 (stp (l.take 16) 8 (stp (l.take 16) 4 (0, 0))) = M) := ⟨_, rfl⟩
 obtain ⟨s3, hs3⟩ : ∃ s3, Hid (stp (l.take 16) 4 (stp (l.take 16) 8 (stp (l.take 16) 4 (0, 0))) = s3) := ⟨_, rfl⟩
 rw [hN.out, hX.out, hM.out]
 rw [hs3.out] at R3'
 have hNb : N < 4294967296 := by rw [← hN.out]; have := stv_lt (l.take 16) 4 (0, 0); simpa using this
 have hXb : X < 18446744073709551616 := by rw [← hX.out]; have := stv_lt (l.take 16) 8 (stp (l.take 16) 4 (0, 0)); simpa using this
 have hMb : M < 4294967296 := by rw [← hM.out]; have := stv_lt (l.take 16) 4 (stp (l.take 16) 8 (stp (l.take 16) 4 (0, 0))); simpa using this
 have HXb := hide hXb
 clear hXb
 go_wp2_with fail
 refine (RS.short R3'.out).mono ?_
 rintro e u4 ⟨rfl, R4⟩
 replace R4 := hide R4
 clear R3' hc8 hc9
 by_cases h16 : n < 16
 ·have hne : Hid ((s3.2 != 0) = true) := by rw [← hs3.out]; exact read3_no l (by rw [hn.out]; exact h16)
  rw [hne.out]
  obtain rfl : F = (0, [], 0, 0#32, 2) := by
   rw [← hF.out]
   have e : rdE seed l = 2 := by rw [rdE, if_pos (by rw [hn.out]; exact h16)]
   rw [rdF, e]; rfl
  have hP := hide (two_cells (put2_heap R4.out.1 (.int .i64 0) (.slice none 0 0)))
  have hB2 := hide (put2_below R4.out.2.2.2.1 (Nat.le_refl _) (.int .i64 0) (.slice none 0 0))
  obtain ⟨p0, p1, p2, p3⟩ := two_cells R4.out.1
  go_wp2_with fail
  show bodyPost _ _ _ _ _ (put2 u4 w.heap.size (.int .i64 0) (.slice none 0 0))
  obtain ⟨w9, hw9⟩ : ∃ w9, Hid (put2 u4 w.heap.size (.int .i64 0) (.slice none 0 0) = w9) := ⟨_, rfl⟩
  rw [hw9.out] at hP hB2 ⊢
  obtain ⟨k0, k1, _, _⟩ := hP.out
  refine bodyPost_ret (by simp [results, Tryz.results98, go_sem, k0, k1]; rfl) rfl ?_
  exact ⟨_, rfl, World.ownsRow_nil _ _ _ _, hB2.out⟩
 ·obtain ⟨e0, e1, e2, e3⟩ := read3_ok l (by rw [hn.out]; omega)
  rw [hN.out] at e1
  rw [hX.out] at e2
  rw [hM.out] at e3
  rw [hs3.out] at e0
  subst e0
  have E16 : Hid (¬ l.length < 16) := by show ¬ _; rw [hn.out]; exact h16
  replace e1 := hide e1
  replace e2 := hide e2
  replace e3 := hide e3
  have hz : (((16 : Nat), (0 : Int)).2 != 0) = false := rfl
  rw [hz]
  clear hz hN hX hM hs3
  by_cases h3 : 4096 < N
  ·obtain rfl : F = (0, [], 0, 0#32, 3) := by
     rw [← hF.out]
     have e : rdE seed l = 3 := by rw [rdE, if_neg E16.out, if_pos (by rw [← e1.out]; exact h3)]
     rw [rdF, e]; rfl
   have hP := hide (two_cells (put2_heap R4.out.1 (.int .i64 0) (.slice none 0 0)))
   have hB2 := hide (put2_below R4.out.2.2.2.1 (Nat.le_refl _) (.int .i64 0) (.slice none 0 0))
   obtain ⟨p0, p1, p2, p3⟩ := two_cells R4.out.1
   go_wp2_with fail
   show bodyPost _ _ _ _ _ (put2 u4 w.heap.size (.int .i64 0) (.slice none 0 0))
   obtain ⟨w9, hw9⟩ : ∃ w9, Hid (put2 u4 w.heap.size (.int .i64 0) (.slice none 0 0) = w9) := ⟨_, rfl⟩
   rw [hw9.out] at hP hB2 ⊢
   obtain ⟨k0, k1, _, _⟩ := hP.out
   refine bodyPost_ret (by simp [results, Tryz.results98, go_sem, k0, k1]; rfl) rfl ?_
   exact ⟨_, rfl, World.ownsRow_nil _ _ _ _, hB2.out⟩
  ·cases hin : inB (sg64 X) 9223372036854775806 with
   | false =>
    have hbad : fL l < 1 ∨ 9223372036854775806 < fL l := by
     rw [← e2.out]
     rw [inB_sg X HXb.out, decide_eq_false_iff_not] at hin
     omega
    obtain rfl : F = (0, [], 0, 0#32, 4) := by
     rw [← hF.out]
     have e : rdE seed l = 4 := by rw [rdE, if_neg E16.out, if_neg (by rw [← e1.out]; exact h3), if_pos hbad]
     rw [rdF, e]; rfl
    replace hin := hide hin
    clear hbad
    go_wp2_with fail
    refine (within_any _ (sg64 X) 9223372036854775806).mono ?_
    rintro e w0 ⟨rfl, hw⟩
    obtain rfl := hw.symm
    rw [hin.out]
    have hP := hide (two_cells (put2_heap R4.out.1 (.int .i64 0) (.slice none 0 0)))
    have hB2 := hide (put2_below R4.out.2.2.2.1 (Nat.le_refl _) (.int .i64 0) (.slice none 0 0))
    obtain ⟨p0, p1, p2, p3⟩ := two_cells R4.out.1
    go_wp2_with fail
    show bodyPost _ _ _ _ _ (put2 u4 w.heap.size (.int .i64 0) (.slice none 0 0))
    obtain ⟨w9, hw9⟩ : ∃ w9, Hid (put2 u4 w.heap.size (.int .i64 0) (.slice none 0 0) = w9) := ⟨_, rfl⟩
    rw [hw9.out] at hP hB2 ⊢
    obtain ⟨k0, k1, _, _⟩ := hP.out
    refine bodyPost_ret (by simp [results, Tryz.results98, go_sem, k0, k1]; rfl) rfl ?_
    exact ⟨_, rfl, World.ownsRow_nil _ _ _ _, hB2.out⟩
   | true =>
    have hgood : 1 ≤ X ∧ X ≤ 9223372036854775806 := by
     rw [inB_sg X HXb.out, decide_eq_true_eq] at hin
     exact hin
    have hsg : sg64 X = (X : Int) := by unfold sg64; rw [if_pos (by omega)]
    have Hgood := hide hgood
    have hnb : Hid (¬ (fL l < 1 ∨ 9223372036854775806 < fL l)) := by show ¬ _; rw [← e2.out]; omega
    rw [hsg] at hin ⊢
    replace hin := hide hin
    have hn3 := hide (show ¬ (4096 < fN l) by rw [← e1.out]; exact h3)
    clear hgood hsg
    go_wp2_with fail
    refine (within_any _ (X : Int) 9223372036854775806).mono ?_
    rintro e w0 ⟨rfl, hw⟩
    obtain rfl := hw.symm
    rw [hin.out]
    obtain ⟨hc8, hc9⟩ := R4.out.cells
    have hV4 := hide (Below.sl R4.out.2.2.2.1 HV.out)
    have hN4 : Hid (N ≤ 4096) := by show _ ≤ _; omega
    go_wp2_with fail
    refine (behind_any _ rb _ l (l.take 16) 16 0 N hN4.out R4.out.2.2.1 hV4.out (by rw [hn.out]; omega)).mono ?_
    rintro e u5 (⟨hs, rfl, hb⟩ | ⟨hs, vd, rfl, hod, hb⟩)
    ·have R5 := hide (R4.out.below hb)
     clear hc8 hc9 hb
     obtain rfl : F = (0, [], 0, 0#32, 2) := by
      rw [← hF.out]
      have e : rdE seed l = 2 := by rw [rdE, if_neg E16.out, if_neg hn3.out, if_neg hnb.out, if_pos (by rw [← e1.out]; exact hs)]
      rw [rdF, e]; rfl
     replace hs := hide hs
     have hP := hide (two_cells (put2_heap R5.out.1 (.int .i64 0) (.slice none 0 0)))
     have hB2 := hide (put2_below R5.out.2.2.2.1 (Nat.le_refl _) (.int .i64 0) (.slice none 0 0))
     obtain ⟨p0, p1, p2, p3⟩ := two_cells R5.out.1
     go_wp2_with fail
     show bodyPost _ _ _ _ _ (put2 u5 w.heap.size (.int .i64 0) (.slice none 0 0))
     obtain ⟨w9, hw9⟩ : ∃ w9, Hid (put2 u5 w.heap.size (.int .i64 0) (.slice none 0 0) = w9) := ⟨_, rfl⟩
     rw [hw9.out] at hP hB2 ⊢
     obtain ⟨k0, k1, _, _⟩ := hP.out
     refine bodyPost_ret (by simp [results, Tryz.results98, go_sem, k0, k1]; rfl) rfl ?_
     exact ⟨_, rfl, World.ownsRow_nil _ _ _ _, hB2.out⟩
    ·have R5 := hide (R4.out.below hb)
     have hD : Hid ((l.drop 16).take N = fD l) := by show _ = _; rw [e1.out]; rfl
     rw [hD.out] at hod
     have hDl : Hid ((fD l).length = N) := by show _ = _; rw [← hD.out]; simp; omega
     have E2 : Hid (¬ (l.length - 16 < fN l)) := by show ¬ _; rw [← e1.out]; omega
     have sd := hide (Sl.of_owns hod)
     obtain ⟨aod, cad, rfl⟩ := sd.out.form hDl.out
     have od := hide (owns_lower hod R4.out.2.2.2.1.size)
     replace hs := hide hs
     clear hc8 hc9 hb hod R4 hV4
     go_wp2_with fail
     refine (frameFields_any _ (X : Int) N (by have := Hgood.out; omega) (by have := Hgood.out; omega) hN4.out).mono ?_
     rintro e u6 ⟨vf, rfl, hof, hb6⟩
     rw [Int.toNat_natCast, ← hDl.out] at hof
     have sf := hide (Sl.of_owns hof)
     have R6 := hide (R5.out.below hb6)
     have sd6 := hide (Below.sl hb6 sd.out)
     have od6 := hide (ownsRow_below od.out hb6)
     clear hof hb6 R5 sd od
     go_wp2_with fail
     refine (frameSum_any _ seed X _ _ (fD l) sf.out sd6.out (by rw [hDl.out]; exact hN4.out)).mono ?_
     rintro e u7 ⟨rfl, hb7⟩
     obtain ⟨S, hS⟩ : ∃ S, Hid (fsum seed X (fD l) = S) := ⟨_, rfl⟩
     rw [hS.out]
     have R7 := hide (R6.out.below hb7)
     have od7 := hide (ownsRow_below od6.out hb7)
     clear hb7 R6 sd6 od6 sf
     go_wp2_with fail
     refine (Crc.mask_any _ S).mono ?_
     rintro e w0 ⟨rfl, hw⟩
     obtain rfl := hw.symm
     by_cases hm : (Crc.maskOf S).toNat = M
     ·have hmi : (((Crc.maskOf S).toNat : Int) != (M : Int)) = false := by simp; omega
      obtain rfl : F = ((X : Int), fD l, 16 + (N : Int), S, 0) := by
       rw [← hF.out]
       have e : rdE seed l = 0 := by rw [rdE, if_neg E16.out, if_neg hn3.out, if_neg hnb.out, if_neg E2.out, if_neg (by rw [← e2.out, ← e3.out, hS.out]; simpa using hm)]
       rw [rdF, e, if_pos rfl, ← e1.out, ← e2.out, hS.out]
      have hsz : Hid (szF (N : Int) = 16 + (N : Int)) := by show _ = _; have := hN4.out; rw [szF, if_pos (by omega)]
      clear hm
      go_wp2_with fail
      refine (size_any _ (N : Int)).mono ?_
      rintro e w0 ⟨rfl, hw⟩
      obtain rfl := hw.symm
      rw [hsz.out]
      have hP := hide (two_cells (put2_heap R7.out.1 (.int .i64 (X : Int)) (.slice aod N cad)))
      have hB2 := hide (put2_below R7.out.2.2.2.1 (Nat.le_refl _) (.int .i64 (X : Int)) (.slice aod N cad))
      have OWN7 : Hid ((put2 u7 w.heap.size (.int .i64 (X : Int)) (.slice aod N cad)).ownsRow w.heap.size 5 1 (.slice aod N cad) (fD l).length (bvals (fD l))) := put2_owns od7.out R7.out.1
      obtain ⟨p0, p1, p2, p3⟩ := two_cells R7.out.1
      go_wp2_with fail
      show bodyPost _ _ _ _ _ (put2 u7 w.heap.size (.int .i64 (X : Int)) (.slice aod N cad))
      obtain ⟨w9, hw9⟩ : ∃ w9, Hid (put2 u7 w.heap.size (.int .i64 (X : Int)) (.slice aod N cad) = w9) := ⟨_, rfl⟩
      rw [hw9.out] at hP hB2 OWN7 ⊢
      obtain ⟨k0, k1, _, _⟩ := hP.out
      refine bodyPost_ret (by simp [results, Tryz.results98, go_sem, k0, k1]; rfl) rfl ?_
      exact ⟨_, rfl, OWN7.out, hB2.out⟩
     ·have hmi : (((Crc.maskOf S).toNat : Int) != (M : Int)) = true := by simp; omega
      obtain rfl : F = (0, [], 0, 0#32, 5) := by
       rw [← hF.out]
       have e : rdE seed l = 5 := by rw [rdE, if_neg E16.out, if_neg hn3.out, if_neg hnb.out, if_neg E2.out, if_pos (by rw [← e2.out, ← e3.out, hS.out]; simpa using hm)]
       rw [rdF, e]; rfl
      clear hm
      have hP := hide (two_cells (put2_heap R7.out.1 (.int .i64 0) (.slice none 0 0)))
      have hB2 := hide (put2_below R7.out.2.2.2.1 (Nat.le_refl _) (.int .i64 0) (.slice none 0 0))
      obtain ⟨p0, p1, p2, p3⟩ := two_cells R7.out.1
      go_wp2_with fail
      show bodyPost _ _ _ _ _ (put2 u7 w.heap.size (.int .i64 0) (.slice none 0 0))
      obtain ⟨w9, hw9⟩ : ∃ w9, Hid (put2 u7 w.heap.size (.int .i64 0) (.slice none 0 0) = w9) := ⟨_, rfl⟩
      rw [hw9.out] at hP hB2 ⊢
      obtain ⟨k0, k1, _, _⟩ := hP.out
      refine bodyPost_ret (by simp [results, Tryz.results98, go_sem, k0, k1]; rfl) rfl ?_
      exact ⟨_, rfl, World.ownsRow_nil _ _ _ _, hB2.out⟩
end Go.Proofs.YtnimildpcnmjeaaGreatDoor
namespace Go.Proofs.YtnimildpcnmjeaaGreatDoor.Sg
open Go.RowKit Go.Maps Go.Sort Go.Shelf Go.Proofs.YtnimildpcnmjeaaGreatDoor.Nm Go.Proofs.YtnimildpcnmjeaaGreatDoor.Dk
def refF (s : SG) (ls : List (List UInt8)) : Int :=
 if s.cond ≠ 0 then 40 else if ls = [] then 1 else if ∃ d ∈ ls, 4096 < d.length then 3 else if 9223372036854775806 - s.next + 1 < (ls.length : Int) then 44 else 0
theorem sls_at {w : World} {vs : List Value} {ls : List (List UInt8)} (h : Sls w vs ls) {i : Nat} (hi : i < ls.length) : ∃ ao ca, vs[i]? = some (.slice ao (ls.getD i []).length ca) ∧ Sl w (.slice ao (ls.getD i []).length ca) (ls.getD i []) := by
 have h1 : i < vs.length := by rw [h.1]; exact hi
 have h2 := h.2 i h1 hi
 have e : ls.getD i [] = ls[i] := by simp [hi]
 rw [e]
 obtain ⟨ao, ca, e2, r⟩ := h2
 refine ⟨ao, ca, by rw [List.getElem?_eq_getElem h1, e2], ?_⟩
 exact ⟨ao, ca, rfl, r⟩
theorem row_at {w : World} {ao : Option Addr} {n ca : Nat} {vs : List Value} (h : Row w (.slice ao n ca) vs) {i : Nat} {u : Value} (hu : vs[i]? = some u) : ∃ b off, ao = some ⟨b, off, none⟩ ∧ w.cell? ⟨b, off + i, none⟩ = some u := by
 obtain ⟨ao', ca', e, _, _, _, h5⟩ := h
 simp at e
 obtain ⟨rfl, _, rfl⟩ := e
 obtain ⟨hi, he⟩ := List.getElem?_eq_some_iff.1 hu
 obtain ⟨b, off, e1, hc⟩ := h5 i hi
 exact ⟨b, off, e1, by rw [hc, he]⟩
theorem refuse_any {w : World} {sb : Nat} {s : SG} {xb mb : Nat} {v : Value} (h : Seg w sb s xb mb v) (ok : SOk s) (vd : Value) (vs : List Value) (ls : List (List UInt8)) (hr : Row w vd vs) (hs : Sls w vs ls) :
    Calls Tryz.prog 83 #[.pointer (some ⟨sb, 0, none⟩), vd] w fun e w' => e = .returned (.int .i64 (refF s ls)) ∧ w' = w := by
 obtain ⟨y0, y1, y2, y3, y4, y5, y6, y7, y8, y9, y10⟩ := h.cells
 have hM := made_yes w sb s.b y0
 have HS := hide hs
 have HR := hide hr
 obtain ⟨ao, ca, rfl, _, h2, h3, _⟩ := hr
 have hN : Hid (vs.length = ls.length) := hs.1
 rw [hN.out] at h2 HR ⊢
 have hnx := ok.n1
 have hnx2 := ok.n2
 have hle : ls.length ≤ 9223372036854775807 := by unfold maxLen at h3; omega
 obtain ⟨R, hR⟩ : ∃ R, Hid (refF s ls = R) := ⟨_, rfl⟩
 rw [hR.out]
 obtain ⟨N, hlN⟩ : ∃ N, Hid (ls.length = N) := ⟨_, rfl⟩
 rw [hlN.out] at HR hle ⊢
 clear h ok h2 h3 hs
 by_cases hc : s.cond = 0
 ·have kc : (s.cond != 0) = false := by simp [hc]
  rw [hc] at y8
  by_cases hn0 : N = 0
  ·subst hn0
   have hE := hide (show (1 : Int) = R by rw [← hR.out]; unfold refF; rw [if_neg (by simp [hc]), if_pos (List.length_eq_zero_iff.1 hlN.out)])
   clear hR
   go_enter Tryz.func83, Tryz.ntmps83
   go_wp2_with (first | (go_at_call 51; refine hM.mono ?_; rintro e w1 ⟨rfl, e1⟩; rw [e1]; clear e1 w1) | fail)
   go_ret
   exact ⟨congrArg (fun z : Int => Ending.returned (Value.int .i64 z)) hE.out, rfl⟩
  have kn : ((N : Int) == 0) = false := by simp; omega
  have hne : Hid (ls ≠ []) := hide fun c => by rw [c] at hlN; exact hn0 hlN.out.symm
  have i63 : IntKind.i64.wrap (9223372036854775806 - s.next) = 9223372036854775806 - s.next := by simp [IntKind.wrap, IntKind.bits, IntKind.signed]; omega
  have i64 : IntKind.i64.wrap (9223372036854775806 - s.next + 1) = 9223372036854775806 - s.next + 1 := by simp [IntKind.wrap, IntKind.bits, IntKind.signed]; omega
  go_enter Tryz.func83, Tryz.ntmps83
  go_wp2_with (first | (go_at_call 51; refine hM.mono ?_; rintro e w1 ⟨rfl, e1⟩; rw [e1]; clear e1 w1) | fail)
  go_loopw [22] (fun v22 wr => ∃ i : Nat, i ≤ N ∧ v22 = .int .i64 (i : Int) ∧ (∀ k, k < i → (ls.getD k []).length ≤ 4096) ∧ wr = w) (fun v _ => N - (intOf v).toNat)
  case atStart => exact ⟨0, by omega, rfl, fun k hk => absurd hk (by omega), rfl⟩
  case round =>
   obtain ⟨i, hi, rfl, hall, hwr⟩ := hrel
   subst hwr
   replace hall := hide hall
   by_cases hin : i = N
   ·subst hin
    have hno : Hid (¬ ∃ d ∈ ls, 4096 < d.length) := hide (by
     rintro ⟨d, hd, hl⟩
     obtain ⟨k, hk, rfl⟩ := List.mem_iff_getElem.1 hd
     have := hall.out k (by rw [← hlN.out]; exact hk)
     simp only [List.getD, List.getElem?_eq_getElem hk, Option.getD_some] at this
     omega)
    by_cases he : 9223372036854775806 - s.next + 1 < (i : Int)
    ·have hE := hide (show (44 : Int) = R by rw [← hR.out]; unfold refF; rw [if_neg (by simp [hc]), if_neg hne.out, if_neg hno.out, hlN.out, if_pos he])
     clear hR hno hall
     go_wp2_with fail
     go_ret
     exact ⟨congrArg (fun z : Int => Ending.returned (Value.int .i64 z)) hE.out, rfl⟩
    ·have hE := hide (show (0 : Int) = R by rw [← hR.out]; unfold refF; rw [if_neg (by simp [hc]), if_neg hne.out, if_neg hno.out, hlN.out, if_neg he])
     clear hR hno hall
     go_wp2_with fail
     go_ret
     exact ⟨congrArg (fun z : Int => Ending.returned (Value.int .i64 z)) hE.out, rfl⟩
   ·have hil : i < N := by omega
    have i1 : (i : Int) < (N : Int) := by omega
    have i0 : (0 : Int) ≤ (i : Int) := by omega
    obtain ⟨da, dc, hv, _⟩ := sls_at HS.out (i := i) (by rw [hlN.out]; exact hil)
    obtain ⟨rb, off, rfl, d0⟩ := row_at HR.out hv
    obtain ⟨M, hM2⟩ : ∃ M, Hid ((ls.getD i []).length = M) := ⟨_, rfl⟩
    rw [hM2.out] at d0
    by_cases hbig : 4096 < M
    ·have kb : (4096 : Int) < (M : Int) := by omega
     have hE := hide (show (3 : Int) = R by
      rw [← hR.out]; unfold refF
      rw [if_neg (by simp [hc]), if_neg hne.out, if_pos ⟨ls.getD i [], by simp [List.getD, hlN.out, hil], by rw [hM2.out]; exact hbig⟩])
     clear hR hall hv
     go_wp2_with fail
     go_ret
     exact ⟨congrArg (fun z : Int => Ending.returned (Value.int .i64 z)) hE.out, rfl⟩
    ·have kb : ¬ (4096 : Int) < (M : Int) := by omega
     have hall2 : Hid (∀ k, k < i + 1 → (ls.getD k []).length ≤ 4096) := hide fun k hk => by
      by_cases hki : k = i
      ·rw [hki, hM2.out]; omega
      ·exact hall.out k (by omega)
     clear hall hv
     go_wp2_with fail
     go_roundw
     case rel => exact ⟨i + 1, by omega, by go_num, hall2.out, by trivial⟩
     case measure => simp [intOf]; omega
 ·have kc : (s.cond != 0) = true := by simp [hc]
  have hE := hide (show (40 : Int) = R by rw [← hR.out]; unfold refF; rw [if_pos hc])
  clear hR
  go_enter Tryz.func83, Tryz.ntmps83
  go_wp2_with (first | (go_at_call 51; refine hM.mono ?_; rintro e w1 ⟨rfl, e1⟩; rw [e1]; clear e1 w1) | fail)
  go_ret
  exact ⟨congrArg (fun z : Int => Ending.returned (Value.int .i64 z)) hE.out, rfl⟩
def fcell (e : Int × Int) : List Value := [.int .i64 e.1, .int .u32 e.2]
def fcells (l : List (Int × Int)) : List Value := l.flatMap fcell
theorem fcells_snoc (l : List (Int × Int)) (e : Int × Int) : fcells (l ++ [e]) = fcells l ++ [.int .i64 e.1, .int .u32 e.2] := by simp [fcells, fcell]
theorem fcells_get (l : List (Int × Int)) : ∀ i (_ : i < l.length), (fcells l)[i * 2]? = some (.int .i64 (l.getD i (0, 0)).1) ∧ (fcells l)[i * 2 + 1]? = some (.int .u32 (l.getD i (0, 0)).2) := by
 induction l with
 | nil => intro i h; simp at h
 | cons p r ih =>
  intro i h
  rw [fcells, List.flatMap_cons, ← fcells]
  match i with
  | 0 => simp [fcell]
  | i + 1 =>
   have := ih i (by simpa using h)
   rw [show (i + 1) * 2 = i * 2 + 1 + 1 by omega]
   simpa [fcell] using this
def Frs (B : Nat) (w : World) (v : Value) (l : List (Int × Int)) : Prop := w.ownsRow B 150 2 v l.length (fcells l)
theorem Frs.but {X : Nat → Prop} {A B : World} {b : Nat} {v : Value} {l : List (Int × Int)} (h : Frs b A v l) (hb : But X A B) (hx : ∀ k, v.ownBlock = some k → ¬ X k) : Frs b B v l := by
 refine ⟨h.1, ?_⟩
 rcases h.2 with h | ⟨g, cap, cur, rfl, hg, hh, r⟩
 ·exact .inl h
 ·exact .inr ⟨g, cap, cur, rfl, hg, hb.at hh (hx g rfl), r⟩
theorem ob_but {X : Nat → Prop} {A B : World} {b : Nat} {v : Value} {l : List UInt8} (h : Ob b A v l) (hb : But X A B) (hx : ∀ k, v.ownBlock = some k → ¬ X k) : Ob b B v l := by
 refine ⟨h.1, ?_⟩
 rcases h.2 with h | ⟨g, cap, cur, rfl, hg, hh, r⟩
 ·exact .inl h
 ·exact .inr ⟨g, cap, cur, rfl, hg, hb.at hh (hx g rfl), r⟩
theorem rows_apart {w : World} {base e s n : Nat} {v : Value} {xs : List Value} {base' e' s' n' : Nat} {v' : Value} {xs' : List Value} (h : w.ownsRow base e s v n xs) (h' : w.ownsRow base' e' s' v' n' xs') (hT : e ≠ e') : ∀ k, v.ownBlock = some k → v'.ownBlock ≠ some k := fun k hk c => by
 rcases h.2 with ⟨rfl, _⟩ | ⟨g, cap, cur, rfl, hg, hh, r⟩
 ·simp [Value.ownBlock] at hk
 ·rcases h'.2 with ⟨rfl, _⟩ | ⟨g', cap', cur', rfl, hg', hh', r'⟩
  ·simp [Value.ownBlock] at c
  ·simp [Value.ownBlock] at hk c
   subst hk
   subst c
   rw [hh] at hh'
   simp at hh'
   exact hT hh'.2
theorem Frs.at {B : Nat} {w : World} {v : Value} {l : List (Int × Int)} (h : Frs B w v l) (hl : l ≠ []) : ∃ g ca, v = .slice (some ⟨g, 0, none⟩) l.length ca ∧ (∀ i, i < l.length → w.cell? ⟨g, i * 2, none⟩ = some (.int .i64 (l.getD i (0, 0)).1) ∧ w.cell? ⟨g, i * 2 + 1, none⟩ = some (.int .u32 (l.getD i (0, 0)).2)) ∧ l.length ≤ ca ∧ ca ≤ 9223372036854775807 ∧ g < w.heap.size ∧ B ≤ g := by
 rcases h.2 with ⟨rfl, e⟩ | ⟨g, cap, cur, rfl, hg, hh, a, b, c, d⟩
 ·exact absurd (List.length_eq_zero_iff.1 e) hl
 ·refine ⟨g, cap, rfl, fun i hi => ?_, a, by unfold maxLen at b; omega, heap_lt hh, hg⟩
  have hj : ∀ j, j < l.length * 2 → w.cell? ⟨g, j, none⟩ = (fcells l)[j]? := by
   intro j hj
   rw [cell_of hh, ← d, List.getElem?_take_of_lt hj]
   simp
  obtain ⟨e1, e2⟩ := fcells_get l i hi
  exact ⟨by rw [hj _ (by omega), e1], by rw [hj _ (by omega), e2]⟩
theorem infoWr : (Tryz.prog.info? 150).map (fun i => (i.zero, i.size, i.bytes)) = some (some (.agg #[.int .i64 0, .int .u32 0]), 2, 16) := by kernel_rfl
theorem run_appW {B : Nat} {w : World} {v : Value} {l : List (Int × Int)} (t : Int × Int) (gg : Nat) (h : Frs B w v l) (h0 : w.cell? ⟨gg, 0, none⟩ = some (.int .i64 t.1)) (h1 : w.cell? ⟨gg, 1, none⟩ = some (.int .u32 t.2)) (hl : l.length ≤ 34000000000) (hB : B ≤ w.heap.size) (ty : TypeId) :
    ∃ v' w', (Builtin.append_ #[145, 145] ty #[v, .slice (some ⟨gg, 0, none⟩) 1 1]).run Tryz.prog w = .ok v' w' ∧ Frs B w' v' (l ++ [t]) ∧ w.grownBy w' v.ownBlock ∧ (v'.ownBlock = v.ownBlock ∨ v'.ownBlock = some w.heap.size) := by
 obtain ⟨i0, hi, hz0, hz1, hz2⟩ := info_parts infoWr
 have hcells : ∀ j u, ([.int .i64 t.1, .int .u32 t.2] : List Value)[j]? = some u → w.cell? ((⟨gg, 0, none⟩ : Addr).add j) = some u := by
  intro j u hu
  rw [addr_add]
  match j with
  | 0 => simp at hu; subst hu; exact h0
  | 1 => simp at hu; subst hu; exact h1
  | j + 2 => simp at hu
 obtain ⟨v', w', hr, ho, hg, _, hat⟩ := run_append_own_at (P := Tryz.prog) w B 145 ty 150 i0 (.agg #[.int .i64 0, .int .u32 0]) 2 16 Tryz.underlying145 hi hz0 hz1 hz2 rfl (by decide) v l.length (fcells l) h ⟨gg, 0, none⟩ 1 1 [.int .i64 t.1, .int .u32 t.2] rfl hcells (by
     intro u hu
     simp at hu
     rcases hu with rfl | rfl <;> rfl) (by unfold maxLen; omega) (by omega) hB
 refine ⟨v', w', hr, ?_, hg, hat⟩
 unfold Frs
 rw [List.length_append, fcells_snoc]
 exact ho
def wk (seed : Crc.R) (n : Int) (ls : List (List UInt8)) : Nat → List UInt8 × List (Int × Int) × Crc.R
 | 0 => ([], [], seed)
 | i + 1 => ((wk seed n ls i).1 ++ (wrF (wk seed n ls i).2.2 (n + (i : Int)) (ls.getD i [])).1, (wk seed n ls i).2.1 ++ [(((wrF (wk seed n ls i).2.2 (n + (i : Int)) (ls.getD i [])).1.length : Int), ((wrF (wk seed n ls i).2.2 (n + (i : Int)) (ls.getD i [])).2.1.toNat : Int))], (wrF (wk seed n ls i).2.2 (n + (i : Int)) (ls.getD i [])).2.1)
theorem wr_len (seed : Crc.R) (n : Int) (d : List UInt8) : (wrF seed n d).1.length ≤ 4112 := by
 unfold wrF
 split
 ·simp
 ·split
  ·simp
  ·rw [frm_len]; omega
theorem wk_len (seed : Crc.R) (n : Int) (ls : List (List UInt8)) : ∀ i, (wk seed n ls i).1.length ≤ i * 4112 ∧ (wk seed n ls i).2.1.length = i
 | 0 => ⟨by simp [wk], by simp [wk]⟩
 | i + 1 => by
  obtain ⟨a, b⟩ := wk_len seed n ls i
  have := wr_len (wk seed n ls i).2.2 (n + (i : Int)) (ls.getD i [])
  refine ⟨?_, ?_⟩
  ·rw [wk, List.length_append]; omega
  ·rw [wk]; simp [b]
theorem writeS_any {w : World} {sb : Nat} {s : SG} {xb mb : Nat} {v : Value} (h : Seg w sb s xb mb v) (ok : SOk s) (seed : Crc.R) (hsd : s.seed = (seed.toNat : Int)) (vd : Value) (vs : List Value) (ls : List (List UInt8)) (hr : Row w vd vs) (hs : Sls w vs ls) (hl : ls.length ≤ 34000000000) (hn : s.next + (ls.length : Int) ≤ 9223372036854775807) :
    Calls Tryz.prog 84 #[.pointer (some ⟨sb, 0, none⟩), vd] w fun e w' => ∃ v1 v2, e = .returned (.tuple #[v1, v2]) ∧ Ob w.heap.size w' v1 (wk seed s.next ls ls.length).1 ∧ Frs w.heap.size w' v2 (wk seed s.next ls ls.length).2.1 ∧ Below w.heap.size w w' := by
 have H := hide h
 obtain ⟨y0, y1, y2, y3, y4, y5, y6, y7, y8, y9, y10⟩ := h.cells
 rw [hsd] at y7
 have HS := hide hs
 have HR := hide hr
 obtain ⟨ao, ca, rfl, _, h2, h3, _⟩ := hr
 have hNn : Hid (vs.length = ls.length) := hs.1
 rw [hNn.out] at h2 HR ⊢
 have hnx := ok.n1
 obtain ⟨N, hlN⟩ : ∃ N, Hid (ls.length = N) := ⟨_, rfl⟩
 rw [hlN.out] at HR hl hn ⊢
 obtain ⟨n, hnn⟩ : ∃ n, Hid (s.next = n) := ⟨_, rfl⟩
 rw [hnn.out] at hn hnx y5 ⊢
 have hWk := hide (wk_len seed n ls)
 clear h h2 h3 hs hsd
 go_enter Tryz.func84, Tryz.ntmps84
 go_wp2_with fail
 go_loopw [6, 7, 8, 20] (fun v6 v7 v8 v20 wr => ∃ i : Nat, i ≤ N ∧ v20 = .int .i64 (i : Int) ∧ v8 = .int .u32 ((wk seed n ls i).2.2.toNat : Int) ∧ Hid (Ob w.heap.size wr v6 (wk seed n ls i).1) ∧ Hid (Frs w.heap.size wr v7 (wk seed n ls i).2.1) ∧ Hid (Below w.heap.size w wr)) (fun _ _ _ v _ => N - (intOf v).toNat)
 case atStart => exact ⟨0, by omega, rfl, rfl, World.ownsRow_nil _ _ _ _, World.ownsRow_nil _ _ _ _, Below.refl _ _⟩
 case round =>
  obtain ⟨i, hi, rfl, rfl, O6, O7, BE⟩ := hrel
  by_cases hin : i = N
  ·subst hin
   go_wp2_with fail
   go_ret2
   exact ⟨_, _, rfl, O6.out, O7.out, BE.out⟩
  ·have hil : i < N := by omega
   have i1 : (i : Int) < (N : Int) := by omega
   have i0 : (0 : Int) ≤ (i : Int) := by omega
   obtain ⟨da, dc, hv, hsl⟩ := sls_at HS.out (i := i) (by rw [hlN.out]; exact hil)
   obtain ⟨rb, off, rfl, d0⟩ := row_at (Below.row BE.out HR.out) hv
   obtain ⟨z0, z1, z2, z3, z4, z5, z6, z7, z8, z9, z10⟩ := (H.out.below BE.out).cells
   rw [hnn.out] at z5
   have kw : IntKind.i64.wrap (n + (i : Int)) = n + (i : Int) := by simp [IntKind.wrap, IntKind.bits, IntKind.signed]; omega
   have hWr := hide (write_any wr (wk seed n ls i).2.2 (n + (i : Int)) _ _ (by omega) (by omega) (Below.sl BE.out hsl))
   have hst : Hid (wk seed n ls (i + 1) = ((wk seed n ls i).1 ++ (wrF (wk seed n ls i).2.2 (n + (i : Int)) (ls.getD i [])).1, (wk seed n ls i).2.1 ++ [(((wrF (wk seed n ls i).2.2 (n + (i : Int)) (ls.getD i [])).1.length : Int), ((wrF (wk seed n ls i).2.2 (n + (i : Int)) (ls.getD i [])).2.1.toNat : Int))], (wrF (wk seed n ls i).2.2 (n + (i : Int)) (ls.getD i [])).2.1)) := hide rfl
   obtain ⟨l1, l2⟩ := hWk.out i
   have l3 := wr_len (wk seed n ls i).2.2 (n + (i : Int)) (ls.getD i [])
   obtain ⟨F, hF⟩ : ∃ F, Hid (wrF (wk seed n ls i).2.2 (n + (i : Int)) (ls.getD i []) = F) := ⟨_, rfl⟩
   obtain ⟨P, hP⟩ : ∃ P, Hid (wk seed n ls i = P) := ⟨_, rfl⟩
   rw [hF.out] at hWr hst l3
   rw [hP.out] at hst O6 O7 l1 l2 hWr ⊢
   obtain ⟨fb, fs, fe⟩ := F
   obtain ⟨pb, pf, ps⟩ := P
   simp only at hWr hst l1 l2 l3 O6 O7 ⊢
   generalize (ls.getD i []).length = M at *
   clear hsl hv
   go_wp2_with fail
   go_at_call 128
   refine hWr.out.mono ?_
   rintro e w2 ⟨vb, rfl, ob, b2⟩
   have hsb := Sl.of_owns ob
   obtain ⟨ba, bc, hvb⟩ := Sl.form hsb rfl
   subst hvb
   have O62 := ob_but O6.out (But.of_below b2 fun _ => False) (fun _ _ c => c)
   have O72 := O7.out.but (But.of_below b2 fun _ => False) (fun _ _ c => c)
   have BE2 := keepF BE.out b2
   obtain ⟨v6', w3, r3, O63, g3, at3⟩ := run_app O62 hsb (by omega) BE2.size 54
   have ap67 := rows_apart O62 O72 (by decide)
   have O73 := O72.but (But.of_grownBy g3 (X := fun k => u6.ownBlock = some k) fun k e => e) (fun k hk c => ap67 k c hk)
   have BE3 : Below w.heap.size w w3 := Below.grown BE2 g3 BE2.size (fun k hk => (World.ownsRow.lt O62 k hk).1)
   have B4 := box_below w3 (.cells #[.int .i64 (fb.length : Int), .int .u32 (fs.toNat : Int)] 150)
   have N4 := heap_alloc_new w3 (.cells #[.int .i64 (fb.length : Int), .int .u32 (fs.toNat : Int)] 150)
   have O64 := ob_but O63 (But.of_below B4 fun _ => False) (fun _ _ c => c)
   have O74 := O73.but (But.of_below B4 fun _ => False) (fun _ _ c => c)
   have BE4 := keepF BE3 B4
   obtain ⟨v7', w5, r5, O75, g5, at5⟩ := run_appW ((fb.length : Int), (fs.toNat : Int)) w3.heap.size O74 (by rw [cell_of N4]; rfl) (by rw [cell_of N4]; rfl) (by omega) BE4.size 145
   have ap64 := rows_apart O64 O74 (by decide)
   have O65 : Hid (Ob w.heap.size w5 v6' (pb ++ fb)) := hide (ob_but O64 (But.of_grownBy g5 (X := fun k => u7.ownBlock = some k) fun k e => e) (fun k hk c => ap64 k hk c))
   have BE5 : Hid (Below w.heap.size w w5) := hide (Below.grown BE4 g5 BE4.size (fun k hk => (World.ownsRow.lt O74 k hk).1))
   replace O75 := hide O75
   replace r3 := hide r3
   replace r5 := hide r5
   obtain ⟨a6, n6, c6, h6⟩ : ∃ a n c, u6 = .slice a n c := by
    rcases O62.2 with ⟨rfl, _⟩ | ⟨_, _, _, rfl, _⟩
    ·exact ⟨_, _, _, rfl⟩
    ·exact ⟨_, _, _, rfl⟩
   obtain ⟨a7, n7, c7, h7⟩ : ∃ a n c, u7 = .slice a n c := by
    rcases O72.2 with ⟨rfl, _⟩ | ⟨_, _, _, rfl, _⟩
    ·exact ⟨_, _, _, rfl⟩
    ·exact ⟨_, _, _, rfl⟩
   subst h6
   subst h7
   clear O6 O7 BE O62 O72 BE2 O63 O73 O64 O74 BE3 BE4 B4 N4 g3 g5 at3 at5 ap67 ap64 hsb ob b2 hWr
   go_wp2_with (first
    | (at_builtin; refine Lib.wpList_append_run _ rfl (.tmp 38) (.tmp 39) 54 54 rfl _ _ rfl rfl _ _ r3.out ?_)
    | (at_builtin; refine Lib.wpList_append_run _ rfl (.tmp 41) (.tmp 46) 145 145 rfl _ _ rfl rfl _ _ r5.out ?_)
    | fail)
   go_roundw
   case rel => exact ⟨i + 1, by omega, by go_num, by rw [hst.out], by rw [hst.out]; exact O65.out, by rw [hst.out]; exact O75.out, BE5.out⟩
   case measure => simp [intOf]; omega
open Ix (wp_region_T wpAnyT wpAnyT_take wpAnyT_one wpAnyT_done vac)
theorem sync_dskE {w : World} {b : Nat} {S : DS} {O : Nat → Prop} (h : DskE w b S O) (s : ByteArray) (hs : s.size ≤ maxLen) (hc : S.c7 < 900000000) :
    Calls Tryz.prog 57 #[.pointer (some ⟨b, 0, none⟩), .string s] w fun e w' => e = .returned (.int .i64 (S.sync s).2) ∧ ∃ O', DskE w' b (S.sync s).1 O' ∧ Sgo w w' O O' := by
 obtain ⟨f, g, pd, am, VB, VL, hd⟩ := h
 exact syncF_any hd s hs hc
structure SW (w : World) (sb : Nat) (s : SG) (S : DS) (O : Nat → Prop) (xb mb : Nat) (v : Value) : Prop where
 sg : Seg w sb s xb mb v
 dk : DskE w s.b S O
 ap : ∀ k, SOwn sb xb mb v k → ¬ O k
theorem SW.below {A B : World} {sb : Nat} {s : SG} {S : DS} {O : Nat → Prop} {xb mb : Nat} {v : Value} (h : SW A sb s S O xb mb v) (hb : Below A.heap.size A B) : SW B sb s S O xb mb v := ⟨h.sg.below hb, h.dk.below hb, h.ap⟩
theorem SW.disk {w w' : World} {sb : Nat} {s : SG} {S S' : DS} {O O' : Nat → Prop} {xb mb : Nat} {v : Value} (h : SW w sb s S O xb mb v) (hd : DskE w' s.b S' O') (hg : Sgo w w' O O') : SW w' sb s S' O' xb mb v :=
 ⟨h.sg.but hg.but fun k hk => h.ap k hk, hd, fun k hk c => by
  rcases hg.own k c with c | c
  ·exact h.ap k hk c
  ·have := h.sg.lt k hk; omega⟩
def Bx1 (w : World) (p : Nat) (T : TypeId) (x : Value) : Prop := w.heap[p]? = some (.cells #[x] T (0, 0))
theorem Bx1.but {Y : Nat → Prop} {A B : World} {p : Nat} {T : TypeId} {x : Value} (h : Bx1 A p T x) (hb : But Y A B) (hx : ¬ Y p) : Bx1 B p T x := hb.at h hx
theorem Bx1.below {A B : World} {p : Nat} {T : TypeId} {x : Value} (h : Bx1 A p T x) (hb : Below A.heap.size A B) : Bx1 B p T x := h.but (But.of_below hb fun _ => False) fun c => c
theorem Bx1.cell {w : World} {p : Nat} {T : TypeId} {x : Value} (h : Bx1 w p T x) : w.cell? ⟨p, 0, none⟩ = some x := by rw [cell_of h]; rfl
theorem Bx1.frozen {w : World} {p : Nat} {T : TypeId} {x : Value} (h : Bx1 w p T x) : w.frozen? ⟨p, 0, none⟩ = false := by unfold Bx1 at h; simp [World.frozen?, h]
theorem Bx1.set {w : World} {p : Nat} {T : TypeId} {x : Value} (h : Bx1 w p T x) (y : Value) : Bx1 (w.setCell ⟨p, 0, none⟩ y) p T y := by unfold Bx1 at h ⊢; rw [heap_setCell_same w p 0 _ _ _ h]; rfl
theorem Bx1.lt {w : World} {p : Nat} {T : TypeId} {x : Value} (h : Bx1 w p T x) : p < w.heap.size := heap_lt h
theorem put1_any {w : World} {sb : Nat} {s : SG} {S : DS} {O : Nat → Prop} {xb mb : Nat} {v : Value} (h : SW w sb s S O xb mb v) {p2 p7 : Nat} {vb : Value} {D : List UInt8} (h2 : Bx1 w p2 80 (.pointer (some ⟨sb, 0, none⟩))) (h7 : Bx1 w p7 54 vb) (hb : Sl w vb D) (ho : SOff O vb) (n2 : ¬ O p2) (n7 : ¬ O p7) (hf : s.file.size ≤ maxLen) (hc : S.c7 < 900000000) :
    Calls Tryz.prog 85 #[.pointer (some ⟨p2, 0, none⟩), .pointer (some ⟨p7, 0, none⟩)] w fun e w' => e = .returned (.int .i64 (S.append s.file D).2.2) ∧ ∃ O', DskE w' s.b (S.append s.file D).1 O' ∧ Sgo w w' O O' := by
 obtain ⟨ao, ca, hvb⟩ := Sl.form hb rfl
 subst hvb
 have hA := hide (fun u (hu : Below w.heap.size w u) => append_dsk (h.below hu).dk s.file hf _ D (Below.sl hu hb) ho hc)
 have KS : Hid (Seg w sb s xb mb v ∧ Bx1 w p2 80 (.pointer (some ⟨sb, 0, none⟩)) ∧ Bx1 w p7 54 (.slice ao D.length ca)) := hide ⟨h.sg, h2, h7⟩
 have KN : Hid ((∀ k, SOwn sb xb mb v k → ¬ O k) ∧ ¬ O p2 ∧ ¬ O p7) := hide ⟨h.ap, n2, n7⟩
 obtain ⟨R, hR⟩ : ∃ R, Hid (S.append s.file D = R) := ⟨_, rfl⟩
 rw [hR.out] at hA ⊢
 obtain ⟨S', r1, r2⟩ := R
 simp only at hA ⊢
 generalize D.length = DL at *
 clear h h2 h7 hb ho n2 n7
 go_enter Tryz.func85, Tryz.ntmps85
 go_upto_region 1 with fail
 refine wp_region_T (fun q => Seg q sb s xb mb v ∧ Bx1 q p2 80 (.pointer (some ⟨sb, 0, none⟩)) ∧ Bx1 q p7 54 (.slice ao DL ca)) 14 (by kernel_rfl) ?_
 have DB : Hid (Below w.heap.size w w.drew) := hide (Below.refl _ _).drew
 have KP : Hid (Seg w.drew sb s xb mb v ∧ Bx1 w.drew p2 80 (.pointer (some ⟨sb, 0, none⟩)) ∧ Bx1 w.drew p7 54 (.slice ao DL ca)) := hide ⟨KS.out.1.below DB.out, KS.out.2.1.below DB.out, KS.out.2.2.below DB.out⟩
 generalize w.drew = q at *
 refine Ix.tk 0 ⟨some 6, .load 80 (.tmp 0), _, _, _, _⟩ (.pointer (some ⟨sb, 0, none⟩)) [14] ?_ KP.out ?_
 ·intro wq hSw
  obtain ⟨y0, y1, y2, y3, y4, y5, y6, y7, y8, y9, y10⟩ := hSw.1.cells
  have b0 := hSw.2.1.cell
  have b1 := hSw.2.2.cell
  go_simp
 (try simp only [zzp, zzb, zzc])
 refine Ix.tk 1 ⟨some 7, .nilCheck (.tmp 6), _, _, _, _⟩ (.pointer (some ⟨sb, 0, none⟩)) [14] ?_ KP.out ?_
 ·intro wq hSw
  obtain ⟨y0, y1, y2, y3, y4, y5, y6, y7, y8, y9, y10⟩ := hSw.1.cells
  go_simp
 (try simp only [zzp, zzb, zzc])
 refine Ix.tk 2 ⟨some 8, .fieldAddr 109 (.tmp 7) 0, _, _, _, _⟩ (.pointer (some ⟨sb, 0, none⟩)) [14] ?_ KP.out ?_
 ·intro wq hSw
  obtain ⟨y0, y1, y2, y3, y4, y5, y6, y7, y8, y9, y10⟩ := hSw.1.cells
  go_simp
 (try simp only [zzp, zzb, zzc])
 refine Ix.tk 3 ⟨some 9, .load 26 (.tmp 8), _, _, _, _⟩ (.pointer (some ⟨s.b, 0, none⟩)) [14] ?_ KP.out ?_
 ·intro wq hSw
  obtain ⟨y0, y1, y2, y3, y4, y5, y6, y7, y8, y9, y10⟩ := hSw.1.cells
  have b0 := hSw.2.1.cell
  have b1 := hSw.2.2.cell
  go_simp
 (try simp only [zzp, zzb, zzc])
 refine Ix.tk 4 ⟨some 10, .load 80 (.tmp 0), _, _, _, _⟩ (.pointer (some ⟨sb, 0, none⟩)) [14] ?_ KP.out ?_
 ·intro wq hSw
  obtain ⟨y0, y1, y2, y3, y4, y5, y6, y7, y8, y9, y10⟩ := hSw.1.cells
  have b0 := hSw.2.1.cell
  have b1 := hSw.2.2.cell
  go_simp
 (try simp only [zzp, zzb, zzc])
 refine Ix.tk 5 ⟨some 11, .nilCheck (.tmp 10), _, _, _, _⟩ (.pointer (some ⟨sb, 0, none⟩)) [14] ?_ KP.out ?_
 ·intro wq hSw
  obtain ⟨y0, y1, y2, y3, y4, y5, y6, y7, y8, y9, y10⟩ := hSw.1.cells
  go_simp
 (try simp only [zzp, zzb, zzc])
 refine Ix.tk 6 ⟨some 12, .fieldAddr 109 (.tmp 11) 1, _, _, _, _⟩ (.pointer (some ⟨sb, 1, none⟩)) [14] ?_ KP.out ?_
 ·intro wq hSw
  obtain ⟨y0, y1, y2, y3, y4, y5, y6, y7, y8, y9, y10⟩ := hSw.1.cells
  go_simp
 (try simp only [zzp, zzb, zzc])
 refine Ix.tk 7 ⟨some 13, .load 9 (.tmp 12), _, _, _, _⟩ (.string s.file) [14] ?_ KP.out ?_
 ·intro wq hSw
  obtain ⟨y0, y1, y2, y3, y4, y5, y6, y7, y8, y9, y10⟩ := hSw.1.cells
  have b0 := hSw.2.1.cell
  have b1 := hSw.2.2.cell
  go_simp
 (try simp only [zzp, zzb, zzc])
 refine Ix.tk 8 ⟨some 14, .load 54 (.tmp 1), _, _, _, _⟩ (.slice ao DL ca) [14] ?_ KP.out ?_
 ·intro wq hSw
  obtain ⟨y0, y1, y2, y3, y4, y5, y6, y7, y8, y9, y10⟩ := hSw.1.cells
  have b0 := hSw.2.1.cell
  have b1 := hSw.2.2.cell
  go_simp
 (try simp only [zzp, zzb, zzc])
 refine wpAnyT_one (i := 9) (o := ⟨some 15, .call { callee := .value (.func 86), args := #[.tmp 9, .tmp 13, .tmp 14], argTypes := #[26, 9, 54] }, _, _, _, _⟩) (by kernel_rfl) rfl (fun K hK => ?_)
 go_simp
 go_at_call 86
 refine (hA.out q DB.out).mono ?_
 rintro e w1 ⟨rfl, O1, D1, G1⟩
 have G2 : Hid (Sgo w w1 O O1) := hide ((Sgo.of_below DB.out).trans G1)
 have K1 : Hid (Seg w1 sb s xb mb v ∧ Bx1 w1 p2 80 (.pointer (some ⟨sb, 0, none⟩)) ∧ Bx1 w1 p7 54 (.slice ao DL ca)) := hide ⟨KP.out.1.but G1.but fun k hk => KN.out.1 k hk, KP.out.2.1.but G1.but KN.out.2.1, KP.out.2.2.but G1.but KN.out.2.2⟩
 replace D1 := hide D1
 clear G1
 (try go_simp)
 refine hK.out _ _ (fun _ => K1.out) ?_
 clear hK K
 (try simp only [zzp, zzb, zzc])
 refine Ix.tk 10 ⟨some 5, .move (.tmp 15), _, _, _, _⟩ (.tuple #[.int .i64 r1, .int .i64 r2]) [14] ?_ K1.out ?_
 ·intro wq hSw; go_simp
 (try simp only [zzp, zzb, zzc])
 refine Ix.tk 11 ⟨some 16, .extract (.tmp 5) 0, _, _, _, _⟩ (.int .i64 r1) [14] ?_ K1.out ?_
 ·intro wq hSw; go_simp
 (try simp only [zzp, zzb, zzc])
 refine Ix.tk 12 ⟨some 17, .extract (.tmp 5) 1, _, _, _, _⟩ (.int .i64 r2) [14] ?_ K1.out ?_
 ·intro wq hSw; go_simp
 (try simp only [zzp, zzb, zzc])
 refine wpAnyT_one (i := 13) (o := ⟨some 3, .assign (.tmp 16), _, _, _, _⟩) (by kernel_rfl) rfl (fun K hK => ?_)
 go_simp
 refine hK.out _ _ (fun _ => K1.out) ?_
 clear hK K
 (try simp only [zzp, zzb, zzc])
 refine wpAnyT_one (i := 14) (o := ⟨some 4, .assign (.tmp 17), _, _, _, _⟩) (by kernel_rfl) rfl (fun K hK => ?_)
 go_simp
 refine hK.out _ _ (vac (by kernel_rfl)) ?_
 clear hK K
 (try simp only [zzp, zzb, zzc])
 refine wpAnyT_done (by kernel_rfl) ?_ _
 go_wp2_with fail
 go_ret
 exact ⟨rfl, O1, D1.out, G2.out⟩
theorem sync1_any {w : World} {sb : Nat} {s : SG} {S : DS} {O : Nat → Prop} {xb mb : Nat} {v : Value} (h : SW w sb s S O xb mb v) {p2 : Nat} (h2 : Bx1 w p2 80 (.pointer (some ⟨sb, 0, none⟩))) (n2 : ¬ O p2) (hf : s.file.size ≤ maxLen) (hc : S.c7 < 900000000) :
    Calls Tryz.prog 56 #[.pointer (some ⟨p2, 0, none⟩)] w fun e w' => e = .returned (.int .i64 (S.sync s.file).2) ∧ ∃ O', DskE w' s.b (S.sync s.file).1 O' ∧ Sgo w w' O O' := by
 have hA := hide (fun u (hu : Below w.heap.size w u) => sync_dskE (h.below hu).dk s.file hf hc)
 have KS : Hid (Seg w sb s xb mb v ∧ Bx1 w p2 80 (.pointer (some ⟨sb, 0, none⟩)) ∧ True) := hide ⟨h.sg, h2, trivial⟩
 have KN : Hid ((∀ k, SOwn sb xb mb v k → ¬ O k) ∧ ¬ O p2) := hide ⟨h.ap, n2⟩
 obtain ⟨R, hR⟩ : ∃ R, Hid (S.sync s.file = R) := ⟨_, rfl⟩
 rw [hR.out] at hA ⊢
 obtain ⟨S', r2⟩ := R
 simp only at hA ⊢
 clear h h2 n2
 go_enter Tryz.func56, Tryz.ntmps56
 go_upto_region 1 with fail
 refine wp_region_T (fun q => Seg q sb s xb mb v ∧ Bx1 q p2 80 (.pointer (some ⟨sb, 0, none⟩)) ∧ True) 9 (by kernel_rfl) ?_
 have DB : Hid (Below w.heap.size w w.drew) := hide (Below.refl _ _).drew
 have KP : Hid (Seg w.drew sb s xb mb v ∧ Bx1 w.drew p2 80 (.pointer (some ⟨sb, 0, none⟩)) ∧ True) := hide ⟨KS.out.1.below DB.out, KS.out.2.1.below DB.out, trivial⟩
 generalize w.drew = q at *
 refine Ix.tk 0 ⟨some 2, .load 80 (.tmp 0), _, _, _, _⟩ (.pointer (some ⟨sb, 0, none⟩)) [9] ?_ KP.out ?_
 ·intro wq hSw
  obtain ⟨y0, y1, y2, y3, y4, y5, y6, y7, y8, y9, y10⟩ := hSw.1.cells
  have b0 := hSw.2.1.cell
  go_simp
 (try simp only [zzp, zzb, zzc])
 refine Ix.tk 1 ⟨some 3, .nilCheck (.tmp 2), _, _, _, _⟩ (.pointer (some ⟨sb, 0, none⟩)) [9] ?_ KP.out ?_
 ·intro wq hSw
  obtain ⟨y0, y1, y2, y3, y4, y5, y6, y7, y8, y9, y10⟩ := hSw.1.cells
  go_simp
 (try simp only [zzp, zzb, zzc])
 refine Ix.tk 2 ⟨some 4, .fieldAddr 109 (.tmp 3) 0, _, _, _, _⟩ (.pointer (some ⟨sb, 0, none⟩)) [9] ?_ KP.out ?_
 ·intro wq hSw
  obtain ⟨y0, y1, y2, y3, y4, y5, y6, y7, y8, y9, y10⟩ := hSw.1.cells
  go_simp
 (try simp only [zzp, zzb, zzc])
 refine Ix.tk 3 ⟨some 5, .load 26 (.tmp 4), _, _, _, _⟩ (.pointer (some ⟨s.b, 0, none⟩)) [9] ?_ KP.out ?_
 ·intro wq hSw
  obtain ⟨y0, y1, y2, y3, y4, y5, y6, y7, y8, y9, y10⟩ := hSw.1.cells
  have b0 := hSw.2.1.cell
  go_simp
 (try simp only [zzp, zzb, zzc])
 refine Ix.tk 4 ⟨some 6, .load 80 (.tmp 0), _, _, _, _⟩ (.pointer (some ⟨sb, 0, none⟩)) [9] ?_ KP.out ?_
 ·intro wq hSw
  obtain ⟨y0, y1, y2, y3, y4, y5, y6, y7, y8, y9, y10⟩ := hSw.1.cells
  have b0 := hSw.2.1.cell
  go_simp
 (try simp only [zzp, zzb, zzc])
 refine Ix.tk 5 ⟨some 7, .nilCheck (.tmp 6), _, _, _, _⟩ (.pointer (some ⟨sb, 0, none⟩)) [9] ?_ KP.out ?_
 ·intro wq hSw
  obtain ⟨y0, y1, y2, y3, y4, y5, y6, y7, y8, y9, y10⟩ := hSw.1.cells
  go_simp
 (try simp only [zzp, zzb, zzc])
 refine Ix.tk 6 ⟨some 8, .fieldAddr 109 (.tmp 7) 1, _, _, _, _⟩ (.pointer (some ⟨sb, 1, none⟩)) [9] ?_ KP.out ?_
 ·intro wq hSw
  obtain ⟨y0, y1, y2, y3, y4, y5, y6, y7, y8, y9, y10⟩ := hSw.1.cells
  go_simp
 (try simp only [zzp, zzb, zzc])
 refine Ix.tk 7 ⟨some 9, .load 9 (.tmp 8), _, _, _, _⟩ (.string s.file) [9] ?_ KP.out ?_
 ·intro wq hSw
  obtain ⟨y0, y1, y2, y3, y4, y5, y6, y7, y8, y9, y10⟩ := hSw.1.cells
  have b0 := hSw.2.1.cell
  go_simp
 (try simp only [zzp, zzb, zzc])
 refine wpAnyT_one (i := 8) (o := ⟨some 10, .call { callee := .value (.func 57), args := #[.tmp 5, .tmp 9], argTypes := #[26, 9] }, _, _, _, _⟩) (by kernel_rfl) rfl (fun K hK => ?_)
 go_simp
 go_at_call 57
 refine (hA.out q DB.out).mono ?_
 rintro e w1 ⟨rfl, O1, D1, G1⟩
 have G2 : Hid (Sgo w w1 O O1) := hide ((Sgo.of_below DB.out).trans G1)
 have K1 : Hid (Seg w1 sb s xb mb v ∧ Bx1 w1 p2 80 (.pointer (some ⟨sb, 0, none⟩)) ∧ True) := hide ⟨KP.out.1.but G1.but fun k hk => KN.out.1 k hk, KP.out.2.1.but G1.but KN.out.2, trivial⟩
 replace D1 := hide D1
 clear G1
 (try go_simp)
 refine hK.out _ _ (fun _ => K1.out) ?_
 clear hK K
 (try simp only [zzp, zzb, zzc])
 refine wpAnyT_one (i := 9) (o := ⟨some 1, .assign (.tmp 10), _, _, _, _⟩) (by kernel_rfl) rfl (fun K hK => ?_)
 go_simp
 refine hK.out _ _ (vac (by kernel_rfl)) ?_
 clear hK K
 (try simp only [zzp, zzb, zzc])
 refine wpAnyT_done (by kernel_rfl) ?_ _
 go_wp2_with fail
 go_ret
 exact ⟨rfl, O1, D1.out, G2.out⟩
end Go.Proofs.YtnimildpcnmjeaaGreatDoor.Sg
namespace Go.Proofs.YtnimildpcnmjeaaGreatDoor.St
open Go.RowKit Go.Maps Go.Sort Go.Shelf Go.Proofs.YtnimildpcnmjeaaGreatDoor.Nm Go.Proofs.YtnimildpcnmjeaaGreatDoor.Dk Go.Proofs.YtnimildpcnmjeaaGreatDoor.Sg Go.Proofs.YtnimildpcnmjeaaGreatDoor.Ct
theorem must_ok (w : World) : Calls Tryz.prog 35 #[.int .i64 0] w fun e w' => e = .returned (.tuple #[]) ∧ w' = w := by
 go_enter Tryz.func35, Tryz.ntmps35
 go_wp2_with fail
 go_end0
 exact ⟨rfl, rfl⟩
def nmF (n : Int) : ByteArray := bs (segL n.toNat)
theorem nmF_list (n : Int) : (nmF n).data.toList = segL n.toNat := bs_list _
theorem nmF_size (n : Int) : (nmF n).size = 24 := by rw [nmF, bs_size, segL_len]
theorem may_nm (n : Int) : may (nmF n).data.toList = true := by rw [nmF_list]; exact may_seg _
theorem fileOf_any (w : World) (g : Sg) (h1 : 1 ≤ g.nm) (h2 : g.nm ≤ 9223372036854775807) (hT : Tab16 w) :
    Calls Tryz.prog 78 #[.agg #[.int .i64 g.nm, .int .i64 g.ba, .int .u32 (g.se : Int), .int .i64 g.en, .int .i64 g.sz]] w fun e w' => e = .returned (.string (nmF g.nm)) ∧ Below w.heap.size w w' := by
 have B0 := box_below w (.cells #[.int .i64 g.nm, .int .i64 g.ba, .int .u32 (g.se : Int), .int .i64 g.en, .int .i64 g.sz] 51)
 have N0 := heap_alloc_new w (.cells #[.int .i64 g.nm, .int .i64 g.ba, .int .u32 (g.se : Int), .int .i64 g.en, .int .i64 g.sz] 51)
 have hS := segment_any (w.alloc (.cells #[.int .i64 g.nm, .int .i64 g.ba, .int .u32 (g.se : Int), .int .i64 g.en, .int .i64 g.sz] 51)) g.nm (by omega) (hT.below B0)
 have hv : Nm.segV g.nm = .tuple #[.string (nmF g.nm), .int .i64 0] := by unfold Nm.segV nmF; rw [if_neg (by omega)]
 rw [hv] at hS
 have c0 : (w.alloc (.cells #[.int .i64 g.nm, .int .i64 g.ba, .int .u32 (g.se : Int), .int .i64 g.en, .int .i64 g.sz] 51)).cell? ⟨w.heap.size, 0, none⟩ = some (.int .i64 g.nm) := by rw [Sg.cell_of N0]; rfl
 replace hS := hide hS
 generalize nmF g.nm = N at *
 replace B0 := hide B0
 clear N0 hv
 go_enter Tryz.func78, Tryz.ntmps78
 go_upto_region 1 with fail
 obtain ⟨w0, hw0⟩ : ∃ w0, Hid (w.alloc (.cells #[.int .i64 g.nm, .int .i64 g.ba, .int .u32 (g.se : Int), .int .i64 g.en, .int .i64 g.sz] 51) = w0) := ⟨_, rfl⟩
 rw [hw0.out] at B0 hS c0 ⊢
 go_wp2_with (first
  | (go_at_call 124; refine hS.out.mono ?_; rintro e w1 ⟨rfl, B1⟩; replace B1 := hide B1)
  | fail)
 go_ret
 exact ⟨rfl, B0.out.trans (B1.out.mono B0.out.size)⟩
abbrev StB (w : World) (stb : Nat) (cs : Array Value) : Prop := w.heap[stb]? = some (.cells cs 69 (0, 0))
theorem stb_sgo {w w' : World} {stb : Nat} {cs : Array Value} {O O' : Nat → Prop} (h : StB w stb cs) (g : Sgo w w' O O') (hn : ¬ O stb) : StB w' stb cs ∧ ¬ O' stb := by
 refine ⟨(g.but.block stb (heap_lt h) hn).trans h, fun c => ?_⟩
 rcases g.own stb c with c | c
 ·exact hn c
 ·have := heap_lt h; omega
theorem stb_b {w : World} {stb : Nat} {b : Value} {c1 c2 c3 c4 c5 c6 c7 c8 c9 : Value} (h : StB w stb #[b, c1, c2, c3, c4, c5, c6, c7, c8, c9]) : w.cell? ⟨stb, 0, none⟩ = some b := by simp [World.cell?, h]
theorem sin_lt {w : World} {v : Value} {l : List UInt8} (h : Sl w v l) : SIn (fun k => k < w.heap.size) v := by
 rintro b off n c e hn
 obtain ⟨ao, ca, e2, _, _, _, h5⟩ := h
 rw [e] at e2
 simp only [Value.slice.injEq] at e2
 obtain ⟨rfl, rfl, rfl⟩ := e2
 obtain ⟨b', off', e', hc⟩ := h5 0 hn
 simp only [Option.some.injEq, Addr.mk.injEq] at e'
 obtain ⟨rfl, _, _⟩ := e'
 exact lt_of_cell hc
structure Rp (w wi : World) (stb b : Nat) (cs : Array Value) (O Oi : Nat → Prop) (Si : DS) (v : Value) (B : List UInt8) : Prop where
 dk : DskE wi b Si Oi
 go : Sgo w wi O Oi
 sb : StB wi stb cs
 no : ¬ Oi stb
 sl : Sl wi v B
 so : SOff Oi v
 si : SIn (fun k => k < w.heap.size) v
theorem Rp.step {w wi w' : World} {stb b : Nat} {cs : Array Value} {O Oi O' : Nat → Prop} {Si S' : DS} {v : Value} {B : List UInt8} (h : Rp w wi stb b cs O Oi Si v B) (hd : DskE w' b S' O') (g : Sgo wi w' Oi O') : Rp w w' stb b cs O O' S' v B := by
 obtain ⟨s1, s2⟩ := stb_sgo h.sb g h.no
 refine ⟨hd, h.go.trans g, s1, s2, sl_but h.sl g.but h.so, fun b' off n c e hn k => ?_, h.si⟩
 rcases g.own b' k with k | k
 ·exact h.so b' off n c e hn k
 ·have h1 := h.si b' off n c e hn
  have h2 := h.go.but.size
  omega
theorem Rp.y0 {w wi : World} {stb b : Nat} {x c1 c2 c3 c4 c5 c6 c7 c8 c9 : Value} {O Oi : Nat → Prop} {Si : DS} {v : Value} {B : List UInt8} (h : Rp w wi stb b #[x, c1, c2, c3, c4, c5, c6, c7, c8, c9] O Oi Si v B) : wi.cell? ⟨stb, 0, none⟩ = some x := stb_b h.sb
theorem replace_any {w : World} {stb b : Nat} {c1 c2 c3 c4 c5 c6 c7 c8 c9 : Value} (hb : StB w stb #[.pointer (some ⟨b, 0, none⟩), c1, c2, c3, c4, c5, c6, c7, c8, c9]) {S : DS} {O : Nat → Prop} (hd : DskE w b S O) (hno : ¬ O stb) (file next : ByteArray) (f1 : file.size ≤ 1000) (f2 : next.size ≤ 1000) (m1 : may file.data.toList = true) (m2 : may next.data.toList = true) (hne : next.data.toList ≠ file.data.toList) (vb : Value) (B : List UInt8) (hv : Sl w vb B) (hvo : SOff O vb)
    {M : Nat} {D : Dr} {F : Nat → Fl} {c : Int} (ca : Ca S M D F c) (hc : c < 800000000) (hg : Dk.get D next.data.toList = none) (hl : D.length < 256) (hM : sumL F D + B.length ≤ M) :
    Calls Tryz.prog 81 #[.pointer (some ⟨stb, 0, none⟩), .string file, .string next, vb] w fun e w' => e = .returned (.tuple #[]) ∧ ∃ p O', p ∉ S.ps ∧ DskE w' b (re5 S file next B p) O' ∧ Sgo w w' O O' := by
 obtain ⟨va, vc, rfl⟩ := Sl.form hv rfl
 obtain ⟨BN, hBN⟩ : ∃ n, Hid (B.length = n) := ⟨_, rfl⟩
 have hmx : (1000 : Nat) ≤ maxLen := by decide
 have H0 : Hid (Rp w w stb b #[.pointer (some ⟨b, 0, none⟩), c1, c2, c3, c4, c5, c6, c7, c8, c9] O O S (.slice va B.length vc) B) := hide ⟨hd, Sgo.refl _ _, hb, hno, hv, hvo, sin_lt hv⟩
 have hC := hide (create_dsk hd next (by omega) (by rw [ca.c7]; omega))
 have CA : Hid (∀ p, p ∉ S.ps → _) := hide fun p hp => ca_replace ca m1 m2 hne hg hl hp B hM
 have y0 := H0.out.y0
 clear ca hb hd hno hv hvo hM hl hg
 rw [hBN.out] at H0 ⊢
 go_enter Tryz.func81, Tryz.ntmps81
 go_upto_region 1 with (first
  | (go_at_call 122; refine hC.out.mono ?_; rintro e w1 ⟨p, hpw, hp, he, O1, D1, G1⟩; rw [(CA.out p hp).1] at he; subst he; have H1 := hide (H0.out.step D1 G1); clear D1 G1)
  | (go_at_call 35; refine (must_ok _).mono ?_; rintro e wm ⟨rfl, hwm⟩; rw [hwm]; clear hwm wm)
  | fail)
 clear hC y0 H0
 obtain ⟨r1, r2, r3, r4, r5, k1, k2, k3, k4, _⟩ := CA.out p hp
 clear CA
 have y1 := H1.out.y0
 have hA := hide (append_dsk H1.out.dk next (by omega) _ B H1.out.sl H1.out.so (by show (re1 S next p).c7 < _; rw [k1]; omega))
 rw [show ((S.create next p).1.append next B).2.2 = 0 from r2] at hA
 go_upto_region 3 with (first
  | (go_at_call 86; refine hA.out.mono ?_; rintro e w2 ⟨rfl, O2, D2, G2⟩; have H2 := hide (H1.out.step D2 G2); clear D2 G2)
  | (go_at_call 35; refine (must_ok _).mono ?_; rintro e wm ⟨rfl, hwm⟩; rw [hwm]; clear hwm wm)
  | fail)
 clear hA y1 H1
 have y2 := H2.out.y0
 have hS := hide (sync_dskE H2.out.dk next (by omega) (by show (re2 S next B p).c7 < _; rw [k2]; omega))
 rw [show (((S.create next p).1.append next B).1.sync next).2 = 0 from r3] at hS
 go_upto_region 4 with (first
  | (go_at_call 57; refine hS.out.mono ?_; rintro e w3 ⟨rfl, O3, D3, G3⟩; have H3 := hide (H2.out.step D3 G3); clear D3 G3)
  | (go_at_call 35; refine (must_ok _).mono ?_; rintro e wm ⟨rfl, hwm⟩; rw [hwm]; clear hwm wm)
  | fail)
 clear hS y2 H2
 have y3 := H3.out.y0
 have hR := hide (rename_dsk H3.out.dk next file (by omega) (by omega) (by show (re3 S next B p).c7 < _; rw [k3]; omega))
 go_upto_region 5 with (first
  | (go_at_call 127; refine hR.out.mono ?_; rintro e w4 ⟨he, O4, D4, G4⟩; rw [show ((((S.create next p).1.append next B).1.sync next).1.rename next file).2 = 0 from r4] at he; subst he; have H4 := hide (H3.out.step D4 G4); clear D4 G4)
  | (go_at_call 35; refine (must_ok _).mono ?_; rintro e wm ⟨rfl, hwm⟩; rw [hwm]; clear hwm wm)
  | fail)
 clear hR y3 H3
 have y4 := H4.out.y0
 have hD := hide (syncDir_dsk H4.out.dk (by show (re4 S file next B p).c7 < _; rw [k4]; omega))
 go_wp2_with (first
  | (go_at_call 42; refine hD.out.mono ?_; rintro e w5 ⟨he, O5, D5, G5⟩; rw [show (((((S.create next p).1.append next B).1.sync next).1.rename next file).1.syncDir).2 = 0 from r5] at he; subst he; have H5 := hide (H4.out.step D5 G5); clear D5 G5)
  | (go_at_call 35; refine (must_ok _).mono ?_; rintro e wm ⟨rfl, hwm⟩; rw [hwm]; clear hwm wm)
  | fail)
 go_end0
 exact ⟨rfl, p, O5, hp, H5.out.dk, H5.out.go⟩
end Go.Proofs.YtnimildpcnmjeaaGreatDoor.St
