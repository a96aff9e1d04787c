/-
  begun of layer 13.
-/
import Derived.Test.YtpflaglfnkmjiaaGreatM09
import Derived.Maps.AppendAt
import Derived.Test.YtpflaglfnkmjiaaGreatM01
import Derived.Test.YtpflaglfnkmjiaaGreatM04
import Derived.Test.YtpflaglfnkmjiaaGreatM08
set_option maxRecDepth 100000
set_option maxHeartbeats 40000000
set_option linter.unusedVariables false
namespace Go.Proofs.YtpflaglfnkmjiaaGreat.Sg
open Go.RowKit Go.Maps Go.Sort Go.Shelf Go.Proofs.YtpflaglfnkmjiaaGreat.Nm Go.Proofs.YtpflaglfnkmjiaaGreat.Dk
theorem str2 {B : Nat} {w : World} {ra : Option Addr} {rc : Nat} (h : Ob B w (.slice ra 2 rc) [98, 99]) : (convert 39 9 (.slice ra 2 rc)).run Tryz.prog w = .ok (.string ⟨#[98, 99]⟩) w := by
 obtain ⟨ao, ca, e, h2, h3, h4, h5⟩ := h.sl
 simp only [Value.slice.injEq] at e
 obtain ⟨rfl, _, rfl⟩ := e
 obtain ⟨b, off, rfl, _⟩ := h5 0 (by decide)
 refine run_convert_bytes_arg w 39 5 Tryz.underlying39 Tryz.underlying5 b off 2 rc [98, 99] rfl (fun i hi => ?_) 9 Tryz.underlying9
 obtain ⟨b', off', e', hc⟩ := h5 i hi
 simp only [Option.some.injEq, Addr.mk.injEq] at e'
 obtain ⟨rfl, rfl, _⟩ := e'
 rw [hc]
 match i, hi with
 | 0, _ => rfl
 | 1, _ => rfl
theorem begun13_any (w : World) : Calls Tryz.prog 6 #[] w fun e w' => e = .returned (.bool true) ∧ Below w.heap.size w w' := by
 have hN := new_dsk w 65536 (by decide) (by decide)
 have hC : Hid (∀ q b O, DskE q b (DS.new 65536) O → Below w.heap.size w q → (∀ k, O k → w.heap.size ≤ k) → Calls Tryz.prog 13 #[.pointer (some ⟨b, 0, none⟩), .string ⟨#[115, 101, 103, 45, 48, 48, 48, 48, 48, 48, 48, 48, 48, 48, 48, 48, 48, 48, 48, 49, 46, 108, 111, 103]⟩, .agg #[.int .i64 1, .int .i64 5, .int .u32 0]] q fun e w' => ∃ p sb, e = .returned (.tuple #[.pointer (some ⟨sb, 0, none⟩), .int .i64 0]) ∧ p ∉ (DS.new 65536).ps ∧ CS w w' sb (newSG b fileB 1 5 0#32 (whF 1 5 0#32).2.1) (creF (DS.new 65536) fileB 1 5 0#32 p).1) := fun q b O h hB hl =>
  cs_create h hB hl fileB 1 5 0#32 (by decide) (by decide) (by decide) (by decide) (by decide) (by decide) (by decide) fun p => (new_cre 65536 (by decide) 1 5 0#32 (by decide) (by decide) (by decide) b p).1
 have hP : Hid (∀ q sb b p vd vs, CS w q sb (newSG b fileB 1 5 0#32 (whF 1 5 0#32).2.1) (creF (DS.new 65536) fileB 1 5 0#32 p).1 → Row q vd vs → Sls q vs [[97], [98, 99]] → Calls Tryz.prog 15 #[.pointer (some ⟨sb, 0, none⟩), vd] q fun e w' => e = .returned (.tuple #[.int .i64 5, .int .i64 0]) ∧ ∃ s S, CS w w' sb s S ∧ B2 s S b) := fun q sb b p vd vs h hr hs => by
  obtain ⟨_, hc⟩ := new_cre 65536 (by decide) 1 5 0#32 (by decide) (by decide) (by decide) b p
  have hc7 := hc.cm.c7
  refine (cs_put h hc.co.ok (whF 1 5 0#32).2.1 rfl vd vs [[97], [98, 99]] hr hs (by decide) (by show (32 : Int) + _ ≤ _; decide) (by show (0 : Nat) + _ ≤ _; decide) (by show fileB.size ≤ maxLen; decide) (by show (creF (DS.new ((65536 : Nat) : Int)) fileB 1 5 0#32 p).1.c7 < _; rw [hc7]; decide)).mono ?_
  rintro e w' ⟨rfl, hS⟩
  obtain ⟨e1, e2⟩ := begun_put b p
  rw [e1]
  exact ⟨rfl, _, _, hS, e2⟩
 have hR : Hid (∀ q sb b s S, CS w q sb s S → B2 s S b → Calls Tryz.prog 19 #[.pointer (some ⟨sb, 0, none⟩), .int .i64 6] q fun e w' => ∃ vd, e = .returned (.tuple #[.agg #[.int .i64 6, vd], .int .i64 0]) ∧ Ob q.heap.size w' vd [98, 99] ∧ Below q.heap.size q w') := fun q sb b s S h k => by
  have := cs_read h k.ok 6 (by decide) (by decide) (by rw [k.bs]; decide) (by rw [k.f]; decide)
  rw [k.r] at this
  exact this
 have hL : Hid (∀ q sb s S b, CS w q sb s S → B2 s S b → Calls Tryz.prog 22 #[.pointer (some ⟨sb, 0, none⟩)] q fun e w' => ∃ l0 l1 l2 l3 l6 l7, e = .returned (.agg #[.string l0, .int .i64 l1, .int .i64 l2, .int .u32 l3, .int .i64 7, .int .i64 67, .int .u32 l6, .bool l7]) ∧ Below q.heap.size q w') := fun q sb s S b h k => by
  have := cs_look h
  unfold SG.look at this
  rw [k.n, k.z] at this
  refine this.mono ?_
  rintro e w' ⟨rfl, hb⟩
  exact ⟨_, _, _, _, _, _, rfl, hb⟩
 have hK : Hid (∀ q sb s S b, CS w q sb s S → B2 s S b → Calls Tryz.prog 21 #[.pointer (some ⟨b, 0, none⟩)] q fun e w' => ∃ l0 l1 l2 l3 l4 l5 l6 l8, e = .returned (.agg #[.int .i64 l0, .int .i64 l1, .int .i64 l2, .int .i64 l3, .int .i64 l4, .int .i64 l5, .int .i64 l6, .int .i64 4, .int .i64 l8]) ∧ Below q.heap.size q w') := fun q sb s S b h k => by
  have := cs_count h
  unfold DS.cs at this
  rw [k.c, k.b] at this
  refine this.mono ?_
  rintro e w' ⟨rfl, hb⟩
  exact ⟨_, _, _, _, _, _, _, _, rfl, hb⟩
 have kc := fun (w : World) (C : Array Value) (n c : Nat) => Lib.run_convert_bytes_const (P := Tryz.prog) w 39 5 C n c Tryz.underlying39 Tryz.underlying5
 go_enter Tryz.func6, Tryz.ntmps6
 go_upto_region 5 with (first
  | (go_at_call 7; refine hN.mono ?_; rintro e w1 ⟨b, O1, rfl, D1, B1, L1⟩; replace D1 := hide D1; replace B1 := hide B1; replace L1 := hide L1)
  | (go_at_call 13; refine (hC.out _ _ _ D1.out B1.out L1.out).mono ?_; rintro e w2 ⟨p, sb, rfl, _, C2⟩; replace C2 := hide C2)
  | fail)
 have kc2 := kc (w2.alloc (.cells #[.int .u8 97] 5 (1, 2))) #[.int .u8 98, .int .u8 99] 2 2
 rw [show (w2.alloc (.cells #[.int .u8 97] 5 (1, 2))).heap.size = w2.heap.size + 1 by simp] at kc2
 have X1 := box_below w2 (.cells #[.int .u8 97] 5 (1, 2))
 have X2 := box_below (w2.alloc (.cells #[.int .u8 97] 5 (1, 2))) (.cells #[.int .u8 98, .int .u8 99] 5 (2, 3))
 have X3 := box_below ((w2.alloc (.cells #[.int .u8 97] 5 (1, 2))).alloc (.cells #[.int .u8 98, .int .u8 99] 5 (2, 3))) (.cells #[.slice (some ⟨w2.heap.size, 0, none⟩) 1 1, .slice (some ⟨w2.heap.size + 1, 0, none⟩) 2 2] 39)
 have S1 : Sl (w2.alloc (.cells #[.int .u8 97] 5 (1, 2))) (.slice (some ⟨w2.heap.size, 0, none⟩) 1 1) [97] := sl_lit_mark w2 [97] 5 (1, 2) (by decide) _ rfl
 have S2 : Sl ((w2.alloc (.cells #[.int .u8 97] 5 (1, 2))).alloc (.cells #[.int .u8 98, .int .u8 99] 5 (2, 3))) (.slice (some ⟨w2.heap.size + 1, 0, none⟩) 2 2) [98, 99] := by
  have := sl_lit_mark (w2.alloc (.cells #[.int .u8 97] 5 (1, 2))) [98, 99] 5 (2, 3) (by decide) _ rfl
  rw [show (w2.alloc (.cells #[.int .u8 97] 5 (1, 2))).heap.size = w2.heap.size + 1 by simp] at this
  exact this
 have R3 : Row (((w2.alloc (.cells #[.int .u8 97] 5 (1, 2))).alloc (.cells #[.int .u8 98, .int .u8 99] 5 (2, 3))).alloc (.cells #[.slice (some ⟨w2.heap.size, 0, none⟩) 1 1, .slice (some ⟨w2.heap.size + 1, 0, none⟩) 2 2] 39)) (.slice (some ⟨w2.heap.size + 1 + 1, 0, none⟩) 2 2) [.slice (some ⟨w2.heap.size, 0, none⟩) 1 1, .slice (some ⟨w2.heap.size + 1, 0, none⟩) 2 2] := by
  have := row_lit ((w2.alloc (.cells #[.int .u8 97] 5 (1, 2))).alloc (.cells #[.int .u8 98, .int .u8 99] 5 (2, 3))) [.slice (some ⟨w2.heap.size, 0, none⟩) 1 1, .slice (some ⟨w2.heap.size + 1, 0, none⟩) 2 2] 39 (by show 2 ≤ maxLen; decide)
  rw [show ((w2.alloc (.cells #[.int .u8 97] 5 (1, 2))).alloc (.cells #[.int .u8 98, .int .u8 99] 5 (2, 3))).heap.size = w2.heap.size + 1 + 1 by simp] at this
  exact this
 have T3 : Sls (((w2.alloc (.cells #[.int .u8 97] 5 (1, 2))).alloc (.cells #[.int .u8 98, .int .u8 99] 5 (2, 3))).alloc (.cells #[.slice (some ⟨w2.heap.size, 0, none⟩) 1 1, .slice (some ⟨w2.heap.size + 1, 0, none⟩) 2 2] 39)) [.slice (some ⟨w2.heap.size, 0, none⟩) 1 1, .slice (some ⟨w2.heap.size + 1, 0, none⟩) 2 2] [[97], [98, 99]] := ⟨rfl, fun i h h' => match i, h, h' with
  | 0, _, _ => Below.sl X3 (Below.sl X2 S1)
  | 1, _, _ => Below.sl X3 S2⟩
 have C3 := hide (((C2.out.below X1).below X2).below X3)
 replace R3 := hide R3
 replace T3 := hide T3
 clear X1 X2 X3 S1 S2 C2
 go_upto_region 6 with (first
  | (go_at_call 15; refine (hP.out _ _ _ _ _ _ C3.out R3.out T3.out).mono ?_; rintro e w4 ⟨rfl, s4, S4, C4, K4⟩; replace C4 := hide C4; replace K4 := hide K4)
  | fail)
 clear C3 R3 T3 kc2
 go_upto_region 7 with (first
  | (go_at_call 19; refine (hR.out _ _ _ _ _ C4.out K4.out).mono ?_; rintro e w5 ⟨vd, rfl, O5, B5⟩; obtain ⟨ra, rc, rfl, rr1, rr2⟩ := O5.form; have hst := hide (str2 O5); replace O5 := hide O5; replace rr1 := hide rr1; replace rr2 := hide rr2; have C5 := hide (C4.out.below B5); replace B5 := hide B5)
  | fail)
 have X6 := box_below w5 (.cells #[.int .i64 6, .slice ra 2 rc] 66)
 have N6 := heap_alloc_new w5 (.cells #[.int .i64 6, .slice ra 2 rc] 66)
 have C6 := hide (C5.out.below X6)
 have O6 := hide (Ob.below O5.out X6)
 obtain ⟨w6, hw6⟩ : ∃ w6, Hid (w5.alloc (.cells #[.int .i64 6, .slice ra 2 rc] 66) = w6) := ⟨_, rfl⟩
 rw [hw6.out] at N6 C6 O6
 obtain ⟨g6, hg6⟩ : ∃ g6, Hid (w5.heap.size = g6) := ⟨_, rfl⟩
 rw [hg6.out] at N6
 replace N6 := hide N6
 rw [hw6.out, hg6.out]
 clear X6 C5 O5 hst B5 hw6 C4
 go_upto_region 8 with (first
  | (go_at_call 22; refine (hL.out _ _ _ _ _ C6.out K4.out).mono ?_; rintro e w7 ⟨l0, l1, l2, l3, l6, l7, rfl, B7⟩; have C7 := hide (C6.out.below B7); have N7 := hide ((B7.block _ (heap_lt N6.out)).trans N6.out); have O7 := hide (Ob.below O6.out B7); clear B7)
  | fail)
 have X8 := box_below w7 (.cells #[.string l0, .int .i64 l1, .int .i64 l2, .int .u32 l3, .int .i64 7, .int .i64 67, .int .u32 l6, .bool l7] 77)
 have C8 := hide (C7.out.below X8)
 have N8 := (X8.block _ (heap_lt N7.out)).trans N7.out
 have hst := str2 (Ob.below O7.out X8)
 have x0 : (w7.alloc (.cells #[.string l0, .int .i64 l1, .int .i64 l2, .int .u32 l3, .int .i64 7, .int .i64 67, .int .u32 l6, .bool l7] 77)).cell? ⟨g6, 0, none⟩ = some (.int .i64 6) := by rw [cell_of N8]; rfl
 have x1 : (w7.alloc (.cells #[.string l0, .int .i64 l1, .int .i64 l2, .int .u32 l3, .int .i64 7, .int .i64 67, .int .u32 l6, .bool l7] 77)).cell? ⟨g6, 1, none⟩ = some (.slice ra 2 rc) := by rw [cell_of N8]; rfl
 clear X8 N8 C7 N7 O7 N6 O6 C6
 have hf7 : ∀ (q : World) (k0 k1 k2 k3 k4 k5 k6 k8 : Int), (Instr.field 74 (.agg #[.int .i64 k0, .int .i64 k1, .int .i64 k2, .int .i64 k3, .int .i64 k4, .int .i64 k5, .int .i64 k6, .int .i64 4, .int .i64 k8]) 7).run Tryz.prog q = .ok (.int .i64 4) q := fun q k0 k1 k2 k3 k4 k5 k6 k8 => by kernel_rfl
 go_wp2_with (first
  | (go_at_call 21; refine (hK.out _ _ _ _ _ C8.out K4.out).mono ?_; rintro e w9 ⟨k0, k1, k2, k3, k4, k5, k6, k8, rfl, B9⟩; have C9 := hide (C8.out.below B9); clear B9)
  | fail)
 go_ret
 exact ⟨rfl, C9.out.bel⟩
def smS (ls : List (List UInt8)) : Nat := (ls.map fun d => d.length + 20).sum
theorem smS_snoc (l : List (List UInt8)) (d : List UInt8) : smS (l ++ [d]) = smS l + (d.length + 20) := by simp [smS]
theorem smS_take {ls : List (List UInt8)} {i : Nat} (hi : i < ls.length) : smS (ls.take (i + 1)) = smS (ls.take i) + ((ls.getD i []).length + 20) := by
 rw [List.take_add_one, show ls[i]?.toList = [ls.getD i []] by simp [List.getD, hi], smS_snoc]
theorem smS_len (l : List (List UInt8)) : 20 * l.length ≤ smS l := by
 induction l with
 | nil => simp [smS]
 | cons d r ih =>
  have : smS (d :: r) = (d.length + 20) + smS r := by simp [smS]
  rw [this, List.length_cons]
  omega
def smN (ls : List (List UInt8)) : Nat → Int
 | 0 => 0
 | i + 1 => wrap64 (wrap64 (smN ls i + ((ls.getD i []).length : Int)) + 20)
theorem small_any {w : World} (vd : Value) (vs : List Value) (ls : List (List UInt8)) (hr : Row w vd vs) (hs : Sls w vs ls) :
    Calls Tryz.prog 12 #[vd] w fun e w' => e = .returned (.bool (decide (smN ls ls.length ≤ 65536))) ∧ w' = w := by
 have HS := hide hs
 have HR := hide hr
 obtain ⟨ao, ca, rfl, _, h2, h3, _⟩ := hr
 have hN : Hid (vs.length = ls.length) := hs.1
 rw [hN.out] at h2 HR ⊢
 have hle : ls.length ≤ 9223372036854775807 := by unfold maxLen at h3; omega
 obtain ⟨N, hlN⟩ : ∃ N, Hid (ls.length = N) := ⟨_, rfl⟩
 rw [hlN.out] at HR hle ⊢
 obtain ⟨R, hR⟩ : ∃ R, Hid (smN ls N = R) := ⟨_, rfl⟩
 rw [hR.out]
 clear h2 h3 hs
 go_enter Tryz.func12, Tryz.ntmps12
 go_wp2_with fail
 go_loopw [3, 4] (fun v3 v4 wr => ∃ (i : Nat) (n : Int), i ≤ N ∧ v3 = .int .i64 n ∧ v4 = .int .i64 (i : Int) ∧ Hid (n = smN ls i) ∧ wr = w) (fun _ v _ => N - (intOf v).toNat)
 case atStart => exact ⟨0, 0, by omega, rfl, rfl, hide rfl, rfl⟩
 case round =>
  obtain ⟨i, n, hi, rfl, rfl, hall, hwr⟩ := hrel
  subst hwr
  by_cases hin : i = N
  ·subst hin
   have hn : n = R := by rw [hall.out, hR.out]
   subst hn
   clear hall
   go_wp2_with fail
   go_ret
   exact ⟨rfl, rfl⟩
  ·have hil : i < N := by omega
   have i1 : (i : Int) < (N : Int) := by omega
   have i0 : (0 : Int) ≤ (i : Int) := by omega
   obtain ⟨da, dc, hv, _⟩ := sls_at HS.out (i := i) (by rw [hlN.out]; exact hil)
   obtain ⟨rb, off, rfl, d0⟩ := row_at HR.out hv
   obtain ⟨M, hM2⟩ : ∃ M, Hid ((ls.getD i []).length = M) := ⟨_, rfl⟩
   rw [hM2.out] at d0
   have hall2 : Hid (wrap64 (wrap64 (n + (M : Int)) + 20) = smN ls (i + 1)) := hide (by rw [smN, hall.out, hM2.out])
   clear hall hv
   go_wp2_with fail
   go_roundw
   case rel => exact ⟨i + 1, _, by omega, rfl, by go_num, hall2, by trivial⟩
   case measure => simp [intOf]; omega
open Ix (wp_region_T wpAnyT wpAnyT_take wpAnyT_one wpAnyT_done vac)
theorem openS_any {w : World} {b : Nat} {S : DS} {O : Nat → Prop} (h : DskE w b S O) (file : ByteArray) (hm : file.size ≤ maxLen) (hf : file.size ≤ 281474976710656) (L : List UInt8) (hL : raF S file = (L, 0)) (h32 : 32 ≤ L.length) (hLl : L.length ≤ 16777216) (nm bs : Int) (seed sum : Crc.R) (hrh : rhF L = (nm, bs, seed, sum, 0)) (g0 : 1 ≤ bs) (g1 : bs ≤ 9223372036854775807) (xs : List Sc) (hx : EvS (L.drop 32) bs sum xs) :
    Calls Tryz.prog 18 #[.pointer (some ⟨b, 0, none⟩), .string file] w fun e w' => ∃ sb xb mb v K, e = .returned (.tuple #[.pointer (some ⟨sb, 0, none⟩), .agg (lastc (L.drop 32) xs), .int .i64 0]) ∧ IsK (L.drop 32) ⟨0, 0, bs.toNat, sum⟩ K ∧ SW w' sb (opE L (newSG b file nm bs seed sum) K) S O xb mb v ∧ (∀ k, SOwn sb xb mb v k → w.heap.size ≤ k) ∧ Below w.heap.size w w' := by
 have B0 := box_below w (.cells #[.int .i64 0, .int .i64 0, .int .i64 0, .int .u32 0, .int .i64 0] 62)
 have N0 := heap_alloc_new w (.cells #[.int .i64 0, .int .i64 0, .int .i64 0, .int .u32 0, .int .i64 0] 62)
 obtain ⟨w0, hw0⟩ : ∃ w0, Hid (w.alloc (.cells #[.int .i64 0, .int .i64 0, .int .i64 0, .int .u32 0, .int .i64 0] 62) = w0) := ⟨_, rfl⟩
 obtain ⟨r0, hr0⟩ : ∃ r0, Hid (w.heap.size = r0) := ⟨_, rfl⟩
 rw [hw0.out] at B0 N0
 have D0 := h.below B0
 have hR := hide (readAll_any D0 file hm)
 rw [hL] at hR
 have hHd : Hid (∀ q vb, Sl q vb L → Calls Tryz.prog 68 #[vb] q fun e w' => e = .returned (.tuple #[.agg #[.int .i64 nm, .int .i64 bs, .int .u32 (seed.toNat : Int)], .int .u32 (sum.toNat : Int), .int .i64 0]) ∧ Below q.heap.size q w') := fun q vb hv => by
  have := readHead_any q vb L hv
  rw [hrh] at this
  exact this
 have hOv : Hid (∀ q vb, Sl q vb (L.drop 32) → Calls Tryz.prog 69 #[vb, .int .i64 bs, .int .u32 (sum.toNat : Int)] q fun e w' => e = .returned (.agg (lastc (L.drop 32) xs)) ∧ Below q.heap.size q w') := fun q vb hv => over_any q vb _ bs sum xs hx (by omega) g1 hv
 have D := hide h
 replace B0 := hide B0
 replace N0 := hide N0
 replace D0 := hide D0
 obtain ⟨K, hK, hz, hzc⟩ := evs_last g0 hx
 have hz' : Hid (∃ z1 z2 z3 z4 : Int, lastc (L.drop 32) xs = #[.int .i64 (K : Int), .int .i64 z1, .int .i64 z2, .int .u32 z3, .int .i64 z4]) := hide ⟨_, _, _, _, by rw [hz, scc, hzc]⟩
 obtain ⟨z1, z2, z3, z4, hz2⟩ := hz'.out
 rw [hz2] at hOv ⊢
 have hOp := hide (opk_sst (L := L) (b := b) (file := file) (nm := nm) (seed := seed) g0 g1 hLl hK.1)
 have hKb : K ≤ 16777216 := by
  obtain ⟨k1, k2, _⟩ := good_e hK.1 (Nat.zero_le _)
  have k3 : (L.drop 32).length ≤ 16777216 := by simp; omega
  have k4 : 16 * K ≤ (Go.Proofs.YtpflaglfnkmjiaaGreat.Sst (L.drop 32) ⟨0, 0, bs.toNat, sum⟩ K).e := by simpa using k2
  omega
 replace hK := hide hK
 clear hz hzc hz' hz2 hx
 obtain ⟨LL, hLL⟩ : ∃ LL, Hid (L.length = LL) := ⟨_, rfl⟩
 rw [hLL.out] at h32 hLl
 clear h hL hrh
 go_enter Tryz.func18, Tryz.ntmps18
 go_upto_region 1 with fail
 rw [hw0.out, hr0.out]
 go_upto_region 6 with (first
  | (go_at_call 67; refine hR.out.mono ?_; rintro e w1 ⟨vb, rfl, O1, B1⟩; obtain ⟨la, lc, rfl, lr1, lr2⟩ := O1.form; rw [hLL.out] at O1 lr1; rw [hLL.out]; replace O1 := hide O1; replace B1 := hide B1)
  | fail)
 go_upto_region 9 with (first
  | (go_at_call 68; refine (hHd.out _ _ O1.out.sl).mono ?_; rintro e w2 ⟨rfl, B2⟩; replace B2 := hide B2)
  | fail)
 have X3 := box_below w2 (.cells #[.int .i64 nm, .int .i64 bs, .int .u32 (seed.toNat : Int)] 38)
 have N3 := heap_alloc_new w2 (.cells #[.int .i64 nm, .int .i64 bs, .int .u32 (seed.toNat : Int)] 38)
 have E3 := hide (keepF (keepF B1.out B2.out) X3)
 have O3 : Hid (Sl (w2.alloc (.cells #[.int .i64 nm, .int .i64 bs, .int .u32 (seed.toNat : Int)] 38)) (.slice la LL lc) L) := hide (Below.sl X3 (Below.sl B2.out O1.out.sl))
 obtain ⟨w3, hw3⟩ : ∃ w3, Hid (w2.alloc (.cells #[.int .i64 nm, .int .i64 bs, .int .u32 (seed.toNat : Int)] 38) = w3) := ⟨_, rfl⟩
 obtain ⟨h3, hh3⟩ : ∃ h3, Hid (w2.heap.size = h3) := ⟨_, rfl⟩
 rw [hw3.out] at N3 E3 O3
 rw [hh3.out] at N3
 rw [hw3.out, hh3.out]
 obtain ⟨tv, htl, hts⟩ := run_tail O3.out 32 (by rw [hLL.out]; exact h32)
 replace hts := hide hts
 replace htl : ∀ q : World, (Instr.slice 39 (.slice la LL lc) (some (.int .i64 32)) none none).run Tryz.prog q = .ok tv q := htl
 replace N3 := hide N3
 clear X3 hw3 hh3 O1 B1 B2 hR
 go_cut [11] from 39 to 44 (fun y11 wx => ∃ fb, y11 = .pointer (some ⟨fb, 0, none⟩) ∧ Hid (Below w3.heap.size w3 wx ∧ w3.heap.size ≤ fb ∧ wx.heap[fb]? = some (.cells #[.int .i64 (K : Int), .int .i64 z1, .int .i64 z2, .int .u32 z3, .int .i64 z4] 62 (0, 0))))
 case first =>
  refine wp_region_T (fun q => q.heap[h3]? = some (.cells #[.int .i64 nm, .int .i64 bs, .int .u32 (seed.toNat : Int)] 38 (0, 0))) 7 (by kernel_rfl) ?_
  have KP : Hid (w3.drew.heap[h3]? = some (.cells #[.int .i64 nm, .int .i64 bs, .int .u32 (seed.toNat : Int)] 38 (0, 0))) := N3.out
  have KB : Hid (Below w3.heap.size w3 w3.drew) := hide (Below.refl _ _).drew
  generalize w3.drew = q at *
  refine Ix.tk 0 ⟨some 39, .move (.tmp 7), _, _, _, _⟩ (.slice la LL lc) [7] ?_ KP.out ?_
  ·intro wq hSw; go_simp
  (try simp only [zzp, zzb, zzc])
  refine Ix.tk 1 ⟨some 40, .slice 39 (.tmp 39) (some (.const (Value.int IntKind.i64 32))) none none, _, _, _, _⟩ (tv) [7] ?_ KP.out ?_
  ·intro wq hSw; go_simp
  (try simp only [zzp, zzb, zzc])
  refine Ix.tk 2 ⟨some 41, .fieldAddr 38 (.tmp 9) 1, _, _, _, _⟩ (.pointer (some ⟨h3, 1, none⟩)) [7] ?_ KP.out ?_
  ·intro wq hSw
   have e0 := (tri hSw).1; have e1 := (tri hSw).2.1; have e2 := (tri hSw).2.2
   go_simp
  (try simp only [zzp, zzb, zzc])
  refine Ix.tk 3 ⟨some 42, .load 2 (.tmp 41), _, _, _, _⟩ (.int .i64 bs) [7] ?_ KP.out ?_
  ·intro wq hSw
   have e0 := (tri hSw).1; have e1 := (tri hSw).2.1; have e2 := (tri hSw).2.2
   go_simp
  (try simp only [zzp, zzb, zzc])
  refine Ix.tk 4 ⟨some 43, .move (.tmp 10), _, _, _, _⟩ (.int .u32 (sum.toNat : Int)) [7] ?_ KP.out ?_
  ·intro wq hSw
   have e0 := (tri hSw).1; have e1 := (tri hSw).2.1; have e2 := (tri hSw).2.2
   go_simp
  (try simp only [zzp, zzb, zzc])
  have N8 := hide (heap_alloc_new q (.cells #[.int .i64 0, .int .i64 0, .int .i64 0, .int .u32 0, .int .i64 0] 62))
  have B8 := hide (box_below q (.cells #[.int .i64 0, .int .i64 0, .int .i64 0, .int .u32 0, .int .i64 0] 62))
  have K8 : Hid ((q.alloc (.cells #[.int .i64 0, .int .i64 0, .int .i64 0, .int .u32 0, .int .i64 0] 62)).heap[h3]? = some (.cells #[.int .i64 nm, .int .i64 bs, .int .u32 (seed.toNat : Int)] 38 (0, 0))) := (B8.out.block _ (heap_lt KP.out)).trans KP.out
  refine wpAnyT_two (i := 5) (j := 6) (oi := ⟨some 44, .call { callee := .value (.func 69), args := #[.tmp 40, .tmp 42, .tmp 43], argTypes := #[39, 2, 36] }, _, _, _, _⟩) (oj := ⟨some 11, .alloc 62, _, _, _, _⟩) (by kernel_rfl) rfl rfl ?_ ?_
  ·intro K hK
   go_simp
   go_at_call 69
   refine (hOv.out q tv (Below.sl KB.out hts.out)).mono ?_
   rintro e w4 ⟨rfl, b4⟩
   have K4 : Hid (w4.heap[h3]? = some (.cells #[.int .i64 nm, .int .i64 bs, .int .u32 (seed.toNat : Int)] 38 (0, 0))) := (b4.block _ (heap_lt KP.out)).trans KP.out
   have KU := hide (keepF KB.out b4)
   (try go_simp)
   refine hK.out _ _ (fun _ => K4.out) ?_
   clear hK K
   (try simp only [zzp, zzb, zzc])
   refine wpAnyT_one (i := 6) (o := ⟨some 11, .alloc 62, _, _, _, _⟩) (by kernel_rfl) rfl (fun K hK => ?_)
   go_simp
   refine hK.out _ _ (fun _ => ((box_below w4 (.cells #[.int .i64 0, .int .i64 0, .int .i64 0, .int .u32 0, .int .i64 0] 62)).block _ (heap_lt K4.out)).trans K4.out) ?_
   clear hK K
   (try simp only [zzp, zzb, zzc])
   refine wpAnyT_one (i := 7) (o := ⟨none, .store 62 (.tmp 11) (.tmp 44), _, _, _, _⟩) (by kernel_rfl) rfl (fun K hK => ?_)
   go_simp
   refine hK.out _ _ (vac (by kernel_rfl)) ?_
   clear hK K
   (try simp only [zzq])
   refine wpAnyT_done (by kernel_rfl) ?_ _
   go_wp2_with fail
   go_meet
   case rel => exact ⟨w4.heap.size, rfl, keepF KU.out (box_below w4 (.cells #[.int .i64 (K : Int), .int .i64 z1, .int .i64 z2, .int .u32 z3, .int .i64 z4] 62)), KU.out.size, heap_alloc_new w4 (.cells #[.int .i64 (K : Int), .int .i64 z1, .int .i64 z2, .int .u32 z3, .int .i64 z4] 62)⟩
  ·intro K hK
   go_simp
   refine hK.out _ _ (fun _ => K8.out) ?_
   clear hK K
   (try simp only [zzq])
   refine wpAnyT_one (i := 5) (o := ⟨some 44, .call { callee := .value (.func 69), args := #[.tmp 40, .tmp 42, .tmp 43], argTypes := #[39, 2, 36] }, _, _, _, _⟩) (by kernel_rfl) rfl (fun K hK => ?_)
   go_simp
   go_at_call 69
   refine (hOv.out (q.alloc (.cells #[.int .i64 0, .int .i64 0, .int .i64 0, .int .u32 0, .int .i64 0] 62)) tv (Below.sl (keepF KB.out B8.out) hts.out)).mono ?_
   rintro e w4 ⟨rfl, b4⟩
   have K4 : Hid (w4.heap[h3]? = some (.cells #[.int .i64 nm, .int .i64 bs, .int .u32 (seed.toNat : Int)] 38 (0, 0))) := (b4.block _ (heap_lt K8.out)).trans K8.out
   have KU := hide (keepF (keepF KB.out B8.out) b4)
   have NU := (But.of_below b4 fun _ => False).at N8.out (fun c => c)
   have z0f : w4.frozen? ⟨q.heap.size, 0, none⟩ = false := by simp [World.frozen?, NU]
   have d0 : w4.cell? ⟨q.heap.size, 0, none⟩ = some (.int .i64 0) := by rw [cell_of NU]; rfl
   have z1f : w4.frozen? ⟨q.heap.size, 1, none⟩ = false := by simp [World.frozen?, NU]
   have d1 : w4.cell? ⟨q.heap.size, 1, none⟩ = some (.int .i64 0) := by rw [cell_of NU]; rfl
   have z2f : w4.frozen? ⟨q.heap.size, 2, none⟩ = false := by simp [World.frozen?, NU]
   have d2 : w4.cell? ⟨q.heap.size, 2, none⟩ = some (.int .i64 0) := by rw [cell_of NU]; rfl
   have z3f : w4.frozen? ⟨q.heap.size, 3, none⟩ = false := by simp [World.frozen?, NU]
   have d3 : w4.cell? ⟨q.heap.size, 3, none⟩ = some (.int .u32 0) := by rw [cell_of NU]; rfl
   have z4f : w4.frozen? ⟨q.heap.size, 4, none⟩ = false := by simp [World.frozen?, NU]
   have d4 : w4.cell? ⟨q.heap.size, 4, none⟩ = some (.int .i64 0) := by rw [cell_of NU]; rfl
   replace NU := hide NU
   (try go_simp)
   refine hK.out _ _ (fun _ => K4.out) ?_
   clear hK K
   (try simp only [zzp, zzb, zzc])
   refine wpAnyT_one (i := 7) (o := ⟨none, .store 62 (.tmp 11) (.tmp 44), _, _, _, _⟩) (by kernel_rfl) rfl (fun K hK => ?_)
   go_simp
   refine hK.out _ _ (vac (by kernel_rfl)) ?_
   clear hK K
   (try simp only [zzq])
   refine wpAnyT_done (by kernel_rfl) ?_ _
   go_wp2_with fail
   go_meet
   case rel => exact ⟨q.heap.size, rfl, put5_below KU.out KB.out.size _ _ _ _ _, KB.out.size, put5_at NU.out _ _ _ _ _⟩
 case rest =>
  obtain ⟨fb, rfl, hcu⟩ := hcut
  obtain ⟨b4, l4, n4⟩ := hcu.out
  have fbl : Hid (r0 < fb) := hide (by have h1 := heap_lt N0.out; have h2 := E3.out.size; have h3 := hr0.out; omega)
  have N4 := (b4.block _ (heap_lt N3.out)).trans N3.out
  have O4 := hide (Below.sl b4 O3.out)
  have E4 := hide (keepF E3.out b4)
  generalize hwc : wc = w4 at *
  clear hwc hcu b4 O3 E3 N3 hts htl
  obtain ⟨x0, x1, x2⟩ := tri N4
  have hHe := hide (headed_any w4 b file nm bs (seed.toNat : Int) (sum.toNat : Int) hf)
  go_upto_region 11 with (first
   | (go_at_call 51; refine hHe.out.mono ?_; rintro e w5 ⟨sb, xb, mb, v5, rfl, G5, b5, f5⟩; replace G5 := hide G5; replace b5 := hide b5; replace f5 := hide f5)
   | fail)
  have n5 := hide ((b5.out.block _ (heap_lt n4)).trans n4)
  have d0 : w5.cell? ⟨fb, 0, none⟩ = some (.int .i64 (K : Int)) := by rw [cell_of n5.out]; rfl
  have G5' : Hid (Seg w5 sb (newSG b file nm bs seed sum) xb mb v5) := G5.out
  have D5 := hide ((D0.out.below E4.out).below b5.out)
  have O5 := hide (Below.sl b5.out O4.out)
  clear x0 x1 x2 N4 G5
  have I5 : Hid (OI w4 w5 sb (opk L (newSG b file nm bs seed sum) 0) S O xb mb) := hide ⟨v5, ⟨G5'.out, D5.out, fun k hk c => by
   have h1 := (D0.out.below E4.out).lt k c
   obtain ⟨q1, q2, q3, q4⟩ := f5.out
   rcases hk with hk | hk | hk | hk
   ·omega
   ·omega
   ·omega
   ·have := q4 k hk; omega⟩, b5.out, fun k hk => by
   obtain ⟨q1, q2, q3, q4⟩ := f5.out
   rcases hk with hk | hk | hk | hk
   ·omega
   ·omega
   ·omega
   ·exact q4 k hk⟩
  replace n4 := hide n4
  clear G5' D5 O5 b5 f5
  go_wp2_with fail
  clear d0 n5
  go_loopg [52] K (fun kx v52 wr => ∃ i : Nat, i ≤ K ∧ K - i ≤ kx ∧ v52 = .int .i64 (i : Int) ∧ Hid (OI w4 wr sb (opk L (newSG b file nm bs seed sum) i) S O xb mb))
  case atStart => exact ⟨0, Nat.zero_le _, Nat.le_refl _, rfl, I5.out⟩
  case round =>
   clear I5
   obtain ⟨i, hi, hkx, rfl, hI⟩ := hrel
   by_cases hlt : ¬ i < K
   ·obtain rfl : i = K := by omega
    have hlt2 : ¬ (i : Int) < (i : Int) := by omega
    have hEE : Hid (opE L (newSG b file nm bs seed sum) i = if (opk L (newSG b file nm bs seed sum) i).size < (LL : Int) then { opk L (newSG b file nm bs seed sum) i with cond := 1 } else opk L (newSG b file nm bs seed sum) i) := hide (by unfold opE; rw [hLL.out])
    obtain ⟨sE, hsE⟩ : ∃ sE, Hid (opE L (newSG b file nm bs seed sum) i = sE) := ⟨_, rfl⟩
    rw [hsE.out] at hEE
    obtain ⟨sK, hsK⟩ : ∃ sK, Hid (opk L (newSG b file nm bs seed sum) i = sK) := ⟨_, rfl⟩
    rw [hsK.out] at hI hEE
    have N00 : w0.heap[r0]? = some (.cells #[.int .i64 0, .int .i64 0, .int .i64 0, .int .u32 0, .int .i64 0] 62 (0, 0)) := by rw [← hr0.out]; exact N0.out
    have n04 := hide ((E4.out.block _ (heap_lt N00)).trans N00)
    have lr : Hid (r0 = w.heap.size) := hide hr0.out.symm
    have BW : Hid (Below w.heap.size w w4) := hide (keepF B0.out E4.out)
    have DL : Hid (∀ k, O k → k < w.heap.size) := hide (fun k hk => D.out.lt k hk)
    obtain ⟨y6, y7⟩ := hI.out.cells
    have c8 := hI.out.cell8
    have f8 := c8.1
    have y8 := c8.2
    clear c8
    by_cases hsz : sK.size < (LL : Int)
    ·have hI3 : Hid (OI w4 (wr.setCell ⟨sb, 8, none⟩ (.int .i64 1)) sb sE S O xb mb) := hide (by rw [hEE.out, if_pos hsz]; exact hI.out.set8 1)
     go_upto_region 18 with fail
     obtain ⟨W, hW⟩ : ∃ W, Hid (wr.setCell ⟨sb, 8, none⟩ (.int .i64 1) = W) := ⟨_, rfl⟩
     rw [hW.out] at hI3 ⊢
     clear y6 y7 f8 y8 hI
     have KI : Hid (OI w4 W.drew sb sE S O xb mb) := hide (hI3.out.below (Below.refl _ _).drew)
     have KP : Hid (W.drew.heap[fb]? = some (.cells #[.int .i64 (i : Int), .int .i64 z1, .int .i64 z2, .int .u32 z3, .int .i64 z4] 62 (0, 0))) := hide ((KI.out.bel.block _ (heap_lt n4.out)).trans n4.out)
     have NR : Hid (W.drew.heap[r0]? = some (.cells #[.int .i64 0, .int .i64 0, .int .i64 0, .int .u32 0, .int .i64 0] 62 (0, 0))) := hide ((KI.out.bel.block _ (heap_lt n04.out)).trans n04.out)
     refine wp_region_T (fun q => q.heap[fb]? = some (.cells #[.int .i64 (i : Int), .int .i64 z1, .int .i64 z2, .int .u32 z3, .int .i64 z4] 62 (0, 0))) 4 (by kernel_rfl) ?_
     generalize W.drew = q at *
     refine Ix.tk 0 ⟨some 85, .move (.tmp 12), _, _, _, _⟩ (.pointer (some ⟨sb, 0, none⟩)) [2,3,4] ?_ KP.out ?_
     ·intro wq hSw; go_simp
     (try simp only [zzp, zzb, zzc])
     refine Ix.tk 2 ⟨some 4, .assign (.tmp 85), _, _, _, _⟩ (.pointer (some ⟨sb, 0, none⟩)) [3,4] ?_ KP.out ?_
     ·intro wq hSw; go_simp
     (try simp only [zzp, zzb, zzc])
     refine Ix.tk 1 ⟨some 86, .load 62 (.tmp 11), _, _, _, _⟩ (.agg #[.int .i64 (i : Int), .int .i64 z1, .int .i64 z2, .int .u32 z3, .int .i64 z4]) [3,4] ?_ KP.out ?_
     ·intro wq hSw
      have x0 := cell_of (j := 0) hSw; have x1 := cell_of (j := 1) hSw; have x2 := cell_of (j := 2) hSw; have x3 := cell_of (j := 3) hSw; have x4 := cell_of (j := 4) hSw; simp at x0 x1 x2 x3 x4
      go_simp
     (try simp only [zzp, zzb, zzc])
     have z0f : q.frozen? ⟨r0, 0, none⟩ = false := by simp [World.frozen?, NR.out]
     have d0 : q.cell? ⟨r0, 0, none⟩ = some (.int .i64 0) := by rw [cell_of NR.out]; rfl
     have z1f : q.frozen? ⟨r0, 1, none⟩ = false := by simp [World.frozen?, NR.out]
     have d1 : q.cell? ⟨r0, 1, none⟩ = some (.int .i64 0) := by rw [cell_of NR.out]; rfl
     have z2f : q.frozen? ⟨r0, 2, none⟩ = false := by simp [World.frozen?, NR.out]
     have d2 : q.cell? ⟨r0, 2, none⟩ = some (.int .i64 0) := by rw [cell_of NR.out]; rfl
     have z3f : q.frozen? ⟨r0, 3, none⟩ = false := by simp [World.frozen?, NR.out]
     have d3 : q.cell? ⟨r0, 3, none⟩ = some (.int .u32 0) := by rw [cell_of NR.out]; rfl
     have z4f : q.frozen? ⟨r0, 4, none⟩ = false := by simp [World.frozen?, NR.out]
     have d4 : q.cell? ⟨r0, 4, none⟩ = some (.int .i64 0) := by rw [cell_of NR.out]; rfl
     have FN := hide (put5_at NR.out (.int .i64 (i : Int)) (.int .i64 z1) (.int .i64 z2) (.int .u32 z3) (.int .i64 z4))
     have FB : Hid (Below w.heap.size w _) := hide (put5_below (keepF BW.out KI.out.bel) (show w.heap.size ≤ r0 by rw [lr.out]; exact Nat.le_refl _) (.int .i64 (i : Int)) (.int .i64 z1) (.int .i64 z2) (.int .u32 z3) (.int .i64 z4))
     have FS : Hid (∃ v, SW _ sb sE S O xb mb v ∧ ∀ k, SOwn sb xb mb v k → w.heap.size ≤ k) := hide (by
      obtain ⟨v, h1, h2, h3⟩ := KI.out
      have hb := put5_but (w := q) (g := r0) (.int .i64 (i : Int)) (.int .i64 z1) (.int .i64 z2) (.int .u32 z3) (.int .i64 z4)
      refine ⟨v, ⟨h1.sg.but hb (fun k hk c => ?_), h1.dk.but hb (fun k hk c => ?_), h1.ap⟩, fun k hk => Nat.le_trans BW.out.size (h3 k hk)⟩
      ·have q1 := h3 k hk
       have q2 := BW.out.size
       have q3 := heap_lt n04.out
       omega
      ·have q1 := DL.out k hk
       have q2 := lr.out
       omega)
     have FP : Hid ((((((q.setCell ⟨r0, 0, none⟩ (.int .i64 (i : Int))).setCell ⟨r0, 1, none⟩ (.int .i64 z1)).setCell ⟨r0, 2, none⟩ (.int .i64 z2)).setCell ⟨r0, 3, none⟩ (.int .u32 z3)).setCell ⟨r0, 4, none⟩ (.int .i64 z4)).heap[fb]? = some (.cells #[.int .i64 (i : Int), .int .i64 z1, .int .i64 z2, .int .u32 z3, .int .i64 z4] 62 (0, 0))) := hide ((((put5_but (w := q) (g := r0) (.int .i64 (i : Int)) (.int .i64 z1) (.int .i64 z2) (.int .u32 z3) (.int .i64 z4))).at KP.out (by have := heap_lt n04.out; have := lr.out; have := fbl.out; omega)))
     refine wpAnyT_one (i := 3) (o := ⟨none, .store 62 (.tmp 5) (.tmp 86), _, _, _, _⟩) (by kernel_rfl) rfl (fun K hK => ?_)
     go_simp
     refine hK.out _ _ (fun _ => FP.out) ?_
     clear hK K
     (try simp only [zzq])
     refine wpAnyT_one (i := 4) (o := ⟨some 6, .assign (.const (Value.int IntKind.i64 0)), _, _, _, _⟩) (by kernel_rfl) rfl (fun K hK => ?_)
     go_simp
     refine hK.out _ _ (vac (by kernel_rfl)) ?_
     clear hK K
     (try simp only [zzp, zzb, zzc])
     refine wpAnyT_done (by kernel_rfl) ?_ _
     obtain ⟨q5, hq5⟩ : ∃ q5, Hid (((((q.setCell ⟨r0, 0, none⟩ (.int .i64 (i : Int))).setCell ⟨r0, 1, none⟩ (.int .i64 z1)).setCell ⟨r0, 2, none⟩ (.int .i64 z2)).setCell ⟨r0, 3, none⟩ (.int .u32 z3)).setCell ⟨r0, 4, none⟩ (.int .i64 z4) = q5) := ⟨_, rfl⟩
     rw [hq5.out] at FN FB FS FP ⊢
     clear z0f z1f z2f z3f z4f d0 d1 d2 d3 d4
     have c0 := cell_of (j := 0) FN.out
     have c1 := cell_of (j := 1) FN.out
     have c2 := cell_of (j := 2) FN.out
     have c3 := cell_of (j := 3) FN.out
     have c4 := cell_of (j := 4) FN.out
     simp at c0 c1 c2 c3 c4
     go_wp2_with fail
     try simp only [Exit.inBlock, Exit.then]
     refine bodyPost_ret (v := .tuple #[.pointer (some ⟨sb, 0, none⟩), .agg #[.int .i64 (i : Int), .int .i64 z1, .int .i64 z2, .int .u32 z3, .int .i64 z4], .int .i64 0]) (by simp [results, Tryz.results18, go_sem, c0, c1, c2, c3, c4]; try rfl) rfl ?_
     obtain ⟨v, FV, FL⟩ := FS.out
     first | exact ⟨sb, rfl, xb, mb, v, i, hK.out, by rw [hsE.out]; exact FV, FL, FB.out⟩ | exact ⟨sb, rfl, xb, mb, i, hK.out, v, by rw [hsE.out]; exact FV, FL, FB.out⟩ | exact ⟨sb, rfl, i, hK.out, xb, mb, v, by rw [hsE.out]; exact FV, FL, FB.out⟩
    ·have hI3 : Hid (OI w4 wr sb sE S O xb mb) := hide (by rw [hEE.out, if_neg hsz]; exact hI.out)
     go_upto_region 18 with fail
     obtain ⟨W, hW⟩ : ∃ W, Hid (wr = W) := ⟨_, rfl⟩
     rw [hW.out] at hI3 ⊢
     clear y6 y7 f8 y8 hI
     have KI : Hid (OI w4 W.drew sb sE S O xb mb) := hide (hI3.out.below (Below.refl _ _).drew)
     have KP : Hid (W.drew.heap[fb]? = some (.cells #[.int .i64 (i : Int), .int .i64 z1, .int .i64 z2, .int .u32 z3, .int .i64 z4] 62 (0, 0))) := hide ((KI.out.bel.block _ (heap_lt n4.out)).trans n4.out)
     have NR : Hid (W.drew.heap[r0]? = some (.cells #[.int .i64 0, .int .i64 0, .int .i64 0, .int .u32 0, .int .i64 0] 62 (0, 0))) := hide ((KI.out.bel.block _ (heap_lt n04.out)).trans n04.out)
     refine wp_region_T (fun q => q.heap[fb]? = some (.cells #[.int .i64 (i : Int), .int .i64 z1, .int .i64 z2, .int .u32 z3, .int .i64 z4] 62 (0, 0))) 4 (by kernel_rfl) ?_
     generalize W.drew = q at *
     refine Ix.tk 0 ⟨some 85, .move (.tmp 12), _, _, _, _⟩ (.pointer (some ⟨sb, 0, none⟩)) [2,3,4] ?_ KP.out ?_
     ·intro wq hSw; go_simp
     (try simp only [zzp, zzb, zzc])
     refine Ix.tk 2 ⟨some 4, .assign (.tmp 85), _, _, _, _⟩ (.pointer (some ⟨sb, 0, none⟩)) [3,4] ?_ KP.out ?_
     ·intro wq hSw; go_simp
     (try simp only [zzp, zzb, zzc])
     refine Ix.tk 1 ⟨some 86, .load 62 (.tmp 11), _, _, _, _⟩ (.agg #[.int .i64 (i : Int), .int .i64 z1, .int .i64 z2, .int .u32 z3, .int .i64 z4]) [3,4] ?_ KP.out ?_
     ·intro wq hSw
      have x0 := cell_of (j := 0) hSw; have x1 := cell_of (j := 1) hSw; have x2 := cell_of (j := 2) hSw; have x3 := cell_of (j := 3) hSw; have x4 := cell_of (j := 4) hSw; simp at x0 x1 x2 x3 x4
      go_simp
     (try simp only [zzp, zzb, zzc])
     have z0f : q.frozen? ⟨r0, 0, none⟩ = false := by simp [World.frozen?, NR.out]
     have d0 : q.cell? ⟨r0, 0, none⟩ = some (.int .i64 0) := by rw [cell_of NR.out]; rfl
     have z1f : q.frozen? ⟨r0, 1, none⟩ = false := by simp [World.frozen?, NR.out]
     have d1 : q.cell? ⟨r0, 1, none⟩ = some (.int .i64 0) := by rw [cell_of NR.out]; rfl
     have z2f : q.frozen? ⟨r0, 2, none⟩ = false := by simp [World.frozen?, NR.out]
     have d2 : q.cell? ⟨r0, 2, none⟩ = some (.int .i64 0) := by rw [cell_of NR.out]; rfl
     have z3f : q.frozen? ⟨r0, 3, none⟩ = false := by simp [World.frozen?, NR.out]
     have d3 : q.cell? ⟨r0, 3, none⟩ = some (.int .u32 0) := by rw [cell_of NR.out]; rfl
     have z4f : q.frozen? ⟨r0, 4, none⟩ = false := by simp [World.frozen?, NR.out]
     have d4 : q.cell? ⟨r0, 4, none⟩ = some (.int .i64 0) := by rw [cell_of NR.out]; rfl
     have FN := hide (put5_at NR.out (.int .i64 (i : Int)) (.int .i64 z1) (.int .i64 z2) (.int .u32 z3) (.int .i64 z4))
     have FB : Hid (Below w.heap.size w _) := hide (put5_below (keepF BW.out KI.out.bel) (show w.heap.size ≤ r0 by rw [lr.out]; exact Nat.le_refl _) (.int .i64 (i : Int)) (.int .i64 z1) (.int .i64 z2) (.int .u32 z3) (.int .i64 z4))
     have FS : Hid (∃ v, SW _ sb sE S O xb mb v ∧ ∀ k, SOwn sb xb mb v k → w.heap.size ≤ k) := hide (by
      obtain ⟨v, h1, h2, h3⟩ := KI.out
      have hb := put5_but (w := q) (g := r0) (.int .i64 (i : Int)) (.int .i64 z1) (.int .i64 z2) (.int .u32 z3) (.int .i64 z4)
      refine ⟨v, ⟨h1.sg.but hb (fun k hk c => ?_), h1.dk.but hb (fun k hk c => ?_), h1.ap⟩, fun k hk => Nat.le_trans BW.out.size (h3 k hk)⟩
      ·have q1 := h3 k hk
       have q2 := BW.out.size
       have q3 := heap_lt n04.out
       omega
      ·have q1 := DL.out k hk
       have q2 := lr.out
       omega)
     have FP : Hid ((((((q.setCell ⟨r0, 0, none⟩ (.int .i64 (i : Int))).setCell ⟨r0, 1, none⟩ (.int .i64 z1)).setCell ⟨r0, 2, none⟩ (.int .i64 z2)).setCell ⟨r0, 3, none⟩ (.int .u32 z3)).setCell ⟨r0, 4, none⟩ (.int .i64 z4)).heap[fb]? = some (.cells #[.int .i64 (i : Int), .int .i64 z1, .int .i64 z2, .int .u32 z3, .int .i64 z4] 62 (0, 0))) := hide ((((put5_but (w := q) (g := r0) (.int .i64 (i : Int)) (.int .i64 z1) (.int .i64 z2) (.int .u32 z3) (.int .i64 z4))).at KP.out (by have := heap_lt n04.out; have := lr.out; have := fbl.out; omega)))
     refine wpAnyT_one (i := 3) (o := ⟨none, .store 62 (.tmp 5) (.tmp 86), _, _, _, _⟩) (by kernel_rfl) rfl (fun K hK => ?_)
     go_simp
     refine hK.out _ _ (fun _ => FP.out) ?_
     clear hK K
     (try simp only [zzq])
     refine wpAnyT_one (i := 4) (o := ⟨some 6, .assign (.const (Value.int IntKind.i64 0)), _, _, _, _⟩) (by kernel_rfl) rfl (fun K hK => ?_)
     go_simp
     refine hK.out _ _ (vac (by kernel_rfl)) ?_
     clear hK K
     (try simp only [zzp, zzb, zzc])
     refine wpAnyT_done (by kernel_rfl) ?_ _
     obtain ⟨q5, hq5⟩ : ∃ q5, Hid (((((q.setCell ⟨r0, 0, none⟩ (.int .i64 (i : Int))).setCell ⟨r0, 1, none⟩ (.int .i64 z1)).setCell ⟨r0, 2, none⟩ (.int .i64 z2)).setCell ⟨r0, 3, none⟩ (.int .u32 z3)).setCell ⟨r0, 4, none⟩ (.int .i64 z4) = q5) := ⟨_, rfl⟩
     rw [hq5.out] at FN FB FS FP ⊢
     clear z0f z1f z2f z3f z4f d0 d1 d2 d3 d4
     have c0 := cell_of (j := 0) FN.out
     have c1 := cell_of (j := 1) FN.out
     have c2 := cell_of (j := 2) FN.out
     have c3 := cell_of (j := 3) FN.out
     have c4 := cell_of (j := 4) FN.out
     simp at c0 c1 c2 c3 c4
     go_wp2_with fail
     try simp only [Exit.inBlock, Exit.then]
     refine bodyPost_ret (v := .tuple #[.pointer (some ⟨sb, 0, none⟩), .agg #[.int .i64 (i : Int), .int .i64 z1, .int .i64 z2, .int .u32 z3, .int .i64 z4], .int .i64 0]) (by simp [results, Tryz.results18, go_sem, c0, c1, c2, c3, c4]; try rfl) rfl ?_
     obtain ⟨v, FV, FL⟩ := FS.out
     first | exact ⟨sb, rfl, xb, mb, v, i, hK.out, by rw [hsE.out]; exact FV, FL, FB.out⟩ | exact ⟨sb, rfl, xb, mb, i, hK.out, v, by rw [hsE.out]; exact FV, FL, FB.out⟩ | exact ⟨sb, rfl, i, hK.out, xb, mb, v, by rw [hsE.out]; exact FV, FL, FB.out⟩
   have hlt' : (i : Int) < (K : Int) := by omega
   obtain ⟨p1, p2, p3, p4, p5⟩ := hOp.out i hi
   have hwz := why_zero (hK.out.1 i (by omega))
   have hge := good_e (L := L.drop 32) (x := ⟨0, 0, bs.toNat, sum⟩) (k := i) (fun j hj => hK.out.1 j (by omega)) (Nat.zero_le _)
   have hop : Hid (opk L (newSG b file nm bs seed sum) (i + 1) = (opk L (newSG b file nm bs seed sum) i).grown (rdF (BitVec.ofNat 32 (opk L (newSG b file nm bs seed sum) i).seed.toNat) (L.drop (opk L (newSG b file nm bs seed sum) i).size.toNat)).2.2.1 ((rdF (BitVec.ofNat 32 (opk L (newSG b file nm bs seed sum) i).seed.toNat) (L.drop (opk L (newSG b file nm bs seed sum) i).size.toNat)).2.2.2.1.toNat : Int)) := hide rfl
   have hle : (Go.Proofs.YtpflaglfnkmjiaaGreat.Sst (L.drop 32) ⟨0, 0, bs.toNat, sum⟩ i).e + 32 ≤ LL := by
    have h1 := hge.1
    have h2 := hLL.out
    simp at h1
    omega
   generalize opk L (newSG b file nm bs seed sum) i = s at *
   have hse : (((BitVec.ofNat 32 s.seed.toNat : Crc.R).toNat : Nat) : Int) = s.seed := by
    have := p4.e
    rw [BitVec.toNat_ofNat, Nat.mod_eq_of_lt (by omega)]
    omega
   obtain ⟨tv, htl, hts⟩ := run_tail (Below.sl hI.out.bel O4.out) s.size.toNat (by rw [hLL.out]; omega)
   rw [show ((s.size.toNat : Nat) : Int) = s.size by omega] at htl
   have hRd : Hid (∀ q vb, Sl q vb (L.drop s.size.toNat) → Calls Tryz.prog 70 #[.int .u32 s.seed, vb] q fun e w' => ∃ va ac an, e = .returned (.tuple #[.agg #[.int .i64 (rdF (BitVec.ofNat 32 s.seed.toNat) (L.drop s.size.toNat)).1, .slice va an ac], .int .i64 (rdF (BitVec.ofNat 32 s.seed.toNat) (L.drop s.size.toNat)).2.2.1, .int .u32 ((rdF (BitVec.ofNat 32 s.seed.toNat) (L.drop s.size.toNat)).2.2.2.1.toNat : Int), .int .i64 (rdF (BitVec.ofNat 32 s.seed.toNat) (L.drop s.size.toNat)).2.2.2.2]) ∧ Below q.heap.size q w') := hide fun q vb hv => by
    have := read_any q (BitVec.ofNat 32 s.seed.toNat) vb _ hv
    rw [hse] at this
    refine this.mono ?_
    rintro e w' ⟨v', rfl, ho, hb⟩
    obtain ⟨a, n, c, rfl⟩ := ob_form ho
    exact ⟨a, c, n, rfl, hb⟩
   replace hts := hide hts
   replace p1 := hide p1
   replace p2 := hide p2
   replace p3 := hide p3
   replace p4 := hide p4
   replace hwz := hide hwz
   replace hge := hide hge
   replace hle := hide hle
   replace hse := hide hse
   obtain ⟨RR, hRR⟩ : ∃ RR, Hid (rdF (BitVec.ofNat 32 s.seed.toNat) (L.drop s.size.toNat) = RR) := ⟨_, rfl⟩
   rw [hRR.out] at hRd hop
   obtain ⟨rl, rd, rz, rs, re⟩ := RR
   simp only at hRd hop
   go_upto_region 13 with fail
   go_cut [14, 15] from 54 to 69 (fun y14 y15 wx => y14 = .int .i64 rz ∧ y15 = .int .u32 (rs.toNat : Int) ∧ Hid (Below wr.heap.size wr wx))
   case first =>
    refine wp_region_T (fun q => Below wr.heap.size wr q) 20 (by kernel_rfl) ?_
    have KP : Hid (Below wr.heap.size wr wr.drew) := hide (Below.refl _ _).drew
    generalize wr.drew = q at *
    refine Ix.tk 0 ⟨some 55, .move (.tmp 12), _, _, _, _⟩ (.pointer (some ⟨sb, 0, none⟩)) [20] ?_ KP.out ?_
    ·intro wq hSw
     have hcs := (hI.out.below hSw).cells; obtain ⟨y6, y7⟩ := hcs
     go_simp
    (try simp only [zzp, zzb, zzc])
    refine Ix.tk 1 ⟨some 56, .nilCheck (.tmp 55), _, _, _, _⟩ (.pointer (some ⟨sb, 0, none⟩)) [20] ?_ KP.out ?_
    ·intro wq hSw
     have hcs := (hI.out.below hSw).cells; obtain ⟨y6, y7⟩ := hcs
     go_simp
    (try simp only [zzp, zzb, zzc])
    refine Ix.tk 2 ⟨some 57, .fieldAddr 130 (.tmp 56) 5, _, _, _, _⟩ (.pointer (some ⟨sb, 7, none⟩)) [20] ?_ KP.out ?_
    ·intro wq hSw
     have hcs := (hI.out.below hSw).cells; obtain ⟨y6, y7⟩ := hcs
     go_simp
    (try simp only [zzp, zzb, zzc])
    refine Ix.tk 3 ⟨some 58, .load 36 (.tmp 57), _, _, _, _⟩ (.int .u32 s.seed) [20] ?_ KP.out ?_
    ·intro wq hSw
     have hcs := (hI.out.below hSw).cells; obtain ⟨y6, y7⟩ := hcs
     go_simp
    (try simp only [zzp, zzb, zzc])
    refine Ix.tk 4 ⟨some 59, .move (.tmp 7), _, _, _, _⟩ (.slice la LL lc) [20] ?_ KP.out ?_
    ·intro wq hSw
     have hcs := (hI.out.below hSw).cells; obtain ⟨y6, y7⟩ := hcs
     go_simp
    (try simp only [zzp, zzb, zzc])
    refine Ix.tk 5 ⟨some 60, .move (.tmp 12), _, _, _, _⟩ (.pointer (some ⟨sb, 0, none⟩)) [20] ?_ KP.out ?_
    ·intro wq hSw
     have hcs := (hI.out.below hSw).cells; obtain ⟨y6, y7⟩ := hcs
     go_simp
    (try simp only [zzp, zzb, zzc])
    refine Ix.tk 6 ⟨some 61, .nilCheck (.tmp 60), _, _, _, _⟩ (.pointer (some ⟨sb, 0, none⟩)) [20] ?_ KP.out ?_
    ·intro wq hSw
     have hcs := (hI.out.below hSw).cells; obtain ⟨y6, y7⟩ := hcs
     go_simp
    (try simp only [zzp, zzb, zzc])
    refine Ix.tk 7 ⟨some 62, .fieldAddr 130 (.tmp 61) 4, _, _, _, _⟩ (.pointer (some ⟨sb, 6, none⟩)) [20] ?_ KP.out ?_
    ·intro wq hSw
     have hcs := (hI.out.below hSw).cells; obtain ⟨y6, y7⟩ := hcs
     go_simp
    (try simp only [zzp, zzb, zzc])
    refine Ix.tk 8 ⟨some 63, .load 3 (.tmp 62), _, _, _, _⟩ (.int .i64 s.size) [20] ?_ KP.out ?_
    ·intro wq hSw
     have hcs := (hI.out.below hSw).cells; obtain ⟨y6, y7⟩ := hcs
     go_simp
    (try simp only [zzp, zzb, zzc])
    refine Ix.tk 9 ⟨some 64, .slice 39 (.tmp 59) (some (.tmp 63)) none none, _, _, _, _⟩ (tv) [20] ?_ KP.out ?_
    ·intro wq hSw
     have hcs := (hI.out.below hSw).cells; obtain ⟨y6, y7⟩ := hcs
     go_simp
    (try simp only [zzp, zzb, zzc])
    have N8 := hide (heap_alloc_new q (.cells #[.int .i64 0, .slice none 0 0] 66))
    have B8 := hide (keepF KP.out (box_below q (.cells #[.int .i64 0, .slice none 0 0] 66)))
    refine wpAnyT_two (i := 10) (j := 16) (oi := ⟨some 65, .call { callee := .value (.func 70), args := #[.tmp 58, .tmp 64], argTypes := #[36, 39] }, _, _, _, _⟩) (oj := ⟨some 13, .alloc 66, _, _, _, _⟩) (by kernel_rfl) rfl rfl ?_ ?_
    ·intro K hK
     go_simp
     go_at_call 70
     refine (hRd.out q tv (Below.sl KP.out hts.out)).mono ?_
     rintro e w6 ⟨va, ac, an, rfl, b6⟩
     have K6 := hide (keepF KP.out b6)
     (try go_simp)
     refine hK.out _ _ (fun _ => K6.out) ?_
     clear hK K
     (try simp only [zzp, zzb, zzc])
     refine Ix.tk 11 ⟨some 54, .move (.tmp 65), _, _, _, _⟩ (.tuple #[.agg #[.int .i64 rl, .slice va an ac], .int .i64 rz, .int .u32 (rs.toNat : Int), .int .i64 re]) [20] ?_ K6.out ?_
     ·intro wq hSw; go_simp
     (try simp only [zzp, zzb, zzc])
     refine Ix.tk 12 ⟨some 66, .extract (.tmp 54) 0, _, _, _, _⟩ (.agg #[.int .i64 rl, .slice va an ac]) [20] ?_ K6.out ?_
     ·intro wq hSw; go_simp
     (try simp only [zzp, zzb, zzc])
     refine Ix.tk 13 ⟨some 67, .extract (.tmp 54) 1, _, _, _, _⟩ (.int .i64 rz) [20] ?_ K6.out ?_
     ·intro wq hSw; go_simp
     (try simp only [zzp, zzb, zzc])
     refine Ix.tk 14 ⟨some 68, .extract (.tmp 54) 2, _, _, _, _⟩ (.int .u32 (rs.toNat : Int)) [20] ?_ K6.out ?_
     ·intro wq hSw; go_simp
     (try simp only [zzp, zzb, zzc])
     refine Ix.tk 15 ⟨some 69, .extract (.tmp 54) 3, _, _, _, _⟩ (.int .i64 re) [20] ?_ K6.out ?_
     ·intro wq hSw; go_simp
     (try simp only [zzp, zzb, zzc])
     have K7 := hide (keepF K6.out (box_below w6 (.cells #[.int .i64 rl, .slice va an ac] 66)))
     refine wpAnyT_one (i := 16) (o := ⟨some 13, .alloc 66, _, _, _, _⟩) (by kernel_rfl) rfl (fun K hK => ?_)
     go_simp
     refine hK.out _ _ (fun _ => keepF K6.out (box_below w6 (.cells #[.int .i64 0, .slice none 0 0] 66))) ?_
     clear hK K
     (try simp only [zzp, zzb, zzc])
     refine wpAnyT_one (i := 17) (o := ⟨none, .store 66 (.tmp 13) (.tmp 66), _, _, _, _⟩) (by kernel_rfl) rfl (fun K hK => ?_)
     go_simp
     refine hK.out _ _ (fun _ => K7.out) ?_
     clear hK K
     (try simp only [zzq])
     refine Ix.tk 18 ⟨some 14, .assign (.tmp 67), _, _, _, _⟩ (.int .i64 rz) [20] ?_ K7.out ?_
     ·intro wq hSw; go_simp
     (try simp only [zzp, zzb, zzc])
     refine Ix.tk 19 ⟨some 15, .assign (.tmp 68), _, _, _, _⟩ (.int .u32 (rs.toNat : Int)) [20] ?_ K7.out ?_
     ·intro wq hSw; go_simp
     (try simp only [zzp, zzb, zzc])
     refine wpAnyT_one (i := 20) (o := ⟨some 16, .assign (.tmp 69), _, _, _, _⟩) (by kernel_rfl) rfl (fun K hK => ?_)
     go_simp
     refine hK.out _ _ (vac (by kernel_rfl)) ?_
     clear hK K
     (try simp only [zzp, zzb, zzc])
     refine wpAnyT_done (by kernel_rfl) ?_ _
     go_wp2_with fail
     go_meet
     case rel => exact ⟨rfl, rfl, K7.out⟩
    ·intro K hK
     go_simp
     refine hK.out _ _ (fun _ => B8.out) ?_
     clear hK K
     (try simp only [zzp, zzb, zzc])
     refine wpAnyT_one (i := 10) (o := ⟨some 65, .call { callee := .value (.func 70), args := #[.tmp 58, .tmp 64], argTypes := #[36, 39] }, _, _, _, _⟩) (by kernel_rfl) rfl (fun K hK => ?_)
     go_simp
     go_at_call 70
     refine (hRd.out (q.alloc (.cells #[.int .i64 0, .slice none 0 0] 66)) tv (Below.sl B8.out hts.out)).mono ?_
     rintro e w6 ⟨va, ac, an, rfl, b6⟩
     have K6 := hide (keepF B8.out b6)
     have NU := (But.of_below b6 fun _ => False).at N8.out (fun c => c)
     have z0f : w6.frozen? ⟨q.heap.size, 0, none⟩ = false := by simp [World.frozen?, NU]
     have d0 : w6.cell? ⟨q.heap.size, 0, none⟩ = some (.int .i64 0) := by rw [cell_of NU]; rfl
     have z1f : w6.frozen? ⟨q.heap.size, 1, none⟩ = false := by simp [World.frozen?, NU]
     have d1 : w6.cell? ⟨q.heap.size, 1, none⟩ = some (.slice none 0 0) := by rw [cell_of NU]; rfl
     have hqs : wr.heap.size ≤ q.heap.size := KP.out.size
     have K7 : Hid (Below wr.heap.size wr ((w6.setCell ⟨q.heap.size, 0, none⟩ (.int .i64 rl)).setCell ⟨q.heap.size, 1, none⟩ (.slice va an ac))) := hide (put2_below K6.out hqs _ _)
     (try go_simp)
     refine hK.out _ _ (fun _ => K6.out) ?_
     clear hK K
     (try simp only [zzp, zzb, zzc])
     refine Ix.tk 11 ⟨some 54, .move (.tmp 65), _, _, _, _⟩ (.tuple #[.agg #[.int .i64 rl, .slice va an ac], .int .i64 rz, .int .u32 (rs.toNat : Int), .int .i64 re]) [20] ?_ K6.out ?_
     ·intro wq hSw; go_simp
     (try simp only [zzp, zzb, zzc])
     refine Ix.tk 12 ⟨some 66, .extract (.tmp 54) 0, _, _, _, _⟩ (.agg #[.int .i64 rl, .slice va an ac]) [20] ?_ K6.out ?_
     ·intro wq hSw; go_simp
     (try simp only [zzp, zzb, zzc])
     refine Ix.tk 13 ⟨some 67, .extract (.tmp 54) 1, _, _, _, _⟩ (.int .i64 rz) [20] ?_ K6.out ?_
     ·intro wq hSw; go_simp
     (try simp only [zzp, zzb, zzc])
     refine Ix.tk 14 ⟨some 68, .extract (.tmp 54) 2, _, _, _, _⟩ (.int .u32 (rs.toNat : Int)) [20] ?_ K6.out ?_
     ·intro wq hSw; go_simp
     (try simp only [zzp, zzb, zzc])
     refine Ix.tk 15 ⟨some 69, .extract (.tmp 54) 3, _, _, _, _⟩ (.int .i64 re) [20] ?_ K6.out ?_
     ·intro wq hSw; go_simp
     (try simp only [zzp, zzb, zzc])
     refine wpAnyT_one (i := 17) (o := ⟨none, .store 66 (.tmp 13) (.tmp 66), _, _, _, _⟩) (by kernel_rfl) rfl (fun K hK => ?_)
     go_simp
     refine hK.out _ _ (fun _ => K7.out) ?_
     clear hK K
     (try simp only [zzq])
     refine Ix.tk 18 ⟨some 14, .assign (.tmp 67), _, _, _, _⟩ (.int .i64 rz) [20] ?_ K7.out ?_
     ·intro wq hSw; go_simp
     (try simp only [zzp, zzb, zzc])
     refine Ix.tk 19 ⟨some 15, .assign (.tmp 68), _, _, _, _⟩ (.int .u32 (rs.toNat : Int)) [20] ?_ K7.out ?_
     ·intro wq hSw; go_simp
     (try simp only [zzp, zzb, zzc])
     refine wpAnyT_one (i := 20) (o := ⟨some 16, .assign (.tmp 69), _, _, _, _⟩) (by kernel_rfl) rfl (fun K hK => ?_)
     go_simp
     refine hK.out _ _ (vac (by kernel_rfl)) ?_
     clear hK K
     (try simp only [zzp, zzb, zzc])
     refine wpAnyT_done (by kernel_rfl) ?_ _
     go_wp2_with fail
     go_meet
     case rel => exact ⟨rfl, rfl, K7.out⟩
   case rest =>
    obtain ⟨rfl, rfl, hcu⟩ := hcut
    have hrz : 0 ≤ rz ∧ rz ≤ 4112 := by
     have hEq : rdF (Go.Proofs.YtpflaglfnkmjiaaGreat.Sst (L.drop 32) ⟨0, 0, bs.toNat, sum⟩ i).s ((L.drop 32).drop (Go.Proofs.YtpflaglfnkmjiaaGreat.Sst (L.drop 32) ⟨0, 0, bs.toNat, sum⟩ i).e) = (rl, rd, rz, rs, re) := by
      rw [← hRR.out, p1.out, p2.out, List.drop_drop]
      congr 1
      ·simp
     have h1 := hwz.out.2.1
     obtain ⟨r1, r2, r3, r4, r5, r6, r7, r8⟩ := rd_good h1
     rw [hEq] at r5
     simp only at r5
     omega
    have hn6 : s.next ≤ 9223372036854775806 := by
     have h1 := hwz.out.2.2.2.2.1
     have h2 := hge.out.2.2.2
     have h3 := p3.out
     simp only at h2
     omega
    have hz6 : s.size + rz ≤ 2147483647 := by
     have h1 := p2.out
     have h2 := hle.out
     omega
    have hG := hide ((hI.out.below hcu.out).grow p4.out rz (rs.toNat : Int) hn6 hrz.1 hz6)
    clear hrz hn6 hz6 hcu htl
    go_wp2_with (first
     | (go_at_call 60; refine hG.out.mono ?_; rintro e w7 ⟨rfl, I7⟩; replace I7 := hide I7)
     | fail)
    go_roundg (K - (i + 1))
    case measure => omega
    case rel => exact ⟨i + 1, by omega, Nat.le_refl _, by go_num, by rw [hop.out]; exact I7.out⟩
theorem wk_bytes {seed : Crc.R} {n : Int} {ls : List (List UInt8)} (h1 : 1 ≤ n) (h2 : n + (ls.length : Int) ≤ 9223372036854775807) (hd : ∀ d ∈ ls, d.length ≤ 4096) : ∀ i, i ≤ ls.length → (wk seed n ls i).1.length ≤ smS (ls.take i)
 | 0, _ => by simp [wk]
 | i + 1, hi => by
  have ih := wk_bytes (seed := seed) h1 h2 hd i (by omega)
  have e := wk_step (seed := seed) (i := i) (show i < ls.length by omega) h1 h2 hd
  have h3 := smS_take (ls := ls) (i := i) (by omega)
  rw [e, h3]
  simp only [List.length_append, frm_len]
  omega
theorem fileB_len : fileB.size ≤ maxLen ∧ fileB.size ≤ 281474976710656 := by
 have : fileB.size = 24 := rfl
 rw [this]; unfold maxLen; omega
theorem cs_sync {w q : World} {sb : Nat} {s : SG} {S : DS} (h : CS w q sb s S) (hf : s.file.size ≤ maxLen) (hc : S.c7 < 900000000) :
    Calls Tryz.prog 16 #[.pointer (some ⟨sb, 0, none⟩)] q fun e w' => e = .returned (.int .i64 (syncF s S).2) ∧ CS w w' sb (syncF s S).1.1 (syncF s S).1.2 := by
 obtain ⟨O, xb, mb, v, h, hB, l1, l2⟩ := h
 refine (syncS_any h hf hc).mono ?_
 rintro e w' ⟨rfl, O', hS, hst⟩
 exact ⟨rfl, hst.cs hS hB l1 l2⟩
theorem cs_syncDir {w q : World} {sb : Nat} {s : SG} {S : DS} (h : CS w q sb s S) (hc : S.c7 < 900000000) :
    Calls Tryz.prog 14 #[.pointer (some ⟨s.b, 0, none⟩)] q fun e w' => e = .returned (.int .i64 S.syncDir.2) ∧ CS w w' sb s S.syncDir.1 := by
 obtain ⟨O, xb, mb, v, h, hB, l1, l2⟩ := h
 refine (syncDir_dsk h.dk (by omega)).mono ?_
 rintro e w' ⟨he, O', hd, hg⟩
 exact ⟨he, O', xb, mb, v, h.disk hd hg, hg.under l1 (Nat.le_refl _) hB, hg.low hB.size l1, l2⟩
def DI (w q : World) (b : Nat) (S : DS) : Prop := ∃ O, DskE q b S O ∧ Below w.heap.size w q ∧ ∀ k, O k → w.heap.size ≤ k
theorem cs_crash {w q0 q : World} {sb : Nat} {s : SG} {S : DS} (h : CS w q0 sb s S) (hq : Below q0.heap.size q0 q) (hc : S.c7 < 900000000) (d : Int) (n0 : -9223372036854775808 ≤ d) (n1 : d ≤ 9223372036854775807) (v : Value) (ks : List Kep) (hk : Kp (fun k => k < w.heap.size ∨ (q0.heap.size ≤ k ∧ k < q.heap.size)) q v ks) :
    Calls Tryz.prog 17 #[.pointer (some ⟨s.b, 0, none⟩), .agg #[.int .i64 d, v]] q fun e w' => e = .returned (.tuple #[]) ∧ DI w w' s.b (S.crash d ks) := by
 obtain ⟨O, xb, mb, v0, h, hB, l1, l2⟩ := h
 have hlt := h.dk.lt
 have hB2 := bs2 hB hq
 refine (crash_dsk (h.dk.below hq) (by omega) d n0 n1 v _ ks hk (fun k hk => ⟨fun c => ?_, ?_⟩)).mono ?_
 ·have := l1 k c
  have := hlt k c
  omega
 ·have := hB2.size
  omega
 ·rintro e w' ⟨he, O', hd, hg⟩
  exact ⟨he, O', hd, hg.under l1 (Nat.le_refl _) hB2, hg.low hB2.size l1⟩
theorem di_open {w q : World} {b : Nat} {S : DS} (h : DI w q b S) (file : ByteArray) (hm : file.size ≤ maxLen) (hf : file.size ≤ 281474976710656) {nm bs : Int} (seed : Crc.R) (n1 : 1 ≤ nm) (n2 : nm ≤ 9223372036854775807) (h1 : 1 ≤ bs) (h2 : bs ≤ 9223372036854775807) {B : List UInt8} (hB : B.length ≤ 8000000) (hH : Has S file (hed nm.toNat bs.toNat seed ++ B)) :
    Calls Tryz.prog 18 #[.pointer (some ⟨b, 0, none⟩), .string file] q fun e w' => ∃ (tb : Nat) (z1 z2 z3 z4 : Int) (t : SG) (K : Nat), e = .returned (.tuple #[.pointer (some ⟨tb, 0, none⟩), .agg #[.int .i64 (K : Int), .int .i64 z1, .int .i64 z2, .int .u32 z3, .int .i64 z4], .int .i64 0]) ∧ CS w w' tb t S ∧ Below q.heap.size q w' ∧ IsK B ⟨0, 0, bs.toNat, (whF nm bs seed).2.1⟩ K ∧ Coh t (whF nm bs seed).2.1 (dts B ⟨0, 0, bs.toNat, (whF nm bs seed).2.1⟩ K) ∧ t.file = file ∧ t.base = bs ∧ t.next = bs + (K : Int) ∧
     ∀ i : Nat, i < K → rdS t S (bs + (i : Int)) = ((bs + (i : Int), (dts B ⟨0, 0, bs.toNat, (whF nm bs seed).2.1⟩ K).getD i []), 0) := by
 obtain ⟨O, hd, hB0, l1⟩ := h
 obtain ⟨K0, hK0⟩ := exK B ⟨0, 0, bs.toNat, (whF nm bs seed).2.1⟩ (Nat.zero_le _)
 obtain ⟨o1, o2, o3, _⟩ := open_any b file seed n1 n2 h1 h2 (sum := (whF nm bs seed).2.1) rfl (L := hed nm.toNat bs.toNat seed ++ B) rfl hB hK0
 obtain ⟨xs, hx⟩ := exS B bs (whF nm bs seed).2.1
 have hO := openS_any hd file hm hf _ (raF_has hH) o1 (by rw [List.length_append, hed_len]; omega) nm bs seed (whF nm bs seed).2.1 o3 h1 h2 xs (by rw [o2]; exact hx)
 refine hO.mono ?_
 rintro e w' ⟨tb, xb2, mb2, v2, K, rfl, hK, hSW, hown, hb⟩
 rw [o2] at hK
 obtain ⟨K2, hK2, hla, hcK⟩ := evs_last h1 hx
 have e2 := hK2.unique hK
 subst e2
 obtain ⟨_, _, _, p4, p5, p6, p7, p8, p9⟩ := open_any b file seed n1 n2 h1 h2 (sum := (whF nm bs seed).2.1) rfl (L := hed nm.toNat bs.toNat seed ++ B) rfl hB hK
 have hs1 := hB0.size
 refine ⟨tb, ((Go.Proofs.YtpflaglfnkmjiaaGreat.Sst B ⟨0, 0, bs.toNat, (whF nm bs seed).2.1⟩ K2).e : Int), ((Go.Proofs.YtpflaglfnkmjiaaGreat.Sst B ⟨0, 0, bs.toNat, (whF nm bs seed).2.1⟩ K2).n : Int), ((Go.Proofs.YtpflaglfnkmjiaaGreat.Sst B ⟨0, 0, bs.toNat, (whF nm bs seed).2.1⟩ K2).s.toNat : Int), whyS B (Go.Proofs.YtpflaglfnkmjiaaGreat.Sst B ⟨0, 0, bs.toNat, (whF nm bs seed).2.1⟩ K2), _, K2, ?_, ⟨O, xb2, mb2, v2, hSW, bs2 hB0 hb, l1, fun k hk => Nat.le_trans hs1 (hown k hk)⟩, hb, hK, p4, p5, p6, p8, fun i hi => p9 S hH i hi⟩
 rw [o2, hla]
 unfold scc
 rw [hcK]
abbrev hd3 (bs : Int) : List UInt8 := hed (3 : Int).toNat bs.toNat 9#32
abbrev sd3 (bs : Int) : Crc.R := (whF 3 bs 9#32).2.1
structure KJ (s : SG) (S : DS) (b : Nat) (bs : Int) (ds : List (List UInt8)) (la : List UInt8) (nd : Bool) (c : Int) : Prop where
 cl : ∃ L2 PP F p, runs L2 PP = [(fileB.data.toList, p)] ∧ (nd = true → PP = []) ∧ (F p).la = la ∧ (F p).sp = 0 ∧ Clm s S (sd3 bs) (hd3 bs) ds 262144 L2 PP F c p
 b : s.b = b
 fl : s.file = fileB
 bs : s.base = bs
theorem KJ.c7 {s : SG} {S : DS} {b : Nat} {bs : Int} {ds : List (List UInt8)} {la : List UInt8} {nd : Bool} {c : Int} (h : KJ s S b bs ds la nd c) : S.c7 = c := by
 obtain ⟨_, _, _, _, _, _, _, _, cl⟩ := h.cl
 exact cl.cm.c7
theorem syF_la (H : List UInt8) : (syF ⟨H, [], 0⟩).la = H := by simp [syF, svd]
theorem syF_sp (f : Fl) : (syF f).sp = 0 := rfl
theorem KJ.new (bs : Int) (h1 : 1 ≤ bs) (h2 : bs ≤ 9223372036854775807) (b p : Nat) :
    (creF (DS.new 262144) fileB 3 bs 9#32 p).2 = 0 ∧ KJ (newSG b fileB 3 bs 9#32 (sd3 bs)) (creF (DS.new 262144) fileB 3 bs 9#32 p).1 b bs [] (hd3 bs) false 3 := by
 obtain ⟨a1, a2⟩ := new_cre 262144 (by decide) 3 bs 9#32 (by decide) h1 h2 b p
 refine ⟨a1, ⟨[], _, _, p, run_file p, fun c => (nomatch c), ?_, ?_, a2⟩, rfl, rfl, rfl⟩
 ·rw [upd_same]; exact syF_la _
 ·rw [upd_same]; exact syF_sp _
theorem KJ.syncDir {s : SG} {S : DS} {b : Nat} {bs : Int} {ds : List (List UInt8)} {la : List UInt8} {nd : Bool} {c : Int} (h : KJ s S b bs ds la nd c) : S.syncDir.2 = 0 ∧ KJ s S.syncDir.1 b bs ds la true (c + 1) := by
 obtain ⟨L2, PP, F, p, r, n, l, z, cl⟩ := h.cl
 obtain ⟨a1, a2⟩ := cl.cm.syncDir
 exact ⟨a1, ⟨_, [], F, p, r, fun _ => rfl, l, z, cl.co, cl.cd, cl.hh, a2, cl.my, cl.gt, cl.by_, cl.sl⟩, h.b, h.fl, h.bs⟩
theorem KJ.sync {s : SG} {S : DS} {b : Nat} {bs : Int} {ds : List (List UInt8)} {la : List UInt8} {nd : Bool} {c : Int} (h : KJ s S b bs ds la nd c) (hla : ∃ t, hd3 bs ++ (wk (sd3 bs) bs ds ds.length).1 = la ++ t) : (syncF s S).2 = 0 ∧ KJ (syncF s S).1.1 (syncF s S).1.2 b bs ds (hd3 bs ++ (wk (sd3 bs) bs ds ds.length).1) nd (c + 1) := by
 obtain ⟨L2, PP, F, p, r, n, l, z, cl⟩ := h.cl
 obtain ⟨a1, a2⟩ := cl.cm.sync cl.my cl.gt
 have e : syncF s S = ((s, (S.sync s.file).1), 0) := by
  unfold syncF
  rw [if_neg (by rw [cl.cd]; decide), if_pos a1, a1]
 rw [e]
 have hby := cl.by_
 rw [h.bs] at hby
 refine ⟨rfl, ⟨L2, PP, _, p, r, n, ?_, ?_, cl.co, cl.cd, cl.hh, a2, cl.my, cl.gt, ?_, cl.sl⟩, h.b, h.fl, h.bs⟩
 ·rw [upd_same]
  obtain ⟨t, ht⟩ := hla
  show (F p).la ++ svd (F p) ((F p).by_.length - (F p).la.length) = _
  unfold svd
  rw [z, l, hby, ht]
  simp
 ·rw [upd_same]; exact syF_sp _
 ·rw [upd_same]; exact cl.by_
theorem KJ.put {s : SG} {S : DS} {b : Nat} {bs : Int} {ds : List (List UInt8)} {la : List UInt8} {nd : Bool} {c : Int} (h : KJ s S b bs ds la nd c) (h1 : 1 ≤ bs) (h2 : bs ≤ 1152921504606846976) (ls : List (List UInt8)) (h0 : ls ≠ []) (hd : ∀ d ∈ ls, d.length ≤ 4096) (zd : smS ds ≤ 65536) (zl : smS ls ≤ 65536) :
    (putF s S (wk (sd3 bs) bs ds ds.length).2.2 ls).2 = (bs + (ds.length : Int), 0) ∧ KJ (putF s S (wk (sd3 bs) bs ds ds.length).2.2 ls).1.1 (putF s S (wk (sd3 bs) bs ds ds.length).2.2 ls).1.2 b bs (ds ++ ls) la nd (c + 1) ∧
     s.seed = ((wk (sd3 bs) bs ds ds.length).2.2.toNat : Int) ∧ SOk s ∧ s.size + (ls.length : Int) * 4112 ≤ 2147483647 ∧ s.sd.length + ls.length ≤ 1000000000 := by
 obtain ⟨L2, PP, F, p, r, n, l, z, cl⟩ := h.cl
 have hbs := h.bs
 have hco := cl.co
 have hn := smS_len ls
 have hnd := smS_len ds
 have hnx := hco.n
 have hz := hco.z
 have hsl := cl.sl
 have hwd := wk_bytes (seed := sd3 bs) (n := s.base) (ls := ds) (by omega) (by omega) hco.d ds.length (Nat.le_refl _)
 rw [List.take_length] at hwd
 have hwl := wk_bytes (seed := (wk (sd3 bs) s.base ds ds.length).2.2) (n := s.next) (ls := ls) (by omega) (by omega) hd ls.length (Nat.le_refl _)
 rw [List.take_length] at hwl
 have hM : sumL F (runs L2 PP) + (wk (wk (sd3 bs) s.base ds ds.length).2.2 s.next ls ls.length).1.length ≤ 262144 := by
  rw [r, sum_one, cl.by_, List.length_append, cl.hh]
  omega
 obtain ⟨q1, q2, q3⟩ := cl.put ls h0 hd (by omega) (by omega) (by omega) hM
 obtain ⟨g1, g2, g3, g4, g5, g6, g7⟩ := gk_b s (wk (wk (sd3 bs) s.base ds ds.length).2.2 s.next ls ls.length).2.1 ls.length
 have e5 : (putF s S (wk (sd3 bs) s.base ds ds.length).2.2 ls).1.1 = gk s (wk (wk (sd3 bs) s.base ds ds.length).2.2 s.next ls ls.length).2.1 ls.length := by rw [q2]
 have he := hco.e
 rw [hbs] at q1 q2 q3 e5 g1 g2 g4 he
 refine ⟨by rw [q1, hnx, hbs], ⟨⟨L2, PP, _, p, r, n, ?_, ?_, q3⟩, ?_, ?_, ?_⟩, he, hco.ok, by omega, by omega⟩
 ·rw [upd_same]; exact l
 ·rw [upd_same]; exact z
 ·rw [e5, g1]; exact h.b
 ·rw [e5, g2]; exact h.fl
 ·rw [e5, g4]
theorem nms_one (k : List UInt8) (p : Nat) : nms [(k, p)] = [k] := by simp [nms]
theorem KJ.crash {s : SG} {S : DS} {b : Nat} {bs : Int} {ds : List (List UInt8)} {la : List UInt8} {c : Int} (h : KJ s S b bs ds la true c) (N : Int) (J : List UInt8) {rest : List UInt8} (hr : hd3 bs ++ (wk (sd3 bs) bs ds ds.length).1 = la ++ rest) :
    ∃ m j, Has (S.crash 0 [(N, J)]) fileB (la ++ (rest.take m ++ J.take j)) := by
 obtain ⟨L2, PP, F, p, r, n, l, z, cl⟩ := h.cl
 have hP := n rfl
 subst hP
 have hL2 : L2 = [(fileB.data.toList, p)] := r
 subst hL2
 have hC := cl.cm.crash 0 [(N, J)]
 have hby := cl.by_
 rw [h.bs, hr] at hby
 have e : runs [(fileB.data.toList, p)] (([] : List Ch).take (wthn 0 ([] : List Ch).length)) = [(fileB.data.toList, p)] := rfl
 rw [e, nms_one] at hC
 refine ⟨wthn N ((F p).by_.length - (F p).la.length), jnk (F p) N J, p, hC.find (s := fileB) may_file (get_one _ _), ?_⟩
 rw [hC.F]
 show (crash1 F [(fileB.data.toList, p)] fileB.data.toList (N, J) p).by_ = _
 unfold crash1
 rw [get_one]
 simp only
 rw [upd_same]
 show crF (F p) N J = _
 unfold crF
 generalize wthn N ((F p).by_.length - (F p).la.length) = m
 generalize jnk (F p) N J = j
 unfold svd
 rw [z, l, hby]
 simp
theorem infoSl : (Tryz.prog.info? 39).map (fun i => (i.zero, i.size, i.bytes)) = some (some (.slice none 0 0), 1, 24) := by kernel_rfl
def VL (B : Nat) (w : World) (v : Value) (vs : List Value) : Prop := w.ownsRow B 39 1 v vs.length vs
theorem VL.nil (B : Nat) (w : World) : VL B w (.slice none 0 0) [] := World.ownsRow_nil _ _ _ _
theorem VL.row {B : Nat} {w : World} {v : Value} {vs : List Value} (h : VL B w v vs) : Row w v vs := row_of_owns h rfl
theorem run_catS {B : Nat} {w : World} {v u : Value} {vs us : List Value} {ls : List (List UInt8)} (h : VL B w v vs) (hu : Row w u us) (hs : Sls w us ls) (hl : vs.length + us.length ≤ 1000000) (hB : B ≤ w.heap.size) (ty : TypeId) :
    ∃ v' w', (Builtin.append_ #[35, 35] ty #[v, u]).run Tryz.prog w = .ok v' w' ∧ VL B w' v' (vs ++ us) ∧ w.grownBy w' v.ownBlock ∧ (v'.ownBlock = v.ownBlock ∨ v'.ownBlock = some w.heap.size) := by
 obtain ⟨i0, hi, hz0, hz1, hz2⟩ := info_parts infoSl
 obtain ⟨ao, cap, rfl, h2, h3, h4, h5⟩ := hu
 cases ao with
 | none =>
  obtain ⟨rfl, rfl⟩ := h2 rfl
  refine ⟨v, w, ?_, by simpa using h, ⟨rfl, rfl, rfl, Nat.le_refl _, fun _ _ _ => rfl⟩, .inl rfl⟩
  exact run_append_owned_none (P := Tryz.prog) (w := w) B 35 ty 39 i0 1 Tryz.underlying35 hi v vs.length vs h
 | some a =>
  have hone : ∀ x ∈ us, x.oneCell' = true := fun x hx => by
   obtain ⟨i, hi, rfl⟩ := List.getElem_of_mem hx
   have hi2 : i < ls.length := by rw [← hs.1]; exact hi
   obtain ⟨b, c, e, _⟩ := hs.2 i hi hi2
   rw [e]; rfl
  have hcell : ∀ j x, us[j]? = some x → w.cell? (a.add j) = some x := fun j x hx => by
   obtain ⟨hj, rfl⟩ := List.getElem?_eq_some_iff.1 hx
   obtain ⟨b, off, e, hc⟩ := h5 j hj
   simp only [Option.some.injEq] at e
   subst e
   rw [addr_add]
   exact hc
  obtain ⟨v', w', hr, ho, hg, _, hat⟩ := run_append_own_at (P := Tryz.prog) w B 35 ty 39 i0 (.slice none 0 0) 1 24 Tryz.underlying35 hi hz0 hz1 hz2 rfl (by decide) v vs.length vs h a us.length cap us (by omega) hcell hone (by unfold maxLen; omega) (by omega) hB
  refine ⟨v', w', hr, ?_, hg, hat⟩
  unfold VL
  rw [List.length_append]
  exact ho
theorem smS_sum (l : List (List UInt8)) : smS l = (l.map List.length).sum + 20 * l.length := by
 induction l with
 | nil => rfl
 | cons a r ih =>
  have : smS (a :: r) = (a.length + 20) + smS r := by simp [smS]
  rw [this, ih]
  simp
  omega
theorem sum_take (l : List (List UInt8)) (i : Nat) : ((l.take i).map List.length).sum ≤ (l.map List.length).sum := by
 have h : ((l.take i).map List.length).sum + ((l.drop i).map List.length).sum = (l.map List.length).sum := by
  rw [← List.sum_append, ← List.map_append, List.take_append_drop]
 omega
theorem wrap_two {a b t : Int} (h0 : 0 ≤ a) (h1 : a ≤ 3000000000000000) (h2 : 0 ≤ b) (h3 : b ≤ 2000000) (ht : t = a + (b + 20)) : wrap64 (wrap64 (a + b) + 20) = t := by
 unfold wrap64
 omega
theorem smN_sum {ls : List (List UInt8)} (hl : ls.length ≤ 140737488351232) (hz : (ls.map List.length).sum ≤ 1048576) (i : Nat) (hi : i ≤ ls.length) : smN ls i = (smS (ls.take i) : Int) := by
 induction i with
 | zero => rfl
 | succ i ih =>
  have h1 := ih (by omega)
  have h3 := smS_take (ls := ls) (i := i) (by omega)
  have h4 := smS_sum (ls.take i)
  have h5 : (ls.take i).length = i := by rw [List.length_take]; omega
  have h6 := sum_take ls i
  have h7 : (ls.getD i []).length ≤ 1048576 := by
   have e := smS_sum (ls.take (i + 1))
   have e2 := sum_take ls (i + 1)
   have e3 : (ls.take (i + 1)).length = i + 1 := by rw [List.length_take]; omega
   omega
  rw [smN, h1, h3]
  exact wrap_two (by omega) (by omega) (by omega) (by omega) (by omega)
theorem Sls.cat {w : World} {u v : List Value} {l m : List (List UInt8)} (h : Sls w u l) (k : Sls w v m) : Sls w (u ++ v) (l ++ m) := by
 refine ⟨by rw [List.length_append, List.length_append, h.1, k.1], fun i h1 h2 => ?_⟩
 by_cases hi : i < u.length
 ·have hi2 : i < l.length := by rw [← h.1]; exact hi
  rw [List.getElem_append_left hi, List.getElem_append_left hi2]
  exact h.2 i hi hi2
 ·have hi2 : ¬ i < l.length := by rw [← h.1]; exact hi
  rw [List.getElem_append_right (by omega), List.getElem_append_right (by omega)]
  have e := h.1
  simp only [e]
  exact k.2 _ _ _
theorem kj_new {w q : World} {b : Nat} {O : Nat → Prop} (h : DskE q b (DS.new 262144) O) (hB : Below w.heap.size w q) (l1 : ∀ k, O k → w.heap.size ≤ k) (bs : Int) (h1 : 1 ≤ bs) (h2 : bs ≤ 1152921504606846976) :
    Calls Tryz.prog 13 #[.pointer (some ⟨b, 0, none⟩), .string fileB, .agg #[.int .i64 3, .int .i64 bs, .int .u32 9]] q fun e w' => ∃ sb s S, e = .returned (.tuple #[.pointer (some ⟨sb, 0, none⟩), .int .i64 0]) ∧ CS w w' sb s S ∧ KJ s S b bs [] (hd3 bs) false 3 := by
 refine (cs_create h hB l1 fileB 3 bs 9#32 (by decide) (by decide) (by decide) (by decide) (by decide) (by omega) (by omega) (fun p => (KJ.new bs h1 (by omega) b p).1)).mono ?_
 rintro e w' ⟨p, sb, rfl, _, C⟩
 exact ⟨sb, _, _, rfl, C, (KJ.new bs h1 (by omega) b p).2⟩
theorem kj_syncDir {w q : World} {sb b : Nat} {s : SG} {S : DS} {bs : Int} {ds : List (List UInt8)} {la : List UInt8} {nd : Bool} {c : Int} (h : CS w q sb s S) (k : KJ s S b bs ds la nd c) (hc : c < 1000) :
    Calls Tryz.prog 14 #[.pointer (some ⟨b, 0, none⟩)] q fun e w' => e = .returned (.int .i64 0) ∧ ∃ s' S', CS w w' sb s' S' ∧ KJ s' S' b bs ds la true (c + 1) := by
 obtain ⟨a1, a2⟩ := k.syncDir
 have := cs_syncDir h (by rw [k.c7]; omega)
 rw [k.b, a1] at this
 exact this.mono fun e w' ⟨h1, h2⟩ => ⟨h1, _, _, h2, a2⟩
theorem kj_sync {w q : World} {sb b : Nat} {s : SG} {S : DS} {bs : Int} {ds : List (List UInt8)} {la : List UInt8} {nd : Bool} {c : Int} (h : CS w q sb s S) (k : KJ s S b bs ds la nd c) (hc : c < 1000) (hla : ∃ t, hd3 bs ++ (wk (sd3 bs) bs ds ds.length).1 = la ++ t) :
    Calls Tryz.prog 16 #[.pointer (some ⟨sb, 0, none⟩)] q fun e w' => e = .returned (.int .i64 0) ∧ ∃ s' S', CS w w' sb s' S' ∧ KJ s' S' b bs ds (hd3 bs ++ (wk (sd3 bs) bs ds ds.length).1) nd (c + 1) := by
 obtain ⟨a1, a2⟩ := k.sync hla
 have := cs_sync h (by rw [k.fl]; exact fileB_len.1) (by rw [k.c7]; omega)
 rw [a1] at this
 exact this.mono fun e w' ⟨h1, h2⟩ => ⟨h1, _, _, h2, a2⟩
theorem kj_put {w q : World} {sb b : Nat} {s : SG} {S : DS} {bs : Int} {ds : List (List UInt8)} {la : List UInt8} {nd : Bool} {c : Int} (h : CS w q sb s S) (k : KJ s S b bs ds la nd c) (hc : c < 1000) (h1 : 1 ≤ bs) (h2 : bs ≤ 1152921504606846976) (ls : List (List UInt8)) (h0 : ls ≠ []) (hd : ∀ d ∈ ls, d.length ≤ 4096) (zd : smS ds ≤ 65536) (zl : smS ls ≤ 65536) (vd : Value) (vs : List Value) (hr : Row q vd vs) (hs : Sls q vs ls) :
    Calls Tryz.prog 15 #[.pointer (some ⟨sb, 0, none⟩), vd] q fun e w' => e = .returned (.tuple #[.int .i64 (bs + (ds.length : Int)), .int .i64 0]) ∧ ∃ s' S', CS w w' sb s' S' ∧ KJ s' S' b bs (ds ++ ls) la nd (c + 1) := by
 obtain ⟨a1, a2, a3, a4, a5, a6⟩ := k.put h1 h2 ls h0 hd zd zl
 have hn := smS_len ls
 have := cs_put h a4 (wk (sd3 bs) bs ds ds.length).2.2 a3 vd vs ls hr hs (by omega) a5 a6 (by rw [k.fl]; exact fileB_len.1) (by rw [k.c7]; omega)
 rw [a1] at this
 exact this.mono fun e w' ⟨h1, h2⟩ => ⟨h1, _, _, h2, a2⟩
def rst (bs : Int) (fs ms : List (List UInt8)) : List UInt8 := (wk (wk (sd3 bs) bs fs fs.length).2.2 (bs + (fs.length : Int)) ms ms.length).1
theorem rst_all (bs : Int) (fs ms : List (List UInt8)) : (wk (sd3 bs) bs (fs ++ ms) (fs ++ ms).length).1 = (wk (sd3 bs) bs fs fs.length).1 ++ rst bs fs ms := by
 rw [List.length_append]
 exact (wk_shift fs ms ms.length).2
theorem kj_crash {w q0 q : World} {sb b : Nat} {s : SG} {S : DS} {bs : Int} {fs ms : List (List UInt8)} {c : Int} (h : CS w q0 sb s S) (hq : Below q0.heap.size q0 q) (k : KJ s S b bs (fs ++ ms) (hd3 bs ++ (wk (sd3 bs) bs fs fs.length).1) true c) (hc : c < 1000) (N : Int) (J : List UInt8) (v : Value) (hk : Kp (fun k => k < w.heap.size ∨ (q0.heap.size ≤ k ∧ k < q.heap.size)) q v [(N, J)]) :
    Calls Tryz.prog 17 #[.pointer (some ⟨b, 0, none⟩), .agg #[.int .i64 0, v]] q fun e w' => e = .returned (.tuple #[]) ∧ ∃ S' m j, DI w w' b S' ∧ Has S' fileB (hd3 bs ++ ((wk (sd3 bs) bs fs fs.length).1 ++ ((rst bs fs ms).take m ++ J.take j))) := by
 have hrr : hd3 bs ++ (wk (sd3 bs) bs (fs ++ ms) (fs ++ ms).length).1 = (hd3 bs ++ (wk (sd3 bs) bs fs fs.length).1) ++ rst bs fs ms := by rw [rst_all, List.append_assoc]
 obtain ⟨m, j, hH⟩ := k.crash N J hrr
 have := cs_crash h hq (by rw [k.c7]; omega) 0 (by decide) (by decide) v _ hk
 rw [k.b] at this
 rw [List.append_assoc] at hH
 exact this.mono fun e w' ⟨h1, h2⟩ => ⟨h1, _, m, j, h2, hH⟩
theorem keeps_B {bs : Int} (h1 : 1 ≤ bs) (h2 : bs ≤ 1152921504606846976) {fs ms : List (List UInt8)} (hf : ∀ d ∈ fs, d.length ≤ 4096) (hm : ∀ d ∈ ms, d.length ≤ 4096) (lf : fs.length ≤ 100000) (lm : ms.length ≤ 100000) {m j : Nat} {J : List UInt8} {K : Nat} (hK : IsK ((wk (sd3 bs) bs fs fs.length).1 ++ ((rst bs fs ms).take m ++ J.take j)) ⟨0, 0, bs.toNat, sd3 bs⟩ K) :
    fs.length ≤ K ∧ (J = [] → K ≤ (fs ++ ms).length) ∧ ∀ i : Nat, i < K → (i < fs.length ∨ J = []) → (dts ((wk (sd3 bs) bs fs fs.length).1 ++ ((rst bs fs ms).take m ++ J.take j)) ⟨0, 0, bs.toNat, sd3 bs⟩ K).getD i [] = (fs ++ ms).getD i [] := by
 obtain ⟨a1, a2⟩ := front_of h1 (ds := fs) (by omega) hf rfl hK
 have hb : J = [] → K ≤ (fs ++ ms).length ∧ ∀ i, i < K → (dts ((wk (sd3 bs) bs fs fs.length).1 ++ ((rst bs fs ms).take m ++ J.take j)) ⟨0, 0, bs.toNat, sd3 bs⟩ K).getD i [] = (fs ++ ms).getD i [] := fun e => by
  subst e
  refine cut_of h1 (ds := fs ++ ms) (R := (rst bs fs ms).drop m) (by rw [List.length_append]; omega) (fun d hd => ?_) ?_ hK
  ·rcases List.mem_append.1 hd with c | c
   ·exact hf d c
   ·exact hm d c
  ·rw [rst_all, List.take_nil, List.append_nil, List.append_assoc, List.take_append_drop]
 refine ⟨a1, fun e => (hb e).1, fun i hi hx => ?_⟩
 rcases hx with hx | hx
 ·rw [a2 i hx]
  simp [List.getD, List.getElem?_append_left hx]
 ·exact (hb hx).2 i hi
theorem kj_open {w q : World} {b : Nat} {S : DS} {bs : Int} {fs ms : List (List UInt8)} {m j : Nat} {J : List UInt8} (h : DI w q b S) (hH : Has S fileB (hd3 bs ++ ((wk (sd3 bs) bs fs fs.length).1 ++ ((rst bs fs ms).take m ++ J.take j)))) (h1 : 1 ≤ bs) (h2 : bs ≤ 1152921504606846976) (hf : ∀ d ∈ fs, d.length ≤ 4096) (hm : ∀ d ∈ ms, d.length ≤ 4096) (zf : smS fs ≤ 65536) (zm : smS ms ≤ 65536) (hJ : J.length ≤ 512) :
    Calls Tryz.prog 18 #[.pointer (some ⟨b, 0, none⟩), .string fileB] q fun e w' => ∃ (tb : Nat) (z1 z2 z3 z4 : Int) (t : SG) (K : Nat) (D : Nat → List UInt8), e = .returned (.tuple #[.pointer (some ⟨tb, 0, none⟩), .agg #[.int .i64 (K : Int), .int .i64 z1, .int .i64 z2, .int .u32 z3, .int .i64 z4], .int .i64 0]) ∧ CS w w' tb t S ∧ Below q.heap.size q w' ∧ SOk t ∧ t.base = bs ∧ t.file = fileB ∧ fs.length ≤ K ∧ K ≤ 1000000 ∧ (J = [] → K ≤ (fs ++ ms).length) ∧ (∀ i : Nat, i < K → rdS t S (bs + (i : Int)) = ((bs + (i : Int), D i), 0)) ∧ ∀ i : Nat, i < K → (i < fs.length ∨ J = []) → D i = (fs ++ ms).getD i [] := by
 have nf := smS_len fs
 have nm := smS_len ms
 have wf := wk_bytes (seed := sd3 bs) (n := bs) (ls := fs) h1 (by omega) hf fs.length (Nat.le_refl _)
 have wm := wk_bytes (seed := (wk (sd3 bs) bs fs fs.length).2.2) (n := bs + (fs.length : Int)) (ls := ms) (by omega) (by omega) hm ms.length (Nat.le_refl _)
 rw [List.take_length] at wf wm
 have hBl : ((wk (sd3 bs) bs fs fs.length).1 ++ ((rst bs fs ms).take m ++ J.take j)).length ≤ 140000 := by
  have : (rst bs fs ms).length ≤ smS ms := wm
  simp only [List.length_append, List.length_take]
  omega
 refine (di_open h fileB fileB_len.1 fileB_len.2 (nm := 3) 9#32 (by decide) (by decide) h1 (by omega) (by omega) hH).mono ?_
 rintro e w' ⟨tb, z1, z2, z3, z4, t, K, rfl, C, hB, hK, hco, e1, e2, e3, hrd⟩
 obtain ⟨k1, k2, k3⟩ := keeps_B h1 h2 hf hm (by omega) (by omega) hK
 have hKl := good_e hK.1 (Nat.zero_le _)
 have hKa := hKl.1
 have hKb := hKl.2.1
 simp only at hKb
 exact ⟨tb, z1, z2, z3, z4, t, K, _, rfl, C, hB, hco.ok, e2, e1, k1, by omega, k2, hrd, k3⟩
end Go.Proofs.YtpflaglfnkmjiaaGreat.Sg
namespace Go.Proofs.YtpflaglfnkmjiaaGreat
open Go.RowKit
theorem eqS_any (w : World) (v u : Value) (l m : List UInt8) (hv : Sl w v l) (hu : Sl w u m) :
    Calls Tryz.prog 73 #[v, u] w fun e w' => e = .returned (.bool (decide (l = m))) ∧ Qt w w' := by
 have a := hv.le
 have b := hu.le
 obtain ⟨ao, ca, rfl, _, _, _, h5⟩ := hv
 obtain ⟨bo, cb, rfl, _, _, _, k5⟩ := hu
 exact eq_any w ao bo l m ca cb a b h5 k5
theorem eq6_any (w : World) (a b : Int) (v u : Value) (l m : List UInt8) (hv : Sl w v l) (hu : Sl w u m) :
    Calls Tryz.prog 20 #[.agg #[.int .i64 a, v], .agg #[.int .i64 b, u]] w fun e w' => e = .returned (.bool (decide (a = b) && decide (l = m))) ∧ Below w.heap.size w w' := by
 have hbb := hide (keepF (box_below w (.cells #[.int .i64 a, v] 66)) (box_below (w.alloc (.cells #[.int .i64 a, v] 66)) (.cells #[.int .i64 b, u] 66)))
 have hv2 := hide (Below.sl hbb.out hv)
 have hu2 := hide (Below.sl hbb.out hu)
 clear hv hu
 by_cases h : a = b
 ·subst h
  rw [decide_eq_true rfl, Bool.true_and]
  obtain ⟨D, hD⟩ : ∃ D, Hid (decide (l = m) = D) := ⟨_, rfl⟩
  rw [hD.out]
  go_enter Tryz.func20, Tryz.ntmps20
  go_wp2_with fail
  refine (eqS_any _ _ _ l m hv2.out hu2.out).mono ?_
  rintro e w1 ⟨rfl, hq⟩
  rw [hD.out]
  have hb2 := hide (keepF hbb.out (hq.below _))
  clear hq
  go_wp2_with fail
  go_ret
  exact ⟨rfl, hb2.out⟩
 ·rw [decide_eq_false h, Bool.false_and]
  have hi : (a == b) = false := by simpa using h
  clear h
  go_enter Tryz.func20, Tryz.ntmps20
  go_wp2_with fail
  go_ret
  exact ⟨rfl, hbb.out⟩
end Go.Proofs.YtpflaglfnkmjiaaGreat
