/-
  Which records can be put: refuseRecords; how they are parted: share. 
-/
import Derived.Test.YtnimildpcnmjeaaGreatDoorL07
import Derived.Test.YtnimildpcnmjeaaGreatDoorL06
import Derived.Test.YtnimildpcnmjeaaGreatDoorL02
import Derived.Test.YtnimildpcnmjeaaGreatDoorL04
import Derived.Handy
import Derived.Deep.CutRange
import Derived.BigRegion
import Derived.BigQuiet
import Derived.Deep.RegionHeld3
import Derived.Test.YtnimildpcnmjeaaGreatDoorL01
import Derived.RangeFuncBound
import Derived.Shelf.Abstract
import Derived.WalkKit
import Derived.OwnWalkIn
import Derived.TacticsInMore
import Derived.LoopNIn
import Derived.LoopIn
import Derived.Maps.AppendAt
import Derived.Test.YtnimildpcnmjeaaGreatDoorL03
import Derived.Test.YtnimildpcnmjeaaGreatDoorL05
set_option maxRecDepth 100000
set_option maxHeartbeats 40000000
set_option linter.unusedVariables false
namespace Go.Proofs.YtnimildpcnmjeaaGreatDoor.St
open Go.RowKit Go.Maps Go.Sort Go.Shelf Go.Proofs.YtnimildpcnmjeaaGreatDoor.Nm Go.Proofs.YtnimildpcnmjeaaGreatDoor.Dk Go.Proofs.YtnimildpcnmjeaaGreatDoor.Sg Go.Proofs.YtnimildpcnmjeaaGreatDoor.Ct
set_option maxRecDepth 100000
def rrF (nx : Int) (ls : List (List UInt8)) : Int :=
 if ls = [] then 1 else if ∃ d ∈ ls, 4096 < d.length then 3 else if 9223372036854775806 - nx + 1 < (ls.length : Int) then 44 else 0
theorem srr_any {w : World} {stb b : Nat} {nx : Int} (y0 : w.cell? ⟨stb, 0, none⟩ = some (.pointer (some ⟨b, 0, none⟩))) (y6 : w.cell? ⟨stb, 6, none⟩ = some (.int .i64 nx)) (y8 : w.cell? ⟨stb, 8, none⟩ = some (.int .i64 0)) (y9 : w.cell? ⟨stb, 9, none⟩ = some (.bool false)) (hnx : 1 ≤ nx) (hnx2 : nx ≤ 9223372036854775807) (vd : Value) (vs : List Value) (ls : List (List UInt8)) (hr : Row w vd vs) (hs : Sls w vs ls) :
    Calls Tryz.prog 26 #[.pointer (some ⟨stb, 0, none⟩), vd] w fun e w' => e = .returned (.int .i64 (rrF nx ls)) ∧ w' = w := by
 have hM := srefuse_ok y0 y8 y9
 have HS := hide hs
 have HR := hide hr
 obtain ⟨ao, ca, rfl, _, h2, h3, _⟩ := hr
 have hN : Hid (vs.length = ls.length) := hs.1
 rw [hN.out] at h2 HR ⊢
 have hle : ls.length ≤ 9223372036854775807 := by unfold maxLen at h3; omega
 obtain ⟨R, hR⟩ : ∃ R, Hid (rrF nx ls = R) := ⟨_, rfl⟩
 rw [hR.out]
 obtain ⟨N, hlN⟩ : ∃ N, Hid (ls.length = N) := ⟨_, rfl⟩
 rw [hlN.out] at HR hle ⊢
 clear h2 h3 hs
 by_cases hn0 : N = 0
 ·subst hn0
  have hE := hide (show (1 : Int) = R by rw [← hR.out]; unfold rrF; rw [if_pos (List.length_eq_zero_iff.1 hlN.out)])
  clear hR
  go_enter Tryz.func26, Tryz.ntmps26
  go_wp2_with (first | (go_at_call 33; refine hM.mono ?_; rintro e w1 ⟨rfl, e1⟩; rw [e1]; clear e1 w1) | fail)
  go_ret
  exact ⟨congrArg (fun z : Int => Ending.returned (Value.int .i64 z)) hE.out, rfl⟩
 have kn : ((N : Int) == 0) = false := by simp; omega
 have hne : Hid (ls ≠ []) := hide fun c => by rw [c] at hlN; exact hn0 hlN.out.symm
 have i63 : IntKind.i64.wrap (9223372036854775806 - nx) = 9223372036854775806 - nx := by simp [IntKind.wrap, IntKind.bits, IntKind.signed]; omega
 have i64 : IntKind.i64.wrap (9223372036854775806 - nx + 1) = 9223372036854775806 - nx + 1 := by simp [IntKind.wrap, IntKind.bits, IntKind.signed]; omega
 go_enter Tryz.func26, Tryz.ntmps26
 go_wp2_with (first | (go_at_call 33; refine hM.mono ?_; rintro e w1 ⟨rfl, e1⟩; rw [e1]; clear e1 w1) | fail)
 go_loopw [18] (fun v18 wr => ∃ i : Nat, i ≤ N ∧ v18 = .int .i64 (i : Int) ∧ (∀ k, k < i → (ls.getD k []).length ≤ 4096) ∧ wr = w) (fun v _ => N - (intOf v).toNat)
 case atStart => exact ⟨0, by omega, rfl, fun k hk => absurd hk (by omega), rfl⟩
 case round =>
  obtain ⟨i, hi, rfl, hall, hwr⟩ := hrel
  subst hwr
  replace hall := hide hall
  by_cases hin : i = N
  ·subst hin
   have hno : Hid (¬ ∃ d ∈ ls, 4096 < d.length) := hide (by
    rintro ⟨d, hd, hl⟩
    obtain ⟨k, hk, rfl⟩ := List.mem_iff_getElem.1 hd
    have := hall.out k (by rw [← hlN.out]; exact hk)
    simp only [List.getD, List.getElem?_eq_getElem hk, Option.getD_some] at this
    omega)
   by_cases he : 9223372036854775806 - nx + 1 < (i : Int)
   ·have hE := hide (show (44 : Int) = R by rw [← hR.out]; unfold rrF; rw [if_neg hne.out, if_neg hno.out, hlN.out, if_pos he])
    clear hR hno hall
    go_wp2_with fail
    go_ret
    exact ⟨congrArg (fun z : Int => Ending.returned (Value.int .i64 z)) hE.out, rfl⟩
   ·have hE := hide (show (0 : Int) = R by rw [← hR.out]; unfold rrF; rw [if_neg hne.out, if_neg hno.out, hlN.out, if_neg he])
    clear hR hno hall
    go_wp2_with fail
    go_ret
    exact ⟨congrArg (fun z : Int => Ending.returned (Value.int .i64 z)) hE.out, rfl⟩
  ·have hil : i < N := by omega
   have i1 : (i : Int) < (N : Int) := by omega
   have i0 : (0 : Int) ≤ (i : Int) := by omega
   obtain ⟨da, dc, hv, _⟩ := sls_at HS.out (i := i) (by rw [hlN.out]; exact hil)
   obtain ⟨rb, off, rfl, d0⟩ := row_at HR.out hv
   obtain ⟨M, hM2⟩ : ∃ M, Hid ((ls.getD i []).length = M) := ⟨_, rfl⟩
   rw [hM2.out] at d0
   by_cases hbig : 4096 < M
   ·have kb : (4096 : Int) < (M : Int) := by omega
    have hE := hide (show (3 : Int) = R by
     rw [← hR.out]; unfold rrF
     rw [if_neg hne.out, if_pos ⟨ls.getD i [], by simp [List.getD, hlN.out, hil], by rw [hM2.out]; exact hbig⟩])
    clear hR hall hv
    go_wp2_with fail
    go_ret
    exact ⟨congrArg (fun z : Int => Ending.returned (Value.int .i64 z)) hE.out, rfl⟩
   ·have kb : ¬ (4096 : Int) < (M : Int) := by omega
    have hall2 : Hid (∀ k, k < i + 1 → (ls.getD k []).length ≤ 4096) := hide fun k hk => by
     by_cases hki : k = i
     ·rw [hki, hM2.out]; omega
     ·exact hall.out k (by omega)
    clear hall hv
    go_wp2_with fail
    go_roundw
    case rel => exact ⟨i + 1, by omega, by go_num, hall2.out, by trivial⟩
    case measure => simp [intOf]; omega
end Go.Proofs.YtnimildpcnmjeaaGreatDoor.St
namespace Go.Proofs.YtnimildpcnmjeaaGreatDoor.Sg
open Go.RowKit Go.Maps Go.Sort Go.Shelf Go.Proofs.YtnimildpcnmjeaaGreatDoor.Nm Go.Proofs.YtnimildpcnmjeaaGreatDoor.Dk
end Go.Proofs.YtnimildpcnmjeaaGreatDoor.Sg
namespace Go.Proofs.YtnimildpcnmjeaaGreatDoor
open Go.RowKit
set_option maxRecDepth 100000
end Go.Proofs.YtnimildpcnmjeaaGreatDoor
namespace Go.Proofs.YtnimildpcnmjeaaGreatDoor
open Go.RowKit Go.Shelf
set_option maxRecDepth 100000
attribute [local go_sem] Oper.semAt_some
set_option maxRecDepth 100000
attribute [local go_sem] Oper.semAt_some
end Go.Proofs.YtnimildpcnmjeaaGreatDoor
namespace Go.Proofs.YtnimildpcnmjeaaGreatDoor.Sg
open Go.RowKit Go.Maps Go.Sort Go.Shelf Go.Proofs.YtnimildpcnmjeaaGreatDoor.Nm Go.Proofs.YtnimildpcnmjeaaGreatDoor.Dk
open Ix (wp_region_T wpAnyT wpAnyT_take wpAnyT_one wpAnyT_done vac)
end Go.Proofs.YtnimildpcnmjeaaGreatDoor.Sg
namespace Go.Proofs.YtnimildpcnmjeaaGreatDoor.St
open Go.RowKit Go.Maps Go.Sort Go.Shelf Go.Proofs.YtnimildpcnmjeaaGreatDoor.Nm Go.Proofs.YtnimildpcnmjeaaGreatDoor.Dk Go.Proofs.YtnimildpcnmjeaaGreatDoor.Sg Go.Proofs.YtnimildpcnmjeaaGreatDoor.Ct
set_option maxRecDepth 100000
theorem infoLs : (Tryz.prog.info? 35).map (fun i => (i.zero, i.size, i.bytes)) = some (some (.slice none 0 0), 1, 24) := by kernel_rfl
def RL (B : Nat) (w : World) (v : Value) (us : List Value) : Prop := w.ownsRow B 35 1 v us.length us
theorem RL.below {B : Nat} {w w' : World} {v : Value} {us : List Value} (h : RL B w v us) (hb : Below w.heap.size w w') : RL B w' v us := ownsRow_below h hb
theorem run_appL {B : Nat} {w : World} {v : Value} {us : List Value} (ao : Option Addr) (ln ca gg : Nat) (h : RL B w v us) (h0 : w.cell? ⟨gg, 0, none⟩ = some (.slice ao ln ca)) (hl : us.length ≤ 1000000) (hB : B ≤ w.heap.size) (ty : TypeId) :
    ∃ v' w', (Builtin.append_ #[24, 24] ty #[v, .slice (some ⟨gg, 0, none⟩) 1 1]).run Tryz.prog w = .ok v' w' ∧ RL B w' v' (us ++ [.slice ao ln ca]) ∧ w.grownBy w' v.ownBlock := by
 obtain ⟨i0, hi, hz0, hz1, hz2⟩ := info_parts infoLs
 have hcells : ∀ j u, ([.slice ao ln ca] : List Value)[j]? = some u → w.cell? ((⟨gg, 0, none⟩ : Addr).add j) = some u := by
  intro j u hu
  rw [addr_add]
  match j with
  | 0 => simp at hu; subst hu; exact h0
  | j + 1 => simp at hu
 obtain ⟨v', w', hr, ho, hg, _, hat⟩ := run_append_own_at (P := Tryz.prog) w B 24 ty 35 i0 (.slice none 0 0) 1 24 Tryz.underlying24 hi hz0 hz1 hz2 rfl (by decide) v us.length us h ⟨gg, 0, none⟩ 1 1 [.slice ao ln ca] rfl hcells (by
     intro u hu
     simp at hu
     rw [hu]; rfl) (by unfold maxLen; omega) (by omega) hB
 refine ⟨v', w', hr, ?_, hg⟩
 unfold RL
 rw [List.length_append]
 exact ho
theorem wpList_append_runL {w : World} {ops : Array Oper} {rest : List Oper} {o : Oper} {a : Act} {Q : Exit → Act → World → Prop} (hgd : o.guard = none) (s x : Operand) {vs vx v' : Value} {w' : World}
    (ho : o.op = .call { callee := .builtin .append, args := #[s, x], argTypes := #[24, 24] }) (hs : a.eval s = vs) (hx : a.eval x = vx)
    (hr : (Builtin.append_ #[24, 24] o.type #[vs, vx]).run Tryz.prog w = .ok v' w') (h : wpList Tryz.prog ops Q rest (a.put o.dst v') w') : wpList Tryz.prog ops Q (o :: rest) a w := by
 refine wpList_plain hgd fun K hK => ?_
 exact Lib.wp_append_run _ s x 24 24 ho vs vx hs hx v' w' hr (hK _ _ h)
structure Shr where
 cs : List (Nat × Nat)
 fr : Nat
 sz : Int
 em : Bool
def shS (m z0 : Int) (e0 : Bool) (ls : List (List UInt8)) : Nat → Shr
 | 0 => ⟨[], 0, z0, e0⟩
 | i + 1 => if (shS m z0 e0 ls i).em = false ∧ m < (shS m z0 e0 ls i).sz + szF ((ls.getD i []).length : Int) then ⟨(shS m z0 e0 ls i).cs ++ [((shS m z0 e0 ls i).fr, i)], i, 32 + szF ((ls.getD i []).length : Int), false⟩
  else ⟨(shS m z0 e0 ls i).cs, (shS m z0 e0 ls i).fr, (shS m z0 e0 ls i).sz + szF ((ls.getD i []).length : Int), false⟩
def shR (m z0 : Int) (e0 : Bool) (ls : List (List UInt8)) : List (Nat × Nat) := (shS m z0 e0 ls ls.length).cs ++ [((shS m z0 e0 ls ls.length).fr, ls.length)]
def cutV (b off ca : Nat) (p : Nat × Nat) : Value := .slice (some ⟨b, off + p.1, none⟩) (p.2 - p.1) (ca - p.1)
theorem szF_le (n : Nat) : 0 ≤ szF (n : Int) ∧ szF (n : Int) ≤ 4112 := by
 unfold szF
 split <;> omega
theorem shS_bd {m z0 : Int} {e0 : Bool} {ls : List (List UInt8)} (h0 : 0 ≤ z0) (h1 : z0 ≤ 2147483647) : ∀ i, (shS m z0 e0 ls i).fr ≤ i ∧ 0 ≤ (shS m z0 e0 ls i).sz ∧ (shS m z0 e0 ls i).sz ≤ 2147483647 + 5000 * (i : Int) ∧ (shS m z0 e0 ls i).cs.length ≤ i ∧ ((shS m z0 e0 ls i).fr = 0 ∨ (shS m z0 e0 ls i).fr < i)
 | 0 => ⟨Nat.le_refl _, h0, by show z0 ≤ _; omega, Nat.le_refl _, .inl rfl⟩
 | i + 1 => by
  obtain ⟨a, b, c, d, x⟩ := shS_bd (m := m) (e0 := e0) (ls := ls) h0 h1 i
  obtain ⟨e, f⟩ := szF_le (ls.getD i []).length
  unfold shS
  split
  ·refine ⟨by show i ≤ i + 1; omega, by show 0 ≤ 32 + _; omega, by show 32 + _ ≤ _; push_cast; omega, by show ((shS m z0 e0 ls i).cs ++ _).length ≤ _; simp; omega, .inr (by show i < i + 1; omega)⟩
  ·refine ⟨by show (shS m z0 e0 ls i).fr ≤ i + 1; omega, by show 0 ≤ (shS m z0 e0 ls i).sz + _; omega, by show (shS m z0 e0 ls i).sz + _ ≤ _; push_cast; omega, by show (shS m z0 e0 ls i).cs.length ≤ _; omega, by show (shS m z0 e0 ls i).fr = 0 ∨ (shS m z0 e0 ls i).fr < i + 1; omega⟩
theorem share_any {w : World} {stb vb n cap sb xb mb : Nat} {v : Value} {s : SG} {m : Int} (y1 : w.cell? ⟨stb, 1, none⟩ = some (.int .i64 m)) (h5 : w.cell? ⟨stb, 5, none⟩ = some (.slice (some ⟨vb, 0, none⟩) (n + 1) cap)) (hp : w.cell? ⟨vb, n, none⟩ = some (.pointer (some ⟨sb, 0, none⟩))) (hn : n < 1000000) (hsg : Seg w sb s xb mb v) (z0 : 0 ≤ s.size) (z1 : s.size ≤ 2147483647)
    (db off N ca : Nat) (vs : List Value) (ls : List (List UInt8)) (hr : Row w (.slice (some ⟨db, off, none⟩) N ca) vs) (hs : Sls w vs ls) (hN0 : ls.length = N) (hN1 : N ≤ 1000000) (hN2 : 1 ≤ N) :
    Calls Tryz.prog 27 #[.pointer (some ⟨stb, 0, none⟩), .slice (some ⟨db, off, none⟩) N ca] w fun e w' => ∃ v', e = .returned v' ∧ RL w.heap.size w' v' ((shR m s.size (s.next == s.base) ls).map (cutV db off ca)) ∧ Below w.heap.size w w' := by
 have hOp := hide (opn_any h5 hp hn)
 have hLk := hide (fun u (hu : Qt w u) => look_any (hsg.below (Qt.below hu _)))
 have HS := hide hs
 have HR := hide hr
 have hNc : N ≤ ca := by obtain ⟨ao, ca', e, _, h2, _⟩ := hr; simp at e; have := hs.1; omega
 have hlN := hide hN0
 clear hr hs hsg h5 hp hN0
 unfold SG.look at hLk
 go_enter Tryz.func27, Tryz.ntmps27
 go_upto_region 2 with (first
  | (go_at_call 23; refine hOp.out.mono ?_; rintro e w1 ⟨rfl, Q1⟩)
  | (go_at_call 24; refine (hLk.out _ Q1).mono ?_; rintro e w2 ⟨rfl, B2⟩
     have N2 := heap_alloc_new w2 (.cells #[.string s.file, .int .i64 s.num, .int .i64 s.base, .int .u32 s.hs, .int .i64 s.next, .int .i64 s.size, .int .u32 s.seed, .bool (s.cond != 0)] 79)
     have B3 := box_below w2 (.cells #[.string s.file, .int .i64 s.num, .int .i64 s.base, .int .u32 s.hs, .int .i64 s.next, .int .i64 s.size, .int .u32 s.seed, .bool (s.cond != 0)] 79))
  | fail)
 obtain ⟨gl, hgl⟩ : ∃ g, Hid (w2.heap.size = g) := ⟨_, rfl⟩
 obtain ⟨w3, hw3⟩ : ∃ w3, Hid (w2.alloc (.cells #[.string s.file, .int .i64 s.num, .int .i64 s.base, .int .u32 s.hs, .int .i64 s.next, .int .i64 s.size, .int .u32 s.seed, .bool (s.cond != 0)] 79) = w3) := ⟨_, rfl⟩
 rw [hw3.out] at N2 B3
 rw [hgl.out] at N2
 rw [hw3.out, hgl.out]
 have BW := hide (keepF (keepF (Qt.below Q1 w.heap.size) B2) B3)
 have l2 : w3.cell? ⟨gl, 2, none⟩ = some (.int .i64 s.base) := by rw [cell_of N2]; rfl
 have l4 : w3.cell? ⟨gl, 4, none⟩ = some (.int .i64 s.next) := by rw [cell_of N2]; rfl
 have l5 : w3.cell? ⟨gl, 5, none⟩ = some (.int .i64 s.size) := by rw [cell_of N2]; rfl
 clear N2 Q1 B2 B3 hOp hLk
 obtain ⟨Z0, hZ0⟩ : ∃ z, Hid (s.size = z) := ⟨_, rfl⟩
 obtain ⟨E0, hE0⟩ : ∃ z, Hid ((s.next == s.base) = z) := ⟨_, rfl⟩
 rw [hZ0.out] at l5 z0 z1
 rw [hZ0.out]
 go_quiet (fail)
 rw [hE0.out]
 have BW4 := hide (BW.out.trans (Qt.below ⟨nq, rfl⟩ w.heap.size))
 generalize w3.drewN nq = w4 at *
 clear l2 l4 l5 hw3 hgl BW
 obtain ⟨T, hT⟩ : ∃ T, Hid (shS m Z0 E0 ls = T) := ⟨_, rfl⟩
 have TB := hide (fun i => shS_bd (m := m) (e0 := E0) (ls := ls) z0 z1 i)
 rw [hT.out] at TB
 have T0 : T 0 = ⟨[], 0, Z0, E0⟩ := by rw [← hT.out]; rfl
 have hR0 : Hid (RL w.heap.size w4 (.slice none 0 0) (((T 0).cs).map (cutV db off ca))) := hide (by rw [T0]; exact World.ownsRow_nil _ _ _ _)
 go_wp2_with fail
 go_loopw [26, 8, 9, 6, 7] (fun v26 v8 v9 v6 v7 wr => ∃ i : Nat, i ≤ N ∧ v26 = .int .i64 (i : Int) ∧ v9 = .int .i64 ((T i).fr : Int) ∧ v6 = .int .i64 (T i).sz ∧ v7 = .bool (T i).em ∧ Hid (RL w.heap.size wr v8 (((T i).cs).map (cutV db off ca))) ∧ Hid (Below w.heap.size w wr)) (fun v26 _ _ _ _ _ => N - (intOf v26).toNat)
 case atStart => exact ⟨0, by omega, rfl, by rw [T0]; rfl, by rw [T0], by rw [T0], hR0, BW4⟩
 case round =>
  obtain ⟨i, hi, rfl, rfl, rfl, rfl, hRL, hW⟩ := hrel
  obtain ⟨b1, b2, b3, b4, b5⟩ := TB.out i
  obtain ⟨t, ht⟩ : ∃ t, Hid (T i = t) := ⟨_, rfl⟩
  rw [ht.out] at b1 b2 b3 b4 b5 hRL ⊢
  obtain ⟨cs, fr, sz, em⟩ := t
  simp only at b1 b2 b3 b4 b5 hRL ⊢
  have f1 : fr < ca := by omega
  have f2 : ¬ ca = fr := by omega
  have f3 : fr ≤ ca := by omega
  have hlc : (cs.map (cutV db off ca)).length = cs.length := List.length_map ..
  by_cases hin : i = N
  ·have hFin : Hid ((cs.map (cutV db off ca)) ++ [.slice (some ⟨db, off + fr, none⟩) (N - fr) (ca - fr)] = (shR m s.size (s.next == s.base) ls).map (cutV db off ca)) := hide (by
     have h1 := ht.out
     rw [hin, ← hT.out] at h1
     unfold shR
     rw [hZ0.out, hE0.out, hlN.out, h1, List.map_append]
     rfl)
   have BX := box_below wr (.cells #[.slice (some ⟨db, off + fr, none⟩) (N - fr) (ca - fr)] 35)
   have NX := heap_alloc_new wr (.cells #[.slice (some ⟨db, off + fr, none⟩) (N - fr) (ca - fr)] 35)
   obtain ⟨v6, w6, r6, o6, g6⟩ := run_appL (some ⟨db, off + fr, none⟩) (N - fr) (ca - fr) wr.heap.size (hRL.out.below BX) (by rw [cell_of NX]; rfl) (by rw [hlc]; omega) (Nat.le_trans hW.out.size BX.size) 24
   subst hin
   have f4 : (fr : Int) ≤ (i : Int) := by omega
   go_wp2_with (at_builtin; refine wpList_append_runL rfl (.tmp 58) (.tmp 62) rfl rfl rfl r6 ?_)
   go_ret
   refine ⟨v6, rfl, by rw [← hFin.out]; exact o6, ?_⟩
   exact (keepF hW.out BX).grown g6 (Nat.le_trans hW.out.size BX.size) (fun k hk => (World.ownsRow.lt hRL.out k hk).1)
  ·have hil : i < N := by omega
   have i1 : (i : Int) < (N : Int) := by omega
   have i0 : (0 : Int) ≤ (i : Int) := by omega
   obtain ⟨da, dc, hv, _⟩ := sls_at HS.out (i := i) (by rw [hlN.out]; exact hil)
   obtain ⟨rb, ro, hre, d0⟩ := row_at HR.out hv
   simp only [Option.some.injEq, Addr.mk.injEq, and_true] at hre
   obtain ⟨rfl, rfl⟩ := hre
   obtain ⟨L, hL⟩ : ∃ M, Hid ((ls.getD i []).length = M) := ⟨_, rfl⟩
   rw [hL.out] at d0
   obtain ⟨z, hz⟩ : ∃ z, Hid (szF (L : Int) = z) := ⟨_, rfl⟩
   have zb := szF_le L
   rw [hz.out] at zb
   obtain ⟨zb1, zb2⟩ := zb
   have d1 := (hW.out.cell (lt_of_cell d0)).trans d0
   have d2 := (hW.out.cell (lt_of_cell y1)).trans y1
   have hSz : Hid (∀ q, Calls Tryz.prog 52 #[.int .i64 (L : Int)] q fun e w' => e = .returned (.int .i64 z) ∧ w' = q) := hide fun q => by have := size_any q (L : Int); rw [hz.out] at this; exact this
   have wz : wrap64 (sz + z) = sz + z := by unfold wrap64; omega
   have wz2 : wrap64 (32 + z) = 32 + z := by unfold wrap64; omega
   have TS : Hid (T (i + 1) = if em = false ∧ m < sz + z then ⟨cs ++ [(fr, i)], i, 32 + z, false⟩ else ⟨cs, fr, sz + z, false⟩) := hide (by
    have h1 := ht.out
    rw [← hT.out] at h1 ⊢
    rw [shS, h1, hL.out, hz.out])
   clear hv d0
   have nocut : ¬ (em = false ∧ m < sz + z) → T (i + 1) = ⟨cs, fr, sz + z, false⟩ := fun h => by rw [TS.out, if_neg h]
   have docut : em = false ∧ m < sz + z → T (i + 1) = ⟨cs ++ [(fr, i)], i, 32 + z, false⟩ := fun h => by rw [TS.out, if_pos h]
   cases em with
   | true =>
    have TS' := hide (nocut (fun c => by cases c.1))
    clear nocut docut
    go_wp2_with (first | (go_at_call 52; refine (hSz.out _).mono ?_; rintro e wm ⟨rfl, hwm⟩; rw [hwm]; clear hwm wm) | fail)
    go_roundw
    case rel => exact ⟨i + 1, by omega, by go_num, by rw [TS'.out], by rw [TS'.out], by rw [TS'.out], by rw [TS'.out]; exact hRL, hW⟩
    case measure => simp [intOf]; omega
   | false =>
    by_cases hcut : m < sz + z
    ·have TS' := hide (docut ⟨rfl, hcut⟩)
     clear nocut docut
     have BX := box_below wr (.cells #[.slice (some ⟨db, off + fr, none⟩) (i - fr) (ca - fr)] 35)
     have NX := heap_alloc_new wr (.cells #[.slice (some ⟨db, off + fr, none⟩) (i - fr) (ca - fr)] 35)
     obtain ⟨v6, w6, r6, o6, g6⟩ := run_appL (some ⟨db, off + fr, none⟩) (i - fr) (ca - fr) wr.heap.size (hRL.out.below BX) (by rw [cell_of NX]; rfl) (by rw [hlc]; omega) (Nat.le_trans hW.out.size BX.size) 24
     have W6 := hide ((keepF hW.out BX).grown g6 (Nat.le_trans hW.out.size BX.size) (fun k hk => (World.ownsRow.lt hRL.out k hk).1))
     have R6 : Hid (RL w.heap.size w6 v6 ((cs ++ [(fr, i)]).map (cutV db off ca))) := hide (by rw [List.map_append]; exact o6)
     have f4 : (fr : Int) ≤ (i : Int) := by omega
     have f5 : (i : Int) ≤ (ca : Int) := by omega
     clear o6 g6 BX NX
     go_wp2_with (first
      | (go_at_call 52; refine (hSz.out _).mono ?_; rintro e wm ⟨rfl, hwm⟩; rw [hwm]; clear hwm wm)
      | (at_builtin; refine wpList_append_runL rfl (.tmp 46) (.tmp 51) rfl rfl rfl r6 ?_)
      | fail)
     go_roundw
     case rel => exact ⟨i + 1, by omega, by go_num, by rw [TS'.out], by rw [TS'.out], by rw [TS'.out], by rw [TS'.out]; exact R6, W6⟩
     case measure => simp [intOf]; omega
    ·have TS' := hide (nocut (fun c => hcut c.2))
     clear nocut docut
     go_wp2_with (first | (go_at_call 52; refine (hSz.out _).mono ?_; rintro e wm ⟨rfl, hwm⟩; rw [hwm]; clear hwm wm) | fail)
     go_roundw
     case rel => exact ⟨i + 1, by omega, by go_num, by rw [TS'.out], by rw [TS'.out], by rw [TS'.out], by rw [TS'.out]; exact hRL, hW⟩
     case measure => simp [intOf]; omega
set_option maxRecDepth 100000
theorem snoc_at {α : Type} {l : List α} {a x : α} {i : Nat} (h : (l ++ [a])[i]? = some x) : (i < l.length ∧ l[i]? = some x) ∨ (i = l.length ∧ x = a) := by
 by_cases hi : i < l.length
 ·rw [List.getElem?_append_left hi] at h
  exact .inl ⟨hi, h⟩
 ·rw [List.getElem?_append_right (by omega)] at h
  have : i - l.length = 0 := by
   cases hk : i - l.length with
   | zero => rfl
   | succ k => rw [hk] at h; simp at h
  rw [this] at h
  simp at h
  exact .inr ⟨by omega, h.symm⟩
theorem StR.ilen {w : World} {stb b : Nat} {cs : List Sg} {si : List SG} {s : SG} {S : DS} {O : Nat → Prop} {qi : List Bls} {q : Bls} {vC vS : Value} (h : StR w stb b cs (si ++ [s]) S O (qi ++ [q]) vC vS) : si.length = qi.length := by
 have := h.len
 simp at this
 exact this
theorem StR.sw {w : World} {stb b : Nat} {cs : List Sg} {si : List SG} {s : SG} {S : DS} {O : Nat → Prop} {qi : List Bls} {q : Bls} {vC vS : Value} (h : StR w stb b cs (si ++ [s]) S O (qi ++ [q]) vC vS) : SW w q.sb s S O q.xb q.mb q.v ∧ s.b = b := by
 have h1 := h.sg qi.length q s (by simp) (by rw [← h.ilen]; simp)
 exact ⟨⟨h1.1, by rw [h1.2]; exact h.dk, fun k hk => (h.aO q (by simp) k hk).1⟩, h1.2⟩
theorem StR.turn {w w' : World} {stb b : Nat} {cs : List Sg} {si : List SG} {s s' : SG} {S S' : DS} {O O' : Nat → Prop} {qi : List Bls} {q : Bls} {vC vS v' : Value} (h : StR w stb b cs (si ++ [s]) S O (qi ++ [q]) vC vS) (hst : stb < w.heap.size) (hS : SW w' q.sb s' S' O' q.xb q.mb v') (hb' : s'.b = b) (g : Go.Proofs.YtnimildpcnmjeaaGreatDoor.Sg.Sst w w' q.sb q.xb q.mb q.v v' O O') :
    StR w' stb b cs (si ++ [s']) S' O' (qi ++ [⟨q.sb, q.xb, q.mb, v'⟩]) vC vS ∧ Sgo w w' (StO stb O (qi ++ [q]) vC vS) (StO stb O' (qi ++ [⟨q.sb, q.xb, q.mb, v'⟩]) vC vS) ∧ ¬ (SOwn q.sb q.xb q.mb q.v stb ∨ O stb) := by
 have hq : q ∈ qi ++ [q] := by simp
 have aq := h.aO q hq
 have qlt : ∀ (r : Bls), r ∈ qi ++ [q] → ∀ k, r.own k → k < w.heap.size := fun r hr k hk => by
  obtain ⟨i, hi, rfl⟩ := List.getElem_of_mem hr
  have hi2 : i < (si ++ [s]).length := by rw [h.len]; exact hi
  exact (h.sg i _ _ (List.getElem?_eq_getElem hi) (List.getElem?_eq_getElem hi2)).1.lt k hk
 have new : ∀ k, SOwn q.sb q.xb q.mb v' k → q.own k ∨ w.heap.size ≤ k := fun k hk => by
  rcases hk with c | c | c | c
  ·exact .inl (.inl c)
  ·exact .inl (.inr (.inl c))
  ·exact .inl (.inr (.inr (.inl c)))
  ·rcases g.v k c with d | d
   ·exact .inl (.inr (.inr (.inr d)))
   ·exact .inr d
 have clt := h.ct.lt
 have slt := World.ownsRow.lt h.sp
 have olt := h.dk.lt
 have hil := h.ilen
 have apq : ∀ (i : Nat) (r : Bls), i < qi.length → qi[i]? = some r → ∀ k, r.own k → ¬ q.own k := fun i r hi hr => h.ap i qi.length r q (by omega) (by rw [List.getElem?_append_left hi]; exact hr) (by simp)
 have mem : ∀ (i : Nat) (r : Bls), qi[i]? = some r → r ∈ qi ++ [q] := fun i r hr => List.mem_append.2 (.inl (List.mem_of_getElem? hr))
 refine ⟨⟨h.ct.but g.but fun k hk c => ?_, ?_, by simp [hil], ?_, by rw [← hb']; exact hS.dk, ?_, ?_, ?_, ?_, ?_⟩, ⟨g.but.mono fun k _ c => ?_, ?_⟩, fun c => ?_⟩
 ·rcases c with c | c
  ·exact (aq k c).2.2.1 hk
  ·exact (h.nC k hk).1 c
 ·have hsp := row_but h.sp g.but fun k hk c => by
    rcases c with c | c
    ·exact (aq k c).2.2.2 hk
    ·exact (h.nS k hk).1 c
  have e : ((qi ++ [(⟨q.sb, q.xb, q.mb, v'⟩ : Bls)]).map fun q => (Value.pointer (some ⟨q.sb, 0, none⟩))) = (qi ++ [q]).map fun q => (Value.pointer (some ⟨q.sb, 0, none⟩)) := by simp
  have el : (qi ++ [(⟨q.sb, q.xb, q.mb, v'⟩ : Bls)]).length = (qi ++ [q]).length := by simp
  rw [e, el]
  exact hsp
 ·intro i r t hr ht
  rcases snoc_at hr with ⟨hi, hr'⟩ | ⟨hi, rfl⟩
  ·rcases snoc_at ht with ⟨hi2, ht'⟩ | ⟨hi2, _⟩
   ·have h1 := h.sg i r t (by rw [List.getElem?_append_left hi]; exact hr') (by rw [List.getElem?_append_left hi2]; exact ht')
    exact ⟨h1.1.but g.but fun k hk c => by
     rcases c with c | c
     ·exact apq i r hi hr' k hk c
     ·exact (h.aO r (mem i r hr') k hk).1 c, h1.2⟩
   ·omega
  ·rcases snoc_at ht with ⟨hi2, ht'⟩ | ⟨hi2, rfl⟩
   ·omega
   ·exact ⟨hS.sg, hb'⟩
 ·intro i j r t hij hr ht k hk hk2
  rcases snoc_at hr with ⟨hi, hr'⟩ | ⟨hi, rfl⟩
  ·rcases snoc_at ht with ⟨hj, ht'⟩ | ⟨hj, rfl⟩
   ·exact h.ap i j r t hij (by rw [List.getElem?_append_left hi]; exact hr') (by rw [List.getElem?_append_left hj]; exact ht') k hk hk2
   ·rcases new k hk2 with c | c
    ·exact apq i r hi hr' k hk c
    ·have := qlt r (mem i r hr') k hk; omega
  ·rcases snoc_at ht with ⟨hj, ht'⟩ | ⟨hj, rfl⟩
   ·rcases new k hk with c | c
    ·exact apq j t hj ht' k hk2 c
    ·have := qlt t (mem j t ht') k hk2; omega
   ·omega
 ·intro r hr k hk
  have oo : ∀ k, k < w.heap.size → ¬ O k → ¬ O' k := fun k hlt hn c => by
   rcases g.o k c with d | d
   ·exact hn d
   ·omega
  rcases List.mem_append.1 hr with hr' | hr'
  ·have h1 := h.aO r (List.mem_append.2 (.inl hr')) k hk
   exact ⟨oo k (qlt r (List.mem_append.2 (.inl hr')) k hk) h1.1, h1.2⟩
  ·simp only [List.mem_singleton] at hr'
   subst hr'
   refine ⟨hS.ap k hk, ?_⟩
   rcases new k hk with c | c
   ·exact (aq k c).2
   ·exact ⟨by omega, fun d => by have := (clt k d).2; omega, fun d => by have := (slt k d).2; omega⟩
 ·intro k hk
  have h1 := h.nC k hk
  refine ⟨fun c => ?_, h1.2⟩
  rcases g.o k c with d | d
  ·exact h1.1 d
  ·have := (clt k hk).2; omega
 ·intro k hk
  have h1 := h.nS k hk
  refine ⟨fun c => ?_, h1.2⟩
  rcases g.o k c with d | d
  ·exact h1.1 d
  ·have := (slt k hk).2; omega
 ·intro c
  rcases g.o stb c with d | d
  ·exact h.nO d
  ·omega
 ·rcases c with c | c
  ·exact .inr (.inr (.inr (.inr ⟨q, hq, c⟩)))
  ·exact .inr (.inl c)
 ·intro k hk
  rcases hk with c | c | c | c | ⟨r, hr, c⟩
  ·exact .inl (.inl c)
  ·rcases g.o k c with d | d
   ·exact .inl (.inr (.inl d))
   ·exact .inr d
  ·exact .inl (.inr (.inr (.inl c)))
  ·exact .inl (.inr (.inr (.inr (.inl c))))
  ·rcases List.mem_append.1 hr with hr' | hr'
   ·exact .inl (.inr (.inr (.inr (.inr ⟨r, List.mem_append.2 (.inl hr'), c⟩))))
   ·simp only [List.mem_singleton] at hr'
    subst hr'
    rcases new k c with d | d
    ·exact .inl (.inr (.inr (.inr (.inr ⟨q, hq, d⟩))))
    ·exact .inr d
 ·rcases c with c | c
  ·exact (aq stb c).2.1 rfl
  ·exact h.nO c
theorem StB.sgo {w w' : World} {stb : Nat} {bx : Array Value} {X : Nat → Prop} (h : StB w stb bx) (hb : But X w w') (hx : ¬ X stb) : StB w' stb bx := (hb.block _ (heap_lt h) hx).trans h
theorem sput_none {w : World} {stb : Nat} (ao : Option Addr) (ca : Nat) : Calls Tryz.prog 31 #[.pointer (some ⟨stb, 0, none⟩), .slice ao 0 ca] w fun e w' => e = .returned (.tuple #[]) ∧ w' = w := by
 go_enter Tryz.func31, Tryz.ntmps31
 go_wp2_with fail
 go_end0
 exact ⟨rfl, rfl⟩
theorem sput_any {w : World} {stb b : Nat} {c1 c2 c3 c4 vS c6 c7 c8 c9 : Value} (hb : StB w stb #[.pointer (some ⟨b, 0, none⟩), c1, c2, c3, c4, vS, c6, c7, c8, c9]) {cs : List Sg} {si : List SG} {s : SG} {S : DS} {O : Nat → Prop} {qi : List Bls} {q : Bls} {vC : Value} (h : StR w stb b cs (si ++ [s]) S O (qi ++ [q]) vC vS) (hn : qi.length < 1000000) (ok : SOk s) (seed : Crc.R) (hsd : s.seed = (seed.toNat : Int)) (vd : Value) (vs : List Value) (ls : List (List UInt8)) (hr : Row w vd vs) (hs : Sls w vs ls) (h0 : ls ≠ []) (hl : ls.length ≤ 1000000) (hz : s.size + (ls.length : Int) * 4112 ≤ 2147483647) (hl2 : s.sd.length + ls.length ≤ 1000000000) (hf : s.file.size ≤ maxLen) (hc : S.c7 < 900000000) (hok : (putF s S seed ls).2.2 = 0) (hpb : (putF s S seed ls).1.1.b = b) :
    Calls Tryz.prog 31 #[.pointer (some ⟨stb, 0, none⟩), vd] w fun e w' => e = .returned (.tuple #[]) ∧ ∃ v' O', StB w' stb #[.pointer (some ⟨b, 0, none⟩), c1, c2, c3, c4, vS, c6, c7, c8, c9] ∧ StR w' stb b cs (si ++ [(putF s S seed ls).1.1]) (putF s S seed ls).1.2 O' (qi ++ [⟨q.sb, q.xb, q.mb, v'⟩]) vC vS ∧ Sgo w w' (StO stb O (qi ++ [q]) vC vS) (StO stb O' (qi ++ [⟨q.sb, q.xb, q.mb, v'⟩]) vC vS) := by
 obtain ⟨vb, cap, rfl, hcl⟩ := h.last (n := qi.length) (by simp)
 have h5 : w.cell? ⟨stb, 5, none⟩ = some (.slice (some ⟨vb, 0, none⟩) (qi.length + 1) cap) := by rw [cell_of hb]; rfl
 have hOp := hide (opn_any h5 (hcl q (by simp)) hn)
 have hPu := hide (fun u (hu : Qt w u) => putS_any (h.sw.1.below (Qt.below hu _)) ok seed hsd vd vs ls (Below.row (Qt.below hu _) hr) (Below.sls (Qt.below hu _) hs) (by omega) hz hl2 hf hc)
 have HX := hide (And.intro hb h)
 obtain ⟨ao, ca, rfl, _, _, h3, _⟩ := hr
 have hN : vs.length = ls.length := hs.1
 have hpos : 0 < vs.length := by rw [hN]; exact List.length_pos_iff.2 h0
 obtain ⟨N, hNN⟩ : ∃ N, vs.length = N := ⟨_, rfl⟩
 rw [hNN] at hPu hpos ⊢
 have k1 : (0 : Int) < (N : Int) := by omega
 obtain ⟨PF, hPF⟩ : ∃ P, Hid (putF s S seed ls = P) := ⟨_, rfl⟩
 rw [hPF.out] at hPu hok hpb ⊢
 obtain ⟨⟨s', S'⟩, r1, r2⟩ := PF
 simp only at hok hpb hPu ⊢
 subst hok
 replace ok := hide ok
 clear h hb h5 hcl hs hl hl2 hz hf hc h3 hsd ok
 suffices hh : Calls Tryz.prog 31 #[.pointer (some ⟨stb, 0, none⟩), .slice ao N ca] w fun e w' => e = .returned (.tuple #[]) ∧ Hid (∃ v' O', SW w' q.sb s' S' O' q.xb q.mb v' ∧ Go.Proofs.YtnimildpcnmjeaaGreatDoor.Sg.Sst w w' q.sb q.xb q.mb q.v v' O O') by
  refine hh.mono ?_
  rintro e w2 ⟨rfl, hx⟩
  obtain ⟨v', O', W2, G⟩ := hx.out
  obtain ⟨hb, h⟩ := HX.out
  obtain ⟨t1, t2, t3⟩ := h.turn (heap_lt hb) W2 hpb G
  exact ⟨rfl, v', O', hb.sgo G.but t3, t1, t2⟩
 clear HX hpb
 go_enter Tryz.func31, Tryz.ntmps31
 go_wp2_with (first
  | (go_at_call 23; refine hOp.out.mono ?_; rintro e w1 ⟨rfl, Q1⟩)
  | (go_at_call 53; refine (hPu.out _ Q1).mono ?_; rintro e w2 ⟨rfl, v', O', W2, G2⟩)
  | (go_at_call 35; refine (must_ok _).mono ?_; rintro e wm ⟨rfl, hwm⟩; rw [hwm]; clear hwm wm)
  | fail)
 have G := hide (show ∃ v' O', SW w2 q.sb s' S' O' q.xb q.mb v' ∧ Go.Proofs.YtnimildpcnmjeaaGreatDoor.Sg.Sst w w2 q.sb q.xb q.mb q.v v' O O' from ⟨v', O', W2, (Go.Proofs.YtnimildpcnmjeaaGreatDoor.Sg.Sst.below (Qt.below Q1 _)).trans G2⟩)
 clear W2 G2 hOp hPu
 go_end0
 exact ⟨rfl, G⟩
set_option maxRecDepth 100000
theorem own_low {B : Nat} {w : World} {v : Value} {l : List Sg} (h : Ct.Own B w v l) : Ct.Own 0 w v l := ⟨h.1, h.2.1, h.2.2.imp id fun ⟨g, cap, cur, e, hb, r⟩ => ⟨g, cap, cur, e, Nat.zero_le _, r⟩⟩
theorem StR.push {w0 wa w1 w2 w3 w4 w5 : World} {stb b sb xb mb : Nat} {v : Value} {cs R : List Sg} {ss : List SG} {sN : SG} {S S1 S2 : DS} {O O1 O2 : Nat → Prop} {qs : List Bls} {vC vS vCn vS' : Value}
    (h : StR w0 stb b cs ss S O qs vC vS) (hst : stb < w0.heap.size) (Ba : Below w0.heap.size w0 wa) (hC : Ct.Own w0.heap.size wa vCn R)
    (L : SW w1 sb sN S1 O1 xb mb v) (hbN : sN.b = b) (gL : Sgo wa w1 O O1) (lL : ∀ k, SOwn sb xb mb v k → wa.heap.size ≤ k)
    (D2 : DskE w2 b S2 O2) (T2 : Sto w1 w2 stb O1 O2) (no2 : ¬ O2 stb) (B3 : Below w2.heap.size w2 w3)
    (R4 : w4.ownsRow 0 80 1 vS' (qs.length + 1) ((qs.map fun q => .pointer (some ⟨q.sb, 0, none⟩)) ++ [.pointer (some ⟨sb, 0, none⟩)])) (g4 : w3.grownBy w4 vS.ownBlock) (at4 : vS'.ownBlock = vS.ownBlock ∨ vS'.ownBlock = some w3.heap.size) (E5 : But (fun k => k = stb) w4 w5) :
    StR w5 stb b R (ss ++ [sN]) S2 O2 (qs ++ [⟨sb, xb, mb, v⟩]) vCn vS' ∧ Sgo w0 w5 (StO stb O qs vC vS) (StO stb O2 (qs ++ [⟨sb, xb, mb, v⟩]) vCn vS') := by
 have qlt : ∀ (r : Bls), r ∈ qs → ∀ k, r.own k → k < w0.heap.size := fun r hr k hk => by
  obtain ⟨i, hi, rfl⟩ := List.getElem_of_mem hr
  have hi2 : i < ss.length := by rw [h.len]; exact hi
  exact (h.sg i _ _ (List.getElem?_eq_getElem hi) (List.getElem?_eq_getElem hi2)).1.lt k hk
 have slt : ∀ k, vS.ownBlock = some k → k < w0.heap.size := fun k hk => (World.ownsRow.lt h.sp k hk).2
 have olt := h.dk.lt
 have clt := hC.lt
 have z1 := Ba.size
 have z2 := gL.but.size
 have z3 := T2.but.size
 have z4 := B3.size
 have z5 := g4.size
 have h1 : ∀ k, O1 k → O k ∨ wa.heap.size ≤ k := gL.own
 have h2 : ∀ k, O2 k → O k ∨ wa.heap.size ≤ k := fun k hk => by
  rcases T2.own k hk with c | c
  ·exact h1 k c
  ·exact .inr (by omega)
 have nlt := L.sg.lt
 have b25 : But (fun k => k = stb ∨ vS.ownBlock = some k) w2 w5 := ((But.of_below B3 _).trans (But.of_grownBy g4 fun k e => .inr e)).trans (E5.mono fun k _ c => .inl c)
 have b15 : But (fun k => k = stb ∨ O1 k ∨ vS.ownBlock = some k) w1 w5 := (T2.but.mono fun k _ c => by
  rcases c with c | c
  ·exact .inl c
  ·exact .inr (.inl c)).trans (b25.mono fun k _ c => by
  rcases c with c | c
  ·exact .inl c
  ·exact .inr (.inr c))
 have ba5 : But (fun k => k = stb ∨ O k ∨ vS.ownBlock = some k) wa w5 := but_cut (gL.but.mono fun k _ c => .inr (.inl c)) b15 fun k hk c => by
  rcases c with c | c | c
  ·exact .inl c
  ·rcases h1 k c with d | d
   ·exact .inr (.inl d)
   ·omega
  ·exact .inr (.inr c)
 have b05 : But (fun k => k = stb ∨ O k ∨ vS.ownBlock = some k) w0 w5 := but_cut (But.of_below Ba _) ba5 fun k _ c => c
 have sS : ∀ k, vS'.ownBlock = some k → vS.ownBlock = some k ∨ k = w3.heap.size := fun k hk => by
  rcases at4 with e | e
  ·exact .inl (e ▸ hk)
  ·rw [e] at hk; simp at hk; exact .inr hk.symm
 have o2lt := D2.lt
 refine ⟨⟨?_, ?_, by simp [h.len], ?_, D2.but b25 ?_, ?_, ?_, ?_, ?_, no2⟩, ⟨b05.mono fun k _ c => ?_, ?_⟩⟩
 ·refine (own_low hC).but ba5 fun k hk c => ?_
  have := clt k hk
  rcases c with c | c | c
  ·omega
  ·have := olt k c; omega
  ·have := slt k c; omega
 ·have e : ((qs ++ [(⟨sb, xb, mb, v⟩ : Bls)]).map fun q => (Value.pointer (some ⟨q.sb, 0, none⟩))) = (qs.map fun q => (Value.pointer (some ⟨q.sb, 0, none⟩))) ++ [.pointer (some ⟨sb, 0, none⟩)] := by simp
  rw [e, List.length_append]
  refine row_but R4 E5 fun k hk c => ?_
  rcases sS k hk with d | d
  ·exact (h.nS k d).2 c
  ·omega
 ·intro i r t hr ht
  rcases snoc_at hr with ⟨hi, hr'⟩ | ⟨hi, rfl⟩
  ·rcases snoc_at ht with ⟨hi2, ht'⟩ | ⟨hi2, _⟩
   ·have a1 := h.sg i r t hr' ht'
    refine ⟨a1.1.but b05 fun k hk c => ?_, a1.2⟩
    have a2 := h.aO r (List.mem_of_getElem? hr') k hk
    rcases c with c | c | c
    ·exact a2.2.1 c
    ·exact a2.1 c
    ·exact a2.2.2.2 c
   ·have := h.len; omega
  ·rcases snoc_at ht with ⟨hi2, ht'⟩ | ⟨hi2, rfl⟩
   ·have := h.len; omega
   ·refine ⟨L.sg.but b15 fun k hk c => ?_, hbN⟩
    have := lL k hk
    rcases c with c | c | c
    ·omega
    ·exact L.ap k hk c
    ·have := slt k c; omega
 ·intro k hk c
  rcases c with c | c
  ·exact no2 (c ▸ hk)
  ·rcases h2 k hk with d | d
   ·exact (h.nS k c).1 d
   ·have := slt k c; omega
 ·intro i j r t hij hr ht k hk hk2
  rcases snoc_at hr with ⟨hi, hr'⟩ | ⟨hi, rfl⟩
  ·rcases snoc_at ht with ⟨hj, ht'⟩ | ⟨hj, rfl⟩
   ·exact h.ap i j r t hij hr' ht' k hk hk2
   ·have := qlt r (List.mem_of_getElem? hr') k hk
    have := lL k hk2
    omega
  ·rcases snoc_at ht with ⟨hj, ht'⟩ | ⟨hj, rfl⟩
   ·have := qlt t (List.mem_of_getElem? ht') k hk2
    have := lL k hk
    omega
   ·omega
 ·intro r hr k hk
  rcases List.mem_append.1 hr with hr' | hr'
  ·have a1 := h.aO r hr' k hk
   have a2 := qlt r hr' k hk
   refine ⟨fun c => ?_, a1.2.1, fun c => ?_, fun c => ?_⟩
   ·rcases h2 k c with d | d
    ·exact a1.1 d
    ·omega
   ·have := (clt k c).1; omega
   ·rcases sS k c with d | d
    ·exact a1.2.2.2 d
    ·omega
  ·simp only [List.mem_singleton] at hr'
   subst hr'
   have a1 := lL k hk
   have a2 := nlt k hk
   refine ⟨fun c => ?_, by omega, fun c => ?_, fun c => ?_⟩
   ·rcases T2.own k c with d | d
    ·exact L.ap k hk d
    ·omega
   ·have := (clt k c).2; omega
   ·rcases sS k c with d | d
    ·have := slt k d; omega
    ·omega
 ·intro k hk
  have a1 := clt k hk
  refine ⟨fun c => ?_, by omega, fun c => ?_⟩
  ·rcases h2 k c with d | d
   ·have := olt k d; omega
   ·omega
  ·rcases sS k c with d | d
   ·have := slt k d; omega
   ·omega
 ·intro k hk
  rcases sS k hk with d | d
  ·have a1 := h.nS k d
   refine ⟨fun c => ?_, a1.2⟩
   rcases h2 k c with e | e
   ·exact a1.1 e
   ·have := slt k d; omega
  ·refine ⟨fun c => ?_, by omega⟩
   have := o2lt k c
   omega
 ·rcases c with c | c | c
  ·exact .inl c
  ·exact .inr (.inl c)
  ·exact .inr (.inr (.inr (.inl c)))
 ·intro k hk
  rcases hk with c | c | c | c | ⟨r, hr, c⟩
  ·exact .inl (.inl c)
  ·rcases h2 k c with d | d
   ·exact .inl (.inr (.inl d))
   ·exact .inr (by omega)
  ·exact .inr (clt k c).1
  ·rcases sS k c with d | d
   ·exact .inl (.inr (.inr (.inr (.inl d))))
   ·exact .inr (by omega)
  ·rcases List.mem_append.1 hr with hr' | hr'
   ·exact .inl (.inr (.inr (.inr (.inr ⟨r, hr', c⟩))))
   ·simp only [List.mem_singleton] at hr'
    subst hr'
    have := lL k c
    exact .inr (by omega)
open Ix (wp_region_T wpAnyT wpAnyT_take wpAnyT_one wpAnyT_done vac)
set_option maxRecDepth 100000
theorem infoPs : (Tryz.prog.info? 80).map (fun i => (i.zero, i.size, i.bytes)) = some (some (.pointer none), 1, 8) := by kernel_rfl
theorem run_appP {B : Nat} {w : World} {v : Value} {us : List Value} (p : Option Addr) (gg : Nat) (h : w.ownsRow B 80 1 v us.length us) (h0 : w.cell? ⟨gg, 0, none⟩ = some (.pointer p)) (hl : us.length ≤ 1000000) (hB : B ≤ w.heap.size) (ty : TypeId) :
    ∃ v' w', (Builtin.append_ #[67, 67] ty #[v, .slice (some ⟨gg, 0, none⟩) 1 1]).run Tryz.prog w = .ok v' w' ∧ w'.ownsRow B 80 1 v' (us.length + 1) (us ++ [.pointer p]) ∧ w.grownBy w' v.ownBlock ∧ (v'.ownBlock = v.ownBlock ∨ v'.ownBlock = some w.heap.size) := by
 obtain ⟨i0, hi, hz0, hz1, hz2⟩ := info_parts infoPs
 have hcells : ∀ j u, ([.pointer p] : List Value)[j]? = some u → w.cell? ((⟨gg, 0, none⟩ : Addr).add j) = some u := by
  intro j u hu
  rw [addr_add]
  match j with
  | 0 => simp at hu; subst hu; exact h0
  | j + 1 => simp at hu
 obtain ⟨v', w', hr, ho, hg, _, hat⟩ := run_append_own_at (P := Tryz.prog) w B 67 ty 80 i0 (.pointer none) 1 8 Tryz.underlying67 hi hz0 hz1 hz2 rfl (by decide) v us.length us h ⟨gg, 0, none⟩ 1 1 [.pointer p] rfl hcells (by
     intro u hu
     simp at hu
     rw [hu]; rfl) (by unfold maxLen; omega) (by omega) hB
 exact ⟨v', w', hr, ho, hg, hat⟩
theorem wpList_append_runP {w : World} {ops : Array Oper} {rest : List Oper} {o : Oper} {a : Act} {Q : Exit → Act → World → Prop} (hgd : o.guard = none) (s x : Operand) {vs vx v' : Value} {w' : World}
    (ho : o.op = .call { callee := .builtin .append, args := #[s, x], argTypes := #[67, 67] }) (hs : a.eval s = vs) (hx : a.eval x = vx)
    (hr : (Builtin.append_ #[67, 67] o.type #[vs, vx]).run Tryz.prog w = .ok v' w') (h : wpList Tryz.prog ops Q rest (a.put o.dst v') w') : wpList Tryz.prog ops Q (o :: rest) a w := by
 refine wpList_plain hgd fun K hK => ?_
 exact Lib.wp_append_run _ s x 67 67 ho vs vx hs hx v' w' hr (hK _ _ h)
theorem tab_but {X : Nat → Prop} {A B : World} (h : Tab16 A) (hb : But X A B) (hx : ¬ X 3) : Tab16 B := by
 have hG := lt_of_cell h
 have e : B.heap[3]? = A.heap[3]? := hb.block _ hG hx
 have hh := h
 unfold Tab16 World.cell? at hh ⊢
 rw [e]
 exact hh
theorem sync_same {s : SG} {S : DS} (hcd : s.cond = 0) (h : (S.sync s.file).2 = 0) : syncF s S = ((s, (S.sync s.file).1), 0) := by
 unfold syncF
 rw [if_neg (fun c => c hcd), h, if_pos rfl]
theorem sroll_any {w : World} {stb b : Nat} {m g f nx du : Int} {vC vS : Value} (hb : StB w stb #[.pointer (some ⟨b, 0, none⟩), .int .i64 m, .int .i64 g, .int .i64 f, vC, vS, .int .i64 nx, .int .i64 du, .int .i64 0, .bool false])
    {cs : List Sg} {si : List SG} {s : SG} {S : DS} {O : Nat → Prop} {qi : List Bls} {q : Bls} (h : StR w stb b cs (si ++ [s]) S O (qi ++ [q]) vC vS) (hn : qi.length < 1000) (ok : SOk s) (hcd : s.cond = 0) (hf : s.file.size ≤ maxLen) (seed : Crc.R) (hsd : s.seed = (seed.toNat : Int))
    {M : Nat} {D : Dr} {F : Nat → Fl} {c : Int} {p : Nat} (ca : Ca S M D F c) (hc : c < 500000000) (hmy : may s.file.data.toList = true) (hg : Dk.get D s.file.data.toList = some p)
    {R Ri : List Sg} {nm : Int} (hroll : rollF g f cs s.next s.size seed.toNat = (0, g + 1, f, R)) (hmay : May (g + 1) f R) (hR : R = Ri ++ [⟨nm, s.next, seed.toNat, 0, 0⟩]) (hRl : R.length ≤ 100) (n1 : 1 ≤ nm) (n2 : nm ≤ 9223372036854775807) (b1 : 1 ≤ s.next) (b2 : s.next ≤ 9223372036854775807) (z0 : 0 ≤ s.size) (z1 : s.size ≤ 2147483647) (g1 : g + 1 ≤ 9223372036854775807) (f1 : f ≤ 9223372036854775807)
    (hnm : Dk.get D (nmF nm).data.toList = none) (hcx : Dk.get D cnxB.data.toList = none) (hl : D.length < 200) (hM : sumL F D + 32 + (bytesC (g + 1) f R).length ≤ M) (hT : Tab16 w) (hTn : ¬ StO stb O (qi ++ [q]) vC vS 3) :
    Calls Tryz.prog 32 #[.pointer (some ⟨stb, 0, none⟩)] w fun e w' => e = .returned (.tuple #[]) ∧ Hid (∃ p1 p2 O' q' vC' vS', p1 ∉ (S.sync s.file).1.ps ∧ p2 ∉ (creF (S.sync s.file).1 (nmF nm) nm s.next seed p1).1.ps ∧ StB w' stb #[.pointer (some ⟨b, 0, none⟩), .int .i64 m, .int .i64 (g + 1), .int .i64 f, vC', vS', .int .i64 nx, .int .i64 du, .int .i64 0, .bool false] ∧
     StR w' stb b R (si ++ [s] ++ [newSG b (nmF nm) nm s.next seed (whF nm s.next seed).2.1]) (re5 (creF (S.sync s.file).1 (nmF nm) nm s.next seed p1).1 catB cnxB (bytesC (g + 1) f R) p2) O' (qi ++ [q] ++ [q']) vC' vS' ∧ Sgo w w' (StO stb O (qi ++ [q]) vC vS) (StO stb O' (qi ++ [q] ++ [q']) vC' vS')) := by
 obtain ⟨k1, ca1, k3⟩ := ca.sync hmy hg
 have hSy0 := sync_same hcd k1
 obtain ⟨vb, cap, rfl, hcl⟩ := h.last (n := qi.length) (by simp)
 have h5 : w.cell? ⟨stb, 5, none⟩ = some (.slice (some ⟨vb, 0, none⟩) (qi.length + 1) cap) := by rw [cell_of hb]; rfl
 have hOp := hide (opn_any h5 (hcl q (by simp)) (by omega))
 have hSy := hide (fun u (hu : Qt w u) => by have := syncS_any (h.sw.1.below (Qt.below hu _)) hf (by rw [ca.c7]; omega); rw [hSy0] at this; exact this)
 have HX := hide (And.intro hb h)
 have CA := hide ca1
 have HC : Hid (c < 500000000 ∧ 1 ≤ nm ∧ nm ≤ 9223372036854775807 ∧ Dk.get D (nmF nm).data.toList = none ∧ Dk.get D cnxB.data.toList = none ∧ D.length < 200 ∧ sumL F D + 32 + (bytesC (g + 1) f R).length ≤ M ∧ sumL (upd F p (syF (F p))) D = sumL F D) := hide ⟨hc, n1, n2, hnm, hcx, hl, hM, k3⟩
 have HT := hide (And.intro hT hTn)
 obtain ⟨NR, hNR⟩ : ∃ N, Hid (R.length = N) := ⟨_, rfl⟩
 rw [hNR.out] at hRl
 replace hR := hide hR
 have HR : Hid (rollF g f cs s.next s.size seed.toNat = (0, g + 1, f, R) ∧ May (g + 1) f R) := hide ⟨hroll, hmay⟩
 generalize hS1 : (S.sync s.file).1 = S1 at *
 clear hb h hcl h5 k1 k3 ca ca1 hSy0 hc hmy hg n1 n2 hnm hcx hl hM hT hroll hmay
 go_enter Tryz.func32, Tryz.ntmps32
 go_upto_region 1 with (first
  | (go_at_call 23; refine hOp.out.mono ?_; rintro e w1 ⟨rfl, Q1⟩)
  | (go_at_call 36; refine (hSy.out _ Q1).mono ?_; rintro e w2 ⟨rfl, O1, W2, G2⟩)
  | (go_at_call 35; refine (must_ok _).mono ?_; rintro e wm ⟨rfl, hwm⟩; rw [hwm]; clear hwm wm)
  | fail)
 obtain ⟨hb, h⟩ := HX.out
 have G : Go.Proofs.YtnimildpcnmjeaaGreatDoor.Sg.Sst w w2 q.sb q.xb q.mb q.v q.v O O1 := (Go.Proofs.YtnimildpcnmjeaaGreatDoor.Sg.Sst.below (Qt.below Q1 _)).trans G2
 obtain ⟨h2, T2, t3⟩ := h.turn (heap_lt hb) W2 h.sw.2 G
 have hb2 := hb.sgo G.but t3
 have GS := hide G
 have T16 := hide (tab_but HT.out.1 G.but fun c => HT.out.2 (by
  rcases c with c | c
  ·exact .inr (.inr (.inr (.inr ⟨q, by simp, c⟩)))
  ·exact .inr (.inl c)))
 clear W2 G2 Q1 G t3
 obtain ⟨vb, cap', e', hcl⟩ := h2.last (n := qi.length) (by simp)
 simp only [Value.slice.injEq, Option.some.injEq, Addr.mk.injEq, and_true, true_and] at e'
 obtain ⟨rfl, rfl⟩ := e'
 have h5 : w2.cell? ⟨stb, 5, none⟩ = some (.slice (some ⟨vb, 0, none⟩) (qi.length + 1) cap) := by rw [cell_of hb2]; rfl
 have hOp2 := hide (opn_any h5 (hcl q (by simp)) (by omega))
 have hLk := hide (fun u (hu : Qt w2 u) => look_any (h2.sw.1.sg.below (Qt.below hu _)))
 unfold SG.look at hLk
 rw [hsd, hcd, show ((0 : Int) != 0) = false from rfl] at hLk
 clear h5 hcl
 replace hb2 := hide hb2
 replace h2 := hide h2
 replace T2 := hide T2
 go_upto_region 2 with (first
  | (go_at_call 23; refine hOp2.out.mono ?_; rintro e w3 ⟨rfl, Q3⟩)
  | (go_at_call 24; refine (hLk.out _ Q3).mono ?_; rintro e w4 ⟨rfl, B4⟩
     have N5 := heap_alloc_new w4 (.cells #[.string s.file, .int .i64 s.num, .int .i64 s.base, .int .u32 s.hs, .int .i64 s.next, .int .i64 s.size, .int .u32 (seed.toNat : Int), .bool false] 79)
     have B5 := box_below w4 (.cells #[.string s.file, .int .i64 s.num, .int .i64 s.base, .int .u32 s.hs, .int .i64 s.next, .int .i64 s.size, .int .u32 (seed.toNat : Int), .bool false] 79))
  | fail)
 obtain ⟨gl, hgl⟩ : ∃ g, Hid (w4.heap.size = g) := ⟨_, rfl⟩
 obtain ⟨w5, hw5⟩ : ∃ w5, Hid (w4.alloc (.cells #[.string s.file, .int .i64 s.num, .int .i64 s.base, .int .u32 s.hs, .int .i64 s.next, .int .i64 s.size, .int .u32 (seed.toNat : Int), .bool false] 79) = w5) := ⟨_, rfl⟩
 rw [hw5.out] at N5 B5
 rw [hgl.out] at N5
 rw [hw5.out, hgl.out]
 have BW := hide (keepF (keepF (Qt.below Q3 w2.heap.size) B4) B5)
 obtain ⟨g0, hg0⟩ : ∃ g, Hid (w5.heap.size = g) := ⟨_, rfl⟩
 have hb5 := (BW.out.block _ (heap_lt hb2.out)).trans hb2.out
 have hCt := h2.out.ct.below BW.out
 go_cut [3, 4] from 13 to 26 (fun y3 y4 wx => ∃ (gx : Nat) (v' : Value), y3 = .pointer (some ⟨gx, 0, none⟩) ∧ y4 = .int .i64 0 ∧ Hid (Below g0 w5 wx ∧ g0 ≤ gx ∧ wx.heap[gx]? = some (.cells #[.int .i64 (g + 1), .int .i64 f, v'] 47 (0, 0)) ∧ Ct.Own g0 wx v' R))
 case first =>
  have KP5 : w5.cell? ⟨stb, 2, none⟩ = some (.int .i64 g) ∧ w5.cell? ⟨stb, 3, none⟩ = some (.int .i64 f) ∧ w5.cell? ⟨stb, 4, none⟩ = some (vC) ∧ w5.cell? ⟨gl, 4, none⟩ = some (.int .i64 s.next) ∧ w5.cell? ⟨gl, 5, none⟩ = some (.int .i64 s.size) ∧ w5.cell? ⟨gl, 6, none⟩ = some (.int .u32 (seed.toNat : Int)) := ⟨by rw [cell_of hb5]; rfl, by rw [cell_of hb5]; rfl, by rw [cell_of hb5]; rfl, by rw [cell_of N5]; rfl, by rw [cell_of N5]; rfl, by rw [cell_of N5]; rfl⟩
  have KS : Hid (∀ u, Below g0 w5 u → u.cell? ⟨stb, 2, none⟩ = some (.int .i64 g) ∧ u.cell? ⟨stb, 3, none⟩ = some (.int .i64 f) ∧ u.cell? ⟨stb, 4, none⟩ = some (vC) ∧ u.cell? ⟨gl, 4, none⟩ = some (.int .i64 s.next) ∧ u.cell? ⟨gl, 5, none⟩ = some (.int .i64 s.size) ∧ u.cell? ⟨gl, 6, none⟩ = some (.int .u32 (seed.toNat : Int))) := hide fun u hu => by
   obtain ⟨e0, e1, e2, e3, e4, e5⟩ := KP5
   have hz := hg0.out
   refine ⟨?_, ?_, ?_, ?_, ?_, ?_⟩
   ·rw [hu.cell (by rw [← hz]; exact lt_of_cell e0)]; exact e0
   ·rw [hu.cell (by rw [← hz]; exact lt_of_cell e1)]; exact e1
   ·rw [hu.cell (by rw [← hz]; exact lt_of_cell e2)]; exact e2
   ·rw [hu.cell (by rw [← hz]; exact lt_of_cell e3)]; exact e3
   ·rw [hu.cell (by rw [← hz]; exact lt_of_cell e4)]; exact e4
   ·rw [hu.cell (by rw [← hz]; exact lt_of_cell e5)]; exact e5
  have hRo : Hid (∀ u, Below g0 w5 u → Calls Tryz.prog 54 #[.agg #[.int .i64 g, .int .i64 f, vC], .int .i64 s.next, .int .i64 s.size, .int .u32 (seed.toNat : Int)] u fun e w' => ∃ ao ca, e = .returned (.tuple #[.agg #[.int .i64 (g + 1), .int .i64 f, .slice ao NR ca], .int .i64 0]) ∧ Ct.Own u.heap.size w' (.slice ao NR ca) R ∧ Below u.heap.size u w') := hide fun u hu => by
   have hlt := seed.isLt
   have hx := roll_any u g f vC cs s.next s.size seed.toNat (hCt.below (by rw [hg0.out]; exact hu)).sgs (by omega) (by omega) (by omega) (by omega) (by omega) hlt
   rw [HR.out.1] at hx
   refine hx.mono ?_
   rintro e w' ⟨v', rfl, O', B'⟩
   obtain ⟨ao, ca, rfl, _, _⟩ := O'.sgs.form
   rw [hNR.out] at O' ⊢
   exact ⟨ao, ca, rfl, O', B'⟩
  have KB : Hid (Below g0 w5 w5.drew) := hide (Below.refl _ _).drew
  clear hb5 hCt N5 KP5
  refine wp_region_T (fun q => q.cell? ⟨stb, 2, none⟩ = some (.int .i64 g) ∧ q.cell? ⟨stb, 3, none⟩ = some (.int .i64 f) ∧ q.cell? ⟨stb, 4, none⟩ = some (vC) ∧ q.cell? ⟨gl, 4, none⟩ = some (.int .i64 s.next) ∧ q.cell? ⟨gl, 5, none⟩ = some (.int .i64 s.size) ∧ q.cell? ⟨gl, 6, none⟩ = some (.int .u32 (seed.toNat : Int))) 16 (by kernel_rfl) ?_
  have KP := hide (KS.out _ KB.out)
  have hgq : Hid (w5.drew.heap.size = g0) := hg0
  generalize w5.drew = wq at *
  refine Ix.tk 0 ⟨some 14, .move (.tmp 0), _, _, _, _⟩ (.pointer (some ⟨stb, 0, none⟩)) [1,2,3,10,11,13,16] ?_ KP.out ?_
  ·intro wq hSw; go_simp
  (try simp only [zzp, zzb, zzc])
  refine Ix.tk 1 ⟨some 15, .nilCheck (.tmp 14), _, _, _, _⟩ (.pointer (some ⟨stb, 0, none⟩)) [2,3,10,11,13,16] ?_ KP.out ?_
  ·intro wq hSw; go_simp
  (try simp only [zzp, zzb, zzc])
  refine Ix.tk 2 ⟨some 16, .fieldAddr 69 (.tmp 15) 2, _, _, _, _⟩ (.pointer (some ⟨stb, 2, none⟩)) [3,10,11,13,16] ?_ KP.out ?_
  ·intro wq hSw; go_simp
  (try simp only [zzp, zzb, zzc])
  refine Ix.tk 3 ⟨some 17, .load 47 (.tmp 16), _, _, _, _⟩ (.agg #[.int .i64 g, .int .i64 f, vC]) [10,11,13,16] ?_ KP.out ?_
  ·intro wq hSw
   obtain ⟨y0, y1, y2, y3, y4, y5⟩ := hSw
   go_simp
  (try simp only [zzp, zzb, zzc])
  refine Ix.tk 4 ⟨some 18, .fieldAddr 79 (.tmp 2) 2, _, _, _, _⟩ (.pointer (some ⟨gl, 4, none⟩)) [5,10,11,13,16] ?_ KP.out ?_
  ·intro wq hSw; go_simp
  (try simp only [zzp, zzb, zzc])
  refine Ix.tk 5 ⟨some 19, .load 2 (.tmp 18), _, _, _, _⟩ (.int .i64 s.next) [10,11,13,16] ?_ KP.out ?_
  ·intro wq hSw
   obtain ⟨y0, y1, y2, y3, y4, y5⟩ := hSw
   go_simp
  (try simp only [zzp, zzb, zzc])
  refine Ix.tk 6 ⟨some 20, .fieldAddr 79 (.tmp 2) 3, _, _, _, _⟩ (.pointer (some ⟨gl, 5, none⟩)) [7,10,11,13,16] ?_ KP.out ?_
  ·intro wq hSw; go_simp
  (try simp only [zzp, zzb, zzc])
  refine Ix.tk 7 ⟨some 21, .load 3 (.tmp 20), _, _, _, _⟩ (.int .i64 s.size) [10,11,13,16] ?_ KP.out ?_
  ·intro wq hSw
   obtain ⟨y0, y1, y2, y3, y4, y5⟩ := hSw
   go_simp
  (try simp only [zzp, zzb, zzc])
  refine Ix.tk 8 ⟨some 22, .fieldAddr 79 (.tmp 2) 4, _, _, _, _⟩ (.pointer (some ⟨gl, 6, none⟩)) [9,10,11,13,16] ?_ KP.out ?_
  ·intro wq hSw; go_simp
  (try simp only [zzp, zzb, zzc])
  refine Ix.tk 9 ⟨some 23, .load 49 (.tmp 22), _, _, _, _⟩ (.int .u32 (seed.toNat : Int)) [10,11,13,16] ?_ KP.out ?_
  ·intro wq hSw
   obtain ⟨y0, y1, y2, y3, y4, y5⟩ := hSw
   go_simp
  (try simp only [zzp, zzb, zzc])
  refine wpAnyT_two (i := 10) (j := 14) (oi := ⟨some 24, .call { callee := .value (.func 54), args := #[.tmp 17, .tmp 19, .tmp 21, .tmp 23], argTypes := #[47, 2, 3, 49] }, _, _, _, _⟩) (oj := ⟨some 3, .alloc 47, _, _, _, _⟩) (by kernel_rfl) rfl rfl (fun K hK => ?_) (fun K hK => ?_)
  ·go_simp
   go_at_call 54
   refine (hRo.out _ KB.out).mono ?_
   rintro e w6 ⟨ao, ca, rfl, O6, B6⟩
   have K6 := hide (KB.out.trans (by rw [hgq.out] at B6; exact B6))
   have KS6 := hide (KS.out _ K6.out)
   (try go_simp)
   refine hK.out _ _ (fun _ => KS6.out) ?_
   clear hK K
   (try simp only [zzp, zzb, zzc])
   refine Ix.tk 11 ⟨some 13, .move (.tmp 24), _, _, _, _⟩ (.tuple #[.agg #[.int .i64 (g + 1), .int .i64 f, .slice ao NR ca], .int .i64 0]) [12,16] ?_ KS6.out ?_
   ·intro wq hSw; go_simp
   (try simp only [zzp, zzb, zzc])
   refine Ix.tk 12 ⟨some 25, .extract (.tmp 13) 0, _, _, _, _⟩ (.agg #[.int .i64 (g + 1), .int .i64 f, .slice ao NR ca]) [16] ?_ KS6.out ?_
   ·intro wq hSw
    obtain ⟨y0, y1, y2, y3, y4, y5⟩ := hSw
    go_simp
   (try simp only [zzp, zzb, zzc])
   refine Ix.tk 13 ⟨some 26, .extract (.tmp 13) 1, _, _, _, _⟩ (.int .i64 0) [16] ?_ KS6.out ?_
   ·intro wq hSw
    obtain ⟨y0, y1, y2, y3, y4, y5⟩ := hSw
    go_simp
   (try simp only [zzp, zzb, zzc])
   have B7 := box_below w6 (.cells #[.int .i64 0, .int .i64 0, .slice none 0 0] 47)
   have hz6 : g0 ≤ w6.heap.size := by rw [← hgq.out]; exact B6.size
   have KS7 := hide (KS.out _ (K6.out.trans (B7.mono hz6)))
   have N8 := heap_alloc_new w6 (.cells #[.int .i64 (g + 1), .int .i64 f, .slice ao NR ca] 47)
   have B8 := box_below w6 (.cells #[.int .i64 (g + 1), .int .i64 f, .slice ao NR ca] 47)
   have FIN := hide (show Below g0 w5 (w6.alloc (.cells #[.int .i64 (g + 1), .int .i64 f, .slice ao NR ca] 47)) ∧ g0 ≤ w6.heap.size ∧ (w6.alloc (.cells #[.int .i64 (g + 1), .int .i64 f, .slice ao NR ca] 47)).heap[w6.heap.size]? = some (.cells #[.int .i64 (g + 1), .int .i64 f, .slice ao NR ca] 47 (0, 0)) ∧ Ct.Own g0 (w6.alloc (.cells #[.int .i64 (g + 1), .int .i64 f, .slice ao NR ca] 47)) (.slice ao NR ca) R from ⟨K6.out.trans (B8.mono hz6), hz6, N8, (by rw [hgq.out] at O6; exact O6.below B8)⟩)
   refine wpAnyT_one (i := 14) (o := ⟨some 3, .alloc 47, _, _, _, _⟩) (by kernel_rfl) rfl (fun K hK => ?_)
   go_simp
   refine hK.out _ _ (fun _ => KS7.out) ?_
   clear hK K
   (try simp only [zzp, zzb, zzc])
   have KS8 := hide (KS.out _ FIN.out.1)
   refine wpAnyT_one (i := 15) (o := ⟨none, .store 47 (.tmp 3) (.tmp 25), _, _, _, _⟩) (by kernel_rfl) rfl (fun K hK => ?_)
   go_simp
   refine hK.out _ _ (fun _ => KS8.out) ?_
   clear hK K
   (try simp only [zzq])
   refine wpAnyT_one (i := 16) (o := ⟨some 4, .assign (.tmp 26), _, _, _, _⟩) (by kernel_rfl) rfl (fun K hK => ?_)
   go_simp
   refine hK.out _ _ (vac (by kernel_rfl)) ?_
   clear hK K
   (try simp only [zzp, zzb, zzc])
   refine wpAnyT_done (by kernel_rfl) ?_ _
   go_wp2_with fail
   go_meet
   case rel => exact ⟨_, _, rfl, rfl, FIN⟩
  ·have B6 := box_below wq (.cells #[.int .i64 0, .int .i64 0, .slice none 0 0] 47)
   have N6 := heap_alloc_new wq (.cells #[.int .i64 0, .int .i64 0, .slice none 0 0] 47)
   rw [hgq.out] at B6 N6
   have K6 := hide (KB.out.trans B6)
   have KS6 := hide (KS.out _ K6.out)
   have hz6 : (wq.alloc (.cells #[.int .i64 0, .int .i64 0, .slice none 0 0] 47)).heap.size = g0 + 1 := by simp [hgq.out]
   go_simp
   refine hK.out _ _ (fun _ => KS6.out) ?_
   clear hK K
   (try simp only [zzp, zzb, zzc])
   rw [hgq.out]
   generalize wq.alloc (.cells #[.int .i64 0, .int .i64 0, .slice none 0 0] 47) = w6 at *
   refine wpAnyT_one (i := 10) (o := ⟨some 24, .call { callee := .value (.func 54), args := #[.tmp 17, .tmp 19, .tmp 21, .tmp 23], argTypes := #[47, 2, 3, 49] }, _, _, _, _⟩) (by kernel_rfl) rfl (fun K hK => ?_)
   go_simp
   go_at_call 54
   refine (hRo.out _ K6.out).mono ?_
   rintro e w7 ⟨ao, ca, rfl, O7, B7⟩
   rw [hz6] at O7 B7
   have K7 := hide (K6.out.trans (B7.mono (Nat.le_succ g0)))
   have KS7 := hide (KS.out _ K7.out)
   have N7 := (B7.block _ (Nat.lt_succ_self g0)).trans N6
   (try go_simp)
   refine hK.out _ _ (fun _ => KS7.out) ?_
   clear hK K
   (try simp only [zzp, zzb, zzc])
   refine Ix.tk 11 ⟨some 13, .move (.tmp 24), _, _, _, _⟩ (.tuple #[.agg #[.int .i64 (g + 1), .int .i64 f, .slice ao NR ca], .int .i64 0]) [12,16] ?_ KS7.out ?_
   ·intro wq hSw; go_simp
   (try simp only [zzp, zzb, zzc])
   refine Ix.tk 12 ⟨some 25, .extract (.tmp 13) 0, _, _, _, _⟩ (.agg #[.int .i64 (g + 1), .int .i64 f, .slice ao NR ca]) [16] ?_ KS7.out ?_
   ·intro wq hSw
    obtain ⟨y0, y1, y2, y3, y4, y5⟩ := hSw
    go_simp
   (try simp only [zzp, zzb, zzc])
   refine Ix.tk 13 ⟨some 26, .extract (.tmp 13) 1, _, _, _, _⟩ (.int .i64 0) [16] ?_ KS7.out ?_
   ·intro wq hSw
    obtain ⟨y0, y1, y2, y3, y4, y5⟩ := hSw
    go_simp
   (try simp only [zzp, zzb, zzc])
   have N8 := put3_heap N7 (.int .i64 (g + 1)) (.int .i64 f) (.slice ao NR ca)
   have X8 : But (fun k => k = g0) w7 (put3 w7 g0 (.int .i64 (g + 1)) (.int .i64 f) (.slice ao NR ca)) := ((But.of_grownBy (grown_setCell w7 g0 0 _) fun k e => by cases e; rfl).trans (But.of_grownBy (grown_setCell _ g0 1 _) fun k e => by cases e; rfl)).trans (But.of_grownBy (grown_setCell _ g0 2 _) fun k e => by cases e; rfl)
   have O8 := (O7.low (Nat.le_succ g0)).but X8 fun k hk c => by have := (O7.lt k hk).1; omega
   have B8 : Below g0 w5 (put3 w7 g0 (.int .i64 (g + 1)) (.int .i64 f) (.slice ao NR ca)) := K7.out.trans (X8.below (by have := B7.size; rw [hz6] at this; omega) fun k e => by omega)
   have FZ : ∀ j, w7.frozen? ⟨g0, j, none⟩ = false := fun j => by simp [World.frozen?, N7]
   have c0 : ∀ j, w7.cell? ⟨g0, j, none⟩ = _ := fun j => cell_of N7
   unfold put3 at N8 O8 B8
   have FIN := hide (And.intro B8 (And.intro (Nat.le_refl g0) (And.intro N8 O8)))
   have KS8 := hide (KS.out _ B8)
   refine wpAnyT_one (i := 15) (o := ⟨none, .store 47 (.tmp 3) (.tmp 25), _, _, _, _⟩) (by kernel_rfl) rfl (fun K hK => ?_)
   go_simp
   refine hK.out _ _ (fun _ => KS8.out) ?_
   clear hK K
   (try simp only [zzq])
   refine wpAnyT_one (i := 16) (o := ⟨some 4, .assign (.tmp 26), _, _, _, _⟩) (by kernel_rfl) rfl (fun K hK => ?_)
   go_simp
   refine hK.out _ _ (vac (by kernel_rfl)) ?_
   clear hK K
   (try simp only [zzp, zzb, zzc])
   refine wpAnyT_done (by kernel_rfl) ?_ _
   go_wp2_with fail
   go_meet
   case rel => exact ⟨_, _, rfl, rfl, FIN⟩
 case rest =>
  obtain ⟨gx, v', rfl, rfl, HC2⟩ := hcut
  obtain ⟨Bx, hgx, Ngx, OV⟩ := HC2.out
  have hz2 : w2.heap.size ≤ g0 := by rw [← hg0.out]; exact BW.out.size
  have BWc := BW.out.trans (Bx.mono hz2)
  have hbc := (BWc.block _ (heap_lt hb2.out)).trans hb2.out
  have h2c := h2.out.below BWc
  obtain ⟨hc, n1, n2, hnm, hcx, hl, hM, k3⟩ := HC.out
  have hk : R.length = Ri.length + 1 := by rw [hR.out]; simp
  obtain ⟨rb, ro, rc, e', _, _, hAt⟩ := OV.sgs.at (by omega)
  rw [hk] at e'
  subst e'
  obtain ⟨a0, a1, a2, a3, a4⟩ := hAt Ri.length (by omega)
  have hL : sg R Ri.length = ⟨nm, s.next, seed.toNat, 0, 0⟩ := by rw [hR.out]; simp [sg]
  rw [hL] at a0 a1 a2 a3 a4
  simp only at a0 a1 a2 a3 a4
  have hki : Ri.length < 1000 := by have := hNR.out; omega
  have hLay := hide (lay_any hbc h2c.dk h2c.nO ⟨nm, s.next, seed.toNat, 0, 0⟩ n1 n2 b1 b2 seed rfl (T16.out.below BWc) CA.out (by omega) hnm (by omega) (by rw [k3]; omega))
  have y2 : wc.cell? ⟨gx, 2, none⟩ = some (.slice (some ⟨rb, ro, none⟩) (Ri.length + 1) rc) := by rw [cell_of Ngx]; rfl
  have HH := hide (And.intro BWc (And.intro hbc (And.intro h2c (And.intro Ngx OV))))
  clear hAt hL BWc hbc h2c Ngx OV hc n1 n2 hnm hcx hl hM k3 HC2 Bx hk
  generalize hkR : Ri.length = kR at *
  go_upto_region 5 with (first
   | (go_at_call 35; refine (must_ok _).mono ?_; rintro e wm ⟨rfl, hwm⟩; rw [hwm]; clear hwm wm)
   | (go_at_call 49; refine hLay.out.mono ?_; rintro e w6 ⟨p1, O6, sb6, xb6, mb6, v6, rfl, hp1, W6, G6, l6⟩)
   | fail)
  obtain ⟨BWc, hbc, h2c, Ngx, OV⟩ := HH.out
  clear a0 a1 a2 a3 a4 y2 hLay
  obtain ⟨S6, no6⟩ := stb_sgo hbc G6 h2c.nO
  have o1lt := h2.out.dk.lt
  have ngx : ¬ O1 gx := fun c => by have := o1lt _ c; omega
  have N6 := (G6.but.block _ (heap_lt Ngx) ngx).trans Ngx
  have OV6 := OV.but G6.but fun k hk c => by have := (OV.lt k hk).1; have := o1lt _ c; omega
  obtain ⟨hc, n1, n2, hnm, hcx, hl, hM, k3⟩ := HC.out
  obtain ⟨_, x2, x3, x4, x5⟩ := ca_cre CA.out (may_nm nm) hnm (by omega) hp1 seed n1 b1 (by rw [k3]; omega)
  have hne := nmF_ne nm
  have hWr := hide (write_any S6 W6.dk no6 (g + 1) f (.slice (some ⟨rb, ro, none⟩) (kR + 1) rc) R OV6.sgs HR.out.2 g1 f1 x2 (by omega) (by rw [get_dput, if_neg hne.2]; exact hcx) (by rw [x4]; omega) (by rw [x3, k3]; omega))
  have y0 : w6.cell? ⟨gx, 0, none⟩ = some (.int .i64 (g + 1)) := by rw [cell_of N6]; rfl
  have y1 : w6.cell? ⟨gx, 1, none⟩ = some (.int .i64 f) := by rw [cell_of N6]; rfl
  have y2 : w6.cell? ⟨gx, 2, none⟩ = some (.slice (some ⟨rb, ro, none⟩) (kR + 1) rc) := by rw [cell_of N6]; rfl
  have HG := hide (And.intro S6 (And.intro W6 (And.intro G6 l6)))
  clear S6 no6 N6 OV6 hc n1 n2 hnm hcx hl hM k3 x2 x3 x4 x5 hne W6 G6 l6 BWc hbc h2c Ngx OV o1lt ngx
  go_upto_region 6 with (first
   | (go_at_call 50; refine hWr.out.mono ?_; rintro e w7 ⟨rfl, p2, O7, hp2, D7, T7, S7, no7⟩)
   | fail)
  obtain ⟨BWc, hbc, h2c, Ngx, OV⟩ := HH.out
  obtain ⟨S6, W6, G6, l6⟩ := HG.out
  clear y0 y1 y2 hWr
  have B8 := box_below w7 (.cells #[.pointer (some ⟨sb6, 0, none⟩)] 80)
  have N8 := heap_alloc_new w7 (.cells #[.pointer (some ⟨sb6, 0, none⟩)] 80)
  have S8 := (B8.block _ (heap_lt S7)).trans S7
  have y5 : w7.cell? ⟨stb, 5, none⟩ = some (.slice (some ⟨vb, 0, none⟩) (qi.length + 1) cap) := by rw [cell_of S7]; rfl
  have nVS : ∀ k, (Value.slice (some ⟨vb, 0, none⟩) (qi.length + 1) cap).ownBlock = some k → ¬ O1 k ∧ k ≠ stb ∧ k < w2.heap.size := fun k hk => ⟨(h2.out.nS k hk).1, (h2.out.nS k hk).2, (World.ownsRow.lt h2.out.sp k hk).2⟩
  have r6 := row_but h2c.sp G6.but fun k hk c => (nVS k hk).1 c
  have r7 := row_but r6 T7.but fun k hk c => by
   rcases c with c | c
   ·exact (nVS k hk).2.1 c
   ·rcases G6.own k c with d | d
    ·exact (nVS k hk).1 d
    ·have := (nVS k hk).2.2; have := BWc.size; omega
  have r8 := ownsRow_below r7 B8
  have el : (qi ++ [q]).length = ((qi ++ [q]).map fun q => (Value.pointer (some ⟨q.sb, 0, none⟩))).length := by simp
  have elN : ((qi ++ [q]).map fun q => (Value.pointer (some ⟨q.sb, 0, none⟩))).length ≤ 1000000 := by simp; omega
  rw [el] at r8
  obtain ⟨v9, w9, hrun, R9, g9, at9⟩ := run_appP (some ⟨sb6, 0, none⟩) w7.heap.size r8 (by rw [cell_of N8]; rfl) elN (Nat.zero_le _) 67
  rw [← el] at R9
  have S9 := (g9.block _ (heap_lt S8) (fun c => (nVS stb c.symm).2.1 rfl)).trans S8
  have fz : w9.frozen? ⟨stb, 5, none⟩ = false := by simp [World.frozen?, S9]
  have cz : w9.cell? ⟨stb, 5, none⟩ = some (.slice (some ⟨vb, 0, none⟩) (qi.length + 1) cap) := by rw [cell_of S9]; rfl
  have hform : ∃ a n c, v9 = .slice a n c := by
   rcases R9.2 with ⟨rfl, _⟩ | ⟨g, cap, cur, rfl, _⟩
   ·exact ⟨_, _, _, rfl⟩
   ·exact ⟨_, _, _, rfl⟩
  obtain ⟨va, vn, vc, rfl⟩ := hform
  have E10 : But (fun k => k = stb) w9 (w9.setCell ⟨stb, 5, none⟩ (.slice va vn vc)) := But.of_grownBy (grown_setCell w9 stb 5 _) fun k e => by cases e; rfl
  have S10 : StB (w9.setCell ⟨stb, 5, none⟩ (.slice va vn vc)) stb #[.pointer (some ⟨b, 0, none⟩), .int .i64 m, .int .i64 (g + 1), .int .i64 f, .slice (some ⟨rb, ro, none⟩) (kR + 1) rc, .slice va vn vc, .int .i64 nx, .int .i64 du, .int .i64 0, .bool false] := by show _ = _; rw [heap_setCell_same _ stb 5 _ _ _ S9]; rfl
  obtain ⟨P1, P2⟩ := h2.out.push (heap_lt hb2.out) BWc (OV.low hz2) W6 rfl G6 l6 D7 T7 no7 B8 R9 g9 at9 E10
  have FINAL : Hid (∃ p1 p2 O' q' vC' vS', p1 ∉ S1.ps ∧ p2 ∉ (creF S1 (nmF nm) nm s.next seed p1).1.ps ∧ StB (w9.setCell ⟨stb, 5, none⟩ (.slice va vn vc)) stb #[.pointer (some ⟨b, 0, none⟩), .int .i64 m, .int .i64 (g + 1), .int .i64 f, vC', vS', .int .i64 nx, .int .i64 du, .int .i64 0, .bool false] ∧
   StR (w9.setCell ⟨stb, 5, none⟩ (.slice va vn vc)) stb b R (si ++ [s] ++ [newSG b (nmF nm) nm s.next seed (whF nm s.next seed).2.1]) (re5 (creF S1 (nmF nm) nm s.next seed p1).1 catB cnxB (bytesC (g + 1) f R) p2) O' (qi ++ [q] ++ [q']) vC' vS' ∧ Sgo w (w9.setCell ⟨stb, 5, none⟩ (.slice va vn vc)) (StO stb O (qi ++ [q]) vC (.slice (some ⟨vb, 0, none⟩) (qi.length + 1) cap)) (StO stb O' (qi ++ [q] ++ [q']) vC' vS')) := ⟨p1, p2, O7, ⟨sb6, xb6, mb6, v6⟩, .slice (some ⟨rb, ro, none⟩) (kR + 1) rc, .slice va vn vc, hp1, hp2, S10, P1, T2.out.trans P2⟩
  clear S6 W6 G6 l6 BWc hbc h2c Ngx OV S7 S8 S9 N8 r6 r7 r8 R9 g9 at9 B8 E10 S10 P1 P2 nVS D7 T7 no7
  go_wp2_with (first
   | (at_builtin; refine wpList_append_runP rfl (.tmp 46) (.tmp 48) rfl rfl rfl hrun ?_)
   | fail)
  go_end0
  exact ⟨rfl, FINAL⟩
set_option maxRecDepth 100000
structure Kst where
 g : Int
 f : Int
 cs : List Sg
 si : List SG
 s : SG
 S : DS
def KA (w : World) (stb b : Nat) (m nx du : Int) (K : Kst) (A : Nat → Prop) : Prop :=
 ∃ O qi q vC vS, A = StO stb O (qi ++ [q]) vC vS ∧ StB w stb #[.pointer (some ⟨b, 0, none⟩), .int .i64 m, .int .i64 K.g, .int .i64 K.f, vC, vS, .int .i64 nx, .int .i64 du, .int .i64 0, .bool false] ∧ StR w stb b K.cs (K.si ++ [K.s]) K.S O (qi ++ [q]) vC vS
theorem KA.lt {w : World} {stb b : Nat} {m nx du : Int} {K : Kst} {A : Nat → Prop} (h : KA w stb b m nx du K A) : ∀ k, A k → k < w.heap.size := by
 obtain ⟨O, qi, q, vC, vS, rfl, hb, hr⟩ := h
 exact hr.lt hb
theorem KA.stb {w : World} {stb b : Nat} {m nx du : Int} {K : Kst} {A : Nat → Prop} (h : KA w stb b m nx du K A) : A stb := by
 obtain ⟨O, qi, q, vC, vS, rfl, hb, hr⟩ := h
 exact .inl rfl
theorem KA.but {X : Nat → Prop} {w w' : World} {stb b : Nat} {m nx du : Int} {K : Kst} {A : Nat → Prop} (h : KA w stb b m nx du K A) (hb : But X w w') (hx : ∀ k, A k → ¬ X k) : KA w' stb b m nx du K A := by
 obtain ⟨O, qi, q, vC, vS, rfl, hs, hr⟩ := h
 exact ⟨O, qi, q, vC, vS, rfl, hs.sgo hb (hx stb (.inl rfl)), hr.but hb hx⟩
theorem KA.below {w w' : World} {stb b : Nat} {m nx du : Int} {K : Kst} {A : Nat → Prop} (h : KA w stb b m nx du K A) (hb : Below w.heap.size w w') : KA w' stb b m nx du K A := h.but (But.of_below hb fun _ => False) fun _ _ c => c
theorem KA.set6 {w : World} {stb b : Nat} {m nx du : Int} {K : Kst} {A : Nat → Prop} (h : KA w stb b m nx du K A) (y : Int) : KA (w.setCell ⟨stb, 6, none⟩ (.int .i64 y)) stb b m y du K A := by
 obtain ⟨O, qi, q, vC, vS, rfl, hs, hr⟩ := h
 have hb : But (fun k => k = stb) w (w.setCell ⟨stb, 6, none⟩ (.int .i64 y)) := But.of_grownBy (grown_setCell w stb 6 _) fun k e => by cases e; rfl
 exact ⟨O, qi, q, vC, vS, rfl, by show _ = _; rw [heap_setCell_same _ stb 6 _ _ _ hs]; rfl, hr.butS hb fun k hk _ c => hk c⟩
theorem KA.set7 {w : World} {stb b : Nat} {m nx du : Int} {K : Kst} {A : Nat → Prop} (h : KA w stb b m nx du K A) (y : Int) : KA (w.setCell ⟨stb, 7, none⟩ (.int .i64 y)) stb b m nx y K A := by
 obtain ⟨O, qi, q, vC, vS, rfl, hs, hr⟩ := h
 have hb : But (fun k => k = stb) w (w.setCell ⟨stb, 7, none⟩ (.int .i64 y)) := But.of_grownBy (grown_setCell w stb 7 _) fun k e => by cases e; rfl
 exact ⟨O, qi, q, vC, vS, rfl, by show _ = _; rw [heap_setCell_same _ stb 7 _ _ _ hs]; rfl, hr.butS hb fun k hk _ c => hk c⟩
theorem KA.cells {w : World} {stb b : Nat} {m nx du : Int} {K : Kst} {A : Nat → Prop} (h : KA w stb b m nx du K A) : w.cell? ⟨stb, 0, none⟩ = some (.pointer (some ⟨b, 0, none⟩)) ∧ w.cell? ⟨stb, 1, none⟩ = some (.int .i64 m) ∧ w.cell? ⟨stb, 2, none⟩ = some (.int .i64 K.g) ∧ w.cell? ⟨stb, 6, none⟩ = some (.int .i64 nx) ∧ w.cell? ⟨stb, 7, none⟩ = some (.int .i64 du) ∧ w.cell? ⟨stb, 8, none⟩ = some (.int .i64 0) ∧ w.cell? ⟨stb, 9, none⟩ = some (.bool false) ∧ ∀ j, w.frozen? ⟨stb, j, none⟩ = false := by
 obtain ⟨O, qi, q, vC, vS, rfl, hs, hr⟩ := h
 refine ⟨?_, ?_, ?_, ?_, ?_, ?_, ?_, fun j => by simp [World.frozen?, hs]⟩ <;> (rw [cell_of hs]; rfl)
noncomputable def Kst.put (K : Kst) (seed : Crc.R) (ls : List (List UInt8)) : Kst := { K with s := (putF K.s K.S seed ls).1.1, S := (putF K.s K.S seed ls).1.2 }
structure PutPre (b : Nat) (K : Kst) (seed : Crc.R) (ls : List (List UInt8)) : Prop where
 ok : SOk K.s
 sd : K.s.seed = (seed.toNat : Int)
 ne : ls ≠ []
 len : ls.length ≤ 1000000
 size : K.s.size + (ls.length : Int) * 4112 ≤ 2147483647
 sds : K.s.sd.length + ls.length ≤ 1000000000
 file : K.s.file.size ≤ maxLen
 c7 : K.S.c7 < 900000000
 err : (putF K.s K.S seed ls).2.2 = 0
 b : (putF K.s K.S seed ls).1.1.b = b
 n : K.si.length < 1000
theorem ilen {w : World} {stb b : Nat} {cs : List Sg} {si : List SG} {s : SG} {S : DS} {O : Nat → Prop} {qi : List Bls} {q : Bls} {vC vS : Value} (h : StR w stb b cs (si ++ [s]) S O (qi ++ [q]) vC vS) {n : Nat} (hn : si.length < n) : qi.length < n := by rw [← h.ilen]; exact hn
theorem kput {w : World} {stb b : Nat} {m nx du : Int} {K : Kst} {A : Nat → Prop} (h : KA w stb b m nx du K A) {seed : Crc.R} {ls : List (List UInt8)} (P : PutPre b K seed ls) (vd : Value) (vs : List Value) (hr : Row w vd vs) (hs : Sls w vs ls) :
    Calls Tryz.prog 31 #[.pointer (some ⟨stb, 0, none⟩), vd] w fun e w' => e = .returned (.tuple #[]) ∧ ∃ A', KA w' stb b m nx du (K.put seed ls) A' ∧ Sgo w w' A A' := by
 obtain ⟨O, qi, q, vC, vS, rfl, hb, hR⟩ := h
 refine (sput_any hb hR (by have := ilen hR P.n; omega) P.ok seed P.sd vd vs ls hr hs P.ne P.len P.size P.sds P.file P.c7 P.err P.b).mono ?_
 rintro e w' ⟨rfl, v', O', h1, h2, h3⟩
 exact ⟨rfl, _, ⟨O', qi, _, vC, vS, rfl, h1, h2⟩, h3⟩
noncomputable def Kst.roll (K : Kst) (b : Nat) (seed : Crc.R) (nm : Int) (R : List Sg) (p1 p2 : Nat) : Kst :=
 ⟨K.g + 1, K.f, R, K.si ++ [K.s], newSG b (nmF nm) nm K.s.next seed (whF nm K.s.next seed).2.1, re5 (creF (K.S.sync K.s.file).1 (nmF nm) nm K.s.next seed p1).1 catB cnxB (bytesC (K.g + 1) K.f R) p2⟩
structure RollPre (K : Kst) (seed : Crc.R) (nm : Int) (R : List Sg) (M : Nat) (D : Dr) (F : Nat → Fl) (c : Int) : Prop where
 ok : SOk K.s
 cd : K.s.cond = 0
 sd : K.s.seed = (seed.toNat : Int)
 file : K.s.file.size ≤ maxLen
 ca : Ca K.S M D F c
 c5 : c < 500000000
 my : may K.s.file.data.toList = true
 g : ∃ p, Dk.get D K.s.file.data.toList = some p
 roll : rollF K.g K.f K.cs K.s.next K.s.size seed.toNat = (0, K.g + 1, K.f, R)
 may_ : May (K.g + 1) K.f R
 r : ∃ Ri, R = Ri ++ [⟨nm, K.s.next, seed.toNat, 0, 0⟩]
 rl : R.length ≤ 100
 n1 : 1 ≤ nm
 n2 : nm ≤ 9223372036854775807
 b1 : 1 ≤ K.s.next
 b2 : K.s.next ≤ 9223372036854775807
 z0 : 0 ≤ K.s.size
 z1 : K.s.size ≤ 2147483647
 g1 : K.g + 1 ≤ 9223372036854775807
 f1 : K.f ≤ 9223372036854775807
 nn : Dk.get D (nmF nm).data.toList = none
 cx : Dk.get D cnxB.data.toList = none
 dl : D.length < 200
 mm : sumL F D + 32 + (bytesC (K.g + 1) K.f R).length ≤ M
 n : K.si.length < 1000
theorem kroll {w : World} {stb b : Nat} {m nx du : Int} {K : Kst} {A : Nat → Prop} (h : KA w stb b m nx du K A) {seed : Crc.R} {nm : Int} {R : List Sg} {M : Nat} {D : Dr} {F : Nat → Fl} {c : Int} (P : RollPre K seed nm R M D F c) (hT : Tab16 w) (hA : ¬ A 3) :
    Calls Tryz.prog 32 #[.pointer (some ⟨stb, 0, none⟩)] w fun e w' => e = .returned (.tuple #[]) ∧ ∃ p1 p2 A', p1 ∉ (K.S.sync K.s.file).1.ps ∧ p2 ∉ (creF (K.S.sync K.s.file).1 (nmF nm) nm K.s.next seed p1).1.ps ∧ KA w' stb b m nx du (K.roll b seed nm R p1 p2) A' ∧ Sgo w w' A A' := by
 obtain ⟨O, qi, q, vC, vS, rfl, hb, hR⟩ := h
 obtain ⟨p, hp⟩ := P.g
 obtain ⟨Ri, hRi⟩ := P.r
 refine (sroll_any hb hR (ilen hR P.n) P.ok P.cd P.file seed P.sd P.ca P.c5 P.my hp P.roll P.may_ hRi P.rl P.n1 P.n2 P.b1 P.b2 P.z0 P.z1 P.g1 P.f1 P.nn P.cx P.dl P.mm hT hA).mono ?_
 rintro e w' ⟨rfl, hx⟩
 obtain ⟨p1, p2, O', q', vC', vS', h1, h2, h3, h4, h5⟩ := hx.out
 exact ⟨rfl, p1, p2, _, h1, h2, ⟨O', qi ++ [q], q', vC', vS', rfl, h3, h4⟩, h5⟩
theorem row_cut {w : World} {db off N ca : Nat} {vs : List Value} (h : Row w (.slice (some ⟨db, off, none⟩) N ca) vs) {x y : Nat} (h1 : x ≤ y) (h2 : y ≤ N) : Row w (cutV db off ca (x, y)) ((vs.drop x).take (y - x)) := by
 obtain ⟨ao, cap, e, h3, h4, h5, h6⟩ := h
 simp at e
 obtain ⟨rfl, e2, rfl⟩ := e
 have hl : ((vs.drop x).take (y - x)).length = y - x := by simp; omega
 refine ⟨some ⟨db, off + x, none⟩, ca - x, by rw [hl]; rfl, fun e => by simp at e, by rw [hl]; omega, by omega, fun i hi => ?_⟩
 rw [hl] at hi
 obtain ⟨b, o, e, hc⟩ := h6 (x + i) (by omega)
 simp only [Option.some.injEq, Addr.mk.injEq, and_true] at e
 obtain ⟨rfl, rfl⟩ := e
 refine ⟨db, off + x, rfl, ?_⟩
 rw [show off + x + i = off + (x + i) by omega, hc]
 simp
theorem sls_cut {w : World} {vs : List Value} {ls : List (List UInt8)} (h : Sls w vs ls) (x n : Nat) : Sls w ((vs.drop x).take n) ((ls.drop x).take n) := by
 refine ⟨by simp [h.1], fun i h1 h2 => ?_⟩
 simp at h1 h2
 have := h.2 (x + i) (by omega) (by omega)
 simpa using this
set_option maxRecDepth 100000
theorem KA.opn {w : World} {stb b : Nat} {m nx du : Int} {K : Kst} {A : Nat → Prop} (h : KA w stb b m nx du K A) (hn : K.si.length < 1000) : ∃ sb, Calls Tryz.prog 23 #[.pointer (some ⟨stb, 0, none⟩)] w (fun e w' => e = .returned (.pointer (some ⟨sb, 0, none⟩)) ∧ Qt w w') ∧ ∀ u, Qt w u → Calls Tryz.prog 24 #[.pointer (some ⟨sb, 0, none⟩)] u fun e w' => e = .returned (.agg K.s.look) ∧ Below u.heap.size u w' := by
 obtain ⟨O, qi, q, vC, vS, rfl, hb, hR⟩ := h
 obtain ⟨vb, cap, rfl, hcl⟩ := hR.last (n := qi.length) (by simp)
 have h5 : w.cell? ⟨stb, 5, none⟩ = some (.slice (some ⟨vb, 0, none⟩) (qi.length + 1) cap) := by rw [cell_of hb]; rfl
 exact ⟨q.sb, opn_any h5 (hcl q (by simp)) (by have := ilen hR hn; omega), fun u hu => look_any (hR.sw.1.sg.below (Qt.below hu _))⟩
theorem KA.share {w : World} {stb b : Nat} {m nx du : Int} {K : Kst} {A : Nat → Prop} (h : KA w stb b m nx du K A) (hn : K.si.length < 1000) (z0 : 0 ≤ K.s.size) (z1 : K.s.size ≤ 2147483647)
    (db off N ca : Nat) (vs : List Value) (ls : List (List UInt8)) (hr : Row w (.slice (some ⟨db, off, none⟩) N ca) vs) (hs : Sls w vs ls) (hN0 : ls.length = N) (hN1 : N ≤ 1000000) (hN2 : 1 ≤ N) :
    Calls Tryz.prog 27 #[.pointer (some ⟨stb, 0, none⟩), .slice (some ⟨db, off, none⟩) N ca] w fun e w' => ∃ v', e = .returned v' ∧ RL w.heap.size w' v' ((shR m K.s.size (K.s.next == K.s.base) ls).map (cutV db off ca)) ∧ Below w.heap.size w w' := by
 have hy := h.cells.2.1
 obtain ⟨O, qi, q, vC, vS, rfl, hb, hR⟩ := h
 obtain ⟨vb, cap, rfl, hcl⟩ := hR.last (n := qi.length) (by simp)
 have h5 : w.cell? ⟨stb, 5, none⟩ = some (.slice (some ⟨vb, 0, none⟩) (qi.length + 1) cap) := by rw [cell_of hb]; rfl
 exact share_any hy h5 (hcl q (by simp)) (by have := ilen hR hn; omega) hR.sw.1.sg z0 z1 db off N ca vs ls hr hs hN0 hN1 hN2
theorem KA.rolls {w : World} {stb b : Nat} {m nx du : Int} {K : Kst} {A : Nat → Prop} (h : KA w stb b m nx du K A) {n : Nat} (hl : K.cs.length = n + 1) (hn : n < 100) (g1 : 1 ≤ K.g) (g2 : K.g ≤ 9223372036854775807) (n1 : 1 ≤ (sg K.cs n).nm) (n2 : (sg K.cs n).nm ≤ 9223372036854775807) :
    Calls Tryz.prog 28 #[.pointer (some ⟨stb, 0, none⟩)] w fun e w' => e = .returned (.int .i64 (rollsV (n + 1) K.g (sg K.cs n).nm)) ∧ Qt w w' := by
 have hy := h.cells.2.2.1
 obtain ⟨O, qi, q, vC, vS, rfl, hb, hR⟩ := h
 have hC := hR.ct.2
 rcases hC.2 with ⟨e1, e2⟩ | ⟨g, cap, cur, e, hb', hg, r⟩
 ·omega
 ·obtain ⟨rb, ro, rc, e', _, _, hAt⟩ := hR.ct.sgs.at (by omega)
  rw [e'] at e
  simp only [Value.slice.injEq, Option.some.injEq, Addr.mk.injEq, and_true, true_and] at e
  obtain ⟨⟨rfl, rfl⟩, rfl⟩ := e
  obtain ⟨a0, _⟩ := hAt n (by omega)
  rw [hl] at e'
  subst e'
  exact srolls_any hy (by rw [cell_of hb]; rfl) (by rw [Nat.zero_add] at a0; exact a0) hn g1 g2 n1 n2
theorem KA.refuse {w : World} {stb b : Nat} {m nx du : Int} {K : Kst} {A : Nat → Prop} (h : KA w stb b m nx du K A) (h1 : 1 ≤ nx) (h2 : nx ≤ 9223372036854775807) (vd : Value) (vs : List Value) (ls : List (List UInt8)) (hr : Row w vd vs) (hs : Sls w vs ls) :
    Calls Tryz.prog 26 #[.pointer (some ⟨stb, 0, none⟩), vd] w fun e w' => e = .returned (.int .i64 (rrF nx ls)) ∧ w' = w := by
 obtain ⟨a0, a1, a2, a3, a4, a5, a6, _⟩ := h.cells
 exact srr_any a0 a3 a5 a6 h1 h2 vd vs ls hr hs
theorem KA.look {w : World} {stb b : Nat} {m nx du : Int} {K : Kst} {A : Nat → Prop} (h : KA w stb b m nx du K A) : Calls Tryz.prog 9 #[.pointer (some ⟨stb, 0, none⟩)] w fun e w' => e = .returned (.agg (slookV K.f nx du K.g K.cs.length)) ∧ Below w.heap.size w w' := by
 obtain ⟨O, qi, q, vC, vS, rfl, hb, hR⟩ := h
 obtain ⟨ao, ca, rfl, _, _⟩ := hR.ct.sgs.form
 exact slook_any hb
theorem shR_in {m z0 : Int} {e0 : Bool} {ls : List (List UInt8)} (h0 : 0 ≤ z0) (h1 : z0 ≤ 2147483647) : ∀ p ∈ shR m z0 e0 ls, p.1 ≤ p.2 ∧ p.2 ≤ ls.length := by
 have key : ∀ i, ∀ p ∈ (shS m z0 e0 ls i).cs, p.1 ≤ p.2 ∧ p.2 ≤ i := by
  intro i
  induction i with
  | zero => intro p hp; simp [shS] at hp
  | succ i ih =>
   intro p hp
   have hb := (shS_bd (m := m) (e0 := e0) (ls := ls) h0 h1 i).1
   unfold shS at hp
   split at hp
   ·rcases List.mem_append.1 hp with c | c
    ·have := ih p c; omega
    ·simp at c; subst c; exact ⟨hb, by show i ≤ i + 1; omega⟩
   ·have := ih p hp; omega
 intro p hp
 rcases List.mem_append.1 hp with c | c
 ·exact key _ p c
 ·simp only [List.mem_singleton] at c
  subst c
  exact ⟨(shS_bd (m := m) (e0 := e0) (ls := ls) h0 h1 _).1, Nat.le_refl _⟩
set_option maxRecDepth 100000
def runAt (rs : List (Nat × Nat)) (i : Nat) : Nat × Nat := rs.getD i (0, 0)
def cutL (ls : List (List UInt8)) (rs : List (Nat × Nat)) (i : Nat) : List (List UInt8) := (ls.drop (runAt rs i).1).take ((runAt rs i).2 - (runAt rs i).1)
theorem sappend_any {w : World} {stb b : Nat} {m nx du : Int} {K : Kst} {A : Nat → Prop} (h : KA w stb b m nx du K A) (hT : Tab16 w) (hA : ¬ A 3)
    (db off N ca : Nat) (vs : List Value) (ls : List (List UInt8)) (hD : ∀ u A', Sgo w u A A' → Row u (.slice (some ⟨db, off, none⟩) N ca) vs ∧ Sls u vs ls) (hN0 : ls.length = N) (hN1 : N ≤ 1000000) (hN2 : 1 ≤ N)
    (x1 : 1 ≤ nx) (x2 : nx + (N : Int) ≤ 9223372036854775807) (hrr : rrF nx ls = 0) (d1 : 0 ≤ du) (d2 : du ≤ 9223372036854775807) (hn : K.si.length < 900) (z0 : 0 ≤ K.s.size) (z1 : K.s.size ≤ 2147483647)
    {n : Nat} (hcl : K.cs.length = n + 1) (hn1 : n < 100) (g1 : 1 ≤ K.g) (g2 : K.g ≤ 9223372036854775807) (n1 : 1 ≤ (sg K.cs n).nm) (n2 : (sg K.cs n).nm ≤ 9223372036854775807)
    (rs : List (Nat × Nat)) (hrs : shR m K.s.size (K.s.next == K.s.base) ls = rs) (hrl : (rs.length : Int) - 1 ≤ rollsV (n + 1) K.g (sg K.cs n).nm)
    (I : Nat → Kst → Prop)
    (hI0 : ((runAt rs 0).1 = (runAt rs 0).2 ∧ I 1 K) ∨ ∃ seed, PutPre b K seed (cutL ls rs 0) ∧ I 1 (K.put seed (cutL ls rs 0)))
    (hI : ∀ i K', 1 ≤ i → i < rs.length → I i K' → ∃ seed nm R M D F c, RollPre K' seed nm R M D F c ∧ ∀ p1 p2, p1 ∉ (K'.S.sync K'.s.file).1.ps → p2 ∉ (creF (K'.S.sync K'.s.file).1 (nmF nm) nm K'.s.next seed p1).1.ps → ∃ seed', PutPre b (K'.roll b seed nm R p1 p2) seed' (cutL ls rs i) ∧ I (i + 1) ((K'.roll b seed nm R p1 p2).put seed' (cutL ls rs i)))
    (hIb : ∀ K', I rs.length K' → 0 ≤ K'.s.base ∧ K'.s.base ≤ 9223372036854775807 ∧ K'.si.length < 1000) :
    Calls Tryz.prog 10 #[.pointer (some ⟨stb, 0, none⟩), .slice (some ⟨db, off, none⟩) N ca] w fun e w' => e = .returned (.tuple #[.int .i64 nx, .int .i64 0]) ∧ Hid (∃ K' A', I rs.length K' ∧ KA w' stb b m (nx + (N : Int)) (max du K'.s.base) K' A' ∧ Sgo w w' A A') := by
 have hmf : ∀ (fn : Fn) (first cap : Array Value) (w : World), (Instr.makeFunc fn first cap).run Tryz.prog w = .ok (.func fn first cap) w := fun _ _ _ _ => rfl
 have hrin := shR_in (m := m) (e0 := (K.s.next == K.s.base)) (ls := ls) z0 z1
 have hrle : rs.length ≤ 1000001 := by
  rw [← hrs]
  unfold shR
  have := (shS_bd (m := m) (e0 := (K.s.next == K.s.base)) (ls := ls) z0 z1 ls.length).2.2.2.1
  simp; omega
 have hr1 : 1 ≤ rs.length := by rw [← hrs]; unfold shR; simp
 rw [hrs, hN0] at hrin
 obtain ⟨g0, hg0⟩ : ∃ g0, Hid (w.heap.size = g0) := ⟨_, rfl⟩
 have B0 := box_below w (.cells #[.pointer (some ⟨stb, 0, none⟩)] 28)
 have N0 := heap_alloc_new w (.cells #[.pointer (some ⟨stb, 0, none⟩)] 28)
 obtain ⟨w0, hw0⟩ : ∃ w0, Hid (w.alloc (.cells #[.pointer (some ⟨stb, 0, none⟩)] 28) = w0) := ⟨_, rfl⟩
 have hz0 : w0.heap.size = g0 + 1 := by rw [← hw0.out, ← hg0.out]; simp
 rw [hw0.out] at B0 N0
 rw [hg0.out] at N0
 have B1 := box_below w0 (.cells #[.int .i64 0] 2)
 have N1 := heap_alloc_new w0 (.cells #[.int .i64 0] 2)
 obtain ⟨w1, hw1⟩ : ∃ w1, Hid (w0.alloc (.cells #[.int .i64 0] 2) = w1) := ⟨_, rfl⟩
 have hz1 : w1.heap.size = g0 + 2 := by rw [← hw1.out]; simp [hz0]
 rw [hw1.out] at B1 N1
 rw [hz0] at N1
 have B2 := box_below w1 (.cells #[.int .i64 0] 31)
 have N2 := heap_alloc_new w1 (.cells #[.int .i64 0] 31)
 obtain ⟨w2, hw2⟩ : ∃ w2, Hid (w1.alloc (.cells #[.int .i64 0] 31) = w2) := ⟨_, rfl⟩
 have hz2 : w2.heap.size = g0 + 3 := by rw [← hw2.out]; simp [hz1]
 rw [hw2.out] at B2 N2
 rw [hz1] at N2
 have P2 := (keepF B1 B2).block _ (heap_lt N0) |>.trans N0
 have Q2 := B2.block _ (heap_lt N1) |>.trans N1
 have B02 := keepF B0 (keepF B1 B2)
 have y0 : w2.cell? ⟨g0, 0, none⟩ = some (.pointer (some ⟨stb, 0, none⟩)) := by rw [cell_of P2]; rfl
 have h2 := h.below B02
 have hlt := h.lt
 rw [hg0.out] at hlt
 have hDr := hD w2 A (Sgo.of_below B02)
 have hRr := h2.refuse x1 (by omega) _ vs ls hDr.1 hDr.2
 rw [hrr] at hRr
 have hSh := h2.share (by omega) z0 z1 db off N ca vs ls hDr.1 hDr.2 hN0 hN1 hN2
 rw [hrs] at hSh
 replace hRr := hide hRr
 replace hSh := hide hSh
 have CX : Hid (w2.heap[g0]? = some (.cells #[.pointer (some ⟨stb, 0, none⟩)] 28 (0, 0)) ∧ w2.heap[g0 + 1]? = some (.cells #[.int .i64 0] 2 (0, 0)) ∧ w2.heap[g0 + 2]? = some (.cells #[.int .i64 0] 31 (0, 0)) ∧ Below w.heap.size w w2 ∧ KA w2 stb b m nx du K A) := hide ⟨P2, Q2, N2, B02, h2⟩
 have HI := hide (And.intro hI0 (And.intro hI hIb))
 have HD := hide hD
 have HT := hide (And.intro hT hA)
 have HH := hide (And.intro hlt (And.intro hrin (And.intro hrl (And.intro hcl (And.intro hn (And.intro g1 (And.intro g2 (And.intro n1 n2))))))))
 clear B0 B1 B2 N0 N1 N2 P2 Q2 B02 h2 hDr hI0 hI hIb hD hT hA h hlt hrin hrl g1 g2 n1 n2 hrr hrs z0 z1 hn
 replace hz0 := hide hz0; replace hz1 := hide hz1; replace hz2 := hide hz2
 go_enter_defers Tryz.func10, Tryz.ntmps10
 go_upto_region 1 with fail
 rw [hw0.out, hw1.out, hw2.out, hg0.out, show g0 + 1 + 1 = g0 + 2 from rfl]
 go_upto_region 5 with (first
  | (go_at_call 26; refine hRr.out.mono ?_; rintro e wm ⟨rfl, hwm⟩; rw [hwm]; clear hwm wm)
  | (go_at_call 27; refine hSh.out.mono ?_; rintro e w3 ⟨v3, rfl, RL3, B3⟩)
  | fail)
 obtain ⟨CP, CQ, CE, CB, CK⟩ := CX.out
 obtain ⟨hlt, hrin, hrl, hcl, hn, g1, g2, n1, n2⟩ := HH.out
 obtain ⟨kk, hkk⟩ : ∃ k, Hid (rs.length = k + 1) := ⟨rs.length - 1, by show _ = _; omega⟩
 have hus : (rs.map (cutV db off ca)).length = kk + 1 := by rw [List.length_map]; exact hkk.out
 have K3 := CK.below B3
 have P3 := (B3.block _ (heap_lt CP)).trans CP
 have Q3 := (B3.block _ (heap_lt CQ)).trans CQ
 have E3 := (B3.block _ (heap_lt CE)).trans CE
 have B03 := keepF CB B3
 obtain ⟨rb, rcap, hv3, hrb1, hrb2, hrc⟩ : ∃ rb rcap, v3 = .slice (some ⟨rb, 0, none⟩) (kk + 1) rcap ∧ w2.heap.size ≤ rb ∧ rb < w3.heap.size ∧ ∀ i, i < kk + 1 → w3.cell? ⟨rb, i, none⟩ = some (cutV db off ca (runAt rs i)) := by
  have r0 := RL3
  unfold RL at r0
  rw [hus] at r0
  have r1 := r0
  rcases r0.2 with ⟨e1, e2⟩ | ⟨g, cap, cur, e, hb', hg, r⟩
  ·omega
  ·refine ⟨g, cap, e, hb', heap_lt hg, fun i hi => ?_⟩
   rw [e] at r1
   rw [World.ownsRow.cellAt r1 i (by omega), List.getElem?_map]
   have hi2 : i < rs.length := by rw [hkk.out]; exact hi
   rw [List.getElem?_eq_getElem hi2]
   unfold runAt
   simp [List.getD, hi2]
 subst hv3
 have hkc : kk + 1 ≤ rcap := by
  have r0 := RL3
  unfold RL at r0
  rw [hus] at r0
  rcases r0.2 with ⟨e1, e2⟩ | ⟨g, cap, cur, e, hb', hg, a, r⟩
  ·omega
  ·simp only [Value.slice.injEq, Option.some.injEq, Addr.mk.injEq, and_true, true_and] at e
   obtain ⟨_, rfl⟩ := e
   exact a
 have hkB : kk < 2000000 := by have := hkk.out; omega
 have hRo := hide (K3.rolls hcl hn1 g1 g2 n1 n2)
 obtain ⟨RV, hRV⟩ : ∃ r, Hid (rollsV (n + 1) K.g (sg K.cs n).nm = r) := ⟨_, rfl⟩
 rw [hRV.out] at hRo hrl
 have hno : ¬ (RV < (kk : Int)) := by have := hkk.out; omega
 have y1 : w3.cell? ⟨g0, 0, none⟩ = some (.pointer (some ⟨stb, 0, none⟩)) := by rw [cell_of P3]; rfl
 clear CP CQ CE CB CK hlt hrin hrl hcl hn g1 g2 n1 n2 y0 hus hRr hSh
 replace RL3 := hide RL3
 go_upto_region 8 with (first
  | (go_at_call 28; refine hRo.out.mono ?_; rintro e w4 ⟨rfl, Q4⟩)
  | fail)
 have K4 := K3.below (Qt.below Q4 _)
 have P4 := ((Qt.below Q4 _).block _ (heap_lt P3)).trans P3
 have Q4' := ((Qt.below Q4 _).block _ (heap_lt Q3)).trans Q3
 have E4 := ((Qt.below Q4 _).block _ (heap_lt E3)).trans E3
 have B04 := keepF B03 (Qt.below Q4 _)
 have hrc4 : ∀ i, i < kk + 1 → w4.cell? ⟨rb, i, none⟩ = some (cutV db off ca (runAt rs i)) := fun i hi => ((Qt.below Q4 w3.heap.size).cell (lt_of_cell (hrc i hi))).trans (hrc i hi)
 have hrb3 : rb < w4.heap.size := Nat.lt_of_lt_of_le hrb2 (Qt.below Q4 w3.heap.size).size
 clear K3 P3 Q3 E3 B03 hrc Q4 hRo y1
 have hcut0 := hrc4 0 (by omega)
 have hrunS : ∀ i, i < rs.length → (runAt rs i).1 ≤ (runAt rs i).2 ∧ (runAt rs i).2 ≤ N := fun i hi => HH.out.2.1 _ (by unfold runAt; simp [List.getD, hi])
 have hPut0 : Hid (∀ u, Below w4.heap.size w4 u → Calls Tryz.prog 31 #[.pointer (some ⟨stb, 0, none⟩), cutV db off ca (runAt rs 0)] u fun e w' => e = .returned (.tuple #[]) ∧ Hid (∃ K' A', I 1 K' ∧ KA w' stb b m nx du K' A' ∧ Sgo w4 w' A A')) := hide fun u hu => by
  have hK := K4.below hu
  have hG : Sgo w4 u A A := Sgo.of_below hu
  have hGw : Sgo w u A A := Sgo.of_below (keepF B04 hu)
  rcases HI.out.1 with ⟨he, hI1⟩ | ⟨seed, PP, hI1⟩
  ·have e1 : cutV db off ca (runAt rs 0) = .slice (some ⟨db, off + (runAt rs 0).1, none⟩) 0 (ca - (runAt rs 0).1) := by unfold cutV; rw [he, Nat.sub_self]
   rw [e1]
   refine (sput_none _ _).mono ?_
   rintro e w' ⟨rfl, rfl⟩
   exact ⟨rfl, K, A, hI1, hK, hG⟩
  ·have hr := hrunS 0 (by omega)
   have hDu := HD.out u A hGw
   refine (kput hK PP _ _ (row_cut hDu.1 hr.1 hr.2) (sls_cut hDu.2 _ _)).mono ?_
   rintro e w' ⟨rfl, A', h1, h2⟩
   exact ⟨rfl, _, A', hI1, h1, hG.trans h2⟩
 have KBX : Hid (∀ w' A', Sgo w4 w' A A' → w'.heap[g0]? = some (.cells #[.pointer (some ⟨stb, 0, none⟩)] 28 (0, 0)) ∧ w'.heap[g0 + 1]? = some (.cells #[.int .i64 0] 2 (0, 0)) ∧ w'.heap[g0 + 2]? = some (.cells #[.int .i64 0] 31 (0, 0)) ∧ ∀ i, i < kk + 1 → w'.cell? ⟨rb, i, none⟩ = some (cutV db off ca (runAt rs i))) := hide fun w' A' hS => by
  have hl := HH.out.1
  have hn0 : ∀ k, g0 ≤ k → ¬ A k := fun k hk c => by have := hl k c; omega
  have hrb0 : g0 ≤ rb := by have := hz2.out; omega
  refine ⟨(hS.but.block _ (heap_lt P4) (hn0 _ (Nat.le_refl _))).trans P4, (hS.but.block _ (heap_lt Q4') (hn0 _ (by omega))).trans Q4', (hS.but.block _ (heap_lt E4) (hn0 _ (by omega))).trans E4, fun i hi => ?_⟩
  have e := hS.but.block rb hrb3 (hn0 _ hrb0)
  have hh := hrc4 i hi
  unfold World.cell? at hh ⊢
  rw [e]
  exact hh
 have HB4 := hide B04
 refine wp_region_noPanic ?_
 refine wp_region_T (fun q => q.cell? ⟨g0, 0, none⟩ = some (.pointer (some ⟨stb, 0, none⟩)) ∧ q.cell? ⟨rb, 0, none⟩ = some (cutV db off ca (runAt rs 0))) 4 (by kernel_rfl) ?_
 have KB : Hid (Below w4.heap.size w4 w4.drew) := hide (Below.refl _ _).drew
 have KP : Hid (w4.drew.cell? ⟨g0, 0, none⟩ = some (.pointer (some ⟨stb, 0, none⟩)) ∧ w4.drew.cell? ⟨rb, 0, none⟩ = some (cutV db off ca (runAt rs 0))) := hide ⟨by rw [KB.out.cell (heap_lt P4), cell_of P4]; rfl, by rw [KB.out.cell hrb3]; exact hcut0⟩
 clear K4 P4 Q4' E4 B04 hrc4 hcut0
 generalize w4.drew = wq at *
 refine Ix.tk 0 ⟨some 27, .load 28 (.tmp 2), _, _, _, _⟩ (.pointer (some ⟨stb, 0, none⟩)) [4] ?_ KP.out ?_
 ·intro wq hSw
  obtain ⟨y0, y1⟩ := hSw
  go_simp
 (try simp only [zzp, zzb, zzc])
 refine Ix.tk 1 ⟨some 28, .move (.tmp 7), _, _, _, _⟩ (.slice (some ⟨rb, 0, none⟩) (kk + 1) rcap) [2,3,4] ?_ KP.out ?_
 ·intro wq hSw; go_simp
 (try simp only [zzp, zzb, zzc])
 refine Ix.tk 2 ⟨some 29, .indexAddr 24 (.tmp 28) (.const (Value.int IntKind.i64 0)), _, _, _, _⟩ (.pointer (some ⟨rb, 0, none⟩)) [3,4] ?_ KP.out ?_
 ·intro wq hSw
  obtain ⟨y0, y1⟩ := hSw
  go_simp
 (try simp only [zzp, zzb, zzc])
 refine Ix.tk 3 ⟨some 30, .load 35 (.tmp 29), _, _, _, _⟩ (cutV db off ca (runAt rs 0)) [4] ?_ KP.out ?_
 ·intro wq hSw
  obtain ⟨y0, y1⟩ := hSw
  go_simp
 (try simp only [zzp, zzb, zzc])
 refine wpAnyT_one (i := 4) (o := ⟨some 31, .call { callee := .value (.func 31), args := #[.tmp 27, .tmp 30], argTypes := #[28, 35] }, _, _, _, _⟩) (by kernel_rfl) rfl (fun K hK => ?_)
 go_simp
 go_at_call 31
 refine (hPut0.out _ KB.out).mono ?_
 rintro e w5 ⟨rfl, ST5⟩
 (try go_simp)
 refine hK.out _ _ (vac (by kernel_rfl)) ?_
 clear hK K
 (try simp only [zzp, zzb, zzc])
 refine wpAnyT_done (by kernel_rfl) ?_ _
 refine NoPanic.normal ?_
 clear KP KB hPut0
 have STEP : Hid (∀ i wr, i < kk → Hid (∃ K' A', I (i + 1) K' ∧ KA wr stb b m nx du K' A' ∧ Sgo w4 wr A A') → Calls Tryz.prog 32 #[.pointer (some ⟨stb, 0, none⟩)] wr fun e w' => e = .returned (.tuple #[]) ∧ (∃ A1, Sgo w4 w' A A1) ∧ Calls Tryz.prog 31 #[.pointer (some ⟨stb, 0, none⟩), cutV db off ca (runAt rs (i + 1))] w' fun e w'' => e = .returned (.tuple #[]) ∧ Hid (∃ K' A', I (i + 2) K' ∧ KA w'' stb b m nx du K' A' ∧ Sgo w4 w'' A A')) := hide fun i wr hi hST => by
  obtain ⟨K', A', h1, h2, h3⟩ := hST.out
  obtain ⟨seed, nm, R, M, D, F, c, RP, nxt⟩ := HI.out.2.1 (i + 1) K' (by omega) (by have := hkk.out; omega) h1
  have hGw := (Sgo.of_below HB4.out : Sgo w w4 A A)
  have h4 := hGw.trans h3
  have hT' := tab_but HT.out.1 h4.but HT.out.2
  have hA' : ¬ A' 3 := fun c => by
   rcases h4.own _ c with d | d
   ·exact HT.out.2 d
   ·have : (3 : Nat) < w.heap.size := lt_of_cell HT.out.1
    omega
  refine (kroll h2 RP hT' hA').mono ?_
  rintro e w' ⟨rfl, p1, p2, A2, hp1, hp2, k1, k2⟩
  obtain ⟨seed', PP, hI2⟩ := nxt p1 p2 hp1 hp2
  have hr := hrunS (i + 1) (by have := hkk.out; omega)
  have hDu := HD.out w' A2 (h4.trans k2)
  refine ⟨rfl, ⟨A2, h3.trans k2⟩, (kput k1 PP _ _ (row_cut hDu.1 hr.1 hr.2) (sls_cut hDu.2 _ _)).mono ?_⟩
  rintro e w'' ⟨rfl, A3, h5, h6⟩
  exact ⟨rfl, _, A3, hI2, h5, (h3.trans k2).trans h6⟩
 have hG5 : Hid (∃ A1, Sgo w4 w5 A A1) := hide (by obtain ⟨K', A', h1, h2, h3⟩ := ST5.out; exact ⟨A', h3⟩)
 have hkc' : rcap = 1 ∨ 1 < rcap := by omega
 go_upto_region 9 with fail
 go_cut [33, 34, 35] from 32 to 35 (fun y33 y34 y35 wx => ∃ (ao : Option Addr) (c' : Nat), y33 = .slice ao kk c' ∧ (1 ≤ kk → ao = some ⟨rb, 1, none⟩) ∧ y34 = .int .i64 (kk : Int) ∧ y35 = .int .i64 0 ∧ Hid (wx = w5))
 case first =>
  rcases hkc' with hc | hc
  ·have hk0 : kk = 0 := by omega
   subst hc
   subst hk0
   go_wp2_with fail
   go_meet
   case rel => exact ⟨_, _, rfl, fun c => absurd c (by omega), rfl, rfl, rfl⟩
  ·have f2 : ¬ rcap = 1 := by omega
   go_wp2_with fail
   go_meet
   case rel => exact ⟨_, _, rfl, fun _ => rfl, rfl, rfl, rfl⟩
 case rest =>
  obtain ⟨ao, c', rfl, hao, rfl, rfl, hwx⟩ := hcut
  have hwx := hwx.out
  subst hwx
  go_wp2_with fail
  go_loopw [35] (fun v35 wr => ∃ i : Nat, i ≤ kk ∧ v35 = .int .i64 (i : Int) ∧ Hid (∃ K' A', I (i + 1) K' ∧ KA wr stb b m nx du K' A' ∧ Sgo w4 wr A A')) (fun v35 _ => kk - (intOf v35).toNat)
  case atStart => exact ⟨0, by omega, rfl, ST5⟩
  case round =>
   obtain ⟨i, hi, rfl, hST⟩ := hrel
   have hCells : Hid (wr.heap[g0]? = some (.cells #[.pointer (some ⟨stb, 0, none⟩)] 28 (0, 0)) ∧ wr.heap[g0 + 1]? = some (.cells #[.int .i64 0] 2 (0, 0)) ∧ wr.heap[g0 + 2]? = some (.cells #[.int .i64 0] 31 (0, 0)) ∧ ∀ i, i < kk + 1 → wr.cell? ⟨rb, i, none⟩ = some (cutV db off ca (runAt rs i))) := hide (by
    obtain ⟨K', A', _, _, h3⟩ := hST.out
    exact KBX.out wr A' h3)
   have y1 : wr.cell? ⟨g0, 0, none⟩ = some (.pointer (some ⟨stb, 0, none⟩)) := by rw [cell_of hCells.out.1]; rfl
   by_cases hin : i = kk
   ·subst hin
    obtain ⟨K', A', hI', hKA, hS4⟩ := hST.out
    have hFin : Hid (I rs.length K') := by rw [hkk.out]; exact hide hI'
    obtain ⟨bb1, bb2, bb3⟩ := HI.out.2.2 K' hFin.out
    obtain ⟨_, _, _, c6, c7, _, _, cf⟩ := hKA.cells
    have f6 := cf 6
    have wn : wrap64 (nx + (N : Int)) = nx + (N : Int) := by unfold wrap64; omega
    obtain ⟨v1, v2, v3, v4⟩ := hCells.out
    have KA6 := hKA.set6 (nx + (N : Int))
    have X6 : But (fun k => k = stb) wr (wr.setCell ⟨stb, 6, none⟩ (.int .i64 (nx + (N : Int)))) := But.of_grownBy (grown_setCell wr stb 6 _) fun k e => by cases e; rfl
    have hl := HH.out.1
    have hA0 : A stb ∨ w4.heap.size ≤ stb := hS4.own stb hKA.stb
    have ns : ∀ k, g0 ≤ k → k < w4.heap.size → k ≠ stb := fun k h1 h2 c => by
     rcases hA0 with d | d
     ·have := hl _ d; omega
     ·omega
    have hz4 : g0 + 3 ≤ w4.heap.size := by
     have h1 := HB4.out.size
     have h2 := hz2.out
     omega
    have e1 := (X6.block _ (heap_lt v1) (ns _ (Nat.le_refl _) (by omega))).trans v1
    have e2 := (X6.block _ (heap_lt v2) (ns _ (by omega) (by omega))).trans v2
    have e3 := (X6.block _ (heap_lt v3) (ns _ (by omega) (by omega))).trans v3
    have hstK := KA6.stb
    have hltK := KA6.lt
    have ST6 : Hid (Sgo w4 (wr.setCell ⟨stb, 6, none⟩ (.int .i64 (nx + (N : Int)))) A A') := hide ⟨but_cut hS4.but X6 fun k hk c => by
     subst c
     rcases hA0 with d | d
     ·exact d
     ·omega, hS4.own⟩
    clear v1 v2 v3 v4 hKA X6 hS4 hCells hST cf
    obtain ⟨w6, hw6⟩ : ∃ w6, Hid (wr.setCell ⟨stb, 6, none⟩ (.int .i64 (nx + (N : Int))) = w6) := ⟨_, rfl⟩
    rw [hw6.out] at KA6 e1 e2 e3 hltK ST6
    go_upto_region 17 with fail
    rw [hw6.out]
    obtain ⟨sb, hOp, hLk⟩ := (KA6.below (Below.refl _ _).drew).opn bb3
    unfold SG.look at hLk
    replace hOp := hide hOp
    replace hLk := hide hLk
    obtain ⟨_, _, _, _, t7, _, _, _⟩ := KA6.cells
    have KB : Hid (Below w6.heap.size w6 w6.drew) := hide (Below.refl _ _).drew
    have KS : Hid (∀ u, Below w6.heap.size w6 u → u.cell? ⟨g0, 0, none⟩ = some (.pointer (some ⟨stb, 0, none⟩)) ∧ u.cell? ⟨stb, 7, none⟩ = some (.int .i64 du)) := hide fun u hu => ⟨by rw [hu.cell (heap_lt e1), cell_of e1]; rfl, by rw [hu.cell (lt_of_cell t7)]; exact t7⟩
    have KP := hide (KS.out _ KB.out)
    have KAH := hide KA6
    have EH := hide (And.intro e1 (And.intro e2 e3))
    clear KA6 e1 e2 e3 t7 c6 c7 f6 wn
    refine wp_region_noPanic ?_
    refine wp_region_T (fun q => q.cell? ⟨g0, 0, none⟩ = some (.pointer (some ⟨stb, 0, none⟩)) ∧ q.cell? ⟨stb, 7, none⟩ = some (.int .i64 du)) 13 (by kernel_rfl) ?_
    have hwq : Hid (Below w6.heap.size w6 w6.drew) := KB
    generalize w6.drew = wq at *
    refine Ix.tk 0 ⟨some 58, .load 28 (.tmp 2), _, _, _, _⟩ (.pointer (some ⟨stb, 0, none⟩)) [11,12,13] ?_ KP.out ?_
    ·intro wq hSw
     obtain ⟨y0, y1⟩ := hSw
     go_simp
    (try simp only [zzp, zzb, zzc])
    refine Ix.tk 1 ⟨some 59, .load 28 (.tmp 2), _, _, _, _⟩ (.pointer (some ⟨stb, 0, none⟩)) [2,3,4,10,13] ?_ KP.out ?_
    ·intro wq hSw
     obtain ⟨y0, y1⟩ := hSw
     go_simp
    (try simp only [zzp, zzb, zzc])
    refine Ix.tk 2 ⟨some 60, .nilCheck (.tmp 59), _, _, _, _⟩ (.pointer (some ⟨stb, 0, none⟩)) [3,4,10,13] ?_ KP.out ?_
    ·intro wq hSw; go_simp
    (try simp only [zzp, zzb, zzc])
    refine Ix.tk 3 ⟨some 61, .fieldAddr 69 (.tmp 60) 5, _, _, _, _⟩ (.pointer (some ⟨stb, 7, none⟩)) [4,10,13] ?_ KP.out ?_
    ·intro wq hSw; go_simp
    (try simp only [zzp, zzb, zzc])
    refine Ix.tk 4 ⟨some 62, .load 2 (.tmp 61), _, _, _, _⟩ (.int .i64 du) [10,13] ?_ KP.out ?_
    ·intro wq hSw
     obtain ⟨y0, y1⟩ := hSw
     go_simp
    (try simp only [zzp, zzb, zzc])
    refine Ix.tk 5 ⟨some 63, .load 28 (.tmp 2), _, _, _, _⟩ (.pointer (some ⟨stb, 0, none⟩)) [6,7,8,9,10,13] ?_ KP.out ?_
    ·intro wq hSw
     obtain ⟨y0, y1⟩ := hSw
     go_simp
    (try simp only [zzp, zzb, zzc])
    refine wpAnyT_one (i := 6) (o := ⟨some 64, .call { callee := .value (.func 23), args := #[.tmp 63], argTypes := #[28] }, _, _, _, _⟩) (by kernel_rfl) rfl (fun K hK => ?_)
    go_simp
    go_at_call 23
    refine hOp.out.mono ?_
    rintro e w8 ⟨rfl, Q8⟩
    have B8 := hide (keepF hwq.out (Qt.below Q8 _))
    have K8 := hide (KS.out _ B8.out)
    (try go_simp)
    refine hK.out _ _ (fun _ => K8.out) ?_
    clear hK K
    (try simp only [zzp, zzb, zzc])
    refine wpAnyT_one (i := 7) (o := ⟨some 65, .call { callee := .value (.func 24), args := #[.tmp 64], argTypes := #[80] }, _, _, _, _⟩) (by kernel_rfl) rfl (fun K hK => ?_)
    go_simp
    go_at_call 24
    refine (hLk.out _ Q8).mono ?_
    rintro e w9 ⟨rfl, B9'⟩
    have B9 := hide (keepF B8.out B9')
    have K9 := hide (KS.out _ B9.out)
    (try go_simp)
    refine hK.out _ _ (fun _ => K9.out) ?_
    clear hK K
    (try simp only [zzp, zzb, zzc])
    refine wpAnyT_one (i := 8) (o := ⟨some 66, .field 79 (.tmp 65) 1, _, _, _, _⟩) (by kernel_rfl) rfl (fun K hK => ?_)
    go_simp
    refine hK.out _ _ (fun _ => K9.out) ?_
    clear hK K
    (try simp only [zzp, zzb, zzc])
    refine wpAnyT_one (i := 9) (o := ⟨some 67, .field 77 (.tmp 66) 1, _, _, _, _⟩) (by kernel_rfl) rfl (fun K hK => ?_)
    go_simp
    refine hK.out _ _ (fun _ => K9.out) ?_
    clear hK K
    (try simp only [zzp, zzb, zzc])
    refine wpAnyT_one (i := 10) (o := ⟨some 68, .call { callee := .builtin .max, args := #[.tmp 62, .tmp 67], argTypes := #[2, 2] }, _, _, _, _⟩) (by kernel_rfl) rfl (fun K hK => ?_)
    go_simp
    refine hK.out _ _ (fun _ => K9.out) ?_
    clear hK K
    (try simp only [zzp, zzb, zzc])
    refine wpAnyT_one (i := 11) (o := ⟨some 69, .nilCheck (.tmp 58), _, _, _, _⟩) (by kernel_rfl) rfl (fun K hK => ?_)
    go_simp
    refine hK.out _ _ (fun _ => K9.out) ?_
    clear hK K
    (try simp only [zzp, zzb, zzc])
    refine wpAnyT_one (i := 12) (o := ⟨some 70, .fieldAddr 69 (.tmp 69) 5, _, _, _, _⟩) (by kernel_rfl) rfl (fun K hK => ?_)
    go_simp
    refine hK.out _ _ (fun _ => K9.out) ?_
    clear hK K
    (try simp only [zzp, zzb, zzc])
    have KA9 := KAH.out.below B9.out
    have f7 := KA9.cells.2.2.2.2.2.2.2 7
    have c7 := K9.out.2
    refine wpAnyT_one (i := 13) (o := ⟨none, .store 2 (.tmp 70) (.tmp 68), _, _, _, _⟩) (by kernel_rfl) rfl (fun K hK => ?_)
    go_simp
    refine hK.out _ _ (vac (by kernel_rfl)) ?_
    clear hK K
    (try simp only [zzq])
    refine wpAnyT_done (by kernel_rfl) ?_ _
    refine NoPanic.normal ?_
    clear f7 c7
    obtain ⟨e1, e2, e3⟩ := EH.out
    have KA10 := KA9.set7 (max du K'.s.base)
    have X10 : But (fun k => k = stb) w9 (w9.setCell ⟨stb, 7, none⟩ (.int .i64 (max du K'.s.base))) := But.of_grownBy (grown_setCell w9 stb 7 _) fun k e => by cases e; rfl
    have t1 := (B9.out.block _ (heap_lt e1)).trans e1
    have t2 := (B9.out.block _ (heap_lt e2)).trans e2
    have t3 := (B9.out.block _ (heap_lt e3)).trans e3
    have s1 := (X10.block _ (heap_lt t1) (ns _ (Nat.le_refl _) (by omega))).trans t1
    have s2 := (X10.block _ (heap_lt t2) (ns _ (by omega) (by omega))).trans t2
    have s3 := (X10.block _ (heap_lt t3) (ns _ (by omega) (by omega))).trans t3
    have hAn : ∀ k, A' k → k < g0 ∨ g0 + 3 ≤ k := fun k hk => by
     rcases ST6.out.own k hk with d | d
     ·exact .inl (hl k d)
     ·exact .inr (by omega)
    have hAst : A' stb := hstK
    have ST10 : Hid (Sgo w4 (w9.setCell ⟨stb, 7, none⟩ (.int .i64 (max du K'.s.base))) A A') := hide ⟨but_cut (but_cut ST6.out.but (But.of_below B9.out fun _ => False) fun k _ c => c.elim) X10 fun k hk c => by
     subst c
     rcases ST6.out.own _ hAst with d | d
     ·exact d
     ·omega, ST6.out.own⟩
    clear KA9 t1 t2 t3 e1 e2 e3 EH KAH X10 ST6 B9 B8 Q8 KS K8 K9 KB KP hwq
    generalize w9.setCell ⟨stb, 7, none⟩ (.int .i64 (max du K'.s.base)) = wA at *
    have z2 : ∀ j, wA.frozen? ⟨g0 + 1, j, none⟩ = false := fun j => by simp [World.frozen?, s2]
    have z3 : ∀ j, wA.frozen? ⟨g0 + 2, j, none⟩ = false := fun j => by simp [World.frozen?, s3]
    have c2 : wA.cell? ⟨g0 + 1, 0, none⟩ = some (.int .i64 0) := by rw [cell_of s2]; rfl
    have c3 : wA.cell? ⟨g0 + 2, 0, none⟩ = some (.int .i64 0) := by rw [cell_of s3]; rfl
    have XB : But (fun k => k = g0 + 1) wA (wA.setCell ⟨g0 + 1, 0, none⟩ (.int .i64 nx)) := But.of_grownBy (grown_setCell wA (g0 + 1) 0 _) fun k e => by cases e; rfl
    have s2' : (wA.setCell ⟨g0 + 1, 0, none⟩ (.int .i64 nx)).heap[g0 + 1]? = some (.cells #[.int .i64 nx] 2 (0, 0)) := by rw [heap_setCell_same _ (g0 + 1) 0 _ _ _ s2]; rfl
    have s3' := (XB.block _ (heap_lt s3) (by omega)).trans s3
    obtain ⟨wB, hwB⟩ : ∃ u, Hid (wA.setCell ⟨g0 + 1, 0, none⟩ (.int .i64 nx) = u) := ⟨_, rfl⟩
    rw [hwB.out] at XB s2' s3'
    have z3' : wB.frozen? ⟨g0 + 2, 0, none⟩ = false := by simp [World.frozen?, s3']
    have XC : But (fun k => k = g0 + 2) wB (wB.setCell ⟨g0 + 2, 0, none⟩ (.int .i64 0)) := But.of_grownBy (grown_setCell wB (g0 + 2) 0 _) fun k e => by cases e; rfl
    have s3'' : (wB.setCell ⟨g0 + 2, 0, none⟩ (.int .i64 0)).heap[g0 + 2]? = some (.cells #[.int .i64 0] 31 (0, 0)) := by rw [heap_setCell_same _ (g0 + 2) 0 _ _ _ s3']; rfl
    have s2'' := (XC.block _ (heap_lt s2') (by omega)).trans s2'
    obtain ⟨wC, hwC⟩ : ∃ u, Hid (wB.setCell ⟨g0 + 2, 0, none⟩ (.int .i64 0) = u) := ⟨_, rfl⟩
    rw [hwC.out] at XC s2'' s3''
    have k2 : wC.cell? ⟨g0 + 1, 0, none⟩ = some (.int .i64 nx) := by rw [cell_of s2'']; rfl
    have k3 : wC.cell? ⟨g0 + 2, 0, none⟩ = some (.int .i64 0) := by rw [cell_of s3'']; rfl
    have XBC : But (fun k => k = g0 + 1 ∨ k = g0 + 2) wA wC := (XB.mono fun k _ c => .inl c).trans (XC.mono fun k _ c => .inr c)
    have KAC := KA10.but XBC fun k hk c => by have := hAn k hk; omega
    have FINAL : Hid (∃ K' A', I rs.length K' ∧ KA wC stb b m (nx + (N : Int)) (max du K'.s.base) K' A' ∧ Sgo w wC A A') := hide ⟨K', A', hFin.out, KAC, ⟨but_cut (but_cut (But.of_below HB4.out _) ST10.out.but fun k _ c => c) XBC fun k hk c => by have := hg0.out; omega, fun k hk => by
     rcases ST10.out.own k hk with d | d
     ·exact .inl d
     ·exact .inr (Nat.le_trans HB4.out.size d)⟩⟩
    clear s1 s2 s3 s2' s3' s2'' s3'' XB XC XBC KAC KA10 ST10 hAn
    have c3' : wB.cell? ⟨g0 + 2, 0, none⟩ = some (.int .i64 0) := by rw [← hwB.out, World.cell?_setCell_far _ _ _ _ (by simp)]; exact c3
    have z3l : (wA.setCell ⟨g0 + 1, 0, none⟩ (.int .i64 nx)).frozen? ⟨g0 + 2, 0, none⟩ = false := by rw [hwB.out]; exact z3'
    have c3l : (wA.setCell ⟨g0 + 1, 0, none⟩ (.int .i64 nx)).cell? ⟨g0 + 2, 0, none⟩ = some (.int .i64 0) := by rw [hwB.out]; exact c3'
    go_wp2_with fail
    rw [hwB.out, hwC.out]
    refine leaves_cons (f := 29) (args := #[.pointer (some ⟨g0, 0, none⟩), .pointer (some ⟨g0 + 1, 0, none⟩), .pointer (some ⟨g0 + 2, 0, none⟩)]) (by simp) (by simp [go_sem]) ?_
    refine (idle_append _ _ _ _).mono ?_
    rintro e u' wl ⟨rfl, rfl, rfl⟩
    simp [Leaves, settle, results, Tryz.results10, go_sem, k2, k3]
    obtain ⟨K1, A1, a1, a2, a3⟩ := FINAL.out
    exact hide ⟨K1, a1, A1, a2, a3⟩
   ·have hil : i < kk := by omega
    have i1 : (i : Int) < (kk : Int) := by omega
    have i0 : (0 : Int) ≤ (i : Int) := by omega
    have hS := hide (STEP.out i wr hil hST)
    obtain rfl := hao (by omega)
    have yr : wr.cell? ⟨rb, 1 + i, none⟩ = some (cutV db off ca (runAt rs (i + 1))) := by rw [Nat.add_comm 1 i]; exact hCells.out.2.2.2 (i + 1) (by omega)
    go_wp2_with (first
     | (go_at_call 32; refine hS.out.mono ?_; rintro e w6 ⟨rfl, hA6, hP6⟩; obtain ⟨A6, hA6'⟩ := hA6; have y6 : w6.cell? ⟨g0, 0, none⟩ = some (.pointer (some ⟨stb, 0, none⟩)) := by rw [cell_of (KBX.out w6 A6 hA6').1]; rfl)
     | (go_at_call 31; refine hP6.mono ?_; rintro e w7 ⟨rfl, ST7⟩)
     | fail)
    go_roundw
    case rel => exact ⟨i + 1, by omega, by go_num, ST7⟩
    case measure => simp [intOf]; omega
set_option maxRecDepth 100000
theorem sappend_no {w : World} {stb b : Nat} {m nx du : Int} {K : Kst} {A : Nat → Prop} (h : KA w stb b m nx du K A) (x1 : 1 ≤ nx) (x2 : nx ≤ 9223372036854775807) (vd : Value) (vs : List Value) (ls : List (List UInt8)) (hr : Row w vd vs) (hs : Sls w vs ls) (hrr : rrF nx ls ≠ 0) :
    Calls Tryz.prog 10 #[.pointer (some ⟨stb, 0, none⟩), vd] w fun e w' => e = .returned (.tuple #[.int .i64 0, .int .i64 (rrF nx ls)]) ∧ Below w.heap.size w w' := by
 obtain ⟨g0, hg0⟩ : ∃ g0, Hid (w.heap.size = g0) := ⟨_, rfl⟩
 have B0 := box_below w (.cells #[.pointer (some ⟨stb, 0, none⟩)] 28)
 have N0 := heap_alloc_new w (.cells #[.pointer (some ⟨stb, 0, none⟩)] 28)
 obtain ⟨w0, hw0⟩ : ∃ w0, Hid (w.alloc (.cells #[.pointer (some ⟨stb, 0, none⟩)] 28) = w0) := ⟨_, rfl⟩
 have hz0 : w0.heap.size = g0 + 1 := by rw [← hw0.out, ← hg0.out]; simp
 rw [hw0.out] at B0 N0
 rw [hg0.out] at N0
 have B1 := box_below w0 (.cells #[.int .i64 0] 2)
 have N1 := heap_alloc_new w0 (.cells #[.int .i64 0] 2)
 obtain ⟨w1, hw1⟩ : ∃ w1, Hid (w0.alloc (.cells #[.int .i64 0] 2) = w1) := ⟨_, rfl⟩
 have hz1 : w1.heap.size = g0 + 2 := by rw [← hw1.out]; simp [hz0]
 rw [hw1.out] at B1 N1
 rw [hz0] at N1
 have B2 := box_below w1 (.cells #[.int .i64 0] 31)
 have N2 := heap_alloc_new w1 (.cells #[.int .i64 0] 31)
 obtain ⟨w2, hw2⟩ : ∃ w2, Hid (w1.alloc (.cells #[.int .i64 0] 31) = w2) := ⟨_, rfl⟩
 rw [hw2.out] at B2 N2
 rw [hz1] at N2
 have P2 := (keepF B1 B2).block _ (heap_lt N0) |>.trans N0
 have Q2 := B2.block _ (heap_lt N1) |>.trans N1
 have B02 := keepF B0 (keepF B1 B2)
 have y0 : w2.cell? ⟨g0, 0, none⟩ = some (.pointer (some ⟨stb, 0, none⟩)) := by rw [cell_of P2]; rfl
 have hRr := (h.below B02).refuse x1 x2 vd vs ls (Below.row B02 hr) (Below.sls B02 hs)
 obtain ⟨R, hR⟩ : ∃ R, Hid (rrF nx ls = R) := ⟨_, rfl⟩
 rw [hR.out] at hRr hrr ⊢
 have kr : (R != 0) = true := by simp [hrr]
 have z2 : ∀ j, w2.frozen? ⟨g0 + 1, j, none⟩ = false := fun j => by simp [World.frozen?, Q2]
 have c2 : w2.cell? ⟨g0 + 1, 0, none⟩ = some (.int .i64 0) := by rw [cell_of Q2]; rfl
 have XB : But (fun k => k = g0 + 1) w2 (w2.setCell ⟨g0 + 1, 0, none⟩ (.int .i64 0)) := But.of_grownBy (grown_setCell w2 (g0 + 1) 0 _) fun k e => by cases e; rfl
 have s2 : (w2.setCell ⟨g0 + 1, 0, none⟩ (.int .i64 0)).heap[g0 + 1]? = some (.cells #[.int .i64 0] 2 (0, 0)) := by rw [heap_setCell_same _ (g0 + 1) 0 _ _ _ Q2]; rfl
 have s3 := (XB.block _ (heap_lt N2) (by omega)).trans N2
 obtain ⟨wB, hwB⟩ : ∃ u, Hid (w2.setCell ⟨g0 + 1, 0, none⟩ (.int .i64 0) = u) := ⟨_, rfl⟩
 rw [hwB.out] at XB s2 s3
 have z3 : wB.frozen? ⟨g0 + 2, 0, none⟩ = false := by simp [World.frozen?, s3]
 have c3 : wB.cell? ⟨g0 + 2, 0, none⟩ = some (.int .i64 0) := by rw [cell_of s3]; rfl
 have XC : But (fun k => k = g0 + 2) wB (wB.setCell ⟨g0 + 2, 0, none⟩ (.int .i64 R)) := But.of_grownBy (grown_setCell wB (g0 + 2) 0 _) fun k e => by cases e; rfl
 have t3 : (wB.setCell ⟨g0 + 2, 0, none⟩ (.int .i64 R)).heap[g0 + 2]? = some (.cells #[.int .i64 R] 31 (0, 0)) := by rw [heap_setCell_same _ (g0 + 2) 0 _ _ _ s3]; rfl
 have t2 := (XC.block _ (heap_lt s2) (by omega)).trans s2
 obtain ⟨wC, hwC⟩ : ∃ u, Hid (wB.setCell ⟨g0 + 2, 0, none⟩ (.int .i64 R) = u) := ⟨_, rfl⟩
 rw [hwC.out] at XC t2 t3
 have k2 : wC.cell? ⟨g0 + 1, 0, none⟩ = some (.int .i64 0) := by rw [cell_of t2]; rfl
 have k3 : wC.cell? ⟨g0 + 2, 0, none⟩ = some (.int .i64 R) := by rw [cell_of t3]; rfl
 have BF : Hid (Below w.heap.size w wC) := hide ((but_cut (But.of_below B02 fun _ => False) ((XB.mono fun k _ c => .inl c).trans (XC.mono fun k _ c => .inr c) : But (fun k => k = g0 + 1 ∨ k = g0 + 2) w2 wC) fun k hk c => by have := hg0.out; omega).below (Nat.le_refl _) fun k c => c.elim)
 have z3l : (w2.setCell ⟨g0 + 1, 0, none⟩ (.int .i64 0)).frozen? ⟨g0 + 2, 0, none⟩ = false := by rw [hwB.out]; exact z3
 have c3l : (w2.setCell ⟨g0 + 1, 0, none⟩ (.int .i64 0)).cell? ⟨g0 + 2, 0, none⟩ = some (.int .i64 0) := by rw [hwB.out]; exact c3
 replace hRr := hide hRr
 clear B0 B1 B2 N0 N1 N2 P2 Q2 B02 XB s2 s3 XC t2 t3 h hr hs
 replace hz0 := hide hz0; replace hz1 := hide hz1
 go_enter_defers Tryz.func10, Tryz.ntmps10
 go_upto_region 1 with fail
 rw [hw0.out, hw1.out, hw2.out, hg0.out, show g0 + 1 + 1 = g0 + 2 from rfl]
 go_wp2_with (first
  | (go_at_call 26; refine hRr.out.mono ?_; rintro e wm ⟨rfl, hwm⟩; rw [hwm]; clear hwm wm)
  | fail)
 rw [hwB.out, hwC.out]
 simp [bodyPostD, Leaves, results, Tryz.results10, go_sem, k2, k3]
 exact BF.out
noncomputable def Kst.sync (K : Kst) : Kst := { K with S := (K.S.sync K.s.file).1 }
theorem ssync_any {w : World} {stb b : Nat} {m nx du : Int} {K : Kst} {A : Nat → Prop} (h : KA w stb b m nx du K A) (hne : du ≠ nx) (hcd : K.s.cond = 0) (hf : K.s.file.size ≤ maxLen) (hc : K.S.c7 < 900000000) (hok : (K.S.sync K.s.file).2 = 0) (hn : K.si.length < 1000) :
    Calls Tryz.prog 12 #[.pointer (some ⟨stb, 0, none⟩)] w fun e w' => e = .returned (.int .i64 0) ∧ Hid (∃ A', KA w' stb b m nx nx K.sync A' ∧ Sgo w w' A A') := by
 have hmf : ∀ (fn : Fn) (first cap : Array Value) (w : World), (Instr.makeFunc fn first cap).run Tryz.prog w = .ok (.func fn first cap) w := fun _ _ _ _ => rfl
 have hSy0 := sync_same hcd hok
 obtain ⟨g0, hg0⟩ : ∃ g0, Hid (w.heap.size = g0) := ⟨_, rfl⟩
 have B0 := box_below w (.cells #[.pointer (some ⟨stb, 0, none⟩)] 28)
 have N0 := heap_alloc_new w (.cells #[.pointer (some ⟨stb, 0, none⟩)] 28)
 obtain ⟨w0, hw0⟩ : ∃ w0, Hid (w.alloc (.cells #[.pointer (some ⟨stb, 0, none⟩)] 28) = w0) := ⟨_, rfl⟩
 have hz0 : w0.heap.size = g0 + 1 := by rw [← hw0.out, ← hg0.out]; simp
 rw [hw0.out] at B0 N0
 rw [hg0.out] at N0
 have B1 := box_below w0 (.cells #[.int .i64 0] 31)
 have N1 := heap_alloc_new w0 (.cells #[.int .i64 0] 31)
 obtain ⟨w1, hw1⟩ : ∃ w1, Hid (w0.alloc (.cells #[.int .i64 0] 31) = w1) := ⟨_, rfl⟩
 have hz1 : w1.heap.size = g0 + 2 := by rw [← hw1.out]; simp [hz0]
 rw [hw1.out] at B1 N1
 rw [hz0] at N1
 have P1 := B1.block _ (heap_lt N0) |>.trans N0
 have B01 := keepF B0 B1
 have h1 := h.below B01
 have hlt := h.lt
 rw [hg0.out] at hlt
 have y0 : w1.cell? ⟨g0, 0, none⟩ = some (.pointer (some ⟨stb, 0, none⟩)) := by rw [cell_of P1]; rfl
 obtain ⟨a0, _, _, a6, a7, a8, a9, _⟩ := h1.cells
 have hRf := hide (srefuse_ok a0 a8 a9)
 have kne : (du == nx) = false := by simp [hne]
 have CX := hide (And.intro P1 (And.intro N1 (And.intro B01 (And.intro h1 hlt))))
 clear a0 a8 a9 B0 B1 N0 N1 P1 B01 h1 h hlt
 replace hz0 := hide hz0; replace hz1 := hide hz1
 go_enter_defers Tryz.func12, Tryz.ntmps12
 go_upto_region 1 with fail
 rw [hw0.out, hw1.out, hg0.out]
 go_upto_region 4 with (first
  | (go_at_call 33; refine hRf.out.mono ?_; rintro e wm ⟨rfl, hwm⟩; rw [hwm]; clear hwm wm)
  | fail)
 go_quiet (fail)
 have BQ := hide (Qt.below ⟨nq, rfl⟩ w1.heap.size : Below w1.heap.size w1 (w1.drewN nq))
 generalize w1.drewN nq = w2 at *
 obtain ⟨P1, N1, B01, h1, hlt⟩ := CX.out
 have P2 := (BQ.out.block _ (heap_lt P1)).trans P1
 have N2 := (BQ.out.block _ (heap_lt N1)).trans N1
 have h2 := h1.below BQ.out
 have y0 : w2.cell? ⟨g0, 0, none⟩ = some (.pointer (some ⟨stb, 0, none⟩)) := by rw [cell_of P2]; rfl
 have B02 := hide (keepF B01 BQ.out)
 obtain ⟨O, qi, q, vC, vS, rfl, hb, hR⟩ := h2
 obtain ⟨vb, cap, rfl, hcl⟩ := hR.last (n := qi.length) (by simp)
 have h5 : w2.cell? ⟨stb, 5, none⟩ = some (.slice (some ⟨vb, 0, none⟩) (qi.length + 1) cap) := by rw [cell_of hb]; rfl
 have hOp := hide (opn_any h5 (hcl q (by simp)) (by have := ilen hR hn; omega))
 have hSy := hide (fun u (hu : Qt w2 u) => by have := syncS_any (hR.sw.1.below (Qt.below hu _)) hf hc; rw [hSy0] at this; exact this)
 have HX := hide (And.intro hb (And.intro hR (And.intro P2 (And.intro N2 hlt))))
 clear h5 hcl hb hR P2 N2 P1 N1 B01 h1 hlt a6 a7 hc hf
 go_upto_region 8 with (first
  | (go_at_call 23; refine hOp.out.mono ?_; rintro e w3 ⟨rfl, Q3⟩)
  | (go_at_call 36; refine (hSy.out _ Q3).mono ?_; rintro e w4 ⟨rfl, O1, W4, G4⟩)
  | (go_at_call 35; refine (must_ok _).mono ?_; rintro e wm ⟨rfl, hwm⟩; rw [hwm]; clear hwm wm)
  | fail)
 obtain ⟨hb, hR, P2, N2, hlt⟩ := HX.out
 have hG : Go.Proofs.YtnimildpcnmjeaaGreatDoor.Sg.Sst w2 w4 q.sb q.xb q.mb q.v q.v O O1 := (Go.Proofs.YtnimildpcnmjeaaGreatDoor.Sg.Sst.below (Qt.below Q3 _)).trans G4
 obtain ⟨t1, t2, t3⟩ := hR.turn (heap_lt hb) W4 hR.sw.2 hG
 have hb4 := hb.sgo hG.but t3
 have nb : ∀ k, g0 ≤ k → ¬ (SOwn q.sb q.xb q.mb q.v k ∨ O k) := fun k hk c => by
  have : k < g0 := by
   rcases c with c | c
   ·exact hlt k (.inr (.inr (.inr (.inr ⟨q, by simp, c⟩))))
   ·exact hlt k (.inr (.inl c))
  omega
 have P4 := (hG.but.block _ (heap_lt P2) (nb _ (Nat.le_refl _))).trans P2
 have N4 := (hG.but.block _ (heap_lt N2) (nb _ (by omega))).trans N2
 have KA4 : KA w4 stb b m nx du K.sync (StO stb O1 (qi ++ [⟨q.sb, q.xb, q.mb, q.v⟩]) vC (.slice (some ⟨vb, 0, none⟩) (qi.length + 1) cap)) := ⟨O1, qi, _, vC, _, rfl, hb4, t1⟩
 have hst : stb < g0 := hlt stb (.inl rfl)
 obtain ⟨_, _, _, y6, y7, _, _, yf⟩ := KA4.cells
 have f7 := yf 7
 have y0' : w4.cell? ⟨g0, 0, none⟩ = some (.pointer (some ⟨stb, 0, none⟩)) := by rw [cell_of P4]; rfl
 have HY := hide (And.intro P4 (And.intro N4 (And.intro KA4 (And.intro t2 hst))))
 clear W4 G4 hG t1 t2 t3 hb4 hb hR P2 N2 hlt nb P4 N4 KA4 HX y0 yf hOp hSy Q3
 go_region
 try simp only [Exit.then]
 obtain ⟨P4, N4, KA4, t2, hst⟩ := HY.out
 have X5 : But (fun k => k = stb) w4 (w4.setCell ⟨stb, 7, none⟩ (.int .i64 nx)).drew := (But.of_grownBy (grown_setCell w4 stb 7 _) fun k e => by cases e; rfl).trans (But.of_below (Below.refl _ _).drew _)
 have KA5 := (KA4.set7 nx).below (Below.refl _ (w4.setCell ⟨stb, 7, none⟩ (.int .i64 nx))).drew
 clear y6 y7 f7 y0' KA4
 generalize (w4.setCell ⟨stb, 7, none⟩ (.int .i64 nx)).drew = w5 at *
 have N5 := (X5.block _ (heap_lt N4) (by omega)).trans N4
 have z5 : w5.frozen? ⟨g0 + 1, 0, none⟩ = false := by simp [World.frozen?, N5]
 have c5 : w5.cell? ⟨g0 + 1, 0, none⟩ = some (.int .i64 0) := by rw [cell_of N5]; rfl
 have X6 : But (fun k => k = g0 + 1) w5 (w5.setCell ⟨g0 + 1, 0, none⟩ (.int .i64 0)) := But.of_grownBy (grown_setCell w5 (g0 + 1) 0 _) fun k e => by cases e; rfl
 have N6 : (w5.setCell ⟨g0 + 1, 0, none⟩ (.int .i64 0)).heap[g0 + 1]? = some (.cells #[.int .i64 0] 31 (0, 0)) := by rw [heap_setCell_same _ (g0 + 1) 0 _ _ _ N5]; rfl
 obtain ⟨w6, hw6⟩ : ∃ u, Hid (w5.setCell ⟨g0 + 1, 0, none⟩ (.int .i64 0) = u) := ⟨_, rfl⟩
 rw [hw6.out] at X6 N6
 have k6 : w6.cell? ⟨g0 + 1, 0, none⟩ = some (.int .i64 0) := by rw [cell_of N6]; rfl
 have hA1 : ∀ k, StO stb O1 (qi ++ [⟨q.sb, q.xb, q.mb, q.v⟩]) vC (.slice (some ⟨vb, 0, none⟩) (qi.length + 1) cap) k → k < g0 ∨ g0 + 2 ≤ k := fun k hk => by
  rcases t2.own k hk with d | d
  ·have hl := CX.out.2.2.2.2 k d
   exact .inl hl
  ·have h1 := BQ.out.size
   have h2 := hz1.out
   exact .inr (by omega)
 have FINAL : Hid (∃ A', KA w6 stb b m nx nx K.sync A' ∧ Sgo w w6 (StO stb O (qi ++ [q]) vC (.slice (some ⟨vb, 0, none⟩) (qi.length + 1) cap)) A') := hide ⟨_, KA5.but X6 fun k hk c => by have := hA1 k hk; omega, ⟨but_cut (but_cut (but_cut (But.of_below B02.out _) t2.but fun k _ c => c) X5 fun k _ c => by rw [c]; exact .inl rfl) X6 fun k hk c => by have := hg0.out; omega, fun k hk => by
  rcases t2.own k hk with d | d
  ·exact .inl d
  ·exact .inr (Nat.le_trans B02.out.size d)⟩⟩
 clear N5 N4 P4 N6 X5 X6 KA5 t2 hA1
 go_wp2_with fail
 rw [hw6.out]
 refine leaves_cons (f := 34) (args := #[.pointer (some ⟨g0, 0, none⟩), .pointer (some ⟨g0 + 1, 0, none⟩)]) (by simp) (by simp [go_sem]) ?_
 refine (idle_sync _ _ _).mono ?_
 rintro e u' wl ⟨rfl, rfl, rfl⟩
 simp [Leaves, settle, results, Tryz.results12, go_sem, k6]
 exact FINAL
theorem ssync_idle {w : World} {stb b : Nat} {m nx : Int} {K : Kst} {A : Nat → Prop} (h : KA w stb b m nx nx K A) :
    Calls Tryz.prog 12 #[.pointer (some ⟨stb, 0, none⟩)] w fun e w' => e = .returned (.int .i64 0) ∧ Below w.heap.size w w' := by
 obtain ⟨g0, hg0⟩ : ∃ g0, Hid (w.heap.size = g0) := ⟨_, rfl⟩
 have B0 := box_below w (.cells #[.pointer (some ⟨stb, 0, none⟩)] 28)
 have N0 := heap_alloc_new w (.cells #[.pointer (some ⟨stb, 0, none⟩)] 28)
 obtain ⟨w0, hw0⟩ : ∃ w0, Hid (w.alloc (.cells #[.pointer (some ⟨stb, 0, none⟩)] 28) = w0) := ⟨_, rfl⟩
 have hz0 : w0.heap.size = g0 + 1 := by rw [← hw0.out, ← hg0.out]; simp
 rw [hw0.out] at B0 N0
 rw [hg0.out] at N0
 have B1 := box_below w0 (.cells #[.int .i64 0] 31)
 have N1 := heap_alloc_new w0 (.cells #[.int .i64 0] 31)
 obtain ⟨w1, hw1⟩ : ∃ w1, Hid (w0.alloc (.cells #[.int .i64 0] 31) = w1) := ⟨_, rfl⟩
 have hz1 : w1.heap.size = g0 + 2 := by rw [← hw1.out]; simp [hz0]
 rw [hw1.out] at B1 N1
 rw [hz0] at N1
 have P1 := B1.block _ (heap_lt N0) |>.trans N0
 have B01 := keepF B0 B1
 have h1 := h.below B01
 have hlt := h.lt
 rw [hg0.out] at hlt
 have y0 : w1.cell? ⟨g0, 0, none⟩ = some (.pointer (some ⟨stb, 0, none⟩)) := by rw [cell_of P1]; rfl
 obtain ⟨a0, _, _, a6, a7, a8, a9, _⟩ := h1.cells
 have hRf := hide (srefuse_ok a0 a8 a9)
 have CX := hide (And.intro P1 (And.intro N1 (And.intro B01 (And.intro h1 hlt))))
 clear a0 a8 a9 B0 B1 N0 N1 P1 B01 h1 h hlt
 replace hz0 := hide hz0; replace hz1 := hide hz1
 go_enter_defers Tryz.func12, Tryz.ntmps12
 go_upto_region 1 with fail
 rw [hw0.out, hw1.out, hg0.out]
 go_upto_region 4 with (first
  | (go_at_call 33; refine hRf.out.mono ?_; rintro e wm ⟨rfl, hwm⟩; rw [hwm]; clear hwm wm)
  | fail)
 go_quiet (fail)
 have BQ := hide (Qt.below ⟨nq, rfl⟩ w1.heap.size : Below w1.heap.size w1 (w1.drewN nq))
 generalize w1.drewN nq = w2 at *
 obtain ⟨P1, N1, B01, h1, hlt⟩ := CX.out
 have N5 := (BQ.out.block _ (heap_lt N1)).trans N1
 have B02 := keepF B01 BQ.out
 clear a6 a7 y0 hRf P1 N1 B01 h1 hlt CX BQ
 have z5 : w2.frozen? ⟨g0 + 1, 0, none⟩ = false := by simp [World.frozen?, N5]
 have c5 : w2.cell? ⟨g0 + 1, 0, none⟩ = some (.int .i64 0) := by rw [cell_of N5]; rfl
 have N6 : (w2.setCell ⟨g0 + 1, 0, none⟩ (.int .i64 0)).heap[g0 + 1]? = some (.cells #[.int .i64 0] 31 (0, 0)) := by rw [heap_setCell_same _ (g0 + 1) 0 _ _ _ N5]; rfl
 have BF := hide (B02.setCell (show w.heap.size ≤ g0 + 1 by have := hg0.out; omega) (.int .i64 0) : Below w.heap.size w (w2.setCell ⟨g0 + 1, 0, none⟩ (.int .i64 0)))
 obtain ⟨w6, hw6⟩ : ∃ u, Hid (w2.setCell ⟨g0 + 1, 0, none⟩ (.int .i64 0) = u) := ⟨_, rfl⟩
 rw [hw6.out] at N6 BF
 have k6 : w6.cell? ⟨g0 + 1, 0, none⟩ = some (.int .i64 0) := by rw [cell_of N6]; rfl
 clear N5 N6 B02
 go_wp2_with fail
 rw [hw6.out]
 simp [bodyPostD, Leaves, results, Tryz.results12, go_sem, k6]
 exact BF.out
set_option maxRecDepth 100000
theorem StR.swAt {w : World} {stb b : Nat} {cs : List Sg} {ss : List SG} {S : DS} {O : Nat → Prop} {qs : List Bls} {vC vS : Value} (h : StR w stb b cs ss S O qs vC vS) {i : Nat} {s : SG} (hs : ss[i]? = some s) : ∃ (q : Bls) (vb cap : Nat), vS = .slice (some ⟨vb, 0, none⟩) ss.length cap ∧ w.cell? ⟨vb, i, none⟩ = some (.pointer (some ⟨q.sb, 0, none⟩)) ∧ SW w q.sb s S O q.xb q.mb q.v := by
 have hi : i < qs.length := by rw [← h.len]; exact (List.getElem?_eq_some_iff.1 hs).1
 have hq := List.getElem?_eq_getElem hi
 have h1 := h.sg i _ s hq hs
 have h0 := h.sp
 rcases h.sp.2 with ⟨e1, e2⟩ | ⟨g, cap, cur, e, hb, hg, r⟩
 ·omega
 ·rw [e] at h0
  refine ⟨qs[i], g, cap, by rw [h.len]; exact e, ?_, ⟨h1.1, by rw [h1.2]; exact h.dk, fun k hk => (h.aO _ (List.getElem_mem hi) k hk).1⟩⟩
  rw [World.ownsRow.cellAt h0 i (by omega), List.getElem?_map, hq]
  rfl
theorem sread_any {w : World} {stb b : Nat} {m nx du : Int} {K : Kst} {A : Nat → Prop} (h : KA w stb b m nx du K A) (lsn : Int) (hf : K.f ≤ lsn) (hd : lsn < du) (l0 : -9223372036854775808 ≤ lsn) (l1 : lsn ≤ 9223372036854775807) {i : Nat} (hi : atF K.g K.f K.cs lsn = (i, true)) {s : SG} (hs : (K.si ++ [K.s])[i]? = some s) (ok : SOk s) (hb1 : 1 ≤ s.base) (hfl : s.file.size ≤ maxLen) (hn : K.si.length < 1000) :
    Calls Tryz.prog 14 #[.pointer (some ⟨stb, 0, none⟩), .int .i64 lsn] w fun e w' => ∃ vd, e = .returned (.tuple #[.agg #[.int .i64 (rdS s K.S lsn).1.1, vd], .int .i64 (rdS s K.S lsn).2]) ∧ Ob w.heap.size w' vd (rdS s K.S lsn).1.2 ∧ Below w.heap.size w w' := by
 have B0 := box_below w (.cells #[.int .i64 0, .slice none 0 0] 56)
 have N0 := heap_alloc_new w (.cells #[.int .i64 0, .slice none 0 0] 56)
 obtain ⟨w0, hw0⟩ : ∃ w0, Hid (w.alloc (.cells #[.int .i64 0, .slice none 0 0] 56) = w0) := ⟨_, rfl⟩
 obtain ⟨g0, hg0⟩ : ∃ g0, Hid (w.heap.size = g0) := ⟨_, rfl⟩
 have hz0 : w0.heap.size = g0 + 1 := by rw [← hw0.out, ← hg0.out]; simp
 rw [hw0.out] at B0 N0
 rw [hg0.out] at N0
 have h0 := h.below B0
 obtain ⟨a0, _, a2, _, a7, _, a9, _⟩ := h0.cells
 have hM := hide (smade_yes a0)
 obtain ⟨O, qi, q, vC, vS, rfl, hb, hR⟩ := h0
 obtain ⟨q', vb, cap, rfl, hcl, hSW⟩ := hR.swAt hs
 have hil : i < (K.si ++ [K.s]).length := (List.getElem?_eq_some_iff.1 hs).1
 generalize hL : (K.si ++ [K.s]).length = L at *
 have a3 : w0.cell? ⟨stb, 3, none⟩ = some (.int .i64 K.f) := by rw [cell_of hb]; rfl
 have a4 : w0.cell? ⟨stb, 4, none⟩ = some vC := by rw [cell_of hb]; rfl
 have a5 : w0.cell? ⟨stb, 5, none⟩ = some (.slice (some ⟨vb, 0, none⟩) L cap) := by rw [cell_of hb]; rfl
 have hAt := hide (Go.Proofs.YtnimildpcnmjeaaGreatDoor.Ct.at_any w0 K.g K.f vC K.cs lsn hR.ct.sgs)
 rw [hi] at hAt
 obtain ⟨X1, hX1⟩ : ∃ x, Hid ((rdS s K.S lsn).1.1 = x) := ⟨_, rfl⟩
 obtain ⟨X2, hX2⟩ : ∃ x, Hid ((rdS s K.S lsn).2 = x) := ⟨_, rfl⟩
 obtain ⟨X3, hX3⟩ : ∃ x, Hid ((rdS s K.S lsn).1.2 = x) := ⟨_, rfl⟩
 have hRd : Hid (∀ u, Below w0.heap.size w0 u → Calls Tryz.prog 39 #[.pointer (some ⟨q'.sb, 0, none⟩), .int .i64 lsn] u fun e w' => ∃ a n c, e = .returned (.tuple #[.agg #[.int .i64 X1, .slice a n c], .int .i64 X2]) ∧ Ob u.heap.size w' (.slice a n c) X3 ∧ Below u.heap.size u w') := hide fun u hu => by
  refine (readS_any (hSW.below hu) ok lsn l0 l1 hb1 hfl).mono ?_
  rintro e w' ⟨vd, rfl, hO, hB⟩
  rw [hX1.out, hX2.out]
  rw [hX3.out] at hO
  rcases hO.2 with ⟨rfl, _⟩ | ⟨g, cap, cur, rfl, _⟩
  ·exact ⟨_, _, _, rfl, hO, hB⟩
  ·exact ⟨_, _, _, rfl, hO, hB⟩
 rw [hX1.out, hX2.out, hX3.out]
 have k1 : ¬ lsn < K.f := by omega
 have k2 : ¬ du ≤ lsn := by omega
 have k3 : (i : Int) < (L : Int) := by omega
 have hcl' := hide hcl
 have HB := hide (And.intro B0 N0)
 clear hR hb hSW hs h ok hfl hb1 B0 N0 hcl hX1 hX2 hX3
 go_enter Tryz.func14, Tryz.ntmps14
 go_upto_region 1 with fail
 rw [hw0.out, hg0.out]
 go_upto_region 8 with (first
  | (go_at_call 25; refine hM.out.mono ?_; rintro e wm ⟨rfl, hwm⟩; rw [hwm]; clear hwm wm)
  | (go_at_call 38; refine hAt.out.mono ?_; rintro e w1 ⟨rfl, B1⟩; replace B1 := hide B1)
  | fail)
 obtain ⟨B0, N0⟩ := HB.out
 have e5 := (B1.out.cell (lt_of_cell a5)).trans a5
 have ec := (B1.out.cell (lt_of_cell hcl'.out)).trans hcl'.out
 have N1 := (B1.out.block _ (heap_lt N0)).trans N0
 clear a0 a2 a3 a4 a5 a7 a9
 have szR : (Tryz.prog.info? 56).map (·.size) = some 2 := by kernel_rfl
 go_wp2_with (first
  | (go_at_call 39; refine (hRd.out _ B1.out).mono ?_; rintro e w2 ⟨va, vn, vc, rfl, O2, B2⟩
     have N2 := (B2.block _ (heap_lt N1)).trans N1
     have FZ : ∀ j, w2.frozen? ⟨g0, j, none⟩ = false := fun j => by simp [World.frozen?, N2]
     have c0 : w2.cell? ⟨g0, 0, none⟩ = some (.int .i64 0) := by rw [cell_of N2]; rfl
     have c1 : w2.cell? ⟨g0, 1, none⟩ = some (.slice none 0 0) := by rw [cell_of N2]; rfl
     have FIN := hide (put2_heap N2 (.int .i64 X1) (.slice va vn vc))
     have BE : But (fun k => k = g0) w2 (put2 w2 g0 (.int .i64 X1) (.slice va vn vc)) := (But.of_grownBy (grown_setCell w2 g0 0 _) fun k e => by cases e; rfl).trans (But.of_grownBy (grown_setCell _ g0 1 _) fun k e => by cases e; rfl)
     unfold put2 at FIN BE)
  | fail)
 try simp only [Exit.inBlock, Exit.then]
 have hgw := hg0.out
 have O3 : Ob w.heap.size w2 (.slice va vn vc) X3 := owns_lower O2 (by have := B1.out.size; omega)
 have O4 := ob_but O3 BE fun k hk c => by
  have h1 := (World.ownsRow.lt O2 k hk).1
  have := B1.out.size
  omega
 have BF := (but_cut (But.of_below (keepF (keepF B0 B1.out) B2) fun _ => False) BE fun k hk c => by omega).below (Nat.le_refl _) fun k c => c.elim
 have e0 : ((w2.setCell ⟨g0, 0, none⟩ (.int .i64 X1)).setCell ⟨g0, 1, none⟩ (.slice va vn vc)).cell? ⟨g0, 0, none⟩ = some (.int .i64 X1) := by rw [cell_of FIN.out]; rfl
 have e1 : ((w2.setCell ⟨g0, 0, none⟩ (.int .i64 X1)).setCell ⟨g0, 1, none⟩ (.slice va vn vc)).cell? ⟨g0, 1, none⟩ = some (.slice va vn vc) := by rw [cell_of FIN.out]; rfl
 refine bodyPost_ret (v := .tuple #[.agg #[.int .i64 X1, .slice va vn vc], .int .i64 X2]) (by simp [results, Tryz.results14, go_sem, e0, e1]; try rfl) rfl ?_
 exact ⟨_, rfl, O4, BF⟩
set_option maxRecDepth 100000
structure Sgc (s : SG) (sd0 : Crc.R) (hd : List UInt8) (ds : List (List UInt8)) (D : Dr) (F : Nat → Fl) (p : Nat) : Prop where
 co : Coh s sd0 ds
 cd : s.cond = 0
 hh : hd.length = 32
 my : may s.file.data.toList = true
 gt : Dk.get D s.file.data.toList = some p
 by_ : (F p).by_ = hd ++ (wk sd0 s.base ds ds.length).1
 sl : s.sd.length ≤ ds.length
theorem Sgc.keep {s : SG} {sd0 : Crc.R} {hd : List UInt8} {ds : List (List UInt8)} {D D' : Dr} {F F' : Nat → Fl} {p : Nat} (h : Sgc s sd0 hd ds D F p) (hg : Dk.get D' s.file.data.toList = some p) (hF : (F' p).by_ = (F p).by_) : Sgc s sd0 hd ds D' F' p := ⟨h.co, h.cd, h.hh, h.my, hg, by rw [hF]; exact h.by_, h.sl⟩
theorem Sgc.read {s : SG} {S : DS} {sd0 : Crc.R} {hd : List UInt8} {ds : List (List UInt8)} {M : Nat} {D : Dr} {F : Nat → Fl} {c : Int} {p : Nat} (h : Sgc s sd0 hd ds D F p) (ca : Ca S M D F c) {lsn : Int} (h1 : s.base ≤ lsn) (h2 : lsn < s.next) : rdS s S lsn = ((lsn, ds.getD (lsn - s.base).toNat []), 0) := by
 obtain ⟨L2, PP, _, cm⟩ := ca.cm
 exact h.co.read h.hh ⟨p, ca.find h.my h.gt, by rw [cm.F]; exact h.by_⟩ h1 h2
theorem Sgc.put {s : SG} {S : DS} {sd0 : Crc.R} {hd : List UInt8} {ds : List (List UInt8)} {M : Nat} {D : Dr} {F : Nat → Fl} {c : Int} {p : Nat} (h : Sgc s sd0 hd ds D F p) (ca : Ca S M D F c) (ls : List (List UInt8)) (h0 : ls ≠ []) (hd4 : ∀ d ∈ ls, d.length ≤ 4096) (hn : s.next + (ls.length : Int) ≤ 9223372036854775807) (hz : s.size + (ls.length : Int) * 4112 ≤ 2147483647) (hl : ds.length + ls.length ≤ 1000000000)
    (hM : sumL F D + (wk (wk sd0 s.base ds ds.length).2.2 s.next ls ls.length).1.length ≤ M) :
    (putF s S (wk sd0 s.base ds ds.length).2.2 ls).2 = (s.next, 0) ∧ (putF s S (wk sd0 s.base ds ds.length).2.2 ls).1 = (gk s (wk (wk sd0 s.base ds ds.length).2.2 s.next ls ls.length).2.1 ls.length, (S.append s.file (wk (wk sd0 s.base ds ds.length).2.2 s.next ls ls.length).1).1) ∧
     Sgc (gk s (wk (wk sd0 s.base ds ds.length).2.2 s.next ls ls.length).2.1 ls.length) sd0 hd (ds ++ ls) D (upd F p (apF (F p) (wk (wk sd0 s.base ds ds.length).2.2 s.next ls ls.length).1)) p ∧
     Ca (S.append s.file (wk (wk sd0 s.base ds ds.length).2.2 s.next ls ls.length).1).1 M D (upd F p (apF (F p) (wk (wk sd0 s.base ds ds.length).2.2 s.next ls ls.length).1)) (c + 1) ∧
     sumL (upd F p (apF (F p) (wk (wk sd0 s.base ds ds.length).2.2 s.next ls ls.length).1)) D = sumL F D + (wk (wk sd0 s.base ds ds.length).2.2 s.next ls ls.length).1.length := by
 have hr : Go.Proofs.YtnimildpcnmjeaaGreatDoor.Sg.refF s ls = 0 := by
  unfold Go.Proofs.YtnimildpcnmjeaaGreatDoor.Sg.refF
  rw [if_neg (by rw [h.cd]; decide), if_neg h0, if_neg (by rintro ⟨d, d1, d2⟩; have := hd4 d d1; omega), if_neg (by omega)]
 obtain ⟨k2, k3, k4⟩ := ca.append h.my h.gt (wk (wk sd0 s.base ds ds.length).2.2 s.next ls ls.length).1 hM
 have e : putF s S (wk sd0 s.base ds ds.length).2.2 ls = ((gk s (wk (wk sd0 s.base ds ds.length).2.2 s.next ls ls.length).2.1 ls.length, (S.append s.file (wk (wk sd0 s.base ds ds.length).2.2 s.next ls ls.length).1).1), s.next, 0) := by
  unfold putF
  rw [if_neg (by rw [hr]; decide), if_neg (by rw [k2]; decide)]
 rw [e]
 have hsl := h.sl
 have hlen := (wk_len (wk sd0 s.base ds ds.length).2.2 s.next ls ls.length).2
 have hf := wk_fs (wk sd0 s.base ds ds.length).2.2 s.next ls ls.length
 obtain ⟨c1, _⟩ := h.co.puts h.co.e ls hd4 hn hz (by omega) ls.length (Nat.le_refl _)
 rw [List.take_length] at c1
 obtain ⟨g1, g2, g3, g4, g5, g6, g7⟩ := gk_b s (wk (wk sd0 s.base ds ds.length).2.2 s.next ls ls.length).2.1 ls.length
 have gl := (gk_ok h.co.ok (wk (wk sd0 s.base ds ds.length).2.2 s.next ls ls.length).2.1 (fun f h => (hf f h).1) (fun f h => (hf f h).2) (by rw [hlen]; omega) (by rw [hlen]; omega) (by rw [hlen]; omega) ls.length (by omega)).2
 refine ⟨rfl, rfl, ⟨c1, by rw [g3]; exact h.cd, h.hh, ?_, ?_, ?_, ?_⟩, k3, k4⟩
 ·rw [g2]; exact h.my
 ·rw [g2]; exact h.gt
 ·rw [upd_same, g4, List.length_append, (wk_shift (seed := sd0) (n := s.base) ds ls ls.length).2, ← h.co.n]
  show (F p).by_ ++ _ = _
  rw [h.by_, List.append_assoc]
 ·rw [List.length_append]
  omega
theorem syF_by (f : Fl) : (syF f).by_ = f.by_ := rfl
theorem roll_ca {S : DS} {M : Nat} {D : Dr} {F : Nat → Fl} {c : Int} (ca : Ca S M D F c) {file : ByteArray} (hmy : may file.data.toList = true) {p : Nat} (hg : Dk.get D file.data.toList = some p) (hne : file.data.toList ≠ cnxB.data.toList) {nm bs : Int} (seed : Crc.R) (n1 : 1 ≤ nm) (b1 : 1 ≤ bs) (hnm : Dk.get D (nmF nm).data.toList = none) (hcx : Dk.get D cnxB.data.toList = none) (hl : D.length < 200) (B : List UInt8) (hM : sumL F D + 32 + B.length ≤ M)
    {p1 p2 : Nat} (hp1 : p1 ∉ (S.sync file).1.ps) (hp2 : p2 ∉ (creF (S.sync file).1 (nmF nm) nm bs seed p1).1.ps) :
    ∃ D' F', Ca (re5 (creF (S.sync file).1 (nmF nm) nm bs seed p1).1 catB cnxB B p2) M D' F' (c + 9) ∧ sumL F' D' ≤ sumL F D + 32 + B.length ∧ D'.length ≤ D.length + 2 ∧
     (∀ k, Dk.get D' k = if k = catB.data.toList then some p2 else if k = cnxB.data.toList then none else if (nmF nm).data.toList = k then some p1 else Dk.get D k) ∧
     (F' p1).by_ = hed nm.toNat bs.toNat seed ∧ (∀ r, r ∈ D.map (·.2) → r ≠ p1 ∧ r ≠ p2 ∧ (F' r).by_ = (F r).by_) ∧ p1 ≠ p2 := by
 obtain ⟨k1, ca1, k3⟩ := ca.sync hmy hg
 obtain ⟨_, x2, x3, x4, x5⟩ := ca_cre ca1 (may_nm nm) hnm (by omega) hp1 seed n1 b1 (by rw [k3]; omega)
 have hn2 := nmF_ne nm
 obtain ⟨c1, c2, c3, c4, c5⟩ := cat_facts
 obtain ⟨_, _, _, _, _, _, _, _, _, y1, y2, y3, y4, y5⟩ := ca_replace x2 c3 c4 c5 (by rw [get_dput, if_neg hn2.2]; exact hcx) (by rw [x4]; omega) hp2 B (by rw [x3, k3]; omega)
 have hin : p1 ∈ (dput D (nmF nm).data.toList p1).map (·.2) := by
  have : Dk.get (dput D (nmF nm).data.toList p1) (nmF nm).data.toList = some p1 := by rw [get_dput, if_pos rfl]
  exact List.mem_map.2 ⟨_, Dk.get_mem this, rfl⟩
 have h12 : p1 ≠ p2 := fun e => y5 (e ▸ hin)
 refine ⟨_, _, by rw [show c + 9 = c + 1 + 3 + 5 by omega]; exact y1, by rw [x3, k3] at y2; omega, by rw [x4] at y3; omega, fun k => ?_, ?_, fun r hr => ?_, h12⟩
 ·rw [y4 k, get_dput]
 ·rw [upd_ne _ _ h12, upd_same, whl_by]
 ·have h1 : r ≠ p1 := fun e => x5 (e ▸ hr)
  have hr2 : r ∈ (dput D (nmF nm).data.toList p1).map (·.2) := by
   have hp : (dput D (nmF nm).data.toList p1).Perm (((nmF nm).data.toList, p1) :: D) := by
    unfold dput
    rw [ddel_none hnm]
    exact dins_perm _ _
   exact (hp.map (·.2)).mem_iff.2 (List.mem_cons_of_mem _ hr)
  have h2 : r ≠ p2 := fun e => y5 (e ▸ hr2)
  refine ⟨h1, h2, ?_⟩
  rw [upd_ne _ _ h2, upd_ne _ _ h1]
  by_cases hrp : r = p
  ·rw [hrp, upd_same, syF_by]
  ·rw [upd_ne _ _ hrp]
set_option maxRecDepth 100000
theorem shS_fr {m z0 : Int} {e0 : Bool} {ls : List (List UInt8)} : ∀ i, 1 ≤ i → (shS m z0 e0 ls i).fr < i
 | 0, h => absurd h (by decide)
 | i + 1, _ => by
  unfold shS
  split
  ·exact Nat.lt_succ_self i
  ·show (shS m z0 e0 ls i).fr < i + 1
   cases i with
   | zero => exact Nat.zero_lt_one
   | succ i => exact Nat.lt_succ_of_lt (shS_fr (i + 1) (by omega))
theorem shS_ne {m z0 : Int} {e0 : Bool} {ls : List (List UInt8)} : ∀ i j p, (shS m z0 e0 ls i).cs[j]? = some p → p.1 < p.2 ∨ j = 0
 | 0, j, p, h => by simp [shS] at h
 | i + 1, j, p, h => by
  unfold shS at h
  split at h
  ·rcases snoc_at h with ⟨_, h'⟩ | ⟨hj, hp⟩
   ·exact shS_ne i j p h'
   ·by_cases hi : 1 ≤ i
    ·left
     rw [hp]
     exact shS_fr i hi
    ·right
     have : i = 0 := by omega
     subst this
     rw [hj]
     rfl
  ·exact shS_ne i j p h
theorem shR_ne {m z0 : Int} {e0 : Bool} {ls : List (List UInt8)} (h1 : 1 ≤ ls.length) {j : Nat} (hj : 1 ≤ j) (hl : j < (shR m z0 e0 ls).length) : (runAt (shR m z0 e0 ls) j).1 < (runAt (shR m z0 e0 ls) j).2 := by
 have hp : (shR m z0 e0 ls)[j]? = some (runAt (shR m z0 e0 ls) j) := by
  unfold runAt
  rw [List.getElem?_eq_getElem hl]
  simp [List.getD, hl]
 have hq := hp
 unfold shR at hp
 rcases snoc_at hp with ⟨_, h'⟩ | ⟨_, e⟩
 ·rcases shS_ne _ j _ h' with c | c
  ·exact c
  ·omega
 ·unfold shR
  rw [e]
  exact shS_fr _ h1
set_option maxRecDepth 100000
theorem sg_left {l r : List Sg} {i : Nat} (h : i < l.length) : sg (l ++ r) i = sg l i := by
 unfold sg
 rw [List.getD_eq_getElem?_getD, List.getD_eq_getElem?_getD, List.getElem?_append_left h]
theorem sg_mid {l r : List Sg} {a : Sg} : sg (l ++ a :: r) l.length = a := by
 unfold sg
 rw [List.getD_eq_getElem?_getD, List.getElem?_append_right (Nat.le_refl _), Nat.sub_self]
 rfl
theorem sg_mid1 {l r : List Sg} {a b : Sg} : sg (l ++ a :: b :: r) (l.length + 1) = b := by
 unfold sg
 rw [List.getD_eq_getElem?_getD, List.getElem?_append_right (by omega), show l.length + 1 - l.length = 1 by omega]
 rfl
theorem last_app {l : List Sg} {a : Sg} : lastS (l ++ [a]) = a := by
 unfold lastS
 rw [show (l ++ [a]).length - 1 = l.length by simp]
 exact sg_mid
theorem roll_may {g f : Int} {ci : List Sg} {nm ba : Int} {se : Nat} (h : May g f (ci ++ [⟨nm, ba, se, 0, 0⟩])) (hl : ci.length ≤ 62) (hn : nm < 9223372036854775807) (hg : g < 9223372036854775807) {en sz : Int} (se' : Nat) (h1 : ba ≤ en) (h2 : 32 ≤ sz) (h3 : sz ≤ 2147483647) (hf : f ≤ en) :
    May (g + 1) f (ci ++ [⟨nm, ba, se, en, sz⟩, ⟨nm + 1, en, se', 0, 0⟩]) ∧ rollF g f (ci ++ [⟨nm, ba, se, 0, 0⟩]) en sz se' = (0, g + 1, f, ci ++ [⟨nm, ba, se, en, sz⟩, ⟨nm + 1, en, se', 0, 0⟩]) := by
 have hop := h.op
 rw [show (ci ++ [(⟨nm, ba, se, 0, 0⟩ : Sg)]).length - 1 = ci.length by simp, sg_mid] at hop
 obtain ⟨o1, o2, o3⟩ := hop
 simp only at o1 o2
 have m2 : May (g + 1) f (ci ++ [⟨nm, ba, se, en, sz⟩, ⟨nm + 1, en, se', 0, 0⟩]) := by
  refine ⟨by have := h.g1; omega, by simp, by simp; omega, fun i hi => ?_, ?_, ?_⟩
  ·simp at hi
   by_cases c : i + 1 < ci.length
   ·have a := h.lk i (by simp; omega)
    rw [sg_left (by omega), sg_left c] at a
    rw [sg_left (by omega), sg_left c]
    exact a
   ·by_cases d : i + 1 = ci.length
    ·have a := h.lk i (by simp; omega)
     rw [sg_left (by omega), d, sg_mid] at a
     rw [sg_left (by omega), d, sg_mid]
     exact a
    ·have e : i = ci.length := by omega
     subst e
     rw [sg_mid, sg_mid1]
     exact ⟨⟨o1, o2, h1, h2, h3⟩, hn, rfl, rfl⟩
  ·rw [show (ci ++ [(⟨nm, ba, se, en, sz⟩ : Sg), ⟨nm + 1, en, se', 0, 0⟩]).length - 1 = ci.length + 1 by simp, sg_mid1]
   exact ⟨by show 1 ≤ nm + 1; omega, by show 1 ≤ en; omega, fun c => by rcases c with c | c <;> exact c rfl⟩
  ·have b := h.be
   by_cases c : 0 < ci.length
   ·rw [sg_left c] at b ⊢
    exact b
   ·have e : ci = [] := List.length_eq_zero_iff.1 (by omega)
    subst e
    exact ⟨b.1, fun _ => hf⟩
 refine ⟨m2, ?_⟩
 have hr : rolled (ci ++ [⟨nm, ba, se, 0, 0⟩]) en sz se' = ci ++ [⟨nm, ba, se, en, sz⟩, ⟨nm + 1, en, se', 0, 0⟩] := by
  unfold rolled
  rw [last_app, show (ci ++ [(⟨nm, ba, se, 0, 0⟩ : Sg)]).length - 1 = ci.length by simp, List.take_left]
 unfold rollF
 rw [hr, if_neg (fun c => c h), if_neg (by simp; omega), last_app, if_neg (by
  rintro (c | c)
  ·omega
  ·have c' : nm = 9223372036854775807 := c
   omega), if_neg (fun c => c m2)]
theorem at_is {g f : Int} {l : List Sg} {n : Int} {i : Nat} (h : May g f l) (hf : f ≤ n) (hi : IsAt l n i) : atF g f l n = (i, true) := by
 unfold atF
 have hx : May g f l ∧ f ≤ n ∧ ∃ i, IsAt l n i := ⟨h, hf, i, hi⟩
 rw [dif_pos hx]
 rw [isAt_one (Classical.choose_spec hx.2.2) hi]
set_option maxRecDepth 100000
theorem nmF_inj {a b : Int} (ha : 1 ≤ a) (ha2 : a ≤ 9223372036854775807) (hb : 1 ≤ b) (hb2 : b ≤ 9223372036854775807) (h : (nmF a).data.toList = (nmF b).data.toList) : a = b := by
 rw [nmF_list, nmF_list] at h
 have := segL_inj (by omega) (by omega) h
 omega
structure Td where
 sd : Crc.R
 hd : List UInt8
 ds : List (List UInt8)
 p : Nat
structure SI (b M : Nat) (K : Kst) (ci : List Sg) (se : Nat) (ti : List Td) (t : Td) (D : Dr) (F : Nat → Fl) (c : Int) : Prop where
 ca : Ca K.S M D F c
 cs : K.cs = ci ++ [⟨(ci.length : Int) + 1, K.s.base, se, 0, 0⟩]
 li : K.si.length = ci.length
 lt : ti.length = ci.length
 g : K.g = (ci.length : Int) + 1
 may : May K.g K.f K.cs
 seg : ∀ (i : Nat) (s : SG) (u : Td), (K.si ++ [K.s])[i]? = some s → (ti ++ [t])[i]? = some u → Sgc s u.sd u.hd u.ds D F u.p ∧ s.file = nmF ((i : Int) + 1) ∧ s.b = b
 cat : ∀ (i : Nat) (s : SG) (g : Sg), K.si[i]? = some s → ci[i]? = some g → g.ba = s.base ∧ g.en = s.next
 f : K.f ≤ K.s.base
 nb : 1 ≤ K.s.base
 nn : ∀ n : Int, (ci.length : Int) + 1 < n → n ≤ 9223372036854775807 → Dk.get D (nmF n).data.toList = none
 cx : Dk.get D cnxB.data.toList = none
 dl : D.length ≤ 2 * ci.length + 2
theorem SI.last {b M : Nat} {K : Kst} {ci : List Sg} {se : Nat} {ti : List Td} {t : Td} {D : Dr} {F : Nat → Fl} {c : Int} (h : SI b M K ci se ti t D F c) : Sgc K.s t.sd t.hd t.ds D F t.p ∧ K.s.file = nmF ((ci.length : Int) + 1) ∧ K.s.b = b := by
 have := h.seg ci.length K.s t (by rw [← h.li]; simp) (by rw [← h.lt]; simp)
 exact this
theorem SI.few {b M : Nat} {K : Kst} {ci : List Sg} {se : Nat} {ti : List Td} {t : Td} {D : Dr} {F : Nat → Fl} {c : Int} (h : SI b M K ci se ti t D F c) : ci.length ≤ 63 := by
 have := h.may.n2
 rw [h.cs] at this
 simp at this
 omega
theorem SI.put {b M : Nat} {K : Kst} {ci : List Sg} {se : Nat} {ti : List Td} {t : Td} {D : Dr} {F : Nat → Fl} {c : Int} (h : SI b M K ci se ti t D F c) (hc : c < 800000000) (ls : List (List UInt8)) (h0 : ls ≠ []) (hd4 : ∀ d ∈ ls, d.length ≤ 4096) (hn : K.s.next + (ls.length : Int) ≤ 9223372036854775807) (hz : K.s.size + (ls.length : Int) * 4112 ≤ 2147483647) (hl : t.ds.length + ls.length ≤ 1000000)
    (hM : sumL F D + (wk (wk t.sd K.s.base t.ds t.ds.length).2.2 K.s.next ls ls.length).1.length ≤ M) :
    PutPre b K (wk t.sd K.s.base t.ds t.ds.length).2.2 ls ∧ ∃ F', SI b M (K.put (wk t.sd K.s.base t.ds t.ds.length).2.2 ls) ci se ti { t with ds := t.ds ++ ls } D F' (c + 1) ∧
     sumL F' D = sumL F D + (wk (wk t.sd K.s.base t.ds t.ds.length).2.2 K.s.next ls ls.length).1.length ∧ (K.put (wk t.sd K.s.base t.ds t.ds.length).2.2 ls).s.base = K.s.base := by
 obtain ⟨hs, hf, hb⟩ := h.last
 obtain ⟨e1, e2, hS, hCa, hsum⟩ := hs.put h.ca ls h0 hd4 hn hz (by omega) hM
 obtain ⟨g1, g2, g3, g4, g5, g6, g7⟩ := gk_b K.s (wk (wk t.sd K.s.base t.ds t.ds.length).2.2 K.s.next ls ls.length).2.1 ls.length
 have hfew := h.few
 have hK : (K.put (wk t.sd K.s.base t.ds t.ds.length).2.2 ls) = { K with s := gk K.s (wk (wk t.sd K.s.base t.ds t.ds.length).2.2 K.s.next ls ls.length).2.1 ls.length, S := (K.S.append K.s.file (wk (wk t.sd K.s.base t.ds t.ds.length).2.2 K.s.next ls ls.length).1).1 } := by
  unfold Kst.put
  rw [e2]
 have hsl := hs.sl
 refine ⟨⟨hs.co.ok, hs.co.e, h0, by omega, hz, by omega, by rw [hf, nmF_size]; decide, by rw [h.ca.c7]; omega, by rw [e1], by rw [e2]; show (gk _ _ _).b = b; rw [g1]; exact hb, by rw [h.li]; omega⟩, _, ?_, hsum, by rw [hK]; exact g4⟩
 rw [hK]
 refine ⟨hCa, (by show K.cs = ci ++ [⟨(ci.length : Int) + 1, (gk _ _ _).base, se, 0, 0⟩]; rw [g4]; exact h.cs), h.li, h.lt, h.g, h.may, fun i s u hi hu => ?_, h.cat, by show K.f ≤ (gk _ _ _).base; rw [g4]; exact h.f, by show 1 ≤ (gk _ _ _).base; rw [g4]; exact h.nb, h.nn, h.cx, h.dl⟩
 rcases snoc_at hi with ⟨hi1, hi2⟩ | ⟨hi1, rfl⟩
 ·rcases snoc_at hu with ⟨hu1, hu2⟩ | ⟨hu1, _⟩
  ·have a := h.seg i s u (by rw [List.getElem?_append_left hi1]; exact hi2) (by rw [List.getElem?_append_left hu1]; exact hu2)
   refine ⟨a.1.keep a.1.gt ?_, a.2⟩
   have hne : u.p ≠ t.p := h.ca.other a.1.gt hs.gt (by
    rw [a.2.1, hf]
    intro cc
    have h1 : K.si.length = ci.length := h.li
    have h3 : i < K.si.length := hi1
    have := nmF_inj (by omega) (by omega) (by omega) (by omega) cc
    omega)
   rw [upd_ne _ _ hne]
  ·have h1 : K.si.length = ci.length := h.li
   have h2 : ti.length = ci.length := h.lt
   have h3 : i < K.si.length := hi1
   omega
 ·rcases snoc_at hu with ⟨hu1, hu2⟩ | ⟨hu1, rfl⟩
  ·have h1 : K.si.length = ci.length := h.li
   have h2 : ti.length = ci.length := h.lt
   have h3 : i = K.si.length := hi1
   omega
  ·have h3 : i = K.si.length := hi1
   refine ⟨hS, ?_, by rw [g1]; exact hb⟩
   rw [g2, hf, h3, h.li]
end Go.Proofs.YtnimildpcnmjeaaGreatDoor.St
