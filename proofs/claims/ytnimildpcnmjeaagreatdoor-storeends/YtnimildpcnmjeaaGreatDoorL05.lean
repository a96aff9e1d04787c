/-
  May a catalog be: the program's, whole.
-/
import Derived.Test.YtnimildpcnmjeaaGreatDoorL03
import Derived.Deep.AppendLies
import Derived.Deep.RegionHeld3
import Derived.Deep.CutRange
import Derived.Deep.RegionLaw
import Derived.BigRegion
import Derived.Maps.AppendAt
import Derived.Test.YtnimildpcnmjeaaGreatDoorL01
set_option maxRecDepth 100000
set_option maxHeartbeats 40000000
set_option linter.unusedVariables false
namespace Go.Proofs.YtnimildpcnmjeaaGreatDoor.Ct
open Go.RowKit
def DoesMay (f : Nat) : Prop := ∀ (w : World) (g fi : Int) (v : Value) (l : List Sg), Sgs w v l →
 Calls Tryz.prog f #[.agg #[.int .i64 g, .int .i64 fi, v]] w fun e w' => e = .returned (.bool (mayB g fi l)) ∧ Below w.heap.size w w'
theorem three_cells {w : World} {b : Nat} {a0 a1 a2 : Value} {T : TypeId} (h : w.heap[b]? = some (.cells #[a0, a1, a2] T (0, 0))) : w.cell? ⟨b, 0, none⟩ = some a0 ∧ w.cell? ⟨b, 1, none⟩ = some a1 ∧ w.cell? ⟨b, 2, none⟩ = some a2 := by
 simp [World.cell?, h]
theorem five_cells {w : World} {b : Nat} {a0 a1 a2 a3 a4 : Value} {T : TypeId} (h : w.heap[b]? = some (.cells #[a0, a1, a2, a3, a4] T (0, 0))) : w.cell? ⟨b, 0, none⟩ = some a0 ∧ w.cell? ⟨b, 1, none⟩ = some a1 ∧ w.cell? ⟨b, 2, none⟩ = some a2 ∧ w.cell? ⟨b, 3, none⟩ = some a3 ∧ w.cell? ⟨b, 4, none⟩ = some a4 := by
 simp [World.cell?, h]
theorem may_any : DoesMay 58 := by
 intro w g fi v l hv
 have HV := hide hv
 obtain ⟨N, hN⟩ : ∃ N, Hid (l.length = N) := ⟨_, rfl⟩
 obtain ⟨ao, ca, rfl, q1, q2⟩ := hv.form
 have hA := hide hv.1
 rw [hN.out] at q1 ⊢
 have hB := hide (box_below w (.cells #[.int .i64 g, .int .i64 fi, .slice ao N ca] 47))
 by_cases h1 : g < 1
 ·have hE := hide (mayB_f (fun c : May g fi l => absurd c.g1 (by omega)))
  clear hv
  go_enter Tryz.func58, Tryz.ntmps58
  go_wp2_with fail
  go_ret
  exact ⟨by rw [hE.out]; rfl, hB.out⟩
 by_cases h2 : N < 1
 ·have hE := hide (mayB_f (fun c : May g fi l => absurd c.n1 (by rw [hN.out]; omega)))
  obtain rfl : N = 0 := by omega
  clear hv
  go_enter Tryz.func58, Tryz.ntmps58
  go_wp2_with fail
  go_ret
  exact ⟨by rw [hE.out]; rfl, hB.out⟩
 by_cases h3 : (64 : Int) < (N : Int)
 ·have hE := hide (mayB_f (fun c : May g fi l => absurd c.n2 (by rw [hN.out]; omega)))
  have h2' : ¬ (N : Int) < 1 := by omega
  clear hv
  go_enter Tryz.func58, Tryz.ntmps58
  go_wp2_with fail
  go_ret
  exact ⟨by rw [hE.out]; rfl, hB.out⟩
 obtain ⟨b, off, ca', e, _, _, hc⟩ := hv.at (by rw [hN.out]; omega)
 rw [hN.out] at e hc
 simp only [Value.slice.injEq, true_and] at e
 obtain ⟨rfl, rfl⟩ := e
 obtain ⟨M, rfl⟩ : ∃ M, N = M + 1 := ⟨N - 1, by omega⟩
 have HC := hide hc
 have h2' : ¬ ((M : Int) + 1) < 1 := by omega
 have h3' : ¬ (64 : Int) < (M : Int) + 1 := by omega
 have hw0 : IntKind.i64.wrap (M : Int) = (M : Int) := by rw [IntKind.wrap_i64]; omega
 have i1 : M ≤ ca := by omega
 have hM : M ≤ 63 := by omega
 have hbx := hide (heap_alloc_new w (.cells #[.int .i64 g, .int .i64 fi, .slice (some ⟨b, off, none⟩) (M + 1) ca] 47))
 have HC1 : Hid (∀ i, i < M + 1 → SAt (w.alloc (.cells #[.int .i64 g, .int .i64 fi, .slice (some ⟨b, off, none⟩) (M + 1) ca] 47)) b (off + i * 5) (sg l i)) := fun i hi => (hc i hi).below (box_below _ _)
 clear hv hc h2 h3 HC HV
 go_enter Tryz.func58, Tryz.ntmps58
 go_wp2_with fail
 have hlow := hide hB.out.size
 generalize hq : w.alloc (.cells #[.int .i64 g, .int .i64 fi, .slice (some ⟨b, off, none⟩) (M + 1) ca] 47) = w1 at *
 generalize hq0 : w.heap.size = cb at *
 replace hq0 := hide hq0
 clear hq
 go_loopw [26] (fun vi wr => ∃ i : Nat, i ≤ M ∧ vi = .int .i64 (i : Int) ∧ Hid (Below w1.heap.size w1 wr) ∧ Hid (∀ j, j < i → slF (sg l j) ∧ foF (sg l j) (sg l (j + 1)))) (fun vi _ => M - (intOf vi).toNat)
 case atStart => exact ⟨0, Nat.zero_le _, rfl, Below.refl _ _, fun j hj => by omega⟩
 case round =>
  obtain ⟨i, hi, rfl, hW, hL⟩ := hrel
  by_cases hlt : i < M
  ·obtain ⟨k0, k1, k2, k3, k4⟩ := (HC1.out i (by omega)).below hW.out
   have HT := hide ((HC1.out (i + 1) (by omega)).below hW.out)
   have hsi := (hA.out.sg i).a1
   have hcw : Hid (wr.heap[cb]? = some (.cells #[.int .i64 g, .int .i64 fi, .slice (some ⟨b, off, none⟩) (M + 1) ca] 47 (0, 0))) := by show _ = _; rw [hW.out.block cb (heap_lt hbx.out)]; exact hbx.out
   obtain ⟨s, hs⟩ : ∃ s, Hid (sg l i = s) := ⟨_, rfl⟩
   obtain ⟨t, ht⟩ : ∃ t, Hid (sg l (i + 1) = t) := ⟨_, rfl⟩
   rw [hs.out] at k0 k1 k2 k3 k4 hsi
   rw [ht.out] at HT
   have hNm : ¬ (slF s ∧ foF s t) → Hid (mayB g fi l = false) := fun c => mayB_f fun m => c (by have := m.lk i (by rw [hN.out]; omega); rw [hs.out, ht.out] at this; exact this)
   have C1 := hide (fun u => maySealed_any u s)
   have C2 := hide (fun u => follows_any u s t hsi)
   obtain ⟨nm, ba, se, en, sz⟩ := s
   dsimp only at k0 k1 k2 k3 k4 C1 C2
   have X0 := hide (box_below wr (.cells #[.int .i64 nm, .int .i64 ba, .int .u32 (se : Int), .int .i64 en, .int .i64 sz] 51))
   have X1 := hide (heap_alloc_new wr (.cells #[.int .i64 nm, .int .i64 ba, .int .u32 (se : Int), .int .i64 en, .int .i64 sz] 51))
   have Y0 : Hid (Below w1.heap.size w1 (wr.alloc (.cells #[.int .i64 nm, .int .i64 ba, .int .u32 (se : Int), .int .i64 en, .int .i64 sz] 51))) := keepF hW.out X0.out
   have T2 := hide (HT.out.below X0.out)
   have W2 : Hid ((wr.alloc (.cells #[.int .i64 nm, .int .i64 ba, .int .u32 (se : Int), .int .i64 en, .int .i64 sz] 51)).heap[cb]? = some (.cells #[.int .i64 g, .int .i64 fi, .slice (some ⟨b, off, none⟩) (M + 1) ca] 47 (0, 0))) := by show _ = _; rw [X0.out.block cb (heap_lt hcw.out)]; exact hcw.out
   have hw1 : IntKind.i64.wrap ((i : Int) + 1) = (i : Int) + 1 := by rw [IntKind.wrap_i64]; omega
   have hlt1 : (i : Int) + 1 < (M : Int) + 1 := by omega
   have hng7 : ¬ ((M : Int) ≤ (i : Int)) := by omega
   have h07 : (0 : Int) ≤ (i : Int) + 1 := by omega
   go_upto_region 7 with fail
   generalize hq2 : wr.alloc (.cells #[.int .i64 nm, .int .i64 ba, .int .u32 (se : Int), .int .i64 en, .int .i64 sz] 51) = w2 at *
   generalize hq3 : wr.heap.size = sb at *
   clear hq2 hq3
   obtain ⟨nm', ba', se', en', sz'⟩ := t
   have KS : Hid (∀ q, Below w2.heap.size w2 q → (q.cell? ⟨sb, 0, none⟩ = some (.int .i64 nm) ∧ q.cell? ⟨sb, 1, none⟩ = some (.int .i64 ba) ∧ q.cell? ⟨sb, 2, none⟩ = some (.int .u32 (se : Int)) ∧ q.cell? ⟨sb, 3, none⟩ = some (.int .i64 en) ∧ q.cell? ⟨sb, 4, none⟩ = some (.int .i64 sz)) ∧ q.cell? ⟨cb, 2, none⟩ = some (.slice (some ⟨b, off, none⟩) (M + 1) ca) ∧ SAt q b (off + (i + 1) * 5) ⟨nm', ba', se', en', sz'⟩) := by
    intro q hb
    exact ⟨five_cells (by rw [hb.block sb (heap_lt X1.out)]; exact X1.out), (three_cells (by rw [hb.block cb (heap_lt W2.out)]; exact W2.out)).2.2, T2.out.below hb⟩
   have hS0 := KS.out w2.drew (Below.refl _ _).drew
   simp only [SAt] at hS0 KS
   clear k0 k1 k2 k3 k4
   go_cut [44] from 31 to 44 (fun y wx => ((y = .bool false ∧ Hid (slF ⟨nm, ba, se, en, sz⟩ ∧ foF ⟨nm, ba, se, en, sz⟩ ⟨nm', ba', se', en', sz'⟩)) ∨ (y = .bool true ∧ Hid (¬ (slF ⟨nm, ba, se, en, sz⟩ ∧ foF ⟨nm, ba, se, en, sz⟩ ⟨nm', ba', se', en', sz'⟩)))) ∧ Hid (Below w2.heap.size w2 wx))
   case first =>
    by_cases hsl : slF ⟨nm, ba, se, en, sz⟩
    ·have C1t : Hid (∀ u, Calls Tryz.prog 92 #[.agg #[.int .i64 nm, .int .i64 ba, .int .u32 (se : Int), .int .i64 en, .int .i64 sz]] u fun e w' => e = .returned (.bool true) ∧ Below u.heap.size u w') := fun u => (C1.out u).mono fun e w' ⟨h, b⟩ => ⟨by rcases h with ⟨h, _⟩ | ⟨_, h⟩; exact h; exact absurd hsl h, b⟩
     by_cases hfo : foF ⟨nm, ba, se, en, sz⟩ ⟨nm', ba', se', en', sz'⟩
     ·have C2t : Hid (∀ u, Calls Tryz.prog 93 #[.agg #[.int .i64 nm, .int .i64 ba, .int .u32 (se : Int), .int .i64 en, .int .i64 sz], .agg #[.int .i64 nm', .int .i64 ba', .int .u32 (se' : Int), .int .i64 en', .int .i64 sz']] u fun e w' => e = .returned (.bool true) ∧ Below u.heap.size u w') := fun u => (C2.out u).mono fun e w' ⟨h, b⟩ => ⟨by rcases h with ⟨h, _⟩ | ⟨_, h⟩; exact h; exact absurd hfo h, b⟩
      have hF := hide (And.intro hsl hfo)
      clear hsl hfo C1 C2 hNm
      go_region_held3 (fun q => (q.cell? ⟨sb, 0, none⟩ = some (.int .i64 nm) ∧ q.cell? ⟨sb, 1, none⟩ = some (.int .i64 ba) ∧ q.cell? ⟨sb, 2, none⟩ = some (.int .u32 (se : Int)) ∧ q.cell? ⟨sb, 3, none⟩ = some (.int .i64 en) ∧ q.cell? ⟨sb, 4, none⟩ = some (.int .i64 sz)) ∧ q.cell? ⟨cb, 2, none⟩ = some (.slice (some ⟨b, off, none⟩) (M + 1) ca) ∧ q.cell? ⟨b, off + (i + 1) * 5, none⟩ = some (.int .i64 nm') ∧ q.cell? ⟨b, off + (i + 1) * 5 + 1, none⟩ = some (.int .i64 ba') ∧ q.cell? ⟨b, off + (i + 1) * 5 + 2, none⟩ = some (.int .u32 (se' : Int)) ∧ q.cell? ⟨b, off + (i + 1) * 5 + 3, none⟩ = some (.int .i64 en') ∧ q.cell? ⟨b, off + (i + 1) * 5 + 4, none⟩ = some (.int .i64 sz'))
       (first | exact hS0 | assumption | exact KS.out _ (by assumption) | fail)
       (first
        | (go_at_call 92; refine (C1t.out _).mono ?_; rintro e u1 ⟨rfl, B1⟩; replace B1 := keepF (Below.refl _ _).drew B1)
        | (go_at_call 93; refine (C2t.out _).mono ?_; rintro e u2 ⟨rfl, B2⟩; replace B2 := keepF (by assumption) B2)
        | fail)
      all_goals
       go_wp2_with fail
       go_meet
       case rel => exact ⟨.inl ⟨by first | rfl | simp, hF⟩, by assumption⟩
     ·have C2t : Hid (∀ u, Calls Tryz.prog 93 #[.agg #[.int .i64 nm, .int .i64 ba, .int .u32 (se : Int), .int .i64 en, .int .i64 sz], .agg #[.int .i64 nm', .int .i64 ba', .int .u32 (se' : Int), .int .i64 en', .int .i64 sz']] u fun e w' => e = .returned (.bool false) ∧ Below u.heap.size u w') := fun u => (C2.out u).mono fun e w' ⟨h, b⟩ => ⟨by rcases h with ⟨_, h⟩ | ⟨h, _⟩; exact absurd h hfo; exact h, b⟩
      have hF := hide (fun c : slF ⟨nm, ba, se, en, sz⟩ ∧ foF ⟨nm, ba, se, en, sz⟩ ⟨nm', ba', se', en', sz'⟩ => hfo c.2)
      clear hsl hfo C1 C2 hNm
      go_region_held3 (fun q => (q.cell? ⟨sb, 0, none⟩ = some (.int .i64 nm) ∧ q.cell? ⟨sb, 1, none⟩ = some (.int .i64 ba) ∧ q.cell? ⟨sb, 2, none⟩ = some (.int .u32 (se : Int)) ∧ q.cell? ⟨sb, 3, none⟩ = some (.int .i64 en) ∧ q.cell? ⟨sb, 4, none⟩ = some (.int .i64 sz)) ∧ q.cell? ⟨cb, 2, none⟩ = some (.slice (some ⟨b, off, none⟩) (M + 1) ca) ∧ q.cell? ⟨b, off + (i + 1) * 5, none⟩ = some (.int .i64 nm') ∧ q.cell? ⟨b, off + (i + 1) * 5 + 1, none⟩ = some (.int .i64 ba') ∧ q.cell? ⟨b, off + (i + 1) * 5 + 2, none⟩ = some (.int .u32 (se' : Int)) ∧ q.cell? ⟨b, off + (i + 1) * 5 + 3, none⟩ = some (.int .i64 en') ∧ q.cell? ⟨b, off + (i + 1) * 5 + 4, none⟩ = some (.int .i64 sz'))
       (first | exact hS0 | assumption | exact KS.out _ (by assumption) | fail)
       (first
        | (go_at_call 92; refine (C1t.out _).mono ?_; rintro e u1 ⟨rfl, B1⟩; replace B1 := keepF (Below.refl _ _).drew B1)
        | (go_at_call 93; refine (C2t.out _).mono ?_; rintro e u2 ⟨rfl, B2⟩; replace B2 := keepF (by assumption) B2)
        | fail)
      all_goals
       go_wp2_with fail
       go_meet
       case rel => exact ⟨.inr ⟨by first | rfl | simp, hF⟩, by assumption⟩
    ·have C1t : Hid (∀ u, Calls Tryz.prog 92 #[.agg #[.int .i64 nm, .int .i64 ba, .int .u32 (se : Int), .int .i64 en, .int .i64 sz]] u fun e w' => e = .returned (.bool false) ∧ Below u.heap.size u w') := fun u => (C1.out u).mono fun e w' ⟨h, b⟩ => ⟨by rcases h with ⟨_, h⟩ | ⟨h, _⟩; exact absurd h hsl; exact h, b⟩
     have hF := hide (fun c : slF ⟨nm, ba, se, en, sz⟩ ∧ foF ⟨nm, ba, se, en, sz⟩ ⟨nm', ba', se', en', sz'⟩ => hsl c.1)
     clear hsl C1 C2 hNm
     have hS0 : ((fun q => (q.cell? ⟨sb, 0, none⟩ = some (.int .i64 nm) ∧ q.cell? ⟨sb, 1, none⟩ = some (.int .i64 ba) ∧ q.cell? ⟨sb, 2, none⟩ = some (.int .u32 (se : Int)) ∧ q.cell? ⟨sb, 3, none⟩ = some (.int .i64 en) ∧ q.cell? ⟨sb, 4, none⟩ = some (.int .i64 sz)) ∧ Below w2.heap.size w2 q)) w2.drew := ⟨(KS.out w2.drew (Below.refl _ _).drew).1, (Below.refl _ _).drew⟩
     refine wp_region_held_drew (S := (fun q => (q.cell? ⟨sb, 0, none⟩ = some (.int .i64 nm) ∧ q.cell? ⟨sb, 1, none⟩ = some (.int .i64 ba) ∧ q.cell? ⟨sb, 2, none⟩ = some (.int .u32 (se : Int)) ∧ q.cell? ⟨sb, 3, none⟩ = some (.int .i64 en) ∧ q.cell? ⟨sb, 4, none⟩ = some (.int .i64 sz)) ∧ Below w2.heap.size w2 q)) (by kernel_rfl) hS0 (fun hHeld => ?_)
     clear hHeld
     refine wpAnyH_take (i := 0) (oi := ⟨some 31, .load 51 (.tmp 5), _, _, _, _⟩) (v := .agg #[.int .i64 nm, .int .i64 ba, .int .u32 (se : Int), .int .i64 en, .int .i64 sz]) rfl (by kernel_rfl) (by kernel_rfl) (by kernel_rfl) (fun _ _ _ h => h) (Or.inl ⟨by rfl, ?_⟩) hS0 ?_
     ·intro wq hSw
      obtain ⟨⟨d0, d1, d2, d3, d4⟩, _⟩ := hSw
      go_simp
     (try simp only [zzp, zzb, zzc])
     refine wpAnyH_ready (rs := [1]) (by kernel_rfl) (by simp) ?_
     refine AllReadyH.cons (o := ⟨some 32, .call { callee := .value (.func 92), args := #[.tmp 31], argTypes := #[51] }, _, _, _, _⟩) rfl (fun K hK => ?_) AllReadyH.nil
     go_simp
     refine (C1t.out _).mono ?_
     rintro ee u1 ⟨rfl, BB⟩
     have KP : Below w2.heap.size w2 u1 := keepF (Below.refl _ w2).drew BB
     have hS1 : ((fun q => (q.cell? ⟨sb, 0, none⟩ = some (.int .i64 nm) ∧ q.cell? ⟨sb, 1, none⟩ = some (.int .i64 ba) ∧ q.cell? ⟨sb, 2, none⟩ = some (.int .u32 (se : Int)) ∧ q.cell? ⟨sb, 3, none⟩ = some (.int .i64 en) ∧ q.cell? ⟨sb, 4, none⟩ = some (.int .i64 sz)) ∧ Below w2.heap.size w2 q)) u1 := ⟨(KS.out u1 KP).1, KP⟩
     refine hK.out _ _ hS1 (fun hHeld => ?_)
     clear hK K hHeld
     (try simp only [zzp, zzb, zzc])
     refine wpAnyH_take (i := 2) (oi := ⟨some 33, .unOp .not 4 (.tmp 32), _, _, _, _⟩) (v := .bool true) rfl (by kernel_rfl) (by kernel_rfl) (by kernel_rfl) (fun _ _ _ h => h) (Or.inl ⟨by rfl, ?_⟩) hS1 ?_
     ·intro wq hSw; go_simp
     (try simp only [zzp, zzb, zzc])
     refine wpAnyH_take (i := 3) (oi := ⟨some 34, .move (.tmp 33), _, _, _, _⟩) (v := .bool true) rfl (by kernel_rfl) (by kernel_rfl) (by kernel_rfl) (fun _ _ _ h => h) (Or.inl ⟨by rfl, ?_⟩) hS1 ?_
     ·intro wq hSw; go_simp
     (try simp only [zzp, zzb, zzc])
     refine wpAnyH_take (i := 4) (oi := ⟨some 35, .load 51 (.tmp 5), _, _, _, _⟩) (v := undef) rfl (by kernel_rfl) (by kernel_rfl) (by kernel_rfl) (fun _ _ _ h => h) (Or.inr ⟨by rfl, rfl⟩) hS1 ?_
     (try simp only [zzp, zzb, zzc])
     refine wpAnyH_take (i := 5) (oi := ⟨some 36, .fieldAddr 47 (.tmp 1) 2, _, _, _, _⟩) (v := undef) rfl (by kernel_rfl) (by kernel_rfl) (by kernel_rfl) (fun _ _ _ h => h) (Or.inr ⟨by rfl, rfl⟩) hS1 ?_
     (try simp only [zzp, zzb, zzc])
     refine wpAnyH_take (i := 6) (oi := ⟨some 37, .load 45 (.tmp 36), _, _, _, _⟩) (v := undef) rfl (by kernel_rfl) (by kernel_rfl) (by kernel_rfl) (fun _ _ _ h => h) (Or.inr ⟨by rfl, rfl⟩) hS1 ?_
     (try simp only [zzp, zzb, zzc])
     refine wpAnyH_take (i := 7) (oi := ⟨some 38, .move (.tmp 4), _, _, _, _⟩) (v := undef) rfl (by kernel_rfl) (by kernel_rfl) (by kernel_rfl) (fun _ _ _ h => h) (Or.inr ⟨by rfl, rfl⟩) hS1 ?_
     (try simp only [zzp, zzb, zzc])
     refine wpAnyH_take (i := 8) (oi := ⟨some 39, .binOp .add 3 (.tmp 38) (.const (Value.int IntKind.i64 1)) 3, _, _, _, _⟩) (v := undef) rfl (by kernel_rfl) (by kernel_rfl) (by kernel_rfl) (fun _ _ _ h => h) (Or.inr ⟨by rfl, rfl⟩) hS1 ?_
     (try simp only [zzp, zzb, zzc])
     refine wpAnyH_take (i := 9) (oi := ⟨some 40, .indexAddr 45 (.tmp 37) (.tmp 39), _, _, _, _⟩) (v := undef) rfl (by kernel_rfl) (by kernel_rfl) (by kernel_rfl) (fun _ _ _ h => h) (Or.inr ⟨by rfl, rfl⟩) hS1 ?_
     (try simp only [zzp, zzb, zzc])
     refine wpAnyH_take (i := 10) (oi := ⟨some 41, .load 51 (.tmp 40), _, _, _, _⟩) (v := undef) rfl (by kernel_rfl) (by kernel_rfl) (by kernel_rfl) (fun _ _ _ h => h) (Or.inr ⟨by rfl, rfl⟩) hS1 ?_
     (try simp only [zzp, zzb, zzc])
     refine wpAnyH_take (i := 11) (oi := ⟨some 42, .call { callee := .value (.func 93), args := #[.tmp 35, .tmp 41], argTypes := #[51, 51] }, _, _, _, _⟩) (v := undef) rfl (by kernel_rfl) (by kernel_rfl) (by kernel_rfl) (fun _ _ _ h => h) (Or.inr ⟨by rfl, rfl⟩) hS1 ?_
     (try simp only [zzp, zzb, zzc])
     refine wpAnyH_take (i := 12) (oi := ⟨some 43, .unOp .not 4 (.tmp 42), _, _, _, _⟩) (v := undef) rfl (by kernel_rfl) (by kernel_rfl) (by kernel_rfl) (fun _ _ _ h => h) (Or.inr ⟨by rfl, rfl⟩) hS1 ?_
     (try simp only [zzp, zzb, zzc])
     refine wpAnyH_take (i := 13) (oi := ⟨some 44, .pick (.tmp 34) (.const (Value.bool true)) (.tmp 43), _, _, _, _⟩) (v := .bool true) rfl (by kernel_rfl) (by kernel_rfl) (by kernel_rfl) (fun _ _ _ h => h) (Or.inl ⟨by rfl, ?_⟩) hS1 ?_
     ·intro wq hSw; go_simp
     (try simp only [zzp, zzb, zzc])
     refine wpAnyH_done (by kernel_rfl) ?_ _
     go_wp2_with fail
     go_meet
     case rel => exact ⟨.inr ⟨by first | rfl | simp, hF⟩, KP⟩
   case rest =>
    obtain ⟨hcut, BW⟩ := hcut
    rcases hcut with ⟨rfl, hF⟩ | ⟨rfl, hF⟩
    ·have BW2 := hide (keepF Y0.out BW.out)
     have hL2 : Hid (∀ j, j < i + 1 → slF (sg l j) ∧ foF (sg l j) (sg l (j + 1))) := by
      intro j hj
      by_cases e : j = i
      ·subst e; rw [hs.out, ht.out]; exact hF.out
      ·exact hL.out j (by omega)
     clear hNm C1 C2 KS hS0
     go_wp2_with fail
     go_roundw
     case rel => exact ⟨i + 1, by omega, by go_num, BW2, hL2⟩
     case measure => simp [intOf]; omega
    ·have BW2 := hide (keepF Y0.out BW.out)
     have hE := hNm hF.out
     clear hNm C1 C2 KS hS0
     go_wp2_with fail
     go_ret
     exact ⟨by rw [hE.out]; rfl, by rw [hq0.out]; exact hB.out.trans (BW2.out.mono hlow.out)⟩
  ·obtain rfl : i = M := by omega
   have hng10 : ¬ ((i : Int) + 1 ≤ (i : Int)) := by omega
   have hcw : Hid (wr.heap[cb]? = some (.cells #[.int .i64 g, .int .i64 fi, .slice (some ⟨b, off, none⟩) (i + 1) ca] 47 (0, 0))) := by show _ = _; rw [hW.out.block cb (heap_lt hbx.out)]; exact hbx.out
   have T1 := hide ((HC1.out i (by omega)).below hW.out)
   have T2 := hide ((HC1.out 0 (by omega)).below hW.out)
   have BF : Hid (∀ u, Below wr.heap.size wr u → Below cb w u) := fun u hu => hB.out.trans ((keepF hW.out hu).mono hlow.out)
   have hM1 : Hid (mayB g fi l = true ↔ opF (sg l i) ∧ beF fi (sg l 0)) := by
    show _ ↔ _
    rw [mayB_iff]
    have hl := hN.out
    refine ⟨fun m => ⟨by have := m.op; rw [hl] at this; simpa using this, m.be⟩, fun c => ⟨h1, by omega, by omega, fun j hj => hL.out j (by omega), by rw [hl]; simpa using c.1, c.2⟩⟩
   have C1 := hide (fun u => mayOpen_any u (sg l i))
   have C2 := hide (fun u => mayBegin_any u fi (sg l 0))
   generalize sg l i = s at *
   generalize sg l 0 = t at *
   obtain ⟨nm, ba, se, en, sz⟩ := s
   obtain ⟨nm', ba', se', en', sz'⟩ := t
   dsimp only at C1 C2
   rw [Nat.zero_mul, Nat.add_zero] at T2
   have KS : Hid (∀ q, Below wr.heap.size wr q → (fun q => Below wr.heap.size wr q ∧ q.cell? ⟨cb, 1, none⟩ = some (.int .i64 fi) ∧ q.cell? ⟨cb, 2, none⟩ = some (.slice (some ⟨b, off, none⟩) (i + 1) ca) ∧ (q.cell? ⟨b, off + i * 5, none⟩ = some (.int .i64 nm) ∧ q.cell? ⟨b, off + i * 5 + 1, none⟩ = some (.int .i64 ba) ∧ q.cell? ⟨b, off + i * 5 + 2, none⟩ = some (.int .u32 (se : Int)) ∧ q.cell? ⟨b, off + i * 5 + 3, none⟩ = some (.int .i64 en) ∧ q.cell? ⟨b, off + i * 5 + 4, none⟩ = some (.int .i64 sz)) ∧ q.cell? ⟨b, off, none⟩ = some (.int .i64 nm') ∧ q.cell? ⟨b, off + 1, none⟩ = some (.int .i64 ba') ∧ q.cell? ⟨b, off + 2, none⟩ = some (.int .u32 (se' : Int)) ∧ q.cell? ⟨b, off + 3, none⟩ = some (.int .i64 en') ∧ q.cell? ⟨b, off + 4, none⟩ = some (.int .i64 sz')) q) := by
    intro q hb
    obtain ⟨_, z1, z2⟩ := three_cells (show q.heap[cb]? = _ by rw [hb.block cb (heap_lt hcw.out)]; exact hcw.out)
    exact ⟨hb, z1, z2, T1.out.below hb, T2.out.below hb⟩
   have hS0 := KS.out wr.drew (Below.refl _ _).drew
   dsimp only at hS0
   by_cases hsl : opF ⟨nm, ba, se, en, sz⟩
   ·have C1t : Hid (∀ u, Calls Tryz.prog 94 #[.agg #[.int .i64 nm, .int .i64 ba, .int .u32 (se : Int), .int .i64 en, .int .i64 sz]] u fun e w' => e = .returned (.bool true) ∧ Below u.heap.size u w') := fun u => (C1.out u).mono fun e w' ⟨h, b⟩ => ⟨by rcases h with ⟨h, _⟩ | ⟨_, h⟩; exact h; exact absurd hsl h, b⟩
    by_cases hfo : beF fi ⟨nm', ba', se', en', sz'⟩
    ·have C2t : Hid (∀ u, Calls Tryz.prog 95 #[.int .i64 fi, .agg #[.int .i64 nm', .int .i64 ba', .int .u32 (se' : Int), .int .i64 en', .int .i64 sz']] u fun e w' => e = .returned (.bool true) ∧ Below u.heap.size u w') := fun u => (C2.out u).mono fun e w' ⟨h, b⟩ => ⟨by rcases h with ⟨h, _⟩ | ⟨_, h⟩; exact h; exact absurd hfo h, b⟩
     have hE : Hid (mayB g fi l = true) := hM1.out.2 ⟨hsl, hfo⟩
     clear hsl hfo C1 C2 hM1
     go_upto_region 10 with fail
     refine wp_region_held_drew (S := (fun q => Below wr.heap.size wr q ∧ q.cell? ⟨cb, 1, none⟩ = some (.int .i64 fi) ∧ q.cell? ⟨cb, 2, none⟩ = some (.slice (some ⟨b, off, none⟩) (i + 1) ca) ∧ (q.cell? ⟨b, off + i * 5, none⟩ = some (.int .i64 nm) ∧ q.cell? ⟨b, off + i * 5 + 1, none⟩ = some (.int .i64 ba) ∧ q.cell? ⟨b, off + i * 5 + 2, none⟩ = some (.int .u32 (se : Int)) ∧ q.cell? ⟨b, off + i * 5 + 3, none⟩ = some (.int .i64 en) ∧ q.cell? ⟨b, off + i * 5 + 4, none⟩ = some (.int .i64 sz)) ∧ q.cell? ⟨b, off, none⟩ = some (.int .i64 nm') ∧ q.cell? ⟨b, off + 1, none⟩ = some (.int .i64 ba') ∧ q.cell? ⟨b, off + 2, none⟩ = some (.int .u32 (se' : Int)) ∧ q.cell? ⟨b, off + 3, none⟩ = some (.int .i64 en') ∧ q.cell? ⟨b, off + 4, none⟩ = some (.int .i64 sz'))) (by kernel_rfl) hS0 (fun hHeld => ?_)
     clear hHeld
     refine wpAnyH_take (i := 0) (oi := ⟨some 46, .fieldAddr 47 (.tmp 1) 2, _, _, _, _⟩) (v := .pointer (some ⟨cb, 2, none⟩)) rfl (by kernel_rfl) (by kernel_rfl) (by kernel_rfl) (fun _ _ _ h => h) (Or.inl ⟨by rfl, ?_⟩) hS0 ?_
     ·intro wq hSw
      obtain ⟨_, c1, c2, ⟨d0, d1, d2, d3, d4⟩, e0, e1, e2, e3, e4⟩ := hSw
      go_simp
     (try simp only [zzp, zzb, zzc])
     refine wpAnyH_take (i := 1) (oi := ⟨some 47, .load 45 (.tmp 46), _, _, _, _⟩) (v := .slice (some ⟨b, off, none⟩) (i + 1) ca) rfl (by kernel_rfl) (by kernel_rfl) (by kernel_rfl) (fun _ _ _ h => h) (Or.inl ⟨by rfl, ?_⟩) hS0 ?_
     ·intro wq hSw
      obtain ⟨_, c1, c2, ⟨d0, d1, d2, d3, d4⟩, e0, e1, e2, e3, e4⟩ := hSw
      go_simp
     (try simp only [zzp, zzb, zzc])
     refine wpAnyH_take (i := 2) (oi := ⟨some 48, .move (.tmp 3), _, _, _, _⟩) (v := .int .i64 ((i : Int) + 1)) rfl (by kernel_rfl) (by kernel_rfl) (by kernel_rfl) (fun _ _ _ h => h) (Or.inl ⟨by rfl, ?_⟩) hS0 ?_
     ·intro wq hSw
      obtain ⟨_, c1, c2, ⟨d0, d1, d2, d3, d4⟩, e0, e1, e2, e3, e4⟩ := hSw
      go_simp
     (try simp only [zzp, zzb, zzc])
     refine wpAnyH_take (i := 3) (oi := ⟨some 49, .binOp .sub 3 (.tmp 48) (.const (Value.int IntKind.i64 1)) 3, _, _, _, _⟩) (v := .int .i64 (i : Int)) rfl (by kernel_rfl) (by kernel_rfl) (by kernel_rfl) (fun _ _ _ h => h) (Or.inl ⟨by rfl, ?_⟩) hS0 ?_
     ·intro wq hSw
      obtain ⟨_, c1, c2, ⟨d0, d1, d2, d3, d4⟩, e0, e1, e2, e3, e4⟩ := hSw
      go_simp
     (try simp only [zzp, zzb, zzc])
     refine wpAnyH_take (i := 4) (oi := ⟨some 50, .indexAddr 45 (.tmp 47) (.tmp 49), _, _, _, _⟩) (v := .pointer (some ⟨b, off + i * 5, none⟩)) rfl (by kernel_rfl) (by kernel_rfl) (by kernel_rfl) (fun _ _ _ h => h) (Or.inl ⟨by rfl, ?_⟩) hS0 ?_
     ·intro wq hSw
      obtain ⟨_, c1, c2, ⟨d0, d1, d2, d3, d4⟩, e0, e1, e2, e3, e4⟩ := hSw
      go_simp
      (try (intro h; exfalso; omega))
     (try simp only [zzp, zzb, zzc])
     refine wpAnyH_take (i := 5) (oi := ⟨some 51, .load 51 (.tmp 50), _, _, _, _⟩) (v := .agg #[.int .i64 nm, .int .i64 ba, .int .u32 (se : Int), .int .i64 en, .int .i64 sz]) rfl (by kernel_rfl) (by kernel_rfl) (by kernel_rfl) (fun _ _ _ h => h) (Or.inl ⟨by rfl, ?_⟩) hS0 ?_
     ·intro wq hSw
      obtain ⟨_, c1, c2, ⟨d0, d1, d2, d3, d4⟩, e0, e1, e2, e3, e4⟩ := hSw
      go_simp
     (try simp only [zzp, zzb, zzc])
     refine wpAnyH_ready (rs := [6]) (by kernel_rfl) (by simp) ?_
     refine AllReadyH.cons (o := ⟨some 52, .call { callee := .value (.func 94), args := #[.tmp 51], argTypes := #[51] }, _, _, _, _⟩) rfl (fun K hK => ?_) AllReadyH.nil
     go_simp
     refine (C1t.out _).mono ?_
     rintro ee u1 ⟨rfl, BB⟩
     have KP : Below wr.heap.size wr u1 := keepF (Below.refl _ wr).drew BB
     have hS1 := KS.out u1 KP
     dsimp only at hS1
     refine hK.out _ _ hS1 (fun hHeld => ?_)
     clear hK K hHeld
     (try simp only [zzp, zzb, zzc])
     refine wpAnyH_take (i := 7) (oi := ⟨some 53, .move (.tmp 52), _, _, _, _⟩) (v := .bool true) rfl (by kernel_rfl) (by kernel_rfl) (by kernel_rfl) (fun _ _ _ h => h) (Or.inl ⟨by rfl, ?_⟩) hS1 ?_
     ·intro wq hSw
      obtain ⟨_, c1, c2, ⟨d0, d1, d2, d3, d4⟩, e0, e1, e2, e3, e4⟩ := hSw
      go_simp
     (try simp only [zzp, zzb, zzc])
     refine wpAnyH_take (i := 8) (oi := ⟨some 54, .fieldAddr 47 (.tmp 1) 1, _, _, _, _⟩) (v := .pointer (some ⟨cb, 1, none⟩)) rfl (by kernel_rfl) (by kernel_rfl) (by kernel_rfl) (fun _ _ _ h => h) (Or.inl ⟨by rfl, ?_⟩) hS1 ?_
     ·intro wq hSw
      obtain ⟨_, c1, c2, ⟨d0, d1, d2, d3, d4⟩, e0, e1, e2, e3, e4⟩ := hSw
      go_simp
     (try simp only [zzp, zzb, zzc])
     refine wpAnyH_take (i := 9) (oi := ⟨some 55, .load 2 (.tmp 54), _, _, _, _⟩) (v := .int .i64 fi) rfl (by kernel_rfl) (by kernel_rfl) (by kernel_rfl) (fun _ _ _ h => h) (Or.inl ⟨by rfl, ?_⟩) hS1 ?_
     ·intro wq hSw
      obtain ⟨_, c1, c2, ⟨d0, d1, d2, d3, d4⟩, e0, e1, e2, e3, e4⟩ := hSw
      go_simp
     (try simp only [zzp, zzb, zzc])
     refine wpAnyH_take (i := 10) (oi := ⟨some 56, .fieldAddr 47 (.tmp 1) 2, _, _, _, _⟩) (v := .pointer (some ⟨cb, 2, none⟩)) rfl (by kernel_rfl) (by kernel_rfl) (by kernel_rfl) (fun _ _ _ h => h) (Or.inl ⟨by rfl, ?_⟩) hS1 ?_
     ·intro wq hSw
      obtain ⟨_, c1, c2, ⟨d0, d1, d2, d3, d4⟩, e0, e1, e2, e3, e4⟩ := hSw
      go_simp
     (try simp only [zzp, zzb, zzc])
     refine wpAnyH_take (i := 11) (oi := ⟨some 57, .load 45 (.tmp 56), _, _, _, _⟩) (v := .slice (some ⟨b, off, none⟩) (i + 1) ca) rfl (by kernel_rfl) (by kernel_rfl) (by kernel_rfl) (fun _ _ _ h => h) (Or.inl ⟨by rfl, ?_⟩) hS1 ?_
     ·intro wq hSw
      obtain ⟨_, c1, c2, ⟨d0, d1, d2, d3, d4⟩, e0, e1, e2, e3, e4⟩ := hSw
      go_simp
     (try simp only [zzp, zzb, zzc])
     refine wpAnyH_take (i := 12) (oi := ⟨some 58, .indexAddr 45 (.tmp 57) (.const (Value.int IntKind.i64 0)), _, _, _, _⟩) (v := .pointer (some ⟨b, off, none⟩)) rfl (by kernel_rfl) (by kernel_rfl) (by kernel_rfl) (fun _ _ _ h => h) (Or.inl ⟨by rfl, ?_⟩) hS1 ?_
     ·intro wq hSw
      obtain ⟨_, c1, c2, ⟨d0, d1, d2, d3, d4⟩, e0, e1, e2, e3, e4⟩ := hSw
      go_simp
     (try simp only [zzp, zzb, zzc])
     refine wpAnyH_take (i := 13) (oi := ⟨some 59, .load 51 (.tmp 58), _, _, _, _⟩) (v := .agg #[.int .i64 nm', .int .i64 ba', .int .u32 (se' : Int), .int .i64 en', .int .i64 sz']) rfl (by kernel_rfl) (by kernel_rfl) (by kernel_rfl) (fun _ _ _ h => h) (Or.inl ⟨by rfl, ?_⟩) hS1 ?_
     ·intro wq hSw
      obtain ⟨_, c1, c2, ⟨d0, d1, d2, d3, d4⟩, e0, e1, e2, e3, e4⟩ := hSw
      go_simp
     (try simp only [zzp, zzb, zzc])
     refine wpAnyH_ready (rs := [14]) (by kernel_rfl) (by simp) ?_
     refine AllReadyH.cons (o := ⟨some 60, .call { callee := .value (.func 95), args := #[.tmp 55, .tmp 59], argTypes := #[2, 51] }, _, _, _, _⟩) rfl (fun K hK => ?_) AllReadyH.nil
     go_simp
     refine (C2t.out _).mono ?_
     rintro ee u2 ⟨rfl, BB⟩
     have KQ : Below wr.heap.size wr u2 := keepF KP BB
     have hS2 := KS.out u2 KQ
     dsimp only at hS2
     refine hK.out _ _ hS2 (fun hHeld => ?_)
     clear hK K hHeld
     (try simp only [zzp, zzb, zzc])
     refine wpAnyH_take (i := 15) (oi := ⟨some 61, .pick (.tmp 53) (.tmp 60) (.const (Value.bool false)), _, _, _, _⟩) (v := .bool true) rfl (by kernel_rfl) (by kernel_rfl) (by kernel_rfl) (fun _ _ _ h => h) (Or.inl ⟨by rfl, ?_⟩) hS2 ?_
     ·intro wq hSw
      obtain ⟨_, c1, c2, ⟨d0, d1, d2, d3, d4⟩, e0, e1, e2, e3, e4⟩ := hSw
      go_simp
     (try simp only [zzp, zzb, zzc])
     refine wpAnyH_take (i := 16) (oi := ⟨some 2, .assign (.tmp 61), _, _, _, _⟩) (v := .bool true) rfl (by kernel_rfl) (by kernel_rfl) (by kernel_rfl) (fun _ _ _ h => h) (Or.inl ⟨by rfl, ?_⟩) hS2 ?_
     ·intro wq hSw
      obtain ⟨_, c1, c2, ⟨d0, d1, d2, d3, d4⟩, e0, e1, e2, e3, e4⟩ := hSw
      go_simp
     (try simp only [zzp, zzb, zzc])
     refine wpAnyH_done (by kernel_rfl) ?_ _
     go_wp2_with fail
     go_ret
     exact ⟨by rw [hE.out]; rfl, by rw [hq0.out]; exact BF.out _ KQ⟩
    ·have C2t : Hid (∀ u, Calls Tryz.prog 95 #[.int .i64 fi, .agg #[.int .i64 nm', .int .i64 ba', .int .u32 (se' : Int), .int .i64 en', .int .i64 sz']] u fun e w' => e = .returned (.bool false) ∧ Below u.heap.size u w') := fun u => (C2.out u).mono fun e w' ⟨h, b⟩ => ⟨by rcases h with ⟨_, h⟩ | ⟨h, _⟩; exact absurd h hfo; exact h, b⟩
     have hE : Hid (mayB g fi l = false) := by
      show _ = _
      exact Bool.eq_false_iff.2 fun c => hfo (hM1.out.1 c).2
     clear hsl hfo C1 C2 hM1
     go_upto_region 10 with fail
     refine wp_region_held_drew (S := (fun q => Below wr.heap.size wr q ∧ q.cell? ⟨cb, 1, none⟩ = some (.int .i64 fi) ∧ q.cell? ⟨cb, 2, none⟩ = some (.slice (some ⟨b, off, none⟩) (i + 1) ca) ∧ (q.cell? ⟨b, off + i * 5, none⟩ = some (.int .i64 nm) ∧ q.cell? ⟨b, off + i * 5 + 1, none⟩ = some (.int .i64 ba) ∧ q.cell? ⟨b, off + i * 5 + 2, none⟩ = some (.int .u32 (se : Int)) ∧ q.cell? ⟨b, off + i * 5 + 3, none⟩ = some (.int .i64 en) ∧ q.cell? ⟨b, off + i * 5 + 4, none⟩ = some (.int .i64 sz)) ∧ q.cell? ⟨b, off, none⟩ = some (.int .i64 nm') ∧ q.cell? ⟨b, off + 1, none⟩ = some (.int .i64 ba') ∧ q.cell? ⟨b, off + 2, none⟩ = some (.int .u32 (se' : Int)) ∧ q.cell? ⟨b, off + 3, none⟩ = some (.int .i64 en') ∧ q.cell? ⟨b, off + 4, none⟩ = some (.int .i64 sz'))) (by kernel_rfl) hS0 (fun hHeld => ?_)
     clear hHeld
     refine wpAnyH_take (i := 0) (oi := ⟨some 46, .fieldAddr 47 (.tmp 1) 2, _, _, _, _⟩) (v := .pointer (some ⟨cb, 2, none⟩)) rfl (by kernel_rfl) (by kernel_rfl) (by kernel_rfl) (fun _ _ _ h => h) (Or.inl ⟨by rfl, ?_⟩) hS0 ?_
     ·intro wq hSw
      obtain ⟨_, c1, c2, ⟨d0, d1, d2, d3, d4⟩, e0, e1, e2, e3, e4⟩ := hSw
      go_simp
     (try simp only [zzp, zzb, zzc])
     refine wpAnyH_take (i := 1) (oi := ⟨some 47, .load 45 (.tmp 46), _, _, _, _⟩) (v := .slice (some ⟨b, off, none⟩) (i + 1) ca) rfl (by kernel_rfl) (by kernel_rfl) (by kernel_rfl) (fun _ _ _ h => h) (Or.inl ⟨by rfl, ?_⟩) hS0 ?_
     ·intro wq hSw
      obtain ⟨_, c1, c2, ⟨d0, d1, d2, d3, d4⟩, e0, e1, e2, e3, e4⟩ := hSw
      go_simp
     (try simp only [zzp, zzb, zzc])
     refine wpAnyH_take (i := 2) (oi := ⟨some 48, .move (.tmp 3), _, _, _, _⟩) (v := .int .i64 ((i : Int) + 1)) rfl (by kernel_rfl) (by kernel_rfl) (by kernel_rfl) (fun _ _ _ h => h) (Or.inl ⟨by rfl, ?_⟩) hS0 ?_
     ·intro wq hSw
      obtain ⟨_, c1, c2, ⟨d0, d1, d2, d3, d4⟩, e0, e1, e2, e3, e4⟩ := hSw
      go_simp
     (try simp only [zzp, zzb, zzc])
     refine wpAnyH_take (i := 3) (oi := ⟨some 49, .binOp .sub 3 (.tmp 48) (.const (Value.int IntKind.i64 1)) 3, _, _, _, _⟩) (v := .int .i64 (i : Int)) rfl (by kernel_rfl) (by kernel_rfl) (by kernel_rfl) (fun _ _ _ h => h) (Or.inl ⟨by rfl, ?_⟩) hS0 ?_
     ·intro wq hSw
      obtain ⟨_, c1, c2, ⟨d0, d1, d2, d3, d4⟩, e0, e1, e2, e3, e4⟩ := hSw
      go_simp
     (try simp only [zzp, zzb, zzc])
     refine wpAnyH_take (i := 4) (oi := ⟨some 50, .indexAddr 45 (.tmp 47) (.tmp 49), _, _, _, _⟩) (v := .pointer (some ⟨b, off + i * 5, none⟩)) rfl (by kernel_rfl) (by kernel_rfl) (by kernel_rfl) (fun _ _ _ h => h) (Or.inl ⟨by rfl, ?_⟩) hS0 ?_
     ·intro wq hSw
      obtain ⟨_, c1, c2, ⟨d0, d1, d2, d3, d4⟩, e0, e1, e2, e3, e4⟩ := hSw
      go_simp
      (try (intro h; exfalso; omega))
     (try simp only [zzp, zzb, zzc])
     refine wpAnyH_take (i := 5) (oi := ⟨some 51, .load 51 (.tmp 50), _, _, _, _⟩) (v := .agg #[.int .i64 nm, .int .i64 ba, .int .u32 (se : Int), .int .i64 en, .int .i64 sz]) rfl (by kernel_rfl) (by kernel_rfl) (by kernel_rfl) (fun _ _ _ h => h) (Or.inl ⟨by rfl, ?_⟩) hS0 ?_
     ·intro wq hSw
      obtain ⟨_, c1, c2, ⟨d0, d1, d2, d3, d4⟩, e0, e1, e2, e3, e4⟩ := hSw
      go_simp
     (try simp only [zzp, zzb, zzc])
     refine wpAnyH_ready (rs := [6]) (by kernel_rfl) (by simp) ?_
     refine AllReadyH.cons (o := ⟨some 52, .call { callee := .value (.func 94), args := #[.tmp 51], argTypes := #[51] }, _, _, _, _⟩) rfl (fun K hK => ?_) AllReadyH.nil
     go_simp
     refine (C1t.out _).mono ?_
     rintro ee u1 ⟨rfl, BB⟩
     have KP : Below wr.heap.size wr u1 := keepF (Below.refl _ wr).drew BB
     have hS1 := KS.out u1 KP
     dsimp only at hS1
     refine hK.out _ _ hS1 (fun hHeld => ?_)
     clear hK K hHeld
     (try simp only [zzp, zzb, zzc])
     refine wpAnyH_take (i := 7) (oi := ⟨some 53, .move (.tmp 52), _, _, _, _⟩) (v := .bool true) rfl (by kernel_rfl) (by kernel_rfl) (by kernel_rfl) (fun _ _ _ h => h) (Or.inl ⟨by rfl, ?_⟩) hS1 ?_
     ·intro wq hSw
      obtain ⟨_, c1, c2, ⟨d0, d1, d2, d3, d4⟩, e0, e1, e2, e3, e4⟩ := hSw
      go_simp
     (try simp only [zzp, zzb, zzc])
     refine wpAnyH_take (i := 8) (oi := ⟨some 54, .fieldAddr 47 (.tmp 1) 1, _, _, _, _⟩) (v := .pointer (some ⟨cb, 1, none⟩)) rfl (by kernel_rfl) (by kernel_rfl) (by kernel_rfl) (fun _ _ _ h => h) (Or.inl ⟨by rfl, ?_⟩) hS1 ?_
     ·intro wq hSw
      obtain ⟨_, c1, c2, ⟨d0, d1, d2, d3, d4⟩, e0, e1, e2, e3, e4⟩ := hSw
      go_simp
     (try simp only [zzp, zzb, zzc])
     refine wpAnyH_take (i := 9) (oi := ⟨some 55, .load 2 (.tmp 54), _, _, _, _⟩) (v := .int .i64 fi) rfl (by kernel_rfl) (by kernel_rfl) (by kernel_rfl) (fun _ _ _ h => h) (Or.inl ⟨by rfl, ?_⟩) hS1 ?_
     ·intro wq hSw
      obtain ⟨_, c1, c2, ⟨d0, d1, d2, d3, d4⟩, e0, e1, e2, e3, e4⟩ := hSw
      go_simp
     (try simp only [zzp, zzb, zzc])
     refine wpAnyH_take (i := 10) (oi := ⟨some 56, .fieldAddr 47 (.tmp 1) 2, _, _, _, _⟩) (v := .pointer (some ⟨cb, 2, none⟩)) rfl (by kernel_rfl) (by kernel_rfl) (by kernel_rfl) (fun _ _ _ h => h) (Or.inl ⟨by rfl, ?_⟩) hS1 ?_
     ·intro wq hSw
      obtain ⟨_, c1, c2, ⟨d0, d1, d2, d3, d4⟩, e0, e1, e2, e3, e4⟩ := hSw
      go_simp
     (try simp only [zzp, zzb, zzc])
     refine wpAnyH_take (i := 11) (oi := ⟨some 57, .load 45 (.tmp 56), _, _, _, _⟩) (v := .slice (some ⟨b, off, none⟩) (i + 1) ca) rfl (by kernel_rfl) (by kernel_rfl) (by kernel_rfl) (fun _ _ _ h => h) (Or.inl ⟨by rfl, ?_⟩) hS1 ?_
     ·intro wq hSw
      obtain ⟨_, c1, c2, ⟨d0, d1, d2, d3, d4⟩, e0, e1, e2, e3, e4⟩ := hSw
      go_simp
     (try simp only [zzp, zzb, zzc])
     refine wpAnyH_take (i := 12) (oi := ⟨some 58, .indexAddr 45 (.tmp 57) (.const (Value.int IntKind.i64 0)), _, _, _, _⟩) (v := .pointer (some ⟨b, off, none⟩)) rfl (by kernel_rfl) (by kernel_rfl) (by kernel_rfl) (fun _ _ _ h => h) (Or.inl ⟨by rfl, ?_⟩) hS1 ?_
     ·intro wq hSw
      obtain ⟨_, c1, c2, ⟨d0, d1, d2, d3, d4⟩, e0, e1, e2, e3, e4⟩ := hSw
      go_simp
     (try simp only [zzp, zzb, zzc])
     refine wpAnyH_take (i := 13) (oi := ⟨some 59, .load 51 (.tmp 58), _, _, _, _⟩) (v := .agg #[.int .i64 nm', .int .i64 ba', .int .u32 (se' : Int), .int .i64 en', .int .i64 sz']) rfl (by kernel_rfl) (by kernel_rfl) (by kernel_rfl) (fun _ _ _ h => h) (Or.inl ⟨by rfl, ?_⟩) hS1 ?_
     ·intro wq hSw
      obtain ⟨_, c1, c2, ⟨d0, d1, d2, d3, d4⟩, e0, e1, e2, e3, e4⟩ := hSw
      go_simp
     (try simp only [zzp, zzb, zzc])
     refine wpAnyH_ready (rs := [14]) (by kernel_rfl) (by simp) ?_
     refine AllReadyH.cons (o := ⟨some 60, .call { callee := .value (.func 95), args := #[.tmp 55, .tmp 59], argTypes := #[2, 51] }, _, _, _, _⟩) rfl (fun K hK => ?_) AllReadyH.nil
     go_simp
     refine (C2t.out _).mono ?_
     rintro ee u2 ⟨rfl, BB⟩
     have KQ : Below wr.heap.size wr u2 := keepF KP BB
     have hS2 := KS.out u2 KQ
     dsimp only at hS2
     refine hK.out _ _ hS2 (fun hHeld => ?_)
     clear hK K hHeld
     (try simp only [zzp, zzb, zzc])
     refine wpAnyH_take (i := 15) (oi := ⟨some 61, .pick (.tmp 53) (.tmp 60) (.const (Value.bool false)), _, _, _, _⟩) (v := .bool false) rfl (by kernel_rfl) (by kernel_rfl) (by kernel_rfl) (fun _ _ _ h => h) (Or.inl ⟨by rfl, ?_⟩) hS2 ?_
     ·intro wq hSw
      obtain ⟨_, c1, c2, ⟨d0, d1, d2, d3, d4⟩, e0, e1, e2, e3, e4⟩ := hSw
      go_simp
     (try simp only [zzp, zzb, zzc])
     refine wpAnyH_take (i := 16) (oi := ⟨some 2, .assign (.tmp 61), _, _, _, _⟩) (v := .bool false) rfl (by kernel_rfl) (by kernel_rfl) (by kernel_rfl) (fun _ _ _ h => h) (Or.inl ⟨by rfl, ?_⟩) hS2 ?_
     ·intro wq hSw
      obtain ⟨_, c1, c2, ⟨d0, d1, d2, d3, d4⟩, e0, e1, e2, e3, e4⟩ := hSw
      go_simp
     (try simp only [zzp, zzb, zzc])
     refine wpAnyH_done (by kernel_rfl) ?_ _
     go_wp2_with fail
     go_ret
     exact ⟨by rw [hE.out]; rfl, by rw [hq0.out]; exact BF.out _ KQ⟩
   ·have C1t : Hid (∀ u, Calls Tryz.prog 94 #[.agg #[.int .i64 nm, .int .i64 ba, .int .u32 (se : Int), .int .i64 en, .int .i64 sz]] u fun e w' => e = .returned (.bool false) ∧ Below u.heap.size u w') := fun u => (C1.out u).mono fun e w' ⟨h, b⟩ => ⟨by rcases h with ⟨_, h⟩ | ⟨h, _⟩; exact absurd h hsl; exact h, b⟩
    have hE : Hid (mayB g fi l = false) := by
     show _ = _
     exact Bool.eq_false_iff.2 fun c => hsl (hM1.out.1 c).1
    clear hsl C1 C2 hM1
    go_upto_region 10 with fail
    refine wp_region_held_drew (S := (fun q => Below wr.heap.size wr q ∧ q.cell? ⟨cb, 1, none⟩ = some (.int .i64 fi) ∧ q.cell? ⟨cb, 2, none⟩ = some (.slice (some ⟨b, off, none⟩) (i + 1) ca) ∧ (q.cell? ⟨b, off + i * 5, none⟩ = some (.int .i64 nm) ∧ q.cell? ⟨b, off + i * 5 + 1, none⟩ = some (.int .i64 ba) ∧ q.cell? ⟨b, off + i * 5 + 2, none⟩ = some (.int .u32 (se : Int)) ∧ q.cell? ⟨b, off + i * 5 + 3, none⟩ = some (.int .i64 en) ∧ q.cell? ⟨b, off + i * 5 + 4, none⟩ = some (.int .i64 sz)) ∧ q.cell? ⟨b, off, none⟩ = some (.int .i64 nm') ∧ q.cell? ⟨b, off + 1, none⟩ = some (.int .i64 ba') ∧ q.cell? ⟨b, off + 2, none⟩ = some (.int .u32 (se' : Int)) ∧ q.cell? ⟨b, off + 3, none⟩ = some (.int .i64 en') ∧ q.cell? ⟨b, off + 4, none⟩ = some (.int .i64 sz'))) (by kernel_rfl) hS0 (fun hHeld => ?_)
    clear hHeld
    refine wpAnyH_take (i := 0) (oi := ⟨some 46, .fieldAddr 47 (.tmp 1) 2, _, _, _, _⟩) (v := .pointer (some ⟨cb, 2, none⟩)) rfl (by kernel_rfl) (by kernel_rfl) (by kernel_rfl) (fun _ _ _ h => h) (Or.inl ⟨by rfl, ?_⟩) hS0 ?_
    ·intro wq hSw
     obtain ⟨_, c1, c2, ⟨d0, d1, d2, d3, d4⟩, e0, e1, e2, e3, e4⟩ := hSw
     go_simp
    (try simp only [zzp, zzb, zzc])
    refine wpAnyH_take (i := 1) (oi := ⟨some 47, .load 45 (.tmp 46), _, _, _, _⟩) (v := .slice (some ⟨b, off, none⟩) (i + 1) ca) rfl (by kernel_rfl) (by kernel_rfl) (by kernel_rfl) (fun _ _ _ h => h) (Or.inl ⟨by rfl, ?_⟩) hS0 ?_
    ·intro wq hSw
     obtain ⟨_, c1, c2, ⟨d0, d1, d2, d3, d4⟩, e0, e1, e2, e3, e4⟩ := hSw
     go_simp
    (try simp only [zzp, zzb, zzc])
    refine wpAnyH_take (i := 2) (oi := ⟨some 48, .move (.tmp 3), _, _, _, _⟩) (v := .int .i64 ((i : Int) + 1)) rfl (by kernel_rfl) (by kernel_rfl) (by kernel_rfl) (fun _ _ _ h => h) (Or.inl ⟨by rfl, ?_⟩) hS0 ?_
    ·intro wq hSw
     obtain ⟨_, c1, c2, ⟨d0, d1, d2, d3, d4⟩, e0, e1, e2, e3, e4⟩ := hSw
     go_simp
    (try simp only [zzp, zzb, zzc])
    refine wpAnyH_take (i := 3) (oi := ⟨some 49, .binOp .sub 3 (.tmp 48) (.const (Value.int IntKind.i64 1)) 3, _, _, _, _⟩) (v := .int .i64 (i : Int)) rfl (by kernel_rfl) (by kernel_rfl) (by kernel_rfl) (fun _ _ _ h => h) (Or.inl ⟨by rfl, ?_⟩) hS0 ?_
    ·intro wq hSw
     obtain ⟨_, c1, c2, ⟨d0, d1, d2, d3, d4⟩, e0, e1, e2, e3, e4⟩ := hSw
     go_simp
    (try simp only [zzp, zzb, zzc])
    refine wpAnyH_take (i := 4) (oi := ⟨some 50, .indexAddr 45 (.tmp 47) (.tmp 49), _, _, _, _⟩) (v := .pointer (some ⟨b, off + i * 5, none⟩)) rfl (by kernel_rfl) (by kernel_rfl) (by kernel_rfl) (fun _ _ _ h => h) (Or.inl ⟨by rfl, ?_⟩) hS0 ?_
    ·intro wq hSw
     obtain ⟨_, c1, c2, ⟨d0, d1, d2, d3, d4⟩, e0, e1, e2, e3, e4⟩ := hSw
     go_simp
     (try (intro h; exfalso; omega))
    (try simp only [zzp, zzb, zzc])
    refine wpAnyH_take (i := 5) (oi := ⟨some 51, .load 51 (.tmp 50), _, _, _, _⟩) (v := .agg #[.int .i64 nm, .int .i64 ba, .int .u32 (se : Int), .int .i64 en, .int .i64 sz]) rfl (by kernel_rfl) (by kernel_rfl) (by kernel_rfl) (fun _ _ _ h => h) (Or.inl ⟨by rfl, ?_⟩) hS0 ?_
    ·intro wq hSw
     obtain ⟨_, c1, c2, ⟨d0, d1, d2, d3, d4⟩, e0, e1, e2, e3, e4⟩ := hSw
     go_simp
    (try simp only [zzp, zzb, zzc])
    refine wpAnyH_ready (rs := [6]) (by kernel_rfl) (by simp) ?_
    refine AllReadyH.cons (o := ⟨some 52, .call { callee := .value (.func 94), args := #[.tmp 51], argTypes := #[51] }, _, _, _, _⟩) rfl (fun K hK => ?_) AllReadyH.nil
    go_simp
    refine (C1t.out _).mono ?_
    rintro ee u1 ⟨rfl, BB⟩
    have KP : Below wr.heap.size wr u1 := keepF (Below.refl _ wr).drew BB
    have hS1 := KS.out u1 KP
    dsimp only at hS1
    refine hK.out _ _ hS1 (fun hHeld => ?_)
    clear hK K hHeld
    (try simp only [zzp, zzb, zzc])
    refine wpAnyH_take (i := 7) (oi := ⟨some 53, .move (.tmp 52), _, _, _, _⟩) (v := .bool false) rfl (by kernel_rfl) (by kernel_rfl) (by kernel_rfl) (fun _ _ _ h => h) (Or.inl ⟨by rfl, ?_⟩) hS1 ?_
    ·intro wq hSw
     obtain ⟨_, c1, c2, ⟨d0, d1, d2, d3, d4⟩, e0, e1, e2, e3, e4⟩ := hSw
     go_simp
    (try simp only [zzp, zzb, zzc])
    refine wpAnyH_take (i := 8) (oi := ⟨some 54, .fieldAddr 47 (.tmp 1) 1, _, _, _, _⟩) (v := undef) rfl (by kernel_rfl) (by kernel_rfl) (by kernel_rfl) (fun _ _ _ h => h) (Or.inr ⟨by rfl, rfl⟩) hS1 ?_
    (try simp only [zzp, zzb, zzc])
    refine wpAnyH_take (i := 9) (oi := ⟨some 55, .load 2 (.tmp 54), _, _, _, _⟩) (v := undef) rfl (by kernel_rfl) (by kernel_rfl) (by kernel_rfl) (fun _ _ _ h => h) (Or.inr ⟨by rfl, rfl⟩) hS1 ?_
    (try simp only [zzp, zzb, zzc])
    refine wpAnyH_take (i := 10) (oi := ⟨some 56, .fieldAddr 47 (.tmp 1) 2, _, _, _, _⟩) (v := undef) rfl (by kernel_rfl) (by kernel_rfl) (by kernel_rfl) (fun _ _ _ h => h) (Or.inr ⟨by rfl, rfl⟩) hS1 ?_
    (try simp only [zzp, zzb, zzc])
    refine wpAnyH_take (i := 11) (oi := ⟨some 57, .load 45 (.tmp 56), _, _, _, _⟩) (v := undef) rfl (by kernel_rfl) (by kernel_rfl) (by kernel_rfl) (fun _ _ _ h => h) (Or.inr ⟨by rfl, rfl⟩) hS1 ?_
    (try simp only [zzp, zzb, zzc])
    refine wpAnyH_take (i := 12) (oi := ⟨some 58, .indexAddr 45 (.tmp 57) (.const (Value.int IntKind.i64 0)), _, _, _, _⟩) (v := undef) rfl (by kernel_rfl) (by kernel_rfl) (by kernel_rfl) (fun _ _ _ h => h) (Or.inr ⟨by rfl, rfl⟩) hS1 ?_
    (try simp only [zzp, zzb, zzc])
    refine wpAnyH_take (i := 13) (oi := ⟨some 59, .load 51 (.tmp 58), _, _, _, _⟩) (v := undef) rfl (by kernel_rfl) (by kernel_rfl) (by kernel_rfl) (fun _ _ _ h => h) (Or.inr ⟨by rfl, rfl⟩) hS1 ?_
    (try simp only [zzp, zzb, zzc])
    refine wpAnyH_take (i := 14) (oi := ⟨some 60, .call { callee := .value (.func 95), args := #[.tmp 55, .tmp 59], argTypes := #[2, 51] }, _, _, _, _⟩) (v := undef) rfl (by kernel_rfl) (by kernel_rfl) (by kernel_rfl) (fun _ _ _ h => h) (Or.inr ⟨by rfl, rfl⟩) hS1 ?_
    (try simp only [zzp, zzb, zzc])
    refine wpAnyH_take (i := 15) (oi := ⟨some 61, .pick (.tmp 53) (.tmp 60) (.const (Value.bool false)), _, _, _, _⟩) (v := .bool false) rfl (by kernel_rfl) (by kernel_rfl) (by kernel_rfl) (fun _ _ _ h => h) (Or.inl ⟨by rfl, ?_⟩) hS1 ?_
    ·intro wq hSw
     obtain ⟨_, c1, c2, ⟨d0, d1, d2, d3, d4⟩, e0, e1, e2, e3, e4⟩ := hSw
     go_simp
    (try simp only [zzp, zzb, zzc])
    refine wpAnyH_take (i := 16) (oi := ⟨some 2, .assign (.tmp 61), _, _, _, _⟩) (v := .bool false) rfl (by kernel_rfl) (by kernel_rfl) (by kernel_rfl) (fun _ _ _ h => h) (Or.inl ⟨by rfl, ?_⟩) hS1 ?_
    ·intro wq hSw
     obtain ⟨_, c1, c2, ⟨d0, d1, d2, d3, d4⟩, e0, e1, e2, e3, e4⟩ := hSw
     go_simp
    (try simp only [zzp, zzb, zzc])
    refine wpAnyH_done (by kernel_rfl) ?_ _
    go_wp2_with fail
    go_ret
    exact ⟨by rw [hE.out]; rfl, by rw [hq0.out]; exact BF.out _ KP⟩
def DoesAt (f : Nat) : Prop := ∀ (w : World) (g fi : Int) (v : Value) (l : List Sg) (n : Int), Sgs w v l →
 Calls Tryz.prog f #[.agg #[.int .i64 g, .int .i64 fi, v], .int .i64 n] w fun e w' => e = .returned (.tuple #[.int .i64 ((atF g fi l n).1 : Int), .bool (atF g fi l n).2]) ∧ Below w.heap.size w w'
theorem at_any : DoesAt 38 := by
 intro w g fi v l n hv
 obtain ⟨N, hN⟩ : ∃ N, Hid (l.length = N) := ⟨_, rfl⟩
 obtain ⟨ao, ca, rfl, q1, q2⟩ := hv.form
 rw [hN.out] at hv q1 ⊢
 have hB := hide (box_below w (.cells #[.int .i64 g, .int .i64 fi, .slice ao N ca] 47))
 have CALL := hide (may_any _ g fi _ l (hv.below hB.out))
 have hbx := hide (heap_alloc_new w (.cells #[.int .i64 g, .int .i64 fi, .slice ao N ca] 47))
 by_cases hm : May g fi l
 ·rw [mayB_t hm] at CALL
  have HM := hide hm
  obtain ⟨b, off, ca', e, _, _, hc⟩ := hv.at hm.n1
  rw [hN.out] at e hc
  simp only [Value.slice.injEq, true_and] at e
  obtain ⟨rfl, rfl⟩ := e
  have HC := hide hc
  have hn1 := hm.n1
  have hn2 := hm.n2
  rw [hN.out] at hn1 hn2
  clear hv hm hc
  by_cases h2 : n < fi
  ·have hE := hide (atF_no (g := g) (l := l) (.inr h2))
   go_enter Tryz.func38, Tryz.ntmps38
   go_wp2_with fail
   refine CALL.out.mono ?_
   rintro e w2 ⟨rfl, b2⟩
   have B2 := hide (keepF hB.out b2)
   obtain ⟨_, c1, c2⟩ := three_cells (show w2.heap[w.heap.size]? = _ by rw [b2.block _ (heap_lt hbx.out)]; exact hbx.out)
   clear b2 CALL
   go_wp2_with fail
   go_ret2
   rw [hE.out]
   exact ⟨rfl, B2.out⟩
  ·go_enter Tryz.func38, Tryz.ntmps38
   go_wp2_with fail
   refine CALL.out.mono ?_
   rintro e w2 ⟨rfl, b2⟩
   have B2 := hide (keepF hB.out b2)
   obtain ⟨_, c1, c2⟩ := three_cells (show w2.heap[w.heap.size]? = _ by rw [b2.block _ (heap_lt hbx.out)]; exact hbx.out)
   have HC2 : Hid (∀ i, i < N → SAt w2 b (off + i * 5) (sg l i)) := fun i hi => (HC.out i hi).below B2.out
   obtain ⟨M, rfl⟩ : ∃ M, N = M + 1 := ⟨N - 1, by omega⟩
   have hw0 : IntKind.i64.wrap (M : Int) = (M : Int) := by rw [IntKind.wrap_i64]; omega
   clear b2 CALL HC
   go_wp2_with fail
   generalize hq0 : w.heap.size = cb at *
   replace hq0 := hide hq0
   go_loopw [6] (fun vi wr => ∃ i : Nat, i ≤ M ∧ vi = .int .i64 (i : Int) ∧ wr = w2 ∧ Hid (∀ j, i < j → j < M + 1 → n < (sg l j).ba)) (fun vi _ => (intOf vi).toNat)
   case atStart => exact ⟨M, Nat.le_refl _, rfl, rfl, fun j h1 h2 => by omega⟩
   case round =>
    obtain ⟨i, hi, rfl, rfl, hJ⟩ := hrel
    obtain ⟨k0, k1, k2, k3, k4⟩ := HC2.out i (by omega)
    have hlt : (i : Int) < (M : Int) + 1 := by omega
    by_cases hb : n < (sg l i).ba
    ·have hi0 : i ≠ 0 := by
       rintro rfl
       have := HM.out.be.1
       omega
     obtain ⟨j, rfl⟩ : ∃ j, i = j + 1 := ⟨i - 1, by omega⟩
     have hJ2 : Hid (∀ k, j < k → k < M + 1 → n < (sg l k).ba) := fun k h1 h2 => by
      by_cases e : k = j + 1
      ·subst e; exact hb
      ·exact hJ.out k (by omega) h2
     generalize sg l (j + 1) = s at *
     have hw1 : IntKind.i64.wrap (j : Int) = (j : Int) := by rw [IntKind.wrap_i64]; omega
     go_wp2_with fail
     go_roundw
     case rel => exact ⟨j, by omega, by first | go_num | rfl, by first | trivial | rfl, hJ2⟩
     case measure => simp [intOf]
    ·have hE := hide (atF_at HM.out (by omega) (⟨by rw [hN.out]; omega, by omega, fun j h1 h2 => hJ.out j h1 (by rw [hN.out] at h2; exact h2)⟩ : IsAt l n i))
     generalize sg l i = s at *
     go_wp2_with fail
     go_ret2
     rw [hE.out]
     exact ⟨rfl, by rw [hq0.out]; exact B2.out⟩
 ·rw [mayB_f hm] at CALL
  have hE := hide (atF_no (n := n) (.inl hm))
  clear hv hm
  go_enter Tryz.func38, Tryz.ntmps38
  go_wp2_with fail
  refine CALL.out.mono ?_
  rintro e w2 ⟨rfl, b2⟩
  have B2 := hide (keepF hB.out b2)
  clear b2 CALL
  go_wp2_with fail
  go_ret2
  rw [hE.out]
  exact ⟨rfl, B2.out⟩
end Go.Proofs.YtnimildpcnmjeaaGreatDoor.Ct
namespace Go.Proofs.YtnimildpcnmjeaaGreatDoor
open Go.RowKit
end Go.Proofs.YtnimildpcnmjeaaGreatDoor
namespace Go.Proofs.YtnimildpcnmjeaaGreatDoor.Ct
open Go.RowKit
theorem infoSeg : (Tryz.prog.info? 51).map (fun i => (i.zero, i.size, i.bytes)) = some (some (.agg #[.int .i64 0, .int .i64 0, .int .u32 0, .int .i64 0, .int .i64 0]), 5, 40) := by kernel_rfl
theorem scells_len (l : List Sg) : (scells l).length = l.length * 5 := by
 induction l with
 | nil => rfl
 | cons s r ih =>
  have : scells (s :: r) = scell s ++ scells r := by simp [scells]
  rw [this, List.length_append, ih]
  simp [scell]; omega
theorem scells_append (l m : List Sg) : scells (l ++ m) = scells l ++ scells m := by simp [scells]
theorem scells_get (l : List Sg) : ∀ i (_ : i < l.length), ∀ j, j < 5 → (scells l)[i * 5 + j]? = (scell (sg l i))[j]? := by
 induction l with
 | nil => intro i h; simp at h
 | cons s r ih =>
  intro i h j hj
  have e : scells (s :: r) = scell s ++ scells r := by simp [scells]
  have h5 : (scell s).length = 5 := rfl
  match i with
  | 0 => rw [e, Nat.zero_mul, Nat.zero_add, List.getElem?_append_left (by omega)]; rfl
  | i + 1 =>
   rw [e, List.getElem?_append_right (by omega), h5, show (i + 1) * 5 + j - 5 = i * 5 + j by omega, ih i (by simpa using h) j hj]
   rfl
theorem scells_one (l : List Sg) : ∀ u ∈ scells l, u.oneCell' = true := by
 intro u hu
 simp only [scells, List.mem_flatMap] at hu
 obtain ⟨e, _, hu⟩ := hu
 simp [scell] at hu
 rcases hu with rfl | rfl | rfl | rfl | rfl <;> rfl
def Own (B : Nat) (w : World) (v : Value) (l : List Sg) : Prop := AIn l ∧ w.ownsRow B 51 5 v l.length (scells l)
theorem Own.nil (B : Nat) (w : World) : Own B w (.slice none 0 0) [] := ⟨fun s hs => by simp at hs, World.ownsRow_nil _ _ _ _⟩
theorem Own.low {B B' : Nat} {w : World} {v : Value} {l : List Sg} (h : Own B w v l) (hb : B' ≤ B) : Own B' w v l := by
 refine ⟨h.1, h.2.1, ?_⟩
 rcases h.2.2 with h | ⟨g, cap, cur, rfl, hg, r⟩
 ·exact .inl h
 ·exact .inr ⟨g, cap, cur, rfl, Nat.le_trans hb hg, r⟩
theorem Own.but {X : Nat → Prop} {B : Nat} {w w' : World} {v : Value} {l : List Sg} (h : Own B w v l) (hb : But X w w') (hx : ∀ k, v.ownBlock = some k → ¬ X k) : Own B w' v l := by
 refine ⟨h.1, h.2.1, ?_⟩
 rcases h.2.2 with h | ⟨g, cap, cur, rfl, hg, hh, r⟩
 ·exact .inl h
 ·exact .inr ⟨g, cap, cur, rfl, hg, hb.at hh (hx g rfl), r⟩
theorem Own.below {B : Nat} {w w' : World} {v : Value} {l : List Sg} (h : Own B w v l) (hb : Below w.heap.size w w') : Own B w' v l := h.but (But.of_below hb fun _ => False) fun _ _ c => c
theorem Own.form {B : Nat} {w : World} {v : Value} {l : List Sg} (h : Own B w v l) : ∃ ao ca, v = .slice ao l.length ca ∧ l.length ≤ ca ∧ ca ≤ 9223372036854775807 := by
 rcases h.2.2 with ⟨rfl, e⟩ | ⟨g, cap, cur, rfl, _, _, a, b, _⟩
 ·exact ⟨_, _, by rw [e], by omega, by omega⟩
 ·exact ⟨_, _, rfl, a, by unfold maxLen at b; omega⟩
theorem Own.sgs {B : Nat} {w : World} {v : Value} {l : List Sg} (h : Own B w v l) : Sgs w v l := by
 refine ⟨h.1, ?_⟩
 rcases h.2.2 with ⟨rfl, e⟩ | ⟨g, cap, cur, rfl, _, hh, a, b, c, d⟩
 ·exact ⟨none, 0, by rw [e], fun _ => ⟨List.length_eq_zero_iff.1 e, rfl⟩, by omega, Nat.zero_le _, fun i hi => by omega⟩
 ·refine ⟨_, cap, rfl, fun e => by simp at e, a, b, fun i hi => ⟨g, 0, rfl, ?_⟩⟩
  have hc : ∀ j, j < 5 → w.cell? ⟨g, i * 5 + j, none⟩ = (scell (sg l i))[j]? := by
   intro j hj
   rw [← scells_get l i hi j hj, ← d, List.getElem?_take_of_lt (by omega)]
   simp [World.cell?, hh]
  rw [Nat.zero_add]
  exact ⟨by rw [← Nat.add_zero (i * 5), hc 0 (by omega)]; rfl, by rw [hc 1 (by omega)]; rfl, by rw [hc 2 (by omega)]; rfl, by rw [hc 3 (by omega)]; rfl, by rw [hc 4 (by omega)]; rfl⟩
theorem Own.no {B : Nat} {w : World} {v : Value} {l : List Sg} {b : Nat} {cs : Array Value} {T : TypeId} {fz : Nat × Nat} (h : Own B w v l) (hb : w.heap[b]? = some (.cells cs T fz)) (hT : T ≠ 51) : v.ownBlock ≠ some b := fun e1 => by
 rcases h.2.2 with ⟨rfl, _⟩ | ⟨g, cap, cur, rfl, hg, hh, r⟩
 ·simp [Value.ownBlock] at e1
 ·simp [Value.ownBlock] at e1
  subst e1
  rw [hb] at hh
  simp at hh
  exact hT hh.2.1
theorem Own.lt {B : Nat} {w : World} {v : Value} {l : List Sg} (h : Own B w v l) : ∀ k, v.ownBlock = some k → B ≤ k ∧ k < w.heap.size := fun k hk => World.ownsRow.lt h.2 k hk
theorem Sgs.news {w : World} {ad : Addr} {n ca : Nat} {l : List Sg} (h : Sgs w (.slice (some ad) n ca) l) : ∀ j u, (scells l)[j]? = some u → w.cell? (ad.add j) = some u := by
 intro j u hu
 have hj : j < l.length * 5 := by
  have := (List.getElem?_eq_some_iff.1 hu).1
  rw [scells_len] at this
  exact this
 obtain ⟨_, ao, cap, e, _, _, _, h5⟩ := h
 simp only [Value.slice.injEq] at e
 obtain ⟨rfl, _, _⟩ := e
 obtain ⟨b, off, e, g0, g1, g2, g3, g4⟩ := h5 (j / 5) (by omega)
 simp only [Option.some.injEq] at e
 subst e
 rw [addr_add]
 have hd : j / 5 * 5 + j % 5 = j := by omega
 rw [← hd, scells_get l (j / 5) (by omega) (j % 5) (by omega)] at hu
 have hm : j % 5 < 5 := by omega
 rw [← hd, ← Nat.add_assoc]
 generalize j % 5 = r at *
 match r, hm with
 | 0, _ => simp only [scell, List.getElem?_cons_zero, Option.some.injEq] at hu; subst hu; exact g0
 | 1, _ => simp only [scell, List.getElem?_cons_succ, List.getElem?_cons_zero, Option.some.injEq] at hu; subst hu; exact g1
 | 2, _ => simp only [scell, List.getElem?_cons_succ, List.getElem?_cons_zero, Option.some.injEq] at hu; subst hu; exact g2
 | 3, _ => simp only [scell, List.getElem?_cons_succ, List.getElem?_cons_zero, Option.some.injEq] at hu; subst hu; exact g3
 | 4, _ => simp only [scell, List.getElem?_cons_succ, List.getElem?_cons_zero, Option.some.injEq] at hu; subst hu; exact g4
theorem sg_take {l : List Sg} {k i : Nat} (h : i < k) : sg (l.take k) i = sg l i := by
 unfold sg
 rw [List.getD_eq_getElem?_getD, List.getD_eq_getElem?_getD, List.getElem?_take_of_lt h]
theorem AIn.take {l : List Sg} (h : AIn l) (k : Nat) : AIn (l.take k) := fun s hs => h s (List.mem_of_mem_take hs)
theorem Sgs.take {w : World} {ao : Option Addr} {n ca : Nat} {l : List Sg} (h : Sgs w (.slice ao n ca) l) (k : Nat) (hk : k ≤ l.length) : Sgs w (.slice ao k ca) (l.take k) := by
 obtain ⟨h0, ao', cap, e, h2, h3, h4, h5⟩ := h
 simp only [Value.slice.injEq] at e
 obtain ⟨rfl, _, rfl⟩ := e
 have hl : (l.take k).length = k := by simp; omega
 refine ⟨h0.take k, ao, ca, by rw [hl], fun e => ?_, by omega, h4, fun i hi => ?_⟩
 ·obtain ⟨rfl, r⟩ := h2 e; exact ⟨by simp, r⟩
 ·obtain ⟨b, off, e1, g⟩ := h5 i (by omega)
  rw [sg_take (by omega)]
  exact ⟨b, off, e1, g⟩
theorem clone_any (w : World) (v : Value) (l : List Sg) (hv : Sgs w v l) (hl : l.length ≤ 100) :
    Calls Tryz.prog 37 #[v] w fun e w' => ∃ v', e = .returned v' ∧ Own w.heap.size w' v' l ∧ Below w.heap.size w w' := by
 have he := fun (u : World) (ao : Option Addr) (n c n' c' : Nat) => Lib.run_eql_slice_nil (P := Tryz.prog) u 45 51 ao n c n' c' Tryz.underlying45
 obtain ⟨ao, ca, rfl, q1, q2⟩ := hv.form
 cases ao with
 | none =>
  obtain ⟨_, ao', ca', e, h2, _⟩ := hv
  simp only [Value.slice.injEq] at e
  obtain ⟨rfl, _, rfl⟩ := e
  obtain ⟨rfl, rfl⟩ := h2 rfl
  simp only [List.length_nil]
  go_enter Tryz.func37, Tryz.ntmps37
  go_wp2_with fail
  go_ret
  exact ⟨_, rfl, Own.nil _ _, Below.refl _ _⟩
 | some ad =>
  have HN := hide (fun o => (hv.below (box_below w o)).news)
  obtain ⟨i0, hi, hz0, hz1, hz2⟩ := info_parts infoSeg
  have OWN := hide (World.ownsRow_made (base := w.heap.size) (e := 51) (size := 5) w #[] 0 (Nat.le_refl _) (Nat.zero_le _) rfl)
  have hcl := hide (scells_len l)
  have hA := hide hv.1
  obtain ⟨N, hN⟩ : ∃ N, Hid (l.length = N) := ⟨_, rfl⟩
  rw [hN.out] at hcl hl ⊢
  clear hv
  go_enter Tryz.func37, Tryz.ntmps37
  go_wp2_with (at_builtin; refine wpList_append_own_at _ rfl (.tmp 5) (.tmp 6) 45 rfl w.heap.size 51 i0 (.agg #[.int .i64 0, .int .i64 0, .int .u32 0, .int .i64 0, .int .i64 0]) 5 40 Tryz.underlying45 hi hz0 hz1 hz2 rfl (by decide) _ 0 [] rfl OWN.out ad N ca (scells l) rfl hcl.out (HN.out _) (scells_one l) (by unfold maxLen; omega) (by omega) (by simp) ?_; intro v' w1 hown' hgrow hnil hat; rw [List.nil_append, Nat.zero_add] at hown'; replace hown' := hide hown'; have hgr := hide hgrow; clear hgrow hnil hat)
  go_ret
  refine ⟨_, rfl, ⟨hA.out, by rw [hN.out]; exact hown'.out⟩, ?_⟩
  exact Below.grown (box_below w _) hgr.out (by simp) (fun k hk => by cases hk; exact Nat.le_refl _)
def ivals (l : List Int) : List Value := l.map fun n => .int .i64 n
def put3 (w : World) (b : Nat) (a0 a1 a2 : Value) : World := ((w.setCell ⟨b, 0, none⟩ a0).setCell ⟨b, 1, none⟩ a1).setCell ⟨b, 2, none⟩ a2
theorem put3_heap {w : World} {b : Nat} {z0 z1 z2 : Value} {T : TypeId} (h : w.heap[b]? = some (.cells #[z0, z1, z2] T (0, 0))) (a0 a1 a2 : Value) : (put3 w b a0 a1 a2).heap[b]? = some (.cells #[a0, a1, a2] T (0, 0)) := by
 unfold put3
 rw [heap_setCell_same _ _ _ _ _ _ (heap_setCell_same _ _ _ _ _ _ (heap_setCell_same _ _ _ _ _ _ h))]
 simp
theorem put3_below {B : Nat} {u w : World} (h : Below B u w) {b : Nat} (hb : B ≤ b) (a0 a1 a2 : Value) : Below B u (put3 w b a0 a1 a2) := ((h.setCell hb a0).setCell hb a1).setCell hb a2
theorem three_frozen {w : World} {b : Nat} {a0 a1 a2 : Value} {T : TypeId} (h : w.heap[b]? = some (.cells #[a0, a1, a2] T (0, 0))) : w.frozen? ⟨b, 0, none⟩ = false ∧ w.frozen? ⟨b, 1, none⟩ = false ∧ w.frozen? ⟨b, 2, none⟩ = false := by
 simp [World.frozen?, h]
theorem Own.put3 {B : Nat} {w : World} {v : Value} {l : List Sg} (h : Own B w v l) {b : Nat} {cs : Array Value} {T : TypeId} {fz : Nat × Nat} (hb : w.heap[b]? = some (.cells cs T fz)) (hT : T ≠ 51) (a0 a1 a2 : Value) : Own B (put3 w b a0 a1 a2) v l := by
 refine ⟨h.1, ?_⟩
 have hn := h.no hb hT
 exact ownsRow_setCell_other (ownsRow_setCell_other (ownsRow_setCell_other h.2 hn _) hn _) hn _
def DoesRoll (f : Nat) : Prop := ∀ (w : World) (g fi : Int) (v : Value) (l : List Sg) (en sz : Int) (se : Nat), Sgs w v l → g ≤ 9223372036854775807 → -9223372036854775808 ≤ en → en ≤ 9223372036854775807 → -9223372036854775808 ≤ sz → sz ≤ 9223372036854775807 → se < 4294967296 →
 Calls Tryz.prog f #[.agg #[.int .i64 g, .int .i64 fi, v], .int .i64 en, .int .i64 sz, .int .u32 (se : Int)] w fun e w' => ∃ v', e = .returned (.tuple #[.agg #[.int .i64 (rollF g fi l en sz se).2.1, .int .i64 (rollF g fi l en sz se).2.2.1, v'], .int .i64 (rollF g fi l en sz se).1]) ∧ Own w.heap.size w' v' (rollF g fi l en sz se).2.2.2 ∧ Below w.heap.size w w'
theorem ten_new {w : World} {b : Nat} {a0 a1 a2 a3 a4 a5 a6 a7 a8 a9 : Value} {T : TypeId} (h : w.heap[b]? = some (.cells #[a0, a1, a2, a3, a4, a5, a6, a7, a8, a9] T (0, 0))) : ∀ j u, ([a0, a1, a2, a3, a4, a5, a6, a7, a8, a9] : List Value)[j]? = some u → w.cell? ((⟨b, 0, none⟩ : Addr).add j) = some u := by
 intro j u hu
 rw [addr_add, Nat.zero_add]
 simp only [World.cell?, h]
 simpa using hu
theorem put5_heap {w : World} {b : Nat} {a0 a1 a2 a3 a4 : Value} {T : TypeId} (h : w.heap[b]? = some (.cells #[a0, a1, a2, a3, a4] T (0, 0))) (x y : Value) : ((w.setCell ⟨b, 3, none⟩ x).setCell ⟨b, 4, none⟩ y).heap[b]? = some (.cells #[a0, a1, a2, x, y] T (0, 0)) := by
 rw [heap_setCell_same _ _ _ _ _ _ (heap_setCell_same _ _ _ _ _ _ h)]
 simp
theorem five_frozen {w : World} {b : Nat} {a0 a1 a2 a3 a4 : Value} {T : TypeId} (h : w.heap[b]? = some (.cells #[a0, a1, a2, a3, a4] T (0, 0))) : w.frozen? ⟨b, 3, none⟩ = false ∧ w.frozen? ⟨b, 4, none⟩ = false := by
 simp [World.frozen?, h]
theorem roll_any : DoesRoll 54 := by
 intro w g fi v l en sz se hv hg n1 n2 n3 n4 n5
 obtain ⟨N, hN⟩ : ∃ N, Hid (l.length = N) := ⟨_, rfl⟩
 obtain ⟨ao, ca, rfl, q1, q2⟩ := hv.form
 rw [hN.out] at hv q1 ⊢
 have hB0 := hide (box_below w (.cells #[.int .i64 g, .int .i64 fi, .slice ao N ca] 47))
 have hB := hide (keepF hB0.out (box_below _ (.cells #[.int .i64 0, .int .i64 0, .slice none 0 0] 47)))
 have CALL := hide (may_any _ g fi _ l (hv.below hB.out))
 have hb1 : Hid (((w.alloc (.cells #[.int .i64 g, .int .i64 fi, .slice ao N ca] 47)).alloc (.cells #[.int .i64 0, .int .i64 0, .slice none 0 0] 47)).heap[w.heap.size]? = some (.cells #[.int .i64 g, .int .i64 fi, .slice ao N ca] 47 (0, 0))) := by
  show _ = _
  rw [(box_below _ _).block w.heap.size (by simp), heap_alloc_new]
 have hb2 : Hid (((w.alloc (.cells #[.int .i64 g, .int .i64 fi, .slice ao N ca] 47)).alloc (.cells #[.int .i64 0, .int .i64 0, .slice none 0 0] 47)).heap[w.heap.size + 1]? = some (.cells #[.int .i64 0, .int .i64 0, .slice none 0 0] 47 (0, 0))) := by
  show _ = _
  have := heap_alloc_new (w.alloc (.cells #[.int .i64 g, .int .i64 fi, .slice ao N ca] 47)) (.cells #[.int .i64 0, .int .i64 0, .slice none 0 0] 47)
  simpa using this
 clear hB0
 by_cases hm : ¬ May g fi l
 ·rw [mayB_f hm] at CALL
  have hE : Hid (rollF g fi l en sz se = (4, 0, 0, [])) := by show _ = _; unfold rollF; rw [if_pos hm]
  clear hv hm
  go_enter Tryz.func54, Tryz.ntmps54
  go_wp2_with fail
  refine CALL.out.mono ?_
  rintro e w2 ⟨rfl, b2⟩
  have B2 := hide (keepF hB.out b2)
  have r2 : Hid (w2.heap[w.heap.size + 1]? = some (.cells #[.int .i64 0, .int .i64 0, .slice none 0 0] 47 (0, 0))) := by show _ = _; rw [b2.block _ (heap_lt hb2.out)]; exact hb2.out
  obtain ⟨d0, d1, d2⟩ := three_cells r2.out
  obtain ⟨f0, f1, f2⟩ := three_frozen r2.out
  have F := hide (three_cells (put3_heap r2.out (.int .i64 0) (.int .i64 0) (.slice none 0 0)))
  have BF := hide (put3_below B2.out (Nat.le_succ _) (.int .i64 0) (.int .i64 0) (.slice none 0 0))
  clear b2 CALL
  go_wp2_with fail
  show bodyPost _ _ _ _ _ (put3 w2 (w.heap.size + 1) (.int .i64 0) (.int .i64 0) (.slice none 0 0))
  generalize put3 w2 (w.heap.size + 1) (.int .i64 0) (.int .i64 0) (.slice none 0 0) = w5 at *
  obtain ⟨k0, k1, k2⟩ := F.out
  refine bodyPost_ret (by simp [results, Tryz.results54, go_sem, k0, k1, k2]; rfl) rfl ?_
  rw [hE.out]
  exact ⟨_, rfl, Own.nil _ _, BF.out⟩
 replace hm := Classical.not_not.1 hm
 rw [mayB_t hm] at CALL
 have HM := hide hm
 have HV := hide hv
 obtain ⟨b, off, ca', e, _, _, hc⟩ := hv.at hm.n1
 rw [hN.out] at e hc
 simp only [Value.slice.injEq, true_and] at e
 obtain ⟨rfl, rfl⟩ := e
 have hn1 := hm.n1
 have hn2 := hm.n2
 have hA := hide hv.1
 rw [hN.out] at hn1 hn2
 have HC := hide hc
 clear hv hm hc
 by_cases h64 : N = 64
 ·subst h64
  have hE : Hid (rollF g fi l en sz se = (9, 0, 0, [])) := by show _ = _; unfold rollF; rw [if_neg (fun c => c HM.out), if_pos hN.out]
  go_enter Tryz.func54, Tryz.ntmps54
  go_wp2_with fail
  refine CALL.out.mono ?_
  rintro e w2 ⟨rfl, b2⟩
  have B2 := hide (keepF hB.out b2)
  have r2 : Hid (w2.heap[w.heap.size + 1]? = some (.cells #[.int .i64 0, .int .i64 0, .slice none 0 0] 47 (0, 0))) := by show _ = _; rw [b2.block _ (heap_lt hb2.out)]; exact hb2.out
  obtain ⟨c0, c1, c2⟩ := three_cells (show w2.heap[w.heap.size]? = _ by rw [b2.block _ (heap_lt hb1.out)]; exact hb1.out)
  obtain ⟨d0, d1, d2⟩ := three_cells r2.out
  obtain ⟨f0, f1, f2⟩ := three_frozen r2.out
  have F := hide (three_cells (put3_heap r2.out (.int .i64 0) (.int .i64 0) (.slice none 0 0)))
  have BF := hide (put3_below B2.out (Nat.le_succ _) (.int .i64 0) (.int .i64 0) (.slice none 0 0))
  clear b2 CALL
  go_wp2_with fail
  show bodyPost _ _ _ _ _ (put3 w2 (w.heap.size + 1) (.int .i64 0) (.int .i64 0) (.slice none 0 0))
  generalize put3 w2 (w.heap.size + 1) (.int .i64 0) (.int .i64 0) (.slice none 0 0) = w5 at *
  obtain ⟨k0, k1, k2⟩ := F.out
  refine bodyPost_ret (by simp [results, Tryz.results54, go_sem, k0, k1, k2]; rfl) rfl ?_
  rw [hE.out]
  exact ⟨_, rfl, Own.nil _ _, BF.out⟩
 obtain ⟨M, rfl⟩ : ∃ M, N = M + 1 := ⟨N - 1, by omega⟩
 have hlast : Hid (sg l M = lastS l) := by show _ = _; rw [lastS, hN.out]; rfl
 have hop := HM.out.op
 have hLA := hA.out.sg M
 have hLS := HC.out M (by omega)
 rw [hN.out, Nat.add_sub_cancel] at hop
 have hRIN : Hid ((lastS l).nm < 9223372036854775807 → AIn (rolled l en sz se)) := fun c => rolled_in hA.out c n1 n2 n3 n4 n5
 have hTR : Hid (rolled l en sz se = l.take M ++ [⟨(lastS l).nm, (lastS l).ba, (lastS l).se, en, sz⟩, ⟨(lastS l).nm + 1, en, se, 0, 0⟩]) := by show _ = _; unfold rolled; rw [hN.out]; rfl
 rw [hlast.out] at hop hLA hLS
 have hE : Hid (rollF g fi l en sz se = if g = 9223372036854775807 ∨ (lastS l).nm = 9223372036854775807 then (1, 0, 0, []) else @ite _ (¬ May (g + 1) fi (rolled l en sz se)) (Classical.propDecidable _) (1, 0, 0, []) (0, g + 1, fi, rolled l en sz se)) := by
  show _ = _
  unfold rollF
  rw [if_neg (fun c => c HM.out), if_neg (by rw [hN.out]; exact h64)]
  by_cases c : g = 9223372036854775807 ∨ (lastS l).nm = 9223372036854775807
  ·rw [if_pos c, if_pos c]
  ·rw [if_neg c, if_neg c]
   by_cases d : ¬ May (g + 1) fi (rolled l en sz se)
   ·rw [if_pos d, if_pos d]
   ·rw [if_neg d, if_neg d]
 generalize lastS l = la at *
 obtain ⟨nm, ba, so, en0, sz0⟩ := la
 dsimp only at hE hTR hRIN hlast
 obtain ⟨o1, o2, o3⟩ := hop
 obtain ⟨rfl, rfl⟩ : en0 = 0 ∧ sz0 = 0 := by
  refine ⟨Classical.byContradiction fun c => o3 (.inl c), Classical.byContradiction fun c => o3 (.inr c)⟩
 have o4 := hLA.a2
 dsimp only at o1 o2 o4
 have hw0 : IntKind.i64.wrap (M : Int) = (M : Int) := by rw [IntKind.wrap_i64]; omega
 have hM64 : ¬ (M : Int) + 1 = 64 := by omega
 have hM64' : ((M : Int) + 1 == 64) = false := by simpa using hM64
 have hMlt : (M : Int) < (M : Int) + 1 := by omega
 have hg1 := HM.out.g1
 clear o3 hLA h64
 by_cases hx : g = 9223372036854775807 ∨ nm = 9223372036854775807
 ·rw [if_pos hx] at hE
  go_enter Tryz.func54, Tryz.ntmps54
  go_wp2_with fail
  refine CALL.out.mono ?_
  rintro e w2 ⟨rfl, b2⟩
  have B2 := hide (keepF hB.out b2)
  have hBS := hide (box_below w2 (.cells #[.int .i64 nm, .int .i64 ba, .int .u32 (so : Int), .int .i64 0, .int .i64 0] 51))
  have r2 : Hid (w2.heap[w.heap.size + 1]? = some (.cells #[.int .i64 0, .int .i64 0, .slice none 0 0] 47 (0, 0))) := by show _ = _; rw [b2.block _ (heap_lt hb2.out)]; exact hb2.out
  have r3 : Hid ((w2.alloc (.cells #[.int .i64 nm, .int .i64 ba, .int .u32 (so : Int), .int .i64 0, .int .i64 0] 51)).heap[w.heap.size + 1]? = some (.cells #[.int .i64 0, .int .i64 0, .slice none 0 0] 47 (0, 0))) := by show _ = _; rw [hBS.out.block _ (heap_lt r2.out)]; exact r2.out
  have r4 : Hid (w2.heap[w.heap.size]? = some (.cells #[.int .i64 g, .int .i64 fi, .slice (some ⟨b, off, none⟩) (M + 1) ca] 47 (0, 0))) := by show _ = _; rw [b2.block _ (heap_lt hb1.out)]; exact hb1.out
  obtain ⟨c0, c1, c2⟩ := three_cells r4.out
  obtain ⟨z0, z1, z2⟩ := three_cells (show (w2.alloc (.cells #[.int .i64 nm, .int .i64 ba, .int .u32 (so : Int), .int .i64 0, .int .i64 0] 51)).heap[w.heap.size]? = _ by rw [hBS.out.block _ (heap_lt r4.out)]; exact r4.out)
  obtain ⟨k0, k1, k2, k3, k4⟩ := hLS.below B2.out
  dsimp only at k0 k1 k2 k3 k4
  obtain ⟨y0, y1, y2, y3, y4⟩ := five_cells (heap_alloc_new w2 (.cells #[.int .i64 nm, .int .i64 ba, .int .u32 (so : Int), .int .i64 0, .int .i64 0] 51))
  obtain ⟨d0, d1, d2⟩ := three_cells r3.out
  obtain ⟨f0, f1, f2⟩ := three_frozen r3.out
  have F := hide (three_cells (put3_heap r3.out (.int .i64 0) (.int .i64 0) (.slice none 0 0)))
  have BF := hide (put3_below (keepF B2.out hBS.out) (Nat.le_succ _) (.int .i64 0) (.int .i64 0) (.slice none 0 0))
  clear b2 CALL hLS
  go_upto_region 7 with fail
  generalize w2.alloc (.cells #[.int .i64 nm, .int .i64 ba, .int .u32 (so : Int), .int .i64 0, .int .i64 0] 51) = w3 at *
  generalize w2.heap.size = ob at *
  clear k0 k1 k2 k3 k4 c0 c1 c2
  by_cases h3 : g = 9223372036854775807
  ·subst h3
   go_wp2_with fail
   show bodyPost _ _ _ _ _ (put3 w3 (w.heap.size + 1) (.int .i64 0) (.int .i64 0) (.slice none 0 0))
   generalize put3 w3 (w.heap.size + 1) (.int .i64 0) (.int .i64 0) (.slice none 0 0) = w5 at *
   obtain ⟨k0, k1, k2⟩ := F.out
   refine bodyPost_ret (by simp [results, Tryz.results54, go_sem, k0, k1, k2]; rfl) rfl ?_
   rw [hE.out]
   exact ⟨_, rfl, Own.nil _ _, BF.out⟩
  ·have h4 : nm = 9223372036854775807 := hx.resolve_left h3
   have h3' : (g == 9223372036854775807) = false := by simpa using h3
   subst h4
   go_wp2_with fail
   show bodyPost _ _ _ _ _ (put3 w3 (w.heap.size + 1) (.int .i64 0) (.int .i64 0) (.slice none 0 0))
   generalize put3 w3 (w.heap.size + 1) (.int .i64 0) (.int .i64 0) (.slice none 0 0) = w5 at *
   obtain ⟨k0, k1, k2⟩ := F.out
   refine bodyPost_ret (by simp [results, Tryz.results54, go_sem, k0, k1, k2]; rfl) rfl ?_
   rw [hE.out]
   exact ⟨_, rfl, Own.nil _ _, BF.out⟩
 ·rw [if_neg hx] at hE
  have h3 : ¬ g = 9223372036854775807 := fun c => hx (.inl c)
  have h4 : ¬ nm = 9223372036854775807 := fun c => hx (.inr c)
  have h3' : (g == 9223372036854775807) = false := by simpa using h3
  have h4' : (nm == 9223372036854775807) = false := by simpa using h4
  have hwg : IntKind.i64.wrap (g + 1) = g + 1 := by rw [IntKind.wrap_i64]; omega
  have hwn : IntKind.i64.wrap (nm + 1) = nm + 1 := by rw [IntKind.wrap_i64]; omega
  have hRin := hide (hRIN.out (by omega))
  clear hx hRIN
  go_enter Tryz.func54, Tryz.ntmps54
  go_wp2_with fail
  refine CALL.out.mono ?_
  rintro e w2 ⟨rfl, b2⟩
  have B2 := hide (keepF hB.out b2)
  have r1 : Hid (w2.heap[w.heap.size]? = some (.cells #[.int .i64 g, .int .i64 fi, .slice (some ⟨b, off, none⟩) (M + 1) ca] 47 (0, 0))) := by show _ = _; rw [b2.block _ (heap_lt hb1.out)]; exact hb1.out
  have r2 : Hid (w2.heap[w.heap.size + 1]? = some (.cells #[.int .i64 0, .int .i64 0, .slice none 0 0] 47 (0, 0))) := by show _ = _; rw [b2.block _ (heap_lt hb2.out)]; exact hb2.out
  obtain ⟨c0, c1, c2⟩ := three_cells r1.out
  obtain ⟨k0, k1, k2, k3, k4⟩ := hLS.below B2.out
  dsimp only at k0 k1 k2 k3 k4
  have X0 := hide (box_below w2 (.cells #[.int .i64 nm, .int .i64 ba, .int .u32 (so : Int), .int .i64 0, .int .i64 0] 51))
  have s1 : Hid ((w2.alloc (.cells #[.int .i64 nm, .int .i64 ba, .int .u32 (so : Int), .int .i64 0, .int .i64 0] 51)).heap[w.heap.size]? = some (.cells #[.int .i64 g, .int .i64 fi, .slice (some ⟨b, off, none⟩) (M + 1) ca] 47 (0, 0))) := by show _ = _; rw [X0.out.block _ (heap_lt r1.out)]; exact r1.out
  have s2 : Hid ((w2.alloc (.cells #[.int .i64 nm, .int .i64 ba, .int .u32 (so : Int), .int .i64 0, .int .i64 0] 51)).heap[w.heap.size + 1]? = some (.cells #[.int .i64 0, .int .i64 0, .slice none 0 0] 47 (0, 0))) := by show _ = _; rw [X0.out.block _ (heap_lt r2.out)]; exact r2.out
  have s3 := hide (heap_alloc_new w2 (.cells #[.int .i64 nm, .int .i64 ba, .int .u32 (so : Int), .int .i64 0, .int .i64 0] 51))
  have B3 := hide (keepF B2.out X0.out)
  have hob := hide B2.out.size
  have hob2 := hide (heap_lt r2.out)
  clear b2 CALL hLS
  go_upto_region 7 with fail
  generalize w2.alloc (.cells #[.int .i64 nm, .int .i64 ba, .int .u32 (so : Int), .int .i64 0, .int .i64 0] 51) = w3 at *
  generalize w2.heap.size = ob at *
  clear k0 k1 k2 k3 k4 c0 c1 c2 r1 r2 X0 B2
  obtain ⟨c0, c1, c2⟩ := three_cells s1.out
  obtain ⟨k0, k1, k2, k3, k4⟩ := five_cells s3.out
  have X0 := hide (box_below w3 (.cells #[.int .i64 (nm + 1), .int .i64 en, .int .u32 (se : Int), .int .i64 0, .int .i64 0] 51))
  have t1 : Hid ((w3.alloc (.cells #[.int .i64 (nm + 1), .int .i64 en, .int .u32 (se : Int), .int .i64 0, .int .i64 0] 51)).heap[w.heap.size]? = some (.cells #[.int .i64 g, .int .i64 fi, .slice (some ⟨b, off, none⟩) (M + 1) ca] 47 (0, 0))) := by show _ = _; rw [X0.out.block _ (heap_lt s1.out)]; exact s1.out
  have t2 : Hid ((w3.alloc (.cells #[.int .i64 (nm + 1), .int .i64 en, .int .u32 (se : Int), .int .i64 0, .int .i64 0] 51)).heap[w.heap.size + 1]? = some (.cells #[.int .i64 0, .int .i64 0, .slice none 0 0] 47 (0, 0))) := by show _ = _; rw [X0.out.block _ (heap_lt s2.out)]; exact s2.out
  have t3 : Hid ((w3.alloc (.cells #[.int .i64 (nm + 1), .int .i64 en, .int .u32 (se : Int), .int .i64 0, .int .i64 0] 51)).heap[ob]? = some (.cells #[.int .i64 nm, .int .i64 ba, .int .u32 (so : Int), .int .i64 0, .int .i64 0] 51 (0, 0))) := by show _ = _; rw [X0.out.block _ (heap_lt s3.out)]; exact s3.out
  have t4 := hide (heap_alloc_new w3 (.cells #[.int .i64 (nm + 1), .int .i64 en, .int .u32 (se : Int), .int .i64 0, .int .i64 0] 51))
  have B4 := hide (keepF B3.out X0.out)
  have hxb := hide (heap_lt s3.out)
  go_upto_region 10 with fail
  generalize w3.alloc (.cells #[.int .i64 (nm + 1), .int .i64 en, .int .u32 (se : Int), .int .i64 0, .int .i64 0] 51) = w4 at *
  generalize w3.heap.size = xb at *
  clear k0 k1 k2 k3 k4 c0 c1 c2 s1 s2 s3 X0 B3
  obtain ⟨k0, k1, k2, k3, k4⟩ := five_cells t3.out
  obtain ⟨f3, f4⟩ := five_frozen t3.out
  have B5 := hide ((B4.out.setCell hob.out (p := ⟨ob, 3, none⟩) (.int .i64 en)).setCell hob.out (p := ⟨ob, 4, none⟩) (.int .i64 sz))
  have u1 : Hid (((w4.setCell ⟨ob, 3, none⟩ (.int .i64 en)).setCell ⟨ob, 4, none⟩ (.int .i64 sz)).heap[w.heap.size]? = some (.cells #[.int .i64 g, .int .i64 fi, .slice (some ⟨b, off, none⟩) (M + 1) ca] 47 (0, 0))) := by show _ = _; rw [heap_setCell_other _ _ _ _ (by have := hob2.out; have := hob.out; show w.heap.size ≠ ob; omega), heap_setCell_other _ _ _ _ (by have := hob2.out; have := hob.out; show w.heap.size ≠ ob; omega)]; exact t1.out
  have u2 : Hid (((w4.setCell ⟨ob, 3, none⟩ (.int .i64 en)).setCell ⟨ob, 4, none⟩ (.int .i64 sz)).heap[w.heap.size + 1]? = some (.cells #[.int .i64 0, .int .i64 0, .slice none 0 0] 47 (0, 0))) := by show _ = _; rw [heap_setCell_other _ _ _ _ (by have := hob2.out; show w.heap.size + 1 ≠ ob; omega), heap_setCell_other _ _ _ _ (by have := hob2.out; show w.heap.size + 1 ≠ ob; omega)]; exact t2.out
  have u3 := hide (put5_heap t3.out (.int .i64 en) (.int .i64 sz))
  have u4 : Hid (((w4.setCell ⟨ob, 3, none⟩ (.int .i64 en)).setCell ⟨ob, 4, none⟩ (.int .i64 sz)).heap[xb]? = some (.cells #[.int .i64 (nm + 1), .int .i64 en, .int .u32 (se : Int), .int .i64 0, .int .i64 0] 51 (0, 0))) := by show _ = _; rw [heap_setCell_other _ _ _ _ (by have := hxb.out; show xb ≠ ob; omega), heap_setCell_other _ _ _ _ (by have := hxb.out; show xb ≠ ob; omega)]; exact t4.out
  go_upto_region 11 with fail
  generalize (w4.setCell ⟨ob, 3, none⟩ (.int .i64 en)).setCell ⟨ob, 4, none⟩ (.int .i64 sz) = w5 at *
  clear k0 k1 k2 k3 k4 f3 f4 t1 t2 t3 t4 B4 hxb
  have VT : Hid (Sgs w5 (.slice (some ⟨b, off, none⟩) M ca) (l.take M)) := (HV.out.below B5.out).take M (by rw [hN.out]; omega)
  have hTl : Hid ((l.take M).length ≤ 100) := by show _ ≤ _; simp; omega
  have hRl : Hid ((rolled l en sz se).length = (l.take M).length + 2) := by show _ = _; rw [hTR.out]; simp
  have hRs : Hid (scells (rolled l en sz se) = scells (l.take M) ++ [.int .i64 nm, .int .i64 ba, .int .u32 (so : Int), .int .i64 en, .int .i64 sz, .int .i64 (nm + 1), .int .i64 en, .int .u32 (se : Int), .int .i64 0, .int .i64 0]) := by show _ = _; rw [hTR.out, scells_append]; rfl
  generalize l.take M = T at *
  generalize rolled l en sz se = R at *
  obtain ⟨cb, hcb⟩ : ∃ cb, Hid (w.heap.size = cb) := ⟨_, rfl⟩
  rw [hcb.out] at u1 u2 B5 hob hob2 ⊢
  have KC : Hid (∀ q, Below w5.heap.size w5 q → q.cell? ⟨cb, 0, none⟩ = some (.int .i64 g) ∧ q.cell? ⟨cb, 1, none⟩ = some (.int .i64 fi) ∧ q.cell? ⟨cb, 2, none⟩ = some (.slice (some ⟨b, off, none⟩) (M + 1) ca) ∧ q.cell? ⟨ob, 0, none⟩ = some (.int .i64 nm) ∧ q.cell? ⟨ob, 1, none⟩ = some (.int .i64 ba) ∧ q.cell? ⟨ob, 2, none⟩ = some (.int .u32 (so : Int)) ∧ q.cell? ⟨ob, 3, none⟩ = some (.int .i64 en) ∧ q.cell? ⟨ob, 4, none⟩ = some (.int .i64 sz) ∧ q.cell? ⟨xb, 0, none⟩ = some (.int .i64 (nm + 1)) ∧ q.cell? ⟨xb, 1, none⟩ = some (.int .i64 en) ∧ q.cell? ⟨xb, 2, none⟩ = some (.int .u32 (se : Int)) ∧ q.cell? ⟨xb, 3, none⟩ = some (.int .i64 0) ∧ q.cell? ⟨xb, 4, none⟩ = some (.int .i64 0)) := by
   intro q hb
   obtain ⟨c0, c1, c2⟩ := three_cells (show q.heap[cb]? = _ by rw [hb.block _ (heap_lt u1.out)]; exact u1.out)
   obtain ⟨d0, d1, d2, d3, d4⟩ := five_cells (show q.heap[ob]? = _ by rw [hb.block _ (heap_lt u3.out)]; exact u3.out)
   obtain ⟨e0, e1, e2, e3, e4⟩ := five_cells (show q.heap[xb]? = _ by rw [hb.block _ (heap_lt u4.out)]; exact u4.out)
   exact ⟨c0, c1, c2, d0, d1, d2, d3, d4, e0, e1, e2, e3, e4⟩
  obtain ⟨i0, hi, hz0, hz1, hz2⟩ := info_parts infoSeg
  have hMca : M ≤ ca := by omega
  go_cut [13] from 49 to 64 (fun y wx => ∃ nb v2, y = .pointer (some ⟨nb, 0, none⟩) ∧ Hid (w5.heap.size ≤ nb ∧ Below w5.heap.size w5 wx ∧ Own w5.heap.size wx v2 R ∧ wx.heap[nb]? = some (.cells #[.int .i64 (g + 1), .int .i64 fi, v2] 47 (0, 0))))
  case first =>
   have KP : Hid (Below w5.heap.size w5 w5.drew) := (Below.refl _ _).drew
   refine wp_region_held_drew (S := fun q => Below w5.heap.size w5 q) (by kernel_rfl) KP.out (fun hHeld => ?_)
   clear hHeld
   have VT0 := VT
   generalize w5.drew = q at *
   refine wpAnyH_take (i := 0) (oi := ⟨some 49, .fieldAddr 47 (.tmp 4) 0, _, _, _, _⟩) (v := .pointer (some ⟨cb, 0, none⟩)) rfl (by kernel_rfl) (by kernel_rfl) (by kernel_rfl) (fun _ _ _ h => h) (Or.inl ⟨by rfl, ?_⟩) KP.out ?_
   ·intro wq hSw
    obtain ⟨c0, c1, c2, d0, d1, d2, d3, d4, e0, e1, e2, e3, e4⟩ := KC.out wq hSw
    go_simp
   (try simp only [zzp, zzb, zzc])
   refine wpAnyH_take (i := 1) (oi := ⟨some 50, .load 2 (.tmp 49), _, _, _, _⟩) (v := .int .i64 g) rfl (by kernel_rfl) (by kernel_rfl) (by kernel_rfl) (fun _ _ _ h => h) (Or.inl ⟨by rfl, ?_⟩) KP.out ?_
   ·intro wq hSw
    obtain ⟨c0, c1, c2, d0, d1, d2, d3, d4, e0, e1, e2, e3, e4⟩ := KC.out wq hSw
    go_simp
   (try simp only [zzp, zzb, zzc])
   refine wpAnyH_take (i := 2) (oi := ⟨some 51, .binOp .add 2 (.tmp 50) (.const (Value.int IntKind.i64 1)) 2, _, _, _, _⟩) (v := .int .i64 (g + 1)) rfl (by kernel_rfl) (by kernel_rfl) (by kernel_rfl) (fun _ _ _ h => h) (Or.inl ⟨by rfl, ?_⟩) KP.out ?_
   ·intro wq hSw
    obtain ⟨c0, c1, c2, d0, d1, d2, d3, d4, e0, e1, e2, e3, e4⟩ := KC.out wq hSw
    go_simp
   (try simp only [zzp, zzb, zzc])
   refine wpAnyH_take (i := 3) (oi := ⟨some 52, .fieldAddr 47 (.tmp 4) 1, _, _, _, _⟩) (v := .pointer (some ⟨cb, 1, none⟩)) rfl (by kernel_rfl) (by kernel_rfl) (by kernel_rfl) (fun _ _ _ h => h) (Or.inl ⟨by rfl, ?_⟩) KP.out ?_
   ·intro wq hSw
    obtain ⟨c0, c1, c2, d0, d1, d2, d3, d4, e0, e1, e2, e3, e4⟩ := KC.out wq hSw
    go_simp
   (try simp only [zzp, zzb, zzc])
   refine wpAnyH_take (i := 4) (oi := ⟨some 53, .load 2 (.tmp 52), _, _, _, _⟩) (v := .int .i64 fi) rfl (by kernel_rfl) (by kernel_rfl) (by kernel_rfl) (fun _ _ _ h => h) (Or.inl ⟨by rfl, ?_⟩) KP.out ?_
   ·intro wq hSw
    obtain ⟨c0, c1, c2, d0, d1, d2, d3, d4, e0, e1, e2, e3, e4⟩ := KC.out wq hSw
    go_simp
   (try simp only [zzp, zzb, zzc])
   refine wpAnyH_take (i := 5) (oi := ⟨some 54, .fieldAddr 47 (.tmp 4) 2, _, _, _, _⟩) (v := .pointer (some ⟨cb, 2, none⟩)) rfl (by kernel_rfl) (by kernel_rfl) (by kernel_rfl) (fun _ _ _ h => h) (Or.inl ⟨by rfl, ?_⟩) KP.out ?_
   ·intro wq hSw
    obtain ⟨c0, c1, c2, d0, d1, d2, d3, d4, e0, e1, e2, e3, e4⟩ := KC.out wq hSw
    go_simp
   (try simp only [zzp, zzb, zzc])
   refine wpAnyH_take (i := 6) (oi := ⟨some 55, .load 45 (.tmp 54), _, _, _, _⟩) (v := .slice (some ⟨b, off, none⟩) (M + 1) ca) rfl (by kernel_rfl) (by kernel_rfl) (by kernel_rfl) (fun _ _ _ h => h) (Or.inl ⟨by rfl, ?_⟩) KP.out ?_
   ·intro wq hSw
    obtain ⟨c0, c1, c2, d0, d1, d2, d3, d4, e0, e1, e2, e3, e4⟩ := KC.out wq hSw
    go_simp
   (try simp only [zzp, zzb, zzc])
   refine wpAnyH_take (i := 7) (oi := ⟨some 56, .move (.tmp 10), _, _, _, _⟩) (v := .int .i64 ((M : Int) + 1)) rfl (by kernel_rfl) (by kernel_rfl) (by kernel_rfl) (fun _ _ _ h => h) (Or.inl ⟨by rfl, ?_⟩) KP.out ?_
   ·intro wq hSw
    obtain ⟨c0, c1, c2, d0, d1, d2, d3, d4, e0, e1, e2, e3, e4⟩ := KC.out wq hSw
    go_simp
   (try simp only [zzp, zzb, zzc])
   refine wpAnyH_take (i := 8) (oi := ⟨some 57, .binOp .sub 3 (.tmp 56) (.const (Value.int IntKind.i64 1)) 3, _, _, _, _⟩) (v := .int .i64 (M : Int)) rfl (by kernel_rfl) (by kernel_rfl) (by kernel_rfl) (fun _ _ _ h => h) (Or.inl ⟨by rfl, ?_⟩) KP.out ?_
   ·intro wq hSw
    obtain ⟨c0, c1, c2, d0, d1, d2, d3, d4, e0, e1, e2, e3, e4⟩ := KC.out wq hSw
    go_simp
   (try simp only [zzp, zzb, zzc])
   refine wpAnyH_take (i := 9) (oi := ⟨some 58, .slice 45 (.tmp 55) none (some (.tmp 57)) none, _, _, _, _⟩) (v := .slice (some ⟨b, off, none⟩) M ca) rfl (by kernel_rfl) (by kernel_rfl) (by kernel_rfl) (fun _ _ _ h => h) (Or.inl ⟨by rfl, ?_⟩) KP.out ?_
   ·intro wq hSw
    obtain ⟨c0, c1, c2, d0, d1, d2, d3, d4, e0, e1, e2, e3, e4⟩ := KC.out wq hSw
    go_simp
    (try (intro h; exfalso; omega))
   (try simp only [zzp, zzb, zzc])
   refine wpAnyH_take (i := 11) (oi := ⟨some 60, .load 51 (.tmp 11), _, _, _, _⟩) (v := .agg #[.int .i64 nm, .int .i64 ba, .int .u32 (so : Int), .int .i64 en, .int .i64 sz]) rfl (by kernel_rfl) (by kernel_rfl) (by kernel_rfl) (fun _ _ _ h => h) (Or.inl ⟨by rfl, ?_⟩) KP.out ?_
   ·intro wq hSw
    obtain ⟨c0, c1, c2, d0, d1, d2, d3, d4, e0, e1, e2, e3, e4⟩ := KC.out wq hSw
    go_simp
   (try simp only [zzp, zzb, zzc])
   refine wpAnyH_take (i := 12) (oi := ⟨some 61, .load 51 (.tmp 12), _, _, _, _⟩) (v := .agg #[.int .i64 (nm + 1), .int .i64 en, .int .u32 (se : Int), .int .i64 0, .int .i64 0]) rfl (by kernel_rfl) (by kernel_rfl) (by kernel_rfl) (fun _ _ _ h => h) (Or.inl ⟨by rfl, ?_⟩) KP.out ?_
   ·intro wq hSw
    obtain ⟨c0, c1, c2, d0, d1, d2, d3, d4, e0, e1, e2, e3, e4⟩ := KC.out wq hSw
    go_simp
   (try simp only [zzp, zzb, zzc])
   refine wpAnyH_ready (rs := [10, 13, 16]) (by kernel_rfl) (by simp) ?_
   refine AllReadyH.cons (o := ⟨some 59, .call { callee := .value (.func 37), args := #[.tmp 58], argTypes := #[45] }, _, _, _, _⟩) rfl (fun K hK => ?_) ?_
   ·go_simp
    refine (clone_any q _ T (VT.out.below KP.out) hTl.out).mono ?_
    rintro e q1 ⟨vn, rfl, O1, B1⟩
    have KP1 := hide (keepF KP.out B1)
    replace O1 : Hid (Own w5.heap.size q1 vn T) := O1.low KP.out.size
    obtain ⟨aon, can, rfl, _, _⟩ := O1.out.form
    refine hK.out _ _ KP1.out (fun hHeld => ?_)
    clear hK K hHeld KP B1
    (try simp only [zzp, zzb, zzc])
    clear q
    refine wpAnyH_ready (rs := [13, 16]) (by kernel_rfl) (by simp) ?_
    refine AllReadyH.cons (o := ⟨some 62, .buildSlice 45 2 #[(0, .tmp 60), (1, .tmp 61)], _, _, _, _⟩) rfl (fun K hK => ?_) ?_
    ·go_simp
     have KP2 := hide (keepF KP1.out (box_below q1 (.cells #[.int .i64 nm, .int .i64 ba, .int .u32 (so : Int), .int .i64 en, .int .i64 sz, .int .i64 (nm + 1), .int .i64 en, .int .u32 (se : Int), .int .i64 0, .int .i64 0] 51)))
     replace O1 := hide (O1.out.below (box_below q1 (.cells #[.int .i64 nm, .int .i64 ba, .int .u32 (so : Int), .int .i64 en, .int .i64 sz, .int .i64 (nm + 1), .int .i64 en, .int .u32 (se : Int), .int .i64 0, .int .i64 0] 51)))
     have SB := hide (heap_alloc_new q1 (.cells #[.int .i64 nm, .int .i64 ba, .int .u32 (so : Int), .int .i64 en, .int .i64 sz, .int .i64 (nm + 1), .int .i64 en, .int .u32 (se : Int), .int .i64 0, .int .i64 0] 51))
     refine hK.out _ _ KP2.out (fun hHeld => ?_)
     clear hK K hHeld KP1
     (try simp only [zzp, zzb, zzc])
     generalize q1.alloc (.cells #[.int .i64 nm, .int .i64 ba, .int .u32 (so : Int), .int .i64 en, .int .i64 sz, .int .i64 (nm + 1), .int .i64 en, .int .u32 (se : Int), .int .i64 0, .int .i64 0] 51) = q2 at *
     generalize q1.heap.size = sb at *
     clear q1
     refine wpAnyH_ready (rs := [14, 16]) (by kernel_rfl) (by simp) ?_
     refine AllReadyH.cons (o := ⟨some 63, .call { callee := .builtin .append, args := #[.tmp 59, .tmp 62], argTypes := #[45, 45] }, _, _, _, _⟩) rfl (fun K hK => ?_) ?_
     ·refine step_append_lies _ rfl (.tmp 59) (.tmp 62) 45 rfl w5.heap.size 51 i0 (.agg #[.int .i64 0, .int .i64 0, .int .u32 0, .int .i64 0, .int .i64 0]) 5 40 Tryz.underlying45 hi hz0 hz1 hz2 rfl (by decide) (.slice aon T.length can) T.length (scells T) (by simp [Act.eval]) O1.out.2 ⟨sb, 0, none⟩ 2 2 [.int .i64 nm, .int .i64 ba, .int .u32 (so : Int), .int .i64 en, .int .i64 sz, .int .i64 (nm + 1), .int .i64 en, .int .u32 (se : Int), .int .i64 0, .int .i64 0] (by simp [Act.eval]) rfl (ten_new SB.out) (by simp [Value.oneCell']) (by decide) (by have := hTl.out; unfold maxLen; omega) (by have := hTl.out; omega) KP2.out.size q2.heap.size rfl ?_
      intro g2 cap2 q3 ho hgr hat hlt
      have KP3 := hide (Below.grown KP2.out hgr KP2.out.size (fun k hk => (O1.out.lt k hk).1))
      have V2 : Hid (Own w5.heap.size q3 (.slice (some ⟨g2, 0, none⟩) (T.length + 2) cap2) R) := ⟨hRin.out, by rw [hRl.out, hRs.out]; exact ho⟩
      refine hK.out _ _ KP3.out (fun hHeld => ?_)
      clear hK K hHeld KP2 hgr ho SB O1 hat hlt
      (try simp only [zzp, zzb, zzc])
      clear q2
      refine wpAnyH_take (i := 15) (oi := ⟨some 64, .build 47 #[(0, .tmp 51), (1, .tmp 53), (2, .tmp 63)], _, _, _, _⟩) (v := .agg #[.int .i64 (g + 1), .int .i64 fi, (.slice (some ⟨g2, 0, none⟩) (T.length + 2) cap2)]) rfl (by kernel_rfl) (by kernel_rfl) (by kernel_rfl) (fun _ _ _ h => h) (Or.inl ⟨by rfl, ?_⟩) KP3.out ?_
      ·intro wq hSw; go_simp
      (try simp only [zzp, zzb, zzc])
      refine wpAnyH_ready (rs := [16]) (by kernel_rfl) (by simp) ?_
      refine AllReadyH.cons (o := ⟨some 13, .alloc 47, _, _, _, _⟩) rfl (fun K hK => ?_) ?_
      ·go_simp
       have KP4 := hide (keepF KP3.out (box_below q3 (.cells #[.int .i64 0, .int .i64 0, .slice none 0 0] 47)))
       replace V2 := hide (V2.out.below (box_below q3 (.cells #[.int .i64 0, .int .i64 0, .slice none 0 0] 47)))
       have LB := hide (heap_alloc_new q3 (.cells #[.int .i64 0, .int .i64 0, .slice none 0 0] 47))
       have LL := hide KP3.out.size
       refine hK.out _ _ KP4.out (fun hHeld => ?_)
       clear hK K hHeld KP3
       (try simp only [zzp, zzb, zzc])
       generalize q3.alloc (.cells #[.int .i64 0, .int .i64 0, .slice none 0 0] 47) = q4 at *
       generalize q3.heap.size = lb at *
       clear q3
       refine wpAnyH_ready (rs := [17]) (by kernel_rfl) (by simp) ?_
       refine AllReadyH.cons (o := ⟨none, .store 47 (.tmp 13) (.tmp 64), _, _, _, _⟩) rfl (fun K hK => ?_) AllReadyH.nil
       have yy := three_cells LB.out
       have y0 := yy.1
       have y1 := yy.2.1
       have y2 := yy.2.2
       clear yy
       have xx := three_frozen LB.out
       have x0 := xx.1
       have x1 := xx.2.1
       have x2 := xx.2.2
       clear xx
       have KP5 := put3_below KP4.out LL.out (.int .i64 (g + 1)) (.int .i64 fi) (.slice (some ⟨g2, 0, none⟩) (T.length + 2) cap2)
       go_simp
       refine hK.out _ _ KP5 (fun hHeld => ?_)
       clear hK K hHeld y0 y1 y2 x0 x1 x2
       refine wpAnyH_done (by kernel_rfl) ?_ _
       go_wp2_with fail
       go_meet
       case rel =>
        refine ⟨lb, (.slice (some ⟨g2, 0, none⟩) (T.length + 2) cap2), rfl, ?_⟩
        have z1 := V2.out.put3 LB.out (by decide) (.int .i64 (g + 1)) (.int .i64 fi) (.slice (some ⟨g2, 0, none⟩) (T.length + 2) cap2)
        have z2 := put3_heap LB.out (.int .i64 (g + 1)) (.int .i64 fi) (.slice (some ⟨g2, 0, none⟩) (T.length + 2) cap2)
        exact ⟨LL.out, KP5, z1, z2⟩
      exact AllReadyH.nil
     refine AllReadyH.cons (o := ⟨some 13, .alloc 47, _, _, _, _⟩) rfl (fun K hK => ?_) ?_
     ·go_simp
      have KP6 := hide (keepF KP2.out (box_below q2 (.cells #[.int .i64 0, .int .i64 0, .slice none 0 0] 47)))
      replace O1 := hide (O1.out.below (box_below q2 (.cells #[.int .i64 0, .int .i64 0, .slice none 0 0] 47)))
      replace SB : Hid ((q2.alloc (.cells #[.int .i64 0, .int .i64 0, .slice none 0 0] 47)).heap[sb]? = some (.cells #[.int .i64 nm, .int .i64 ba, .int .u32 (so : Int), .int .i64 en, .int .i64 sz, .int .i64 (nm + 1), .int .i64 en, .int .u32 (se : Int), .int .i64 0, .int .i64 0] 51 (0, 0))) := hide (by rw [(box_below q2 _).block sb (heap_lt SB.out)]; exact SB.out)
      have LB := hide (heap_alloc_new q2 (.cells #[.int .i64 0, .int .i64 0, .slice none 0 0] 47))
      have LL := hide KP2.out.size
      refine hK.out _ _ KP6.out (fun hHeld => ?_)
      clear hK K hHeld KP2
      (try simp only [zzp, zzb, zzc])
      generalize q2.alloc (.cells #[.int .i64 0, .int .i64 0, .slice none 0 0] 47) = q6 at *
      generalize q2.heap.size = lb at *
      clear q2
      refine wpAnyH_ready (rs := [14]) (by kernel_rfl) (by simp) ?_
      refine AllReadyH.cons (o := ⟨some 63, .call { callee := .builtin .append, args := #[.tmp 59, .tmp 62], argTypes := #[45, 45] }, _, _, _, _⟩) rfl (fun K hK => ?_) ?_
      ·refine step_append_lies _ rfl (.tmp 59) (.tmp 62) 45 rfl w5.heap.size 51 i0 (.agg #[.int .i64 0, .int .i64 0, .int .u32 0, .int .i64 0, .int .i64 0]) 5 40 Tryz.underlying45 hi hz0 hz1 hz2 rfl (by decide) (.slice aon T.length can) T.length (scells T) (by simp [Act.eval]) O1.out.2 ⟨sb, 0, none⟩ 2 2 [.int .i64 nm, .int .i64 ba, .int .u32 (so : Int), .int .i64 en, .int .i64 sz, .int .i64 (nm + 1), .int .i64 en, .int .u32 (se : Int), .int .i64 0, .int .i64 0] (by simp [Act.eval]) rfl (ten_new SB.out) (by simp [Value.oneCell']) (by decide) (by have := hTl.out; unfold maxLen; omega) (by have := hTl.out; omega) KP6.out.size q6.heap.size rfl ?_
       intro g2 cap2 q7 ho hgr hat hlt
       have KP7 := hide (Below.grown KP6.out hgr KP6.out.size (fun k hk => (O1.out.lt k hk).1))
       have V2 : Hid (Own w5.heap.size q7 (.slice (some ⟨g2, 0, none⟩) (T.length + 2) cap2) R) := ⟨hRin.out, by rw [hRl.out, hRs.out]; exact ho⟩
       replace LB : Hid (q7.heap[lb]? = some (.cells #[.int .i64 0, .int .i64 0, .slice none 0 0] 47 (0, 0))) := hide (by rw [hgr.block lb (heap_lt LB.out) (fun e => O1.out.no LB.out (by decide) e.symm)]; exact LB.out)
       refine hK.out _ _ KP7.out (fun hHeld => ?_)
       clear hK K hHeld KP6 hgr ho SB O1 hat hlt
       (try simp only [zzp, zzb, zzc])
       clear q6
       refine wpAnyH_take (i := 15) (oi := ⟨some 64, .build 47 #[(0, .tmp 51), (1, .tmp 53), (2, .tmp 63)], _, _, _, _⟩) (v := .agg #[.int .i64 (g + 1), .int .i64 fi, (.slice (some ⟨g2, 0, none⟩) (T.length + 2) cap2)]) rfl (by kernel_rfl) (by kernel_rfl) (by kernel_rfl) (fun _ _ _ h => h) (Or.inl ⟨by rfl, ?_⟩) KP7.out ?_
       ·intro wq hSw; go_simp
       (try simp only [zzp, zzb, zzc])
       refine wpAnyH_ready (rs := [17]) (by kernel_rfl) (by simp) ?_
       refine AllReadyH.cons (o := ⟨none, .store 47 (.tmp 13) (.tmp 64), _, _, _, _⟩) rfl (fun K hK => ?_) AllReadyH.nil
       have yy := three_cells LB.out
       have y0 := yy.1
       have y1 := yy.2.1
       have y2 := yy.2.2
       clear yy
       have xx := three_frozen LB.out
       have x0 := xx.1
       have x1 := xx.2.1
       have x2 := xx.2.2
       clear xx
       have KP8 := put3_below KP7.out LL.out (.int .i64 (g + 1)) (.int .i64 fi) (.slice (some ⟨g2, 0, none⟩) (T.length + 2) cap2)
       go_simp
       refine hK.out _ _ KP8 (fun hHeld => ?_)
       clear hK K hHeld y0 y1 y2 x0 x1 x2
       refine wpAnyH_done (by kernel_rfl) ?_ _
       go_wp2_with fail
       go_meet
       case rel =>
        refine ⟨lb, (.slice (some ⟨g2, 0, none⟩) (T.length + 2) cap2), rfl, ?_⟩
        have z1 := V2.out.put3 LB.out (by decide) (.int .i64 (g + 1)) (.int .i64 fi) (.slice (some ⟨g2, 0, none⟩) (T.length + 2) cap2)
        have z2 := put3_heap LB.out (.int .i64 (g + 1)) (.int .i64 fi) (.slice (some ⟨g2, 0, none⟩) (T.length + 2) cap2)
        exact ⟨LL.out, KP8, z1, z2⟩
      exact AllReadyH.nil
     exact AllReadyH.nil
    refine AllReadyH.cons (o := ⟨some 13, .alloc 47, _, _, _, _⟩) rfl (fun K hK => ?_) ?_
    ·go_simp
     have KP9 := hide (keepF KP1.out (box_below q1 (.cells #[.int .i64 0, .int .i64 0, .slice none 0 0] 47)))
     replace O1 := hide (O1.out.below (box_below q1 (.cells #[.int .i64 0, .int .i64 0, .slice none 0 0] 47)))
     have LB := hide (heap_alloc_new q1 (.cells #[.int .i64 0, .int .i64 0, .slice none 0 0] 47))
     have LL := hide KP1.out.size
     refine hK.out _ _ KP9.out (fun hHeld => ?_)
     clear hK K hHeld KP1
     (try simp only [zzp, zzb, zzc])
     generalize q1.alloc (.cells #[.int .i64 0, .int .i64 0, .slice none 0 0] 47) = q9 at *
     generalize q1.heap.size = lb at *
     clear q1
     refine wpAnyH_ready (rs := [13]) (by kernel_rfl) (by simp) ?_
     refine AllReadyH.cons (o := ⟨some 62, .buildSlice 45 2 #[(0, .tmp 60), (1, .tmp 61)], _, _, _, _⟩) rfl (fun K hK => ?_) ?_
     ·go_simp
      have KP10 := hide (keepF KP9.out (box_below q9 (.cells #[.int .i64 nm, .int .i64 ba, .int .u32 (so : Int), .int .i64 en, .int .i64 sz, .int .i64 (nm + 1), .int .i64 en, .int .u32 (se : Int), .int .i64 0, .int .i64 0] 51)))
      replace O1 := hide (O1.out.below (box_below q9 (.cells #[.int .i64 nm, .int .i64 ba, .int .u32 (so : Int), .int .i64 en, .int .i64 sz, .int .i64 (nm + 1), .int .i64 en, .int .u32 (se : Int), .int .i64 0, .int .i64 0] 51)))
      replace LB : Hid ((q9.alloc (.cells #[.int .i64 nm, .int .i64 ba, .int .u32 (so : Int), .int .i64 en, .int .i64 sz, .int .i64 (nm + 1), .int .i64 en, .int .u32 (se : Int), .int .i64 0, .int .i64 0] 51)).heap[lb]? = some (.cells #[.int .i64 0, .int .i64 0, .slice none 0 0] 47 (0, 0))) := hide (by rw [(box_below q9 _).block lb (heap_lt LB.out)]; exact LB.out)
      have SB := hide (heap_alloc_new q9 (.cells #[.int .i64 nm, .int .i64 ba, .int .u32 (so : Int), .int .i64 en, .int .i64 sz, .int .i64 (nm + 1), .int .i64 en, .int .u32 (se : Int), .int .i64 0, .int .i64 0] 51))
      refine hK.out _ _ KP10.out (fun hHeld => ?_)
      clear hK K hHeld KP9
      (try simp only [zzp, zzb, zzc])
      generalize q9.alloc (.cells #[.int .i64 nm, .int .i64 ba, .int .u32 (so : Int), .int .i64 en, .int .i64 sz, .int .i64 (nm + 1), .int .i64 en, .int .u32 (se : Int), .int .i64 0, .int .i64 0] 51) = q10 at *
      generalize q9.heap.size = sb at *
      clear q9
      refine wpAnyH_ready (rs := [14]) (by kernel_rfl) (by simp) ?_
      refine AllReadyH.cons (o := ⟨some 63, .call { callee := .builtin .append, args := #[.tmp 59, .tmp 62], argTypes := #[45, 45] }, _, _, _, _⟩) rfl (fun K hK => ?_) ?_
      ·refine step_append_lies _ rfl (.tmp 59) (.tmp 62) 45 rfl w5.heap.size 51 i0 (.agg #[.int .i64 0, .int .i64 0, .int .u32 0, .int .i64 0, .int .i64 0]) 5 40 Tryz.underlying45 hi hz0 hz1 hz2 rfl (by decide) (.slice aon T.length can) T.length (scells T) (by simp [Act.eval]) O1.out.2 ⟨sb, 0, none⟩ 2 2 [.int .i64 nm, .int .i64 ba, .int .u32 (so : Int), .int .i64 en, .int .i64 sz, .int .i64 (nm + 1), .int .i64 en, .int .u32 (se : Int), .int .i64 0, .int .i64 0] (by simp [Act.eval]) rfl (ten_new SB.out) (by simp [Value.oneCell']) (by decide) (by have := hTl.out; unfold maxLen; omega) (by have := hTl.out; omega) KP10.out.size q10.heap.size rfl ?_
       intro g2 cap2 q11 ho hgr hat hlt
       have KP11 := hide (Below.grown KP10.out hgr KP10.out.size (fun k hk => (O1.out.lt k hk).1))
       have V2 : Hid (Own w5.heap.size q11 (.slice (some ⟨g2, 0, none⟩) (T.length + 2) cap2) R) := ⟨hRin.out, by rw [hRl.out, hRs.out]; exact ho⟩
       replace LB : Hid (q11.heap[lb]? = some (.cells #[.int .i64 0, .int .i64 0, .slice none 0 0] 47 (0, 0))) := hide (by rw [hgr.block lb (heap_lt LB.out) (fun e => O1.out.no LB.out (by decide) e.symm)]; exact LB.out)
       refine hK.out _ _ KP11.out (fun hHeld => ?_)
       clear hK K hHeld KP10 hgr ho SB O1 hat hlt
       (try simp only [zzp, zzb, zzc])
       clear q10
       refine wpAnyH_take (i := 15) (oi := ⟨some 64, .build 47 #[(0, .tmp 51), (1, .tmp 53), (2, .tmp 63)], _, _, _, _⟩) (v := .agg #[.int .i64 (g + 1), .int .i64 fi, (.slice (some ⟨g2, 0, none⟩) (T.length + 2) cap2)]) rfl (by kernel_rfl) (by kernel_rfl) (by kernel_rfl) (fun _ _ _ h => h) (Or.inl ⟨by rfl, ?_⟩) KP11.out ?_
       ·intro wq hSw; go_simp
       (try simp only [zzp, zzb, zzc])
       refine wpAnyH_ready (rs := [17]) (by kernel_rfl) (by simp) ?_
       refine AllReadyH.cons (o := ⟨none, .store 47 (.tmp 13) (.tmp 64), _, _, _, _⟩) rfl (fun K hK => ?_) AllReadyH.nil
       have yy := three_cells LB.out
       have y0 := yy.1
       have y1 := yy.2.1
       have y2 := yy.2.2
       clear yy
       have xx := three_frozen LB.out
       have x0 := xx.1
       have x1 := xx.2.1
       have x2 := xx.2.2
       clear xx
       have KP12 := put3_below KP11.out LL.out (.int .i64 (g + 1)) (.int .i64 fi) (.slice (some ⟨g2, 0, none⟩) (T.length + 2) cap2)
       go_simp
       refine hK.out _ _ KP12 (fun hHeld => ?_)
       clear hK K hHeld y0 y1 y2 x0 x1 x2
       refine wpAnyH_done (by kernel_rfl) ?_ _
       go_wp2_with fail
       go_meet
       case rel =>
        refine ⟨lb, (.slice (some ⟨g2, 0, none⟩) (T.length + 2) cap2), rfl, ?_⟩
        have z1 := V2.out.put3 LB.out (by decide) (.int .i64 (g + 1)) (.int .i64 fi) (.slice (some ⟨g2, 0, none⟩) (T.length + 2) cap2)
        have z2 := put3_heap LB.out (.int .i64 (g + 1)) (.int .i64 fi) (.slice (some ⟨g2, 0, none⟩) (T.length + 2) cap2)
        exact ⟨LL.out, KP12, z1, z2⟩
      exact AllReadyH.nil
     exact AllReadyH.nil
    exact AllReadyH.nil
   refine AllReadyH.cons (o := ⟨some 62, .buildSlice 45 2 #[(0, .tmp 60), (1, .tmp 61)], _, _, _, _⟩) rfl (fun K hK => ?_) ?_
   ·go_simp
    have KP13 := hide (keepF KP.out (box_below q (.cells #[.int .i64 nm, .int .i64 ba, .int .u32 (so : Int), .int .i64 en, .int .i64 sz, .int .i64 (nm + 1), .int .i64 en, .int .u32 (se : Int), .int .i64 0, .int .i64 0] 51)))
    have SB := hide (heap_alloc_new q (.cells #[.int .i64 nm, .int .i64 ba, .int .u32 (so : Int), .int .i64 en, .int .i64 sz, .int .i64 (nm + 1), .int .i64 en, .int .u32 (se : Int), .int .i64 0, .int .i64 0] 51))
    refine hK.out _ _ KP13.out (fun hHeld => ?_)
    clear hK K hHeld KP
    (try simp only [zzp, zzb, zzc])
    generalize q.alloc (.cells #[.int .i64 nm, .int .i64 ba, .int .u32 (so : Int), .int .i64 en, .int .i64 sz, .int .i64 (nm + 1), .int .i64 en, .int .u32 (se : Int), .int .i64 0, .int .i64 0] 51) = q13 at *
    generalize q.heap.size = sb at *
    clear q
    refine wpAnyH_ready (rs := [10, 16]) (by kernel_rfl) (by simp) ?_
    refine AllReadyH.cons (o := ⟨some 59, .call { callee := .value (.func 37), args := #[.tmp 58], argTypes := #[45] }, _, _, _, _⟩) rfl (fun K hK => ?_) ?_
    ·go_simp
     refine (clone_any q13 _ T (VT.out.below KP13.out) hTl.out).mono ?_
     rintro e q14 ⟨vn, rfl, O1, B1⟩
     have KP14 := hide (keepF KP13.out B1)
     replace O1 : Hid (Own w5.heap.size q14 vn T) := O1.low KP13.out.size
     obtain ⟨aon, can, rfl, _, _⟩ := O1.out.form
     replace SB : Hid (q14.heap[sb]? = some (.cells #[.int .i64 nm, .int .i64 ba, .int .u32 (so : Int), .int .i64 en, .int .i64 sz, .int .i64 (nm + 1), .int .i64 en, .int .u32 (se : Int), .int .i64 0, .int .i64 0] 51 (0, 0))) := hide (by rw [B1.block sb (heap_lt SB.out)]; exact SB.out)
     refine hK.out _ _ KP14.out (fun hHeld => ?_)
     clear hK K hHeld KP13 B1
     (try simp only [zzp, zzb, zzc])
     clear q13
     refine wpAnyH_ready (rs := [14, 16]) (by kernel_rfl) (by simp) ?_
     refine AllReadyH.cons (o := ⟨some 63, .call { callee := .builtin .append, args := #[.tmp 59, .tmp 62], argTypes := #[45, 45] }, _, _, _, _⟩) rfl (fun K hK => ?_) ?_
     ·refine step_append_lies _ rfl (.tmp 59) (.tmp 62) 45 rfl w5.heap.size 51 i0 (.agg #[.int .i64 0, .int .i64 0, .int .u32 0, .int .i64 0, .int .i64 0]) 5 40 Tryz.underlying45 hi hz0 hz1 hz2 rfl (by decide) (.slice aon T.length can) T.length (scells T) (by simp [Act.eval]) O1.out.2 ⟨sb, 0, none⟩ 2 2 [.int .i64 nm, .int .i64 ba, .int .u32 (so : Int), .int .i64 en, .int .i64 sz, .int .i64 (nm + 1), .int .i64 en, .int .u32 (se : Int), .int .i64 0, .int .i64 0] (by simp [Act.eval]) rfl (ten_new SB.out) (by simp [Value.oneCell']) (by decide) (by have := hTl.out; unfold maxLen; omega) (by have := hTl.out; omega) KP14.out.size q14.heap.size rfl ?_
      intro g2 cap2 q15 ho hgr hat hlt
      have KP15 := hide (Below.grown KP14.out hgr KP14.out.size (fun k hk => (O1.out.lt k hk).1))
      have V2 : Hid (Own w5.heap.size q15 (.slice (some ⟨g2, 0, none⟩) (T.length + 2) cap2) R) := ⟨hRin.out, by rw [hRl.out, hRs.out]; exact ho⟩
      refine hK.out _ _ KP15.out (fun hHeld => ?_)
      clear hK K hHeld KP14 hgr ho SB O1 hat hlt
      (try simp only [zzp, zzb, zzc])
      clear q14
      refine wpAnyH_take (i := 15) (oi := ⟨some 64, .build 47 #[(0, .tmp 51), (1, .tmp 53), (2, .tmp 63)], _, _, _, _⟩) (v := .agg #[.int .i64 (g + 1), .int .i64 fi, (.slice (some ⟨g2, 0, none⟩) (T.length + 2) cap2)]) rfl (by kernel_rfl) (by kernel_rfl) (by kernel_rfl) (fun _ _ _ h => h) (Or.inl ⟨by rfl, ?_⟩) KP15.out ?_
      ·intro wq hSw; go_simp
      (try simp only [zzp, zzb, zzc])
      refine wpAnyH_ready (rs := [16]) (by kernel_rfl) (by simp) ?_
      refine AllReadyH.cons (o := ⟨some 13, .alloc 47, _, _, _, _⟩) rfl (fun K hK => ?_) ?_
      ·go_simp
       have KP16 := hide (keepF KP15.out (box_below q15 (.cells #[.int .i64 0, .int .i64 0, .slice none 0 0] 47)))
       replace V2 := hide (V2.out.below (box_below q15 (.cells #[.int .i64 0, .int .i64 0, .slice none 0 0] 47)))
       have LB := hide (heap_alloc_new q15 (.cells #[.int .i64 0, .int .i64 0, .slice none 0 0] 47))
       have LL := hide KP15.out.size
       refine hK.out _ _ KP16.out (fun hHeld => ?_)
       clear hK K hHeld KP15
       (try simp only [zzp, zzb, zzc])
       generalize q15.alloc (.cells #[.int .i64 0, .int .i64 0, .slice none 0 0] 47) = q16 at *
       generalize q15.heap.size = lb at *
       clear q15
       refine wpAnyH_ready (rs := [17]) (by kernel_rfl) (by simp) ?_
       refine AllReadyH.cons (o := ⟨none, .store 47 (.tmp 13) (.tmp 64), _, _, _, _⟩) rfl (fun K hK => ?_) AllReadyH.nil
       have yy := three_cells LB.out
       have y0 := yy.1
       have y1 := yy.2.1
       have y2 := yy.2.2
       clear yy
       have xx := three_frozen LB.out
       have x0 := xx.1
       have x1 := xx.2.1
       have x2 := xx.2.2
       clear xx
       have KP17 := put3_below KP16.out LL.out (.int .i64 (g + 1)) (.int .i64 fi) (.slice (some ⟨g2, 0, none⟩) (T.length + 2) cap2)
       go_simp
       refine hK.out _ _ KP17 (fun hHeld => ?_)
       clear hK K hHeld y0 y1 y2 x0 x1 x2
       refine wpAnyH_done (by kernel_rfl) ?_ _
       go_wp2_with fail
       go_meet
       case rel =>
        refine ⟨lb, (.slice (some ⟨g2, 0, none⟩) (T.length + 2) cap2), rfl, ?_⟩
        have z1 := V2.out.put3 LB.out (by decide) (.int .i64 (g + 1)) (.int .i64 fi) (.slice (some ⟨g2, 0, none⟩) (T.length + 2) cap2)
        have z2 := put3_heap LB.out (.int .i64 (g + 1)) (.int .i64 fi) (.slice (some ⟨g2, 0, none⟩) (T.length + 2) cap2)
        exact ⟨LL.out, KP17, z1, z2⟩
      exact AllReadyH.nil
     refine AllReadyH.cons (o := ⟨some 13, .alloc 47, _, _, _, _⟩) rfl (fun K hK => ?_) ?_
     ·go_simp
      have KP18 := hide (keepF KP14.out (box_below q14 (.cells #[.int .i64 0, .int .i64 0, .slice none 0 0] 47)))
      replace O1 := hide (O1.out.below (box_below q14 (.cells #[.int .i64 0, .int .i64 0, .slice none 0 0] 47)))
      replace SB : Hid ((q14.alloc (.cells #[.int .i64 0, .int .i64 0, .slice none 0 0] 47)).heap[sb]? = some (.cells #[.int .i64 nm, .int .i64 ba, .int .u32 (so : Int), .int .i64 en, .int .i64 sz, .int .i64 (nm + 1), .int .i64 en, .int .u32 (se : Int), .int .i64 0, .int .i64 0] 51 (0, 0))) := hide (by rw [(box_below q14 _).block sb (heap_lt SB.out)]; exact SB.out)
      have LB := hide (heap_alloc_new q14 (.cells #[.int .i64 0, .int .i64 0, .slice none 0 0] 47))
      have LL := hide KP14.out.size
      refine hK.out _ _ KP18.out (fun hHeld => ?_)
      clear hK K hHeld KP14
      (try simp only [zzp, zzb, zzc])
      generalize q14.alloc (.cells #[.int .i64 0, .int .i64 0, .slice none 0 0] 47) = q18 at *
      generalize q14.heap.size = lb at *
      clear q14
      refine wpAnyH_ready (rs := [14]) (by kernel_rfl) (by simp) ?_
      refine AllReadyH.cons (o := ⟨some 63, .call { callee := .builtin .append, args := #[.tmp 59, .tmp 62], argTypes := #[45, 45] }, _, _, _, _⟩) rfl (fun K hK => ?_) ?_
      ·refine step_append_lies _ rfl (.tmp 59) (.tmp 62) 45 rfl w5.heap.size 51 i0 (.agg #[.int .i64 0, .int .i64 0, .int .u32 0, .int .i64 0, .int .i64 0]) 5 40 Tryz.underlying45 hi hz0 hz1 hz2 rfl (by decide) (.slice aon T.length can) T.length (scells T) (by simp [Act.eval]) O1.out.2 ⟨sb, 0, none⟩ 2 2 [.int .i64 nm, .int .i64 ba, .int .u32 (so : Int), .int .i64 en, .int .i64 sz, .int .i64 (nm + 1), .int .i64 en, .int .u32 (se : Int), .int .i64 0, .int .i64 0] (by simp [Act.eval]) rfl (ten_new SB.out) (by simp [Value.oneCell']) (by decide) (by have := hTl.out; unfold maxLen; omega) (by have := hTl.out; omega) KP18.out.size q18.heap.size rfl ?_
       intro g2 cap2 q19 ho hgr hat hlt
       have KP19 := hide (Below.grown KP18.out hgr KP18.out.size (fun k hk => (O1.out.lt k hk).1))
       have V2 : Hid (Own w5.heap.size q19 (.slice (some ⟨g2, 0, none⟩) (T.length + 2) cap2) R) := ⟨hRin.out, by rw [hRl.out, hRs.out]; exact ho⟩
       replace LB : Hid (q19.heap[lb]? = some (.cells #[.int .i64 0, .int .i64 0, .slice none 0 0] 47 (0, 0))) := hide (by rw [hgr.block lb (heap_lt LB.out) (fun e => O1.out.no LB.out (by decide) e.symm)]; exact LB.out)
       refine hK.out _ _ KP19.out (fun hHeld => ?_)
       clear hK K hHeld KP18 hgr ho SB O1 hat hlt
       (try simp only [zzp, zzb, zzc])
       clear q18
       refine wpAnyH_take (i := 15) (oi := ⟨some 64, .build 47 #[(0, .tmp 51), (1, .tmp 53), (2, .tmp 63)], _, _, _, _⟩) (v := .agg #[.int .i64 (g + 1), .int .i64 fi, (.slice (some ⟨g2, 0, none⟩) (T.length + 2) cap2)]) rfl (by kernel_rfl) (by kernel_rfl) (by kernel_rfl) (fun _ _ _ h => h) (Or.inl ⟨by rfl, ?_⟩) KP19.out ?_
       ·intro wq hSw; go_simp
       (try simp only [zzp, zzb, zzc])
       refine wpAnyH_ready (rs := [17]) (by kernel_rfl) (by simp) ?_
       refine AllReadyH.cons (o := ⟨none, .store 47 (.tmp 13) (.tmp 64), _, _, _, _⟩) rfl (fun K hK => ?_) AllReadyH.nil
       have yy := three_cells LB.out
       have y0 := yy.1
       have y1 := yy.2.1
       have y2 := yy.2.2
       clear yy
       have xx := three_frozen LB.out
       have x0 := xx.1
       have x1 := xx.2.1
       have x2 := xx.2.2
       clear xx
       have KP20 := put3_below KP19.out LL.out (.int .i64 (g + 1)) (.int .i64 fi) (.slice (some ⟨g2, 0, none⟩) (T.length + 2) cap2)
       go_simp
       refine hK.out _ _ KP20 (fun hHeld => ?_)
       clear hK K hHeld y0 y1 y2 x0 x1 x2
       refine wpAnyH_done (by kernel_rfl) ?_ _
       go_wp2_with fail
       go_meet
       case rel =>
        refine ⟨lb, (.slice (some ⟨g2, 0, none⟩) (T.length + 2) cap2), rfl, ?_⟩
        have z1 := V2.out.put3 LB.out (by decide) (.int .i64 (g + 1)) (.int .i64 fi) (.slice (some ⟨g2, 0, none⟩) (T.length + 2) cap2)
        have z2 := put3_heap LB.out (.int .i64 (g + 1)) (.int .i64 fi) (.slice (some ⟨g2, 0, none⟩) (T.length + 2) cap2)
        exact ⟨LL.out, KP20, z1, z2⟩
      exact AllReadyH.nil
     exact AllReadyH.nil
    refine AllReadyH.cons (o := ⟨some 13, .alloc 47, _, _, _, _⟩) rfl (fun K hK => ?_) ?_
    ·go_simp
     have KP21 := hide (keepF KP13.out (box_below q13 (.cells #[.int .i64 0, .int .i64 0, .slice none 0 0] 47)))
     replace SB : Hid ((q13.alloc (.cells #[.int .i64 0, .int .i64 0, .slice none 0 0] 47)).heap[sb]? = some (.cells #[.int .i64 nm, .int .i64 ba, .int .u32 (so : Int), .int .i64 en, .int .i64 sz, .int .i64 (nm + 1), .int .i64 en, .int .u32 (se : Int), .int .i64 0, .int .i64 0] 51 (0, 0))) := hide (by rw [(box_below q13 _).block sb (heap_lt SB.out)]; exact SB.out)
     have LB := hide (heap_alloc_new q13 (.cells #[.int .i64 0, .int .i64 0, .slice none 0 0] 47))
     have LL := hide KP13.out.size
     refine hK.out _ _ KP21.out (fun hHeld => ?_)
     clear hK K hHeld KP13
     (try simp only [zzp, zzb, zzc])
     generalize q13.alloc (.cells #[.int .i64 0, .int .i64 0, .slice none 0 0] 47) = q21 at *
     generalize q13.heap.size = lb at *
     clear q13
     refine wpAnyH_ready (rs := [10]) (by kernel_rfl) (by simp) ?_
     refine AllReadyH.cons (o := ⟨some 59, .call { callee := .value (.func 37), args := #[.tmp 58], argTypes := #[45] }, _, _, _, _⟩) rfl (fun K hK => ?_) ?_
     ·go_simp
      refine (clone_any q21 _ T (VT.out.below KP21.out) hTl.out).mono ?_
      rintro e q22 ⟨vn, rfl, O1, B1⟩
      have KP22 := hide (keepF KP21.out B1)
      replace O1 : Hid (Own w5.heap.size q22 vn T) := O1.low KP21.out.size
      obtain ⟨aon, can, rfl, _, _⟩ := O1.out.form
      replace SB : Hid (q22.heap[sb]? = some (.cells #[.int .i64 nm, .int .i64 ba, .int .u32 (so : Int), .int .i64 en, .int .i64 sz, .int .i64 (nm + 1), .int .i64 en, .int .u32 (se : Int), .int .i64 0, .int .i64 0] 51 (0, 0))) := hide (by rw [B1.block sb (heap_lt SB.out)]; exact SB.out)
      replace LB : Hid (q22.heap[lb]? = some (.cells #[.int .i64 0, .int .i64 0, .slice none 0 0] 47 (0, 0))) := hide (by rw [B1.block lb (heap_lt LB.out)]; exact LB.out)
      refine hK.out _ _ KP22.out (fun hHeld => ?_)
      clear hK K hHeld KP21 B1
      (try simp only [zzp, zzb, zzc])
      clear q21
      refine wpAnyH_ready (rs := [14]) (by kernel_rfl) (by simp) ?_
      refine AllReadyH.cons (o := ⟨some 63, .call { callee := .builtin .append, args := #[.tmp 59, .tmp 62], argTypes := #[45, 45] }, _, _, _, _⟩) rfl (fun K hK => ?_) ?_
      ·refine step_append_lies _ rfl (.tmp 59) (.tmp 62) 45 rfl w5.heap.size 51 i0 (.agg #[.int .i64 0, .int .i64 0, .int .u32 0, .int .i64 0, .int .i64 0]) 5 40 Tryz.underlying45 hi hz0 hz1 hz2 rfl (by decide) (.slice aon T.length can) T.length (scells T) (by simp [Act.eval]) O1.out.2 ⟨sb, 0, none⟩ 2 2 [.int .i64 nm, .int .i64 ba, .int .u32 (so : Int), .int .i64 en, .int .i64 sz, .int .i64 (nm + 1), .int .i64 en, .int .u32 (se : Int), .int .i64 0, .int .i64 0] (by simp [Act.eval]) rfl (ten_new SB.out) (by simp [Value.oneCell']) (by decide) (by have := hTl.out; unfold maxLen; omega) (by have := hTl.out; omega) KP22.out.size q22.heap.size rfl ?_
       intro g2 cap2 q23 ho hgr hat hlt
       have KP23 := hide (Below.grown KP22.out hgr KP22.out.size (fun k hk => (O1.out.lt k hk).1))
       have V2 : Hid (Own w5.heap.size q23 (.slice (some ⟨g2, 0, none⟩) (T.length + 2) cap2) R) := ⟨hRin.out, by rw [hRl.out, hRs.out]; exact ho⟩
       replace LB : Hid (q23.heap[lb]? = some (.cells #[.int .i64 0, .int .i64 0, .slice none 0 0] 47 (0, 0))) := hide (by rw [hgr.block lb (heap_lt LB.out) (fun e => O1.out.no LB.out (by decide) e.symm)]; exact LB.out)
       refine hK.out _ _ KP23.out (fun hHeld => ?_)
       clear hK K hHeld KP22 hgr ho SB O1 hat hlt
       (try simp only [zzp, zzb, zzc])
       clear q22
       refine wpAnyH_take (i := 15) (oi := ⟨some 64, .build 47 #[(0, .tmp 51), (1, .tmp 53), (2, .tmp 63)], _, _, _, _⟩) (v := .agg #[.int .i64 (g + 1), .int .i64 fi, (.slice (some ⟨g2, 0, none⟩) (T.length + 2) cap2)]) rfl (by kernel_rfl) (by kernel_rfl) (by kernel_rfl) (fun _ _ _ h => h) (Or.inl ⟨by rfl, ?_⟩) KP23.out ?_
       ·intro wq hSw; go_simp
       (try simp only [zzp, zzb, zzc])
       refine wpAnyH_ready (rs := [17]) (by kernel_rfl) (by simp) ?_
       refine AllReadyH.cons (o := ⟨none, .store 47 (.tmp 13) (.tmp 64), _, _, _, _⟩) rfl (fun K hK => ?_) AllReadyH.nil
       have yy := three_cells LB.out
       have y0 := yy.1
       have y1 := yy.2.1
       have y2 := yy.2.2
       clear yy
       have xx := three_frozen LB.out
       have x0 := xx.1
       have x1 := xx.2.1
       have x2 := xx.2.2
       clear xx
       have KP24 := put3_below KP23.out LL.out (.int .i64 (g + 1)) (.int .i64 fi) (.slice (some ⟨g2, 0, none⟩) (T.length + 2) cap2)
       go_simp
       refine hK.out _ _ KP24 (fun hHeld => ?_)
       clear hK K hHeld y0 y1 y2 x0 x1 x2
       refine wpAnyH_done (by kernel_rfl) ?_ _
       go_wp2_with fail
       go_meet
       case rel =>
        refine ⟨lb, (.slice (some ⟨g2, 0, none⟩) (T.length + 2) cap2), rfl, ?_⟩
        have z1 := V2.out.put3 LB.out (by decide) (.int .i64 (g + 1)) (.int .i64 fi) (.slice (some ⟨g2, 0, none⟩) (T.length + 2) cap2)
        have z2 := put3_heap LB.out (.int .i64 (g + 1)) (.int .i64 fi) (.slice (some ⟨g2, 0, none⟩) (T.length + 2) cap2)
        exact ⟨LL.out, KP24, z1, z2⟩
      exact AllReadyH.nil
     exact AllReadyH.nil
    exact AllReadyH.nil
   refine AllReadyH.cons (o := ⟨some 13, .alloc 47, _, _, _, _⟩) rfl (fun K hK => ?_) ?_
   ·go_simp
    have KP25 := hide (keepF KP.out (box_below q (.cells #[.int .i64 0, .int .i64 0, .slice none 0 0] 47)))
    have LB := hide (heap_alloc_new q (.cells #[.int .i64 0, .int .i64 0, .slice none 0 0] 47))
    have LL := hide KP.out.size
    refine hK.out _ _ KP25.out (fun hHeld => ?_)
    clear hK K hHeld KP
    (try simp only [zzp, zzb, zzc])
    generalize q.alloc (.cells #[.int .i64 0, .int .i64 0, .slice none 0 0] 47) = q25 at *
    generalize q.heap.size = lb at *
    clear q
    refine wpAnyH_ready (rs := [10, 13]) (by kernel_rfl) (by simp) ?_
    refine AllReadyH.cons (o := ⟨some 59, .call { callee := .value (.func 37), args := #[.tmp 58], argTypes := #[45] }, _, _, _, _⟩) rfl (fun K hK => ?_) ?_
    ·go_simp
     refine (clone_any q25 _ T (VT.out.below KP25.out) hTl.out).mono ?_
     rintro e q26 ⟨vn, rfl, O1, B1⟩
     have KP26 := hide (keepF KP25.out B1)
     replace O1 : Hid (Own w5.heap.size q26 vn T) := O1.low KP25.out.size
     obtain ⟨aon, can, rfl, _, _⟩ := O1.out.form
     replace LB : Hid (q26.heap[lb]? = some (.cells #[.int .i64 0, .int .i64 0, .slice none 0 0] 47 (0, 0))) := hide (by rw [B1.block lb (heap_lt LB.out)]; exact LB.out)
     refine hK.out _ _ KP26.out (fun hHeld => ?_)
     clear hK K hHeld KP25 B1
     (try simp only [zzp, zzb, zzc])
     clear q25
     refine wpAnyH_ready (rs := [13]) (by kernel_rfl) (by simp) ?_
     refine AllReadyH.cons (o := ⟨some 62, .buildSlice 45 2 #[(0, .tmp 60), (1, .tmp 61)], _, _, _, _⟩) rfl (fun K hK => ?_) ?_
     ·go_simp
      have KP27 := hide (keepF KP26.out (box_below q26 (.cells #[.int .i64 nm, .int .i64 ba, .int .u32 (so : Int), .int .i64 en, .int .i64 sz, .int .i64 (nm + 1), .int .i64 en, .int .u32 (se : Int), .int .i64 0, .int .i64 0] 51)))
      replace O1 := hide (O1.out.below (box_below q26 (.cells #[.int .i64 nm, .int .i64 ba, .int .u32 (so : Int), .int .i64 en, .int .i64 sz, .int .i64 (nm + 1), .int .i64 en, .int .u32 (se : Int), .int .i64 0, .int .i64 0] 51)))
      replace LB : Hid ((q26.alloc (.cells #[.int .i64 nm, .int .i64 ba, .int .u32 (so : Int), .int .i64 en, .int .i64 sz, .int .i64 (nm + 1), .int .i64 en, .int .u32 (se : Int), .int .i64 0, .int .i64 0] 51)).heap[lb]? = some (.cells #[.int .i64 0, .int .i64 0, .slice none 0 0] 47 (0, 0))) := hide (by rw [(box_below q26 _).block lb (heap_lt LB.out)]; exact LB.out)
      have SB := hide (heap_alloc_new q26 (.cells #[.int .i64 nm, .int .i64 ba, .int .u32 (so : Int), .int .i64 en, .int .i64 sz, .int .i64 (nm + 1), .int .i64 en, .int .u32 (se : Int), .int .i64 0, .int .i64 0] 51))
      refine hK.out _ _ KP27.out (fun hHeld => ?_)
      clear hK K hHeld KP26
      (try simp only [zzp, zzb, zzc])
      generalize q26.alloc (.cells #[.int .i64 nm, .int .i64 ba, .int .u32 (so : Int), .int .i64 en, .int .i64 sz, .int .i64 (nm + 1), .int .i64 en, .int .u32 (se : Int), .int .i64 0, .int .i64 0] 51) = q27 at *
      generalize q26.heap.size = sb at *
      clear q26
      refine wpAnyH_ready (rs := [14]) (by kernel_rfl) (by simp) ?_
      refine AllReadyH.cons (o := ⟨some 63, .call { callee := .builtin .append, args := #[.tmp 59, .tmp 62], argTypes := #[45, 45] }, _, _, _, _⟩) rfl (fun K hK => ?_) ?_
      ·refine step_append_lies _ rfl (.tmp 59) (.tmp 62) 45 rfl w5.heap.size 51 i0 (.agg #[.int .i64 0, .int .i64 0, .int .u32 0, .int .i64 0, .int .i64 0]) 5 40 Tryz.underlying45 hi hz0 hz1 hz2 rfl (by decide) (.slice aon T.length can) T.length (scells T) (by simp [Act.eval]) O1.out.2 ⟨sb, 0, none⟩ 2 2 [.int .i64 nm, .int .i64 ba, .int .u32 (so : Int), .int .i64 en, .int .i64 sz, .int .i64 (nm + 1), .int .i64 en, .int .u32 (se : Int), .int .i64 0, .int .i64 0] (by simp [Act.eval]) rfl (ten_new SB.out) (by simp [Value.oneCell']) (by decide) (by have := hTl.out; unfold maxLen; omega) (by have := hTl.out; omega) KP27.out.size q27.heap.size rfl ?_
       intro g2 cap2 q28 ho hgr hat hlt
       have KP28 := hide (Below.grown KP27.out hgr KP27.out.size (fun k hk => (O1.out.lt k hk).1))
       have V2 : Hid (Own w5.heap.size q28 (.slice (some ⟨g2, 0, none⟩) (T.length + 2) cap2) R) := ⟨hRin.out, by rw [hRl.out, hRs.out]; exact ho⟩
       replace LB : Hid (q28.heap[lb]? = some (.cells #[.int .i64 0, .int .i64 0, .slice none 0 0] 47 (0, 0))) := hide (by rw [hgr.block lb (heap_lt LB.out) (fun e => O1.out.no LB.out (by decide) e.symm)]; exact LB.out)
       refine hK.out _ _ KP28.out (fun hHeld => ?_)
       clear hK K hHeld KP27 hgr ho SB O1 hat hlt
       (try simp only [zzp, zzb, zzc])
       clear q27
       refine wpAnyH_take (i := 15) (oi := ⟨some 64, .build 47 #[(0, .tmp 51), (1, .tmp 53), (2, .tmp 63)], _, _, _, _⟩) (v := .agg #[.int .i64 (g + 1), .int .i64 fi, (.slice (some ⟨g2, 0, none⟩) (T.length + 2) cap2)]) rfl (by kernel_rfl) (by kernel_rfl) (by kernel_rfl) (fun _ _ _ h => h) (Or.inl ⟨by rfl, ?_⟩) KP28.out ?_
       ·intro wq hSw; go_simp
       (try simp only [zzp, zzb, zzc])
       refine wpAnyH_ready (rs := [17]) (by kernel_rfl) (by simp) ?_
       refine AllReadyH.cons (o := ⟨none, .store 47 (.tmp 13) (.tmp 64), _, _, _, _⟩) rfl (fun K hK => ?_) AllReadyH.nil
       have yy := three_cells LB.out
       have y0 := yy.1
       have y1 := yy.2.1
       have y2 := yy.2.2
       clear yy
       have xx := three_frozen LB.out
       have x0 := xx.1
       have x1 := xx.2.1
       have x2 := xx.2.2
       clear xx
       have KP29 := put3_below KP28.out LL.out (.int .i64 (g + 1)) (.int .i64 fi) (.slice (some ⟨g2, 0, none⟩) (T.length + 2) cap2)
       go_simp
       refine hK.out _ _ KP29 (fun hHeld => ?_)
       clear hK K hHeld y0 y1 y2 x0 x1 x2
       refine wpAnyH_done (by kernel_rfl) ?_ _
       go_wp2_with fail
       go_meet
       case rel =>
        refine ⟨lb, (.slice (some ⟨g2, 0, none⟩) (T.length + 2) cap2), rfl, ?_⟩
        have z1 := V2.out.put3 LB.out (by decide) (.int .i64 (g + 1)) (.int .i64 fi) (.slice (some ⟨g2, 0, none⟩) (T.length + 2) cap2)
        have z2 := put3_heap LB.out (.int .i64 (g + 1)) (.int .i64 fi) (.slice (some ⟨g2, 0, none⟩) (T.length + 2) cap2)
        exact ⟨LL.out, KP29, z1, z2⟩
      exact AllReadyH.nil
     exact AllReadyH.nil
    refine AllReadyH.cons (o := ⟨some 62, .buildSlice 45 2 #[(0, .tmp 60), (1, .tmp 61)], _, _, _, _⟩) rfl (fun K hK => ?_) ?_
    ·go_simp
     have KP30 := hide (keepF KP25.out (box_below q25 (.cells #[.int .i64 nm, .int .i64 ba, .int .u32 (so : Int), .int .i64 en, .int .i64 sz, .int .i64 (nm + 1), .int .i64 en, .int .u32 (se : Int), .int .i64 0, .int .i64 0] 51)))
     replace LB : Hid ((q25.alloc (.cells #[.int .i64 nm, .int .i64 ba, .int .u32 (so : Int), .int .i64 en, .int .i64 sz, .int .i64 (nm + 1), .int .i64 en, .int .u32 (se : Int), .int .i64 0, .int .i64 0] 51)).heap[lb]? = some (.cells #[.int .i64 0, .int .i64 0, .slice none 0 0] 47 (0, 0))) := hide (by rw [(box_below q25 _).block lb (heap_lt LB.out)]; exact LB.out)
     have SB := hide (heap_alloc_new q25 (.cells #[.int .i64 nm, .int .i64 ba, .int .u32 (so : Int), .int .i64 en, .int .i64 sz, .int .i64 (nm + 1), .int .i64 en, .int .u32 (se : Int), .int .i64 0, .int .i64 0] 51))
     refine hK.out _ _ KP30.out (fun hHeld => ?_)
     clear hK K hHeld KP25
     (try simp only [zzp, zzb, zzc])
     generalize q25.alloc (.cells #[.int .i64 nm, .int .i64 ba, .int .u32 (so : Int), .int .i64 en, .int .i64 sz, .int .i64 (nm + 1), .int .i64 en, .int .u32 (se : Int), .int .i64 0, .int .i64 0] 51) = q30 at *
     generalize q25.heap.size = sb at *
     clear q25
     refine wpAnyH_ready (rs := [10]) (by kernel_rfl) (by simp) ?_
     refine AllReadyH.cons (o := ⟨some 59, .call { callee := .value (.func 37), args := #[.tmp 58], argTypes := #[45] }, _, _, _, _⟩) rfl (fun K hK => ?_) ?_
     ·go_simp
      refine (clone_any q30 _ T (VT.out.below KP30.out) hTl.out).mono ?_
      rintro e q31 ⟨vn, rfl, O1, B1⟩
      have KP31 := hide (keepF KP30.out B1)
      replace O1 : Hid (Own w5.heap.size q31 vn T) := O1.low KP30.out.size
      obtain ⟨aon, can, rfl, _, _⟩ := O1.out.form
      replace SB : Hid (q31.heap[sb]? = some (.cells #[.int .i64 nm, .int .i64 ba, .int .u32 (so : Int), .int .i64 en, .int .i64 sz, .int .i64 (nm + 1), .int .i64 en, .int .u32 (se : Int), .int .i64 0, .int .i64 0] 51 (0, 0))) := hide (by rw [B1.block sb (heap_lt SB.out)]; exact SB.out)
      replace LB : Hid (q31.heap[lb]? = some (.cells #[.int .i64 0, .int .i64 0, .slice none 0 0] 47 (0, 0))) := hide (by rw [B1.block lb (heap_lt LB.out)]; exact LB.out)
      refine hK.out _ _ KP31.out (fun hHeld => ?_)
      clear hK K hHeld KP30 B1
      (try simp only [zzp, zzb, zzc])
      clear q30
      refine wpAnyH_ready (rs := [14]) (by kernel_rfl) (by simp) ?_
      refine AllReadyH.cons (o := ⟨some 63, .call { callee := .builtin .append, args := #[.tmp 59, .tmp 62], argTypes := #[45, 45] }, _, _, _, _⟩) rfl (fun K hK => ?_) ?_
      ·refine step_append_lies _ rfl (.tmp 59) (.tmp 62) 45 rfl w5.heap.size 51 i0 (.agg #[.int .i64 0, .int .i64 0, .int .u32 0, .int .i64 0, .int .i64 0]) 5 40 Tryz.underlying45 hi hz0 hz1 hz2 rfl (by decide) (.slice aon T.length can) T.length (scells T) (by simp [Act.eval]) O1.out.2 ⟨sb, 0, none⟩ 2 2 [.int .i64 nm, .int .i64 ba, .int .u32 (so : Int), .int .i64 en, .int .i64 sz, .int .i64 (nm + 1), .int .i64 en, .int .u32 (se : Int), .int .i64 0, .int .i64 0] (by simp [Act.eval]) rfl (ten_new SB.out) (by simp [Value.oneCell']) (by decide) (by have := hTl.out; unfold maxLen; omega) (by have := hTl.out; omega) KP31.out.size q31.heap.size rfl ?_
       intro g2 cap2 q32 ho hgr hat hlt
       have KP32 := hide (Below.grown KP31.out hgr KP31.out.size (fun k hk => (O1.out.lt k hk).1))
       have V2 : Hid (Own w5.heap.size q32 (.slice (some ⟨g2, 0, none⟩) (T.length + 2) cap2) R) := ⟨hRin.out, by rw [hRl.out, hRs.out]; exact ho⟩
       replace LB : Hid (q32.heap[lb]? = some (.cells #[.int .i64 0, .int .i64 0, .slice none 0 0] 47 (0, 0))) := hide (by rw [hgr.block lb (heap_lt LB.out) (fun e => O1.out.no LB.out (by decide) e.symm)]; exact LB.out)
       refine hK.out _ _ KP32.out (fun hHeld => ?_)
       clear hK K hHeld KP31 hgr ho SB O1 hat hlt
       (try simp only [zzp, zzb, zzc])
       clear q31
       refine wpAnyH_take (i := 15) (oi := ⟨some 64, .build 47 #[(0, .tmp 51), (1, .tmp 53), (2, .tmp 63)], _, _, _, _⟩) (v := .agg #[.int .i64 (g + 1), .int .i64 fi, (.slice (some ⟨g2, 0, none⟩) (T.length + 2) cap2)]) rfl (by kernel_rfl) (by kernel_rfl) (by kernel_rfl) (fun _ _ _ h => h) (Or.inl ⟨by rfl, ?_⟩) KP32.out ?_
       ·intro wq hSw; go_simp
       (try simp only [zzp, zzb, zzc])
       refine wpAnyH_ready (rs := [17]) (by kernel_rfl) (by simp) ?_
       refine AllReadyH.cons (o := ⟨none, .store 47 (.tmp 13) (.tmp 64), _, _, _, _⟩) rfl (fun K hK => ?_) AllReadyH.nil
       have yy := three_cells LB.out
       have y0 := yy.1
       have y1 := yy.2.1
       have y2 := yy.2.2
       clear yy
       have xx := three_frozen LB.out
       have x0 := xx.1
       have x1 := xx.2.1
       have x2 := xx.2.2
       clear xx
       have KP33 := put3_below KP32.out LL.out (.int .i64 (g + 1)) (.int .i64 fi) (.slice (some ⟨g2, 0, none⟩) (T.length + 2) cap2)
       go_simp
       refine hK.out _ _ KP33 (fun hHeld => ?_)
       clear hK K hHeld y0 y1 y2 x0 x1 x2
       refine wpAnyH_done (by kernel_rfl) ?_ _
       go_wp2_with fail
       go_meet
       case rel =>
        refine ⟨lb, (.slice (some ⟨g2, 0, none⟩) (T.length + 2) cap2), rfl, ?_⟩
        have z1 := V2.out.put3 LB.out (by decide) (.int .i64 (g + 1)) (.int .i64 fi) (.slice (some ⟨g2, 0, none⟩) (T.length + 2) cap2)
        have z2 := put3_heap LB.out (.int .i64 (g + 1)) (.int .i64 fi) (.slice (some ⟨g2, 0, none⟩) (T.length + 2) cap2)
        exact ⟨LL.out, KP33, z1, z2⟩
      exact AllReadyH.nil
     exact AllReadyH.nil
    exact AllReadyH.nil
   exact AllReadyH.nil
  case rest =>
   obtain ⟨nb, v2, rfl, hc⟩ := hcut
   obtain ⟨hnb, BW, OW, HW⟩ := hc.out
   obtain ⟨ao2, ca2, rfl, _, _⟩ := OW.form
   obtain ⟨e0, e1, e2⟩ := three_cells HW
   have Z1 : Hid (wc.heap[cb + 1]? = some (.cells #[.int .i64 0, .int .i64 0, .slice none 0 0] 47 (0, 0))) := by show _ = _; rw [BW.block _ (heap_lt u2.out)]; exact u2.out
   have CALL := hide (may_any wc (g + 1) fi _ R OW.sgs)
   have hlo := hide B5.out.size
   have hlt2 := hide (heap_lt u2.out)
   have BW5 := hide (show Below w.heap.size w wc from by rw [hcb.out]; exact B5.out.trans (BW.mono (by rw [← hcb.out]; exact B5.out.size)))
   replace hnb := hide hnb
   replace BW := hide BW
   replace OW := hide OW
   replace HW := hide HW
   have hcb2 : Hid (w.heap.size ≤ cb + 1) := by show _ ≤ _; rw [hcb.out]; omega
   have hcb3 : Hid (w.heap.size ≤ w5.heap.size) := by show _ ≤ _; exact hlo.out
   clear hc KC u1 u2 u3 u4 hRl hRs hTl VT
   by_cases hm2 : May (g + 1) fi R
   ·rw [mayB_t hm2] at CALL
    rw [if_neg (fun c => c hm2)] at hE
    go_wp2_with fail
    refine CALL.out.mono ?_
    rintro e w6 ⟨rfl, b6⟩
    have Z6 : Hid (w6.heap[cb + 1]? = some (.cells #[.int .i64 0, .int .i64 0, .slice none 0 0] 47 (0, 0))) := by show _ = _; rw [b6.block _ (heap_lt Z1.out)]; exact Z1.out
    have H6 : Hid (w6.heap[nb]? = some (.cells #[.int .i64 (g + 1), .int .i64 fi, .slice ao2 R.length ca2] 47 (0, 0))) := by show _ = _; rw [b6.block _ (heap_lt HW.out)]; exact HW.out
    have O6 := hide (OW.out.below b6)
    have B6 := hide (keepF BW5.out b6)
    clear b6 CALL e0 e1 e2
    obtain ⟨e0, e1, e2⟩ := three_cells H6.out
    obtain ⟨d0, d1, d2⟩ := three_cells Z6.out
    obtain ⟨f0, f1, f2⟩ := three_frozen Z6.out
    have F := hide (three_cells (put3_heap Z6.out (.int .i64 (g + 1)) (.int .i64 fi) (.slice ao2 R.length ca2)))
    have BF := hide (put3_below B6.out hcb2.out (.int .i64 (g + 1)) (.int .i64 fi) (.slice ao2 R.length ca2))
    have OF := hide ((O6.out.put3 Z6.out (by decide) (.int .i64 (g + 1)) (.int .i64 fi) (.slice ao2 R.length ca2)).low hcb3.out)
    go_wp2_with fail
    show bodyPost _ _ _ _ _ (put3 w6 (cb + 1) (.int .i64 (g + 1)) (.int .i64 fi) (.slice ao2 R.length ca2))
    generalize put3 w6 (cb + 1) (.int .i64 (g + 1)) (.int .i64 fi) (.slice ao2 R.length ca2) = w7 at *
    obtain ⟨k0, k1, k2⟩ := F.out
    refine bodyPost_ret (by simp [results, Tryz.results54, go_sem, k0, k1, k2]; rfl) rfl ?_
    rw [hE.out]
    exact ⟨_, rfl, OF.out, BF.out⟩
   ·rw [mayB_f hm2] at CALL
    rw [if_pos hm2] at hE
    go_wp2_with fail
    refine CALL.out.mono ?_
    rintro e w6 ⟨rfl, b6⟩
    have Z6 : Hid (w6.heap[cb + 1]? = some (.cells #[.int .i64 0, .int .i64 0, .slice none 0 0] 47 (0, 0))) := by show _ = _; rw [b6.block _ (heap_lt Z1.out)]; exact Z1.out
    have B6 := hide (keepF BW5.out b6)
    clear b6 CALL e0 e1 e2
    obtain ⟨d0, d1, d2⟩ := three_cells Z6.out
    obtain ⟨f0, f1, f2⟩ := three_frozen Z6.out
    have F := hide (three_cells (put3_heap Z6.out (.int .i64 0) (.int .i64 0) (.slice none 0 0)))
    have BF := hide (put3_below B6.out hcb2.out (.int .i64 0) (.int .i64 0) (.slice none 0 0))
    go_wp2_with fail
    show bodyPost _ _ _ _ _ (put3 w6 (cb + 1) (.int .i64 0) (.int .i64 0) (.slice none 0 0))
    generalize put3 w6 (cb + 1) (.int .i64 0) (.int .i64 0) (.slice none 0 0) = w7 at *
    obtain ⟨k0, k1, k2⟩ := F.out
    refine bodyPost_ret (by simp [results, Tryz.results54, go_sem, k0, k1, k2]; rfl) rfl ?_
    rw [hE.out]
    exact ⟨_, rfl, Own.nil _ _, BF.out⟩
end Go.Proofs.YtnimildpcnmjeaaGreatDoor.Ct
namespace Go.Proofs.YtnimildpcnmjeaaGreatDoor
open Go.RowKit
theorem cap_fits {need old : Nat} (h : old < need) (hb : need ≤ 140737488355328 + 1048576) : Builtin.nextslicecap need old * 1 ≤ 281474976710656 := by
 unfold Builtin.nextslicecap
 split
 ·omega
 ·split
  ·omega
  ·rw [growBy_four]
   repeat' split
   all_goals omega
theorem wpList_append_full {P : Program} {w : World} {ops : Array Oper} {rest : List Oper} {o : Oper} {a : Act} {Q : Exit → Act → World → Prop} (hgd : o.guard = none) (s x : Operand) (t : TypeId)
    (ho : o.op = .call { callee := .builtin .append, args := #[s, x], argTypes := #[t, t] })
    (e : TypeId) (hinf : (P.info? e).map (fun i => (i.zero, i.size, i.bytes)) = some (some (.int .u8 0), 1, 1)) (ht : P.underlying t = some (.slice e))
    (ad : Addr) (n : Nat) (vx : Value) (l m : List UInt8) (hl : l.length = n) (hs : a.eval s = .slice (some ad) n n) (hvs : Sl w (.slice (some ad) n n) l) (hx : a.eval x = vx) (hsl : Sl w vx m) (hm : 0 < m.length) (hlen : l.length + m.length ≤ 4096)
    (h : ∀ v' w', w'.ownsRow w.heap.size e 1 v' (l ++ m).length (bvals (l ++ m)) → Below w.heap.size w w' → wpList P ops Q rest (a.put o.dst v') w') : wpList P ops Q (o :: rest) a w := by
 obtain ⟨i, hi, hz, hs1, hy⟩ := info_parts hinf
 have rd : ∀ {ao : Option Addr} {k c : Nat} {u : List UInt8}, Sl w (.slice ao k c) u → 0 < u.length → ∃ b off, ao = some ⟨b, off, none⟩ ∧ ∀ j v, (bvals u)[j]? = some v → w.cell? ((⟨b, off, none⟩ : Addr).add j) = some v := by
  intro ao k c u hu h0
  obtain ⟨ao', c', e1, _, _, _, h5⟩ := hu
  simp only [Value.slice.injEq] at e1
  obtain ⟨rfl, _, _⟩ := e1
  obtain ⟨b, off, rfl, hc⟩ := h5.at h0
  refine ⟨b, off, rfl, fun j v hv => ?_⟩
  have hj : j < u.length := by
   have := (List.getElem?_eq_some_iff.1 hv).1
   simpa [bvals] using this
  rw [addr_add, hc j hj, ← hv, bvals_get hj]
 obtain ⟨ao, k, c, rfl, hk⟩ : ∃ ao k c, vx = .slice ao k c ∧ k = m.length := by
  obtain ⟨ao, c, e1, _⟩ := id hsl
  exact ⟨ao, _, c, e1, rfl⟩
 subst hk
 obtain ⟨b2, o2, rfl, c2⟩ := rd hsl hm
 have c1 : ∀ j v, (bvals l)[j]? = some v → w.cell? (ad.add j) = some v := by
  intro j v hv
  have h0 : 0 < l.length := by
   have := (List.getElem?_eq_some_iff.1 hv).1
   simp [bvals] at this
   omega
  obtain ⟨b, off, e1, hc⟩ := rd hvs h0
  simp only [Option.some.injEq] at e1
  subst e1
  exact hc j v hv
 have hr := run_append_grow (P := P) w t o.type e i (.int .u8 0) ht hi hz ad n n (bvals l) (by rw [hs1, bvals_length, hl]; omega) c1 ⟨b2, o2, none⟩ m.length c (bvals m) (by rw [hs1, bvals_length]; omega) c2 (by omega) (by omega) (by rw [hy]; exact cap_fits (by omega) (by omega))
 refine Lib.wpList_append_run w hgd s x t t ho _ _ hs hx _ _ hr (h _ _ ?_ ((Below.refl _ w).drew.alloc (by simp) _))
 have hge := grownCap_ge w (n + m.length) n e
 have hle := grownCap_le_maxLen w (n + m.length) n e (by unfold maxLen; omega)
 rw [List.length_append, hl]
 refine ⟨by simp [bvals, hl], Or.inr ⟨w.heap.size, _, _, rfl, Nat.le_refl _, heap_alloc_new w.drew _, hge, hle, ?_, ?_⟩⟩
 ·simp only [Array.size_append, List.size_toArray, size_zeroCells, bvals_length]
  simp [Value.cells]
  omega
 ·rw [bvals_append]
  simp only [Array.toList_append, Nat.mul_one]
  exact List.take_left' (by simp [bvals, hl])
end Go.Proofs.YtnimildpcnmjeaaGreatDoor
