/-
  May a catalog be: the program's, whole.
-/
import Derived.Test.YtdhjlongdfgejaaCtB
import Derived.Deep.AppendLies
import Derived.Deep.RegionHeld3
import Derived.Deep.CutRange
import Derived.Deep.RegionLaw
import Derived.BigRegion
namespace Go.Proofs.Ytdhjlongdfgejaa.Ct
open Go.RowKit

/-- What May owes. -/
def DoesMay (f : Nat) : Prop := ∀ (w : World) (g fi : Int) (v : Value) (l : List Sg), Sgs w v l →
  Calls Try.prog f #[.agg #[.int .i64 g, .int .i64 fi, v]] w fun e w' => e = .returned (.bool (mayB g fi l)) ∧ Below w.heap.size w w'
/-- A catalog's three cells in a block. -/
theorem three_cells {w : World} {b : Nat} {a0 a1 a2 : Value} {T : TypeId} (h : w.heap[b]? = some (.cells #[a0, a1, a2] T (0, 0))) : w.cell? ⟨b, 0, none⟩ = some a0 ∧ w.cell? ⟨b, 1, none⟩ = some a1 ∧ w.cell? ⟨b, 2, none⟩ = some a2 := by
  simp [World.cell?, h]
theorem five_cells {w : World} {b : Nat} {a0 a1 a2 a3 a4 : Value} {T : TypeId} (h : w.heap[b]? = some (.cells #[a0, a1, a2, a3, a4] T (0, 0))) : w.cell? ⟨b, 0, none⟩ = some a0 ∧ w.cell? ⟨b, 1, none⟩ = some a1 ∧ w.cell? ⟨b, 2, none⟩ = some a2 ∧ w.cell? ⟨b, 3, none⟩ = some a3 ∧ w.cell? ⟨b, 4, none⟩ = some a4 := by
  simp [World.cell?, h]
set_option maxHeartbeats 2000000 in
theorem may_any : DoesMay 13 := by
  intro w g fi v l hv
  have HV := hide hv
  obtain ⟨N, hN⟩ : ∃ N, Hid (l.length = N) := ⟨_, rfl⟩
  obtain ⟨ao, ca, rfl, q1, q2⟩ := hv.form
  have hA := hide hv.1
  rw [hN.out] at q1 ⊢
  have hB := hide (box_below w (.cells #[.int .i64 g, .int .i64 fi, .slice ao N ca] 29))
  by_cases h1 : g < 1
  · have hE := hide (mayB_f (fun c : May g fi l => absurd c.g1 (by omega)))
    clear hv
    go_enter Try.func13, Try.ntmps13
    go_wp2_with fail
    go_ret
    exact ⟨by rw [hE.out]; rfl, hB.out⟩
  by_cases h2 : N < 1
  · have hE := hide (mayB_f (fun c : May g fi l => absurd c.n1 (by rw [hN.out]; omega)))
    obtain rfl : N = 0 := by omega
    clear hv
    go_enter Try.func13, Try.ntmps13
    go_wp2_with fail
    go_ret
    exact ⟨by rw [hE.out]; rfl, hB.out⟩
  by_cases h3 : (64 : Int) < (N : Int)
  · have hE := hide (mayB_f (fun c : May g fi l => absurd c.n2 (by rw [hN.out]; omega)))
    have h2' : ¬ (N : Int) < 1 := by omega
    clear hv
    go_enter Try.func13, Try.ntmps13
    go_wp2_with fail
    go_ret
    exact ⟨by rw [hE.out]; rfl, hB.out⟩
  obtain ⟨b, off, ca', e, _, _, hc⟩ := hv.at (by rw [hN.out]; omega)
  rw [hN.out] at e hc
  simp only [Value.slice.injEq, true_and] at e
  obtain ⟨rfl, rfl⟩ := e
  obtain ⟨M, rfl⟩ : ∃ M, N = M + 1 := ⟨N - 1, by omega⟩
  have HC := hide hc
  have h2' : ¬ ((M : Int) + 1) < 1 := by omega
  have h3' : ¬ (64 : Int) < (M : Int) + 1 := by omega
  have hw0 : IntKind.i64.wrap (M : Int) = (M : Int) := by rw [IntKind.wrap_i64]; omega
  have i1 : M ≤ ca := by omega
  have hM : M ≤ 63 := by omega
  have hbx := hide (heap_alloc_new w (.cells #[.int .i64 g, .int .i64 fi, .slice (some ⟨b, off, none⟩) (M + 1) ca] 29))
  have HC1 : Hid (∀ i, i < M + 1 → SAt (w.alloc (.cells #[.int .i64 g, .int .i64 fi, .slice (some ⟨b, off, none⟩) (M + 1) ca] 29)) b (off + i * 5) (sg l i)) := fun i hi => (hc i hi).below (box_below _ _)
  clear hv hc h2 h3 HC HV
  go_enter Try.func13, Try.ntmps13
  go_wp2_with fail
  have hlow := hide hB.out.size
  generalize hq : w.alloc (.cells #[.int .i64 g, .int .i64 fi, .slice (some ⟨b, off, none⟩) (M + 1) ca] 29) = w1 at *
  generalize hq0 : w.heap.size = cb at *
  replace hq0 := hide hq0
  clear hq
  go_loopw [26] (fun vi wr => ∃ i : Nat, i ≤ M ∧ vi = .int .i64 (i : Int) ∧ Hid (Below w1.heap.size w1 wr) ∧ Hid (∀ j, j < i → slF (sg l j) ∧ foF (sg l j) (sg l (j + 1)))) (fun vi _ => M - (intOf vi).toNat)
  case atStart => exact ⟨0, Nat.zero_le _, rfl, Below.refl _ _, fun j hj => by omega⟩
  case round =>
    obtain ⟨i, hi, rfl, hW, hL⟩ := hrel
    by_cases hlt : i < M
    · obtain ⟨k0, k1, k2, k3, k4⟩ := (HC1.out i (by omega)).below hW.out
      have HT := hide ((HC1.out (i + 1) (by omega)).below hW.out)
      have hsi := (hA.out.sg i).a1
      have hcw : Hid (wr.heap[cb]? = some (.cells #[.int .i64 g, .int .i64 fi, .slice (some ⟨b, off, none⟩) (M + 1) ca] 29 (0, 0))) := by show _ = _; rw [hW.out.block cb (heap_lt hbx.out)]; exact hbx.out
      obtain ⟨s, hs⟩ : ∃ s, Hid (sg l i = s) := ⟨_, rfl⟩
      obtain ⟨t, ht⟩ : ∃ t, Hid (sg l (i + 1) = t) := ⟨_, rfl⟩
      rw [hs.out] at k0 k1 k2 k3 k4 hsi
      rw [ht.out] at HT
      have hNm : ¬ (slF s ∧ foF s t) → Hid (mayB g fi l = false) := fun c => mayB_f fun m => c (by have := m.lk i (by rw [hN.out]; omega); rw [hs.out, ht.out] at this; exact this)
      have C1 := hide (fun u => maySealed_any u s)
      have C2 := hide (fun u => follows_any u s t hsi)
      obtain ⟨nm, ba, se, en, sz⟩ := s
      dsimp only at k0 k1 k2 k3 k4 C1 C2
      have X0 := hide (box_below wr (.cells #[.int .i64 nm, .int .i64 ba, .int .u32 (se : Int), .int .i64 en, .int .i64 sz] 53))
      have X1 := hide (heap_alloc_new wr (.cells #[.int .i64 nm, .int .i64 ba, .int .u32 (se : Int), .int .i64 en, .int .i64 sz] 53))
      have Y0 : Hid (Below w1.heap.size w1 (wr.alloc (.cells #[.int .i64 nm, .int .i64 ba, .int .u32 (se : Int), .int .i64 en, .int .i64 sz] 53))) := keepF hW.out X0.out
      have T2 := hide (HT.out.below X0.out)
      have W2 : Hid ((wr.alloc (.cells #[.int .i64 nm, .int .i64 ba, .int .u32 (se : Int), .int .i64 en, .int .i64 sz] 53)).heap[cb]? = some (.cells #[.int .i64 g, .int .i64 fi, .slice (some ⟨b, off, none⟩) (M + 1) ca] 29 (0, 0))) := by show _ = _; rw [X0.out.block cb (heap_lt hcw.out)]; exact hcw.out
      have hw1 : IntKind.i64.wrap ((i : Int) + 1) = (i : Int) + 1 := by rw [IntKind.wrap_i64]; omega
      have hlt1 : (i : Int) + 1 < (M : Int) + 1 := by omega
      have hng7 : ¬ ((M : Int) ≤ (i : Int)) := by omega
      have h07 : (0 : Int) ≤ (i : Int) + 1 := by omega
      go_upto_region 7 with fail
      generalize hq2 : wr.alloc (.cells #[.int .i64 nm, .int .i64 ba, .int .u32 (se : Int), .int .i64 en, .int .i64 sz] 53) = w2 at *
      generalize hq3 : wr.heap.size = sb at *
      clear hq2 hq3
      obtain ⟨nm', ba', se', en', sz'⟩ := t
      have KS : Hid (∀ q, Below w2.heap.size w2 q → (q.cell? ⟨sb, 0, none⟩ = some (.int .i64 nm) ∧ q.cell? ⟨sb, 1, none⟩ = some (.int .i64 ba) ∧ q.cell? ⟨sb, 2, none⟩ = some (.int .u32 (se : Int)) ∧ q.cell? ⟨sb, 3, none⟩ = some (.int .i64 en) ∧ q.cell? ⟨sb, 4, none⟩ = some (.int .i64 sz)) ∧ q.cell? ⟨cb, 2, none⟩ = some (.slice (some ⟨b, off, none⟩) (M + 1) ca) ∧ SAt q b (off + (i + 1) * 5) ⟨nm', ba', se', en', sz'⟩) := by
        intro q hb
        exact ⟨five_cells (by rw [hb.block sb (heap_lt X1.out)]; exact X1.out), (three_cells (by rw [hb.block cb (heap_lt W2.out)]; exact W2.out)).2.2, T2.out.below hb⟩
      have hS0 := KS.out w2.drew (Below.refl _ _).drew
      simp only [SAt] at hS0 KS
      clear k0 k1 k2 k3 k4
      go_cut [44] from 31 to 44 (fun y wx => ((y = .bool false ∧ Hid (slF ⟨nm, ba, se, en, sz⟩ ∧ foF ⟨nm, ba, se, en, sz⟩ ⟨nm', ba', se', en', sz'⟩)) ∨ (y = .bool true ∧ Hid (¬ (slF ⟨nm, ba, se, en, sz⟩ ∧ foF ⟨nm, ba, se, en, sz⟩ ⟨nm', ba', se', en', sz'⟩)))) ∧ Hid (Below w2.heap.size w2 wx))
      case first =>
        by_cases hsl : slF ⟨nm, ba, se, en, sz⟩
        · have C1t : Hid (∀ u, Calls Try.prog 33 #[.agg #[.int .i64 nm, .int .i64 ba, .int .u32 (se : Int), .int .i64 en, .int .i64 sz]] u fun e w' => e = .returned (.bool true) ∧ Below u.heap.size u w') := fun u => (C1.out u).mono fun e w' ⟨h, b⟩ => ⟨by rcases h with ⟨h, _⟩ | ⟨_, h⟩; exact h; exact absurd hsl h, b⟩
          by_cases hfo : foF ⟨nm, ba, se, en, sz⟩ ⟨nm', ba', se', en', sz'⟩
          · have C2t : Hid (∀ u, Calls Try.prog 34 #[.agg #[.int .i64 nm, .int .i64 ba, .int .u32 (se : Int), .int .i64 en, .int .i64 sz], .agg #[.int .i64 nm', .int .i64 ba', .int .u32 (se' : Int), .int .i64 en', .int .i64 sz']] u fun e w' => e = .returned (.bool true) ∧ Below u.heap.size u w') := fun u => (C2.out u).mono fun e w' ⟨h, b⟩ => ⟨by rcases h with ⟨h, _⟩ | ⟨_, h⟩; exact h; exact absurd hfo h, b⟩
            have hF := hide (And.intro hsl hfo)
            clear hsl hfo C1 C2 hNm
            go_region_held3 (fun q => (q.cell? ⟨sb, 0, none⟩ = some (.int .i64 nm) ∧ q.cell? ⟨sb, 1, none⟩ = some (.int .i64 ba) ∧ q.cell? ⟨sb, 2, none⟩ = some (.int .u32 (se : Int)) ∧ q.cell? ⟨sb, 3, none⟩ = some (.int .i64 en) ∧ q.cell? ⟨sb, 4, none⟩ = some (.int .i64 sz)) ∧ q.cell? ⟨cb, 2, none⟩ = some (.slice (some ⟨b, off, none⟩) (M + 1) ca) ∧ q.cell? ⟨b, off + (i + 1) * 5, none⟩ = some (.int .i64 nm') ∧ q.cell? ⟨b, off + (i + 1) * 5 + 1, none⟩ = some (.int .i64 ba') ∧ q.cell? ⟨b, off + (i + 1) * 5 + 2, none⟩ = some (.int .u32 (se' : Int)) ∧ q.cell? ⟨b, off + (i + 1) * 5 + 3, none⟩ = some (.int .i64 en') ∧ q.cell? ⟨b, off + (i + 1) * 5 + 4, none⟩ = some (.int .i64 sz'))
              (first | exact hS0 | assumption | exact KS.out _ (by assumption) | fail)
              (first
                | (go_at_call 33; refine (C1t.out _).mono ?_; rintro e u1 ⟨rfl, B1⟩; replace B1 := keepF (Below.refl _ _).drew B1)
                | (go_at_call 34; refine (C2t.out _).mono ?_; rintro e u2 ⟨rfl, B2⟩; replace B2 := keepF (by assumption) B2)
                | fail)
            all_goals
              go_wp2_with fail
              go_meet
              case rel => exact ⟨.inl ⟨by first | rfl | simp, hF⟩, by assumption⟩
          · have C2t : Hid (∀ u, Calls Try.prog 34 #[.agg #[.int .i64 nm, .int .i64 ba, .int .u32 (se : Int), .int .i64 en, .int .i64 sz], .agg #[.int .i64 nm', .int .i64 ba', .int .u32 (se' : Int), .int .i64 en', .int .i64 sz']] u fun e w' => e = .returned (.bool false) ∧ Below u.heap.size u w') := fun u => (C2.out u).mono fun e w' ⟨h, b⟩ => ⟨by rcases h with ⟨_, h⟩ | ⟨h, _⟩; exact absurd h hfo; exact h, b⟩
            have hF := hide (fun c : slF ⟨nm, ba, se, en, sz⟩ ∧ foF ⟨nm, ba, se, en, sz⟩ ⟨nm', ba', se', en', sz'⟩ => hfo c.2)
            clear hsl hfo C1 C2 hNm
            go_region_held3 (fun q => (q.cell? ⟨sb, 0, none⟩ = some (.int .i64 nm) ∧ q.cell? ⟨sb, 1, none⟩ = some (.int .i64 ba) ∧ q.cell? ⟨sb, 2, none⟩ = some (.int .u32 (se : Int)) ∧ q.cell? ⟨sb, 3, none⟩ = some (.int .i64 en) ∧ q.cell? ⟨sb, 4, none⟩ = some (.int .i64 sz)) ∧ q.cell? ⟨cb, 2, none⟩ = some (.slice (some ⟨b, off, none⟩) (M + 1) ca) ∧ q.cell? ⟨b, off + (i + 1) * 5, none⟩ = some (.int .i64 nm') ∧ q.cell? ⟨b, off + (i + 1) * 5 + 1, none⟩ = some (.int .i64 ba') ∧ q.cell? ⟨b, off + (i + 1) * 5 + 2, none⟩ = some (.int .u32 (se' : Int)) ∧ q.cell? ⟨b, off + (i + 1) * 5 + 3, none⟩ = some (.int .i64 en') ∧ q.cell? ⟨b, off + (i + 1) * 5 + 4, none⟩ = some (.int .i64 sz'))
              (first | exact hS0 | assumption | exact KS.out _ (by assumption) | fail)
              (first
                | (go_at_call 33; refine (C1t.out _).mono ?_; rintro e u1 ⟨rfl, B1⟩; replace B1 := keepF (Below.refl _ _).drew B1)
                | (go_at_call 34; refine (C2t.out _).mono ?_; rintro e u2 ⟨rfl, B2⟩; replace B2 := keepF (by assumption) B2)
                | fail)
            all_goals
              go_wp2_with fail
              go_meet
              case rel => exact ⟨.inr ⟨by first | rfl | simp, hF⟩, by assumption⟩
        · have C1t : Hid (∀ u, Calls Try.prog 33 #[.agg #[.int .i64 nm, .int .i64 ba, .int .u32 (se : Int), .int .i64 en, .int .i64 sz]] u fun e w' => e = .returned (.bool false) ∧ Below u.heap.size u w') := fun u => (C1.out u).mono fun e w' ⟨h, b⟩ => ⟨by rcases h with ⟨_, h⟩ | ⟨h, _⟩; exact absurd h hsl; exact h, b⟩
          have hF := hide (fun c : slF ⟨nm, ba, se, en, sz⟩ ∧ foF ⟨nm, ba, se, en, sz⟩ ⟨nm', ba', se', en', sz'⟩ => hsl c.1)
          clear hsl C1 C2 hNm
          have hS0 : ((fun q => (q.cell? ⟨sb, 0, none⟩ = some (.int .i64 nm) ∧ q.cell? ⟨sb, 1, none⟩ = some (.int .i64 ba) ∧ q.cell? ⟨sb, 2, none⟩ = some (.int .u32 (se : Int)) ∧ q.cell? ⟨sb, 3, none⟩ = some (.int .i64 en) ∧ q.cell? ⟨sb, 4, none⟩ = some (.int .i64 sz)) ∧ Below w2.heap.size w2 q)) w2.drew := ⟨(KS.out w2.drew (Below.refl _ _).drew).1, (Below.refl _ _).drew⟩
          refine wp_region_held_drew (S := (fun q => (q.cell? ⟨sb, 0, none⟩ = some (.int .i64 nm) ∧ q.cell? ⟨sb, 1, none⟩ = some (.int .i64 ba) ∧ q.cell? ⟨sb, 2, none⟩ = some (.int .u32 (se : Int)) ∧ q.cell? ⟨sb, 3, none⟩ = some (.int .i64 en) ∧ q.cell? ⟨sb, 4, none⟩ = some (.int .i64 sz)) ∧ Below w2.heap.size w2 q)) (by kernel_rfl) hS0 (fun hHeld => ?_)
          clear hHeld
          refine wpAnyH_take (i := 0) (oi := { dst := some 31, op := Op.load 53 (Operand.tmp 5), type := 53, pos := "catalog.go:23", after := #[], guard := none }) (v := .agg #[.int .i64 nm, .int .i64 ba, .int .u32 (se : Int), .int .i64 en, .int .i64 sz]) rfl (by kernel_rfl) (by kernel_rfl) (by kernel_rfl) (fun _ _ _ h => h) (Or.inl ⟨by rfl, ?_⟩) hS0 ?_
          · intro wq hSw
            obtain ⟨⟨d0, d1, d2, d3, d4⟩, _⟩ := hSw
            go_simp
          (try simp only [Act.put, List.setIfInBounds_toArray, List.set_cons_zero, List.set_cons_succ])
          refine wpAnyH_ready (rs := [1]) (by kernel_rfl) (by simp) ?_
          refine AllReadyH.cons (o := { dst := some 32, op := Op.call { callee := Callee.value (Operand.func 33), args := #[Operand.tmp 31], argTypes := #[53] }, type := 4, pos := "catalog.go:23", after := #[{ on := 0, ground := Ground.data }], guard := none }) rfl (fun K hK => ?_) AllReadyH.nil
          go_simp
          refine (C1t.out _).mono ?_
          rintro ee u1 ⟨rfl, BB⟩
          have KP : Below w2.heap.size w2 u1 := keepF (Below.refl _ w2).drew BB
          have hS1 : ((fun q => (q.cell? ⟨sb, 0, none⟩ = some (.int .i64 nm) ∧ q.cell? ⟨sb, 1, none⟩ = some (.int .i64 ba) ∧ q.cell? ⟨sb, 2, none⟩ = some (.int .u32 (se : Int)) ∧ q.cell? ⟨sb, 3, none⟩ = some (.int .i64 en) ∧ q.cell? ⟨sb, 4, none⟩ = some (.int .i64 sz)) ∧ Below w2.heap.size w2 q)) u1 := ⟨(KS.out u1 KP).1, KP⟩
          refine hK.out _ _ hS1 (fun hHeld => ?_)
          clear hK K hHeld
          (try simp only [Act.put, List.setIfInBounds_toArray, List.set_cons_zero, List.set_cons_succ])
          refine wpAnyH_take (i := 2) (oi := { dst := some 33, op := Op.unOp UnOp.not 4 (Operand.tmp 32), type := 4, pos := "catalog.go:23", after := #[{ on := 1, ground := Ground.data }], guard := none }) (v := .bool true) rfl (by kernel_rfl) (by kernel_rfl) (by kernel_rfl) (fun _ _ _ h => h) (Or.inl ⟨by rfl, ?_⟩) hS1 ?_
          · intro wq hSw
            go_simp
          (try simp only [Act.put, List.setIfInBounds_toArray, List.set_cons_zero, List.set_cons_succ])
          refine wpAnyH_take (i := 3) (oi := { dst := some 34, op := Op.move (Operand.tmp 33), type := 4, pos := "catalog.go:23", after := #[{ on := 2, ground := Ground.data }, { on := 1, ground := Ground.chain }], guard := none }) (v := .bool true) rfl (by kernel_rfl) (by kernel_rfl) (by kernel_rfl) (fun _ _ _ h => h) (Or.inl ⟨by rfl, ?_⟩) hS1 ?_
          · intro wq hSw
            go_simp
          (try simp only [Act.put, List.setIfInBounds_toArray, List.set_cons_zero, List.set_cons_succ])
          refine wpAnyH_take (i := 4) (oi := { dst := some 35, op := Op.load 53 (Operand.tmp 5), type := 53, pos := "catalog.go:23", after := #[{ on := 3, ground := Ground.guard }], guard := some (3, false) }) (v := undef) rfl (by kernel_rfl) (by kernel_rfl) (by kernel_rfl) (fun _ _ _ h => h) (Or.inr ⟨by rfl, rfl⟩) hS1 ?_
          (try simp only [Act.put, List.setIfInBounds_toArray, List.set_cons_zero, List.set_cons_succ])
          refine wpAnyH_take (i := 5) (oi := { dst := some 36, op := Op.fieldAddr 29 (Operand.tmp 1) 2, type := 0, pos := "catalog.go:23", after := #[{ on := 3, ground := Ground.guard }], guard := some (3, false) }) (v := undef) rfl (by kernel_rfl) (by kernel_rfl) (by kernel_rfl) (fun _ _ _ h => h) (Or.inr ⟨by rfl, rfl⟩) hS1 ?_
          (try simp only [Act.put, List.setIfInBounds_toArray, List.set_cons_zero, List.set_cons_succ])
          refine wpAnyH_take (i := 6) (oi := { dst := some 37, op := Op.load 27 (Operand.tmp 36), type := 27, pos := "catalog.go:23", after := #[{ on := 5, ground := Ground.data }, { on := 3, ground := Ground.guard }], guard := some (3, false) }) (v := undef) rfl (by kernel_rfl) (by kernel_rfl) (by kernel_rfl) (fun _ _ _ h => h) (Or.inr ⟨by rfl, rfl⟩) hS1 ?_
          (try simp only [Act.put, List.setIfInBounds_toArray, List.set_cons_zero, List.set_cons_succ])
          refine wpAnyH_take (i := 7) (oi := { dst := some 38, op := Op.move (Operand.tmp 4), type := 3, pos := "catalog.go:23", after := #[{ on := 3, ground := Ground.guard }], guard := some (3, false) }) (v := undef) rfl (by kernel_rfl) (by kernel_rfl) (by kernel_rfl) (fun _ _ _ h => h) (Or.inr ⟨by rfl, rfl⟩) hS1 ?_
          (try simp only [Act.put, List.setIfInBounds_toArray, List.set_cons_zero, List.set_cons_succ])
          refine wpAnyH_take (i := 8) (oi := { dst := some 39, op := Op.binOp BinOp.add 3 (Operand.tmp 38) (Operand.const (Value.int IntKind.i64 1)) 3, type := 3, pos := "catalog.go:23", after := #[{ on := 7, ground := Ground.data }, { on := 3, ground := Ground.guard }], guard := some (3, false) }) (v := undef) rfl (by kernel_rfl) (by kernel_rfl) (by kernel_rfl) (fun _ _ _ h => h) (Or.inr ⟨by rfl, rfl⟩) hS1 ?_
          (try simp only [Act.put, List.setIfInBounds_toArray, List.set_cons_zero, List.set_cons_succ])
          refine wpAnyH_take (i := 9) (oi := { dst := some 40, op := Op.indexAddr 27 (Operand.tmp 37) (Operand.tmp 39), type := 0, pos := "catalog.go:23", after := #[{ on := 6, ground := Ground.data }, { on := 8, ground := Ground.data }, { on := 3, ground := Ground.guard }], guard := some (3, false) }) (v := undef) rfl (by kernel_rfl) (by kernel_rfl) (by kernel_rfl) (fun _ _ _ h => h) (Or.inr ⟨by rfl, rfl⟩) hS1 ?_
          (try simp only [Act.put, List.setIfInBounds_toArray, List.set_cons_zero, List.set_cons_succ])
          refine wpAnyH_take (i := 10) (oi := { dst := some 41, op := Op.load 53 (Operand.tmp 40), type := 53, pos := "catalog.go:23", after := #[{ on := 9, ground := Ground.data }, { on := 3, ground := Ground.guard }], guard := some (3, false) }) (v := undef) rfl (by kernel_rfl) (by kernel_rfl) (by kernel_rfl) (fun _ _ _ h => h) (Or.inr ⟨by rfl, rfl⟩) hS1 ?_
          (try simp only [Act.put, List.setIfInBounds_toArray, List.set_cons_zero, List.set_cons_succ])
          refine wpAnyH_take (i := 11) (oi := { dst := some 42, op := Op.call { callee := Callee.value (Operand.func 34), args := #[Operand.tmp 35, Operand.tmp 41], argTypes := #[53, 53] }, type := 4, pos := "catalog.go:23", after := #[{ on := 4, ground := Ground.data }, { on := 10, ground := Ground.data }, { on := 3, ground := Ground.chain }, { on := 3, ground := Ground.guard }], guard := some (3, false) }) (v := undef) rfl (by kernel_rfl) (by kernel_rfl) (by kernel_rfl) (fun _ _ _ h => h) (Or.inr ⟨by rfl, rfl⟩) hS1 ?_
          (try simp only [Act.put, List.setIfInBounds_toArray, List.set_cons_zero, List.set_cons_succ])
          refine wpAnyH_take (i := 12) (oi := { dst := some 43, op := Op.unOp UnOp.not 4 (Operand.tmp 42), type := 4, pos := "catalog.go:23", after := #[{ on := 11, ground := Ground.data }, { on := 3, ground := Ground.guard }], guard := some (3, false) }) (v := undef) rfl (by kernel_rfl) (by kernel_rfl) (by kernel_rfl) (fun _ _ _ h => h) (Or.inr ⟨by rfl, rfl⟩) hS1 ?_
          (try simp only [Act.put, List.setIfInBounds_toArray, List.set_cons_zero, List.set_cons_succ])
          refine wpAnyH_take (i := 13) (oi := { dst := some 44, op := Op.pick (Operand.tmp 34) (Operand.const (Value.bool true)) (Operand.tmp 43), type := 4, pos := "catalog.go:23", after := #[{ on := 3, ground := Ground.data }, { on := 12, ground := Ground.data }], guard := none }) (v := .bool true) rfl (by kernel_rfl) (by kernel_rfl) (by kernel_rfl) (fun _ _ _ h => h) (Or.inl ⟨by rfl, ?_⟩) hS1 ?_
          · intro wq hSw
            go_simp
          (try simp only [Act.put, List.setIfInBounds_toArray, List.set_cons_zero, List.set_cons_succ])
          refine wpAnyH_done (by kernel_rfl) ?_ _
          go_wp2_with fail
          go_meet
          case rel => exact ⟨.inr ⟨by first | rfl | simp, hF⟩, KP⟩
      case rest =>
        obtain ⟨hcut, BW⟩ := hcut
        rcases hcut with ⟨rfl, hF⟩ | ⟨rfl, hF⟩
        · have BW2 := hide (keepF Y0.out BW.out)
          have hL2 : Hid (∀ j, j < i + 1 → slF (sg l j) ∧ foF (sg l j) (sg l (j + 1))) := by
            intro j hj
            by_cases e : j = i
            · subst e; rw [hs.out, ht.out]; exact hF.out
            · exact hL.out j (by omega)
          clear hNm C1 C2 KS hS0
          go_wp2_with fail
          go_roundw
          case rel => exact ⟨i + 1, by omega, by go_num, BW2, hL2⟩
          case measure => simp [intOf]; omega
        · have BW2 := hide (keepF Y0.out BW.out)
          have hE := hNm hF.out
          clear hNm C1 C2 KS hS0
          go_wp2_with fail
          go_ret
          exact ⟨by rw [hE.out]; rfl, by rw [hq0.out]; exact hB.out.trans (BW2.out.mono hlow.out)⟩
    · obtain rfl : i = M := by omega
      have hng10 : ¬ ((i : Int) + 1 ≤ (i : Int)) := by omega
      have hcw : Hid (wr.heap[cb]? = some (.cells #[.int .i64 g, .int .i64 fi, .slice (some ⟨b, off, none⟩) (i + 1) ca] 29 (0, 0))) := by show _ = _; rw [hW.out.block cb (heap_lt hbx.out)]; exact hbx.out
      have T1 := hide ((HC1.out i (by omega)).below hW.out)
      have T2 := hide ((HC1.out 0 (by omega)).below hW.out)
      have BF : Hid (∀ u, Below wr.heap.size wr u → Below cb w u) := fun u hu => hB.out.trans ((keepF hW.out hu).mono hlow.out)
      have hM1 : Hid (mayB g fi l = true ↔ opF (sg l i) ∧ beF fi (sg l 0)) := by
        show _ ↔ _
        rw [mayB_iff]
        have hl := hN.out
        refine ⟨fun m => ⟨by have := m.op; rw [hl] at this; simpa using this, m.be⟩, fun c => ⟨h1, by omega, by omega, fun j hj => hL.out j (by omega), by rw [hl]; simpa using c.1, c.2⟩⟩
      have C1 := hide (fun u => mayOpen_any u (sg l i))
      have C2 := hide (fun u => mayBegin_any u fi (sg l 0))
      generalize sg l i = s at *
      generalize sg l 0 = t at *
      obtain ⟨nm, ba, se, en, sz⟩ := s
      obtain ⟨nm', ba', se', en', sz'⟩ := t
      dsimp only at C1 C2
      rw [Nat.zero_mul, Nat.add_zero] at T2
      have KS : Hid (∀ q, Below wr.heap.size wr q → (fun q => Below wr.heap.size wr q ∧ q.cell? ⟨cb, 1, none⟩ = some (.int .i64 fi) ∧ q.cell? ⟨cb, 2, none⟩ = some (.slice (some ⟨b, off, none⟩) (i + 1) ca) ∧ (q.cell? ⟨b, off + i * 5, none⟩ = some (.int .i64 nm) ∧ q.cell? ⟨b, off + i * 5 + 1, none⟩ = some (.int .i64 ba) ∧ q.cell? ⟨b, off + i * 5 + 2, none⟩ = some (.int .u32 (se : Int)) ∧ q.cell? ⟨b, off + i * 5 + 3, none⟩ = some (.int .i64 en) ∧ q.cell? ⟨b, off + i * 5 + 4, none⟩ = some (.int .i64 sz)) ∧ q.cell? ⟨b, off, none⟩ = some (.int .i64 nm') ∧ q.cell? ⟨b, off + 1, none⟩ = some (.int .i64 ba') ∧ q.cell? ⟨b, off + 2, none⟩ = some (.int .u32 (se' : Int)) ∧ q.cell? ⟨b, off + 3, none⟩ = some (.int .i64 en') ∧ q.cell? ⟨b, off + 4, none⟩ = some (.int .i64 sz')) q) := by
        intro q hb
        obtain ⟨_, z1, z2⟩ := three_cells (show q.heap[cb]? = _ by rw [hb.block cb (heap_lt hcw.out)]; exact hcw.out)
        exact ⟨hb, z1, z2, T1.out.below hb, T2.out.below hb⟩
      have hS0 := KS.out wr.drew (Below.refl _ _).drew
      dsimp only at hS0
      by_cases hsl : opF ⟨nm, ba, se, en, sz⟩
      · have C1t : Hid (∀ u, Calls Try.prog 35 #[.agg #[.int .i64 nm, .int .i64 ba, .int .u32 (se : Int), .int .i64 en, .int .i64 sz]] u fun e w' => e = .returned (.bool true) ∧ Below u.heap.size u w') := fun u => (C1.out u).mono fun e w' ⟨h, b⟩ => ⟨by rcases h with ⟨h, _⟩ | ⟨_, h⟩; exact h; exact absurd hsl h, b⟩
        by_cases hfo : beF fi ⟨nm', ba', se', en', sz'⟩
        · have C2t : Hid (∀ u, Calls Try.prog 36 #[.int .i64 fi, .agg #[.int .i64 nm', .int .i64 ba', .int .u32 (se' : Int), .int .i64 en', .int .i64 sz']] u fun e w' => e = .returned (.bool true) ∧ Below u.heap.size u w') := fun u => (C2.out u).mono fun e w' ⟨h, b⟩ => ⟨by rcases h with ⟨h, _⟩ | ⟨_, h⟩; exact h; exact absurd hfo h, b⟩
          have hE : Hid (mayB g fi l = true) := hM1.out.2 ⟨hsl, hfo⟩
          clear hsl hfo C1 C2 hM1
          go_upto_region 10 with fail
          refine wp_region_held_drew (S := (fun q => Below wr.heap.size wr q ∧ q.cell? ⟨cb, 1, none⟩ = some (.int .i64 fi) ∧ q.cell? ⟨cb, 2, none⟩ = some (.slice (some ⟨b, off, none⟩) (i + 1) ca) ∧ (q.cell? ⟨b, off + i * 5, none⟩ = some (.int .i64 nm) ∧ q.cell? ⟨b, off + i * 5 + 1, none⟩ = some (.int .i64 ba) ∧ q.cell? ⟨b, off + i * 5 + 2, none⟩ = some (.int .u32 (se : Int)) ∧ q.cell? ⟨b, off + i * 5 + 3, none⟩ = some (.int .i64 en) ∧ q.cell? ⟨b, off + i * 5 + 4, none⟩ = some (.int .i64 sz)) ∧ q.cell? ⟨b, off, none⟩ = some (.int .i64 nm') ∧ q.cell? ⟨b, off + 1, none⟩ = some (.int .i64 ba') ∧ q.cell? ⟨b, off + 2, none⟩ = some (.int .u32 (se' : Int)) ∧ q.cell? ⟨b, off + 3, none⟩ = some (.int .i64 en') ∧ q.cell? ⟨b, off + 4, none⟩ = some (.int .i64 sz'))) (by kernel_rfl) hS0 (fun hHeld => ?_)
          clear hHeld
          refine wpAnyH_take (i := 0) (oi := { dst := some 46, op := Op.fieldAddr 29 (Operand.tmp 1) 2, type := 0, pos := "catalog.go:27", after := #[], guard := none }) (v := .pointer (some ⟨cb, 2, none⟩)) rfl (by kernel_rfl) (by kernel_rfl) (by kernel_rfl) (fun _ _ _ h => h) (Or.inl ⟨by rfl, ?_⟩) hS0 ?_
          · intro wq hSw
            obtain ⟨_, c1, c2, ⟨d0, d1, d2, d3, d4⟩, e0, e1, e2, e3, e4⟩ := hSw
            go_simp
          (try simp only [Act.put, List.setIfInBounds_toArray, List.set_cons_zero, List.set_cons_succ])
          refine wpAnyH_take (i := 1) (oi := { dst := some 47, op := Op.load 27 (Operand.tmp 46), type := 27, pos := "catalog.go:27", after := #[{ on := 0, ground := Ground.data }], guard := none }) (v := .slice (some ⟨b, off, none⟩) (i + 1) ca) rfl (by kernel_rfl) (by kernel_rfl) (by kernel_rfl) (fun _ _ _ h => h) (Or.inl ⟨by rfl, ?_⟩) hS0 ?_
          · intro wq hSw
            obtain ⟨_, c1, c2, ⟨d0, d1, d2, d3, d4⟩, e0, e1, e2, e3, e4⟩ := hSw
            go_simp
          (try simp only [Act.put, List.setIfInBounds_toArray, List.set_cons_zero, List.set_cons_succ])
          refine wpAnyH_take (i := 2) (oi := { dst := some 48, op := Op.move (Operand.tmp 3), type := 3, pos := "catalog.go:27", after := #[], guard := none }) (v := .int .i64 ((i : Int) + 1)) rfl (by kernel_rfl) (by kernel_rfl) (by kernel_rfl) (fun _ _ _ h => h) (Or.inl ⟨by rfl, ?_⟩) hS0 ?_
          · intro wq hSw
            obtain ⟨_, c1, c2, ⟨d0, d1, d2, d3, d4⟩, e0, e1, e2, e3, e4⟩ := hSw
            go_simp
          (try simp only [Act.put, List.setIfInBounds_toArray, List.set_cons_zero, List.set_cons_succ])
          refine wpAnyH_take (i := 3) (oi := { dst := some 49, op := Op.binOp BinOp.sub 3 (Operand.tmp 48) (Operand.const (Value.int IntKind.i64 1)) 3, type := 3, pos := "catalog.go:27", after := #[{ on := 2, ground := Ground.data }], guard := none }) (v := .int .i64 (i : Int)) rfl (by kernel_rfl) (by kernel_rfl) (by kernel_rfl) (fun _ _ _ h => h) (Or.inl ⟨by rfl, ?_⟩) hS0 ?_
          · intro wq hSw
            obtain ⟨_, c1, c2, ⟨d0, d1, d2, d3, d4⟩, e0, e1, e2, e3, e4⟩ := hSw
            go_simp
          (try simp only [Act.put, List.setIfInBounds_toArray, List.set_cons_zero, List.set_cons_succ])
          refine wpAnyH_take (i := 4) (oi := { dst := some 50, op := Op.indexAddr 27 (Operand.tmp 47) (Operand.tmp 49), type := 0, pos := "catalog.go:27", after := #[{ on := 1, ground := Ground.data }, { on := 3, ground := Ground.data }], guard := none }) (v := .pointer (some ⟨b, off + i * 5, none⟩)) rfl (by kernel_rfl) (by kernel_rfl) (by kernel_rfl) (fun _ _ _ h => h) (Or.inl ⟨by rfl, ?_⟩) hS0 ?_
          · intro wq hSw
            obtain ⟨_, c1, c2, ⟨d0, d1, d2, d3, d4⟩, e0, e1, e2, e3, e4⟩ := hSw
            go_simp
            (try (intro h; exfalso; omega))
          (try simp only [Act.put, List.setIfInBounds_toArray, List.set_cons_zero, List.set_cons_succ])
          refine wpAnyH_take (i := 5) (oi := { dst := some 51, op := Op.load 53 (Operand.tmp 50), type := 53, pos := "catalog.go:27", after := #[{ on := 4, ground := Ground.data }], guard := none }) (v := .agg #[.int .i64 nm, .int .i64 ba, .int .u32 (se : Int), .int .i64 en, .int .i64 sz]) rfl (by kernel_rfl) (by kernel_rfl) (by kernel_rfl) (fun _ _ _ h => h) (Or.inl ⟨by rfl, ?_⟩) hS0 ?_
          · intro wq hSw
            obtain ⟨_, c1, c2, ⟨d0, d1, d2, d3, d4⟩, e0, e1, e2, e3, e4⟩ := hSw
            go_simp
          (try simp only [Act.put, List.setIfInBounds_toArray, List.set_cons_zero, List.set_cons_succ])
          refine wpAnyH_ready (rs := [6]) (by kernel_rfl) (by simp) ?_
          refine AllReadyH.cons (o := { dst := some 52, op := Op.call { callee := Callee.value (Operand.func 35), args := #[Operand.tmp 51], argTypes := #[53] }, type := 4, pos := "catalog.go:27", after := #[{ on := 5, ground := Ground.data }], guard := none }) rfl (fun K hK => ?_) AllReadyH.nil
          go_simp
          refine (C1t.out _).mono ?_
          rintro ee u1 ⟨rfl, BB⟩
          have KP : Below wr.heap.size wr u1 := keepF (Below.refl _ wr).drew BB
          have hS1 := KS.out u1 KP
          dsimp only at hS1
          refine hK.out _ _ hS1 (fun hHeld => ?_)
          clear hK K hHeld
          (try simp only [Act.put, List.setIfInBounds_toArray, List.set_cons_zero, List.set_cons_succ])
          refine wpAnyH_take (i := 7) (oi := { dst := some 53, op := Op.move (Operand.tmp 52), type := 4, pos := "catalog.go:27", after := #[{ on := 6, ground := Ground.data }, { on := 6, ground := Ground.chain }], guard := none }) (v := .bool true) rfl (by kernel_rfl) (by kernel_rfl) (by kernel_rfl) (fun _ _ _ h => h) (Or.inl ⟨by rfl, ?_⟩) hS1 ?_
          · intro wq hSw
            obtain ⟨_, c1, c2, ⟨d0, d1, d2, d3, d4⟩, e0, e1, e2, e3, e4⟩ := hSw
            go_simp
          (try simp only [Act.put, List.setIfInBounds_toArray, List.set_cons_zero, List.set_cons_succ])
          refine wpAnyH_take (i := 8) (oi := { dst := some 54, op := Op.fieldAddr 29 (Operand.tmp 1) 1, type := 0, pos := "catalog.go:27", after := #[{ on := 7, ground := Ground.guard }], guard := some (7, true) }) (v := .pointer (some ⟨cb, 1, none⟩)) rfl (by kernel_rfl) (by kernel_rfl) (by kernel_rfl) (fun _ _ _ h => h) (Or.inl ⟨by rfl, ?_⟩) hS1 ?_
          · intro wq hSw
            obtain ⟨_, c1, c2, ⟨d0, d1, d2, d3, d4⟩, e0, e1, e2, e3, e4⟩ := hSw
            go_simp
          (try simp only [Act.put, List.setIfInBounds_toArray, List.set_cons_zero, List.set_cons_succ])
          refine wpAnyH_take (i := 9) (oi := { dst := some 55, op := Op.load 2 (Operand.tmp 54), type := 2, pos := "catalog.go:27", after := #[{ on := 8, ground := Ground.data }, { on := 7, ground := Ground.guard }], guard := some (7, true) }) (v := .int .i64 fi) rfl (by kernel_rfl) (by kernel_rfl) (by kernel_rfl) (fun _ _ _ h => h) (Or.inl ⟨by rfl, ?_⟩) hS1 ?_
          · intro wq hSw
            obtain ⟨_, c1, c2, ⟨d0, d1, d2, d3, d4⟩, e0, e1, e2, e3, e4⟩ := hSw
            go_simp
          (try simp only [Act.put, List.setIfInBounds_toArray, List.set_cons_zero, List.set_cons_succ])
          refine wpAnyH_take (i := 10) (oi := { dst := some 56, op := Op.fieldAddr 29 (Operand.tmp 1) 2, type := 0, pos := "catalog.go:27", after := #[{ on := 7, ground := Ground.guard }], guard := some (7, true) }) (v := .pointer (some ⟨cb, 2, none⟩)) rfl (by kernel_rfl) (by kernel_rfl) (by kernel_rfl) (fun _ _ _ h => h) (Or.inl ⟨by rfl, ?_⟩) hS1 ?_
          · intro wq hSw
            obtain ⟨_, c1, c2, ⟨d0, d1, d2, d3, d4⟩, e0, e1, e2, e3, e4⟩ := hSw
            go_simp
          (try simp only [Act.put, List.setIfInBounds_toArray, List.set_cons_zero, List.set_cons_succ])
          refine wpAnyH_take (i := 11) (oi := { dst := some 57, op := Op.load 27 (Operand.tmp 56), type := 27, pos := "catalog.go:27", after := #[{ on := 10, ground := Ground.data }, { on := 7, ground := Ground.guard }], guard := some (7, true) }) (v := .slice (some ⟨b, off, none⟩) (i + 1) ca) rfl (by kernel_rfl) (by kernel_rfl) (by kernel_rfl) (fun _ _ _ h => h) (Or.inl ⟨by rfl, ?_⟩) hS1 ?_
          · intro wq hSw
            obtain ⟨_, c1, c2, ⟨d0, d1, d2, d3, d4⟩, e0, e1, e2, e3, e4⟩ := hSw
            go_simp
          (try simp only [Act.put, List.setIfInBounds_toArray, List.set_cons_zero, List.set_cons_succ])
          refine wpAnyH_take (i := 12) (oi := { dst := some 58, op := Op.indexAddr 27 (Operand.tmp 57) (Operand.const (Value.int IntKind.i64 0)), type := 0, pos := "catalog.go:27", after := #[{ on := 11, ground := Ground.data }, { on := 7, ground := Ground.guard }], guard := some (7, true) }) (v := .pointer (some ⟨b, off, none⟩)) rfl (by kernel_rfl) (by kernel_rfl) (by kernel_rfl) (fun _ _ _ h => h) (Or.inl ⟨by rfl, ?_⟩) hS1 ?_
          · intro wq hSw
            obtain ⟨_, c1, c2, ⟨d0, d1, d2, d3, d4⟩, e0, e1, e2, e3, e4⟩ := hSw
            go_simp
          (try simp only [Act.put, List.setIfInBounds_toArray, List.set_cons_zero, List.set_cons_succ])
          refine wpAnyH_take (i := 13) (oi := { dst := some 59, op := Op.load 53 (Operand.tmp 58), type := 53, pos := "catalog.go:27", after := #[{ on := 12, ground := Ground.data }, { on := 7, ground := Ground.guard }], guard := some (7, true) }) (v := .agg #[.int .i64 nm', .int .i64 ba', .int .u32 (se' : Int), .int .i64 en', .int .i64 sz']) rfl (by kernel_rfl) (by kernel_rfl) (by kernel_rfl) (fun _ _ _ h => h) (Or.inl ⟨by rfl, ?_⟩) hS1 ?_
          · intro wq hSw
            obtain ⟨_, c1, c2, ⟨d0, d1, d2, d3, d4⟩, e0, e1, e2, e3, e4⟩ := hSw
            go_simp
          (try simp only [Act.put, List.setIfInBounds_toArray, List.set_cons_zero, List.set_cons_succ])
          refine wpAnyH_ready (rs := [14]) (by kernel_rfl) (by simp) ?_
          refine AllReadyH.cons (o := { dst := some 60, op := Op.call { callee := Callee.value (Operand.func 36), args := #[Operand.tmp 55, Operand.tmp 59], argTypes := #[2, 53] }, type := 4, pos := "catalog.go:27", after := #[{ on := 9, ground := Ground.data }, { on := 13, ground := Ground.data }, { on := 7, ground := Ground.chain }, { on := 7, ground := Ground.guard }], guard := some (7, true) }) rfl (fun K hK => ?_) AllReadyH.nil
          go_simp
          refine (C2t.out _).mono ?_
          rintro ee u2 ⟨rfl, BB⟩
          have KQ : Below wr.heap.size wr u2 := keepF KP BB
          have hS2 := KS.out u2 KQ
          dsimp only at hS2
          refine hK.out _ _ hS2 (fun hHeld => ?_)
          clear hK K hHeld
          (try simp only [Act.put, List.setIfInBounds_toArray, List.set_cons_zero, List.set_cons_succ])
          refine wpAnyH_take (i := 15) (oi := { dst := some 61, op := Op.pick (Operand.tmp 53) (Operand.tmp 60) (Operand.const (Value.bool false)), type := 4, pos := "catalog.go:27", after := #[{ on := 7, ground := Ground.data }, { on := 14, ground := Ground.data }], guard := none }) (v := .bool true) rfl (by kernel_rfl) (by kernel_rfl) (by kernel_rfl) (fun _ _ _ h => h) (Or.inl ⟨by rfl, ?_⟩) hS2 ?_
          · intro wq hSw
            obtain ⟨_, c1, c2, ⟨d0, d1, d2, d3, d4⟩, e0, e1, e2, e3, e4⟩ := hSw
            go_simp
          (try simp only [Act.put, List.setIfInBounds_toArray, List.set_cons_zero, List.set_cons_succ])
          refine wpAnyH_take (i := 16) (oi := { dst := some 2, op := Op.assign (Operand.tmp 61), type := 4, pos := "catalog.go:27", after := #[{ on := 15, ground := Ground.data }, { on := 14, ground := Ground.chain }, { on := 0, ground := Ground.phase }, { on := 1, ground := Ground.phase }, { on := 2, ground := Ground.phase }, { on := 3, ground := Ground.phase }, { on := 4, ground := Ground.phase }, { on := 5, ground := Ground.phase }, { on := 6, ground := Ground.phase }, { on := 7, ground := Ground.phase }, { on := 8, ground := Ground.phase }, { on := 9, ground := Ground.phase }, { on := 10, ground := Ground.phase }, { on := 11, ground := Ground.phase }, { on := 12, ground := Ground.phase }, { on := 13, ground := Ground.phase }, { on := 14, ground := Ground.phase }, { on := 15, ground := Ground.phase }], guard := none }) (v := .bool true) rfl (by kernel_rfl) (by kernel_rfl) (by kernel_rfl) (fun _ _ _ h => h) (Or.inl ⟨by rfl, ?_⟩) hS2 ?_
          · intro wq hSw
            obtain ⟨_, c1, c2, ⟨d0, d1, d2, d3, d4⟩, e0, e1, e2, e3, e4⟩ := hSw
            go_simp
          (try simp only [Act.put, List.setIfInBounds_toArray, List.set_cons_zero, List.set_cons_succ])
          refine wpAnyH_done (by kernel_rfl) ?_ _
          go_wp2_with fail
          go_ret
          exact ⟨by rw [hE.out]; rfl, by rw [hq0.out]; exact BF.out _ KQ⟩
        · have C2t : Hid (∀ u, Calls Try.prog 36 #[.int .i64 fi, .agg #[.int .i64 nm', .int .i64 ba', .int .u32 (se' : Int), .int .i64 en', .int .i64 sz']] u fun e w' => e = .returned (.bool false) ∧ Below u.heap.size u w') := fun u => (C2.out u).mono fun e w' ⟨h, b⟩ => ⟨by rcases h with ⟨_, h⟩ | ⟨h, _⟩; exact absurd h hfo; exact h, b⟩
          have hE : Hid (mayB g fi l = false) := by
            show _ = _
            exact Bool.eq_false_iff.2 fun c => hfo (hM1.out.1 c).2
          clear hsl hfo C1 C2 hM1
          go_upto_region 10 with fail
          refine wp_region_held_drew (S := (fun q => Below wr.heap.size wr q ∧ q.cell? ⟨cb, 1, none⟩ = some (.int .i64 fi) ∧ q.cell? ⟨cb, 2, none⟩ = some (.slice (some ⟨b, off, none⟩) (i + 1) ca) ∧ (q.cell? ⟨b, off + i * 5, none⟩ = some (.int .i64 nm) ∧ q.cell? ⟨b, off + i * 5 + 1, none⟩ = some (.int .i64 ba) ∧ q.cell? ⟨b, off + i * 5 + 2, none⟩ = some (.int .u32 (se : Int)) ∧ q.cell? ⟨b, off + i * 5 + 3, none⟩ = some (.int .i64 en) ∧ q.cell? ⟨b, off + i * 5 + 4, none⟩ = some (.int .i64 sz)) ∧ q.cell? ⟨b, off, none⟩ = some (.int .i64 nm') ∧ q.cell? ⟨b, off + 1, none⟩ = some (.int .i64 ba') ∧ q.cell? ⟨b, off + 2, none⟩ = some (.int .u32 (se' : Int)) ∧ q.cell? ⟨b, off + 3, none⟩ = some (.int .i64 en') ∧ q.cell? ⟨b, off + 4, none⟩ = some (.int .i64 sz'))) (by kernel_rfl) hS0 (fun hHeld => ?_)
          clear hHeld
          refine wpAnyH_take (i := 0) (oi := { dst := some 46, op := Op.fieldAddr 29 (Operand.tmp 1) 2, type := 0, pos := "catalog.go:27", after := #[], guard := none }) (v := .pointer (some ⟨cb, 2, none⟩)) rfl (by kernel_rfl) (by kernel_rfl) (by kernel_rfl) (fun _ _ _ h => h) (Or.inl ⟨by rfl, ?_⟩) hS0 ?_
          · intro wq hSw
            obtain ⟨_, c1, c2, ⟨d0, d1, d2, d3, d4⟩, e0, e1, e2, e3, e4⟩ := hSw
            go_simp
          (try simp only [Act.put, List.setIfInBounds_toArray, List.set_cons_zero, List.set_cons_succ])
          refine wpAnyH_take (i := 1) (oi := { dst := some 47, op := Op.load 27 (Operand.tmp 46), type := 27, pos := "catalog.go:27", after := #[{ on := 0, ground := Ground.data }], guard := none }) (v := .slice (some ⟨b, off, none⟩) (i + 1) ca) rfl (by kernel_rfl) (by kernel_rfl) (by kernel_rfl) (fun _ _ _ h => h) (Or.inl ⟨by rfl, ?_⟩) hS0 ?_
          · intro wq hSw
            obtain ⟨_, c1, c2, ⟨d0, d1, d2, d3, d4⟩, e0, e1, e2, e3, e4⟩ := hSw
            go_simp
          (try simp only [Act.put, List.setIfInBounds_toArray, List.set_cons_zero, List.set_cons_succ])
          refine wpAnyH_take (i := 2) (oi := { dst := some 48, op := Op.move (Operand.tmp 3), type := 3, pos := "catalog.go:27", after := #[], guard := none }) (v := .int .i64 ((i : Int) + 1)) rfl (by kernel_rfl) (by kernel_rfl) (by kernel_rfl) (fun _ _ _ h => h) (Or.inl ⟨by rfl, ?_⟩) hS0 ?_
          · intro wq hSw
            obtain ⟨_, c1, c2, ⟨d0, d1, d2, d3, d4⟩, e0, e1, e2, e3, e4⟩ := hSw
            go_simp
          (try simp only [Act.put, List.setIfInBounds_toArray, List.set_cons_zero, List.set_cons_succ])
          refine wpAnyH_take (i := 3) (oi := { dst := some 49, op := Op.binOp BinOp.sub 3 (Operand.tmp 48) (Operand.const (Value.int IntKind.i64 1)) 3, type := 3, pos := "catalog.go:27", after := #[{ on := 2, ground := Ground.data }], guard := none }) (v := .int .i64 (i : Int)) rfl (by kernel_rfl) (by kernel_rfl) (by kernel_rfl) (fun _ _ _ h => h) (Or.inl ⟨by rfl, ?_⟩) hS0 ?_
          · intro wq hSw
            obtain ⟨_, c1, c2, ⟨d0, d1, d2, d3, d4⟩, e0, e1, e2, e3, e4⟩ := hSw
            go_simp
          (try simp only [Act.put, List.setIfInBounds_toArray, List.set_cons_zero, List.set_cons_succ])
          refine wpAnyH_take (i := 4) (oi := { dst := some 50, op := Op.indexAddr 27 (Operand.tmp 47) (Operand.tmp 49), type := 0, pos := "catalog.go:27", after := #[{ on := 1, ground := Ground.data }, { on := 3, ground := Ground.data }], guard := none }) (v := .pointer (some ⟨b, off + i * 5, none⟩)) rfl (by kernel_rfl) (by kernel_rfl) (by kernel_rfl) (fun _ _ _ h => h) (Or.inl ⟨by rfl, ?_⟩) hS0 ?_
          · intro wq hSw
            obtain ⟨_, c1, c2, ⟨d0, d1, d2, d3, d4⟩, e0, e1, e2, e3, e4⟩ := hSw
            go_simp
            (try (intro h; exfalso; omega))
          (try simp only [Act.put, List.setIfInBounds_toArray, List.set_cons_zero, List.set_cons_succ])
          refine wpAnyH_take (i := 5) (oi := { dst := some 51, op := Op.load 53 (Operand.tmp 50), type := 53, pos := "catalog.go:27", after := #[{ on := 4, ground := Ground.data }], guard := none }) (v := .agg #[.int .i64 nm, .int .i64 ba, .int .u32 (se : Int), .int .i64 en, .int .i64 sz]) rfl (by kernel_rfl) (by kernel_rfl) (by kernel_rfl) (fun _ _ _ h => h) (Or.inl ⟨by rfl, ?_⟩) hS0 ?_
          · intro wq hSw
            obtain ⟨_, c1, c2, ⟨d0, d1, d2, d3, d4⟩, e0, e1, e2, e3, e4⟩ := hSw
            go_simp
          (try simp only [Act.put, List.setIfInBounds_toArray, List.set_cons_zero, List.set_cons_succ])
          refine wpAnyH_ready (rs := [6]) (by kernel_rfl) (by simp) ?_
          refine AllReadyH.cons (o := { dst := some 52, op := Op.call { callee := Callee.value (Operand.func 35), args := #[Operand.tmp 51], argTypes := #[53] }, type := 4, pos := "catalog.go:27", after := #[{ on := 5, ground := Ground.data }], guard := none }) rfl (fun K hK => ?_) AllReadyH.nil
          go_simp
          refine (C1t.out _).mono ?_
          rintro ee u1 ⟨rfl, BB⟩
          have KP : Below wr.heap.size wr u1 := keepF (Below.refl _ wr).drew BB
          have hS1 := KS.out u1 KP
          dsimp only at hS1
          refine hK.out _ _ hS1 (fun hHeld => ?_)
          clear hK K hHeld
          (try simp only [Act.put, List.setIfInBounds_toArray, List.set_cons_zero, List.set_cons_succ])
          refine wpAnyH_take (i := 7) (oi := { dst := some 53, op := Op.move (Operand.tmp 52), type := 4, pos := "catalog.go:27", after := #[{ on := 6, ground := Ground.data }, { on := 6, ground := Ground.chain }], guard := none }) (v := .bool true) rfl (by kernel_rfl) (by kernel_rfl) (by kernel_rfl) (fun _ _ _ h => h) (Or.inl ⟨by rfl, ?_⟩) hS1 ?_
          · intro wq hSw
            obtain ⟨_, c1, c2, ⟨d0, d1, d2, d3, d4⟩, e0, e1, e2, e3, e4⟩ := hSw
            go_simp
          (try simp only [Act.put, List.setIfInBounds_toArray, List.set_cons_zero, List.set_cons_succ])
          refine wpAnyH_take (i := 8) (oi := { dst := some 54, op := Op.fieldAddr 29 (Operand.tmp 1) 1, type := 0, pos := "catalog.go:27", after := #[{ on := 7, ground := Ground.guard }], guard := some (7, true) }) (v := .pointer (some ⟨cb, 1, none⟩)) rfl (by kernel_rfl) (by kernel_rfl) (by kernel_rfl) (fun _ _ _ h => h) (Or.inl ⟨by rfl, ?_⟩) hS1 ?_
          · intro wq hSw
            obtain ⟨_, c1, c2, ⟨d0, d1, d2, d3, d4⟩, e0, e1, e2, e3, e4⟩ := hSw
            go_simp
          (try simp only [Act.put, List.setIfInBounds_toArray, List.set_cons_zero, List.set_cons_succ])
          refine wpAnyH_take (i := 9) (oi := { dst := some 55, op := Op.load 2 (Operand.tmp 54), type := 2, pos := "catalog.go:27", after := #[{ on := 8, ground := Ground.data }, { on := 7, ground := Ground.guard }], guard := some (7, true) }) (v := .int .i64 fi) rfl (by kernel_rfl) (by kernel_rfl) (by kernel_rfl) (fun _ _ _ h => h) (Or.inl ⟨by rfl, ?_⟩) hS1 ?_
          · intro wq hSw
            obtain ⟨_, c1, c2, ⟨d0, d1, d2, d3, d4⟩, e0, e1, e2, e3, e4⟩ := hSw
            go_simp
          (try simp only [Act.put, List.setIfInBounds_toArray, List.set_cons_zero, List.set_cons_succ])
          refine wpAnyH_take (i := 10) (oi := { dst := some 56, op := Op.fieldAddr 29 (Operand.tmp 1) 2, type := 0, pos := "catalog.go:27", after := #[{ on := 7, ground := Ground.guard }], guard := some (7, true) }) (v := .pointer (some ⟨cb, 2, none⟩)) rfl (by kernel_rfl) (by kernel_rfl) (by kernel_rfl) (fun _ _ _ h => h) (Or.inl ⟨by rfl, ?_⟩) hS1 ?_
          · intro wq hSw
            obtain ⟨_, c1, c2, ⟨d0, d1, d2, d3, d4⟩, e0, e1, e2, e3, e4⟩ := hSw
            go_simp
          (try simp only [Act.put, List.setIfInBounds_toArray, List.set_cons_zero, List.set_cons_succ])
          refine wpAnyH_take (i := 11) (oi := { dst := some 57, op := Op.load 27 (Operand.tmp 56), type := 27, pos := "catalog.go:27", after := #[{ on := 10, ground := Ground.data }, { on := 7, ground := Ground.guard }], guard := some (7, true) }) (v := .slice (some ⟨b, off, none⟩) (i + 1) ca) rfl (by kernel_rfl) (by kernel_rfl) (by kernel_rfl) (fun _ _ _ h => h) (Or.inl ⟨by rfl, ?_⟩) hS1 ?_
          · intro wq hSw
            obtain ⟨_, c1, c2, ⟨d0, d1, d2, d3, d4⟩, e0, e1, e2, e3, e4⟩ := hSw
            go_simp
          (try simp only [Act.put, List.setIfInBounds_toArray, List.set_cons_zero, List.set_cons_succ])
          refine wpAnyH_take (i := 12) (oi := { dst := some 58, op := Op.indexAddr 27 (Operand.tmp 57) (Operand.const (Value.int IntKind.i64 0)), type := 0, pos := "catalog.go:27", after := #[{ on := 11, ground := Ground.data }, { on := 7, ground := Ground.guard }], guard := some (7, true) }) (v := .pointer (some ⟨b, off, none⟩)) rfl (by kernel_rfl) (by kernel_rfl) (by kernel_rfl) (fun _ _ _ h => h) (Or.inl ⟨by rfl, ?_⟩) hS1 ?_
          · intro wq hSw
            obtain ⟨_, c1, c2, ⟨d0, d1, d2, d3, d4⟩, e0, e1, e2, e3, e4⟩ := hSw
            go_simp
          (try simp only [Act.put, List.setIfInBounds_toArray, List.set_cons_zero, List.set_cons_succ])
          refine wpAnyH_take (i := 13) (oi := { dst := some 59, op := Op.load 53 (Operand.tmp 58), type := 53, pos := "catalog.go:27", after := #[{ on := 12, ground := Ground.data }, { on := 7, ground := Ground.guard }], guard := some (7, true) }) (v := .agg #[.int .i64 nm', .int .i64 ba', .int .u32 (se' : Int), .int .i64 en', .int .i64 sz']) rfl (by kernel_rfl) (by kernel_rfl) (by kernel_rfl) (fun _ _ _ h => h) (Or.inl ⟨by rfl, ?_⟩) hS1 ?_
          · intro wq hSw
            obtain ⟨_, c1, c2, ⟨d0, d1, d2, d3, d4⟩, e0, e1, e2, e3, e4⟩ := hSw
            go_simp
          (try simp only [Act.put, List.setIfInBounds_toArray, List.set_cons_zero, List.set_cons_succ])
          refine wpAnyH_ready (rs := [14]) (by kernel_rfl) (by simp) ?_
          refine AllReadyH.cons (o := { dst := some 60, op := Op.call { callee := Callee.value (Operand.func 36), args := #[Operand.tmp 55, Operand.tmp 59], argTypes := #[2, 53] }, type := 4, pos := "catalog.go:27", after := #[{ on := 9, ground := Ground.data }, { on := 13, ground := Ground.data }, { on := 7, ground := Ground.chain }, { on := 7, ground := Ground.guard }], guard := some (7, true) }) rfl (fun K hK => ?_) AllReadyH.nil
          go_simp
          refine (C2t.out _).mono ?_
          rintro ee u2 ⟨rfl, BB⟩
          have KQ : Below wr.heap.size wr u2 := keepF KP BB
          have hS2 := KS.out u2 KQ
          dsimp only at hS2
          refine hK.out _ _ hS2 (fun hHeld => ?_)
          clear hK K hHeld
          (try simp only [Act.put, List.setIfInBounds_toArray, List.set_cons_zero, List.set_cons_succ])
          refine wpAnyH_take (i := 15) (oi := { dst := some 61, op := Op.pick (Operand.tmp 53) (Operand.tmp 60) (Operand.const (Value.bool false)), type := 4, pos := "catalog.go:27", after := #[{ on := 7, ground := Ground.data }, { on := 14, ground := Ground.data }], guard := none }) (v := .bool false) rfl (by kernel_rfl) (by kernel_rfl) (by kernel_rfl) (fun _ _ _ h => h) (Or.inl ⟨by rfl, ?_⟩) hS2 ?_
          · intro wq hSw
            obtain ⟨_, c1, c2, ⟨d0, d1, d2, d3, d4⟩, e0, e1, e2, e3, e4⟩ := hSw
            go_simp
          (try simp only [Act.put, List.setIfInBounds_toArray, List.set_cons_zero, List.set_cons_succ])
          refine wpAnyH_take (i := 16) (oi := { dst := some 2, op := Op.assign (Operand.tmp 61), type := 4, pos := "catalog.go:27", after := #[{ on := 15, ground := Ground.data }, { on := 14, ground := Ground.chain }, { on := 0, ground := Ground.phase }, { on := 1, ground := Ground.phase }, { on := 2, ground := Ground.phase }, { on := 3, ground := Ground.phase }, { on := 4, ground := Ground.phase }, { on := 5, ground := Ground.phase }, { on := 6, ground := Ground.phase }, { on := 7, ground := Ground.phase }, { on := 8, ground := Ground.phase }, { on := 9, ground := Ground.phase }, { on := 10, ground := Ground.phase }, { on := 11, ground := Ground.phase }, { on := 12, ground := Ground.phase }, { on := 13, ground := Ground.phase }, { on := 14, ground := Ground.phase }, { on := 15, ground := Ground.phase }], guard := none }) (v := .bool false) rfl (by kernel_rfl) (by kernel_rfl) (by kernel_rfl) (fun _ _ _ h => h) (Or.inl ⟨by rfl, ?_⟩) hS2 ?_
          · intro wq hSw
            obtain ⟨_, c1, c2, ⟨d0, d1, d2, d3, d4⟩, e0, e1, e2, e3, e4⟩ := hSw
            go_simp
          (try simp only [Act.put, List.setIfInBounds_toArray, List.set_cons_zero, List.set_cons_succ])
          refine wpAnyH_done (by kernel_rfl) ?_ _
          go_wp2_with fail
          go_ret
          exact ⟨by rw [hE.out]; rfl, by rw [hq0.out]; exact BF.out _ KQ⟩
      · have C1t : Hid (∀ u, Calls Try.prog 35 #[.agg #[.int .i64 nm, .int .i64 ba, .int .u32 (se : Int), .int .i64 en, .int .i64 sz]] u fun e w' => e = .returned (.bool false) ∧ Below u.heap.size u w') := fun u => (C1.out u).mono fun e w' ⟨h, b⟩ => ⟨by rcases h with ⟨_, h⟩ | ⟨h, _⟩; exact absurd h hsl; exact h, b⟩
        have hE : Hid (mayB g fi l = false) := by
          show _ = _
          exact Bool.eq_false_iff.2 fun c => hsl (hM1.out.1 c).1
        clear hsl C1 C2 hM1
        go_upto_region 10 with fail
        refine wp_region_held_drew (S := (fun q => Below wr.heap.size wr q ∧ q.cell? ⟨cb, 1, none⟩ = some (.int .i64 fi) ∧ q.cell? ⟨cb, 2, none⟩ = some (.slice (some ⟨b, off, none⟩) (i + 1) ca) ∧ (q.cell? ⟨b, off + i * 5, none⟩ = some (.int .i64 nm) ∧ q.cell? ⟨b, off + i * 5 + 1, none⟩ = some (.int .i64 ba) ∧ q.cell? ⟨b, off + i * 5 + 2, none⟩ = some (.int .u32 (se : Int)) ∧ q.cell? ⟨b, off + i * 5 + 3, none⟩ = some (.int .i64 en) ∧ q.cell? ⟨b, off + i * 5 + 4, none⟩ = some (.int .i64 sz)) ∧ q.cell? ⟨b, off, none⟩ = some (.int .i64 nm') ∧ q.cell? ⟨b, off + 1, none⟩ = some (.int .i64 ba') ∧ q.cell? ⟨b, off + 2, none⟩ = some (.int .u32 (se' : Int)) ∧ q.cell? ⟨b, off + 3, none⟩ = some (.int .i64 en') ∧ q.cell? ⟨b, off + 4, none⟩ = some (.int .i64 sz'))) (by kernel_rfl) hS0 (fun hHeld => ?_)
        clear hHeld
        refine wpAnyH_take (i := 0) (oi := { dst := some 46, op := Op.fieldAddr 29 (Operand.tmp 1) 2, type := 0, pos := "catalog.go:27", after := #[], guard := none }) (v := .pointer (some ⟨cb, 2, none⟩)) rfl (by kernel_rfl) (by kernel_rfl) (by kernel_rfl) (fun _ _ _ h => h) (Or.inl ⟨by rfl, ?_⟩) hS0 ?_
        · intro wq hSw
          obtain ⟨_, c1, c2, ⟨d0, d1, d2, d3, d4⟩, e0, e1, e2, e3, e4⟩ := hSw
          go_simp
        (try simp only [Act.put, List.setIfInBounds_toArray, List.set_cons_zero, List.set_cons_succ])
        refine wpAnyH_take (i := 1) (oi := { dst := some 47, op := Op.load 27 (Operand.tmp 46), type := 27, pos := "catalog.go:27", after := #[{ on := 0, ground := Ground.data }], guard := none }) (v := .slice (some ⟨b, off, none⟩) (i + 1) ca) rfl (by kernel_rfl) (by kernel_rfl) (by kernel_rfl) (fun _ _ _ h => h) (Or.inl ⟨by rfl, ?_⟩) hS0 ?_
        · intro wq hSw
          obtain ⟨_, c1, c2, ⟨d0, d1, d2, d3, d4⟩, e0, e1, e2, e3, e4⟩ := hSw
          go_simp
        (try simp only [Act.put, List.setIfInBounds_toArray, List.set_cons_zero, List.set_cons_succ])
        refine wpAnyH_take (i := 2) (oi := { dst := some 48, op := Op.move (Operand.tmp 3), type := 3, pos := "catalog.go:27", after := #[], guard := none }) (v := .int .i64 ((i : Int) + 1)) rfl (by kernel_rfl) (by kernel_rfl) (by kernel_rfl) (fun _ _ _ h => h) (Or.inl ⟨by rfl, ?_⟩) hS0 ?_
        · intro wq hSw
          obtain ⟨_, c1, c2, ⟨d0, d1, d2, d3, d4⟩, e0, e1, e2, e3, e4⟩ := hSw
          go_simp
        (try simp only [Act.put, List.setIfInBounds_toArray, List.set_cons_zero, List.set_cons_succ])
        refine wpAnyH_take (i := 3) (oi := { dst := some 49, op := Op.binOp BinOp.sub 3 (Operand.tmp 48) (Operand.const (Value.int IntKind.i64 1)) 3, type := 3, pos := "catalog.go:27", after := #[{ on := 2, ground := Ground.data }], guard := none }) (v := .int .i64 (i : Int)) rfl (by kernel_rfl) (by kernel_rfl) (by kernel_rfl) (fun _ _ _ h => h) (Or.inl ⟨by rfl, ?_⟩) hS0 ?_
        · intro wq hSw
          obtain ⟨_, c1, c2, ⟨d0, d1, d2, d3, d4⟩, e0, e1, e2, e3, e4⟩ := hSw
          go_simp
        (try simp only [Act.put, List.setIfInBounds_toArray, List.set_cons_zero, List.set_cons_succ])
        refine wpAnyH_take (i := 4) (oi := { dst := some 50, op := Op.indexAddr 27 (Operand.tmp 47) (Operand.tmp 49), type := 0, pos := "catalog.go:27", after := #[{ on := 1, ground := Ground.data }, { on := 3, ground := Ground.data }], guard := none }) (v := .pointer (some ⟨b, off + i * 5, none⟩)) rfl (by kernel_rfl) (by kernel_rfl) (by kernel_rfl) (fun _ _ _ h => h) (Or.inl ⟨by rfl, ?_⟩) hS0 ?_
        · intro wq hSw
          obtain ⟨_, c1, c2, ⟨d0, d1, d2, d3, d4⟩, e0, e1, e2, e3, e4⟩ := hSw
          go_simp
          (try (intro h; exfalso; omega))
        (try simp only [Act.put, List.setIfInBounds_toArray, List.set_cons_zero, List.set_cons_succ])
        refine wpAnyH_take (i := 5) (oi := { dst := some 51, op := Op.load 53 (Operand.tmp 50), type := 53, pos := "catalog.go:27", after := #[{ on := 4, ground := Ground.data }], guard := none }) (v := .agg #[.int .i64 nm, .int .i64 ba, .int .u32 (se : Int), .int .i64 en, .int .i64 sz]) rfl (by kernel_rfl) (by kernel_rfl) (by kernel_rfl) (fun _ _ _ h => h) (Or.inl ⟨by rfl, ?_⟩) hS0 ?_
        · intro wq hSw
          obtain ⟨_, c1, c2, ⟨d0, d1, d2, d3, d4⟩, e0, e1, e2, e3, e4⟩ := hSw
          go_simp
        (try simp only [Act.put, List.setIfInBounds_toArray, List.set_cons_zero, List.set_cons_succ])
        refine wpAnyH_ready (rs := [6]) (by kernel_rfl) (by simp) ?_
        refine AllReadyH.cons (o := { dst := some 52, op := Op.call { callee := Callee.value (Operand.func 35), args := #[Operand.tmp 51], argTypes := #[53] }, type := 4, pos := "catalog.go:27", after := #[{ on := 5, ground := Ground.data }], guard := none }) rfl (fun K hK => ?_) AllReadyH.nil
        go_simp
        refine (C1t.out _).mono ?_
        rintro ee u1 ⟨rfl, BB⟩
        have KP : Below wr.heap.size wr u1 := keepF (Below.refl _ wr).drew BB
        have hS1 := KS.out u1 KP
        dsimp only at hS1
        refine hK.out _ _ hS1 (fun hHeld => ?_)
        clear hK K hHeld
        (try simp only [Act.put, List.setIfInBounds_toArray, List.set_cons_zero, List.set_cons_succ])
        refine wpAnyH_take (i := 7) (oi := { dst := some 53, op := Op.move (Operand.tmp 52), type := 4, pos := "catalog.go:27", after := #[{ on := 6, ground := Ground.data }, { on := 6, ground := Ground.chain }], guard := none }) (v := .bool false) rfl (by kernel_rfl) (by kernel_rfl) (by kernel_rfl) (fun _ _ _ h => h) (Or.inl ⟨by rfl, ?_⟩) hS1 ?_
        · intro wq hSw
          obtain ⟨_, c1, c2, ⟨d0, d1, d2, d3, d4⟩, e0, e1, e2, e3, e4⟩ := hSw
          go_simp
        (try simp only [Act.put, List.setIfInBounds_toArray, List.set_cons_zero, List.set_cons_succ])
        refine wpAnyH_take (i := 8) (oi := { dst := some 54, op := Op.fieldAddr 29 (Operand.tmp 1) 1, type := 0, pos := "catalog.go:27", after := #[{ on := 7, ground := Ground.guard }], guard := some (7, true) }) (v := undef) rfl (by kernel_rfl) (by kernel_rfl) (by kernel_rfl) (fun _ _ _ h => h) (Or.inr ⟨by rfl, rfl⟩) hS1 ?_
        (try simp only [Act.put, List.setIfInBounds_toArray, List.set_cons_zero, List.set_cons_succ])
        refine wpAnyH_take (i := 9) (oi := { dst := some 55, op := Op.load 2 (Operand.tmp 54), type := 2, pos := "catalog.go:27", after := #[{ on := 8, ground := Ground.data }, { on := 7, ground := Ground.guard }], guard := some (7, true) }) (v := undef) rfl (by kernel_rfl) (by kernel_rfl) (by kernel_rfl) (fun _ _ _ h => h) (Or.inr ⟨by rfl, rfl⟩) hS1 ?_
        (try simp only [Act.put, List.setIfInBounds_toArray, List.set_cons_zero, List.set_cons_succ])
        refine wpAnyH_take (i := 10) (oi := { dst := some 56, op := Op.fieldAddr 29 (Operand.tmp 1) 2, type := 0, pos := "catalog.go:27", after := #[{ on := 7, ground := Ground.guard }], guard := some (7, true) }) (v := undef) rfl (by kernel_rfl) (by kernel_rfl) (by kernel_rfl) (fun _ _ _ h => h) (Or.inr ⟨by rfl, rfl⟩) hS1 ?_
        (try simp only [Act.put, List.setIfInBounds_toArray, List.set_cons_zero, List.set_cons_succ])
        refine wpAnyH_take (i := 11) (oi := { dst := some 57, op := Op.load 27 (Operand.tmp 56), type := 27, pos := "catalog.go:27", after := #[{ on := 10, ground := Ground.data }, { on := 7, ground := Ground.guard }], guard := some (7, true) }) (v := undef) rfl (by kernel_rfl) (by kernel_rfl) (by kernel_rfl) (fun _ _ _ h => h) (Or.inr ⟨by rfl, rfl⟩) hS1 ?_
        (try simp only [Act.put, List.setIfInBounds_toArray, List.set_cons_zero, List.set_cons_succ])
        refine wpAnyH_take (i := 12) (oi := { dst := some 58, op := Op.indexAddr 27 (Operand.tmp 57) (Operand.const (Value.int IntKind.i64 0)), type := 0, pos := "catalog.go:27", after := #[{ on := 11, ground := Ground.data }, { on := 7, ground := Ground.guard }], guard := some (7, true) }) (v := undef) rfl (by kernel_rfl) (by kernel_rfl) (by kernel_rfl) (fun _ _ _ h => h) (Or.inr ⟨by rfl, rfl⟩) hS1 ?_
        (try simp only [Act.put, List.setIfInBounds_toArray, List.set_cons_zero, List.set_cons_succ])
        refine wpAnyH_take (i := 13) (oi := { dst := some 59, op := Op.load 53 (Operand.tmp 58), type := 53, pos := "catalog.go:27", after := #[{ on := 12, ground := Ground.data }, { on := 7, ground := Ground.guard }], guard := some (7, true) }) (v := undef) rfl (by kernel_rfl) (by kernel_rfl) (by kernel_rfl) (fun _ _ _ h => h) (Or.inr ⟨by rfl, rfl⟩) hS1 ?_
        (try simp only [Act.put, List.setIfInBounds_toArray, List.set_cons_zero, List.set_cons_succ])
        refine wpAnyH_take (i := 14) (oi := { dst := some 60, op := Op.call { callee := Callee.value (Operand.func 36), args := #[Operand.tmp 55, Operand.tmp 59], argTypes := #[2, 53] }, type := 4, pos := "catalog.go:27", after := #[{ on := 9, ground := Ground.data }, { on := 13, ground := Ground.data }, { on := 7, ground := Ground.chain }, { on := 7, ground := Ground.guard }], guard := some (7, true) }) (v := undef) rfl (by kernel_rfl) (by kernel_rfl) (by kernel_rfl) (fun _ _ _ h => h) (Or.inr ⟨by rfl, rfl⟩) hS1 ?_
        (try simp only [Act.put, List.setIfInBounds_toArray, List.set_cons_zero, List.set_cons_succ])
        refine wpAnyH_take (i := 15) (oi := { dst := some 61, op := Op.pick (Operand.tmp 53) (Operand.tmp 60) (Operand.const (Value.bool false)), type := 4, pos := "catalog.go:27", after := #[{ on := 7, ground := Ground.data }, { on := 14, ground := Ground.data }], guard := none }) (v := .bool false) rfl (by kernel_rfl) (by kernel_rfl) (by kernel_rfl) (fun _ _ _ h => h) (Or.inl ⟨by rfl, ?_⟩) hS1 ?_
        · intro wq hSw
          obtain ⟨_, c1, c2, ⟨d0, d1, d2, d3, d4⟩, e0, e1, e2, e3, e4⟩ := hSw
          go_simp
        (try simp only [Act.put, List.setIfInBounds_toArray, List.set_cons_zero, List.set_cons_succ])
        refine wpAnyH_take (i := 16) (oi := { dst := some 2, op := Op.assign (Operand.tmp 61), type := 4, pos := "catalog.go:27", after := #[{ on := 15, ground := Ground.data }, { on := 14, ground := Ground.chain }, { on := 0, ground := Ground.phase }, { on := 1, ground := Ground.phase }, { on := 2, ground := Ground.phase }, { on := 3, ground := Ground.phase }, { on := 4, ground := Ground.phase }, { on := 5, ground := Ground.phase }, { on := 6, ground := Ground.phase }, { on := 7, ground := Ground.phase }, { on := 8, ground := Ground.phase }, { on := 9, ground := Ground.phase }, { on := 10, ground := Ground.phase }, { on := 11, ground := Ground.phase }, { on := 12, ground := Ground.phase }, { on := 13, ground := Ground.phase }, { on := 14, ground := Ground.phase }, { on := 15, ground := Ground.phase }], guard := none }) (v := .bool false) rfl (by kernel_rfl) (by kernel_rfl) (by kernel_rfl) (fun _ _ _ h => h) (Or.inl ⟨by rfl, ?_⟩) hS1 ?_
        · intro wq hSw
          obtain ⟨_, c1, c2, ⟨d0, d1, d2, d3, d4⟩, e0, e1, e2, e3, e4⟩ := hSw
          go_simp
        (try simp only [Act.put, List.setIfInBounds_toArray, List.set_cons_zero, List.set_cons_succ])
        refine wpAnyH_done (by kernel_rfl) ?_ _
        go_wp2_with fail
        go_ret
        exact ⟨by rw [hE.out]; rfl, by rw [hq0.out]; exact BF.out _ KP⟩
#print axioms may_any
end Go.Proofs.Ytdhjlongdfgejaa.Ct
