/-
  sync and close of a state. (gen_UmG.py)
-/
import Derived.Test.YtmehlgebbbkdiaaM01
import Derived.BigRegion
import Derived.BigQuiet
import Derived.Deep.RegionHeld3
import Derived.Deep.Cut
namespace Go.Proofs.Ytmehlgebbbkdiaa.Um
open Go.RowKit Go.Maps
open Ix (wp_region_T wpAnyT wpAnyT_take wpAnyT_one wpAnyT_done vac)
set_option linter.unusedVariables false
set_option linter.unusedSimpArgs false
set_option maxRecDepth 100000
theorem sync_any (w : World) {sb : Nat} {m : Md} (h : St sb w m) (r : Rs) (ao : Option Addr) (ca : Nat) :
    Calls Try.prog 39 #[.pointer (some ⟨sb, 0, none⟩), .agg #[.int .i64 r.e, .int .i64 r.n, .slice ao r.d.length ca]] w fun e w' => Goes sb w (syncS m r) e w' := by
  obtain ⟨re, rn, d⟩ := r
  obtain ⟨L, hL⟩ : ∃ L : Nat, Hid (d.length = L) := ⟨_, rfl⟩
  simp only [hL.out]
  have B1 := box_below w (.cells #[.int .i64 re, .int .i64 rn, .slice ao L ca] 35)
  have N1 := heap_alloc_new w (.cells #[.int .i64 re, .int .i64 rn, .slice ao L ca] 35)
  have BR : Hid (∀ q, Calls Try.prog 37 #[.agg #[.int .i64 re, .int .i64 rn, .slice ao L ca]] q fun e w' => e = .returned (.bool (bareB ⟨re, rn, d⟩)) ∧ Below q.heap.size q w') := hide (by
    intro q
    have := bare_any q ⟨re, rn, d⟩ ao ca
    simp only [hL.out] at this
    exact this)
  have SS : Hid (syncS m ⟨re, rn, d⟩ = if bareB ⟨re, rn, d⟩ = true then
    if re = 0 then (if m.fa = false ∧ m.nx ≤ m.li then some m else none)
    else if re = 40 then some { m with fa := true } else none
  else none) := hide rfl
  obtain ⟨pA, hpA⟩ : ∃ pA, Hid (w.heap.size = pA) := ⟨_, rfl⟩
  obtain ⟨w1, hw1⟩ : ∃ w1, Hid (w.alloc (.cells #[.int .i64 re, .int .i64 rn, .slice ao L ca] 35) = w1) := ⟨_, rfl⟩
  rw [hw1.out] at B1 N1
  rw [hpA.out] at N1
  have p0 := cell_of (off := 0) N1
  have p1 := cell_of (off := 1) N1
  have p2 := cell_of (off := 2) N1
  simp only [List.getElem?_toArray, List.getElem?_cons_zero, List.getElem?_cons_succ] at p0 p1 p2
  have hlt := heap_lt N1
  have OUT : Hid (∀ q, Below w1.heap.size w1 q → St sb q m ∧ But (fun k => k = sb) w q ∧ q.cell? ⟨pA, 0, none⟩ = some (.int .i64 re)) := hide (fun q hq => by
    have hB : Below w.heap.size w q := B1.trans ⟨hq.os, hq.tape, hq.output, hq.size, fun k hk => hq.block k (Nat.lt_of_lt_of_le hk B1.size)⟩
    exact ⟨h.below hB, But.of_below hB _, by rw [hq.cell (p := ⟨pA, 0, none⟩) hlt]; exact p0⟩)
  clear B1 h hL
  rw [SS.out]
  obtain ⟨bb, hbb⟩ : ∃ bb, Hid (bareB ⟨re, rn, d⟩ = bb) := ⟨_, rfl⟩
  rw [hbb.out] at BR ⊢
  cases bb with
  | false =>
    rw [if_neg (by simp)]
    go_enter Try.func39, Try.ntmps39
    go_upto_region 1 with fail
    rw [hw1.out, hpA.out]
    go_wp2_with (first
      | (go_at_call 37; refine (BR.out _).mono ?_; rintro e w2 ⟨rfl, B2⟩; obtain ⟨s2, g2, x0⟩ := OUT.out w2 B2; obtain ⟨v, -, c0, c1, c2, c3, c4, c5, c6, c7, z⟩ := s2.open; have z6 := z 6; have z7 := z 7; replace s2 := hide s2; replace g2 := hide g2; clear z)
      | (go_at_call 34; refine (must_no _).mono ?_; rintro e w' ⟨rfl, hw⟩; rw [hw]; clear hw w'))
    exact ⟨rfl, Goes.none g2.out⟩
  | true =>
    rw [if_pos rfl]
    by_cases h0 : re = 0
    · subst h0
      rw [if_pos rfl]
      by_cases hf : m.fa = false
      · by_cases hn : m.nx ≤ m.li
        · rw [if_pos ⟨hf, hn⟩]
          go_enter Try.func39, Try.ntmps39
          go_upto_region 1 with fail
          rw [hw1.out, hpA.out]
          go_upto_region 5 with (first
            | (go_at_call 37; refine (BR.out _).mono ?_; rintro e w2 ⟨rfl, B2⟩; obtain ⟨s2, g2, x0⟩ := OUT.out w2 B2; obtain ⟨v, -, c0, c1, c2, c3, c4, c5, c6, c7, z⟩ := s2.open; have z6 := z 6; have z7 := z 7; replace s2 := hide s2; replace g2 := hide g2; clear z)
            | (go_at_call 34; refine (must_yes _).mono ?_; rintro e w' ⟨rfl, hw⟩; rw [hw]; clear hw w'))
          have KP : Hid (w2.drew.cell? ⟨sb, 6, none⟩ = some (.bool false) ∧ w2.drew.cell? ⟨sb, 3, none⟩ = some (.int .i64 m.nx) ∧ w2.drew.cell? ⟨sb, 4, none⟩ = some (.int .i64 m.li)) := hide ⟨by rw [hf] at c6; exact c6, c3, c4⟩
          have DQ : Below w2.heap.size w2 w2.drew := (Below.refl _ _).drew
          have SQ : Hid (St sb w2.drew m ∧ But (fun k => k = sb) w w2.drew) := hide ⟨s2.out.below DQ, g2.out.trans (But.of_below DQ _)⟩
          clear DQ s2 g2 c0 c1 c2 c3 c4 c5 c6 c7 z6 z7 x0 B2
          refine wp_region_T (fun q => q.cell? ⟨sb, 6, none⟩ = some (.bool false) ∧ q.cell? ⟨sb, 3, none⟩ = some (.int .i64 m.nx) ∧ q.cell? ⟨sb, 4, none⟩ = some (.int .i64 m.li)) 16 (by kernel_rfl) ?_
          generalize w2.drew = q at *
          refine wpAnyT_take (i := 0) (oi := { dst := some 12, op := Op.move (Operand.tmp 0), type := 47, pos := "state.go:126", after := #[], guard := none }) (v := .pointer (some ⟨sb, 0, none⟩)) [1, 2, 3, 4, 5, 15, 16] rfl (by kernel_rfl) (by kernel_rfl) (by kernel_rfl) (by kernel_rfl) (fun _ _ _ h => h) (Or.inl ⟨by rfl, ?_⟩) KP.out ?_
          · intro wq hSw
            obtain ⟨y0, y1, y2⟩ := hSw
            go_simp
          (try simp only [Act.put, List.setIfInBounds_toArray, List.set_cons_zero, List.set_cons_succ])
          refine wpAnyT_take (i := 1) (oi := { dst := some 13, op := Op.nilCheck (Operand.tmp 12), type := 0, pos := "state.go:126", after := #[{ on := 0, ground := Ground.data }], guard := none }) (v := .pointer (some ⟨sb, 0, none⟩)) [2, 3, 4, 5, 15, 16] rfl (by kernel_rfl) (by kernel_rfl) (by kernel_rfl) (by kernel_rfl) (fun _ _ _ h => h) (Or.inl ⟨by rfl, ?_⟩) KP.out ?_
          · intro wq hSw
            obtain ⟨y0, y1, y2⟩ := hSw
            go_simp
          (try simp only [Act.put, List.setIfInBounds_toArray, List.set_cons_zero, List.set_cons_succ])
          refine wpAnyT_take (i := 2) (oi := { dst := some 14, op := Op.fieldAddr 58 (Operand.tmp 13) 6, type := 0, pos := "state.go:126", after := #[{ on := 1, ground := Ground.data }], guard := none }) (v := .pointer (some ⟨sb, 6, none⟩)) [3, 4, 5, 15, 16] rfl (by kernel_rfl) (by kernel_rfl) (by kernel_rfl) (by kernel_rfl) (fun _ _ _ h => h) (Or.inl ⟨by rfl, ?_⟩) KP.out ?_
          · intro wq hSw
            obtain ⟨y0, y1, y2⟩ := hSw
            go_simp
          (try simp only [Act.put, List.setIfInBounds_toArray, List.set_cons_zero, List.set_cons_succ])
          refine wpAnyT_take (i := 3) (oi := { dst := some 15, op := Op.load 4 (Operand.tmp 14), type := 4, pos := "state.go:126", after := #[{ on := 2, ground := Ground.data }], guard := none }) (v := .bool false) [4, 5, 15, 16] rfl (by kernel_rfl) (by kernel_rfl) (by kernel_rfl) (by kernel_rfl) (fun _ _ _ h => h) (Or.inl ⟨by rfl, ?_⟩) KP.out ?_
          · intro wq hSw
            obtain ⟨y0, y1, y2⟩ := hSw
            go_simp
          (try simp only [Act.put, List.setIfInBounds_toArray, List.set_cons_zero, List.set_cons_succ])
          refine wpAnyT_take (i := 4) (oi := { dst := some 16, op := Op.unOp UnOp.not 4 (Operand.tmp 15), type := 4, pos := "state.go:126", after := #[{ on := 3, ground := Ground.data }], guard := none }) (v := .bool true) [5, 15, 16] rfl (by kernel_rfl) (by kernel_rfl) (by kernel_rfl) (by kernel_rfl) (fun _ _ _ h => h) (Or.inl ⟨by rfl, ?_⟩) KP.out ?_
          · intro wq hSw
            obtain ⟨y0, y1, y2⟩ := hSw
            go_simp
          (try simp only [Act.put, List.setIfInBounds_toArray, List.set_cons_zero, List.set_cons_succ])
          refine wpAnyT_take (i := 5) (oi := { dst := some 17, op := Op.move (Operand.tmp 16), type := 4, pos := "state.go:126", after := #[{ on := 4, ground := Ground.data }], guard := none }) (v := .bool true) [15, 16] rfl (by kernel_rfl) (by kernel_rfl) (by kernel_rfl) (by kernel_rfl) (fun _ _ _ h => h) (Or.inl ⟨by rfl, ?_⟩) KP.out ?_
          · intro wq hSw
            obtain ⟨y0, y1, y2⟩ := hSw
            go_simp
          (try simp only [Act.put, List.setIfInBounds_toArray, List.set_cons_zero, List.set_cons_succ])
          refine wpAnyT_take (i := 6) (oi := { dst := some 18, op := Op.move (Operand.tmp 0), type := 47, pos := "state.go:126", after := #[{ on := 5, ground := Ground.guard }], guard := some (5, true) }) (v := .pointer (some ⟨sb, 0, none⟩)) [7, 8, 9, 14, 15, 16] rfl (by kernel_rfl) (by kernel_rfl) (by kernel_rfl) (by kernel_rfl) (fun _ _ _ h => h) (Or.inl ⟨by rfl, ?_⟩) KP.out ?_
          · intro wq hSw
            obtain ⟨y0, y1, y2⟩ := hSw
            go_simp
          (try simp only [Act.put, List.setIfInBounds_toArray, List.set_cons_zero, List.set_cons_succ])
          refine wpAnyT_take (i := 7) (oi := { dst := some 19, op := Op.nilCheck (Operand.tmp 18), type := 0, pos := "state.go:126", after := #[{ on := 6, ground := Ground.data }, { on := 5, ground := Ground.guard }], guard := some (5, true) }) (v := .pointer (some ⟨sb, 0, none⟩)) [8, 9, 14, 15, 16] rfl (by kernel_rfl) (by kernel_rfl) (by kernel_rfl) (by kernel_rfl) (fun _ _ _ h => h) (Or.inl ⟨by rfl, ?_⟩) KP.out ?_
          · intro wq hSw
            obtain ⟨y0, y1, y2⟩ := hSw
            go_simp
          (try simp only [Act.put, List.setIfInBounds_toArray, List.set_cons_zero, List.set_cons_succ])
          refine wpAnyT_take (i := 8) (oi := { dst := some 20, op := Op.fieldAddr 58 (Operand.tmp 19) 3, type := 0, pos := "state.go:126", after := #[{ on := 7, ground := Ground.data }, { on := 5, ground := Ground.guard }], guard := some (5, true) }) (v := .pointer (some ⟨sb, 3, none⟩)) [9, 14, 15, 16] rfl (by kernel_rfl) (by kernel_rfl) (by kernel_rfl) (by kernel_rfl) (fun _ _ _ h => h) (Or.inl ⟨by rfl, ?_⟩) KP.out ?_
          · intro wq hSw
            obtain ⟨y0, y1, y2⟩ := hSw
            go_simp
          (try simp only [Act.put, List.setIfInBounds_toArray, List.set_cons_zero, List.set_cons_succ])
          refine wpAnyT_take (i := 9) (oi := { dst := some 21, op := Op.load 2 (Operand.tmp 20), type := 2, pos := "state.go:126", after := #[{ on := 8, ground := Ground.data }, { on := 5, ground := Ground.guard }], guard := some (5, true) }) (v := .int .i64 m.nx) [14, 15, 16] rfl (by kernel_rfl) (by kernel_rfl) (by kernel_rfl) (by kernel_rfl) (fun _ _ _ h => h) (Or.inl ⟨by rfl, ?_⟩) KP.out ?_
          · intro wq hSw
            obtain ⟨y0, y1, y2⟩ := hSw
            go_simp
          (try simp only [Act.put, List.setIfInBounds_toArray, List.set_cons_zero, List.set_cons_succ])
          refine wpAnyT_take (i := 10) (oi := { dst := some 22, op := Op.move (Operand.tmp 0), type := 47, pos := "state.go:126", after := #[{ on := 5, ground := Ground.guard }], guard := some (5, true) }) (v := .pointer (some ⟨sb, 0, none⟩)) [11, 12, 13, 14, 15, 16] rfl (by kernel_rfl) (by kernel_rfl) (by kernel_rfl) (by kernel_rfl) (fun _ _ _ h => h) (Or.inl ⟨by rfl, ?_⟩) KP.out ?_
          · intro wq hSw
            obtain ⟨y0, y1, y2⟩ := hSw
            go_simp
          (try simp only [Act.put, List.setIfInBounds_toArray, List.set_cons_zero, List.set_cons_succ])
          refine wpAnyT_take (i := 11) (oi := { dst := some 23, op := Op.nilCheck (Operand.tmp 22), type := 0, pos := "state.go:126", after := #[{ on := 10, ground := Ground.data }, { on := 5, ground := Ground.guard }], guard := some (5, true) }) (v := .pointer (some ⟨sb, 0, none⟩)) [12, 13, 14, 15, 16] rfl (by kernel_rfl) (by kernel_rfl) (by kernel_rfl) (by kernel_rfl) (fun _ _ _ h => h) (Or.inl ⟨by rfl, ?_⟩) KP.out ?_
          · intro wq hSw
            obtain ⟨y0, y1, y2⟩ := hSw
            go_simp
          (try simp only [Act.put, List.setIfInBounds_toArray, List.set_cons_zero, List.set_cons_succ])
          refine wpAnyT_take (i := 12) (oi := { dst := some 24, op := Op.fieldAddr 58 (Operand.tmp 23) 4, type := 0, pos := "state.go:126", after := #[{ on := 11, ground := Ground.data }, { on := 5, ground := Ground.guard }], guard := some (5, true) }) (v := .pointer (some ⟨sb, 4, none⟩)) [13, 14, 15, 16] rfl (by kernel_rfl) (by kernel_rfl) (by kernel_rfl) (by kernel_rfl) (fun _ _ _ h => h) (Or.inl ⟨by rfl, ?_⟩) KP.out ?_
          · intro wq hSw
            obtain ⟨y0, y1, y2⟩ := hSw
            go_simp
          (try simp only [Act.put, List.setIfInBounds_toArray, List.set_cons_zero, List.set_cons_succ])
          refine wpAnyT_take (i := 13) (oi := { dst := some 25, op := Op.load 2 (Operand.tmp 24), type := 2, pos := "state.go:126", after := #[{ on := 12, ground := Ground.data }, { on := 5, ground := Ground.guard }], guard := some (5, true) }) (v := .int .i64 m.li) [14, 15, 16] rfl (by kernel_rfl) (by kernel_rfl) (by kernel_rfl) (by kernel_rfl) (fun _ _ _ h => h) (Or.inl ⟨by rfl, ?_⟩) KP.out ?_
          · intro wq hSw
            obtain ⟨y0, y1, y2⟩ := hSw
            go_simp
          (try simp only [Act.put, List.setIfInBounds_toArray, List.set_cons_zero, List.set_cons_succ])
          refine wpAnyT_take (i := 14) (oi := { dst := some 26, op := Op.binOp BinOp.leq 2 (Operand.tmp 21) (Operand.tmp 25) 2, type := 4, pos := "state.go:126", after := #[{ on := 9, ground := Ground.data }, { on := 13, ground := Ground.data }, { on := 5, ground := Ground.guard }], guard := some (5, true) }) (v := .bool true) [15, 16] rfl (by kernel_rfl) (by kernel_rfl) (by kernel_rfl) (by kernel_rfl) (fun _ _ _ h => h) (Or.inl ⟨by rfl, ?_⟩) KP.out ?_
          · intro wq hSw
            obtain ⟨y0, y1, y2⟩ := hSw
            go_simp
          (try simp only [Act.put, List.setIfInBounds_toArray, List.set_cons_zero, List.set_cons_succ])
          refine wpAnyT_take (i := 15) (oi := { dst := some 27, op := Op.pick (Operand.tmp 17) (Operand.tmp 26) (Operand.const (Value.bool false)), type := 4, pos := "state.go:126", after := #[{ on := 5, ground := Ground.data }, { on := 14, ground := Ground.data }], guard := none }) (v := .bool true) [16] rfl (by kernel_rfl) (by kernel_rfl) (by kernel_rfl) (by kernel_rfl) (fun _ _ _ h => h) (Or.inl ⟨by rfl, ?_⟩) KP.out ?_
          · intro wq hSw
            obtain ⟨y0, y1, y2⟩ := hSw
            go_simp
          (try simp only [Act.put, List.setIfInBounds_toArray, List.set_cons_zero, List.set_cons_succ])
          refine wpAnyT_one (i := 16) (o := { dst := some 28, op := Op.call { callee := Callee.value (Operand.func 34), args := #[Operand.tmp 27], argTypes := #[4] }, type := 0, pos := "state.go:126", after := #[{ on := 15, ground := Ground.data }, { on := 5, ground := Ground.chain }], guard := none }) (by kernel_rfl) rfl (fun K hK => ?_)
          go_simp
          go_at_call 34
          refine (must_yes _).mono ?_
          rintro e w' ⟨rfl, hw⟩
          rw [hw]
          clear hw w'
          refine hK.out _ _ (vac (by kernel_rfl)) ?_
          clear hK K
          refine wpAnyT_done (by kernel_rfl) ?_ _
          go_wp2_with fail
          first | go_end0 | refine bodyPost_ret (results_none rfl _ _ _) rfl ?_
          exact Goes.some SQ.out.2 SQ.out.1
        · rw [if_neg (fun c => hn c.2)]
          have kn : decide (m.nx ≤ m.li) = false := by simp; omega
          go_enter Try.func39, Try.ntmps39
          go_upto_region 1 with fail
          rw [hw1.out, hpA.out]
          go_upto_region 5 with (first
            | (go_at_call 37; refine (BR.out _).mono ?_; rintro e w2 ⟨rfl, B2⟩; obtain ⟨s2, g2, x0⟩ := OUT.out w2 B2; obtain ⟨v, -, c0, c1, c2, c3, c4, c5, c6, c7, z⟩ := s2.open; have z6 := z 6; have z7 := z 7; replace s2 := hide s2; replace g2 := hide g2; clear z)
            | (go_at_call 34; refine (must_yes _).mono ?_; rintro e w' ⟨rfl, hw⟩; rw [hw]; clear hw w'))
          have KP : Hid (w2.drew.cell? ⟨sb, 6, none⟩ = some (.bool false) ∧ w2.drew.cell? ⟨sb, 3, none⟩ = some (.int .i64 m.nx) ∧ w2.drew.cell? ⟨sb, 4, none⟩ = some (.int .i64 m.li)) := hide ⟨by rw [hf] at c6; exact c6, c3, c4⟩
          have DQ : Below w2.heap.size w2 w2.drew := (Below.refl _ _).drew
          have SQ : Hid (St sb w2.drew m ∧ But (fun k => k = sb) w w2.drew) := hide ⟨s2.out.below DQ, g2.out.trans (But.of_below DQ _)⟩
          clear DQ s2 g2 c0 c1 c2 c3 c4 c5 c6 c7 z6 z7 x0 B2
          refine wp_region_T (fun q => q.cell? ⟨sb, 6, none⟩ = some (.bool false) ∧ q.cell? ⟨sb, 3, none⟩ = some (.int .i64 m.nx) ∧ q.cell? ⟨sb, 4, none⟩ = some (.int .i64 m.li)) 16 (by kernel_rfl) ?_
          generalize w2.drew = q at *
          refine wpAnyT_take (i := 0) (oi := { dst := some 12, op := Op.move (Operand.tmp 0), type := 47, pos := "state.go:126", after := #[], guard := none }) (v := .pointer (some ⟨sb, 0, none⟩)) [1, 2, 3, 4, 5, 15, 16] rfl (by kernel_rfl) (by kernel_rfl) (by kernel_rfl) (by kernel_rfl) (fun _ _ _ h => h) (Or.inl ⟨by rfl, ?_⟩) KP.out ?_
          · intro wq hSw
            obtain ⟨y0, y1, y2⟩ := hSw
            go_simp
          (try simp only [Act.put, List.setIfInBounds_toArray, List.set_cons_zero, List.set_cons_succ])
          refine wpAnyT_take (i := 1) (oi := { dst := some 13, op := Op.nilCheck (Operand.tmp 12), type := 0, pos := "state.go:126", after := #[{ on := 0, ground := Ground.data }], guard := none }) (v := .pointer (some ⟨sb, 0, none⟩)) [2, 3, 4, 5, 15, 16] rfl (by kernel_rfl) (by kernel_rfl) (by kernel_rfl) (by kernel_rfl) (fun _ _ _ h => h) (Or.inl ⟨by rfl, ?_⟩) KP.out ?_
          · intro wq hSw
            obtain ⟨y0, y1, y2⟩ := hSw
            go_simp
          (try simp only [Act.put, List.setIfInBounds_toArray, List.set_cons_zero, List.set_cons_succ])
          refine wpAnyT_take (i := 2) (oi := { dst := some 14, op := Op.fieldAddr 58 (Operand.tmp 13) 6, type := 0, pos := "state.go:126", after := #[{ on := 1, ground := Ground.data }], guard := none }) (v := .pointer (some ⟨sb, 6, none⟩)) [3, 4, 5, 15, 16] rfl (by kernel_rfl) (by kernel_rfl) (by kernel_rfl) (by kernel_rfl) (fun _ _ _ h => h) (Or.inl ⟨by rfl, ?_⟩) KP.out ?_
          · intro wq hSw
            obtain ⟨y0, y1, y2⟩ := hSw
            go_simp
          (try simp only [Act.put, List.setIfInBounds_toArray, List.set_cons_zero, List.set_cons_succ])
          refine wpAnyT_take (i := 3) (oi := { dst := some 15, op := Op.load 4 (Operand.tmp 14), type := 4, pos := "state.go:126", after := #[{ on := 2, ground := Ground.data }], guard := none }) (v := .bool false) [4, 5, 15, 16] rfl (by kernel_rfl) (by kernel_rfl) (by kernel_rfl) (by kernel_rfl) (fun _ _ _ h => h) (Or.inl ⟨by rfl, ?_⟩) KP.out ?_
          · intro wq hSw
            obtain ⟨y0, y1, y2⟩ := hSw
            go_simp
          (try simp only [Act.put, List.setIfInBounds_toArray, List.set_cons_zero, List.set_cons_succ])
          refine wpAnyT_take (i := 4) (oi := { dst := some 16, op := Op.unOp UnOp.not 4 (Operand.tmp 15), type := 4, pos := "state.go:126", after := #[{ on := 3, ground := Ground.data }], guard := none }) (v := .bool true) [5, 15, 16] rfl (by kernel_rfl) (by kernel_rfl) (by kernel_rfl) (by kernel_rfl) (fun _ _ _ h => h) (Or.inl ⟨by rfl, ?_⟩) KP.out ?_
          · intro wq hSw
            obtain ⟨y0, y1, y2⟩ := hSw
            go_simp
          (try simp only [Act.put, List.setIfInBounds_toArray, List.set_cons_zero, List.set_cons_succ])
          refine wpAnyT_take (i := 5) (oi := { dst := some 17, op := Op.move (Operand.tmp 16), type := 4, pos := "state.go:126", after := #[{ on := 4, ground := Ground.data }], guard := none }) (v := .bool true) [15, 16] rfl (by kernel_rfl) (by kernel_rfl) (by kernel_rfl) (by kernel_rfl) (fun _ _ _ h => h) (Or.inl ⟨by rfl, ?_⟩) KP.out ?_
          · intro wq hSw
            obtain ⟨y0, y1, y2⟩ := hSw
            go_simp
          (try simp only [Act.put, List.setIfInBounds_toArray, List.set_cons_zero, List.set_cons_succ])
          refine wpAnyT_take (i := 6) (oi := { dst := some 18, op := Op.move (Operand.tmp 0), type := 47, pos := "state.go:126", after := #[{ on := 5, ground := Ground.guard }], guard := some (5, true) }) (v := .pointer (some ⟨sb, 0, none⟩)) [7, 8, 9, 14, 15, 16] rfl (by kernel_rfl) (by kernel_rfl) (by kernel_rfl) (by kernel_rfl) (fun _ _ _ h => h) (Or.inl ⟨by rfl, ?_⟩) KP.out ?_
          · intro wq hSw
            obtain ⟨y0, y1, y2⟩ := hSw
            go_simp
          (try simp only [Act.put, List.setIfInBounds_toArray, List.set_cons_zero, List.set_cons_succ])
          refine wpAnyT_take (i := 7) (oi := { dst := some 19, op := Op.nilCheck (Operand.tmp 18), type := 0, pos := "state.go:126", after := #[{ on := 6, ground := Ground.data }, { on := 5, ground := Ground.guard }], guard := some (5, true) }) (v := .pointer (some ⟨sb, 0, none⟩)) [8, 9, 14, 15, 16] rfl (by kernel_rfl) (by kernel_rfl) (by kernel_rfl) (by kernel_rfl) (fun _ _ _ h => h) (Or.inl ⟨by rfl, ?_⟩) KP.out ?_
          · intro wq hSw
            obtain ⟨y0, y1, y2⟩ := hSw
            go_simp
          (try simp only [Act.put, List.setIfInBounds_toArray, List.set_cons_zero, List.set_cons_succ])
          refine wpAnyT_take (i := 8) (oi := { dst := some 20, op := Op.fieldAddr 58 (Operand.tmp 19) 3, type := 0, pos := "state.go:126", after := #[{ on := 7, ground := Ground.data }, { on := 5, ground := Ground.guard }], guard := some (5, true) }) (v := .pointer (some ⟨sb, 3, none⟩)) [9, 14, 15, 16] rfl (by kernel_rfl) (by kernel_rfl) (by kernel_rfl) (by kernel_rfl) (fun _ _ _ h => h) (Or.inl ⟨by rfl, ?_⟩) KP.out ?_
          · intro wq hSw
            obtain ⟨y0, y1, y2⟩ := hSw
            go_simp
          (try simp only [Act.put, List.setIfInBounds_toArray, List.set_cons_zero, List.set_cons_succ])
          refine wpAnyT_take (i := 9) (oi := { dst := some 21, op := Op.load 2 (Operand.tmp 20), type := 2, pos := "state.go:126", after := #[{ on := 8, ground := Ground.data }, { on := 5, ground := Ground.guard }], guard := some (5, true) }) (v := .int .i64 m.nx) [14, 15, 16] rfl (by kernel_rfl) (by kernel_rfl) (by kernel_rfl) (by kernel_rfl) (fun _ _ _ h => h) (Or.inl ⟨by rfl, ?_⟩) KP.out ?_
          · intro wq hSw
            obtain ⟨y0, y1, y2⟩ := hSw
            go_simp
          (try simp only [Act.put, List.setIfInBounds_toArray, List.set_cons_zero, List.set_cons_succ])
          refine wpAnyT_take (i := 10) (oi := { dst := some 22, op := Op.move (Operand.tmp 0), type := 47, pos := "state.go:126", after := #[{ on := 5, ground := Ground.guard }], guard := some (5, true) }) (v := .pointer (some ⟨sb, 0, none⟩)) [11, 12, 13, 14, 15, 16] rfl (by kernel_rfl) (by kernel_rfl) (by kernel_rfl) (by kernel_rfl) (fun _ _ _ h => h) (Or.inl ⟨by rfl, ?_⟩) KP.out ?_
          · intro wq hSw
            obtain ⟨y0, y1, y2⟩ := hSw
            go_simp
          (try simp only [Act.put, List.setIfInBounds_toArray, List.set_cons_zero, List.set_cons_succ])
          refine wpAnyT_take (i := 11) (oi := { dst := some 23, op := Op.nilCheck (Operand.tmp 22), type := 0, pos := "state.go:126", after := #[{ on := 10, ground := Ground.data }, { on := 5, ground := Ground.guard }], guard := some (5, true) }) (v := .pointer (some ⟨sb, 0, none⟩)) [12, 13, 14, 15, 16] rfl (by kernel_rfl) (by kernel_rfl) (by kernel_rfl) (by kernel_rfl) (fun _ _ _ h => h) (Or.inl ⟨by rfl, ?_⟩) KP.out ?_
          · intro wq hSw
            obtain ⟨y0, y1, y2⟩ := hSw
            go_simp
          (try simp only [Act.put, List.setIfInBounds_toArray, List.set_cons_zero, List.set_cons_succ])
          refine wpAnyT_take (i := 12) (oi := { dst := some 24, op := Op.fieldAddr 58 (Operand.tmp 23) 4, type := 0, pos := "state.go:126", after := #[{ on := 11, ground := Ground.data }, { on := 5, ground := Ground.guard }], guard := some (5, true) }) (v := .pointer (some ⟨sb, 4, none⟩)) [13, 14, 15, 16] rfl (by kernel_rfl) (by kernel_rfl) (by kernel_rfl) (by kernel_rfl) (fun _ _ _ h => h) (Or.inl ⟨by rfl, ?_⟩) KP.out ?_
          · intro wq hSw
            obtain ⟨y0, y1, y2⟩ := hSw
            go_simp
          (try simp only [Act.put, List.setIfInBounds_toArray, List.set_cons_zero, List.set_cons_succ])
          refine wpAnyT_take (i := 13) (oi := { dst := some 25, op := Op.load 2 (Operand.tmp 24), type := 2, pos := "state.go:126", after := #[{ on := 12, ground := Ground.data }, { on := 5, ground := Ground.guard }], guard := some (5, true) }) (v := .int .i64 m.li) [14, 15, 16] rfl (by kernel_rfl) (by kernel_rfl) (by kernel_rfl) (by kernel_rfl) (fun _ _ _ h => h) (Or.inl ⟨by rfl, ?_⟩) KP.out ?_
          · intro wq hSw
            obtain ⟨y0, y1, y2⟩ := hSw
            go_simp
          (try simp only [Act.put, List.setIfInBounds_toArray, List.set_cons_zero, List.set_cons_succ])
          refine wpAnyT_take (i := 14) (oi := { dst := some 26, op := Op.binOp BinOp.leq 2 (Operand.tmp 21) (Operand.tmp 25) 2, type := 4, pos := "state.go:126", after := #[{ on := 9, ground := Ground.data }, { on := 13, ground := Ground.data }, { on := 5, ground := Ground.guard }], guard := some (5, true) }) (v := .bool false) [15, 16] rfl (by kernel_rfl) (by kernel_rfl) (by kernel_rfl) (by kernel_rfl) (fun _ _ _ h => h) (Or.inl ⟨by rfl, ?_⟩) KP.out ?_
          · intro wq hSw
            obtain ⟨y0, y1, y2⟩ := hSw
            go_simp
          (try simp only [Act.put, List.setIfInBounds_toArray, List.set_cons_zero, List.set_cons_succ])
          refine wpAnyT_take (i := 15) (oi := { dst := some 27, op := Op.pick (Operand.tmp 17) (Operand.tmp 26) (Operand.const (Value.bool false)), type := 4, pos := "state.go:126", after := #[{ on := 5, ground := Ground.data }, { on := 14, ground := Ground.data }], guard := none }) (v := .bool false) [16] rfl (by kernel_rfl) (by kernel_rfl) (by kernel_rfl) (by kernel_rfl) (fun _ _ _ h => h) (Or.inl ⟨by rfl, ?_⟩) KP.out ?_
          · intro wq hSw
            obtain ⟨y0, y1, y2⟩ := hSw
            go_simp
          (try simp only [Act.put, List.setIfInBounds_toArray, List.set_cons_zero, List.set_cons_succ])
          refine wpAnyT_one (i := 16) (o := { dst := some 28, op := Op.call { callee := Callee.value (Operand.func 34), args := #[Operand.tmp 27], argTypes := #[4] }, type := 0, pos := "state.go:126", after := #[{ on := 15, ground := Ground.data }, { on := 5, ground := Ground.chain }], guard := none }) (by kernel_rfl) rfl (fun K hK => ?_)
          go_simp
          go_at_call 34
          refine (must_no _).mono ?_
          rintro e w' ⟨rfl, hw⟩
          rw [hw]
          clear hw w'
          exact ⟨rfl, Goes.none SQ.out.2⟩
      · rw [if_neg (fun c => hf c.1)]
        have hf' : m.fa = true := by simpa using hf
        replace hf := hf'
        clear hf'
        go_enter Try.func39, Try.ntmps39
        go_upto_region 1 with fail
        rw [hw1.out, hpA.out]
        go_upto_region 5 with (first
          | (go_at_call 37; refine (BR.out _).mono ?_; rintro e w2 ⟨rfl, B2⟩; obtain ⟨s2, g2, x0⟩ := OUT.out w2 B2; obtain ⟨v, -, c0, c1, c2, c3, c4, c5, c6, c7, z⟩ := s2.open; have z6 := z 6; have z7 := z 7; replace s2 := hide s2; replace g2 := hide g2; clear z)
          | (go_at_call 34; refine (must_yes _).mono ?_; rintro e w' ⟨rfl, hw⟩; rw [hw]; clear hw w'))
        have KP : Hid (w2.drew.cell? ⟨sb, 6, none⟩ = some (.bool true) ∧ w2.drew.cell? ⟨sb, 3, none⟩ = some (.int .i64 m.nx) ∧ w2.drew.cell? ⟨sb, 4, none⟩ = some (.int .i64 m.li)) := hide ⟨by rw [hf] at c6; exact c6, c3, c4⟩
        have DQ : Below w2.heap.size w2 w2.drew := (Below.refl _ _).drew
        have SQ : Hid (St sb w2.drew m ∧ But (fun k => k = sb) w w2.drew) := hide ⟨s2.out.below DQ, g2.out.trans (But.of_below DQ _)⟩
        clear DQ s2 g2 c0 c1 c2 c3 c4 c5 c6 c7 z6 z7 x0 B2
        refine wp_region_T (fun q => q.cell? ⟨sb, 6, none⟩ = some (.bool true) ∧ q.cell? ⟨sb, 3, none⟩ = some (.int .i64 m.nx) ∧ q.cell? ⟨sb, 4, none⟩ = some (.int .i64 m.li)) 16 (by kernel_rfl) ?_
        generalize w2.drew = q at *
        refine wpAnyT_take (i := 0) (oi := { dst := some 12, op := Op.move (Operand.tmp 0), type := 47, pos := "state.go:126", after := #[], guard := none }) (v := .pointer (some ⟨sb, 0, none⟩)) [1, 2, 3, 4, 5, 15, 16] rfl (by kernel_rfl) (by kernel_rfl) (by kernel_rfl) (by kernel_rfl) (fun _ _ _ h => h) (Or.inl ⟨by rfl, ?_⟩) KP.out ?_
        · intro wq hSw
          obtain ⟨y0, y1, y2⟩ := hSw
          go_simp
        (try simp only [Act.put, List.setIfInBounds_toArray, List.set_cons_zero, List.set_cons_succ])
        refine wpAnyT_take (i := 1) (oi := { dst := some 13, op := Op.nilCheck (Operand.tmp 12), type := 0, pos := "state.go:126", after := #[{ on := 0, ground := Ground.data }], guard := none }) (v := .pointer (some ⟨sb, 0, none⟩)) [2, 3, 4, 5, 15, 16] rfl (by kernel_rfl) (by kernel_rfl) (by kernel_rfl) (by kernel_rfl) (fun _ _ _ h => h) (Or.inl ⟨by rfl, ?_⟩) KP.out ?_
        · intro wq hSw
          obtain ⟨y0, y1, y2⟩ := hSw
          go_simp
        (try simp only [Act.put, List.setIfInBounds_toArray, List.set_cons_zero, List.set_cons_succ])
        refine wpAnyT_take (i := 2) (oi := { dst := some 14, op := Op.fieldAddr 58 (Operand.tmp 13) 6, type := 0, pos := "state.go:126", after := #[{ on := 1, ground := Ground.data }], guard := none }) (v := .pointer (some ⟨sb, 6, none⟩)) [3, 4, 5, 15, 16] rfl (by kernel_rfl) (by kernel_rfl) (by kernel_rfl) (by kernel_rfl) (fun _ _ _ h => h) (Or.inl ⟨by rfl, ?_⟩) KP.out ?_
        · intro wq hSw
          obtain ⟨y0, y1, y2⟩ := hSw
          go_simp
        (try simp only [Act.put, List.setIfInBounds_toArray, List.set_cons_zero, List.set_cons_succ])
        refine wpAnyT_take (i := 3) (oi := { dst := some 15, op := Op.load 4 (Operand.tmp 14), type := 4, pos := "state.go:126", after := #[{ on := 2, ground := Ground.data }], guard := none }) (v := .bool true) [4, 5, 15, 16] rfl (by kernel_rfl) (by kernel_rfl) (by kernel_rfl) (by kernel_rfl) (fun _ _ _ h => h) (Or.inl ⟨by rfl, ?_⟩) KP.out ?_
        · intro wq hSw
          obtain ⟨y0, y1, y2⟩ := hSw
          go_simp
        (try simp only [Act.put, List.setIfInBounds_toArray, List.set_cons_zero, List.set_cons_succ])
        refine wpAnyT_take (i := 4) (oi := { dst := some 16, op := Op.unOp UnOp.not 4 (Operand.tmp 15), type := 4, pos := "state.go:126", after := #[{ on := 3, ground := Ground.data }], guard := none }) (v := .bool false) [5, 15, 16] rfl (by kernel_rfl) (by kernel_rfl) (by kernel_rfl) (by kernel_rfl) (fun _ _ _ h => h) (Or.inl ⟨by rfl, ?_⟩) KP.out ?_
        · intro wq hSw
          obtain ⟨y0, y1, y2⟩ := hSw
          go_simp
        (try simp only [Act.put, List.setIfInBounds_toArray, List.set_cons_zero, List.set_cons_succ])
        refine wpAnyT_take (i := 5) (oi := { dst := some 17, op := Op.move (Operand.tmp 16), type := 4, pos := "state.go:126", after := #[{ on := 4, ground := Ground.data }], guard := none }) (v := .bool false) [15, 16] rfl (by kernel_rfl) (by kernel_rfl) (by kernel_rfl) (by kernel_rfl) (fun _ _ _ h => h) (Or.inl ⟨by rfl, ?_⟩) KP.out ?_
        · intro wq hSw
          obtain ⟨y0, y1, y2⟩ := hSw
          go_simp
        (try simp only [Act.put, List.setIfInBounds_toArray, List.set_cons_zero, List.set_cons_succ])
        refine wpAnyT_take (i := 6) (oi := { dst := some 18, op := Op.move (Operand.tmp 0), type := 47, pos := "state.go:126", after := #[{ on := 5, ground := Ground.guard }], guard := some (5, true) }) (v := undef) [7, 8, 9, 14, 15, 16] rfl (by kernel_rfl) (by kernel_rfl) (by kernel_rfl) (by kernel_rfl) (fun _ _ _ h => h) (Or.inr ⟨by rfl, rfl⟩) KP.out ?_
        (try simp only [Act.put, List.setIfInBounds_toArray, List.set_cons_zero, List.set_cons_succ])
        refine wpAnyT_take (i := 7) (oi := { dst := some 19, op := Op.nilCheck (Operand.tmp 18), type := 0, pos := "state.go:126", after := #[{ on := 6, ground := Ground.data }, { on := 5, ground := Ground.guard }], guard := some (5, true) }) (v := undef) [8, 9, 14, 15, 16] rfl (by kernel_rfl) (by kernel_rfl) (by kernel_rfl) (by kernel_rfl) (fun _ _ _ h => h) (Or.inr ⟨by rfl, rfl⟩) KP.out ?_
        (try simp only [Act.put, List.setIfInBounds_toArray, List.set_cons_zero, List.set_cons_succ])
        refine wpAnyT_take (i := 8) (oi := { dst := some 20, op := Op.fieldAddr 58 (Operand.tmp 19) 3, type := 0, pos := "state.go:126", after := #[{ on := 7, ground := Ground.data }, { on := 5, ground := Ground.guard }], guard := some (5, true) }) (v := undef) [9, 14, 15, 16] rfl (by kernel_rfl) (by kernel_rfl) (by kernel_rfl) (by kernel_rfl) (fun _ _ _ h => h) (Or.inr ⟨by rfl, rfl⟩) KP.out ?_
        (try simp only [Act.put, List.setIfInBounds_toArray, List.set_cons_zero, List.set_cons_succ])
        refine wpAnyT_take (i := 9) (oi := { dst := some 21, op := Op.load 2 (Operand.tmp 20), type := 2, pos := "state.go:126", after := #[{ on := 8, ground := Ground.data }, { on := 5, ground := Ground.guard }], guard := some (5, true) }) (v := undef) [14, 15, 16] rfl (by kernel_rfl) (by kernel_rfl) (by kernel_rfl) (by kernel_rfl) (fun _ _ _ h => h) (Or.inr ⟨by rfl, rfl⟩) KP.out ?_
        (try simp only [Act.put, List.setIfInBounds_toArray, List.set_cons_zero, List.set_cons_succ])
        refine wpAnyT_take (i := 10) (oi := { dst := some 22, op := Op.move (Operand.tmp 0), type := 47, pos := "state.go:126", after := #[{ on := 5, ground := Ground.guard }], guard := some (5, true) }) (v := undef) [11, 12, 13, 14, 15, 16] rfl (by kernel_rfl) (by kernel_rfl) (by kernel_rfl) (by kernel_rfl) (fun _ _ _ h => h) (Or.inr ⟨by rfl, rfl⟩) KP.out ?_
        (try simp only [Act.put, List.setIfInBounds_toArray, List.set_cons_zero, List.set_cons_succ])
        refine wpAnyT_take (i := 11) (oi := { dst := some 23, op := Op.nilCheck (Operand.tmp 22), type := 0, pos := "state.go:126", after := #[{ on := 10, ground := Ground.data }, { on := 5, ground := Ground.guard }], guard := some (5, true) }) (v := undef) [12, 13, 14, 15, 16] rfl (by kernel_rfl) (by kernel_rfl) (by kernel_rfl) (by kernel_rfl) (fun _ _ _ h => h) (Or.inr ⟨by rfl, rfl⟩) KP.out ?_
        (try simp only [Act.put, List.setIfInBounds_toArray, List.set_cons_zero, List.set_cons_succ])
        refine wpAnyT_take (i := 12) (oi := { dst := some 24, op := Op.fieldAddr 58 (Operand.tmp 23) 4, type := 0, pos := "state.go:126", after := #[{ on := 11, ground := Ground.data }, { on := 5, ground := Ground.guard }], guard := some (5, true) }) (v := undef) [13, 14, 15, 16] rfl (by kernel_rfl) (by kernel_rfl) (by kernel_rfl) (by kernel_rfl) (fun _ _ _ h => h) (Or.inr ⟨by rfl, rfl⟩) KP.out ?_
        (try simp only [Act.put, List.setIfInBounds_toArray, List.set_cons_zero, List.set_cons_succ])
        refine wpAnyT_take (i := 13) (oi := { dst := some 25, op := Op.load 2 (Operand.tmp 24), type := 2, pos := "state.go:126", after := #[{ on := 12, ground := Ground.data }, { on := 5, ground := Ground.guard }], guard := some (5, true) }) (v := undef) [14, 15, 16] rfl (by kernel_rfl) (by kernel_rfl) (by kernel_rfl) (by kernel_rfl) (fun _ _ _ h => h) (Or.inr ⟨by rfl, rfl⟩) KP.out ?_
        (try simp only [Act.put, List.setIfInBounds_toArray, List.set_cons_zero, List.set_cons_succ])
        refine wpAnyT_take (i := 14) (oi := { dst := some 26, op := Op.binOp BinOp.leq 2 (Operand.tmp 21) (Operand.tmp 25) 2, type := 4, pos := "state.go:126", after := #[{ on := 9, ground := Ground.data }, { on := 13, ground := Ground.data }, { on := 5, ground := Ground.guard }], guard := some (5, true) }) (v := undef) [15, 16] rfl (by kernel_rfl) (by kernel_rfl) (by kernel_rfl) (by kernel_rfl) (fun _ _ _ h => h) (Or.inr ⟨by rfl, rfl⟩) KP.out ?_
        (try simp only [Act.put, List.setIfInBounds_toArray, List.set_cons_zero, List.set_cons_succ])
        refine wpAnyT_take (i := 15) (oi := { dst := some 27, op := Op.pick (Operand.tmp 17) (Operand.tmp 26) (Operand.const (Value.bool false)), type := 4, pos := "state.go:126", after := #[{ on := 5, ground := Ground.data }, { on := 14, ground := Ground.data }], guard := none }) (v := .bool false) [16] rfl (by kernel_rfl) (by kernel_rfl) (by kernel_rfl) (by kernel_rfl) (fun _ _ _ h => h) (Or.inl ⟨by rfl, ?_⟩) KP.out ?_
        · intro wq hSw
          obtain ⟨y0, y1, y2⟩ := hSw
          go_simp
        (try simp only [Act.put, List.setIfInBounds_toArray, List.set_cons_zero, List.set_cons_succ])
        refine wpAnyT_one (i := 16) (o := { dst := some 28, op := Op.call { callee := Callee.value (Operand.func 34), args := #[Operand.tmp 27], argTypes := #[4] }, type := 0, pos := "state.go:126", after := #[{ on := 15, ground := Ground.data }, { on := 5, ground := Ground.chain }], guard := none }) (by kernel_rfl) rfl (fun K hK => ?_)
        go_simp
        go_at_call 34
        refine (must_no _).mono ?_
        rintro e w' ⟨rfl, hw⟩
        rw [hw]
        clear hw w'
        exact ⟨rfl, Goes.none SQ.out.2⟩
    · rw [if_neg h0]
      have g0 : (re == 0) = false := by simpa using h0
      by_cases h4 : re = 40
      · subst h4
        rw [if_pos rfl]
        go_enter Try.func39, Try.ntmps39
        go_upto_region 1 with fail
        rw [hw1.out, hpA.out]
        go_wp2_with (first
          | (go_at_call 37; refine (BR.out _).mono ?_; rintro e w2 ⟨rfl, B2⟩; obtain ⟨s2, g2, x0⟩ := OUT.out w2 B2; obtain ⟨v, -, c0, c1, c2, c3, c4, c5, c6, c7, z⟩ := s2.open; have z6 := z 6; have FIN : Hid (Goes sb w (some { m with fa := true }) (.returned (.tuple #[])) (w2.setCell ⟨sb, 6, none⟩ (.bool true))) := hide (Goes.some (g2.trans (but_set _ _ _ _)) (s2.setFa true)); clear z s2 g2)
          | (go_at_call 34; refine (must_yes _).mono ?_; rintro e w' ⟨rfl, hw⟩; rw [hw]; clear hw w'))
        first | go_end0 | refine bodyPost_ret (results_none rfl _ _ _) rfl ?_
        exact FIN.out
      · rw [if_neg h4]
        have g4 : (re == 40) = false := by simpa using h4
        go_enter Try.func39, Try.ntmps39
        go_upto_region 1 with fail
        rw [hw1.out, hpA.out]
        go_upto_region 3 with (first
          | (go_at_call 37; refine (BR.out _).mono ?_; rintro e w2 ⟨rfl, B2⟩; obtain ⟨s2, g2, x0⟩ := OUT.out w2 B2; obtain ⟨v, -, c0, c1, c2, c3, c4, c5, c6, c7, z⟩ := s2.open; have z6 := z 6; have z7 := z 7; replace s2 := hide s2; replace g2 := hide g2; clear z)
          | (go_at_call 34; refine (must_yes _).mono ?_; rintro e w' ⟨rfl, hw⟩; rw [hw]; clear hw w'))
        go_wp2_with (go_at_call 34; refine (must_no _).mono ?_; rintro e w' ⟨rfl, hw⟩; rw [hw]; clear hw w')
        exact ⟨rfl, Goes.none g2.out⟩
theorem close_any (w : World) {sb : Nat} {m : Md} (h : St sb w m) (r : Rs) (ao : Option Addr) (ca : Nat) :
    Calls Try.prog 42 #[.pointer (some ⟨sb, 0, none⟩), .agg #[.int .i64 r.e, .int .i64 r.n, .slice ao r.d.length ca]] w fun e w' => Goes sb w (closeS m r) e w' := by
  obtain ⟨re, rn, d⟩ := r
  obtain ⟨L, hL⟩ : ∃ L : Nat, Hid (d.length = L) := ⟨_, rfl⟩
  simp only [hL.out]
  have B1 := box_below w (.cells #[.int .i64 re, .int .i64 rn, .slice ao L ca] 35)
  have N1 := heap_alloc_new w (.cells #[.int .i64 re, .int .i64 rn, .slice ao L ca] 35)
  have BR : Hid (∀ q, Calls Try.prog 37 #[.agg #[.int .i64 re, .int .i64 rn, .slice ao L ca]] q fun e w' => e = .returned (.bool (bareB ⟨re, rn, d⟩)) ∧ Below q.heap.size q w') := hide (by
    intro q
    have := bare_any q ⟨re, rn, d⟩ ao ca
    simp only [hL.out] at this
    exact this)
  have SS : Hid (syncS m ⟨re, rn, d⟩ = if bareB ⟨re, rn, d⟩ = true then
    if re = 0 then (if m.fa = false ∧ m.nx ≤ m.li then some m else none)
    else if re = 40 then some { m with fa := true } else none
  else none) := hide rfl
  have SC : Hid (closeS m ⟨re, rn, d⟩ = (syncS m ⟨re, rn, d⟩).map (fun m => { m with cl := true })) := hide rfl
  rw [SC.out]
  obtain ⟨pA, hpA⟩ : ∃ pA, Hid (w.heap.size = pA) := ⟨_, rfl⟩
  obtain ⟨w1, hw1⟩ : ∃ w1, Hid (w.alloc (.cells #[.int .i64 re, .int .i64 rn, .slice ao L ca] 35) = w1) := ⟨_, rfl⟩
  rw [hw1.out] at B1 N1
  rw [hpA.out] at N1
  have p0 := cell_of (off := 0) N1
  have p1 := cell_of (off := 1) N1
  have p2 := cell_of (off := 2) N1
  simp only [List.getElem?_toArray, List.getElem?_cons_zero, List.getElem?_cons_succ] at p0 p1 p2
  have hlt := heap_lt N1
  have OUT : Hid (∀ q, Below w1.heap.size w1 q → St sb q m ∧ But (fun k => k = sb) w q ∧ q.cell? ⟨pA, 0, none⟩ = some (.int .i64 re)) := hide (fun q hq => by
    have hB : Below w.heap.size w q := B1.trans ⟨hq.os, hq.tape, hq.output, hq.size, fun k hk => hq.block k (Nat.lt_of_lt_of_le hk B1.size)⟩
    exact ⟨h.below hB, But.of_below hB _, by rw [hq.cell (p := ⟨pA, 0, none⟩) hlt]; exact p0⟩)
  clear B1 h hL
  rw [SS.out]
  obtain ⟨bb, hbb⟩ : ∃ bb, Hid (bareB ⟨re, rn, d⟩ = bb) := ⟨_, rfl⟩
  rw [hbb.out] at BR ⊢
  cases bb with
  | false =>
    rw [if_neg (by simp)]
    rw [Option.map_none]
    go_enter Try.func42, Try.ntmps42
    go_upto_region 1 with fail
    rw [hw1.out, hpA.out]
    go_wp2_with (first
      | (go_at_call 37; refine (BR.out _).mono ?_; rintro e w2 ⟨rfl, B2⟩; obtain ⟨s2, g2, x0⟩ := OUT.out w2 B2; obtain ⟨v, -, c0, c1, c2, c3, c4, c5, c6, c7, z⟩ := s2.open; have z6 := z 6; have z7 := z 7; replace s2 := hide s2; replace g2 := hide g2; clear z)
      | (go_at_call 34; refine (must_no _).mono ?_; rintro e w' ⟨rfl, hw⟩; rw [hw]; clear hw w'))
    exact ⟨rfl, Goes.none g2.out⟩
  | true =>
    rw [if_pos rfl]
    by_cases h0 : re = 0
    · subst h0
      rw [if_pos rfl]
      by_cases hf : m.fa = false
      · by_cases hn : m.nx ≤ m.li
        · rw [if_pos ⟨hf, hn⟩]
          rw [Option.map_some]
          go_enter Try.func42, Try.ntmps42
          go_upto_region 1 with fail
          rw [hw1.out, hpA.out]
          go_upto_region 5 with (first
            | (go_at_call 37; refine (BR.out _).mono ?_; rintro e w2 ⟨rfl, B2⟩; obtain ⟨s2, g2, x0⟩ := OUT.out w2 B2; obtain ⟨v, -, c0, c1, c2, c3, c4, c5, c6, c7, z⟩ := s2.open; have z6 := z 6; have z7 := z 7; replace s2 := hide s2; replace g2 := hide g2; clear z)
            | (go_at_call 34; refine (must_yes _).mono ?_; rintro e w' ⟨rfl, hw⟩; rw [hw]; clear hw w'))
          have KP : Hid (w2.drew.cell? ⟨sb, 6, none⟩ = some (.bool false) ∧ w2.drew.cell? ⟨sb, 3, none⟩ = some (.int .i64 m.nx) ∧ w2.drew.cell? ⟨sb, 4, none⟩ = some (.int .i64 m.li)) := hide ⟨by rw [hf] at c6; exact c6, c3, c4⟩
          have DQ : Below w2.heap.size w2 w2.drew := (Below.refl _ _).drew
          have SQ : Hid (St sb w2.drew m ∧ But (fun k => k = sb) w w2.drew) := hide ⟨s2.out.below DQ, g2.out.trans (But.of_below DQ _)⟩
          clear DQ s2 g2 c0 c1 c2 c3 c4 c5 c6 c7 z6 z7 x0 B2
          refine wp_region_T (fun q => q.cell? ⟨sb, 6, none⟩ = some (.bool false) ∧ q.cell? ⟨sb, 3, none⟩ = some (.int .i64 m.nx) ∧ q.cell? ⟨sb, 4, none⟩ = some (.int .i64 m.li)) 16 (by kernel_rfl) ?_
          generalize w2.drew = q at *
          refine wpAnyT_take (i := 0) (oi := { dst := some 12, op := Op.move (Operand.tmp 0), type := 47, pos := "state.go:215", after := #[], guard := none }) (v := .pointer (some ⟨sb, 0, none⟩)) [1, 2, 3, 4, 5, 15, 16] rfl (by kernel_rfl) (by kernel_rfl) (by kernel_rfl) (by kernel_rfl) (fun _ _ _ h => h) (Or.inl ⟨by rfl, ?_⟩) KP.out ?_
          · intro wq hSw
            obtain ⟨y0, y1, y2⟩ := hSw
            go_simp
          (try simp only [Act.put, List.setIfInBounds_toArray, List.set_cons_zero, List.set_cons_succ])
          refine wpAnyT_take (i := 1) (oi := { dst := some 13, op := Op.nilCheck (Operand.tmp 12), type := 0, pos := "state.go:215", after := #[{ on := 0, ground := Ground.data }], guard := none }) (v := .pointer (some ⟨sb, 0, none⟩)) [2, 3, 4, 5, 15, 16] rfl (by kernel_rfl) (by kernel_rfl) (by kernel_rfl) (by kernel_rfl) (fun _ _ _ h => h) (Or.inl ⟨by rfl, ?_⟩) KP.out ?_
          · intro wq hSw
            obtain ⟨y0, y1, y2⟩ := hSw
            go_simp
          (try simp only [Act.put, List.setIfInBounds_toArray, List.set_cons_zero, List.set_cons_succ])
          refine wpAnyT_take (i := 2) (oi := { dst := some 14, op := Op.fieldAddr 58 (Operand.tmp 13) 6, type := 0, pos := "state.go:215", after := #[{ on := 1, ground := Ground.data }], guard := none }) (v := .pointer (some ⟨sb, 6, none⟩)) [3, 4, 5, 15, 16] rfl (by kernel_rfl) (by kernel_rfl) (by kernel_rfl) (by kernel_rfl) (fun _ _ _ h => h) (Or.inl ⟨by rfl, ?_⟩) KP.out ?_
          · intro wq hSw
            obtain ⟨y0, y1, y2⟩ := hSw
            go_simp
          (try simp only [Act.put, List.setIfInBounds_toArray, List.set_cons_zero, List.set_cons_succ])
          refine wpAnyT_take (i := 3) (oi := { dst := some 15, op := Op.load 4 (Operand.tmp 14), type := 4, pos := "state.go:215", after := #[{ on := 2, ground := Ground.data }], guard := none }) (v := .bool false) [4, 5, 15, 16] rfl (by kernel_rfl) (by kernel_rfl) (by kernel_rfl) (by kernel_rfl) (fun _ _ _ h => h) (Or.inl ⟨by rfl, ?_⟩) KP.out ?_
          · intro wq hSw
            obtain ⟨y0, y1, y2⟩ := hSw
            go_simp
          (try simp only [Act.put, List.setIfInBounds_toArray, List.set_cons_zero, List.set_cons_succ])
          refine wpAnyT_take (i := 4) (oi := { dst := some 16, op := Op.unOp UnOp.not 4 (Operand.tmp 15), type := 4, pos := "state.go:215", after := #[{ on := 3, ground := Ground.data }], guard := none }) (v := .bool true) [5, 15, 16] rfl (by kernel_rfl) (by kernel_rfl) (by kernel_rfl) (by kernel_rfl) (fun _ _ _ h => h) (Or.inl ⟨by rfl, ?_⟩) KP.out ?_
          · intro wq hSw
            obtain ⟨y0, y1, y2⟩ := hSw
            go_simp
          (try simp only [Act.put, List.setIfInBounds_toArray, List.set_cons_zero, List.set_cons_succ])
          refine wpAnyT_take (i := 5) (oi := { dst := some 17, op := Op.move (Operand.tmp 16), type := 4, pos := "state.go:215", after := #[{ on := 4, ground := Ground.data }], guard := none }) (v := .bool true) [15, 16] rfl (by kernel_rfl) (by kernel_rfl) (by kernel_rfl) (by kernel_rfl) (fun _ _ _ h => h) (Or.inl ⟨by rfl, ?_⟩) KP.out ?_
          · intro wq hSw
            obtain ⟨y0, y1, y2⟩ := hSw
            go_simp
          (try simp only [Act.put, List.setIfInBounds_toArray, List.set_cons_zero, List.set_cons_succ])
          refine wpAnyT_take (i := 6) (oi := { dst := some 18, op := Op.move (Operand.tmp 0), type := 47, pos := "state.go:215", after := #[{ on := 5, ground := Ground.guard }], guard := some (5, true) }) (v := .pointer (some ⟨sb, 0, none⟩)) [7, 8, 9, 14, 15, 16] rfl (by kernel_rfl) (by kernel_rfl) (by kernel_rfl) (by kernel_rfl) (fun _ _ _ h => h) (Or.inl ⟨by rfl, ?_⟩) KP.out ?_
          · intro wq hSw
            obtain ⟨y0, y1, y2⟩ := hSw
            go_simp
          (try simp only [Act.put, List.setIfInBounds_toArray, List.set_cons_zero, List.set_cons_succ])
          refine wpAnyT_take (i := 7) (oi := { dst := some 19, op := Op.nilCheck (Operand.tmp 18), type := 0, pos := "state.go:215", after := #[{ on := 6, ground := Ground.data }, { on := 5, ground := Ground.guard }], guard := some (5, true) }) (v := .pointer (some ⟨sb, 0, none⟩)) [8, 9, 14, 15, 16] rfl (by kernel_rfl) (by kernel_rfl) (by kernel_rfl) (by kernel_rfl) (fun _ _ _ h => h) (Or.inl ⟨by rfl, ?_⟩) KP.out ?_
          · intro wq hSw
            obtain ⟨y0, y1, y2⟩ := hSw
            go_simp
          (try simp only [Act.put, List.setIfInBounds_toArray, List.set_cons_zero, List.set_cons_succ])
          refine wpAnyT_take (i := 8) (oi := { dst := some 20, op := Op.fieldAddr 58 (Operand.tmp 19) 3, type := 0, pos := "state.go:215", after := #[{ on := 7, ground := Ground.data }, { on := 5, ground := Ground.guard }], guard := some (5, true) }) (v := .pointer (some ⟨sb, 3, none⟩)) [9, 14, 15, 16] rfl (by kernel_rfl) (by kernel_rfl) (by kernel_rfl) (by kernel_rfl) (fun _ _ _ h => h) (Or.inl ⟨by rfl, ?_⟩) KP.out ?_
          · intro wq hSw
            obtain ⟨y0, y1, y2⟩ := hSw
            go_simp
          (try simp only [Act.put, List.setIfInBounds_toArray, List.set_cons_zero, List.set_cons_succ])
          refine wpAnyT_take (i := 9) (oi := { dst := some 21, op := Op.load 2 (Operand.tmp 20), type := 2, pos := "state.go:215", after := #[{ on := 8, ground := Ground.data }, { on := 5, ground := Ground.guard }], guard := some (5, true) }) (v := .int .i64 m.nx) [14, 15, 16] rfl (by kernel_rfl) (by kernel_rfl) (by kernel_rfl) (by kernel_rfl) (fun _ _ _ h => h) (Or.inl ⟨by rfl, ?_⟩) KP.out ?_
          · intro wq hSw
            obtain ⟨y0, y1, y2⟩ := hSw
            go_simp
          (try simp only [Act.put, List.setIfInBounds_toArray, List.set_cons_zero, List.set_cons_succ])
          refine wpAnyT_take (i := 10) (oi := { dst := some 22, op := Op.move (Operand.tmp 0), type := 47, pos := "state.go:215", after := #[{ on := 5, ground := Ground.guard }], guard := some (5, true) }) (v := .pointer (some ⟨sb, 0, none⟩)) [11, 12, 13, 14, 15, 16] rfl (by kernel_rfl) (by kernel_rfl) (by kernel_rfl) (by kernel_rfl) (fun _ _ _ h => h) (Or.inl ⟨by rfl, ?_⟩) KP.out ?_
          · intro wq hSw
            obtain ⟨y0, y1, y2⟩ := hSw
            go_simp
          (try simp only [Act.put, List.setIfInBounds_toArray, List.set_cons_zero, List.set_cons_succ])
          refine wpAnyT_take (i := 11) (oi := { dst := some 23, op := Op.nilCheck (Operand.tmp 22), type := 0, pos := "state.go:215", after := #[{ on := 10, ground := Ground.data }, { on := 5, ground := Ground.guard }], guard := some (5, true) }) (v := .pointer (some ⟨sb, 0, none⟩)) [12, 13, 14, 15, 16] rfl (by kernel_rfl) (by kernel_rfl) (by kernel_rfl) (by kernel_rfl) (fun _ _ _ h => h) (Or.inl ⟨by rfl, ?_⟩) KP.out ?_
          · intro wq hSw
            obtain ⟨y0, y1, y2⟩ := hSw
            go_simp
          (try simp only [Act.put, List.setIfInBounds_toArray, List.set_cons_zero, List.set_cons_succ])
          refine wpAnyT_take (i := 12) (oi := { dst := some 24, op := Op.fieldAddr 58 (Operand.tmp 23) 4, type := 0, pos := "state.go:215", after := #[{ on := 11, ground := Ground.data }, { on := 5, ground := Ground.guard }], guard := some (5, true) }) (v := .pointer (some ⟨sb, 4, none⟩)) [13, 14, 15, 16] rfl (by kernel_rfl) (by kernel_rfl) (by kernel_rfl) (by kernel_rfl) (fun _ _ _ h => h) (Or.inl ⟨by rfl, ?_⟩) KP.out ?_
          · intro wq hSw
            obtain ⟨y0, y1, y2⟩ := hSw
            go_simp
          (try simp only [Act.put, List.setIfInBounds_toArray, List.set_cons_zero, List.set_cons_succ])
          refine wpAnyT_take (i := 13) (oi := { dst := some 25, op := Op.load 2 (Operand.tmp 24), type := 2, pos := "state.go:215", after := #[{ on := 12, ground := Ground.data }, { on := 5, ground := Ground.guard }], guard := some (5, true) }) (v := .int .i64 m.li) [14, 15, 16] rfl (by kernel_rfl) (by kernel_rfl) (by kernel_rfl) (by kernel_rfl) (fun _ _ _ h => h) (Or.inl ⟨by rfl, ?_⟩) KP.out ?_
          · intro wq hSw
            obtain ⟨y0, y1, y2⟩ := hSw
            go_simp
          (try simp only [Act.put, List.setIfInBounds_toArray, List.set_cons_zero, List.set_cons_succ])
          refine wpAnyT_take (i := 14) (oi := { dst := some 26, op := Op.binOp BinOp.leq 2 (Operand.tmp 21) (Operand.tmp 25) 2, type := 4, pos := "state.go:215", after := #[{ on := 9, ground := Ground.data }, { on := 13, ground := Ground.data }, { on := 5, ground := Ground.guard }], guard := some (5, true) }) (v := .bool true) [15, 16] rfl (by kernel_rfl) (by kernel_rfl) (by kernel_rfl) (by kernel_rfl) (fun _ _ _ h => h) (Or.inl ⟨by rfl, ?_⟩) KP.out ?_
          · intro wq hSw
            obtain ⟨y0, y1, y2⟩ := hSw
            go_simp
          (try simp only [Act.put, List.setIfInBounds_toArray, List.set_cons_zero, List.set_cons_succ])
          refine wpAnyT_take (i := 15) (oi := { dst := some 27, op := Op.pick (Operand.tmp 17) (Operand.tmp 26) (Operand.const (Value.bool false)), type := 4, pos := "state.go:215", after := #[{ on := 5, ground := Ground.data }, { on := 14, ground := Ground.data }], guard := none }) (v := .bool true) [16] rfl (by kernel_rfl) (by kernel_rfl) (by kernel_rfl) (by kernel_rfl) (fun _ _ _ h => h) (Or.inl ⟨by rfl, ?_⟩) KP.out ?_
          · intro wq hSw
            obtain ⟨y0, y1, y2⟩ := hSw
            go_simp
          (try simp only [Act.put, List.setIfInBounds_toArray, List.set_cons_zero, List.set_cons_succ])
          refine wpAnyT_one (i := 16) (o := { dst := some 28, op := Op.call { callee := Callee.value (Operand.func 34), args := #[Operand.tmp 27], argTypes := #[4] }, type := 0, pos := "state.go:215", after := #[{ on := 15, ground := Ground.data }, { on := 5, ground := Ground.chain }], guard := none }) (by kernel_rfl) rfl (fun K hK => ?_)
          go_simp
          go_at_call 34
          refine (must_yes _).mono ?_
          rintro e w' ⟨rfl, hw⟩
          rw [hw]
          clear hw w'
          refine hK.out _ _ (vac (by kernel_rfl)) ?_
          clear hK K
          refine wpAnyT_done (by kernel_rfl) ?_ _
          have FIN : Hid (Goes sb w (some { m with cl := true }) (.returned (.tuple #[])) (q.setCell ⟨sb, 7, none⟩ (.bool true))) := hide (Goes.some (SQ.out.2.trans (but_set _ _ _ _)) (SQ.out.1.setCl true))
          obtain ⟨v9, -, -, -, -, -, -, -, -, e7, ez⟩ := SQ.out.1.open
          have ez7 := ez 7
          clear ez
          go_wp2_with fail
          first | go_end0 | refine bodyPost_ret (results_none rfl _ _ _) rfl ?_
          exact FIN.out
        · rw [if_neg (fun c => hn c.2)]
          rw [Option.map_none]
          have kn : decide (m.nx ≤ m.li) = false := by simp; omega
          go_enter Try.func42, Try.ntmps42
          go_upto_region 1 with fail
          rw [hw1.out, hpA.out]
          go_upto_region 5 with (first
            | (go_at_call 37; refine (BR.out _).mono ?_; rintro e w2 ⟨rfl, B2⟩; obtain ⟨s2, g2, x0⟩ := OUT.out w2 B2; obtain ⟨v, -, c0, c1, c2, c3, c4, c5, c6, c7, z⟩ := s2.open; have z6 := z 6; have z7 := z 7; replace s2 := hide s2; replace g2 := hide g2; clear z)
            | (go_at_call 34; refine (must_yes _).mono ?_; rintro e w' ⟨rfl, hw⟩; rw [hw]; clear hw w'))
          have KP : Hid (w2.drew.cell? ⟨sb, 6, none⟩ = some (.bool false) ∧ w2.drew.cell? ⟨sb, 3, none⟩ = some (.int .i64 m.nx) ∧ w2.drew.cell? ⟨sb, 4, none⟩ = some (.int .i64 m.li)) := hide ⟨by rw [hf] at c6; exact c6, c3, c4⟩
          have DQ : Below w2.heap.size w2 w2.drew := (Below.refl _ _).drew
          have SQ : Hid (St sb w2.drew m ∧ But (fun k => k = sb) w w2.drew) := hide ⟨s2.out.below DQ, g2.out.trans (But.of_below DQ _)⟩
          clear DQ s2 g2 c0 c1 c2 c3 c4 c5 c6 c7 z6 z7 x0 B2
          refine wp_region_T (fun q => q.cell? ⟨sb, 6, none⟩ = some (.bool false) ∧ q.cell? ⟨sb, 3, none⟩ = some (.int .i64 m.nx) ∧ q.cell? ⟨sb, 4, none⟩ = some (.int .i64 m.li)) 16 (by kernel_rfl) ?_
          generalize w2.drew = q at *
          refine wpAnyT_take (i := 0) (oi := { dst := some 12, op := Op.move (Operand.tmp 0), type := 47, pos := "state.go:215", after := #[], guard := none }) (v := .pointer (some ⟨sb, 0, none⟩)) [1, 2, 3, 4, 5, 15, 16] rfl (by kernel_rfl) (by kernel_rfl) (by kernel_rfl) (by kernel_rfl) (fun _ _ _ h => h) (Or.inl ⟨by rfl, ?_⟩) KP.out ?_
          · intro wq hSw
            obtain ⟨y0, y1, y2⟩ := hSw
            go_simp
          (try simp only [Act.put, List.setIfInBounds_toArray, List.set_cons_zero, List.set_cons_succ])
          refine wpAnyT_take (i := 1) (oi := { dst := some 13, op := Op.nilCheck (Operand.tmp 12), type := 0, pos := "state.go:215", after := #[{ on := 0, ground := Ground.data }], guard := none }) (v := .pointer (some ⟨sb, 0, none⟩)) [2, 3, 4, 5, 15, 16] rfl (by kernel_rfl) (by kernel_rfl) (by kernel_rfl) (by kernel_rfl) (fun _ _ _ h => h) (Or.inl ⟨by rfl, ?_⟩) KP.out ?_
          · intro wq hSw
            obtain ⟨y0, y1, y2⟩ := hSw
            go_simp
          (try simp only [Act.put, List.setIfInBounds_toArray, List.set_cons_zero, List.set_cons_succ])
          refine wpAnyT_take (i := 2) (oi := { dst := some 14, op := Op.fieldAddr 58 (Operand.tmp 13) 6, type := 0, pos := "state.go:215", after := #[{ on := 1, ground := Ground.data }], guard := none }) (v := .pointer (some ⟨sb, 6, none⟩)) [3, 4, 5, 15, 16] rfl (by kernel_rfl) (by kernel_rfl) (by kernel_rfl) (by kernel_rfl) (fun _ _ _ h => h) (Or.inl ⟨by rfl, ?_⟩) KP.out ?_
          · intro wq hSw
            obtain ⟨y0, y1, y2⟩ := hSw
            go_simp
          (try simp only [Act.put, List.setIfInBounds_toArray, List.set_cons_zero, List.set_cons_succ])
          refine wpAnyT_take (i := 3) (oi := { dst := some 15, op := Op.load 4 (Operand.tmp 14), type := 4, pos := "state.go:215", after := #[{ on := 2, ground := Ground.data }], guard := none }) (v := .bool false) [4, 5, 15, 16] rfl (by kernel_rfl) (by kernel_rfl) (by kernel_rfl) (by kernel_rfl) (fun _ _ _ h => h) (Or.inl ⟨by rfl, ?_⟩) KP.out ?_
          · intro wq hSw
            obtain ⟨y0, y1, y2⟩ := hSw
            go_simp
          (try simp only [Act.put, List.setIfInBounds_toArray, List.set_cons_zero, List.set_cons_succ])
          refine wpAnyT_take (i := 4) (oi := { dst := some 16, op := Op.unOp UnOp.not 4 (Operand.tmp 15), type := 4, pos := "state.go:215", after := #[{ on := 3, ground := Ground.data }], guard := none }) (v := .bool true) [5, 15, 16] rfl (by kernel_rfl) (by kernel_rfl) (by kernel_rfl) (by kernel_rfl) (fun _ _ _ h => h) (Or.inl ⟨by rfl, ?_⟩) KP.out ?_
          · intro wq hSw
            obtain ⟨y0, y1, y2⟩ := hSw
            go_simp
          (try simp only [Act.put, List.setIfInBounds_toArray, List.set_cons_zero, List.set_cons_succ])
          refine wpAnyT_take (i := 5) (oi := { dst := some 17, op := Op.move (Operand.tmp 16), type := 4, pos := "state.go:215", after := #[{ on := 4, ground := Ground.data }], guard := none }) (v := .bool true) [15, 16] rfl (by kernel_rfl) (by kernel_rfl) (by kernel_rfl) (by kernel_rfl) (fun _ _ _ h => h) (Or.inl ⟨by rfl, ?_⟩) KP.out ?_
          · intro wq hSw
            obtain ⟨y0, y1, y2⟩ := hSw
            go_simp
          (try simp only [Act.put, List.setIfInBounds_toArray, List.set_cons_zero, List.set_cons_succ])
          refine wpAnyT_take (i := 6) (oi := { dst := some 18, op := Op.move (Operand.tmp 0), type := 47, pos := "state.go:215", after := #[{ on := 5, ground := Ground.guard }], guard := some (5, true) }) (v := .pointer (some ⟨sb, 0, none⟩)) [7, 8, 9, 14, 15, 16] rfl (by kernel_rfl) (by kernel_rfl) (by kernel_rfl) (by kernel_rfl) (fun _ _ _ h => h) (Or.inl ⟨by rfl, ?_⟩) KP.out ?_
          · intro wq hSw
            obtain ⟨y0, y1, y2⟩ := hSw
            go_simp
          (try simp only [Act.put, List.setIfInBounds_toArray, List.set_cons_zero, List.set_cons_succ])
          refine wpAnyT_take (i := 7) (oi := { dst := some 19, op := Op.nilCheck (Operand.tmp 18), type := 0, pos := "state.go:215", after := #[{ on := 6, ground := Ground.data }, { on := 5, ground := Ground.guard }], guard := some (5, true) }) (v := .pointer (some ⟨sb, 0, none⟩)) [8, 9, 14, 15, 16] rfl (by kernel_rfl) (by kernel_rfl) (by kernel_rfl) (by kernel_rfl) (fun _ _ _ h => h) (Or.inl ⟨by rfl, ?_⟩) KP.out ?_
          · intro wq hSw
            obtain ⟨y0, y1, y2⟩ := hSw
            go_simp
          (try simp only [Act.put, List.setIfInBounds_toArray, List.set_cons_zero, List.set_cons_succ])
          refine wpAnyT_take (i := 8) (oi := { dst := some 20, op := Op.fieldAddr 58 (Operand.tmp 19) 3, type := 0, pos := "state.go:215", after := #[{ on := 7, ground := Ground.data }, { on := 5, ground := Ground.guard }], guard := some (5, true) }) (v := .pointer (some ⟨sb, 3, none⟩)) [9, 14, 15, 16] rfl (by kernel_rfl) (by kernel_rfl) (by kernel_rfl) (by kernel_rfl) (fun _ _ _ h => h) (Or.inl ⟨by rfl, ?_⟩) KP.out ?_
          · intro wq hSw
            obtain ⟨y0, y1, y2⟩ := hSw
            go_simp
          (try simp only [Act.put, List.setIfInBounds_toArray, List.set_cons_zero, List.set_cons_succ])
          refine wpAnyT_take (i := 9) (oi := { dst := some 21, op := Op.load 2 (Operand.tmp 20), type := 2, pos := "state.go:215", after := #[{ on := 8, ground := Ground.data }, { on := 5, ground := Ground.guard }], guard := some (5, true) }) (v := .int .i64 m.nx) [14, 15, 16] rfl (by kernel_rfl) (by kernel_rfl) (by kernel_rfl) (by kernel_rfl) (fun _ _ _ h => h) (Or.inl ⟨by rfl, ?_⟩) KP.out ?_
          · intro wq hSw
            obtain ⟨y0, y1, y2⟩ := hSw
            go_simp
          (try simp only [Act.put, List.setIfInBounds_toArray, List.set_cons_zero, List.set_cons_succ])
          refine wpAnyT_take (i := 10) (oi := { dst := some 22, op := Op.move (Operand.tmp 0), type := 47, pos := "state.go:215", after := #[{ on := 5, ground := Ground.guard }], guard := some (5, true) }) (v := .pointer (some ⟨sb, 0, none⟩)) [11, 12, 13, 14, 15, 16] rfl (by kernel_rfl) (by kernel_rfl) (by kernel_rfl) (by kernel_rfl) (fun _ _ _ h => h) (Or.inl ⟨by rfl, ?_⟩) KP.out ?_
          · intro wq hSw
            obtain ⟨y0, y1, y2⟩ := hSw
            go_simp
          (try simp only [Act.put, List.setIfInBounds_toArray, List.set_cons_zero, List.set_cons_succ])
          refine wpAnyT_take (i := 11) (oi := { dst := some 23, op := Op.nilCheck (Operand.tmp 22), type := 0, pos := "state.go:215", after := #[{ on := 10, ground := Ground.data }, { on := 5, ground := Ground.guard }], guard := some (5, true) }) (v := .pointer (some ⟨sb, 0, none⟩)) [12, 13, 14, 15, 16] rfl (by kernel_rfl) (by kernel_rfl) (by kernel_rfl) (by kernel_rfl) (fun _ _ _ h => h) (Or.inl ⟨by rfl, ?_⟩) KP.out ?_
          · intro wq hSw
            obtain ⟨y0, y1, y2⟩ := hSw
            go_simp
          (try simp only [Act.put, List.setIfInBounds_toArray, List.set_cons_zero, List.set_cons_succ])
          refine wpAnyT_take (i := 12) (oi := { dst := some 24, op := Op.fieldAddr 58 (Operand.tmp 23) 4, type := 0, pos := "state.go:215", after := #[{ on := 11, ground := Ground.data }, { on := 5, ground := Ground.guard }], guard := some (5, true) }) (v := .pointer (some ⟨sb, 4, none⟩)) [13, 14, 15, 16] rfl (by kernel_rfl) (by kernel_rfl) (by kernel_rfl) (by kernel_rfl) (fun _ _ _ h => h) (Or.inl ⟨by rfl, ?_⟩) KP.out ?_
          · intro wq hSw
            obtain ⟨y0, y1, y2⟩ := hSw
            go_simp
          (try simp only [Act.put, List.setIfInBounds_toArray, List.set_cons_zero, List.set_cons_succ])
          refine wpAnyT_take (i := 13) (oi := { dst := some 25, op := Op.load 2 (Operand.tmp 24), type := 2, pos := "state.go:215", after := #[{ on := 12, ground := Ground.data }, { on := 5, ground := Ground.guard }], guard := some (5, true) }) (v := .int .i64 m.li) [14, 15, 16] rfl (by kernel_rfl) (by kernel_rfl) (by kernel_rfl) (by kernel_rfl) (fun _ _ _ h => h) (Or.inl ⟨by rfl, ?_⟩) KP.out ?_
          · intro wq hSw
            obtain ⟨y0, y1, y2⟩ := hSw
            go_simp
          (try simp only [Act.put, List.setIfInBounds_toArray, List.set_cons_zero, List.set_cons_succ])
          refine wpAnyT_take (i := 14) (oi := { dst := some 26, op := Op.binOp BinOp.leq 2 (Operand.tmp 21) (Operand.tmp 25) 2, type := 4, pos := "state.go:215", after := #[{ on := 9, ground := Ground.data }, { on := 13, ground := Ground.data }, { on := 5, ground := Ground.guard }], guard := some (5, true) }) (v := .bool false) [15, 16] rfl (by kernel_rfl) (by kernel_rfl) (by kernel_rfl) (by kernel_rfl) (fun _ _ _ h => h) (Or.inl ⟨by rfl, ?_⟩) KP.out ?_
          · intro wq hSw
            obtain ⟨y0, y1, y2⟩ := hSw
            go_simp
          (try simp only [Act.put, List.setIfInBounds_toArray, List.set_cons_zero, List.set_cons_succ])
          refine wpAnyT_take (i := 15) (oi := { dst := some 27, op := Op.pick (Operand.tmp 17) (Operand.tmp 26) (Operand.const (Value.bool false)), type := 4, pos := "state.go:215", after := #[{ on := 5, ground := Ground.data }, { on := 14, ground := Ground.data }], guard := none }) (v := .bool false) [16] rfl (by kernel_rfl) (by kernel_rfl) (by kernel_rfl) (by kernel_rfl) (fun _ _ _ h => h) (Or.inl ⟨by rfl, ?_⟩) KP.out ?_
          · intro wq hSw
            obtain ⟨y0, y1, y2⟩ := hSw
            go_simp
          (try simp only [Act.put, List.setIfInBounds_toArray, List.set_cons_zero, List.set_cons_succ])
          refine wpAnyT_one (i := 16) (o := { dst := some 28, op := Op.call { callee := Callee.value (Operand.func 34), args := #[Operand.tmp 27], argTypes := #[4] }, type := 0, pos := "state.go:215", after := #[{ on := 15, ground := Ground.data }, { on := 5, ground := Ground.chain }], guard := none }) (by kernel_rfl) rfl (fun K hK => ?_)
          go_simp
          go_at_call 34
          refine (must_no _).mono ?_
          rintro e w' ⟨rfl, hw⟩
          rw [hw]
          clear hw w'
          exact ⟨rfl, Goes.none SQ.out.2⟩
      · rw [if_neg (fun c => hf c.1)]
        rw [Option.map_none]
        have hf' : m.fa = true := by simpa using hf
        replace hf := hf'
        clear hf'
        go_enter Try.func42, Try.ntmps42
        go_upto_region 1 with fail
        rw [hw1.out, hpA.out]
        go_upto_region 5 with (first
          | (go_at_call 37; refine (BR.out _).mono ?_; rintro e w2 ⟨rfl, B2⟩; obtain ⟨s2, g2, x0⟩ := OUT.out w2 B2; obtain ⟨v, -, c0, c1, c2, c3, c4, c5, c6, c7, z⟩ := s2.open; have z6 := z 6; have z7 := z 7; replace s2 := hide s2; replace g2 := hide g2; clear z)
          | (go_at_call 34; refine (must_yes _).mono ?_; rintro e w' ⟨rfl, hw⟩; rw [hw]; clear hw w'))
        have KP : Hid (w2.drew.cell? ⟨sb, 6, none⟩ = some (.bool true) ∧ w2.drew.cell? ⟨sb, 3, none⟩ = some (.int .i64 m.nx) ∧ w2.drew.cell? ⟨sb, 4, none⟩ = some (.int .i64 m.li)) := hide ⟨by rw [hf] at c6; exact c6, c3, c4⟩
        have DQ : Below w2.heap.size w2 w2.drew := (Below.refl _ _).drew
        have SQ : Hid (St sb w2.drew m ∧ But (fun k => k = sb) w w2.drew) := hide ⟨s2.out.below DQ, g2.out.trans (But.of_below DQ _)⟩
        clear DQ s2 g2 c0 c1 c2 c3 c4 c5 c6 c7 z6 z7 x0 B2
        refine wp_region_T (fun q => q.cell? ⟨sb, 6, none⟩ = some (.bool true) ∧ q.cell? ⟨sb, 3, none⟩ = some (.int .i64 m.nx) ∧ q.cell? ⟨sb, 4, none⟩ = some (.int .i64 m.li)) 16 (by kernel_rfl) ?_
        generalize w2.drew = q at *
        refine wpAnyT_take (i := 0) (oi := { dst := some 12, op := Op.move (Operand.tmp 0), type := 47, pos := "state.go:215", after := #[], guard := none }) (v := .pointer (some ⟨sb, 0, none⟩)) [1, 2, 3, 4, 5, 15, 16] rfl (by kernel_rfl) (by kernel_rfl) (by kernel_rfl) (by kernel_rfl) (fun _ _ _ h => h) (Or.inl ⟨by rfl, ?_⟩) KP.out ?_
        · intro wq hSw
          obtain ⟨y0, y1, y2⟩ := hSw
          go_simp
        (try simp only [Act.put, List.setIfInBounds_toArray, List.set_cons_zero, List.set_cons_succ])
        refine wpAnyT_take (i := 1) (oi := { dst := some 13, op := Op.nilCheck (Operand.tmp 12), type := 0, pos := "state.go:215", after := #[{ on := 0, ground := Ground.data }], guard := none }) (v := .pointer (some ⟨sb, 0, none⟩)) [2, 3, 4, 5, 15, 16] rfl (by kernel_rfl) (by kernel_rfl) (by kernel_rfl) (by kernel_rfl) (fun _ _ _ h => h) (Or.inl ⟨by rfl, ?_⟩) KP.out ?_
        · intro wq hSw
          obtain ⟨y0, y1, y2⟩ := hSw
          go_simp
        (try simp only [Act.put, List.setIfInBounds_toArray, List.set_cons_zero, List.set_cons_succ])
        refine wpAnyT_take (i := 2) (oi := { dst := some 14, op := Op.fieldAddr 58 (Operand.tmp 13) 6, type := 0, pos := "state.go:215", after := #[{ on := 1, ground := Ground.data }], guard := none }) (v := .pointer (some ⟨sb, 6, none⟩)) [3, 4, 5, 15, 16] rfl (by kernel_rfl) (by kernel_rfl) (by kernel_rfl) (by kernel_rfl) (fun _ _ _ h => h) (Or.inl ⟨by rfl, ?_⟩) KP.out ?_
        · intro wq hSw
          obtain ⟨y0, y1, y2⟩ := hSw
          go_simp
        (try simp only [Act.put, List.setIfInBounds_toArray, List.set_cons_zero, List.set_cons_succ])
        refine wpAnyT_take (i := 3) (oi := { dst := some 15, op := Op.load 4 (Operand.tmp 14), type := 4, pos := "state.go:215", after := #[{ on := 2, ground := Ground.data }], guard := none }) (v := .bool true) [4, 5, 15, 16] rfl (by kernel_rfl) (by kernel_rfl) (by kernel_rfl) (by kernel_rfl) (fun _ _ _ h => h) (Or.inl ⟨by rfl, ?_⟩) KP.out ?_
        · intro wq hSw
          obtain ⟨y0, y1, y2⟩ := hSw
          go_simp
        (try simp only [Act.put, List.setIfInBounds_toArray, List.set_cons_zero, List.set_cons_succ])
        refine wpAnyT_take (i := 4) (oi := { dst := some 16, op := Op.unOp UnOp.not 4 (Operand.tmp 15), type := 4, pos := "state.go:215", after := #[{ on := 3, ground := Ground.data }], guard := none }) (v := .bool false) [5, 15, 16] rfl (by kernel_rfl) (by kernel_rfl) (by kernel_rfl) (by kernel_rfl) (fun _ _ _ h => h) (Or.inl ⟨by rfl, ?_⟩) KP.out ?_
        · intro wq hSw
          obtain ⟨y0, y1, y2⟩ := hSw
          go_simp
        (try simp only [Act.put, List.setIfInBounds_toArray, List.set_cons_zero, List.set_cons_succ])
        refine wpAnyT_take (i := 5) (oi := { dst := some 17, op := Op.move (Operand.tmp 16), type := 4, pos := "state.go:215", after := #[{ on := 4, ground := Ground.data }], guard := none }) (v := .bool false) [15, 16] rfl (by kernel_rfl) (by kernel_rfl) (by kernel_rfl) (by kernel_rfl) (fun _ _ _ h => h) (Or.inl ⟨by rfl, ?_⟩) KP.out ?_
        · intro wq hSw
          obtain ⟨y0, y1, y2⟩ := hSw
          go_simp
        (try simp only [Act.put, List.setIfInBounds_toArray, List.set_cons_zero, List.set_cons_succ])
        refine wpAnyT_take (i := 6) (oi := { dst := some 18, op := Op.move (Operand.tmp 0), type := 47, pos := "state.go:215", after := #[{ on := 5, ground := Ground.guard }], guard := some (5, true) }) (v := undef) [7, 8, 9, 14, 15, 16] rfl (by kernel_rfl) (by kernel_rfl) (by kernel_rfl) (by kernel_rfl) (fun _ _ _ h => h) (Or.inr ⟨by rfl, rfl⟩) KP.out ?_
        (try simp only [Act.put, List.setIfInBounds_toArray, List.set_cons_zero, List.set_cons_succ])
        refine wpAnyT_take (i := 7) (oi := { dst := some 19, op := Op.nilCheck (Operand.tmp 18), type := 0, pos := "state.go:215", after := #[{ on := 6, ground := Ground.data }, { on := 5, ground := Ground.guard }], guard := some (5, true) }) (v := undef) [8, 9, 14, 15, 16] rfl (by kernel_rfl) (by kernel_rfl) (by kernel_rfl) (by kernel_rfl) (fun _ _ _ h => h) (Or.inr ⟨by rfl, rfl⟩) KP.out ?_
        (try simp only [Act.put, List.setIfInBounds_toArray, List.set_cons_zero, List.set_cons_succ])
        refine wpAnyT_take (i := 8) (oi := { dst := some 20, op := Op.fieldAddr 58 (Operand.tmp 19) 3, type := 0, pos := "state.go:215", after := #[{ on := 7, ground := Ground.data }, { on := 5, ground := Ground.guard }], guard := some (5, true) }) (v := undef) [9, 14, 15, 16] rfl (by kernel_rfl) (by kernel_rfl) (by kernel_rfl) (by kernel_rfl) (fun _ _ _ h => h) (Or.inr ⟨by rfl, rfl⟩) KP.out ?_
        (try simp only [Act.put, List.setIfInBounds_toArray, List.set_cons_zero, List.set_cons_succ])
        refine wpAnyT_take (i := 9) (oi := { dst := some 21, op := Op.load 2 (Operand.tmp 20), type := 2, pos := "state.go:215", after := #[{ on := 8, ground := Ground.data }, { on := 5, ground := Ground.guard }], guard := some (5, true) }) (v := undef) [14, 15, 16] rfl (by kernel_rfl) (by kernel_rfl) (by kernel_rfl) (by kernel_rfl) (fun _ _ _ h => h) (Or.inr ⟨by rfl, rfl⟩) KP.out ?_
        (try simp only [Act.put, List.setIfInBounds_toArray, List.set_cons_zero, List.set_cons_succ])
        refine wpAnyT_take (i := 10) (oi := { dst := some 22, op := Op.move (Operand.tmp 0), type := 47, pos := "state.go:215", after := #[{ on := 5, ground := Ground.guard }], guard := some (5, true) }) (v := undef) [11, 12, 13, 14, 15, 16] rfl (by kernel_rfl) (by kernel_rfl) (by kernel_rfl) (by kernel_rfl) (fun _ _ _ h => h) (Or.inr ⟨by rfl, rfl⟩) KP.out ?_
        (try simp only [Act.put, List.setIfInBounds_toArray, List.set_cons_zero, List.set_cons_succ])
        refine wpAnyT_take (i := 11) (oi := { dst := some 23, op := Op.nilCheck (Operand.tmp 22), type := 0, pos := "state.go:215", after := #[{ on := 10, ground := Ground.data }, { on := 5, ground := Ground.guard }], guard := some (5, true) }) (v := undef) [12, 13, 14, 15, 16] rfl (by kernel_rfl) (by kernel_rfl) (by kernel_rfl) (by kernel_rfl) (fun _ _ _ h => h) (Or.inr ⟨by rfl, rfl⟩) KP.out ?_
        (try simp only [Act.put, List.setIfInBounds_toArray, List.set_cons_zero, List.set_cons_succ])
        refine wpAnyT_take (i := 12) (oi := { dst := some 24, op := Op.fieldAddr 58 (Operand.tmp 23) 4, type := 0, pos := "state.go:215", after := #[{ on := 11, ground := Ground.data }, { on := 5, ground := Ground.guard }], guard := some (5, true) }) (v := undef) [13, 14, 15, 16] rfl (by kernel_rfl) (by kernel_rfl) (by kernel_rfl) (by kernel_rfl) (fun _ _ _ h => h) (Or.inr ⟨by rfl, rfl⟩) KP.out ?_
        (try simp only [Act.put, List.setIfInBounds_toArray, List.set_cons_zero, List.set_cons_succ])
        refine wpAnyT_take (i := 13) (oi := { dst := some 25, op := Op.load 2 (Operand.tmp 24), type := 2, pos := "state.go:215", after := #[{ on := 12, ground := Ground.data }, { on := 5, ground := Ground.guard }], guard := some (5, true) }) (v := undef) [14, 15, 16] rfl (by kernel_rfl) (by kernel_rfl) (by kernel_rfl) (by kernel_rfl) (fun _ _ _ h => h) (Or.inr ⟨by rfl, rfl⟩) KP.out ?_
        (try simp only [Act.put, List.setIfInBounds_toArray, List.set_cons_zero, List.set_cons_succ])
        refine wpAnyT_take (i := 14) (oi := { dst := some 26, op := Op.binOp BinOp.leq 2 (Operand.tmp 21) (Operand.tmp 25) 2, type := 4, pos := "state.go:215", after := #[{ on := 9, ground := Ground.data }, { on := 13, ground := Ground.data }, { on := 5, ground := Ground.guard }], guard := some (5, true) }) (v := undef) [15, 16] rfl (by kernel_rfl) (by kernel_rfl) (by kernel_rfl) (by kernel_rfl) (fun _ _ _ h => h) (Or.inr ⟨by rfl, rfl⟩) KP.out ?_
        (try simp only [Act.put, List.setIfInBounds_toArray, List.set_cons_zero, List.set_cons_succ])
        refine wpAnyT_take (i := 15) (oi := { dst := some 27, op := Op.pick (Operand.tmp 17) (Operand.tmp 26) (Operand.const (Value.bool false)), type := 4, pos := "state.go:215", after := #[{ on := 5, ground := Ground.data }, { on := 14, ground := Ground.data }], guard := none }) (v := .bool false) [16] rfl (by kernel_rfl) (by kernel_rfl) (by kernel_rfl) (by kernel_rfl) (fun _ _ _ h => h) (Or.inl ⟨by rfl, ?_⟩) KP.out ?_
        · intro wq hSw
          obtain ⟨y0, y1, y2⟩ := hSw
          go_simp
        (try simp only [Act.put, List.setIfInBounds_toArray, List.set_cons_zero, List.set_cons_succ])
        refine wpAnyT_one (i := 16) (o := { dst := some 28, op := Op.call { callee := Callee.value (Operand.func 34), args := #[Operand.tmp 27], argTypes := #[4] }, type := 0, pos := "state.go:215", after := #[{ on := 15, ground := Ground.data }, { on := 5, ground := Ground.chain }], guard := none }) (by kernel_rfl) rfl (fun K hK => ?_)
        go_simp
        go_at_call 34
        refine (must_no _).mono ?_
        rintro e w' ⟨rfl, hw⟩
        rw [hw]
        clear hw w'
        exact ⟨rfl, Goes.none SQ.out.2⟩
    · rw [if_neg h0]
      have g0 : (re == 0) = false := by simpa using h0
      by_cases h4 : re = 40
      · subst h4
        rw [if_pos rfl]
        rw [Option.map_some]
        go_enter Try.func42, Try.ntmps42
        go_upto_region 1 with fail
        rw [hw1.out, hpA.out]
        go_wp2_with (first
          | (go_at_call 37; refine (BR.out _).mono ?_; rintro e w2 ⟨rfl, B2⟩; obtain ⟨s2, g2, x0⟩ := OUT.out w2 B2; obtain ⟨v, -, c0, c1, c2, c3, c4, c5, c6, c7, z⟩ := s2.open; have z6 := z 6; have z7 := z 7; have FIN : Hid (Goes sb w (some { m with fa := true, cl := true }) (.returned (.tuple #[])) ((w2.setCell ⟨sb, 6, none⟩ (.bool true)).setCell ⟨sb, 7, none⟩ (.bool true))) := hide (Goes.some ((g2.trans (but_set _ _ _ _)).trans (but_set _ _ _ _)) ((s2.setFa true).setCl true)); clear z s2 g2)
          | (go_at_call 34; refine (must_yes _).mono ?_; rintro e w' ⟨rfl, hw⟩; rw [hw]; clear hw w'))
        first | go_end0 | refine bodyPost_ret (results_none rfl _ _ _) rfl ?_
        exact FIN.out
      · rw [if_neg h4]
        rw [Option.map_none]
        have g4 : (re == 40) = false := by simpa using h4
        go_enter Try.func42, Try.ntmps42
        go_upto_region 1 with fail
        rw [hw1.out, hpA.out]
        go_upto_region 3 with (first
          | (go_at_call 37; refine (BR.out _).mono ?_; rintro e w2 ⟨rfl, B2⟩; obtain ⟨s2, g2, x0⟩ := OUT.out w2 B2; obtain ⟨v, -, c0, c1, c2, c3, c4, c5, c6, c7, z⟩ := s2.open; have z6 := z 6; have z7 := z 7; replace s2 := hide s2; replace g2 := hide g2; clear z)
          | (go_at_call 34; refine (must_yes _).mono ?_; rintro e w' ⟨rfl, hw⟩; rw [hw]; clear hw w'))
        go_wp2_with (go_at_call 34; refine (must_no _).mono ?_; rintro e w' ⟨rfl, hw⟩; rw [hw]; clear hw w')
        exact ⟨rfl, Goes.none g2.out⟩
end Go.Proofs.Ytmehlgebbbkdiaa.Um

/-
  append of a state. (gen_UmH.py)
-/
namespace Go.Proofs.Ytmehlgebbbkdiaa.Um
open Go.RowKit Go.Maps
open Ix (wp_region_T wpAnyT wpAnyT_take wpAnyT_one wpAnyT_done vac)
set_option linter.unusedVariables false
set_option linter.unusedSimpArgs false
set_option maxRecDepth 100000
set_option maxHeartbeats 2000000 in
theorem append_any (w : World) {sb : Nat} {m : Md} (h : St sb w m) (hx : I64 m.nx) (hl : m.rs.length < 1000) (c : Cl) (r : Rs) (ao bo : Option Addr) (ca cb : Nat) (hd : Sd sb w (.slice ao c.d.length ca) c.d) :
    Calls Try.prog 38 #[.pointer (some ⟨sb, 0, none⟩), .agg #[.int .i64 c.k, .int .i64 c.n, .slice ao c.d.length ca], .agg #[.int .i64 r.e, .int .i64 r.n, .slice bo r.d.length cb]] w fun e w' => Goes sb w (appendS m c r) e w' := by
  obtain ⟨ck, cn, cd⟩ := c
  obtain ⟨re, rn, rd⟩ := r
  obtain ⟨LC, hLC⟩ : ∃ L : Nat, Hid (cd.length = L) := ⟨_, rfl⟩
  obtain ⟨LR, hLR⟩ : ∃ L : Nat, Hid (rd.length = L) := ⟨_, rfl⟩
  simp only [hLC.out, hLR.out]
  have B0 := box_below w (.cells #[.int .i64 ck, .int .i64 cn, .slice ao LC ca] 33)
  have N0 := heap_alloc_new w (.cells #[.int .i64 ck, .int .i64 cn, .slice ao LC ca] 33)
  obtain ⟨w0, hw0⟩ : ∃ w0, Hid (w.alloc (.cells #[.int .i64 ck, .int .i64 cn, .slice ao LC ca] 33) = w0) := ⟨_, rfl⟩
  have hz0 : w0.heap.size = w.heap.size + 1 := by rw [← hw0.out]; simp
  rw [hw0.out] at B0 N0
  have B1 := box_below w0 (.cells #[.int .i64 re, .int .i64 rn, .slice bo LR cb] 35)
  have N1 := heap_alloc_new w0 (.cells #[.int .i64 re, .int .i64 rn, .slice bo LR cb] 35)
  obtain ⟨w1, hw1⟩ : ∃ w1, Hid (w0.alloc (.cells #[.int .i64 re, .int .i64 rn, .slice bo LR cb] 35) = w1) := ⟨_, rfl⟩
  rw [hw1.out] at B1 N1
  rw [hz0] at N1
  have N0 := (B1.block _ (heap_lt N0)).trans N0
  have hB1 : Hid (Below w.heap.size w w1) := hide (B0.trans ⟨B1.os, B1.tape, B1.output, B1.size, fun k hk => B1.block k (by omega)⟩)
  have hsb := h.lt
  have BXS : Hid (∀ q, But (fun k => k = sb) w1 q → q.cell? ⟨w.heap.size, 0, none⟩ = some (.int .i64 ck) ∧ q.cell? ⟨w.heap.size, 1, none⟩ = some (.int .i64 cn) ∧ q.cell? ⟨w.heap.size, 2, none⟩ = some (.slice ao LC ca) ∧ q.cell? ⟨w.heap.size + 1, 0, none⟩ = some (.int .i64 re) ∧ q.cell? ⟨w.heap.size + 1, 1, none⟩ = some (.int .i64 rn) ∧ q.cell? ⟨w.heap.size + 1, 2, none⟩ = some (.slice bo LR cb)) := hide (fun q hq => by
    have e0 := (hq.block _ (heap_lt N0) (by omega)).trans N0
    have e1 := (hq.block _ (heap_lt N1) (by omega)).trans N1
    refine ⟨?_, ?_, ?_, ?_, ?_, ?_⟩ <;> first | (rw [cell_of e0]; rfl) | (rw [cell_of e1]; rfl))
  have S1 : Hid (St sb w1 m ∧ But (fun k => k = sb) w w1) := hide ⟨h.below hB1.out, But.of_below hB1.out _⟩
  obtain ⟨pA, hpA⟩ : ∃ pA, Hid (w.heap.size = pA) := ⟨_, rfl⟩
  rw [hpA.out] at BXS
  rw [hpA.out] at hz0
  obtain ⟨pB, hpB⟩ : ∃ pB, Hid (pA + 1 = pB) := ⟨_, rfl⟩
  rw [hpB.out] at BXS hz0
  have hz0 := hide hz0
  have hw1' : Hid ((w.alloc (.cells #[.int .i64 ck, .int .i64 cn, .slice ao LC ca] 33)).alloc (.cells #[.int .i64 re, .int .i64 rn, .slice bo LR cb] 35) = w1) := hide (by rw [hw0.out, hw1.out])
  obtain ⟨x0, x1, x2, x3, x4, x5⟩ := BXS.out w1 (But.refl _ _)
  obtain ⟨v, -, c0, c1, c2, c3, c4, c5, c6, c7, z⟩ := S1.out.1.open
  have z6 := z 6
  have z7 := z 7
  have z1 := z 1
  clear B0 N0 B1 N1 hw1 h hsb z
  have RES : Hid (∀ q, But (fun k => k = sb) w1 q → St sb q m → Calls Try.prog 44 #[.pointer (some ⟨sb, 0, none⟩), .slice ao LC ca, .int .i64 rn] q fun e w' => Goes sb q (reserveS m cd rn) e w') := hide (fun q hq hs => by
    have := reserve_any q hs hx hl (.slice ao cd.length ca) cd (hd.but ((But.of_below hB1.out _).trans hq)) rn
    simp only [hLC.out] at this
    exact this)
  clear hd hx hl
  have SS : Hid (appendS m ⟨ck, cn, cd⟩ ⟨re, rn, rd⟩ = if LR = 0 then
    if re = 0 then (if ck = 2 ∨ rn < m.li then reserveS m cd rn else none)
    else if re = 40 ∧ rn ≠ 0 then (reserveS m cd rn).bind (fun m => loseS m rn)
    else if rn = 0 then refuseS m re else none
  else none) := hide (by rw [← hLR.out]; rfl)
  rw [SS.out]
  clear hLC hLR
  by_cases h0 : LR = 0
  · subst h0
    rw [if_pos rfl]
    obtain ⟨R, hR⟩ : ∃ R, Hid (reserveS m cd rn = R) := ⟨_, rfl⟩
    rw [hR.out] at RES ⊢
    by_cases h1 : re = 0
    · subst h1
      rw [if_pos rfl]
      by_cases h2 : ck = 2
      · subst h2
        rw [if_pos (show (2 : Int) = 2 ∨ rn < m.li from Or.inl rfl)]
        go_enter Try.func38, Try.ntmps38
        go_upto_region 1 with fail
        rw [hw1'.out, hpA.out, hpB.out]
        go_upto_region 5 with (go_at_call 34; refine (must_yes _).mono ?_; rintro e w' ⟨rfl, hw⟩; rw [hw]; clear hw w')
        have KP : Hid (w1.drew.cell? ⟨pA, 0, none⟩ = some (.int .i64 2) ∧ w1.drew.cell? ⟨pB, 1, none⟩ = some (.int .i64 rn) ∧ w1.drew.cell? ⟨sb, 4, none⟩ = some (.int .i64 m.li)) := hide ⟨x0, x4, c4⟩
        have DQ : Below w1.heap.size w1 w1.drew := (Below.refl _ _).drew
        have SQ : Hid (St sb w1.drew m ∧ But (fun k => k = sb) w w1.drew ∧ But (fun k => k = sb) w1 w1.drew) := hide ⟨S1.out.1.below DQ, S1.out.2.trans (But.of_below DQ _), But.of_below DQ _⟩
        clear DQ
        clear c0 c1 c2 c3 c4 c5 c6 c7 z1 z6 z7 x0 x1 x2 x3 x4 x5
        refine wp_region_T (fun q => q.cell? ⟨pA, 0, none⟩ = some (.int .i64 2) ∧ q.cell? ⟨pB, 1, none⟩ = some (.int .i64 rn) ∧ q.cell? ⟨sb, 4, none⟩ = some (.int .i64 m.li)) 12 (by kernel_rfl) ?_
        generalize w1.drew = q at *
        refine wpAnyT_take (i := 0) (oi := { dst := some 23, op := Op.fieldAddr 33 (Operand.tmp 4) 0, type := 0, pos := "state.go:84", after := #[], guard := none }) (v := .pointer (some ⟨pA, 0, none⟩)) [1, 2, 3, 11, 12] rfl (by kernel_rfl) (by kernel_rfl) (by kernel_rfl) (by kernel_rfl) (fun _ _ _ h => h) (Or.inl ⟨by rfl, ?_⟩) KP.out ?_
        · intro wq hSw
          obtain ⟨y0, y1, y2⟩ := hSw
          go_simp
        (try simp only [Act.put, List.setIfInBounds_toArray, List.set_cons_zero, List.set_cons_succ])
        refine wpAnyT_take (i := 1) (oi := { dst := some 24, op := Op.load 3 (Operand.tmp 23), type := 3, pos := "state.go:84", after := #[{ on := 0, ground := Ground.data }], guard := none }) (v := .int .i64 2) [2, 3, 11, 12] rfl (by kernel_rfl) (by kernel_rfl) (by kernel_rfl) (by kernel_rfl) (fun _ _ _ h => h) (Or.inl ⟨by rfl, ?_⟩) KP.out ?_
        · intro wq hSw
          obtain ⟨y0, y1, y2⟩ := hSw
          go_simp
        (try simp only [Act.put, List.setIfInBounds_toArray, List.set_cons_zero, List.set_cons_succ])
        refine wpAnyT_take (i := 2) (oi := { dst := some 25, op := Op.binOp BinOp.eql 3 (Operand.tmp 24) (Operand.const (Value.int IntKind.i64 2)) 3, type := 4, pos := "state.go:84", after := #[{ on := 1, ground := Ground.data }], guard := none }) (v := .bool true) [3, 11, 12] rfl (by kernel_rfl) (by kernel_rfl) (by kernel_rfl) (by kernel_rfl) (fun _ _ _ h => h) (Or.inl ⟨by rfl, ?_⟩) KP.out ?_
        · intro wq hSw
          obtain ⟨y0, y1, y2⟩ := hSw
          go_simp
        (try simp only [Act.put, List.setIfInBounds_toArray, List.set_cons_zero, List.set_cons_succ])
        refine wpAnyT_take (i := 3) (oi := { dst := some 26, op := Op.move (Operand.tmp 25), type := 4, pos := "state.go:84", after := #[{ on := 2, ground := Ground.data }], guard := none }) (v := .bool true) [11, 12] rfl (by kernel_rfl) (by kernel_rfl) (by kernel_rfl) (by kernel_rfl) (fun _ _ _ h => h) (Or.inl ⟨by rfl, ?_⟩) KP.out ?_
        · intro wq hSw
          obtain ⟨y0, y1, y2⟩ := hSw
          go_simp
        (try simp only [Act.put, List.setIfInBounds_toArray, List.set_cons_zero, List.set_cons_succ])
        refine wpAnyT_take (i := 4) (oi := { dst := some 27, op := Op.fieldAddr 35 (Operand.tmp 5) 1, type := 0, pos := "state.go:84", after := #[{ on := 3, ground := Ground.guard }], guard := some (3, false) }) (v := undef) [5, 10, 11, 12] rfl (by kernel_rfl) (by kernel_rfl) (by kernel_rfl) (by kernel_rfl) (fun _ _ _ h => h) (Or.inr ⟨by rfl, rfl⟩) KP.out ?_
        (try simp only [Act.put, List.setIfInBounds_toArray, List.set_cons_zero, List.set_cons_succ])
        refine wpAnyT_take (i := 5) (oi := { dst := some 28, op := Op.load 2 (Operand.tmp 27), type := 2, pos := "state.go:84", after := #[{ on := 4, ground := Ground.data }, { on := 3, ground := Ground.guard }], guard := some (3, false) }) (v := undef) [10, 11, 12] rfl (by kernel_rfl) (by kernel_rfl) (by kernel_rfl) (by kernel_rfl) (fun _ _ _ h => h) (Or.inr ⟨by rfl, rfl⟩) KP.out ?_
        (try simp only [Act.put, List.setIfInBounds_toArray, List.set_cons_zero, List.set_cons_succ])
        refine wpAnyT_take (i := 6) (oi := { dst := some 29, op := Op.move (Operand.tmp 0), type := 47, pos := "state.go:84", after := #[{ on := 3, ground := Ground.guard }], guard := some (3, false) }) (v := undef) [7, 8, 9, 10, 11, 12] rfl (by kernel_rfl) (by kernel_rfl) (by kernel_rfl) (by kernel_rfl) (fun _ _ _ h => h) (Or.inr ⟨by rfl, rfl⟩) KP.out ?_
        (try simp only [Act.put, List.setIfInBounds_toArray, List.set_cons_zero, List.set_cons_succ])
        refine wpAnyT_take (i := 7) (oi := { dst := some 30, op := Op.nilCheck (Operand.tmp 29), type := 0, pos := "state.go:84", after := #[{ on := 6, ground := Ground.data }, { on := 3, ground := Ground.guard }], guard := some (3, false) }) (v := undef) [8, 9, 10, 11, 12] rfl (by kernel_rfl) (by kernel_rfl) (by kernel_rfl) (by kernel_rfl) (fun _ _ _ h => h) (Or.inr ⟨by rfl, rfl⟩) KP.out ?_
        (try simp only [Act.put, List.setIfInBounds_toArray, List.set_cons_zero, List.set_cons_succ])
        refine wpAnyT_take (i := 8) (oi := { dst := some 31, op := Op.fieldAddr 58 (Operand.tmp 30) 4, type := 0, pos := "state.go:84", after := #[{ on := 7, ground := Ground.data }, { on := 3, ground := Ground.guard }], guard := some (3, false) }) (v := undef) [9, 10, 11, 12] rfl (by kernel_rfl) (by kernel_rfl) (by kernel_rfl) (by kernel_rfl) (fun _ _ _ h => h) (Or.inr ⟨by rfl, rfl⟩) KP.out ?_
        (try simp only [Act.put, List.setIfInBounds_toArray, List.set_cons_zero, List.set_cons_succ])
        refine wpAnyT_take (i := 9) (oi := { dst := some 32, op := Op.load 2 (Operand.tmp 31), type := 2, pos := "state.go:84", after := #[{ on := 8, ground := Ground.data }, { on := 3, ground := Ground.guard }], guard := some (3, false) }) (v := undef) [10, 11, 12] rfl (by kernel_rfl) (by kernel_rfl) (by kernel_rfl) (by kernel_rfl) (fun _ _ _ h => h) (Or.inr ⟨by rfl, rfl⟩) KP.out ?_
        (try simp only [Act.put, List.setIfInBounds_toArray, List.set_cons_zero, List.set_cons_succ])
        refine wpAnyT_take (i := 10) (oi := { dst := some 33, op := Op.binOp BinOp.lss 2 (Operand.tmp 28) (Operand.tmp 32) 2, type := 4, pos := "state.go:84", after := #[{ on := 5, ground := Ground.data }, { on := 9, ground := Ground.data }, { on := 3, ground := Ground.guard }], guard := some (3, false) }) (v := undef) [11, 12] rfl (by kernel_rfl) (by kernel_rfl) (by kernel_rfl) (by kernel_rfl) (fun _ _ _ h => h) (Or.inr ⟨by rfl, rfl⟩) KP.out ?_
        (try simp only [Act.put, List.setIfInBounds_toArray, List.set_cons_zero, List.set_cons_succ])
        refine wpAnyT_take (i := 11) (oi := { dst := some 34, op := Op.pick (Operand.tmp 26) (Operand.const (Value.bool true)) (Operand.tmp 33), type := 4, pos := "state.go:84", after := #[{ on := 3, ground := Ground.data }, { on := 10, ground := Ground.data }], guard := none }) (v := .bool true) [12] rfl (by kernel_rfl) (by kernel_rfl) (by kernel_rfl) (by kernel_rfl) (fun _ _ _ h => h) (Or.inl ⟨by rfl, ?_⟩) KP.out ?_
        · intro wq hSw
          obtain ⟨y0, y1, y2⟩ := hSw
          go_simp
        (try simp only [Act.put, List.setIfInBounds_toArray, List.set_cons_zero, List.set_cons_succ])
        refine wpAnyT_one (i := 12) (o := { dst := some 35, op := Op.call { callee := Callee.value (Operand.func 34), args := #[Operand.tmp 34], argTypes := #[4] }, type := 0, pos := "state.go:84", after := #[{ on := 11, ground := Ground.data }, { on := 3, ground := Ground.chain }], guard := none }) (by kernel_rfl) rfl (fun K hK => ?_)
        go_simp
        go_at_call 34
        refine (must_yes _).mono ?_
        rintro e w' ⟨rfl, hw⟩
        rw [hw]
        clear hw w'
        refine hK.out _ _ (vac (by kernel_rfl)) ?_
        clear hK K
        refine wpAnyT_done (by kernel_rfl) ?_ _
        obtain ⟨-, a1, a2, -, b1, b2⟩ := BXS.out q SQ.out.2.2
        clear BXS
        cases R with
        | none =>
          go_wp2_with (go_at_call 44; refine (RES.out q SQ.out.2.2 SQ.out.1).mono ?_; rintro e w3 ⟨g3, rfl⟩)
          exact ⟨rfl, Goes.none (SQ.out.2.1.trans g3)⟩
        | some m1 =>
          go_wp2_with (go_at_call 44; refine (RES.out q SQ.out.2.2 SQ.out.1).mono ?_; rintro e w3 ⟨g3, rfl, s3⟩)
          first | go_end0 | refine bodyPost_ret (results_none rfl _ _ _) rfl ?_
          exact Goes.some (SQ.out.2.1.trans g3) s3
      · have k2 : (ck == 2) = false := by simpa using h2
        by_cases h3 : rn < m.li
        · rw [if_pos (Or.inr h3)]
          go_enter Try.func38, Try.ntmps38
          go_upto_region 1 with fail
          rw [hw1'.out, hpA.out, hpB.out]
          go_upto_region 5 with (go_at_call 34; refine (must_yes _).mono ?_; rintro e w' ⟨rfl, hw⟩; rw [hw]; clear hw w')
          have KP : Hid (w1.drew.cell? ⟨pA, 0, none⟩ = some (.int .i64 ck) ∧ w1.drew.cell? ⟨pB, 1, none⟩ = some (.int .i64 rn) ∧ w1.drew.cell? ⟨sb, 4, none⟩ = some (.int .i64 m.li)) := hide ⟨x0, x4, c4⟩
          have DQ : Below w1.heap.size w1 w1.drew := (Below.refl _ _).drew
          have SQ : Hid (St sb w1.drew m ∧ But (fun k => k = sb) w w1.drew ∧ But (fun k => k = sb) w1 w1.drew) := hide ⟨S1.out.1.below DQ, S1.out.2.trans (But.of_below DQ _), But.of_below DQ _⟩
          clear DQ
          clear c0 c1 c2 c3 c4 c5 c6 c7 z1 z6 z7 x0 x1 x2 x3 x4 x5
          refine wp_region_T (fun q => q.cell? ⟨pA, 0, none⟩ = some (.int .i64 ck) ∧ q.cell? ⟨pB, 1, none⟩ = some (.int .i64 rn) ∧ q.cell? ⟨sb, 4, none⟩ = some (.int .i64 m.li)) 12 (by kernel_rfl) ?_
          generalize w1.drew = q at *
          refine wpAnyT_take (i := 0) (oi := { dst := some 23, op := Op.fieldAddr 33 (Operand.tmp 4) 0, type := 0, pos := "state.go:84", after := #[], guard := none }) (v := .pointer (some ⟨pA, 0, none⟩)) [1, 2, 3, 11, 12] rfl (by kernel_rfl) (by kernel_rfl) (by kernel_rfl) (by kernel_rfl) (fun _ _ _ h => h) (Or.inl ⟨by rfl, ?_⟩) KP.out ?_
          · intro wq hSw
            obtain ⟨y0, y1, y2⟩ := hSw
            go_simp
          (try simp only [Act.put, List.setIfInBounds_toArray, List.set_cons_zero, List.set_cons_succ])
          refine wpAnyT_take (i := 1) (oi := { dst := some 24, op := Op.load 3 (Operand.tmp 23), type := 3, pos := "state.go:84", after := #[{ on := 0, ground := Ground.data }], guard := none }) (v := .int .i64 ck) [2, 3, 11, 12] rfl (by kernel_rfl) (by kernel_rfl) (by kernel_rfl) (by kernel_rfl) (fun _ _ _ h => h) (Or.inl ⟨by rfl, ?_⟩) KP.out ?_
          · intro wq hSw
            obtain ⟨y0, y1, y2⟩ := hSw
            go_simp
          (try simp only [Act.put, List.setIfInBounds_toArray, List.set_cons_zero, List.set_cons_succ])
          refine wpAnyT_take (i := 2) (oi := { dst := some 25, op := Op.binOp BinOp.eql 3 (Operand.tmp 24) (Operand.const (Value.int IntKind.i64 2)) 3, type := 4, pos := "state.go:84", after := #[{ on := 1, ground := Ground.data }], guard := none }) (v := .bool false) [3, 11, 12] rfl (by kernel_rfl) (by kernel_rfl) (by kernel_rfl) (by kernel_rfl) (fun _ _ _ h => h) (Or.inl ⟨by rfl, ?_⟩) KP.out ?_
          · intro wq hSw
            obtain ⟨y0, y1, y2⟩ := hSw
            go_simp
          (try simp only [Act.put, List.setIfInBounds_toArray, List.set_cons_zero, List.set_cons_succ])
          refine wpAnyT_take (i := 3) (oi := { dst := some 26, op := Op.move (Operand.tmp 25), type := 4, pos := "state.go:84", after := #[{ on := 2, ground := Ground.data }], guard := none }) (v := .bool false) [11, 12] rfl (by kernel_rfl) (by kernel_rfl) (by kernel_rfl) (by kernel_rfl) (fun _ _ _ h => h) (Or.inl ⟨by rfl, ?_⟩) KP.out ?_
          · intro wq hSw
            obtain ⟨y0, y1, y2⟩ := hSw
            go_simp
          (try simp only [Act.put, List.setIfInBounds_toArray, List.set_cons_zero, List.set_cons_succ])
          refine wpAnyT_take (i := 4) (oi := { dst := some 27, op := Op.fieldAddr 35 (Operand.tmp 5) 1, type := 0, pos := "state.go:84", after := #[{ on := 3, ground := Ground.guard }], guard := some (3, false) }) (v := .pointer (some ⟨pB, 1, none⟩)) [5, 10, 11, 12] rfl (by kernel_rfl) (by kernel_rfl) (by kernel_rfl) (by kernel_rfl) (fun _ _ _ h => h) (Or.inl ⟨by rfl, ?_⟩) KP.out ?_
          · intro wq hSw
            obtain ⟨y0, y1, y2⟩ := hSw
            go_simp
          (try simp only [Act.put, List.setIfInBounds_toArray, List.set_cons_zero, List.set_cons_succ])
          refine wpAnyT_take (i := 5) (oi := { dst := some 28, op := Op.load 2 (Operand.tmp 27), type := 2, pos := "state.go:84", after := #[{ on := 4, ground := Ground.data }, { on := 3, ground := Ground.guard }], guard := some (3, false) }) (v := .int .i64 rn) [10, 11, 12] rfl (by kernel_rfl) (by kernel_rfl) (by kernel_rfl) (by kernel_rfl) (fun _ _ _ h => h) (Or.inl ⟨by rfl, ?_⟩) KP.out ?_
          · intro wq hSw
            obtain ⟨y0, y1, y2⟩ := hSw
            go_simp
          (try simp only [Act.put, List.setIfInBounds_toArray, List.set_cons_zero, List.set_cons_succ])
          refine wpAnyT_take (i := 6) (oi := { dst := some 29, op := Op.move (Operand.tmp 0), type := 47, pos := "state.go:84", after := #[{ on := 3, ground := Ground.guard }], guard := some (3, false) }) (v := .pointer (some ⟨sb, 0, none⟩)) [7, 8, 9, 10, 11, 12] rfl (by kernel_rfl) (by kernel_rfl) (by kernel_rfl) (by kernel_rfl) (fun _ _ _ h => h) (Or.inl ⟨by rfl, ?_⟩) KP.out ?_
          · intro wq hSw
            obtain ⟨y0, y1, y2⟩ := hSw
            go_simp
          (try simp only [Act.put, List.setIfInBounds_toArray, List.set_cons_zero, List.set_cons_succ])
          refine wpAnyT_take (i := 7) (oi := { dst := some 30, op := Op.nilCheck (Operand.tmp 29), type := 0, pos := "state.go:84", after := #[{ on := 6, ground := Ground.data }, { on := 3, ground := Ground.guard }], guard := some (3, false) }) (v := .pointer (some ⟨sb, 0, none⟩)) [8, 9, 10, 11, 12] rfl (by kernel_rfl) (by kernel_rfl) (by kernel_rfl) (by kernel_rfl) (fun _ _ _ h => h) (Or.inl ⟨by rfl, ?_⟩) KP.out ?_
          · intro wq hSw
            obtain ⟨y0, y1, y2⟩ := hSw
            go_simp
          (try simp only [Act.put, List.setIfInBounds_toArray, List.set_cons_zero, List.set_cons_succ])
          refine wpAnyT_take (i := 8) (oi := { dst := some 31, op := Op.fieldAddr 58 (Operand.tmp 30) 4, type := 0, pos := "state.go:84", after := #[{ on := 7, ground := Ground.data }, { on := 3, ground := Ground.guard }], guard := some (3, false) }) (v := .pointer (some ⟨sb, 4, none⟩)) [9, 10, 11, 12] rfl (by kernel_rfl) (by kernel_rfl) (by kernel_rfl) (by kernel_rfl) (fun _ _ _ h => h) (Or.inl ⟨by rfl, ?_⟩) KP.out ?_
          · intro wq hSw
            obtain ⟨y0, y1, y2⟩ := hSw
            go_simp
          (try simp only [Act.put, List.setIfInBounds_toArray, List.set_cons_zero, List.set_cons_succ])
          refine wpAnyT_take (i := 9) (oi := { dst := some 32, op := Op.load 2 (Operand.tmp 31), type := 2, pos := "state.go:84", after := #[{ on := 8, ground := Ground.data }, { on := 3, ground := Ground.guard }], guard := some (3, false) }) (v := .int .i64 m.li) [10, 11, 12] rfl (by kernel_rfl) (by kernel_rfl) (by kernel_rfl) (by kernel_rfl) (fun _ _ _ h => h) (Or.inl ⟨by rfl, ?_⟩) KP.out ?_
          · intro wq hSw
            obtain ⟨y0, y1, y2⟩ := hSw
            go_simp
          (try simp only [Act.put, List.setIfInBounds_toArray, List.set_cons_zero, List.set_cons_succ])
          refine wpAnyT_take (i := 10) (oi := { dst := some 33, op := Op.binOp BinOp.lss 2 (Operand.tmp 28) (Operand.tmp 32) 2, type := 4, pos := "state.go:84", after := #[{ on := 5, ground := Ground.data }, { on := 9, ground := Ground.data }, { on := 3, ground := Ground.guard }], guard := some (3, false) }) (v := .bool true) [11, 12] rfl (by kernel_rfl) (by kernel_rfl) (by kernel_rfl) (by kernel_rfl) (fun _ _ _ h => h) (Or.inl ⟨by rfl, ?_⟩) KP.out ?_
          · intro wq hSw
            obtain ⟨y0, y1, y2⟩ := hSw
            go_simp
          (try simp only [Act.put, List.setIfInBounds_toArray, List.set_cons_zero, List.set_cons_succ])
          refine wpAnyT_take (i := 11) (oi := { dst := some 34, op := Op.pick (Operand.tmp 26) (Operand.const (Value.bool true)) (Operand.tmp 33), type := 4, pos := "state.go:84", after := #[{ on := 3, ground := Ground.data }, { on := 10, ground := Ground.data }], guard := none }) (v := .bool true) [12] rfl (by kernel_rfl) (by kernel_rfl) (by kernel_rfl) (by kernel_rfl) (fun _ _ _ h => h) (Or.inl ⟨by rfl, ?_⟩) KP.out ?_
          · intro wq hSw
            obtain ⟨y0, y1, y2⟩ := hSw
            go_simp
          (try simp only [Act.put, List.setIfInBounds_toArray, List.set_cons_zero, List.set_cons_succ])
          refine wpAnyT_one (i := 12) (o := { dst := some 35, op := Op.call { callee := Callee.value (Operand.func 34), args := #[Operand.tmp 34], argTypes := #[4] }, type := 0, pos := "state.go:84", after := #[{ on := 11, ground := Ground.data }, { on := 3, ground := Ground.chain }], guard := none }) (by kernel_rfl) rfl (fun K hK => ?_)
          go_simp
          go_at_call 34
          refine (must_yes _).mono ?_
          rintro e w' ⟨rfl, hw⟩
          rw [hw]
          clear hw w'
          refine hK.out _ _ (vac (by kernel_rfl)) ?_
          clear hK K
          refine wpAnyT_done (by kernel_rfl) ?_ _
          obtain ⟨-, a1, a2, -, b1, b2⟩ := BXS.out q SQ.out.2.2
          clear BXS
          cases R with
          | none =>
            go_wp2_with (go_at_call 44; refine (RES.out q SQ.out.2.2 SQ.out.1).mono ?_; rintro e w3 ⟨g3, rfl⟩)
            exact ⟨rfl, Goes.none (SQ.out.2.1.trans g3)⟩
          | some m1 =>
            go_wp2_with (go_at_call 44; refine (RES.out q SQ.out.2.2 SQ.out.1).mono ?_; rintro e w3 ⟨g3, rfl, s3⟩)
            first | go_end0 | refine bodyPost_ret (results_none rfl _ _ _) rfl ?_
            exact Goes.some (SQ.out.2.1.trans g3) s3
        · rw [if_neg (fun c => c.elim h2 h3)]
          have k3 : decide (rn < m.li) = false := by simp; omega
          go_enter Try.func38, Try.ntmps38
          go_upto_region 1 with fail
          rw [hw1'.out, hpA.out, hpB.out]
          go_upto_region 5 with (go_at_call 34; refine (must_yes _).mono ?_; rintro e w' ⟨rfl, hw⟩; rw [hw]; clear hw w')
          have KP : Hid (w1.drew.cell? ⟨pA, 0, none⟩ = some (.int .i64 ck) ∧ w1.drew.cell? ⟨pB, 1, none⟩ = some (.int .i64 rn) ∧ w1.drew.cell? ⟨sb, 4, none⟩ = some (.int .i64 m.li)) := hide ⟨x0, x4, c4⟩
          have DQ : Below w1.heap.size w1 w1.drew := (Below.refl _ _).drew
          have SQ : Hid (St sb w1.drew m ∧ But (fun k => k = sb) w w1.drew ∧ But (fun k => k = sb) w1 w1.drew) := hide ⟨S1.out.1.below DQ, S1.out.2.trans (But.of_below DQ _), But.of_below DQ _⟩
          clear DQ
          clear c0 c1 c2 c3 c4 c5 c6 c7 z1 z6 z7 x0 x1 x2 x3 x4 x5
          refine wp_region_T (fun q => q.cell? ⟨pA, 0, none⟩ = some (.int .i64 ck) ∧ q.cell? ⟨pB, 1, none⟩ = some (.int .i64 rn) ∧ q.cell? ⟨sb, 4, none⟩ = some (.int .i64 m.li)) 12 (by kernel_rfl) ?_
          generalize w1.drew = q at *
          refine wpAnyT_take (i := 0) (oi := { dst := some 23, op := Op.fieldAddr 33 (Operand.tmp 4) 0, type := 0, pos := "state.go:84", after := #[], guard := none }) (v := .pointer (some ⟨pA, 0, none⟩)) [1, 2, 3, 11, 12] rfl (by kernel_rfl) (by kernel_rfl) (by kernel_rfl) (by kernel_rfl) (fun _ _ _ h => h) (Or.inl ⟨by rfl, ?_⟩) KP.out ?_
          · intro wq hSw
            obtain ⟨y0, y1, y2⟩ := hSw
            go_simp
          (try simp only [Act.put, List.setIfInBounds_toArray, List.set_cons_zero, List.set_cons_succ])
          refine wpAnyT_take (i := 1) (oi := { dst := some 24, op := Op.load 3 (Operand.tmp 23), type := 3, pos := "state.go:84", after := #[{ on := 0, ground := Ground.data }], guard := none }) (v := .int .i64 ck) [2, 3, 11, 12] rfl (by kernel_rfl) (by kernel_rfl) (by kernel_rfl) (by kernel_rfl) (fun _ _ _ h => h) (Or.inl ⟨by rfl, ?_⟩) KP.out ?_
          · intro wq hSw
            obtain ⟨y0, y1, y2⟩ := hSw
            go_simp
          (try simp only [Act.put, List.setIfInBounds_toArray, List.set_cons_zero, List.set_cons_succ])
          refine wpAnyT_take (i := 2) (oi := { dst := some 25, op := Op.binOp BinOp.eql 3 (Operand.tmp 24) (Operand.const (Value.int IntKind.i64 2)) 3, type := 4, pos := "state.go:84", after := #[{ on := 1, ground := Ground.data }], guard := none }) (v := .bool false) [3, 11, 12] rfl (by kernel_rfl) (by kernel_rfl) (by kernel_rfl) (by kernel_rfl) (fun _ _ _ h => h) (Or.inl ⟨by rfl, ?_⟩) KP.out ?_
          · intro wq hSw
            obtain ⟨y0, y1, y2⟩ := hSw
            go_simp
          (try simp only [Act.put, List.setIfInBounds_toArray, List.set_cons_zero, List.set_cons_succ])
          refine wpAnyT_take (i := 3) (oi := { dst := some 26, op := Op.move (Operand.tmp 25), type := 4, pos := "state.go:84", after := #[{ on := 2, ground := Ground.data }], guard := none }) (v := .bool false) [11, 12] rfl (by kernel_rfl) (by kernel_rfl) (by kernel_rfl) (by kernel_rfl) (fun _ _ _ h => h) (Or.inl ⟨by rfl, ?_⟩) KP.out ?_
          · intro wq hSw
            obtain ⟨y0, y1, y2⟩ := hSw
            go_simp
          (try simp only [Act.put, List.setIfInBounds_toArray, List.set_cons_zero, List.set_cons_succ])
          refine wpAnyT_take (i := 4) (oi := { dst := some 27, op := Op.fieldAddr 35 (Operand.tmp 5) 1, type := 0, pos := "state.go:84", after := #[{ on := 3, ground := Ground.guard }], guard := some (3, false) }) (v := .pointer (some ⟨pB, 1, none⟩)) [5, 10, 11, 12] rfl (by kernel_rfl) (by kernel_rfl) (by kernel_rfl) (by kernel_rfl) (fun _ _ _ h => h) (Or.inl ⟨by rfl, ?_⟩) KP.out ?_
          · intro wq hSw
            obtain ⟨y0, y1, y2⟩ := hSw
            go_simp
          (try simp only [Act.put, List.setIfInBounds_toArray, List.set_cons_zero, List.set_cons_succ])
          refine wpAnyT_take (i := 5) (oi := { dst := some 28, op := Op.load 2 (Operand.tmp 27), type := 2, pos := "state.go:84", after := #[{ on := 4, ground := Ground.data }, { on := 3, ground := Ground.guard }], guard := some (3, false) }) (v := .int .i64 rn) [10, 11, 12] rfl (by kernel_rfl) (by kernel_rfl) (by kernel_rfl) (by kernel_rfl) (fun _ _ _ h => h) (Or.inl ⟨by rfl, ?_⟩) KP.out ?_
          · intro wq hSw
            obtain ⟨y0, y1, y2⟩ := hSw
            go_simp
          (try simp only [Act.put, List.setIfInBounds_toArray, List.set_cons_zero, List.set_cons_succ])
          refine wpAnyT_take (i := 6) (oi := { dst := some 29, op := Op.move (Operand.tmp 0), type := 47, pos := "state.go:84", after := #[{ on := 3, ground := Ground.guard }], guard := some (3, false) }) (v := .pointer (some ⟨sb, 0, none⟩)) [7, 8, 9, 10, 11, 12] rfl (by kernel_rfl) (by kernel_rfl) (by kernel_rfl) (by kernel_rfl) (fun _ _ _ h => h) (Or.inl ⟨by rfl, ?_⟩) KP.out ?_
          · intro wq hSw
            obtain ⟨y0, y1, y2⟩ := hSw
            go_simp
          (try simp only [Act.put, List.setIfInBounds_toArray, List.set_cons_zero, List.set_cons_succ])
          refine wpAnyT_take (i := 7) (oi := { dst := some 30, op := Op.nilCheck (Operand.tmp 29), type := 0, pos := "state.go:84", after := #[{ on := 6, ground := Ground.data }, { on := 3, ground := Ground.guard }], guard := some (3, false) }) (v := .pointer (some ⟨sb, 0, none⟩)) [8, 9, 10, 11, 12] rfl (by kernel_rfl) (by kernel_rfl) (by kernel_rfl) (by kernel_rfl) (fun _ _ _ h => h) (Or.inl ⟨by rfl, ?_⟩) KP.out ?_
          · intro wq hSw
            obtain ⟨y0, y1, y2⟩ := hSw
            go_simp
          (try simp only [Act.put, List.setIfInBounds_toArray, List.set_cons_zero, List.set_cons_succ])
          refine wpAnyT_take (i := 8) (oi := { dst := some 31, op := Op.fieldAddr 58 (Operand.tmp 30) 4, type := 0, pos := "state.go:84", after := #[{ on := 7, ground := Ground.data }, { on := 3, ground := Ground.guard }], guard := some (3, false) }) (v := .pointer (some ⟨sb, 4, none⟩)) [9, 10, 11, 12] rfl (by kernel_rfl) (by kernel_rfl) (by kernel_rfl) (by kernel_rfl) (fun _ _ _ h => h) (Or.inl ⟨by rfl, ?_⟩) KP.out ?_
          · intro wq hSw
            obtain ⟨y0, y1, y2⟩ := hSw
            go_simp
          (try simp only [Act.put, List.setIfInBounds_toArray, List.set_cons_zero, List.set_cons_succ])
          refine wpAnyT_take (i := 9) (oi := { dst := some 32, op := Op.load 2 (Operand.tmp 31), type := 2, pos := "state.go:84", after := #[{ on := 8, ground := Ground.data }, { on := 3, ground := Ground.guard }], guard := some (3, false) }) (v := .int .i64 m.li) [10, 11, 12] rfl (by kernel_rfl) (by kernel_rfl) (by kernel_rfl) (by kernel_rfl) (fun _ _ _ h => h) (Or.inl ⟨by rfl, ?_⟩) KP.out ?_
          · intro wq hSw
            obtain ⟨y0, y1, y2⟩ := hSw
            go_simp
          (try simp only [Act.put, List.setIfInBounds_toArray, List.set_cons_zero, List.set_cons_succ])
          refine wpAnyT_take (i := 10) (oi := { dst := some 33, op := Op.binOp BinOp.lss 2 (Operand.tmp 28) (Operand.tmp 32) 2, type := 4, pos := "state.go:84", after := #[{ on := 5, ground := Ground.data }, { on := 9, ground := Ground.data }, { on := 3, ground := Ground.guard }], guard := some (3, false) }) (v := .bool false) [11, 12] rfl (by kernel_rfl) (by kernel_rfl) (by kernel_rfl) (by kernel_rfl) (fun _ _ _ h => h) (Or.inl ⟨by rfl, ?_⟩) KP.out ?_
          · intro wq hSw
            obtain ⟨y0, y1, y2⟩ := hSw
            go_simp
          (try simp only [Act.put, List.setIfInBounds_toArray, List.set_cons_zero, List.set_cons_succ])
          refine wpAnyT_take (i := 11) (oi := { dst := some 34, op := Op.pick (Operand.tmp 26) (Operand.const (Value.bool true)) (Operand.tmp 33), type := 4, pos := "state.go:84", after := #[{ on := 3, ground := Ground.data }, { on := 10, ground := Ground.data }], guard := none }) (v := .bool false) [12] rfl (by kernel_rfl) (by kernel_rfl) (by kernel_rfl) (by kernel_rfl) (fun _ _ _ h => h) (Or.inl ⟨by rfl, ?_⟩) KP.out ?_
          · intro wq hSw
            obtain ⟨y0, y1, y2⟩ := hSw
            go_simp
          (try simp only [Act.put, List.setIfInBounds_toArray, List.set_cons_zero, List.set_cons_succ])
          refine wpAnyT_one (i := 12) (o := { dst := some 35, op := Op.call { callee := Callee.value (Operand.func 34), args := #[Operand.tmp 34], argTypes := #[4] }, type := 0, pos := "state.go:84", after := #[{ on := 11, ground := Ground.data }, { on := 3, ground := Ground.chain }], guard := none }) (by kernel_rfl) rfl (fun K hK => ?_)
          go_simp
          go_at_call 34
          refine (must_no _).mono ?_
          rintro e w' ⟨rfl, hw⟩
          rw [hw]
          clear hw w'
          exact ⟨rfl, Goes.none SQ.out.2.1⟩
    · rw [if_neg h1]
      have k1 : (re == 0) = false := by simpa using h1
      by_cases h4 : re = 40 ∧ rn ≠ 0
      · rw [if_pos h4]
        obtain ⟨h4, h5⟩ := h4
        subst h4
        have k5 : (rn != 0) = true := by simp [h5]
        have RES1 := hide (RES.out w1 (But.refl _ _) S1.out.1)
        clear RES
        cases R with
        | none =>
          rw [Option.bind_none]
          go_enter Try.func38, Try.ntmps38
          go_upto_region 1 with fail
          rw [hw1'.out, hpA.out, hpB.out]
          go_wp2_with (first
            | (go_at_call 34; refine (must_yes _).mono ?_; rintro e w' ⟨rfl, hw⟩; rw [hw]; clear hw w')
            | (go_at_call 44; refine RES1.out.mono ?_; rintro e w3 ⟨g3, rfl⟩))
          exact ⟨rfl, Goes.none (S1.out.2.trans g3)⟩
        | some m1 =>
          rw [Option.bind_some]
          have LOS : Hid (∀ q, St sb q m1 → Calls Try.prog 45 #[.pointer (some ⟨sb, 0, none⟩), .int .i64 rn] q fun e w' => Goes sb q (loseS m1 rn) e w') := hide (fun q hs => lose_any q hs rn)
          obtain ⟨Q, hQ⟩ : ∃ Q, Hid (loseS m1 rn = Q) := ⟨_, rfl⟩
          rw [hQ.out] at LOS ⊢
          cases Q with
          | none =>
            go_enter Try.func38, Try.ntmps38
            go_upto_region 1 with fail
            rw [hw1'.out, hpA.out, hpB.out]
            go_wp2_with (first
              | (go_at_call 34; refine (must_yes _).mono ?_; rintro e w' ⟨rfl, hw⟩; rw [hw]; clear hw w')
              | (go_at_call 44; refine RES1.out.mono ?_; rintro e w3 ⟨g3, rfl, s3⟩; obtain ⟨-, a1, a2, -, b1, b2⟩ := BXS.out w3 g3; replace g3 := hide g3; replace s3 := hide s3)
              | (go_at_call 45; refine (LOS.out w3 s3.out).mono ?_; rintro e w4 ⟨g4, rfl⟩))
            exact ⟨rfl, Goes.none ((S1.out.2.trans g3.out).trans g4)⟩
          | some m2 =>
            go_enter Try.func38, Try.ntmps38
            go_upto_region 1 with fail
            rw [hw1'.out, hpA.out, hpB.out]
            go_wp2_with (first
              | (go_at_call 34; refine (must_yes _).mono ?_; rintro e w' ⟨rfl, hw⟩; rw [hw]; clear hw w')
              | (go_at_call 44; refine RES1.out.mono ?_; rintro e w3 ⟨g3, rfl, s3⟩; obtain ⟨-, a1, a2, -, b1, b2⟩ := BXS.out w3 g3; replace g3 := hide g3; replace s3 := hide s3)
              | (go_at_call 45; refine (LOS.out w3 s3.out).mono ?_; rintro e w4 ⟨g4, rfl, s4⟩))
            first | go_end0 | refine bodyPost_ret (results_none rfl _ _ _) rfl ?_
            exact Goes.some ((S1.out.2.trans g3.out).trans g4) s4
      · rw [if_neg h4]
        clear RES
        by_cases h5 : rn = 0
        · subst h5
          rw [if_pos rfl]
          have REF := hide (refuse_any w1 S1.out.1 re)
          obtain ⟨Q, hQ⟩ : ∃ Q, Hid (refuseS m re = Q) := ⟨_, rfl⟩
          rw [hQ.out] at REF ⊢
          by_cases h6 : re = 40
          · subst h6
            cases Q with
            | none =>
              go_enter Try.func38, Try.ntmps38
              go_upto_region 1 with fail
              rw [hw1'.out, hpA.out, hpB.out]
              go_wp2_with (first
                | (go_at_call 34; refine (must_yes _).mono ?_; rintro e w' ⟨rfl, hw⟩; rw [hw]; clear hw w')
                | (go_at_call 46; refine REF.out.mono ?_; rintro e w3 ⟨g3, rfl⟩))
              exact ⟨rfl, Goes.none (S1.out.2.trans g3)⟩
            | some m1 =>
              go_enter Try.func38, Try.ntmps38
              go_upto_region 1 with fail
              rw [hw1'.out, hpA.out, hpB.out]
              go_wp2_with (first
                | (go_at_call 34; refine (must_yes _).mono ?_; rintro e w' ⟨rfl, hw⟩; rw [hw]; clear hw w')
                | (go_at_call 46; refine REF.out.mono ?_; rintro e w3 ⟨g3, rfl, s3⟩))
              first | go_end0 | refine bodyPost_ret (results_none rfl _ _ _) rfl ?_
              exact Goes.some (S1.out.2.trans g3) s3
          · have k6 : (re == 40) = false := by simpa using h6
            cases Q with
            | none =>
              go_enter Try.func38, Try.ntmps38
              go_upto_region 1 with fail
              rw [hw1'.out, hpA.out, hpB.out]
              go_wp2_with (first
                | (go_at_call 34; refine (must_yes _).mono ?_; rintro e w' ⟨rfl, hw⟩; rw [hw]; clear hw w')
                | (go_at_call 46; refine REF.out.mono ?_; rintro e w3 ⟨g3, rfl⟩))
              exact ⟨rfl, Goes.none (S1.out.2.trans g3)⟩
            | some m1 =>
              go_enter Try.func38, Try.ntmps38
              go_upto_region 1 with fail
              rw [hw1'.out, hpA.out, hpB.out]
              go_wp2_with (first
                | (go_at_call 34; refine (must_yes _).mono ?_; rintro e w' ⟨rfl, hw⟩; rw [hw]; clear hw w')
                | (go_at_call 46; refine REF.out.mono ?_; rintro e w3 ⟨g3, rfl, s3⟩))
              first | go_end0 | refine bodyPost_ret (results_none rfl _ _ _) rfl ?_
              exact Goes.some (S1.out.2.trans g3) s3
        · rw [if_neg h5]
          have h6 : ¬ re = 40 := fun c => h4 ⟨c, h5⟩
          have k6 : (re == 40) = false := by simpa using h6
          have k5 : (rn == 0) = false := by simpa using h5
          go_enter Try.func38, Try.ntmps38
          go_upto_region 1 with fail
          rw [hw1'.out, hpA.out, hpB.out]
          go_upto_region 2 with (go_at_call 34; refine (must_yes _).mono ?_; rintro e w' ⟨rfl, hw⟩; rw [hw]; clear hw w')
          go_wp2_with (go_at_call 34; refine (must_no _).mono ?_; rintro e w' ⟨rfl, hw⟩; rw [hw]; clear hw w')
          exact ⟨rfl, Goes.none S1.out.2⟩
  · rw [if_neg h0]
    have k0 : ((LR : Int) == 0) = false := by simpa using h0
    go_enter Try.func38, Try.ntmps38
    go_upto_region 1 with fail
    rw [hw1'.out, hpA.out, hpB.out]
    go_wp2_with (go_at_call 34; refine (must_no _).mono ?_; rintro e w' ⟨rfl, hw⟩; rw [hw]; clear hw w')
    exact ⟨rfl, Goes.none S1.out.2⟩
end Go.Proofs.Ytmehlgebbbkdiaa.Um

