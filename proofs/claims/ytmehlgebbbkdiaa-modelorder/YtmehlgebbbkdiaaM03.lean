/-
  read of a state. (gen_UmI.py)
-/
import Derived.Test.YtmehlgebbbkdiaaM02
import Derived.BigRegion
import Derived.BigQuiet
import Derived.Deep.RegionHeld3
import Derived.Deep.Cut
namespace Go.Proofs.Ytmehlgebbbkdiaa.Um
open Go.RowKit Go.Maps
open Ix (wp_region_T wpAnyT wpAnyT_take wpAnyT_one wpAnyT_done vac)
set_option linter.unusedVariables false
set_option linter.unusedSimpArgs false
set_option maxRecDepth 100000
set_option maxHeartbeats 2000000 in
theorem read_ok (w : World) {sb : Nat} {m : Md} (h : St sb w m) (hx : I64 m.nx) (hb : I64 m.ba) (hl : m.rs.length ≤ 1000) (c : Cl) (hn : I64 c.n) (r : Rs) (ao bo : Option Addr) (ca cb : Nat) (hd : Sd sb w (.slice bo r.d.length cb) r.d) (h0 : r.e = 0) :
    Calls Try.prog 40 #[.pointer (some ⟨sb, 0, none⟩), .agg #[.int .i64 c.k, .int .i64 c.n, .slice ao c.d.length ca], .agg #[.int .i64 r.e, .int .i64 r.n, .slice bo r.d.length cb]] w fun e w' => Goes sb w (readS m c r) e w' := by
  obtain ⟨ck, cn, cd⟩ := c
  obtain ⟨re, rn, rd⟩ := r
  obtain ⟨LC, hLC⟩ : ∃ L : Nat, Hid (cd.length = L) := ⟨_, rfl⟩
  obtain ⟨LR, hLR⟩ : ∃ L : Nat, Hid (rd.length = L) := ⟨_, rfl⟩
  simp only [hLC.out, hLR.out]
  have B0 := box_below w (.cells #[.int .i64 ck, .int .i64 cn, .slice ao LC ca] 33)
  have N0 := heap_alloc_new w (.cells #[.int .i64 ck, .int .i64 cn, .slice ao LC ca] 33)
  obtain ⟨w0, hw0⟩ : ∃ w0, Hid (w.alloc (.cells #[.int .i64 ck, .int .i64 cn, .slice ao LC ca] 33) = w0) := ⟨_, rfl⟩
  have hz0 : w0.heap.size = w.heap.size + 1 := by rw [← hw0.out]; simp
  rw [hw0.out] at B0 N0
  have B1 := box_below w0 (.cells #[.int .i64 re, .int .i64 rn, .slice bo LR cb] 35)
  have N1 := heap_alloc_new w0 (.cells #[.int .i64 re, .int .i64 rn, .slice bo LR cb] 35)
  obtain ⟨w1, hw1⟩ : ∃ w1, Hid (w0.alloc (.cells #[.int .i64 re, .int .i64 rn, .slice bo LR cb] 35) = w1) := ⟨_, rfl⟩
  rw [hw1.out] at B1 N1
  rw [hz0] at N1
  have N0 := (B1.block _ (heap_lt N0)).trans N0
  have hB1 : Hid (Below w.heap.size w w1) := hide (B0.trans ⟨B1.os, B1.tape, B1.output, B1.size, fun k hk => B1.block k (by omega)⟩)
  have hsb := h.lt
  have BXS : Hid (∀ q, But (fun k => k = sb) w1 q → q.cell? ⟨w.heap.size, 0, none⟩ = some (.int .i64 ck) ∧ q.cell? ⟨w.heap.size, 1, none⟩ = some (.int .i64 cn) ∧ q.cell? ⟨w.heap.size, 2, none⟩ = some (.slice ao LC ca) ∧ q.cell? ⟨w.heap.size + 1, 0, none⟩ = some (.int .i64 re) ∧ q.cell? ⟨w.heap.size + 1, 1, none⟩ = some (.int .i64 rn) ∧ q.cell? ⟨w.heap.size + 1, 2, none⟩ = some (.slice bo LR cb)) := hide (fun q hq => by
    have e0 := (hq.block _ (heap_lt N0) (by omega)).trans N0
    have e1 := (hq.block _ (heap_lt N1) (by omega)).trans N1
    refine ⟨?_, ?_, ?_, ?_, ?_, ?_⟩ <;> first | (rw [cell_of e0]; rfl) | (rw [cell_of e1]; rfl))
  have S1 : Hid (St sb w1 m ∧ But (fun k => k = sb) w w1) := hide ⟨h.below hB1.out, But.of_below hB1.out _⟩
  obtain ⟨pA, hpA⟩ : ∃ pA, Hid (w.heap.size = pA) := ⟨_, rfl⟩
  rw [hpA.out] at BXS
  rw [hpA.out] at hz0
  obtain ⟨pB, hpB⟩ : ∃ pB, Hid (pA + 1 = pB) := ⟨_, rfl⟩
  rw [hpB.out] at BXS hz0
  have hz0 := hide hz0
  have hw1' : Hid ((w.alloc (.cells #[.int .i64 ck, .int .i64 cn, .slice ao LC ca] 33)).alloc (.cells #[.int .i64 re, .int .i64 rn, .slice bo LR cb] 35) = w1) := hide (by rw [hw0.out, hw1.out])
  obtain ⟨x0, x1, x2, x3, x4, x5⟩ := BXS.out w1 (But.refl _ _)
  obtain ⟨v, -, c0, c1, c2, c3, c4, c5, c6, c7, z⟩ := S1.out.1.open
  have z6 := z 6
  have z7 := z 7
  have z1 := z 1
  clear B0 N0 B1 N1 hw1 h hsb z
  have HAS : Hid (Calls Try.prog 48 #[.pointer (some ⟨sb, 0, none⟩), .int .i64 cn, .slice bo LR cb] w1 fun e w' => e = .returned (.bool (hasB m cn rd)) ∧ w' = w1) := hide (by
    have := has_any w1 S1.out.1 hb hl cn hn (.slice bo rd.length cb) rd (hd.but (But.of_below hB1.out _)).now
    simp only [hLR.out] at this
    exact this)
  have RV := hide (reserved_any w1 S1.out.1 cn)
  have RA := hide (raise_any w1 S1.out.1 (cn + 1))
  have hx2 := hx.2
  have hn1 : -9223372036854775808 ≤ cn := hn.1
  simp only at h0
  subst h0
  have SS : Hid (readS m ⟨ck, cn, cd⟩ ⟨0, rn, rd⟩ = if rn = cn ∧ reservedB m cn = true ∧ hasB m cn rd = true then raiseS m (cn + 1) else none) := hide (by unfold readS; rw [if_pos rfl])
  rw [SS.out]
  clear hd hx hb hl SS hLC hLR
  by_cases h1 : rn = cn
  · have k1 : Hid (reservedB m cn = true → IntKind.i64.wrap (cn + 1) = cn + 1) := hide (fun c => by
      unfold reservedB at c
      simp at c
      rw [IntKind.wrap_i64]; omega)
    subst h1
    obtain ⟨b1, hb1⟩ : ∃ b, Hid (reservedB m rn = b) := ⟨_, rfl⟩
    rw [hb1.out] at RV k1 ⊢
    obtain ⟨b2, hb2⟩ : ∃ b, Hid (hasB m rn rd = b) := ⟨_, rfl⟩
    rw [hb2.out] at HAS ⊢
    obtain ⟨R, hR⟩ : ∃ R, Hid (raiseS m (rn + 1) = R) := ⟨_, rfl⟩
    rw [hR.out] at RA ⊢
    cases b1 with
    | false =>
      rw [if_neg (by simp)]
      go_enter Try.func40, Try.ntmps40
      go_upto_region 1 with fail
      rw [hw1'.out, hpA.out, hpB.out]
      go_wp2_with (first | (go_at_call 47; refine RV.out.mono ?_; rintro e w' ⟨rfl, hw⟩; rw [hw]; clear hw w') | (go_at_call 34; refine (must_no _).mono ?_; rintro e w' ⟨rfl, hw⟩; rw [hw]; clear hw w'))
      exact ⟨rfl, Goes.none S1.out.2⟩
    | true =>
      have k2 := k1.out rfl
      cases b2 with
      | false =>
        rw [if_neg (by simp)]
        go_enter Try.func40, Try.ntmps40
        go_upto_region 1 with fail
        rw [hw1'.out, hpA.out, hpB.out]
        go_wp2_with (first | (go_at_call 47; refine RV.out.mono ?_; rintro e w' ⟨rfl, hw⟩; rw [hw]; clear hw w') | (go_at_call 48; refine HAS.out.mono ?_; rintro e w' ⟨rfl, hw⟩; rw [hw]; clear hw w') | (go_at_call 34; refine (must_no _).mono ?_; rintro e w' ⟨rfl, hw⟩; rw [hw]; clear hw w'))
        exact ⟨rfl, Goes.none S1.out.2⟩
      | true =>
        rw [if_pos ⟨rfl, rfl, rfl⟩]
        cases R with
        | none =>
          go_enter Try.func40, Try.ntmps40
          go_upto_region 1 with fail
          rw [hw1'.out, hpA.out, hpB.out]
          go_wp2_with (first | (go_at_call 47; refine RV.out.mono ?_; rintro e w' ⟨rfl, hw⟩; rw [hw]; clear hw w') | (go_at_call 48; refine HAS.out.mono ?_; rintro e w' ⟨rfl, hw⟩; rw [hw]; clear hw w') | (go_at_call 34; refine (must_yes _).mono ?_; rintro e w' ⟨rfl, hw⟩; rw [hw]; clear hw w') | (go_at_call 49; refine RA.out.mono ?_; rintro e w3 ⟨g3, rfl⟩))
          exact ⟨rfl, Goes.none (S1.out.2.trans g3)⟩
        | some m1 =>
          go_enter Try.func40, Try.ntmps40
          go_upto_region 1 with fail
          rw [hw1'.out, hpA.out, hpB.out]
          go_wp2_with (first | (go_at_call 47; refine RV.out.mono ?_; rintro e w' ⟨rfl, hw⟩; rw [hw]; clear hw w') | (go_at_call 48; refine HAS.out.mono ?_; rintro e w' ⟨rfl, hw⟩; rw [hw]; clear hw w') | (go_at_call 34; refine (must_yes _).mono ?_; rintro e w' ⟨rfl, hw⟩; rw [hw]; clear hw w') | (go_at_call 49; refine RA.out.mono ?_; rintro e w3 ⟨g3, rfl, s3⟩))
          first | go_end0 | refine bodyPost_ret (results_none rfl _ _ _) rfl ?_
          exact Goes.some (S1.out.2.trans g3) s3
  · rw [if_neg (fun c => h1 c.1)]
    have k1 : (rn == cn) = false := by simpa using h1
    go_enter Try.func40, Try.ntmps40
    go_upto_region 1 with fail
    rw [hw1'.out, hpA.out, hpB.out]
    go_wp2_with (go_at_call 34; refine (must_no _).mono ?_; rintro e w' ⟨rfl, hw⟩; rw [hw]; clear hw w')
    exact ⟨rfl, Goes.none S1.out.2⟩
set_option maxHeartbeats 4000000 in
theorem read_no (w : World) {sb : Nat} {m : Md} (h : St sb w m) (hx : I64 m.nx) (hb : I64 m.ba) (hl : m.rs.length ≤ 1000) (c : Cl) (hn : I64 c.n) (r : Rs) (ao bo : Option Addr) (ca cb : Nat) (hd : Sd sb w (.slice bo r.d.length cb) r.d) (h0 : r.e ≠ 0) :
    Calls Try.prog 40 #[.pointer (some ⟨sb, 0, none⟩), .agg #[.int .i64 c.k, .int .i64 c.n, .slice ao c.d.length ca], .agg #[.int .i64 r.e, .int .i64 r.n, .slice bo r.d.length cb]] w fun e w' => Goes sb w (readS m c r) e w' := by
  obtain ⟨ck, cn, cd⟩ := c
  obtain ⟨re, rn, rd⟩ := r
  obtain ⟨LC, hLC⟩ : ∃ L : Nat, Hid (cd.length = L) := ⟨_, rfl⟩
  obtain ⟨LR, hLR⟩ : ∃ L : Nat, Hid (rd.length = L) := ⟨_, rfl⟩
  simp only [hLC.out, hLR.out]
  have B0 := box_below w (.cells #[.int .i64 ck, .int .i64 cn, .slice ao LC ca] 33)
  have N0 := heap_alloc_new w (.cells #[.int .i64 ck, .int .i64 cn, .slice ao LC ca] 33)
  obtain ⟨w0, hw0⟩ : ∃ w0, Hid (w.alloc (.cells #[.int .i64 ck, .int .i64 cn, .slice ao LC ca] 33) = w0) := ⟨_, rfl⟩
  have hz0 : w0.heap.size = w.heap.size + 1 := by rw [← hw0.out]; simp
  rw [hw0.out] at B0 N0
  have B1 := box_below w0 (.cells #[.int .i64 re, .int .i64 rn, .slice bo LR cb] 35)
  have N1 := heap_alloc_new w0 (.cells #[.int .i64 re, .int .i64 rn, .slice bo LR cb] 35)
  obtain ⟨w1, hw1⟩ : ∃ w1, Hid (w0.alloc (.cells #[.int .i64 re, .int .i64 rn, .slice bo LR cb] 35) = w1) := ⟨_, rfl⟩
  rw [hw1.out] at B1 N1
  rw [hz0] at N1
  have N0 := (B1.block _ (heap_lt N0)).trans N0
  have hB1 : Hid (Below w.heap.size w w1) := hide (B0.trans ⟨B1.os, B1.tape, B1.output, B1.size, fun k hk => B1.block k (by omega)⟩)
  have hsb := h.lt
  have BXS : Hid (∀ q, But (fun k => k = sb) w1 q → q.cell? ⟨w.heap.size, 0, none⟩ = some (.int .i64 ck) ∧ q.cell? ⟨w.heap.size, 1, none⟩ = some (.int .i64 cn) ∧ q.cell? ⟨w.heap.size, 2, none⟩ = some (.slice ao LC ca) ∧ q.cell? ⟨w.heap.size + 1, 0, none⟩ = some (.int .i64 re) ∧ q.cell? ⟨w.heap.size + 1, 1, none⟩ = some (.int .i64 rn) ∧ q.cell? ⟨w.heap.size + 1, 2, none⟩ = some (.slice bo LR cb)) := hide (fun q hq => by
    have e0 := (hq.block _ (heap_lt N0) (by omega)).trans N0
    have e1 := (hq.block _ (heap_lt N1) (by omega)).trans N1
    refine ⟨?_, ?_, ?_, ?_, ?_, ?_⟩ <;> first | (rw [cell_of e0]; rfl) | (rw [cell_of e1]; rfl))
  have S1 : Hid (St sb w1 m ∧ But (fun k => k = sb) w w1) := hide ⟨h.below hB1.out, But.of_below hB1.out _⟩
  obtain ⟨pA, hpA⟩ : ∃ pA, Hid (w.heap.size = pA) := ⟨_, rfl⟩
  rw [hpA.out] at BXS
  rw [hpA.out] at hz0
  obtain ⟨pB, hpB⟩ : ∃ pB, Hid (pA + 1 = pB) := ⟨_, rfl⟩
  rw [hpB.out] at BXS hz0
  have hz0 := hide hz0
  have hw1' : Hid ((w.alloc (.cells #[.int .i64 ck, .int .i64 cn, .slice ao LC ca] 33)).alloc (.cells #[.int .i64 re, .int .i64 rn, .slice bo LR cb] 35) = w1) := hide (by rw [hw0.out, hw1.out])
  obtain ⟨x0, x1, x2, x3, x4, x5⟩ := BXS.out w1 (But.refl _ _)
  obtain ⟨v, -, c0, c1, c2, c3, c4, c5, c6, c7, z⟩ := S1.out.1.open
  have z6 := z 6
  have z7 := z 7
  have z1 := z 1
  clear B0 N0 B1 N1 hw1 h hsb z
  have BR : Hid (∀ q, Calls Try.prog 37 #[.agg #[.int .i64 re, .int .i64 rn, .slice bo LR cb]] q fun e w' => e = .returned (.bool (bareB ⟨re, rn, rd⟩)) ∧ Below q.heap.size q w') := hide (by
    intro q
    have := bare_any q ⟨re, rn, rd⟩ bo cb
    simp only [hLR.out] at this
    exact this)
  have RV := hide (fun q hq => reserved_any (sb := sb) (m := m) q hq cn)
  simp only at h0
  have SS : Hid (readS m ⟨ck, cn, cd⟩ ⟨re, rn, rd⟩ = if bareB ⟨re, rn, rd⟩ = true then
    if re = 43 then (if cn < m.fi then some m else none)
    else if re = 22 then (if reservedB m cn = true then some m else none)
    else if re = 42 ∧ ck = 4 then (if m.du ≤ cn ∧ m.fi ≤ cn then some m else none)
    else if re = 40 ∧ ck = 5 then (if m.du ≤ cn then some { m with fa := true } else none)
    else none
  else none) := hide (by unfold readS; rw [if_neg h0])
  rw [SS.out]
  have k0 : (re == 0) = false := by simpa using h0
  clear hd hx hb hl SS hLC hLR hn
  obtain ⟨bb, hbb⟩ : ∃ bb, Hid (bareB ⟨re, rn, rd⟩ = bb) := ⟨_, rfl⟩
  rw [hbb.out] at BR ⊢
  clear hbb
  cases bb with
  | false =>
    rw [if_neg (by simp)]
    go_enter Try.func40, Try.ntmps40
    go_upto_region 1 with fail
    rw [hw1'.out, hpA.out, hpB.out]
    go_wp2_with (first | (go_at_call 37; refine (BR.out _).mono ?_; rintro e w2 ⟨rfl, B2⟩; replace B2 := hide B2; have S2 : Hid (St sb w2 m ∧ But (fun k => k = sb) w w2) := hide ⟨S1.out.1.below B2.out, S1.out.2.trans (But.of_below B2.out _)⟩; clear x0 x1 x2 x3 x4 x5 c0 c1 c2 c3 c4 c5 c6 c7 z1 z6 z7; obtain ⟨x0, x1, x2, x3, x4, x5⟩ := BXS.out w2 (But.of_below B2.out _); obtain ⟨v, -, c0, c1, c2, c3, c4, c5, c6, c7, z⟩ := S2.out.1.open; have z6 := z 6; clear z) | (go_at_call 34; refine (must_no _).mono ?_; rintro e w' ⟨rfl, hw⟩; rw [hw]; clear hw w'))
    exact ⟨rfl, Goes.none S2.out.2⟩
  | true =>
    rw [if_pos rfl]
    by_cases h1 : re = 43
    · subst h1
      rw [if_pos rfl]
      by_cases h2 : cn < m.fi
      · rw [if_pos h2]
        go_enter Try.func40, Try.ntmps40
        go_upto_region 1 with fail
        rw [hw1'.out, hpA.out, hpB.out]
        go_upto_region 7 with (first | (go_at_call 37; refine (BR.out _).mono ?_; rintro e w2 ⟨rfl, B2⟩; replace B2 := hide B2; have S2 : Hid (St sb w2 m ∧ But (fun k => k = sb) w w2) := hide ⟨S1.out.1.below B2.out, S1.out.2.trans (But.of_below B2.out _)⟩; clear x0 x1 x2 x3 x4 x5 c0 c1 c2 c3 c4 c5 c6 c7 z1 z6 z7; obtain ⟨x0, x1, x2, x3, x4, x5⟩ := BXS.out w2 (But.of_below B2.out _); obtain ⟨v, -, c0, c1, c2, c3, c4, c5, c6, c7, z⟩ := S2.out.1.open; have z6 := z 6; clear z) | (go_at_call 34; refine (must_yes _).mono ?_; rintro e w' ⟨rfl, hw⟩; rw [hw]; clear hw w'))
        have KP : Hid (w2.drew.cell? ⟨pA, 1, none⟩ = some (.int .i64 cn) ∧ w2.drew.cell? ⟨sb, 1, none⟩ = some (.int .i64 m.fi)) := hide ⟨x1, c1⟩
        have DQ : Below w2.heap.size w2 w2.drew := (Below.refl _ _).drew
        have SQ : Hid (St sb w2.drew m ∧ But (fun k => k = sb) w w2.drew) := hide ⟨S2.out.1.below DQ, S2.out.2.trans (But.of_below DQ _)⟩
        clear DQ B2 S2 S1
        clear x0 x1 x2 x3 x4 x5 c0 c1 c2 c3 c4 c5 c6 c7 z6
        refine wp_region_T (fun q => q.cell? ⟨pA, 1, none⟩ = some (.int .i64 cn) ∧ q.cell? ⟨sb, 1, none⟩ = some (.int .i64 m.fi)) 7 (by kernel_rfl) ?_
        generalize w2.drew = q at *
        refine wpAnyT_take (i := 0) (oi := { dst := some 42, op := Op.fieldAddr 33 (Operand.tmp 4) 1, type := 0, pos := "state.go:144", after := #[], guard := none }) (v := .pointer (some ⟨pA, 1, none⟩)) [1, 6, 7] rfl (by kernel_rfl) (by kernel_rfl) (by kernel_rfl) (by kernel_rfl) (fun _ _ _ h => h) (Or.inl ⟨by rfl, ?_⟩) KP.out ?_
        · intro wq hSw
          obtain ⟨y0, y1⟩ := hSw
          go_simp
        (try simp only [Act.put, List.setIfInBounds_toArray, List.set_cons_zero, List.set_cons_succ])
        refine wpAnyT_take (i := 1) (oi := { dst := some 43, op := Op.load 2 (Operand.tmp 42), type := 2, pos := "state.go:144", after := #[{ on := 0, ground := Ground.data }], guard := none }) (v := .int .i64 cn) [6, 7] rfl (by kernel_rfl) (by kernel_rfl) (by kernel_rfl) (by kernel_rfl) (fun _ _ _ h => h) (Or.inl ⟨by rfl, ?_⟩) KP.out ?_
        · intro wq hSw
          obtain ⟨y0, y1⟩ := hSw
          go_simp
        (try simp only [Act.put, List.setIfInBounds_toArray, List.set_cons_zero, List.set_cons_succ])
        refine wpAnyT_take (i := 2) (oi := { dst := some 44, op := Op.move (Operand.tmp 0), type := 47, pos := "state.go:144", after := #[], guard := none }) (v := .pointer (some ⟨sb, 0, none⟩)) [3, 4, 5, 6, 7] rfl (by kernel_rfl) (by kernel_rfl) (by kernel_rfl) (by kernel_rfl) (fun _ _ _ h => h) (Or.inl ⟨by rfl, ?_⟩) KP.out ?_
        · intro wq hSw
          obtain ⟨y0, y1⟩ := hSw
          go_simp
        (try simp only [Act.put, List.setIfInBounds_toArray, List.set_cons_zero, List.set_cons_succ])
        refine wpAnyT_take (i := 3) (oi := { dst := some 45, op := Op.nilCheck (Operand.tmp 44), type := 0, pos := "state.go:144", after := #[{ on := 2, ground := Ground.data }], guard := none }) (v := .pointer (some ⟨sb, 0, none⟩)) [4, 5, 6, 7] rfl (by kernel_rfl) (by kernel_rfl) (by kernel_rfl) (by kernel_rfl) (fun _ _ _ h => h) (Or.inl ⟨by rfl, ?_⟩) KP.out ?_
        · intro wq hSw
          obtain ⟨y0, y1⟩ := hSw
          go_simp
        (try simp only [Act.put, List.setIfInBounds_toArray, List.set_cons_zero, List.set_cons_succ])
        refine wpAnyT_take (i := 4) (oi := { dst := some 46, op := Op.fieldAddr 58 (Operand.tmp 45) 1, type := 0, pos := "state.go:144", after := #[{ on := 3, ground := Ground.data }], guard := none }) (v := .pointer (some ⟨sb, 1, none⟩)) [5, 6, 7] rfl (by kernel_rfl) (by kernel_rfl) (by kernel_rfl) (by kernel_rfl) (fun _ _ _ h => h) (Or.inl ⟨by rfl, ?_⟩) KP.out ?_
        · intro wq hSw
          obtain ⟨y0, y1⟩ := hSw
          go_simp
        (try simp only [Act.put, List.setIfInBounds_toArray, List.set_cons_zero, List.set_cons_succ])
        refine wpAnyT_take (i := 5) (oi := { dst := some 47, op := Op.load 2 (Operand.tmp 46), type := 2, pos := "state.go:144", after := #[{ on := 4, ground := Ground.data }], guard := none }) (v := .int .i64 m.fi) [6, 7] rfl (by kernel_rfl) (by kernel_rfl) (by kernel_rfl) (by kernel_rfl) (fun _ _ _ h => h) (Or.inl ⟨by rfl, ?_⟩) KP.out ?_
        · intro wq hSw
          obtain ⟨y0, y1⟩ := hSw
          go_simp
        (try simp only [Act.put, List.setIfInBounds_toArray, List.set_cons_zero, List.set_cons_succ])
        refine wpAnyT_take (i := 6) (oi := { dst := some 48, op := Op.binOp BinOp.lss 2 (Operand.tmp 43) (Operand.tmp 47) 2, type := 4, pos := "state.go:144", after := #[{ on := 1, ground := Ground.data }, { on := 5, ground := Ground.data }], guard := none }) (v := .bool true) [7] rfl (by kernel_rfl) (by kernel_rfl) (by kernel_rfl) (by kernel_rfl) (fun _ _ _ h => h) (Or.inl ⟨by rfl, ?_⟩) KP.out ?_
        · intro wq hSw
          obtain ⟨y0, y1⟩ := hSw
          go_simp
        (try simp only [Act.put, List.setIfInBounds_toArray, List.set_cons_zero, List.set_cons_succ])
        refine wpAnyT_one (i := 7) (o := { dst := some 49, op := Op.call { callee := Callee.value (Operand.func 34), args := #[Operand.tmp 48], argTypes := #[4] }, type := 0, pos := "state.go:144", after := #[{ on := 6, ground := Ground.data }], guard := none }) (by kernel_rfl) rfl (fun K hK => ?_)
        go_simp
        go_at_call 34
        refine (must_yes _).mono ?_
        rintro e w' ⟨rfl, hw⟩
        rw [hw]
        clear hw w'
        refine hK.out _ _ (vac (by kernel_rfl)) ?_
        clear hK K
        refine wpAnyT_done (by kernel_rfl) ?_ _
        go_wp2_with fail
        first | go_end0 | refine bodyPost_ret (results_none rfl _ _ _) rfl ?_
        exact Goes.some SQ.out.2 SQ.out.1
      · rw [if_neg h2]
        have k2 : decide (cn < m.fi) = false := by simp; omega
        go_enter Try.func40, Try.ntmps40
        go_upto_region 1 with fail
        rw [hw1'.out, hpA.out, hpB.out]
        go_upto_region 7 with (first | (go_at_call 37; refine (BR.out _).mono ?_; rintro e w2 ⟨rfl, B2⟩; replace B2 := hide B2; have S2 : Hid (St sb w2 m ∧ But (fun k => k = sb) w w2) := hide ⟨S1.out.1.below B2.out, S1.out.2.trans (But.of_below B2.out _)⟩; clear x0 x1 x2 x3 x4 x5 c0 c1 c2 c3 c4 c5 c6 c7 z1 z6 z7; obtain ⟨x0, x1, x2, x3, x4, x5⟩ := BXS.out w2 (But.of_below B2.out _); obtain ⟨v, -, c0, c1, c2, c3, c4, c5, c6, c7, z⟩ := S2.out.1.open; have z6 := z 6; clear z) | (go_at_call 34; refine (must_yes _).mono ?_; rintro e w' ⟨rfl, hw⟩; rw [hw]; clear hw w'))
        have KP : Hid (w2.drew.cell? ⟨pA, 1, none⟩ = some (.int .i64 cn) ∧ w2.drew.cell? ⟨sb, 1, none⟩ = some (.int .i64 m.fi)) := hide ⟨x1, c1⟩
        have DQ : Below w2.heap.size w2 w2.drew := (Below.refl _ _).drew
        have SQ : Hid (St sb w2.drew m ∧ But (fun k => k = sb) w w2.drew) := hide ⟨S2.out.1.below DQ, S2.out.2.trans (But.of_below DQ _)⟩
        clear DQ B2 S2 S1
        clear x0 x1 x2 x3 x4 x5 c0 c1 c2 c3 c4 c5 c6 c7 z6
        refine wp_region_T (fun q => q.cell? ⟨pA, 1, none⟩ = some (.int .i64 cn) ∧ q.cell? ⟨sb, 1, none⟩ = some (.int .i64 m.fi)) 7 (by kernel_rfl) ?_
        generalize w2.drew = q at *
        refine wpAnyT_take (i := 0) (oi := { dst := some 42, op := Op.fieldAddr 33 (Operand.tmp 4) 1, type := 0, pos := "state.go:144", after := #[], guard := none }) (v := .pointer (some ⟨pA, 1, none⟩)) [1, 6, 7] rfl (by kernel_rfl) (by kernel_rfl) (by kernel_rfl) (by kernel_rfl) (fun _ _ _ h => h) (Or.inl ⟨by rfl, ?_⟩) KP.out ?_
        · intro wq hSw
          obtain ⟨y0, y1⟩ := hSw
          go_simp
        (try simp only [Act.put, List.setIfInBounds_toArray, List.set_cons_zero, List.set_cons_succ])
        refine wpAnyT_take (i := 1) (oi := { dst := some 43, op := Op.load 2 (Operand.tmp 42), type := 2, pos := "state.go:144", after := #[{ on := 0, ground := Ground.data }], guard := none }) (v := .int .i64 cn) [6, 7] rfl (by kernel_rfl) (by kernel_rfl) (by kernel_rfl) (by kernel_rfl) (fun _ _ _ h => h) (Or.inl ⟨by rfl, ?_⟩) KP.out ?_
        · intro wq hSw
          obtain ⟨y0, y1⟩ := hSw
          go_simp
        (try simp only [Act.put, List.setIfInBounds_toArray, List.set_cons_zero, List.set_cons_succ])
        refine wpAnyT_take (i := 2) (oi := { dst := some 44, op := Op.move (Operand.tmp 0), type := 47, pos := "state.go:144", after := #[], guard := none }) (v := .pointer (some ⟨sb, 0, none⟩)) [3, 4, 5, 6, 7] rfl (by kernel_rfl) (by kernel_rfl) (by kernel_rfl) (by kernel_rfl) (fun _ _ _ h => h) (Or.inl ⟨by rfl, ?_⟩) KP.out ?_
        · intro wq hSw
          obtain ⟨y0, y1⟩ := hSw
          go_simp
        (try simp only [Act.put, List.setIfInBounds_toArray, List.set_cons_zero, List.set_cons_succ])
        refine wpAnyT_take (i := 3) (oi := { dst := some 45, op := Op.nilCheck (Operand.tmp 44), type := 0, pos := "state.go:144", after := #[{ on := 2, ground := Ground.data }], guard := none }) (v := .pointer (some ⟨sb, 0, none⟩)) [4, 5, 6, 7] rfl (by kernel_rfl) (by kernel_rfl) (by kernel_rfl) (by kernel_rfl) (fun _ _ _ h => h) (Or.inl ⟨by rfl, ?_⟩) KP.out ?_
        · intro wq hSw
          obtain ⟨y0, y1⟩ := hSw
          go_simp
        (try simp only [Act.put, List.setIfInBounds_toArray, List.set_cons_zero, List.set_cons_succ])
        refine wpAnyT_take (i := 4) (oi := { dst := some 46, op := Op.fieldAddr 58 (Operand.tmp 45) 1, type := 0, pos := "state.go:144", after := #[{ on := 3, ground := Ground.data }], guard := none }) (v := .pointer (some ⟨sb, 1, none⟩)) [5, 6, 7] rfl (by kernel_rfl) (by kernel_rfl) (by kernel_rfl) (by kernel_rfl) (fun _ _ _ h => h) (Or.inl ⟨by rfl, ?_⟩) KP.out ?_
        · intro wq hSw
          obtain ⟨y0, y1⟩ := hSw
          go_simp
        (try simp only [Act.put, List.setIfInBounds_toArray, List.set_cons_zero, List.set_cons_succ])
        refine wpAnyT_take (i := 5) (oi := { dst := some 47, op := Op.load 2 (Operand.tmp 46), type := 2, pos := "state.go:144", after := #[{ on := 4, ground := Ground.data }], guard := none }) (v := .int .i64 m.fi) [6, 7] rfl (by kernel_rfl) (by kernel_rfl) (by kernel_rfl) (by kernel_rfl) (fun _ _ _ h => h) (Or.inl ⟨by rfl, ?_⟩) KP.out ?_
        · intro wq hSw
          obtain ⟨y0, y1⟩ := hSw
          go_simp
        (try simp only [Act.put, List.setIfInBounds_toArray, List.set_cons_zero, List.set_cons_succ])
        refine wpAnyT_take (i := 6) (oi := { dst := some 48, op := Op.binOp BinOp.lss 2 (Operand.tmp 43) (Operand.tmp 47) 2, type := 4, pos := "state.go:144", after := #[{ on := 1, ground := Ground.data }, { on := 5, ground := Ground.data }], guard := none }) (v := .bool false) [7] rfl (by kernel_rfl) (by kernel_rfl) (by kernel_rfl) (by kernel_rfl) (fun _ _ _ h => h) (Or.inl ⟨by rfl, ?_⟩) KP.out ?_
        · intro wq hSw
          obtain ⟨y0, y1⟩ := hSw
          go_simp
        (try simp only [Act.put, List.setIfInBounds_toArray, List.set_cons_zero, List.set_cons_succ])
        refine wpAnyT_one (i := 7) (o := { dst := some 49, op := Op.call { callee := Callee.value (Operand.func 34), args := #[Operand.tmp 48], argTypes := #[4] }, type := 0, pos := "state.go:144", after := #[{ on := 6, ground := Ground.data }], guard := none }) (by kernel_rfl) rfl (fun K hK => ?_)
        go_simp
        go_at_call 34
        refine (must_no _).mono ?_
        rintro e w' ⟨rfl, hw⟩
        rw [hw]
        clear hw w'
        exact ⟨rfl, Goes.none SQ.out.2⟩
    rw [if_neg h1]
    have k1 : (re == 43) = false := by simpa using h1
    by_cases h3 : re = 22
    · subst h3
      rw [if_pos rfl]
      obtain ⟨b1, hb1⟩ : ∃ b, Hid (reservedB m cn = b) := ⟨_, rfl⟩
      rw [hb1.out] at RV ⊢
      clear hb1
      cases b1 with
      | true =>
        rw [if_pos rfl]
        go_enter Try.func40, Try.ntmps40
        go_upto_region 1 with fail
        rw [hw1'.out, hpA.out, hpB.out]
        go_wp2_with (first | (go_at_call 37; refine (BR.out _).mono ?_; rintro e w2 ⟨rfl, B2⟩; replace B2 := hide B2; have S2 : Hid (St sb w2 m ∧ But (fun k => k = sb) w w2) := hide ⟨S1.out.1.below B2.out, S1.out.2.trans (But.of_below B2.out _)⟩; clear x0 x1 x2 x3 x4 x5 c0 c1 c2 c3 c4 c5 c6 c7 z1 z6 z7; obtain ⟨x0, x1, x2, x3, x4, x5⟩ := BXS.out w2 (But.of_below B2.out _); obtain ⟨v, -, c0, c1, c2, c3, c4, c5, c6, c7, z⟩ := S2.out.1.open; have z6 := z 6; clear z) | (go_at_call 47; refine (RV.out _ S2.out.1).mono ?_; rintro e w' ⟨rfl, hw⟩; rw [hw]; clear hw w') | (go_at_call 34; refine (must_yes _).mono ?_; rintro e w' ⟨rfl, hw⟩; rw [hw]; clear hw w'))
        first | go_end0 | refine bodyPost_ret (results_none rfl _ _ _) rfl ?_
        exact Goes.some S2.out.2 S2.out.1
      | false =>
        rw [if_neg (by simp)]
        go_enter Try.func40, Try.ntmps40
        go_upto_region 1 with fail
        rw [hw1'.out, hpA.out, hpB.out]
        go_upto_region 9 with (first | (go_at_call 37; refine (BR.out _).mono ?_; rintro e w2 ⟨rfl, B2⟩; replace B2 := hide B2; have S2 : Hid (St sb w2 m ∧ But (fun k => k = sb) w w2) := hide ⟨S1.out.1.below B2.out, S1.out.2.trans (But.of_below B2.out _)⟩; clear x0 x1 x2 x3 x4 x5 c0 c1 c2 c3 c4 c5 c6 c7 z1 z6 z7; obtain ⟨x0, x1, x2, x3, x4, x5⟩ := BXS.out w2 (But.of_below B2.out _); obtain ⟨v, -, c0, c1, c2, c3, c4, c5, c6, c7, z⟩ := S2.out.1.open; have z6 := z 6; clear z) | (go_at_call 34; refine (must_yes _).mono ?_; rintro e w' ⟨rfl, hw⟩; rw [hw]; clear hw w'))
        go_wp2_with (first | (go_at_call 47; refine (RV.out _ S2.out.1).mono ?_; rintro e w' ⟨rfl, hw⟩; rw [hw]; clear hw w') | (go_at_call 34; refine (must_no _).mono ?_; rintro e w' ⟨rfl, hw⟩; rw [hw]; clear hw w'))
        exact ⟨rfl, Goes.none S2.out.2⟩
    rw [if_neg h3]
    have k3 : (re == 22) = false := by simpa using h3
    clear RV
    by_cases h4 : re = 42 ∧ ck = 4
    · obtain ⟨h4, h5⟩ := h4
      subst h4
      subst h5
      rw [if_pos ⟨rfl, rfl⟩]
      by_cases h6 : m.du ≤ cn
      · by_cases h7 : m.fi ≤ cn
        · rw [if_pos ⟨h6, h7⟩]
          go_enter Try.func40, Try.ntmps40
          go_upto_region 1 with fail
          rw [hw1'.out, hpA.out, hpB.out]
          go_upto_region 11 with (first | (go_at_call 37; refine (BR.out _).mono ?_; rintro e w2 ⟨rfl, B2⟩; replace B2 := hide B2; have S2 : Hid (St sb w2 m ∧ But (fun k => k = sb) w w2) := hide ⟨S1.out.1.below B2.out, S1.out.2.trans (But.of_below B2.out _)⟩; clear x0 x1 x2 x3 x4 x5 c0 c1 c2 c3 c4 c5 c6 c7 z1 z6 z7; obtain ⟨x0, x1, x2, x3, x4, x5⟩ := BXS.out w2 (But.of_below B2.out _); obtain ⟨v, -, c0, c1, c2, c3, c4, c5, c6, c7, z⟩ := S2.out.1.open; have z6 := z 6; clear z) | (go_at_call 34; refine (must_yes _).mono ?_; rintro e w' ⟨rfl, hw⟩; rw [hw]; clear hw w'))
          have KP : Hid (w2.drew.cell? ⟨pA, 1, none⟩ = some (.int .i64 cn) ∧ w2.drew.cell? ⟨sb, 2, none⟩ = some (.int .i64 m.du) ∧ w2.drew.cell? ⟨sb, 1, none⟩ = some (.int .i64 m.fi)) := hide ⟨x1, c2, c1⟩
          have DQ : Below w2.heap.size w2 w2.drew := (Below.refl _ _).drew
          have SQ : Hid (St sb w2.drew m ∧ But (fun k => k = sb) w w2.drew) := hide ⟨S2.out.1.below DQ, S2.out.2.trans (But.of_below DQ _)⟩
          clear DQ B2 S2 S1
          clear x0 x1 x2 x3 x4 x5 c0 c1 c2 c3 c4 c5 c6 c7 z6
          refine wp_region_T (fun q => q.cell? ⟨pA, 1, none⟩ = some (.int .i64 cn) ∧ q.cell? ⟨sb, 2, none⟩ = some (.int .i64 m.du) ∧ q.cell? ⟨sb, 1, none⟩ = some (.int .i64 m.fi)) 16 (by kernel_rfl) ?_
          generalize w2.drew = q at *
          refine wpAnyT_take (i := 0) (oi := { dst := some 68, op := Op.fieldAddr 33 (Operand.tmp 4) 1, type := 0, pos := "state.go:148", after := #[], guard := none }) (v := .pointer (some ⟨pA, 1, none⟩)) [1, 6, 7, 15, 16] rfl (by kernel_rfl) (by kernel_rfl) (by kernel_rfl) (by kernel_rfl) (fun _ _ _ h => h) (Or.inl ⟨by rfl, ?_⟩) KP.out ?_
          · intro wq hSw
            obtain ⟨y0, y1, y2⟩ := hSw
            go_simp
          (try simp only [Act.put, List.setIfInBounds_toArray, List.set_cons_zero, List.set_cons_succ])
          refine wpAnyT_take (i := 1) (oi := { dst := some 69, op := Op.load 2 (Operand.tmp 68), type := 2, pos := "state.go:148", after := #[{ on := 0, ground := Ground.data }], guard := none }) (v := .int .i64 cn) [6, 7, 15, 16] rfl (by kernel_rfl) (by kernel_rfl) (by kernel_rfl) (by kernel_rfl) (fun _ _ _ h => h) (Or.inl ⟨by rfl, ?_⟩) KP.out ?_
          · intro wq hSw
            obtain ⟨y0, y1, y2⟩ := hSw
            go_simp
          (try simp only [Act.put, List.setIfInBounds_toArray, List.set_cons_zero, List.set_cons_succ])
          refine wpAnyT_take (i := 2) (oi := { dst := some 70, op := Op.move (Operand.tmp 0), type := 47, pos := "state.go:148", after := #[], guard := none }) (v := .pointer (some ⟨sb, 0, none⟩)) [3, 4, 5, 6, 7, 15, 16] rfl (by kernel_rfl) (by kernel_rfl) (by kernel_rfl) (by kernel_rfl) (fun _ _ _ h => h) (Or.inl ⟨by rfl, ?_⟩) KP.out ?_
          · intro wq hSw
            obtain ⟨y0, y1, y2⟩ := hSw
            go_simp
          (try simp only [Act.put, List.setIfInBounds_toArray, List.set_cons_zero, List.set_cons_succ])
          refine wpAnyT_take (i := 3) (oi := { dst := some 71, op := Op.nilCheck (Operand.tmp 70), type := 0, pos := "state.go:148", after := #[{ on := 2, ground := Ground.data }], guard := none }) (v := .pointer (some ⟨sb, 0, none⟩)) [4, 5, 6, 7, 15, 16] rfl (by kernel_rfl) (by kernel_rfl) (by kernel_rfl) (by kernel_rfl) (fun _ _ _ h => h) (Or.inl ⟨by rfl, ?_⟩) KP.out ?_
          · intro wq hSw
            obtain ⟨y0, y1, y2⟩ := hSw
            go_simp
          (try simp only [Act.put, List.setIfInBounds_toArray, List.set_cons_zero, List.set_cons_succ])
          refine wpAnyT_take (i := 4) (oi := { dst := some 72, op := Op.fieldAddr 58 (Operand.tmp 71) 2, type := 0, pos := "state.go:148", after := #[{ on := 3, ground := Ground.data }], guard := none }) (v := .pointer (some ⟨sb, 2, none⟩)) [5, 6, 7, 15, 16] rfl (by kernel_rfl) (by kernel_rfl) (by kernel_rfl) (by kernel_rfl) (fun _ _ _ h => h) (Or.inl ⟨by rfl, ?_⟩) KP.out ?_
          · intro wq hSw
            obtain ⟨y0, y1, y2⟩ := hSw
            go_simp
          (try simp only [Act.put, List.setIfInBounds_toArray, List.set_cons_zero, List.set_cons_succ])
          refine wpAnyT_take (i := 5) (oi := { dst := some 73, op := Op.load 2 (Operand.tmp 72), type := 2, pos := "state.go:148", after := #[{ on := 4, ground := Ground.data }], guard := none }) (v := .int .i64 m.du) [6, 7, 15, 16] rfl (by kernel_rfl) (by kernel_rfl) (by kernel_rfl) (by kernel_rfl) (fun _ _ _ h => h) (Or.inl ⟨by rfl, ?_⟩) KP.out ?_
          · intro wq hSw
            obtain ⟨y0, y1, y2⟩ := hSw
            go_simp
          (try simp only [Act.put, List.setIfInBounds_toArray, List.set_cons_zero, List.set_cons_succ])
          refine wpAnyT_take (i := 6) (oi := { dst := some 74, op := Op.binOp BinOp.geq 2 (Operand.tmp 69) (Operand.tmp 73) 2, type := 4, pos := "state.go:148", after := #[{ on := 1, ground := Ground.data }, { on := 5, ground := Ground.data }], guard := none }) (v := .bool true) [7, 15, 16] rfl (by kernel_rfl) (by kernel_rfl) (by kernel_rfl) (by kernel_rfl) (fun _ _ _ h => h) (Or.inl ⟨by rfl, ?_⟩) KP.out ?_
          · intro wq hSw
            obtain ⟨y0, y1, y2⟩ := hSw
            go_simp
          (try simp only [Act.put, List.setIfInBounds_toArray, List.set_cons_zero, List.set_cons_succ])
          refine wpAnyT_take (i := 7) (oi := { dst := some 75, op := Op.move (Operand.tmp 74), type := 4, pos := "state.go:148", after := #[{ on := 6, ground := Ground.data }], guard := none }) (v := .bool true) [15, 16] rfl (by kernel_rfl) (by kernel_rfl) (by kernel_rfl) (by kernel_rfl) (fun _ _ _ h => h) (Or.inl ⟨by rfl, ?_⟩) KP.out ?_
          · intro wq hSw
            obtain ⟨y0, y1, y2⟩ := hSw
            go_simp
          (try simp only [Act.put, List.setIfInBounds_toArray, List.set_cons_zero, List.set_cons_succ])
          refine wpAnyT_take (i := 8) (oi := { dst := some 76, op := Op.fieldAddr 33 (Operand.tmp 4) 1, type := 0, pos := "state.go:148", after := #[{ on := 7, ground := Ground.guard }], guard := some (7, true) }) (v := .pointer (some ⟨pA, 1, none⟩)) [9, 14, 15, 16] rfl (by kernel_rfl) (by kernel_rfl) (by kernel_rfl) (by kernel_rfl) (fun _ _ _ h => h) (Or.inl ⟨by rfl, ?_⟩) KP.out ?_
          · intro wq hSw
            obtain ⟨y0, y1, y2⟩ := hSw
            go_simp
          (try simp only [Act.put, List.setIfInBounds_toArray, List.set_cons_zero, List.set_cons_succ])
          refine wpAnyT_take (i := 9) (oi := { dst := some 77, op := Op.load 2 (Operand.tmp 76), type := 2, pos := "state.go:148", after := #[{ on := 8, ground := Ground.data }, { on := 7, ground := Ground.guard }], guard := some (7, true) }) (v := .int .i64 cn) [14, 15, 16] rfl (by kernel_rfl) (by kernel_rfl) (by kernel_rfl) (by kernel_rfl) (fun _ _ _ h => h) (Or.inl ⟨by rfl, ?_⟩) KP.out ?_
          · intro wq hSw
            obtain ⟨y0, y1, y2⟩ := hSw
            go_simp
          (try simp only [Act.put, List.setIfInBounds_toArray, List.set_cons_zero, List.set_cons_succ])
          refine wpAnyT_take (i := 10) (oi := { dst := some 78, op := Op.move (Operand.tmp 0), type := 47, pos := "state.go:148", after := #[{ on := 7, ground := Ground.guard }], guard := some (7, true) }) (v := .pointer (some ⟨sb, 0, none⟩)) [11, 12, 13, 14, 15, 16] rfl (by kernel_rfl) (by kernel_rfl) (by kernel_rfl) (by kernel_rfl) (fun _ _ _ h => h) (Or.inl ⟨by rfl, ?_⟩) KP.out ?_
          · intro wq hSw
            obtain ⟨y0, y1, y2⟩ := hSw
            go_simp
          (try simp only [Act.put, List.setIfInBounds_toArray, List.set_cons_zero, List.set_cons_succ])
          refine wpAnyT_take (i := 11) (oi := { dst := some 79, op := Op.nilCheck (Operand.tmp 78), type := 0, pos := "state.go:148", after := #[{ on := 10, ground := Ground.data }, { on := 7, ground := Ground.guard }], guard := some (7, true) }) (v := .pointer (some ⟨sb, 0, none⟩)) [12, 13, 14, 15, 16] rfl (by kernel_rfl) (by kernel_rfl) (by kernel_rfl) (by kernel_rfl) (fun _ _ _ h => h) (Or.inl ⟨by rfl, ?_⟩) KP.out ?_
          · intro wq hSw
            obtain ⟨y0, y1, y2⟩ := hSw
            go_simp
          (try simp only [Act.put, List.setIfInBounds_toArray, List.set_cons_zero, List.set_cons_succ])
          refine wpAnyT_take (i := 12) (oi := { dst := some 80, op := Op.fieldAddr 58 (Operand.tmp 79) 1, type := 0, pos := "state.go:148", after := #[{ on := 11, ground := Ground.data }, { on := 7, ground := Ground.guard }], guard := some (7, true) }) (v := .pointer (some ⟨sb, 1, none⟩)) [13, 14, 15, 16] rfl (by kernel_rfl) (by kernel_rfl) (by kernel_rfl) (by kernel_rfl) (fun _ _ _ h => h) (Or.inl ⟨by rfl, ?_⟩) KP.out ?_
          · intro wq hSw
            obtain ⟨y0, y1, y2⟩ := hSw
            go_simp
          (try simp only [Act.put, List.setIfInBounds_toArray, List.set_cons_zero, List.set_cons_succ])
          refine wpAnyT_take (i := 13) (oi := { dst := some 81, op := Op.load 2 (Operand.tmp 80), type := 2, pos := "state.go:148", after := #[{ on := 12, ground := Ground.data }, { on := 7, ground := Ground.guard }], guard := some (7, true) }) (v := .int .i64 m.fi) [14, 15, 16] rfl (by kernel_rfl) (by kernel_rfl) (by kernel_rfl) (by kernel_rfl) (fun _ _ _ h => h) (Or.inl ⟨by rfl, ?_⟩) KP.out ?_
          · intro wq hSw
            obtain ⟨y0, y1, y2⟩ := hSw
            go_simp
          (try simp only [Act.put, List.setIfInBounds_toArray, List.set_cons_zero, List.set_cons_succ])
          refine wpAnyT_take (i := 14) (oi := { dst := some 82, op := Op.binOp BinOp.geq 2 (Operand.tmp 77) (Operand.tmp 81) 2, type := 4, pos := "state.go:148", after := #[{ on := 9, ground := Ground.data }, { on := 13, ground := Ground.data }, { on := 7, ground := Ground.guard }], guard := some (7, true) }) (v := .bool true) [15, 16] rfl (by kernel_rfl) (by kernel_rfl) (by kernel_rfl) (by kernel_rfl) (fun _ _ _ h => h) (Or.inl ⟨by rfl, ?_⟩) KP.out ?_
          · intro wq hSw
            obtain ⟨y0, y1, y2⟩ := hSw
            go_simp
          (try simp only [Act.put, List.setIfInBounds_toArray, List.set_cons_zero, List.set_cons_succ])
          refine wpAnyT_take (i := 15) (oi := { dst := some 83, op := Op.pick (Operand.tmp 75) (Operand.tmp 82) (Operand.const (Value.bool false)), type := 4, pos := "state.go:148", after := #[{ on := 7, ground := Ground.data }, { on := 14, ground := Ground.data }], guard := none }) (v := .bool true) [16] rfl (by kernel_rfl) (by kernel_rfl) (by kernel_rfl) (by kernel_rfl) (fun _ _ _ h => h) (Or.inl ⟨by rfl, ?_⟩) KP.out ?_
          · intro wq hSw
            obtain ⟨y0, y1, y2⟩ := hSw
            go_simp
          (try simp only [Act.put, List.setIfInBounds_toArray, List.set_cons_zero, List.set_cons_succ])
          refine wpAnyT_one (i := 16) (o := { dst := some 84, op := Op.call { callee := Callee.value (Operand.func 34), args := #[Operand.tmp 83], argTypes := #[4] }, type := 0, pos := "state.go:148", after := #[{ on := 15, ground := Ground.data }, { on := 7, ground := Ground.chain }], guard := none }) (by kernel_rfl) rfl (fun K hK => ?_)
          go_simp
          go_at_call 34
          refine (must_yes _).mono ?_
          rintro e w' ⟨rfl, hw⟩
          rw [hw]
          clear hw w'
          refine hK.out _ _ (vac (by kernel_rfl)) ?_
          clear hK K
          refine wpAnyT_done (by kernel_rfl) ?_ _
          go_wp2_with fail
          first | go_end0 | refine bodyPost_ret (results_none rfl _ _ _) rfl ?_
          exact Goes.some SQ.out.2 SQ.out.1
        · rw [if_neg (fun c => h7 c.2)]
          have k7 : decide (cn ≥ m.fi) = false := by simp; omega
          go_enter Try.func40, Try.ntmps40
          go_upto_region 1 with fail
          rw [hw1'.out, hpA.out, hpB.out]
          go_upto_region 11 with (first | (go_at_call 37; refine (BR.out _).mono ?_; rintro e w2 ⟨rfl, B2⟩; replace B2 := hide B2; have S2 : Hid (St sb w2 m ∧ But (fun k => k = sb) w w2) := hide ⟨S1.out.1.below B2.out, S1.out.2.trans (But.of_below B2.out _)⟩; clear x0 x1 x2 x3 x4 x5 c0 c1 c2 c3 c4 c5 c6 c7 z1 z6 z7; obtain ⟨x0, x1, x2, x3, x4, x5⟩ := BXS.out w2 (But.of_below B2.out _); obtain ⟨v, -, c0, c1, c2, c3, c4, c5, c6, c7, z⟩ := S2.out.1.open; have z6 := z 6; clear z) | (go_at_call 34; refine (must_yes _).mono ?_; rintro e w' ⟨rfl, hw⟩; rw [hw]; clear hw w'))
          have KP : Hid (w2.drew.cell? ⟨pA, 1, none⟩ = some (.int .i64 cn) ∧ w2.drew.cell? ⟨sb, 2, none⟩ = some (.int .i64 m.du) ∧ w2.drew.cell? ⟨sb, 1, none⟩ = some (.int .i64 m.fi)) := hide ⟨x1, c2, c1⟩
          have DQ : Below w2.heap.size w2 w2.drew := (Below.refl _ _).drew
          have SQ : Hid (St sb w2.drew m ∧ But (fun k => k = sb) w w2.drew) := hide ⟨S2.out.1.below DQ, S2.out.2.trans (But.of_below DQ _)⟩
          clear DQ B2 S2 S1
          clear x0 x1 x2 x3 x4 x5 c0 c1 c2 c3 c4 c5 c6 c7 z6
          refine wp_region_T (fun q => q.cell? ⟨pA, 1, none⟩ = some (.int .i64 cn) ∧ q.cell? ⟨sb, 2, none⟩ = some (.int .i64 m.du) ∧ q.cell? ⟨sb, 1, none⟩ = some (.int .i64 m.fi)) 16 (by kernel_rfl) ?_
          generalize w2.drew = q at *
          refine wpAnyT_take (i := 0) (oi := { dst := some 68, op := Op.fieldAddr 33 (Operand.tmp 4) 1, type := 0, pos := "state.go:148", after := #[], guard := none }) (v := .pointer (some ⟨pA, 1, none⟩)) [1, 6, 7, 15, 16] rfl (by kernel_rfl) (by kernel_rfl) (by kernel_rfl) (by kernel_rfl) (fun _ _ _ h => h) (Or.inl ⟨by rfl, ?_⟩) KP.out ?_
          · intro wq hSw
            obtain ⟨y0, y1, y2⟩ := hSw
            go_simp
          (try simp only [Act.put, List.setIfInBounds_toArray, List.set_cons_zero, List.set_cons_succ])
          refine wpAnyT_take (i := 1) (oi := { dst := some 69, op := Op.load 2 (Operand.tmp 68), type := 2, pos := "state.go:148", after := #[{ on := 0, ground := Ground.data }], guard := none }) (v := .int .i64 cn) [6, 7, 15, 16] rfl (by kernel_rfl) (by kernel_rfl) (by kernel_rfl) (by kernel_rfl) (fun _ _ _ h => h) (Or.inl ⟨by rfl, ?_⟩) KP.out ?_
          · intro wq hSw
            obtain ⟨y0, y1, y2⟩ := hSw
            go_simp
          (try simp only [Act.put, List.setIfInBounds_toArray, List.set_cons_zero, List.set_cons_succ])
          refine wpAnyT_take (i := 2) (oi := { dst := some 70, op := Op.move (Operand.tmp 0), type := 47, pos := "state.go:148", after := #[], guard := none }) (v := .pointer (some ⟨sb, 0, none⟩)) [3, 4, 5, 6, 7, 15, 16] rfl (by kernel_rfl) (by kernel_rfl) (by kernel_rfl) (by kernel_rfl) (fun _ _ _ h => h) (Or.inl ⟨by rfl, ?_⟩) KP.out ?_
          · intro wq hSw
            obtain ⟨y0, y1, y2⟩ := hSw
            go_simp
          (try simp only [Act.put, List.setIfInBounds_toArray, List.set_cons_zero, List.set_cons_succ])
          refine wpAnyT_take (i := 3) (oi := { dst := some 71, op := Op.nilCheck (Operand.tmp 70), type := 0, pos := "state.go:148", after := #[{ on := 2, ground := Ground.data }], guard := none }) (v := .pointer (some ⟨sb, 0, none⟩)) [4, 5, 6, 7, 15, 16] rfl (by kernel_rfl) (by kernel_rfl) (by kernel_rfl) (by kernel_rfl) (fun _ _ _ h => h) (Or.inl ⟨by rfl, ?_⟩) KP.out ?_
          · intro wq hSw
            obtain ⟨y0, y1, y2⟩ := hSw
            go_simp
          (try simp only [Act.put, List.setIfInBounds_toArray, List.set_cons_zero, List.set_cons_succ])
          refine wpAnyT_take (i := 4) (oi := { dst := some 72, op := Op.fieldAddr 58 (Operand.tmp 71) 2, type := 0, pos := "state.go:148", after := #[{ on := 3, ground := Ground.data }], guard := none }) (v := .pointer (some ⟨sb, 2, none⟩)) [5, 6, 7, 15, 16] rfl (by kernel_rfl) (by kernel_rfl) (by kernel_rfl) (by kernel_rfl) (fun _ _ _ h => h) (Or.inl ⟨by rfl, ?_⟩) KP.out ?_
          · intro wq hSw
            obtain ⟨y0, y1, y2⟩ := hSw
            go_simp
          (try simp only [Act.put, List.setIfInBounds_toArray, List.set_cons_zero, List.set_cons_succ])
          refine wpAnyT_take (i := 5) (oi := { dst := some 73, op := Op.load 2 (Operand.tmp 72), type := 2, pos := "state.go:148", after := #[{ on := 4, ground := Ground.data }], guard := none }) (v := .int .i64 m.du) [6, 7, 15, 16] rfl (by kernel_rfl) (by kernel_rfl) (by kernel_rfl) (by kernel_rfl) (fun _ _ _ h => h) (Or.inl ⟨by rfl, ?_⟩) KP.out ?_
          · intro wq hSw
            obtain ⟨y0, y1, y2⟩ := hSw
            go_simp
          (try simp only [Act.put, List.setIfInBounds_toArray, List.set_cons_zero, List.set_cons_succ])
          refine wpAnyT_take (i := 6) (oi := { dst := some 74, op := Op.binOp BinOp.geq 2 (Operand.tmp 69) (Operand.tmp 73) 2, type := 4, pos := "state.go:148", after := #[{ on := 1, ground := Ground.data }, { on := 5, ground := Ground.data }], guard := none }) (v := .bool true) [7, 15, 16] rfl (by kernel_rfl) (by kernel_rfl) (by kernel_rfl) (by kernel_rfl) (fun _ _ _ h => h) (Or.inl ⟨by rfl, ?_⟩) KP.out ?_
          · intro wq hSw
            obtain ⟨y0, y1, y2⟩ := hSw
            go_simp
          (try simp only [Act.put, List.setIfInBounds_toArray, List.set_cons_zero, List.set_cons_succ])
          refine wpAnyT_take (i := 7) (oi := { dst := some 75, op := Op.move (Operand.tmp 74), type := 4, pos := "state.go:148", after := #[{ on := 6, ground := Ground.data }], guard := none }) (v := .bool true) [15, 16] rfl (by kernel_rfl) (by kernel_rfl) (by kernel_rfl) (by kernel_rfl) (fun _ _ _ h => h) (Or.inl ⟨by rfl, ?_⟩) KP.out ?_
          · intro wq hSw
            obtain ⟨y0, y1, y2⟩ := hSw
            go_simp
          (try simp only [Act.put, List.setIfInBounds_toArray, List.set_cons_zero, List.set_cons_succ])
          refine wpAnyT_take (i := 8) (oi := { dst := some 76, op := Op.fieldAddr 33 (Operand.tmp 4) 1, type := 0, pos := "state.go:148", after := #[{ on := 7, ground := Ground.guard }], guard := some (7, true) }) (v := .pointer (some ⟨pA, 1, none⟩)) [9, 14, 15, 16] rfl (by kernel_rfl) (by kernel_rfl) (by kernel_rfl) (by kernel_rfl) (fun _ _ _ h => h) (Or.inl ⟨by rfl, ?_⟩) KP.out ?_
          · intro wq hSw
            obtain ⟨y0, y1, y2⟩ := hSw
            go_simp
          (try simp only [Act.put, List.setIfInBounds_toArray, List.set_cons_zero, List.set_cons_succ])
          refine wpAnyT_take (i := 9) (oi := { dst := some 77, op := Op.load 2 (Operand.tmp 76), type := 2, pos := "state.go:148", after := #[{ on := 8, ground := Ground.data }, { on := 7, ground := Ground.guard }], guard := some (7, true) }) (v := .int .i64 cn) [14, 15, 16] rfl (by kernel_rfl) (by kernel_rfl) (by kernel_rfl) (by kernel_rfl) (fun _ _ _ h => h) (Or.inl ⟨by rfl, ?_⟩) KP.out ?_
          · intro wq hSw
            obtain ⟨y0, y1, y2⟩ := hSw
            go_simp
          (try simp only [Act.put, List.setIfInBounds_toArray, List.set_cons_zero, List.set_cons_succ])
          refine wpAnyT_take (i := 10) (oi := { dst := some 78, op := Op.move (Operand.tmp 0), type := 47, pos := "state.go:148", after := #[{ on := 7, ground := Ground.guard }], guard := some (7, true) }) (v := .pointer (some ⟨sb, 0, none⟩)) [11, 12, 13, 14, 15, 16] rfl (by kernel_rfl) (by kernel_rfl) (by kernel_rfl) (by kernel_rfl) (fun _ _ _ h => h) (Or.inl ⟨by rfl, ?_⟩) KP.out ?_
          · intro wq hSw
            obtain ⟨y0, y1, y2⟩ := hSw
            go_simp
          (try simp only [Act.put, List.setIfInBounds_toArray, List.set_cons_zero, List.set_cons_succ])
          refine wpAnyT_take (i := 11) (oi := { dst := some 79, op := Op.nilCheck (Operand.tmp 78), type := 0, pos := "state.go:148", after := #[{ on := 10, ground := Ground.data }, { on := 7, ground := Ground.guard }], guard := some (7, true) }) (v := .pointer (some ⟨sb, 0, none⟩)) [12, 13, 14, 15, 16] rfl (by kernel_rfl) (by kernel_rfl) (by kernel_rfl) (by kernel_rfl) (fun _ _ _ h => h) (Or.inl ⟨by rfl, ?_⟩) KP.out ?_
          · intro wq hSw
            obtain ⟨y0, y1, y2⟩ := hSw
            go_simp
          (try simp only [Act.put, List.setIfInBounds_toArray, List.set_cons_zero, List.set_cons_succ])
          refine wpAnyT_take (i := 12) (oi := { dst := some 80, op := Op.fieldAddr 58 (Operand.tmp 79) 1, type := 0, pos := "state.go:148", after := #[{ on := 11, ground := Ground.data }, { on := 7, ground := Ground.guard }], guard := some (7, true) }) (v := .pointer (some ⟨sb, 1, none⟩)) [13, 14, 15, 16] rfl (by kernel_rfl) (by kernel_rfl) (by kernel_rfl) (by kernel_rfl) (fun _ _ _ h => h) (Or.inl ⟨by rfl, ?_⟩) KP.out ?_
          · intro wq hSw
            obtain ⟨y0, y1, y2⟩ := hSw
            go_simp
          (try simp only [Act.put, List.setIfInBounds_toArray, List.set_cons_zero, List.set_cons_succ])
          refine wpAnyT_take (i := 13) (oi := { dst := some 81, op := Op.load 2 (Operand.tmp 80), type := 2, pos := "state.go:148", after := #[{ on := 12, ground := Ground.data }, { on := 7, ground := Ground.guard }], guard := some (7, true) }) (v := .int .i64 m.fi) [14, 15, 16] rfl (by kernel_rfl) (by kernel_rfl) (by kernel_rfl) (by kernel_rfl) (fun _ _ _ h => h) (Or.inl ⟨by rfl, ?_⟩) KP.out ?_
          · intro wq hSw
            obtain ⟨y0, y1, y2⟩ := hSw
            go_simp
          (try simp only [Act.put, List.setIfInBounds_toArray, List.set_cons_zero, List.set_cons_succ])
          refine wpAnyT_take (i := 14) (oi := { dst := some 82, op := Op.binOp BinOp.geq 2 (Operand.tmp 77) (Operand.tmp 81) 2, type := 4, pos := "state.go:148", after := #[{ on := 9, ground := Ground.data }, { on := 13, ground := Ground.data }, { on := 7, ground := Ground.guard }], guard := some (7, true) }) (v := .bool false) [15, 16] rfl (by kernel_rfl) (by kernel_rfl) (by kernel_rfl) (by kernel_rfl) (fun _ _ _ h => h) (Or.inl ⟨by rfl, ?_⟩) KP.out ?_
          · intro wq hSw
            obtain ⟨y0, y1, y2⟩ := hSw
            go_simp
          (try simp only [Act.put, List.setIfInBounds_toArray, List.set_cons_zero, List.set_cons_succ])
          refine wpAnyT_take (i := 15) (oi := { dst := some 83, op := Op.pick (Operand.tmp 75) (Operand.tmp 82) (Operand.const (Value.bool false)), type := 4, pos := "state.go:148", after := #[{ on := 7, ground := Ground.data }, { on := 14, ground := Ground.data }], guard := none }) (v := .bool false) [16] rfl (by kernel_rfl) (by kernel_rfl) (by kernel_rfl) (by kernel_rfl) (fun _ _ _ h => h) (Or.inl ⟨by rfl, ?_⟩) KP.out ?_
          · intro wq hSw
            obtain ⟨y0, y1, y2⟩ := hSw
            go_simp
          (try simp only [Act.put, List.setIfInBounds_toArray, List.set_cons_zero, List.set_cons_succ])
          refine wpAnyT_one (i := 16) (o := { dst := some 84, op := Op.call { callee := Callee.value (Operand.func 34), args := #[Operand.tmp 83], argTypes := #[4] }, type := 0, pos := "state.go:148", after := #[{ on := 15, ground := Ground.data }, { on := 7, ground := Ground.chain }], guard := none }) (by kernel_rfl) rfl (fun K hK => ?_)
          go_simp
          go_at_call 34
          refine (must_no _).mono ?_
          rintro e w' ⟨rfl, hw⟩
          rw [hw]
          clear hw w'
          exact ⟨rfl, Goes.none SQ.out.2⟩
      · rw [if_neg (fun c => h6 c.1)]
        have k6 : decide (cn ≥ m.du) = false := by simp; omega
        go_enter Try.func40, Try.ntmps40
        go_upto_region 1 with fail
        rw [hw1'.out, hpA.out, hpB.out]
        go_upto_region 11 with (first | (go_at_call 37; refine (BR.out _).mono ?_; rintro e w2 ⟨rfl, B2⟩; replace B2 := hide B2; have S2 : Hid (St sb w2 m ∧ But (fun k => k = sb) w w2) := hide ⟨S1.out.1.below B2.out, S1.out.2.trans (But.of_below B2.out _)⟩; clear x0 x1 x2 x3 x4 x5 c0 c1 c2 c3 c4 c5 c6 c7 z1 z6 z7; obtain ⟨x0, x1, x2, x3, x4, x5⟩ := BXS.out w2 (But.of_below B2.out _); obtain ⟨v, -, c0, c1, c2, c3, c4, c5, c6, c7, z⟩ := S2.out.1.open; have z6 := z 6; clear z) | (go_at_call 34; refine (must_yes _).mono ?_; rintro e w' ⟨rfl, hw⟩; rw [hw]; clear hw w'))
        have KP : Hid (w2.drew.cell? ⟨pA, 1, none⟩ = some (.int .i64 cn) ∧ w2.drew.cell? ⟨sb, 2, none⟩ = some (.int .i64 m.du) ∧ w2.drew.cell? ⟨sb, 1, none⟩ = some (.int .i64 m.fi)) := hide ⟨x1, c2, c1⟩
        have DQ : Below w2.heap.size w2 w2.drew := (Below.refl _ _).drew
        have SQ : Hid (St sb w2.drew m ∧ But (fun k => k = sb) w w2.drew) := hide ⟨S2.out.1.below DQ, S2.out.2.trans (But.of_below DQ _)⟩
        clear DQ B2 S2 S1
        clear x0 x1 x2 x3 x4 x5 c0 c1 c2 c3 c4 c5 c6 c7 z6
        refine wp_region_T (fun q => q.cell? ⟨pA, 1, none⟩ = some (.int .i64 cn) ∧ q.cell? ⟨sb, 2, none⟩ = some (.int .i64 m.du) ∧ q.cell? ⟨sb, 1, none⟩ = some (.int .i64 m.fi)) 16 (by kernel_rfl) ?_
        generalize w2.drew = q at *
        refine wpAnyT_take (i := 0) (oi := { dst := some 68, op := Op.fieldAddr 33 (Operand.tmp 4) 1, type := 0, pos := "state.go:148", after := #[], guard := none }) (v := .pointer (some ⟨pA, 1, none⟩)) [1, 6, 7, 15, 16] rfl (by kernel_rfl) (by kernel_rfl) (by kernel_rfl) (by kernel_rfl) (fun _ _ _ h => h) (Or.inl ⟨by rfl, ?_⟩) KP.out ?_
        · intro wq hSw
          obtain ⟨y0, y1, y2⟩ := hSw
          go_simp
        (try simp only [Act.put, List.setIfInBounds_toArray, List.set_cons_zero, List.set_cons_succ])
        refine wpAnyT_take (i := 1) (oi := { dst := some 69, op := Op.load 2 (Operand.tmp 68), type := 2, pos := "state.go:148", after := #[{ on := 0, ground := Ground.data }], guard := none }) (v := .int .i64 cn) [6, 7, 15, 16] rfl (by kernel_rfl) (by kernel_rfl) (by kernel_rfl) (by kernel_rfl) (fun _ _ _ h => h) (Or.inl ⟨by rfl, ?_⟩) KP.out ?_
        · intro wq hSw
          obtain ⟨y0, y1, y2⟩ := hSw
          go_simp
        (try simp only [Act.put, List.setIfInBounds_toArray, List.set_cons_zero, List.set_cons_succ])
        refine wpAnyT_take (i := 2) (oi := { dst := some 70, op := Op.move (Operand.tmp 0), type := 47, pos := "state.go:148", after := #[], guard := none }) (v := .pointer (some ⟨sb, 0, none⟩)) [3, 4, 5, 6, 7, 15, 16] rfl (by kernel_rfl) (by kernel_rfl) (by kernel_rfl) (by kernel_rfl) (fun _ _ _ h => h) (Or.inl ⟨by rfl, ?_⟩) KP.out ?_
        · intro wq hSw
          obtain ⟨y0, y1, y2⟩ := hSw
          go_simp
        (try simp only [Act.put, List.setIfInBounds_toArray, List.set_cons_zero, List.set_cons_succ])
        refine wpAnyT_take (i := 3) (oi := { dst := some 71, op := Op.nilCheck (Operand.tmp 70), type := 0, pos := "state.go:148", after := #[{ on := 2, ground := Ground.data }], guard := none }) (v := .pointer (some ⟨sb, 0, none⟩)) [4, 5, 6, 7, 15, 16] rfl (by kernel_rfl) (by kernel_rfl) (by kernel_rfl) (by kernel_rfl) (fun _ _ _ h => h) (Or.inl ⟨by rfl, ?_⟩) KP.out ?_
        · intro wq hSw
          obtain ⟨y0, y1, y2⟩ := hSw
          go_simp
        (try simp only [Act.put, List.setIfInBounds_toArray, List.set_cons_zero, List.set_cons_succ])
        refine wpAnyT_take (i := 4) (oi := { dst := some 72, op := Op.fieldAddr 58 (Operand.tmp 71) 2, type := 0, pos := "state.go:148", after := #[{ on := 3, ground := Ground.data }], guard := none }) (v := .pointer (some ⟨sb, 2, none⟩)) [5, 6, 7, 15, 16] rfl (by kernel_rfl) (by kernel_rfl) (by kernel_rfl) (by kernel_rfl) (fun _ _ _ h => h) (Or.inl ⟨by rfl, ?_⟩) KP.out ?_
        · intro wq hSw
          obtain ⟨y0, y1, y2⟩ := hSw
          go_simp
        (try simp only [Act.put, List.setIfInBounds_toArray, List.set_cons_zero, List.set_cons_succ])
        refine wpAnyT_take (i := 5) (oi := { dst := some 73, op := Op.load 2 (Operand.tmp 72), type := 2, pos := "state.go:148", after := #[{ on := 4, ground := Ground.data }], guard := none }) (v := .int .i64 m.du) [6, 7, 15, 16] rfl (by kernel_rfl) (by kernel_rfl) (by kernel_rfl) (by kernel_rfl) (fun _ _ _ h => h) (Or.inl ⟨by rfl, ?_⟩) KP.out ?_
        · intro wq hSw
          obtain ⟨y0, y1, y2⟩ := hSw
          go_simp
        (try simp only [Act.put, List.setIfInBounds_toArray, List.set_cons_zero, List.set_cons_succ])
        refine wpAnyT_take (i := 6) (oi := { dst := some 74, op := Op.binOp BinOp.geq 2 (Operand.tmp 69) (Operand.tmp 73) 2, type := 4, pos := "state.go:148", after := #[{ on := 1, ground := Ground.data }, { on := 5, ground := Ground.data }], guard := none }) (v := .bool false) [7, 15, 16] rfl (by kernel_rfl) (by kernel_rfl) (by kernel_rfl) (by kernel_rfl) (fun _ _ _ h => h) (Or.inl ⟨by rfl, ?_⟩) KP.out ?_
        · intro wq hSw
          obtain ⟨y0, y1, y2⟩ := hSw
          go_simp
        (try simp only [Act.put, List.setIfInBounds_toArray, List.set_cons_zero, List.set_cons_succ])
        refine wpAnyT_take (i := 7) (oi := { dst := some 75, op := Op.move (Operand.tmp 74), type := 4, pos := "state.go:148", after := #[{ on := 6, ground := Ground.data }], guard := none }) (v := .bool false) [15, 16] rfl (by kernel_rfl) (by kernel_rfl) (by kernel_rfl) (by kernel_rfl) (fun _ _ _ h => h) (Or.inl ⟨by rfl, ?_⟩) KP.out ?_
        · intro wq hSw
          obtain ⟨y0, y1, y2⟩ := hSw
          go_simp
        (try simp only [Act.put, List.setIfInBounds_toArray, List.set_cons_zero, List.set_cons_succ])
        refine wpAnyT_take (i := 8) (oi := { dst := some 76, op := Op.fieldAddr 33 (Operand.tmp 4) 1, type := 0, pos := "state.go:148", after := #[{ on := 7, ground := Ground.guard }], guard := some (7, true) }) (v := undef) [9, 14, 15, 16] rfl (by kernel_rfl) (by kernel_rfl) (by kernel_rfl) (by kernel_rfl) (fun _ _ _ h => h) (Or.inr ⟨by rfl, rfl⟩) KP.out ?_
        (try simp only [Act.put, List.setIfInBounds_toArray, List.set_cons_zero, List.set_cons_succ])
        refine wpAnyT_take (i := 9) (oi := { dst := some 77, op := Op.load 2 (Operand.tmp 76), type := 2, pos := "state.go:148", after := #[{ on := 8, ground := Ground.data }, { on := 7, ground := Ground.guard }], guard := some (7, true) }) (v := undef) [14, 15, 16] rfl (by kernel_rfl) (by kernel_rfl) (by kernel_rfl) (by kernel_rfl) (fun _ _ _ h => h) (Or.inr ⟨by rfl, rfl⟩) KP.out ?_
        (try simp only [Act.put, List.setIfInBounds_toArray, List.set_cons_zero, List.set_cons_succ])
        refine wpAnyT_take (i := 10) (oi := { dst := some 78, op := Op.move (Operand.tmp 0), type := 47, pos := "state.go:148", after := #[{ on := 7, ground := Ground.guard }], guard := some (7, true) }) (v := undef) [11, 12, 13, 14, 15, 16] rfl (by kernel_rfl) (by kernel_rfl) (by kernel_rfl) (by kernel_rfl) (fun _ _ _ h => h) (Or.inr ⟨by rfl, rfl⟩) KP.out ?_
        (try simp only [Act.put, List.setIfInBounds_toArray, List.set_cons_zero, List.set_cons_succ])
        refine wpAnyT_take (i := 11) (oi := { dst := some 79, op := Op.nilCheck (Operand.tmp 78), type := 0, pos := "state.go:148", after := #[{ on := 10, ground := Ground.data }, { on := 7, ground := Ground.guard }], guard := some (7, true) }) (v := undef) [12, 13, 14, 15, 16] rfl (by kernel_rfl) (by kernel_rfl) (by kernel_rfl) (by kernel_rfl) (fun _ _ _ h => h) (Or.inr ⟨by rfl, rfl⟩) KP.out ?_
        (try simp only [Act.put, List.setIfInBounds_toArray, List.set_cons_zero, List.set_cons_succ])
        refine wpAnyT_take (i := 12) (oi := { dst := some 80, op := Op.fieldAddr 58 (Operand.tmp 79) 1, type := 0, pos := "state.go:148", after := #[{ on := 11, ground := Ground.data }, { on := 7, ground := Ground.guard }], guard := some (7, true) }) (v := undef) [13, 14, 15, 16] rfl (by kernel_rfl) (by kernel_rfl) (by kernel_rfl) (by kernel_rfl) (fun _ _ _ h => h) (Or.inr ⟨by rfl, rfl⟩) KP.out ?_
        (try simp only [Act.put, List.setIfInBounds_toArray, List.set_cons_zero, List.set_cons_succ])
        refine wpAnyT_take (i := 13) (oi := { dst := some 81, op := Op.load 2 (Operand.tmp 80), type := 2, pos := "state.go:148", after := #[{ on := 12, ground := Ground.data }, { on := 7, ground := Ground.guard }], guard := some (7, true) }) (v := undef) [14, 15, 16] rfl (by kernel_rfl) (by kernel_rfl) (by kernel_rfl) (by kernel_rfl) (fun _ _ _ h => h) (Or.inr ⟨by rfl, rfl⟩) KP.out ?_
        (try simp only [Act.put, List.setIfInBounds_toArray, List.set_cons_zero, List.set_cons_succ])
        refine wpAnyT_take (i := 14) (oi := { dst := some 82, op := Op.binOp BinOp.geq 2 (Operand.tmp 77) (Operand.tmp 81) 2, type := 4, pos := "state.go:148", after := #[{ on := 9, ground := Ground.data }, { on := 13, ground := Ground.data }, { on := 7, ground := Ground.guard }], guard := some (7, true) }) (v := undef) [15, 16] rfl (by kernel_rfl) (by kernel_rfl) (by kernel_rfl) (by kernel_rfl) (fun _ _ _ h => h) (Or.inr ⟨by rfl, rfl⟩) KP.out ?_
        (try simp only [Act.put, List.setIfInBounds_toArray, List.set_cons_zero, List.set_cons_succ])
        refine wpAnyT_take (i := 15) (oi := { dst := some 83, op := Op.pick (Operand.tmp 75) (Operand.tmp 82) (Operand.const (Value.bool false)), type := 4, pos := "state.go:148", after := #[{ on := 7, ground := Ground.data }, { on := 14, ground := Ground.data }], guard := none }) (v := .bool false) [16] rfl (by kernel_rfl) (by kernel_rfl) (by kernel_rfl) (by kernel_rfl) (fun _ _ _ h => h) (Or.inl ⟨by rfl, ?_⟩) KP.out ?_
        · intro wq hSw
          obtain ⟨y0, y1, y2⟩ := hSw
          go_simp
        (try simp only [Act.put, List.setIfInBounds_toArray, List.set_cons_zero, List.set_cons_succ])
        refine wpAnyT_one (i := 16) (o := { dst := some 84, op := Op.call { callee := Callee.value (Operand.func 34), args := #[Operand.tmp 83], argTypes := #[4] }, type := 0, pos := "state.go:148", after := #[{ on := 15, ground := Ground.data }, { on := 7, ground := Ground.chain }], guard := none }) (by kernel_rfl) rfl (fun K hK => ?_)
        go_simp
        go_at_call 34
        refine (must_no _).mono ?_
        rintro e w' ⟨rfl, hw⟩
        rw [hw]
        clear hw w'
        exact ⟨rfl, Goes.none SQ.out.2⟩
    rw [if_neg h4]
    have HG : Hid (¬ (re = 42 ∧ ck = 4)) := hide h4
    by_cases h8 : re = 40 ∧ ck = 5
    · obtain ⟨h8, h9⟩ := h8
      subst h8
      subst h9
      rw [if_pos ⟨rfl, rfl⟩]
      clear h4
      by_cases h6 : m.du ≤ cn
      · rw [if_pos h6]
        go_enter Try.func40, Try.ntmps40
        go_upto_region 1 with fail
        rw [hw1'.out, hpA.out, hpB.out]
        go_upto_region 13 with (first | (go_at_call 37; refine (BR.out _).mono ?_; rintro e w2 ⟨rfl, B2⟩; replace B2 := hide B2; have S2 : Hid (St sb w2 m ∧ But (fun k => k = sb) w w2) := hide ⟨S1.out.1.below B2.out, S1.out.2.trans (But.of_below B2.out _)⟩; clear x0 x1 x2 x3 x4 x5 c0 c1 c2 c3 c4 c5 c6 c7 z1 z6 z7; obtain ⟨x0, x1, x2, x3, x4, x5⟩ := BXS.out w2 (But.of_below B2.out _); obtain ⟨v, -, c0, c1, c2, c3, c4, c5, c6, c7, z⟩ := S2.out.1.open; have z6 := z 6; clear z) | (go_at_call 34; refine (must_yes _).mono ?_; rintro e w' ⟨rfl, hw⟩; rw [hw]; clear hw w'))
        have KP : Hid (w2.drew.cell? ⟨pA, 1, none⟩ = some (.int .i64 cn) ∧ w2.drew.cell? ⟨sb, 2, none⟩ = some (.int .i64 m.du)) := hide ⟨x1, c2⟩
        have DQ : Below w2.heap.size w2 w2.drew := (Below.refl _ _).drew
        have SQ : Hid (St sb w2.drew m ∧ But (fun k => k = sb) w w2.drew) := hide ⟨S2.out.1.below DQ, S2.out.2.trans (But.of_below DQ _)⟩
        clear DQ B2 S2 S1
        clear x0 x1 x2 x3 x4 x5 c0 c1 c2 c3 c4 c5 c6 c7 z6
        refine wp_region_T (fun q => q.cell? ⟨pA, 1, none⟩ = some (.int .i64 cn) ∧ q.cell? ⟨sb, 2, none⟩ = some (.int .i64 m.du)) 7 (by kernel_rfl) ?_
        generalize w2.drew = q at *
        refine wpAnyT_take (i := 0) (oi := { dst := some 94, op := Op.fieldAddr 33 (Operand.tmp 4) 1, type := 0, pos := "state.go:150", after := #[], guard := none }) (v := .pointer (some ⟨pA, 1, none⟩)) [1, 6, 7] rfl (by kernel_rfl) (by kernel_rfl) (by kernel_rfl) (by kernel_rfl) (fun _ _ _ h => h) (Or.inl ⟨by rfl, ?_⟩) KP.out ?_
        · intro wq hSw
          obtain ⟨y0, y1⟩ := hSw
          go_simp
        (try simp only [Act.put, List.setIfInBounds_toArray, List.set_cons_zero, List.set_cons_succ])
        refine wpAnyT_take (i := 1) (oi := { dst := some 95, op := Op.load 2 (Operand.tmp 94), type := 2, pos := "state.go:150", after := #[{ on := 0, ground := Ground.data }], guard := none }) (v := .int .i64 cn) [6, 7] rfl (by kernel_rfl) (by kernel_rfl) (by kernel_rfl) (by kernel_rfl) (fun _ _ _ h => h) (Or.inl ⟨by rfl, ?_⟩) KP.out ?_
        · intro wq hSw
          obtain ⟨y0, y1⟩ := hSw
          go_simp
        (try simp only [Act.put, List.setIfInBounds_toArray, List.set_cons_zero, List.set_cons_succ])
        refine wpAnyT_take (i := 2) (oi := { dst := some 96, op := Op.move (Operand.tmp 0), type := 47, pos := "state.go:150", after := #[], guard := none }) (v := .pointer (some ⟨sb, 0, none⟩)) [3, 4, 5, 6, 7] rfl (by kernel_rfl) (by kernel_rfl) (by kernel_rfl) (by kernel_rfl) (fun _ _ _ h => h) (Or.inl ⟨by rfl, ?_⟩) KP.out ?_
        · intro wq hSw
          obtain ⟨y0, y1⟩ := hSw
          go_simp
        (try simp only [Act.put, List.setIfInBounds_toArray, List.set_cons_zero, List.set_cons_succ])
        refine wpAnyT_take (i := 3) (oi := { dst := some 97, op := Op.nilCheck (Operand.tmp 96), type := 0, pos := "state.go:150", after := #[{ on := 2, ground := Ground.data }], guard := none }) (v := .pointer (some ⟨sb, 0, none⟩)) [4, 5, 6, 7] rfl (by kernel_rfl) (by kernel_rfl) (by kernel_rfl) (by kernel_rfl) (fun _ _ _ h => h) (Or.inl ⟨by rfl, ?_⟩) KP.out ?_
        · intro wq hSw
          obtain ⟨y0, y1⟩ := hSw
          go_simp
        (try simp only [Act.put, List.setIfInBounds_toArray, List.set_cons_zero, List.set_cons_succ])
        refine wpAnyT_take (i := 4) (oi := { dst := some 98, op := Op.fieldAddr 58 (Operand.tmp 97) 2, type := 0, pos := "state.go:150", after := #[{ on := 3, ground := Ground.data }], guard := none }) (v := .pointer (some ⟨sb, 2, none⟩)) [5, 6, 7] rfl (by kernel_rfl) (by kernel_rfl) (by kernel_rfl) (by kernel_rfl) (fun _ _ _ h => h) (Or.inl ⟨by rfl, ?_⟩) KP.out ?_
        · intro wq hSw
          obtain ⟨y0, y1⟩ := hSw
          go_simp
        (try simp only [Act.put, List.setIfInBounds_toArray, List.set_cons_zero, List.set_cons_succ])
        refine wpAnyT_take (i := 5) (oi := { dst := some 99, op := Op.load 2 (Operand.tmp 98), type := 2, pos := "state.go:150", after := #[{ on := 4, ground := Ground.data }], guard := none }) (v := .int .i64 m.du) [6, 7] rfl (by kernel_rfl) (by kernel_rfl) (by kernel_rfl) (by kernel_rfl) (fun _ _ _ h => h) (Or.inl ⟨by rfl, ?_⟩) KP.out ?_
        · intro wq hSw
          obtain ⟨y0, y1⟩ := hSw
          go_simp
        (try simp only [Act.put, List.setIfInBounds_toArray, List.set_cons_zero, List.set_cons_succ])
        refine wpAnyT_take (i := 6) (oi := { dst := some 100, op := Op.binOp BinOp.geq 2 (Operand.tmp 95) (Operand.tmp 99) 2, type := 4, pos := "state.go:150", after := #[{ on := 1, ground := Ground.data }, { on := 5, ground := Ground.data }], guard := none }) (v := .bool true) [7] rfl (by kernel_rfl) (by kernel_rfl) (by kernel_rfl) (by kernel_rfl) (fun _ _ _ h => h) (Or.inl ⟨by rfl, ?_⟩) KP.out ?_
        · intro wq hSw
          obtain ⟨y0, y1⟩ := hSw
          go_simp
        (try simp only [Act.put, List.setIfInBounds_toArray, List.set_cons_zero, List.set_cons_succ])
        refine wpAnyT_one (i := 7) (o := { dst := some 101, op := Op.call { callee := Callee.value (Operand.func 34), args := #[Operand.tmp 100], argTypes := #[4] }, type := 0, pos := "state.go:150", after := #[{ on := 6, ground := Ground.data }], guard := none }) (by kernel_rfl) rfl (fun K hK => ?_)
        go_simp
        go_at_call 34
        refine (must_yes _).mono ?_
        rintro e w' ⟨rfl, hw⟩
        rw [hw]
        clear hw w'
        refine hK.out _ _ (vac (by kernel_rfl)) ?_
        clear hK K
        refine wpAnyT_done (by kernel_rfl) ?_ _
        have FIN : Hid (Goes sb w (some { m with fa := true }) (.returned (.tuple #[])) (q.setCell ⟨sb, 6, none⟩ (.bool true))) := hide (Goes.some (SQ.out.2.trans (but_set _ _ _ _)) (SQ.out.1.setFa true))
        obtain ⟨v9, -, -, -, -, -, -, -, e6, -, ez⟩ := SQ.out.1.open
        have ez6 := ez 6
        clear ez
        go_wp2_with fail
        first | go_end0 | refine bodyPost_ret (results_none rfl _ _ _) rfl ?_
        exact FIN.out
      · rw [if_neg h6]
        have k6 : decide (cn ≥ m.du) = false := by simp; omega
        go_enter Try.func40, Try.ntmps40
        go_upto_region 1 with fail
        rw [hw1'.out, hpA.out, hpB.out]
        go_upto_region 13 with (first | (go_at_call 37; refine (BR.out _).mono ?_; rintro e w2 ⟨rfl, B2⟩; replace B2 := hide B2; have S2 : Hid (St sb w2 m ∧ But (fun k => k = sb) w w2) := hide ⟨S1.out.1.below B2.out, S1.out.2.trans (But.of_below B2.out _)⟩; clear x0 x1 x2 x3 x4 x5 c0 c1 c2 c3 c4 c5 c6 c7 z1 z6 z7; obtain ⟨x0, x1, x2, x3, x4, x5⟩ := BXS.out w2 (But.of_below B2.out _); obtain ⟨v, -, c0, c1, c2, c3, c4, c5, c6, c7, z⟩ := S2.out.1.open; have z6 := z 6; clear z) | (go_at_call 34; refine (must_yes _).mono ?_; rintro e w' ⟨rfl, hw⟩; rw [hw]; clear hw w'))
        have KP : Hid (w2.drew.cell? ⟨pA, 1, none⟩ = some (.int .i64 cn) ∧ w2.drew.cell? ⟨sb, 2, none⟩ = some (.int .i64 m.du)) := hide ⟨x1, c2⟩
        have DQ : Below w2.heap.size w2 w2.drew := (Below.refl _ _).drew
        have SQ : Hid (St sb w2.drew m ∧ But (fun k => k = sb) w w2.drew) := hide ⟨S2.out.1.below DQ, S2.out.2.trans (But.of_below DQ _)⟩
        clear DQ B2 S2 S1
        clear x0 x1 x2 x3 x4 x5 c0 c1 c2 c3 c4 c5 c6 c7 z6
        refine wp_region_T (fun q => q.cell? ⟨pA, 1, none⟩ = some (.int .i64 cn) ∧ q.cell? ⟨sb, 2, none⟩ = some (.int .i64 m.du)) 7 (by kernel_rfl) ?_
        generalize w2.drew = q at *
        refine wpAnyT_take (i := 0) (oi := { dst := some 94, op := Op.fieldAddr 33 (Operand.tmp 4) 1, type := 0, pos := "state.go:150", after := #[], guard := none }) (v := .pointer (some ⟨pA, 1, none⟩)) [1, 6, 7] rfl (by kernel_rfl) (by kernel_rfl) (by kernel_rfl) (by kernel_rfl) (fun _ _ _ h => h) (Or.inl ⟨by rfl, ?_⟩) KP.out ?_
        · intro wq hSw
          obtain ⟨y0, y1⟩ := hSw
          go_simp
        (try simp only [Act.put, List.setIfInBounds_toArray, List.set_cons_zero, List.set_cons_succ])
        refine wpAnyT_take (i := 1) (oi := { dst := some 95, op := Op.load 2 (Operand.tmp 94), type := 2, pos := "state.go:150", after := #[{ on := 0, ground := Ground.data }], guard := none }) (v := .int .i64 cn) [6, 7] rfl (by kernel_rfl) (by kernel_rfl) (by kernel_rfl) (by kernel_rfl) (fun _ _ _ h => h) (Or.inl ⟨by rfl, ?_⟩) KP.out ?_
        · intro wq hSw
          obtain ⟨y0, y1⟩ := hSw
          go_simp
        (try simp only [Act.put, List.setIfInBounds_toArray, List.set_cons_zero, List.set_cons_succ])
        refine wpAnyT_take (i := 2) (oi := { dst := some 96, op := Op.move (Operand.tmp 0), type := 47, pos := "state.go:150", after := #[], guard := none }) (v := .pointer (some ⟨sb, 0, none⟩)) [3, 4, 5, 6, 7] rfl (by kernel_rfl) (by kernel_rfl) (by kernel_rfl) (by kernel_rfl) (fun _ _ _ h => h) (Or.inl ⟨by rfl, ?_⟩) KP.out ?_
        · intro wq hSw
          obtain ⟨y0, y1⟩ := hSw
          go_simp
        (try simp only [Act.put, List.setIfInBounds_toArray, List.set_cons_zero, List.set_cons_succ])
        refine wpAnyT_take (i := 3) (oi := { dst := some 97, op := Op.nilCheck (Operand.tmp 96), type := 0, pos := "state.go:150", after := #[{ on := 2, ground := Ground.data }], guard := none }) (v := .pointer (some ⟨sb, 0, none⟩)) [4, 5, 6, 7] rfl (by kernel_rfl) (by kernel_rfl) (by kernel_rfl) (by kernel_rfl) (fun _ _ _ h => h) (Or.inl ⟨by rfl, ?_⟩) KP.out ?_
        · intro wq hSw
          obtain ⟨y0, y1⟩ := hSw
          go_simp
        (try simp only [Act.put, List.setIfInBounds_toArray, List.set_cons_zero, List.set_cons_succ])
        refine wpAnyT_take (i := 4) (oi := { dst := some 98, op := Op.fieldAddr 58 (Operand.tmp 97) 2, type := 0, pos := "state.go:150", after := #[{ on := 3, ground := Ground.data }], guard := none }) (v := .pointer (some ⟨sb, 2, none⟩)) [5, 6, 7] rfl (by kernel_rfl) (by kernel_rfl) (by kernel_rfl) (by kernel_rfl) (fun _ _ _ h => h) (Or.inl ⟨by rfl, ?_⟩) KP.out ?_
        · intro wq hSw
          obtain ⟨y0, y1⟩ := hSw
          go_simp
        (try simp only [Act.put, List.setIfInBounds_toArray, List.set_cons_zero, List.set_cons_succ])
        refine wpAnyT_take (i := 5) (oi := { dst := some 99, op := Op.load 2 (Operand.tmp 98), type := 2, pos := "state.go:150", after := #[{ on := 4, ground := Ground.data }], guard := none }) (v := .int .i64 m.du) [6, 7] rfl (by kernel_rfl) (by kernel_rfl) (by kernel_rfl) (by kernel_rfl) (fun _ _ _ h => h) (Or.inl ⟨by rfl, ?_⟩) KP.out ?_
        · intro wq hSw
          obtain ⟨y0, y1⟩ := hSw
          go_simp
        (try simp only [Act.put, List.setIfInBounds_toArray, List.set_cons_zero, List.set_cons_succ])
        refine wpAnyT_take (i := 6) (oi := { dst := some 100, op := Op.binOp BinOp.geq 2 (Operand.tmp 95) (Operand.tmp 99) 2, type := 4, pos := "state.go:150", after := #[{ on := 1, ground := Ground.data }, { on := 5, ground := Ground.data }], guard := none }) (v := .bool false) [7] rfl (by kernel_rfl) (by kernel_rfl) (by kernel_rfl) (by kernel_rfl) (fun _ _ _ h => h) (Or.inl ⟨by rfl, ?_⟩) KP.out ?_
        · intro wq hSw
          obtain ⟨y0, y1⟩ := hSw
          go_simp
        (try simp only [Act.put, List.setIfInBounds_toArray, List.set_cons_zero, List.set_cons_succ])
        refine wpAnyT_one (i := 7) (o := { dst := some 101, op := Op.call { callee := Callee.value (Operand.func 34), args := #[Operand.tmp 100], argTypes := #[4] }, type := 0, pos := "state.go:150", after := #[{ on := 6, ground := Ground.data }], guard := none }) (by kernel_rfl) rfl (fun K hK => ?_)
        go_simp
        go_at_call 34
        refine (must_no _).mono ?_
        rintro e w' ⟨rfl, hw⟩
        rw [hw]
        clear hw w'
        exact ⟨rfl, Goes.none SQ.out.2⟩
    rw [if_neg h8]
    have fin : ∀ (kk : Hid (re = 42 → ¬ ck = 4) ∧ Hid (re = 40 → ¬ ck = 5)), Hid True := fun _ => hide trivial
    clear fin
    by_cases h42 : re = 42
    · subst h42
      have k4 : (ck == 4) = false := by have := HG.out; simp at this; simpa using this
      clear h4 h8
      go_enter Try.func40, Try.ntmps40
      go_upto_region 1 with fail
      rw [hw1'.out, hpA.out, hpB.out]
      go_upto_region 5 with (first | (go_at_call 37; refine (BR.out _).mono ?_; rintro e w2 ⟨rfl, B2⟩; replace B2 := hide B2; have S2 : Hid (St sb w2 m ∧ But (fun k => k = sb) w w2) := hide ⟨S1.out.1.below B2.out, S1.out.2.trans (But.of_below B2.out _)⟩; clear x0 x1 x2 x3 x4 x5 c0 c1 c2 c3 c4 c5 c6 c7 z1 z6 z7; obtain ⟨x0, x1, x2, x3, x4, x5⟩ := BXS.out w2 (But.of_below B2.out _); obtain ⟨v, -, c0, c1, c2, c3, c4, c5, c6, c7, z⟩ := S2.out.1.open; have z6 := z 6; clear z) | (go_at_call 34; refine (must_yes _).mono ?_; rintro e w' ⟨rfl, hw⟩; rw [hw]; clear hw w'))
      go_wp2_with (go_at_call 34; refine (must_no _).mono ?_; rintro e w' ⟨rfl, hw⟩; rw [hw]; clear hw w')
      exact ⟨rfl, Goes.none S2.out.2⟩
    have k42 : (re == 42) = false := by simpa using h42
    by_cases h40 : re = 40
    · subst h40
      have k5 : (ck == 5) = false := by simp at h8; simpa using h8
      clear h4 h8
      go_enter Try.func40, Try.ntmps40
      go_upto_region 1 with fail
      rw [hw1'.out, hpA.out, hpB.out]
      go_upto_region 5 with (first | (go_at_call 37; refine (BR.out _).mono ?_; rintro e w2 ⟨rfl, B2⟩; replace B2 := hide B2; have S2 : Hid (St sb w2 m ∧ But (fun k => k = sb) w w2) := hide ⟨S1.out.1.below B2.out, S1.out.2.trans (But.of_below B2.out _)⟩; clear x0 x1 x2 x3 x4 x5 c0 c1 c2 c3 c4 c5 c6 c7 z1 z6 z7; obtain ⟨x0, x1, x2, x3, x4, x5⟩ := BXS.out w2 (But.of_below B2.out _); obtain ⟨v, -, c0, c1, c2, c3, c4, c5, c6, c7, z⟩ := S2.out.1.open; have z6 := z 6; clear z) | (go_at_call 34; refine (must_yes _).mono ?_; rintro e w' ⟨rfl, hw⟩; rw [hw]; clear hw w'))
      go_wp2_with (go_at_call 34; refine (must_no _).mono ?_; rintro e w' ⟨rfl, hw⟩; rw [hw]; clear hw w')
      exact ⟨rfl, Goes.none S2.out.2⟩
    have k40 : (re == 40) = false := by simpa using h40
    clear h4 h8
    go_enter Try.func40, Try.ntmps40
    go_upto_region 1 with fail
    rw [hw1'.out, hpA.out, hpB.out]
    go_upto_region 5 with (first | (go_at_call 37; refine (BR.out _).mono ?_; rintro e w2 ⟨rfl, B2⟩; replace B2 := hide B2; have S2 : Hid (St sb w2 m ∧ But (fun k => k = sb) w w2) := hide ⟨S1.out.1.below B2.out, S1.out.2.trans (But.of_below B2.out _)⟩; clear x0 x1 x2 x3 x4 x5 c0 c1 c2 c3 c4 c5 c6 c7 z1 z6 z7; obtain ⟨x0, x1, x2, x3, x4, x5⟩ := BXS.out w2 (But.of_below B2.out _); obtain ⟨v, -, c0, c1, c2, c3, c4, c5, c6, c7, z⟩ := S2.out.1.open; have z6 := z 6; clear z) | (go_at_call 34; refine (must_yes _).mono ?_; rintro e w' ⟨rfl, hw⟩; rw [hw]; clear hw w'))
    go_wp2_with (go_at_call 34; refine (must_no _).mono ?_; rintro e w' ⟨rfl, hw⟩; rw [hw]; clear hw w')
    exact ⟨rfl, Goes.none S2.out.2⟩
theorem read_any (w : World) {sb : Nat} {m : Md} (h : St sb w m) (hx : I64 m.nx) (hb : I64 m.ba) (hl : m.rs.length ≤ 1000) (c : Cl) (hn : I64 c.n) (r : Rs) (ao bo : Option Addr) (ca cb : Nat) (hd : Sd sb w (.slice bo r.d.length cb) r.d) :
    Calls Try.prog 40 #[.pointer (some ⟨sb, 0, none⟩), .agg #[.int .i64 c.k, .int .i64 c.n, .slice ao c.d.length ca], .agg #[.int .i64 r.e, .int .i64 r.n, .slice bo r.d.length cb]] w fun e w' => Goes sb w (readS m c r) e w' := by
  by_cases h0 : r.e = 0
  · exact read_ok w h hx hb hl c hn r ao bo ca cb hd h0
  · exact read_no w h hx hb hl c hn r ao bo ca cb hd h0
end Go.Proofs.Ytmehlgebbbkdiaa.Um

/-
  truncate of a state. (gen_UmJ.py)
-/
namespace Go.Proofs.Ytmehlgebbbkdiaa.Um
open Go.RowKit Go.Maps
open Ix (wp_region_T wpAnyT wpAnyT_take wpAnyT_one wpAnyT_done vac)
set_option linter.unusedVariables false
set_option linter.unusedSimpArgs false
set_option maxRecDepth 100000
set_option maxHeartbeats 4000000 in
theorem trunc_any (w : World) {sb : Nat} {m : Md} (h : St sb w m) (n : Int) (r : Rs) (bo : Option Addr) (cb : Nat) :
    Calls Try.prog 41 #[.pointer (some ⟨sb, 0, none⟩), .int .i64 n, .agg #[.int .i64 r.e, .int .i64 r.n, .slice bo r.d.length cb]] w fun e w' => Goes sb w (truncS m n r) e w' := by
  obtain ⟨re, rn, rd⟩ := r
  obtain ⟨LR, hLR⟩ : ∃ L : Nat, Hid (rd.length = L) := ⟨_, rfl⟩
  simp only [hLR.out]
  have hB1 := hide (box_below w (.cells #[.int .i64 re, .int .i64 rn, .slice bo LR cb] 35))
  have N1 := heap_alloc_new w (.cells #[.int .i64 re, .int .i64 rn, .slice bo LR cb] 35)
  obtain ⟨w1, hw1⟩ : ∃ w1, Hid (w.alloc (.cells #[.int .i64 re, .int .i64 rn, .slice bo LR cb] 35) = w1) := ⟨_, rfl⟩
  rw [hw1.out] at hB1 N1
  have x3 := cell_of (off := 0) N1
  have x4 := cell_of (off := 1) N1
  have x5 := cell_of (off := 2) N1
  simp only [List.getElem?_toArray, List.getElem?_cons_zero, List.getElem?_cons_succ] at x3 x4 x5
  have S1 : Hid (St sb w1 m ∧ But (fun k => k = sb) w w1) := hide ⟨h.below hB1.out, But.of_below hB1.out _⟩
  obtain ⟨pB, hpB⟩ : ∃ pB, Hid (w.heap.size = pB) := ⟨_, rfl⟩
  rw [hpB.out] at x3 x4 x5
  obtain ⟨v, -, c0, c1, c2, c3, c4, c5, c6, c7, z⟩ := S1.out.1.open
  have z6 := z 6
  clear N1 h z hB1
  have CU := hide (cut_any w1 S1.out.1 n)
  obtain ⟨R, hR⟩ : ∃ R, Hid (cutS m n = R) := ⟨_, rfl⟩
  rw [hR.out] at CU
  have SS : Hid (truncS m n ⟨re, rn, rd⟩ = if LR = 0 then
    if re = 40 ∧ rn ≠ 0 then (if rn = n ∧ m.fi < n then R.map (fun m => { m with fa := true }) else none)
    else if rn = 0 then
      if re = 40 then some { m with fa := true }
      else if m.fa = false then
        if re = 0 then R
        else if re = 8 then (if m.du < n ∧ m.fi < n then some m else none)
        else if re = 9 then some m else none
      else none
    else none
  else none) := hide (by rw [← hLR.out, ← hR.out]; rfl)
  rw [SS.out]
  clear hR hLR SS
  by_cases h0 : LR = 0
  · subst h0
    rw [if_pos rfl]
    by_cases h1 : re = 40 ∧ rn ≠ 0
    · rw [if_pos h1]
      obtain ⟨h1, h2⟩ := h1
      subst h1
      have k2 : (rn != 0) = true := by simp [h2]
      by_cases h3 : rn = n
      · subst h3
        by_cases h4 : m.fi < rn
        · rw [if_pos ⟨rfl, h4⟩]
          cases R with
          | none =>
            rw [Option.map_none]
            go_enter Try.func41, Try.ntmps41
            go_upto_region 1 with fail
            rw [hw1.out, hpB.out]
            go_wp2_with (first | (go_at_call 34; refine (must_yes _).mono ?_; rintro e w' ⟨rfl, hw⟩; rw [hw]; clear hw w') | (go_at_call 50; refine CU.out.mono ?_; rintro e w3 ⟨g3, rfl⟩))
            exact ⟨rfl, Goes.none (S1.out.2.trans g3)⟩
          | some m1 =>
            rw [Option.map_some]
            go_enter Try.func41, Try.ntmps41
            go_upto_region 1 with fail
            rw [hw1.out, hpB.out]
            go_wp2_with (first
              | (go_at_call 34; refine (must_yes _).mono ?_; rintro e w' ⟨rfl, hw⟩; rw [hw]; clear hw w')
              | (go_at_call 50; refine CU.out.mono ?_; rintro e w3 ⟨g3, rfl, s3⟩; have FIN : Hid (Goes sb w (some { m1 with fa := true }) (.returned (.tuple #[])) (w3.setCell ⟨sb, 6, none⟩ (.bool true))) := hide (Goes.some ((S1.out.2.trans g3).trans (but_set _ _ _ _)) (s3.setFa true)); obtain ⟨v9, -, -, -, -, -, -, -, e6, -, ez⟩ := s3.open; have ez6 := ez 6; clear ez g3 s3))
            first | go_end0 | refine bodyPost_ret (results_none rfl _ _ _) rfl ?_
            exact FIN.out
        · rw [if_neg (fun c => h4 c.2)]
          have k4 : decide (rn > m.fi) = false := by simp; omega
          go_enter Try.func41, Try.ntmps41
          go_upto_region 1 with fail
          rw [hw1.out, hpB.out]
          go_upto_region 3 with (go_at_call 34; refine (must_yes _).mono ?_; rintro e w' ⟨rfl, hw⟩; rw [hw]; clear hw w')
          go_wp2_with (go_at_call 34; refine (must_no _).mono ?_; rintro e w' ⟨rfl, hw⟩; rw [hw]; clear hw w')
          exact ⟨rfl, Goes.none S1.out.2⟩
      · rw [if_neg (fun c => h3 c.1)]
        have k3 : (rn == n) = false := by simpa using h3
        go_enter Try.func41, Try.ntmps41
        go_upto_region 1 with fail
        rw [hw1.out, hpB.out]
        go_upto_region 3 with (go_at_call 34; refine (must_yes _).mono ?_; rintro e w' ⟨rfl, hw⟩; rw [hw]; clear hw w')
        go_wp2_with (go_at_call 34; refine (must_no _).mono ?_; rintro e w' ⟨rfl, hw⟩; rw [hw]; clear hw w')
        exact ⟨rfl, Goes.none S1.out.2⟩
    · rw [if_neg h1]
      by_cases h2 : rn = 0
      · subst h2
        rw [if_pos rfl]
        clear h1
        by_cases h3 : re = 40
        · subst h3
          rw [if_pos rfl]
          have FIN : Hid (Goes sb w (some { m with fa := true }) (.returned (.tuple #[])) (w1.setCell ⟨sb, 6, none⟩ (.bool true))) := hide (Goes.some (S1.out.2.trans (but_set _ _ _ _)) (S1.out.1.setFa true))
          go_enter Try.func41, Try.ntmps41
          go_upto_region 1 with fail
          rw [hw1.out, hpB.out]
          go_wp2_with (go_at_call 34; refine (must_yes _).mono ?_; rintro e w' ⟨rfl, hw⟩; rw [hw]; clear hw w')
          first | go_end0 | refine bodyPost_ret (results_none rfl _ _ _) rfl ?_
          exact FIN.out
        · rw [if_neg h3]
          have k3 : (re == 40) = false := by simpa using h3
          by_cases hf : m.fa = false
          · rw [if_pos hf]
            rw [hf] at c6
            by_cases h4 : re = 0
            · subst h4
              rw [if_pos rfl]
              cases R with
              | none =>
                go_enter Try.func41, Try.ntmps41
                go_upto_region 1 with fail
                rw [hw1.out, hpB.out]
                go_wp2_with (first | (go_at_call 34; refine (must_yes _).mono ?_; rintro e w' ⟨rfl, hw⟩; rw [hw]; clear hw w') | (go_at_call 50; refine CU.out.mono ?_; rintro e w3 ⟨g3, rfl⟩))
                exact ⟨rfl, Goes.none (S1.out.2.trans g3)⟩
              | some m1 =>
                go_enter Try.func41, Try.ntmps41
                go_upto_region 1 with fail
                rw [hw1.out, hpB.out]
                go_wp2_with (first | (go_at_call 34; refine (must_yes _).mono ?_; rintro e w' ⟨rfl, hw⟩; rw [hw]; clear hw w') | (go_at_call 50; refine CU.out.mono ?_; rintro e w3 ⟨g3, rfl, s3⟩))
                first | go_end0 | refine bodyPost_ret (results_none rfl _ _ _) rfl ?_
                exact Goes.some (S1.out.2.trans g3) s3
            · rw [if_neg h4]
              have k4 : (re == 0) = false := by simpa using h4
              clear CU
              by_cases h5 : re = 8
              · subst h5
                rw [if_pos rfl]
                by_cases h6 : m.du < n
                · by_cases h7 : m.fi < n
                  · rw [if_pos ⟨h6, h7⟩]
                    go_enter Try.func41, Try.ntmps41
                    go_upto_region 1 with fail
                    rw [hw1.out, hpB.out]
                    go_wp2_with (go_at_call 34; refine (must_yes _).mono ?_; rintro e w' ⟨rfl, hw⟩; rw [hw]; clear hw w')
                    first | go_end0 | refine bodyPost_ret (results_none rfl _ _ _) rfl ?_
                    exact Goes.some S1.out.2 S1.out.1
                  · rw [if_neg (fun c => h7 c.2)]
                    have k7 : decide (n > m.fi) = false := by simp; omega
                    go_enter Try.func41, Try.ntmps41
                    go_upto_region 1 with fail
                    rw [hw1.out, hpB.out]
                    go_upto_region 15 with (go_at_call 34; refine (must_yes _).mono ?_; rintro e w' ⟨rfl, hw⟩; rw [hw]; clear hw w')
                    go_wp2_with (go_at_call 34; refine (must_no _).mono ?_; rintro e w' ⟨rfl, hw⟩; rw [hw]; clear hw w')
                    exact ⟨rfl, Goes.none S1.out.2⟩
                · rw [if_neg (fun c => h6 c.1)]
                  have k6 : decide (n > m.du) = false := by simp; omega
                  go_enter Try.func41, Try.ntmps41
                  go_upto_region 1 with fail
                  rw [hw1.out, hpB.out]
                  go_upto_region 15 with (go_at_call 34; refine (must_yes _).mono ?_; rintro e w' ⟨rfl, hw⟩; rw [hw]; clear hw w')
                  go_wp2_with (go_at_call 34; refine (must_no _).mono ?_; rintro e w' ⟨rfl, hw⟩; rw [hw]; clear hw w')
                  exact ⟨rfl, Goes.none S1.out.2⟩
              · rw [if_neg h5]
                have k5 : (re == 8) = false := by simpa using h5
                by_cases h6 : re = 9
                · subst h6
                  rw [if_pos rfl]
                  go_enter Try.func41, Try.ntmps41
                  go_upto_region 1 with fail
                  rw [hw1.out, hpB.out]
                  go_wp2_with (go_at_call 34; refine (must_yes _).mono ?_; rintro e w' ⟨rfl, hw⟩; rw [hw]; clear hw w')
                  first | go_end0 | refine bodyPost_ret (results_none rfl _ _ _) rfl ?_
                  exact Goes.some S1.out.2 S1.out.1
                · rw [if_neg h6]
                  have k6 : (re == 9) = false := by simpa using h6
                  go_enter Try.func41, Try.ntmps41
                  go_upto_region 1 with fail
                  rw [hw1.out, hpB.out]
                  go_upto_region 11 with (go_at_call 34; refine (must_yes _).mono ?_; rintro e w' ⟨rfl, hw⟩; rw [hw]; clear hw w')
                  go_wp2_with (go_at_call 34; refine (must_no _).mono ?_; rintro e w' ⟨rfl, hw⟩; rw [hw]; clear hw w')
                  exact ⟨rfl, Goes.none S1.out.2⟩
          · rw [if_neg hf]
            have hf' : m.fa = true := by simpa using hf
            rw [hf'] at c6
            go_enter Try.func41, Try.ntmps41
            go_upto_region 1 with fail
            rw [hw1.out, hpB.out]
            go_upto_region 9 with (go_at_call 34; refine (must_yes _).mono ?_; rintro e w' ⟨rfl, hw⟩; rw [hw]; clear hw w')
            go_wp2_with (go_at_call 34; refine (must_no _).mono ?_; rintro e w' ⟨rfl, hw⟩; rw [hw]; clear hw w')
            exact ⟨rfl, Goes.none S1.out.2⟩
      · rw [if_neg h2]
        have h3 : ¬ re = 40 := fun c => h1 ⟨c, h2⟩
        have k3 : (re == 40) = false := by simpa using h3
        have k2 : (rn == 0) = false := by simpa using h2
        go_enter Try.func41, Try.ntmps41
        go_upto_region 1 with fail
        rw [hw1.out, hpB.out]
        go_upto_region 6 with (go_at_call 34; refine (must_yes _).mono ?_; rintro e w' ⟨rfl, hw⟩; rw [hw]; clear hw w')
        go_wp2_with (go_at_call 34; refine (must_no _).mono ?_; rintro e w' ⟨rfl, hw⟩; rw [hw]; clear hw w')
        exact ⟨rfl, Goes.none S1.out.2⟩
  · rw [if_neg h0]
    have k0 : ((LR : Int) == 0) = false := by simpa using h0
    go_enter Try.func41, Try.ntmps41
    go_upto_region 1 with fail
    rw [hw1.out, hpB.out]
    go_wp2_with (go_at_call 34; refine (must_no _).mono ?_; rintro e w' ⟨rfl, hw⟩; rw [hw]; clear hw w')
    exact ⟨rfl, Goes.none S1.out.2⟩
end Go.Proofs.Ytmehlgebbbkdiaa.Um

