/-
  answer and take of a state. (gen_UmK.py)
-/
import Derived.Test.YtmehlgebbbkdiaaM03
import Derived.BigRegion
import Derived.BigQuiet
import Derived.Deep.RegionHeld3
import Derived.Deep.Cut
import Derived.Laws.MakeOwn
namespace Go.Proofs.Ytmehlgebbbkdiaa.Um
open Go.RowKit Go.Maps
open Ix (wp_region_T wpAnyT wpAnyT_take wpAnyT_one wpAnyT_done vac)
set_option linter.unusedVariables false
set_option linter.unusedSimpArgs false
set_option maxRecDepth 100000
/-- What is asked of a state, a call and a result ahead of a change. -/
structure Ask (sb : Nat) (w : World) (m : Md) (c : Cl) (r : Rs) (ao bo : Option Addr) (ca cb : Nat) : Prop where
  nx : I64 m.nx
  ba : I64 m.ba
  rs : m.rs.length < 1000
  n : I64 c.n
  cd : Sd sb w (.slice ao c.d.length ca) c.d
  rd : Sd sb w (.slice bo r.d.length cb) r.d
set_option maxHeartbeats 4000000 in
theorem answer_any (w : World) {sb : Nat} {m : Md} (h : St sb w m) (c : Cl) (r : Rs) (ao bo : Option Addr) (ca cb : Nat) (hA : Ask sb w m c r ao bo ca cb) :
    Calls Try.prog 26 #[.pointer (some ⟨sb, 0, none⟩), .agg #[.int .i64 c.k, .int .i64 c.n, .slice ao c.d.length ca], .agg #[.int .i64 r.e, .int .i64 r.n, .slice bo r.d.length cb]] w fun e w' => Goes sb w (answerS m c r) e w' := by
  obtain ⟨ck, cn, cd⟩ := c
  obtain ⟨re, rn, rd⟩ := r
  obtain ⟨LC, hLC⟩ : ∃ L : Nat, Hid (cd.length = L) := ⟨_, rfl⟩
  obtain ⟨LR, hLR⟩ : ∃ L : Nat, Hid (rd.length = L) := ⟨_, rfl⟩
  simp only [hLC.out, hLR.out]
  have B0 := box_below w (.cells #[.int .i64 ck, .int .i64 cn, .slice ao LC ca] 33)
  have N0 := heap_alloc_new w (.cells #[.int .i64 ck, .int .i64 cn, .slice ao LC ca] 33)
  obtain ⟨w0, hw0⟩ : ∃ w0, Hid (w.alloc (.cells #[.int .i64 ck, .int .i64 cn, .slice ao LC ca] 33) = w0) := ⟨_, rfl⟩
  have hz0 : w0.heap.size = w.heap.size + 1 := by rw [← hw0.out]; simp
  rw [hw0.out] at B0 N0
  have B1 := box_below w0 (.cells #[.int .i64 re, .int .i64 rn, .slice bo LR cb] 35)
  have N1 := heap_alloc_new w0 (.cells #[.int .i64 re, .int .i64 rn, .slice bo LR cb] 35)
  obtain ⟨w1, hw1⟩ : ∃ w1, Hid (w0.alloc (.cells #[.int .i64 re, .int .i64 rn, .slice bo LR cb] 35) = w1) := ⟨_, rfl⟩
  rw [hw1.out] at B1 N1
  rw [hz0] at N1
  have N0 := (B1.block _ (heap_lt N0)).trans N0
  have hB1 : Hid (Below w.heap.size w w1) := hide (B0.trans ⟨B1.os, B1.tape, B1.output, B1.size, fun k hk => B1.block k (by omega)⟩)
  have hsb := h.lt
  have BXS : Hid (∀ q, But (fun k => k = sb) w1 q → q.cell? ⟨w.heap.size, 0, none⟩ = some (.int .i64 ck) ∧ q.cell? ⟨w.heap.size, 1, none⟩ = some (.int .i64 cn) ∧ q.cell? ⟨w.heap.size, 2, none⟩ = some (.slice ao LC ca) ∧ q.cell? ⟨w.heap.size + 1, 0, none⟩ = some (.int .i64 re) ∧ q.cell? ⟨w.heap.size + 1, 1, none⟩ = some (.int .i64 rn) ∧ q.cell? ⟨w.heap.size + 1, 2, none⟩ = some (.slice bo LR cb)) := hide (fun q hq => by
    have e0 := (hq.block _ (heap_lt N0) (by omega)).trans N0
    have e1 := (hq.block _ (heap_lt N1) (by omega)).trans N1
    refine ⟨?_, ?_, ?_, ?_, ?_, ?_⟩ <;> first | (rw [cell_of e0]; rfl) | (rw [cell_of e1]; rfl))
  have S1 : Hid (St sb w1 m ∧ But (fun k => k = sb) w w1) := hide ⟨h.below hB1.out, But.of_below hB1.out _⟩
  obtain ⟨pA, hpA⟩ : ∃ pA, Hid (w.heap.size = pA) := ⟨_, rfl⟩
  rw [hpA.out] at BXS
  rw [hpA.out] at hz0
  obtain ⟨pB, hpB⟩ : ∃ pB, Hid (pA + 1 = pB) := ⟨_, rfl⟩
  rw [hpB.out] at BXS hz0
  have hz0 := hide hz0
  have hw1' : Hid ((w.alloc (.cells #[.int .i64 ck, .int .i64 cn, .slice ao LC ca] 33)).alloc (.cells #[.int .i64 re, .int .i64 rn, .slice bo LR cb] 35) = w1) := hide (by rw [hw0.out, hw1.out])
  obtain ⟨x0, x1, x2, x3, x4, x5⟩ := BXS.out w1 (But.refl _ _)
  obtain ⟨v, -, c0, c1, c2, c3, c4, c5, c6, c7, z⟩ := S1.out.1.open
  have z6 := z 6
  have z7 := z 7
  have z1 := z 1
  clear B0 N0 B1 N1 hw1 h hsb z
  have FI : Hid (∀ q, Calls Try.prog 35 #[.agg #[.int .i64 ck, .int .i64 cn, .slice ao LC ca]] q fun e w' => e = .returned (.bool (fitsB ⟨ck, cn, cd⟩)) ∧ Below q.heap.size q w') := hide (by
    intro q
    have := fits_any q ⟨ck, cn, cd⟩ ao ca
    simp only [hLC.out] at this
    exact this)
  have BR : Hid (∀ q, Calls Try.prog 37 #[.agg #[.int .i64 re, .int .i64 rn, .slice bo LR cb]] q fun e w' => e = .returned (.bool (bareB ⟨re, rn, rd⟩)) ∧ Below q.heap.size q w') := hide (by
    intro q
    have := bare_any q ⟨re, rn, rd⟩ bo cb
    simp only [hLR.out] at this
    exact this)
  have APP : Hid (∀ q, St sb q m → But (fun k => k = sb) w q → Calls Try.prog 38 #[.pointer (some ⟨sb, 0, none⟩), .agg #[.int .i64 ck, .int .i64 cn, .slice ao LC ca], .agg #[.int .i64 re, .int .i64 rn, .slice bo LR cb]] q fun e w' => Goes sb q (appendS m ⟨ck, cn, cd⟩ ⟨re, rn, rd⟩) e w') := hide (fun q hq hb => by
    have := append_any q hq hA.nx hA.rs ⟨ck, cn, cd⟩ ⟨re, rn, rd⟩ ao bo ca cb (hA.cd.but hb)
    simp only [hLC.out, hLR.out] at this
    exact this)
  have SYN : Hid (∀ q, St sb q m → But (fun k => k = sb) w q → Calls Try.prog 39 #[.pointer (some ⟨sb, 0, none⟩), .agg #[.int .i64 re, .int .i64 rn, .slice bo LR cb]] q fun e w' => Goes sb q (syncS m ⟨re, rn, rd⟩) e w') := hide (fun q hq hb => by
    have := sync_any q hq ⟨re, rn, rd⟩ bo cb
    simp only [hLR.out] at this
    exact this)
  have CLO : Hid (∀ q, St sb q m → But (fun k => k = sb) w q → Calls Try.prog 42 #[.pointer (some ⟨sb, 0, none⟩), .agg #[.int .i64 re, .int .i64 rn, .slice bo LR cb]] q fun e w' => Goes sb q (closeS m ⟨re, rn, rd⟩) e w') := hide (fun q hq hb => by
    have := close_any q hq ⟨re, rn, rd⟩ bo cb
    simp only [hLR.out] at this
    exact this)
  have TRU : Hid (∀ q, St sb q m → But (fun k => k = sb) w q → Calls Try.prog 41 #[.pointer (some ⟨sb, 0, none⟩), .int .i64 cn, .agg #[.int .i64 re, .int .i64 rn, .slice bo LR cb]] q fun e w' => Goes sb q (truncS m cn ⟨re, rn, rd⟩) e w') := hide (fun q hq hb => by
    have := trunc_any q hq cn ⟨re, rn, rd⟩ bo cb
    simp only [hLR.out] at this
    exact this)
  have REA : Hid (∀ q, St sb q m → But (fun k => k = sb) w q → Calls Try.prog 40 #[.pointer (some ⟨sb, 0, none⟩), .agg #[.int .i64 ck, .int .i64 cn, .slice ao LC ca], .agg #[.int .i64 re, .int .i64 rn, .slice bo LR cb]] q fun e w' => Goes sb q (readS m ⟨ck, cn, cd⟩ ⟨re, rn, rd⟩) e w') := hide (fun q hq hb => by
    have := read_any q hq hA.nx hA.ba (Nat.le_of_lt hA.rs) ⟨ck, cn, cd⟩ hA.n ⟨re, rn, rd⟩ ao bo ca cb (hA.rd.but hb)
    simp only [hLC.out, hLR.out] at this
    exact this)
  have SS : Hid (answerS m ⟨ck, cn, cd⟩ ⟨re, rn, rd⟩ = if fitsB ⟨ck, cn, cd⟩ = true then
    if re = 41 then (if m.cl = true ∧ bareB ⟨re, rn, rd⟩ = true then some m else none)
    else if m.cl = false then
      if ck = 1 ∨ ck = 2 then appendS m ⟨ck, cn, cd⟩ ⟨re, rn, rd⟩
      else if ck = 3 then syncS m ⟨re, rn, rd⟩
      else if ck = 4 ∨ ck = 5 then readS m ⟨ck, cn, cd⟩ ⟨re, rn, rd⟩
      else if ck = 6 then truncS m cn ⟨re, rn, rd⟩
      else if ck = 7 then closeS m ⟨re, rn, rd⟩
      else some m
    else none
  else none) := hide rfl
  rw [SS.out]
  clear SS hA hLC hLR
  obtain ⟨fb, hfb⟩ : ∃ b, Hid (fitsB ⟨ck, cn, cd⟩ = b) := ⟨_, rfl⟩
  rw [hfb.out] at FI ⊢
  obtain ⟨bb, hbb⟩ : ∃ b, Hid (bareB ⟨re, rn, rd⟩ = b) := ⟨_, rfl⟩
  rw [hbb.out] at BR ⊢
  clear hbb
  cases fb with
  | false =>
    rw [if_neg (by simp)]
    go_enter Try.func26, Try.ntmps26
    go_upto_region 1 with fail
    rw [hw1'.out, hpA.out, hpB.out]
    go_wp2_with (first | (go_at_call 35; refine (FI.out _).mono ?_; rintro e w2 ⟨rfl, B2⟩; replace B2 := hide B2; have S2 : Hid (St sb w2 m ∧ But (fun k => k = sb) w w2) := hide ⟨S1.out.1.below B2.out, S1.out.2.trans (But.of_below B2.out _)⟩; clear x0 x1 x2 x3 x4 x5 c0 c1 c2 c3 c4 c5 c6 c7 z1 z6 z7; obtain ⟨x0, x1, x2, x3, x4, x5⟩ := BXS.out w2 (But.of_below B2.out _); obtain ⟨v, -, c0, c1, c2, c3, c4, c5, c6, c7, z⟩ := S2.out.1.open; clear z) | (go_at_call 34; refine (must_no _).mono ?_; rintro e w' ⟨rfl, hw⟩; rw [hw]; clear hw w'))
    exact ⟨rfl, Goes.none S2.out.2⟩
  | true =>
    rw [if_pos rfl]
    by_cases h0 : re = 41
    · subst h0
      rw [if_pos rfl]
      clear APP SYN CLO TRU REA
      by_cases hc : m.cl = true
      · cases bb with
        | true =>
          rw [if_pos ⟨hc, rfl⟩]
          go_enter Try.func26, Try.ntmps26
          go_upto_region 1 with fail
          rw [hw1'.out, hpA.out, hpB.out]
          go_wp2_with (first | (go_at_call 35; refine (FI.out _).mono ?_; rintro e w2 ⟨rfl, B2⟩; replace B2 := hide B2; have S2 : Hid (St sb w2 m ∧ But (fun k => k = sb) w w2) := hide ⟨S1.out.1.below B2.out, S1.out.2.trans (But.of_below B2.out _)⟩; clear x0 x1 x2 x3 x4 x5 c0 c1 c2 c3 c4 c5 c6 c7 z1 z6 z7; obtain ⟨x0, x1, x2, x3, x4, x5⟩ := BXS.out w2 (But.of_below B2.out _); obtain ⟨v, -, c0, c1, c2, c3, c4, c5, c6, c7, z⟩ := S2.out.1.open; clear z; rw [hc] at c7) | (go_at_call 37; refine (BR.out _).mono ?_; rintro e w3 ⟨rfl, B3⟩; replace B3 := hide B3) | (go_at_call 34; refine (must_yes _).mono ?_; rintro e w' ⟨rfl, hw⟩; rw [hw]; clear hw w'))
          first | go_end0 | refine bodyPost_ret (results_none rfl _ _ _) rfl ?_
          exact Goes.some (S2.out.2.trans (But.of_below B3.out _)) (S2.out.1.below B3.out)
        | false =>
          rw [if_neg (by simp)]
          go_enter Try.func26, Try.ntmps26
          go_upto_region 1 with fail
          rw [hw1'.out, hpA.out, hpB.out]
          go_upto_region 3 with (first | (go_at_call 35; refine (FI.out _).mono ?_; rintro e w2 ⟨rfl, B2⟩; replace B2 := hide B2; have S2 : Hid (St sb w2 m ∧ But (fun k => k = sb) w w2) := hide ⟨S1.out.1.below B2.out, S1.out.2.trans (But.of_below B2.out _)⟩; clear x0 x1 x2 x3 x4 x5 c0 c1 c2 c3 c4 c5 c6 c7 z1 z6 z7; obtain ⟨x0, x1, x2, x3, x4, x5⟩ := BXS.out w2 (But.of_below B2.out _); obtain ⟨v, -, c0, c1, c2, c3, c4, c5, c6, c7, z⟩ := S2.out.1.open; clear z; rw [hc] at c7) | (go_at_call 34; refine (must_yes _).mono ?_; rintro e w' ⟨rfl, hw⟩; rw [hw]; clear hw w'))
          go_wp2_with (first | (go_at_call 37; refine (BR.out _).mono ?_; rintro e w3 ⟨rfl, B3⟩; replace B3 := hide B3) | (go_at_call 34; refine (must_no _).mono ?_; rintro e w' ⟨rfl, hw⟩; rw [hw]; clear hw w'))
          exact ⟨rfl, Goes.none (S2.out.2.trans (But.of_below B3.out _))⟩
      · rw [if_neg (fun c => hc c.1)]
        have hc' : m.cl = false := by simpa using hc
        replace hc := hc'
        clear hc'
        go_enter Try.func26, Try.ntmps26
        go_upto_region 1 with fail
        rw [hw1'.out, hpA.out, hpB.out]
        go_upto_region 3 with (first | (go_at_call 35; refine (FI.out _).mono ?_; rintro e w2 ⟨rfl, B2⟩; replace B2 := hide B2; have S2 : Hid (St sb w2 m ∧ But (fun k => k = sb) w w2) := hide ⟨S1.out.1.below B2.out, S1.out.2.trans (But.of_below B2.out _)⟩; clear x0 x1 x2 x3 x4 x5 c0 c1 c2 c3 c4 c5 c6 c7 z1 z6 z7; obtain ⟨x0, x1, x2, x3, x4, x5⟩ := BXS.out w2 (But.of_below B2.out _); obtain ⟨v, -, c0, c1, c2, c3, c4, c5, c6, c7, z⟩ := S2.out.1.open; clear z; rw [hc] at c7) | (go_at_call 34; refine (must_yes _).mono ?_; rintro e w' ⟨rfl, hw⟩; rw [hw]; clear hw w'))
        go_wp2_with (go_at_call 34; refine (must_no _).mono ?_; rintro e w' ⟨rfl, hw⟩; rw [hw]; clear hw w')
        exact ⟨rfl, Goes.none S2.out.2⟩
    · rw [if_neg h0]
      have k0 : (re == 41) = false := by simpa using h0
      clear BR
      by_cases hc : m.cl = false
      · rw [if_pos hc]
        by_cases h1 : ck = 1
        · subst h1
          clear SYN CLO TRU REA
          rw [if_pos (Or.inl rfl)]
          obtain ⟨R, hR⟩ : ∃ R, Hid (appendS m ⟨1, cn, cd⟩ ⟨re, rn, rd⟩ = R) := ⟨_, rfl⟩
          rw [hR.out] at APP ⊢
          clear hR
          cases R with
          | none =>
            go_enter Try.func26, Try.ntmps26
            go_upto_region 1 with fail
            rw [hw1'.out, hpA.out, hpB.out]
            go_wp2_with (first | (go_at_call 35; refine (FI.out _).mono ?_; rintro e w2 ⟨rfl, B2⟩; replace B2 := hide B2; have S2 : Hid (St sb w2 m ∧ But (fun k => k = sb) w w2) := hide ⟨S1.out.1.below B2.out, S1.out.2.trans (But.of_below B2.out _)⟩; clear x0 x1 x2 x3 x4 x5 c0 c1 c2 c3 c4 c5 c6 c7 z1 z6 z7; obtain ⟨x0, x1, x2, x3, x4, x5⟩ := BXS.out w2 (But.of_below B2.out _); obtain ⟨v, -, c0, c1, c2, c3, c4, c5, c6, c7, z⟩ := S2.out.1.open; clear z; rw [hc] at c7) | (go_at_call 34; refine (must_yes _).mono ?_; rintro e w' ⟨rfl, hw⟩; rw [hw]; clear hw w') | (go_at_call 38; refine (APP.out w2 S2.out.1 S2.out.2).mono ?_; rintro e w3 ⟨g3, rfl⟩))
            exact ⟨rfl, Goes.none (S2.out.2.trans g3)⟩
          | some m1 =>
            go_enter Try.func26, Try.ntmps26
            go_upto_region 1 with fail
            rw [hw1'.out, hpA.out, hpB.out]
            go_wp2_with (first | (go_at_call 35; refine (FI.out _).mono ?_; rintro e w2 ⟨rfl, B2⟩; replace B2 := hide B2; have S2 : Hid (St sb w2 m ∧ But (fun k => k = sb) w w2) := hide ⟨S1.out.1.below B2.out, S1.out.2.trans (But.of_below B2.out _)⟩; clear x0 x1 x2 x3 x4 x5 c0 c1 c2 c3 c4 c5 c6 c7 z1 z6 z7; obtain ⟨x0, x1, x2, x3, x4, x5⟩ := BXS.out w2 (But.of_below B2.out _); obtain ⟨v, -, c0, c1, c2, c3, c4, c5, c6, c7, z⟩ := S2.out.1.open; clear z; rw [hc] at c7) | (go_at_call 34; refine (must_yes _).mono ?_; rintro e w' ⟨rfl, hw⟩; rw [hw]; clear hw w') | (go_at_call 38; refine (APP.out w2 S2.out.1 S2.out.2).mono ?_; rintro e w3 ⟨g3, rfl, s3⟩))
            first | go_end0 | refine bodyPost_ret (results_none rfl _ _ _) rfl ?_
            exact Goes.some (S2.out.2.trans g3) s3
        by_cases h2 : ck = 2
        · subst h2
          clear SYN CLO TRU REA
          rw [if_pos (Or.inr rfl)]
          obtain ⟨R, hR⟩ : ∃ R, Hid (appendS m ⟨2, cn, cd⟩ ⟨re, rn, rd⟩ = R) := ⟨_, rfl⟩
          rw [hR.out] at APP ⊢
          clear hR
          cases R with
          | none =>
            go_enter Try.func26, Try.ntmps26
            go_upto_region 1 with fail
            rw [hw1'.out, hpA.out, hpB.out]
            go_wp2_with (first | (go_at_call 35; refine (FI.out _).mono ?_; rintro e w2 ⟨rfl, B2⟩; replace B2 := hide B2; have S2 : Hid (St sb w2 m ∧ But (fun k => k = sb) w w2) := hide ⟨S1.out.1.below B2.out, S1.out.2.trans (But.of_below B2.out _)⟩; clear x0 x1 x2 x3 x4 x5 c0 c1 c2 c3 c4 c5 c6 c7 z1 z6 z7; obtain ⟨x0, x1, x2, x3, x4, x5⟩ := BXS.out w2 (But.of_below B2.out _); obtain ⟨v, -, c0, c1, c2, c3, c4, c5, c6, c7, z⟩ := S2.out.1.open; clear z; rw [hc] at c7) | (go_at_call 34; refine (must_yes _).mono ?_; rintro e w' ⟨rfl, hw⟩; rw [hw]; clear hw w') | (go_at_call 38; refine (APP.out w2 S2.out.1 S2.out.2).mono ?_; rintro e w3 ⟨g3, rfl⟩))
            exact ⟨rfl, Goes.none (S2.out.2.trans g3)⟩
          | some m1 =>
            go_enter Try.func26, Try.ntmps26
            go_upto_region 1 with fail
            rw [hw1'.out, hpA.out, hpB.out]
            go_wp2_with (first | (go_at_call 35; refine (FI.out _).mono ?_; rintro e w2 ⟨rfl, B2⟩; replace B2 := hide B2; have S2 : Hid (St sb w2 m ∧ But (fun k => k = sb) w w2) := hide ⟨S1.out.1.below B2.out, S1.out.2.trans (But.of_below B2.out _)⟩; clear x0 x1 x2 x3 x4 x5 c0 c1 c2 c3 c4 c5 c6 c7 z1 z6 z7; obtain ⟨x0, x1, x2, x3, x4, x5⟩ := BXS.out w2 (But.of_below B2.out _); obtain ⟨v, -, c0, c1, c2, c3, c4, c5, c6, c7, z⟩ := S2.out.1.open; clear z; rw [hc] at c7) | (go_at_call 34; refine (must_yes _).mono ?_; rintro e w' ⟨rfl, hw⟩; rw [hw]; clear hw w') | (go_at_call 38; refine (APP.out w2 S2.out.1 S2.out.2).mono ?_; rintro e w3 ⟨g3, rfl, s3⟩))
            first | go_end0 | refine bodyPost_ret (results_none rfl _ _ _) rfl ?_
            exact Goes.some (S2.out.2.trans g3) s3
        rw [if_neg (fun c => c.elim h1 h2)]
        have k1 : (ck == 1) = false := by simpa using h1
        have k2 : (ck == 2) = false := by simpa using h2
        by_cases h3 : ck = 3
        · subst h3
          clear APP CLO TRU REA
          rw [if_pos rfl]
          obtain ⟨R, hR⟩ : ∃ R, Hid (syncS m ⟨re, rn, rd⟩ = R) := ⟨_, rfl⟩
          rw [hR.out] at SYN ⊢
          clear hR
          cases R with
          | none =>
            go_enter Try.func26, Try.ntmps26
            go_upto_region 1 with fail
            rw [hw1'.out, hpA.out, hpB.out]
            go_wp2_with (first | (go_at_call 35; refine (FI.out _).mono ?_; rintro e w2 ⟨rfl, B2⟩; replace B2 := hide B2; have S2 : Hid (St sb w2 m ∧ But (fun k => k = sb) w w2) := hide ⟨S1.out.1.below B2.out, S1.out.2.trans (But.of_below B2.out _)⟩; clear x0 x1 x2 x3 x4 x5 c0 c1 c2 c3 c4 c5 c6 c7 z1 z6 z7; obtain ⟨x0, x1, x2, x3, x4, x5⟩ := BXS.out w2 (But.of_below B2.out _); obtain ⟨v, -, c0, c1, c2, c3, c4, c5, c6, c7, z⟩ := S2.out.1.open; clear z; rw [hc] at c7) | (go_at_call 34; refine (must_yes _).mono ?_; rintro e w' ⟨rfl, hw⟩; rw [hw]; clear hw w') | (go_at_call 39; refine (SYN.out w2 S2.out.1 S2.out.2).mono ?_; rintro e w3 ⟨g3, rfl⟩))
            exact ⟨rfl, Goes.none (S2.out.2.trans g3)⟩
          | some m1 =>
            go_enter Try.func26, Try.ntmps26
            go_upto_region 1 with fail
            rw [hw1'.out, hpA.out, hpB.out]
            go_wp2_with (first | (go_at_call 35; refine (FI.out _).mono ?_; rintro e w2 ⟨rfl, B2⟩; replace B2 := hide B2; have S2 : Hid (St sb w2 m ∧ But (fun k => k = sb) w w2) := hide ⟨S1.out.1.below B2.out, S1.out.2.trans (But.of_below B2.out _)⟩; clear x0 x1 x2 x3 x4 x5 c0 c1 c2 c3 c4 c5 c6 c7 z1 z6 z7; obtain ⟨x0, x1, x2, x3, x4, x5⟩ := BXS.out w2 (But.of_below B2.out _); obtain ⟨v, -, c0, c1, c2, c3, c4, c5, c6, c7, z⟩ := S2.out.1.open; clear z; rw [hc] at c7) | (go_at_call 34; refine (must_yes _).mono ?_; rintro e w' ⟨rfl, hw⟩; rw [hw]; clear hw w') | (go_at_call 39; refine (SYN.out w2 S2.out.1 S2.out.2).mono ?_; rintro e w3 ⟨g3, rfl, s3⟩))
            first | go_end0 | refine bodyPost_ret (results_none rfl _ _ _) rfl ?_
            exact Goes.some (S2.out.2.trans g3) s3
        rw [if_neg h3]
        have k3 : (ck == 3) = false := by simpa using h3
        by_cases h4 : ck = 4
        · subst h4
          clear APP SYN CLO TRU
          rw [if_pos (Or.inl rfl)]
          obtain ⟨R, hR⟩ : ∃ R, Hid (readS m ⟨4, cn, cd⟩ ⟨re, rn, rd⟩ = R) := ⟨_, rfl⟩
          rw [hR.out] at REA ⊢
          clear hR
          cases R with
          | none =>
            go_enter Try.func26, Try.ntmps26
            go_upto_region 1 with fail
            rw [hw1'.out, hpA.out, hpB.out]
            go_wp2_with (first | (go_at_call 35; refine (FI.out _).mono ?_; rintro e w2 ⟨rfl, B2⟩; replace B2 := hide B2; have S2 : Hid (St sb w2 m ∧ But (fun k => k = sb) w w2) := hide ⟨S1.out.1.below B2.out, S1.out.2.trans (But.of_below B2.out _)⟩; clear x0 x1 x2 x3 x4 x5 c0 c1 c2 c3 c4 c5 c6 c7 z1 z6 z7; obtain ⟨x0, x1, x2, x3, x4, x5⟩ := BXS.out w2 (But.of_below B2.out _); obtain ⟨v, -, c0, c1, c2, c3, c4, c5, c6, c7, z⟩ := S2.out.1.open; clear z; rw [hc] at c7) | (go_at_call 34; refine (must_yes _).mono ?_; rintro e w' ⟨rfl, hw⟩; rw [hw]; clear hw w') | (go_at_call 40; refine (REA.out w2 S2.out.1 S2.out.2).mono ?_; rintro e w3 ⟨g3, rfl⟩))
            exact ⟨rfl, Goes.none (S2.out.2.trans g3)⟩
          | some m1 =>
            go_enter Try.func26, Try.ntmps26
            go_upto_region 1 with fail
            rw [hw1'.out, hpA.out, hpB.out]
            go_wp2_with (first | (go_at_call 35; refine (FI.out _).mono ?_; rintro e w2 ⟨rfl, B2⟩; replace B2 := hide B2; have S2 : Hid (St sb w2 m ∧ But (fun k => k = sb) w w2) := hide ⟨S1.out.1.below B2.out, S1.out.2.trans (But.of_below B2.out _)⟩; clear x0 x1 x2 x3 x4 x5 c0 c1 c2 c3 c4 c5 c6 c7 z1 z6 z7; obtain ⟨x0, x1, x2, x3, x4, x5⟩ := BXS.out w2 (But.of_below B2.out _); obtain ⟨v, -, c0, c1, c2, c3, c4, c5, c6, c7, z⟩ := S2.out.1.open; clear z; rw [hc] at c7) | (go_at_call 34; refine (must_yes _).mono ?_; rintro e w' ⟨rfl, hw⟩; rw [hw]; clear hw w') | (go_at_call 40; refine (REA.out w2 S2.out.1 S2.out.2).mono ?_; rintro e w3 ⟨g3, rfl, s3⟩))
            first | go_end0 | refine bodyPost_ret (results_none rfl _ _ _) rfl ?_
            exact Goes.some (S2.out.2.trans g3) s3
        by_cases h5 : ck = 5
        · subst h5
          clear APP SYN CLO TRU
          rw [if_pos (Or.inr rfl)]
          obtain ⟨R, hR⟩ : ∃ R, Hid (readS m ⟨5, cn, cd⟩ ⟨re, rn, rd⟩ = R) := ⟨_, rfl⟩
          rw [hR.out] at REA ⊢
          clear hR
          cases R with
          | none =>
            go_enter Try.func26, Try.ntmps26
            go_upto_region 1 with fail
            rw [hw1'.out, hpA.out, hpB.out]
            go_wp2_with (first | (go_at_call 35; refine (FI.out _).mono ?_; rintro e w2 ⟨rfl, B2⟩; replace B2 := hide B2; have S2 : Hid (St sb w2 m ∧ But (fun k => k = sb) w w2) := hide ⟨S1.out.1.below B2.out, S1.out.2.trans (But.of_below B2.out _)⟩; clear x0 x1 x2 x3 x4 x5 c0 c1 c2 c3 c4 c5 c6 c7 z1 z6 z7; obtain ⟨x0, x1, x2, x3, x4, x5⟩ := BXS.out w2 (But.of_below B2.out _); obtain ⟨v, -, c0, c1, c2, c3, c4, c5, c6, c7, z⟩ := S2.out.1.open; clear z; rw [hc] at c7) | (go_at_call 34; refine (must_yes _).mono ?_; rintro e w' ⟨rfl, hw⟩; rw [hw]; clear hw w') | (go_at_call 40; refine (REA.out w2 S2.out.1 S2.out.2).mono ?_; rintro e w3 ⟨g3, rfl⟩))
            exact ⟨rfl, Goes.none (S2.out.2.trans g3)⟩
          | some m1 =>
            go_enter Try.func26, Try.ntmps26
            go_upto_region 1 with fail
            rw [hw1'.out, hpA.out, hpB.out]
            go_wp2_with (first | (go_at_call 35; refine (FI.out _).mono ?_; rintro e w2 ⟨rfl, B2⟩; replace B2 := hide B2; have S2 : Hid (St sb w2 m ∧ But (fun k => k = sb) w w2) := hide ⟨S1.out.1.below B2.out, S1.out.2.trans (But.of_below B2.out _)⟩; clear x0 x1 x2 x3 x4 x5 c0 c1 c2 c3 c4 c5 c6 c7 z1 z6 z7; obtain ⟨x0, x1, x2, x3, x4, x5⟩ := BXS.out w2 (But.of_below B2.out _); obtain ⟨v, -, c0, c1, c2, c3, c4, c5, c6, c7, z⟩ := S2.out.1.open; clear z; rw [hc] at c7) | (go_at_call 34; refine (must_yes _).mono ?_; rintro e w' ⟨rfl, hw⟩; rw [hw]; clear hw w') | (go_at_call 40; refine (REA.out w2 S2.out.1 S2.out.2).mono ?_; rintro e w3 ⟨g3, rfl, s3⟩))
            first | go_end0 | refine bodyPost_ret (results_none rfl _ _ _) rfl ?_
            exact Goes.some (S2.out.2.trans g3) s3
        rw [if_neg (fun c => c.elim h4 h5)]
        have k4 : (ck == 4) = false := by simpa using h4
        have k5 : (ck == 5) = false := by simpa using h5
        by_cases h6 : ck = 6
        · subst h6
          clear APP SYN CLO REA
          rw [if_pos rfl]
          obtain ⟨R, hR⟩ : ∃ R, Hid (truncS m cn ⟨re, rn, rd⟩ = R) := ⟨_, rfl⟩
          rw [hR.out] at TRU ⊢
          clear hR
          cases R with
          | none =>
            go_enter Try.func26, Try.ntmps26
            go_upto_region 1 with fail
            rw [hw1'.out, hpA.out, hpB.out]
            go_wp2_with (first | (go_at_call 35; refine (FI.out _).mono ?_; rintro e w2 ⟨rfl, B2⟩; replace B2 := hide B2; have S2 : Hid (St sb w2 m ∧ But (fun k => k = sb) w w2) := hide ⟨S1.out.1.below B2.out, S1.out.2.trans (But.of_below B2.out _)⟩; clear x0 x1 x2 x3 x4 x5 c0 c1 c2 c3 c4 c5 c6 c7 z1 z6 z7; obtain ⟨x0, x1, x2, x3, x4, x5⟩ := BXS.out w2 (But.of_below B2.out _); obtain ⟨v, -, c0, c1, c2, c3, c4, c5, c6, c7, z⟩ := S2.out.1.open; clear z; rw [hc] at c7) | (go_at_call 34; refine (must_yes _).mono ?_; rintro e w' ⟨rfl, hw⟩; rw [hw]; clear hw w') | (go_at_call 41; refine (TRU.out w2 S2.out.1 S2.out.2).mono ?_; rintro e w3 ⟨g3, rfl⟩))
            exact ⟨rfl, Goes.none (S2.out.2.trans g3)⟩
          | some m1 =>
            go_enter Try.func26, Try.ntmps26
            go_upto_region 1 with fail
            rw [hw1'.out, hpA.out, hpB.out]
            go_wp2_with (first | (go_at_call 35; refine (FI.out _).mono ?_; rintro e w2 ⟨rfl, B2⟩; replace B2 := hide B2; have S2 : Hid (St sb w2 m ∧ But (fun k => k = sb) w w2) := hide ⟨S1.out.1.below B2.out, S1.out.2.trans (But.of_below B2.out _)⟩; clear x0 x1 x2 x3 x4 x5 c0 c1 c2 c3 c4 c5 c6 c7 z1 z6 z7; obtain ⟨x0, x1, x2, x3, x4, x5⟩ := BXS.out w2 (But.of_below B2.out _); obtain ⟨v, -, c0, c1, c2, c3, c4, c5, c6, c7, z⟩ := S2.out.1.open; clear z; rw [hc] at c7) | (go_at_call 34; refine (must_yes _).mono ?_; rintro e w' ⟨rfl, hw⟩; rw [hw]; clear hw w') | (go_at_call 41; refine (TRU.out w2 S2.out.1 S2.out.2).mono ?_; rintro e w3 ⟨g3, rfl, s3⟩))
            first | go_end0 | refine bodyPost_ret (results_none rfl _ _ _) rfl ?_
            exact Goes.some (S2.out.2.trans g3) s3
        rw [if_neg h6]
        have k6 : (ck == 6) = false := by simpa using h6
        by_cases h7 : ck = 7
        · subst h7
          clear APP SYN TRU REA
          rw [if_pos rfl]
          obtain ⟨R, hR⟩ : ∃ R, Hid (closeS m ⟨re, rn, rd⟩ = R) := ⟨_, rfl⟩
          rw [hR.out] at CLO ⊢
          clear hR
          cases R with
          | none =>
            go_enter Try.func26, Try.ntmps26
            go_upto_region 1 with fail
            rw [hw1'.out, hpA.out, hpB.out]
            go_wp2_with (first | (go_at_call 35; refine (FI.out _).mono ?_; rintro e w2 ⟨rfl, B2⟩; replace B2 := hide B2; have S2 : Hid (St sb w2 m ∧ But (fun k => k = sb) w w2) := hide ⟨S1.out.1.below B2.out, S1.out.2.trans (But.of_below B2.out _)⟩; clear x0 x1 x2 x3 x4 x5 c0 c1 c2 c3 c4 c5 c6 c7 z1 z6 z7; obtain ⟨x0, x1, x2, x3, x4, x5⟩ := BXS.out w2 (But.of_below B2.out _); obtain ⟨v, -, c0, c1, c2, c3, c4, c5, c6, c7, z⟩ := S2.out.1.open; clear z; rw [hc] at c7) | (go_at_call 34; refine (must_yes _).mono ?_; rintro e w' ⟨rfl, hw⟩; rw [hw]; clear hw w') | (go_at_call 42; refine (CLO.out w2 S2.out.1 S2.out.2).mono ?_; rintro e w3 ⟨g3, rfl⟩))
            exact ⟨rfl, Goes.none (S2.out.2.trans g3)⟩
          | some m1 =>
            go_enter Try.func26, Try.ntmps26
            go_upto_region 1 with fail
            rw [hw1'.out, hpA.out, hpB.out]
            go_wp2_with (first | (go_at_call 35; refine (FI.out _).mono ?_; rintro e w2 ⟨rfl, B2⟩; replace B2 := hide B2; have S2 : Hid (St sb w2 m ∧ But (fun k => k = sb) w w2) := hide ⟨S1.out.1.below B2.out, S1.out.2.trans (But.of_below B2.out _)⟩; clear x0 x1 x2 x3 x4 x5 c0 c1 c2 c3 c4 c5 c6 c7 z1 z6 z7; obtain ⟨x0, x1, x2, x3, x4, x5⟩ := BXS.out w2 (But.of_below B2.out _); obtain ⟨v, -, c0, c1, c2, c3, c4, c5, c6, c7, z⟩ := S2.out.1.open; clear z; rw [hc] at c7) | (go_at_call 34; refine (must_yes _).mono ?_; rintro e w' ⟨rfl, hw⟩; rw [hw]; clear hw w') | (go_at_call 42; refine (CLO.out w2 S2.out.1 S2.out.2).mono ?_; rintro e w3 ⟨g3, rfl, s3⟩))
            first | go_end0 | refine bodyPost_ret (results_none rfl _ _ _) rfl ?_
            exact Goes.some (S2.out.2.trans g3) s3
        have := hfb.out
        unfold fitsB at this
        simp [h1, h2, h3, h4, h5, h6, h7] at this
      · rw [if_neg hc]
        clear APP SYN CLO TRU REA
        have hc' : m.cl = true := by simpa using hc
        replace hc := hc'
        clear hc'
        go_enter Try.func26, Try.ntmps26
        go_upto_region 1 with fail
        rw [hw1'.out, hpA.out, hpB.out]
        go_upto_region 4 with (first | (go_at_call 35; refine (FI.out _).mono ?_; rintro e w2 ⟨rfl, B2⟩; replace B2 := hide B2; have S2 : Hid (St sb w2 m ∧ But (fun k => k = sb) w w2) := hide ⟨S1.out.1.below B2.out, S1.out.2.trans (But.of_below B2.out _)⟩; clear x0 x1 x2 x3 x4 x5 c0 c1 c2 c3 c4 c5 c6 c7 z1 z6 z7; obtain ⟨x0, x1, x2, x3, x4, x5⟩ := BXS.out w2 (But.of_below B2.out _); obtain ⟨v, -, c0, c1, c2, c3, c4, c5, c6, c7, z⟩ := S2.out.1.open; clear z; rw [hc] at c7) | (go_at_call 34; refine (must_yes _).mono ?_; rintro e w' ⟨rfl, hw⟩; rw [hw]; clear hw w'))
        go_wp2_with (go_at_call 34; refine (must_no _).mono ?_; rintro e w' ⟨rfl, hw⟩; rw [hw]; clear hw w')
        exact ⟨rfl, Goes.none S2.out.2⟩
set_option maxHeartbeats 4000000 in
theorem take_any (w : World) {sb : Nat} {m : Md} (h : St sb w m) (c : Cl) (ao : Option Addr) (ca : Nat) (hA : Ask sb w m c ⟨0, 0, []⟩ ao none ca 0) :
    Calls Try.prog 21 #[.pointer (some ⟨sb, 0, none⟩), .agg #[.int .i64 c.k, .int .i64 c.n, .slice ao c.d.length ca]] w fun e w' => Goes sb w (takeS m c) e w' := by
  obtain ⟨ck, cn, cd⟩ := c
  obtain ⟨LC, hLC⟩ : ∃ L : Nat, Hid (cd.length = L) := ⟨_, rfl⟩
  simp only [hLC.out]
  have hB1 := hide (box_below w (.cells #[.int .i64 ck, .int .i64 cn, .slice ao LC ca] 33))
  have N1 := heap_alloc_new w (.cells #[.int .i64 ck, .int .i64 cn, .slice ao LC ca] 33)
  obtain ⟨w1, hw1⟩ : ∃ w1, Hid (w.alloc (.cells #[.int .i64 ck, .int .i64 cn, .slice ao LC ca] 33) = w1) := ⟨_, rfl⟩
  rw [hw1.out] at hB1 N1
  have hsb := h.lt
  have BXS : Hid (∀ q, But (fun k => k = sb) w1 q → q.cell? ⟨w.heap.size, 0, none⟩ = some (.int .i64 ck) ∧ q.cell? ⟨w.heap.size, 1, none⟩ = some (.int .i64 cn) ∧ q.cell? ⟨w.heap.size, 2, none⟩ = some (.slice ao LC ca)) := hide (fun q hq => by
    have e0 := (hq.block _ (heap_lt N1) (by omega)).trans N1
    refine ⟨?_, ?_, ?_⟩ <;> (rw [cell_of e0]; rfl))
  have S1 : Hid (St sb w1 m ∧ But (fun k => k = sb) w w1) := hide ⟨h.below hB1.out, But.of_below hB1.out _⟩
  obtain ⟨pA, hpA⟩ : ∃ pB, Hid (w.heap.size = pB) := ⟨_, rfl⟩
  rw [hpA.out] at BXS
  obtain ⟨x0, x1, x2⟩ := BXS.out w1 (But.refl _ _)
  clear N1 hB1 hsb h
  have FI : Hid (∀ q, Calls Try.prog 35 #[.agg #[.int .i64 ck, .int .i64 cn, .slice ao LC ca]] q fun e w' => e = .returned (.bool (fitsB ⟨ck, cn, cd⟩)) ∧ Below q.heap.size q w') := hide (by
    intro q
    have := fits_any q ⟨ck, cn, cd⟩ ao ca
    simp only [hLC.out] at this
    exact this)
  have AN1 : Hid (∀ q, St sb q m → But (fun k => k = sb) w q → Calls Try.prog 26 #[.pointer (some ⟨sb, 0, none⟩), .agg #[.int .i64 2, .int .i64 0, .slice ao LC ca], .agg #[.int .i64 0, .int .i64 m.nx, .slice none 0 0]] q fun e w' => Goes sb q (answerS m ⟨2, 0, cd⟩ ⟨0, m.nx, []⟩) e w') := hide (fun q hq hb => by
    have := answer_any q hq ⟨2, 0, cd⟩ ⟨0, m.nx, []⟩ ao none ca 0 ⟨hA.nx, hA.ba, hA.rs, ⟨by simp, by simp⟩, hA.cd.but hb, Sd.nil _ _⟩
    simp only [hLC.out] at this
    exact this)
  have AN6 : Hid (∀ q, St sb q m → But (fun k => k = sb) w q → Calls Try.prog 26 #[.pointer (some ⟨sb, 0, none⟩), .agg #[.int .i64 ck, .int .i64 cn, .slice ao LC ca], .agg #[.int .i64 0, .int .i64 0, .slice none 0 0]] q fun e w' => Goes sb q (answerS m ⟨ck, cn, cd⟩ ⟨0, 0, []⟩) e w') := hide (fun q hq hb => by
    have := answer_any q hq ⟨ck, cn, cd⟩ ⟨0, 0, []⟩ ao none ca 0 ⟨hA.nx, hA.ba, hA.rs, hA.n, hA.cd.but hb, Sd.nil _ _⟩
    simp only [hLC.out] at this
    exact this)
  have SS : Hid (takeS m ⟨ck, cn, cd⟩ = if fitsB ⟨ck, cn, cd⟩ = true then
    if ck = 1 ∨ ck = 2 then answerS m ⟨2, 0, cd⟩ ⟨0, m.nx, []⟩
    else if ck = 6 then answerS m ⟨ck, cn, cd⟩ ⟨0, 0, []⟩
    else if ck = 7 then (if m.cl = false then some { m with cl := true } else none)
    else none
  else none) := hide rfl
  rw [SS.out]
  clear SS hA hLC
  obtain ⟨fb, hfb⟩ : ∃ b, Hid (fitsB ⟨ck, cn, cd⟩ = b) := ⟨_, rfl⟩
  rw [hfb.out] at FI ⊢
  clear hfb
  cases fb with
  | false =>
    rw [if_neg (by simp)]
    go_enter Try.func21, Try.ntmps21
    go_upto_region 1 with fail
    rw [hw1.out, hpA.out]
    go_wp2_with (first | (go_at_call 35; refine (FI.out _).mono ?_; rintro e w2 ⟨rfl, B2⟩; replace B2 := hide B2; have S2 : Hid (St sb w2 m ∧ But (fun k => k = sb) w w2) := hide ⟨S1.out.1.below B2.out, S1.out.2.trans (But.of_below B2.out _)⟩; clear x0 x1 x2; obtain ⟨x0, x1, x2⟩ := BXS.out w2 (But.of_below B2.out _); obtain ⟨v, -, c0, c1, c2, c3, c4, c5, c6, c7, z⟩ := S2.out.1.open; have z7 := z 7; clear z) | (go_at_call 34; refine (must_no _).mono ?_; rintro e w' ⟨rfl, hw⟩; rw [hw]; clear hw w'))
    exact ⟨rfl, Goes.none S2.out.2⟩
  | true =>
    rw [if_pos rfl]
    by_cases h1 : ck = 1
    · subst h1
      rw [if_pos (Or.inl rfl)]
      clear AN6
      obtain ⟨R, hR⟩ : ∃ R, Hid (answerS m ⟨2, 0, cd⟩ ⟨0, m.nx, []⟩ = R) := ⟨_, rfl⟩
      rw [hR.out] at AN1 ⊢
      clear hR
      cases R with
      | none =>
        go_enter Try.func21, Try.ntmps21
        go_upto_region 1 with fail
        rw [hw1.out, hpA.out]
        go_upto_region 6 with (first | (go_at_call 35; refine (FI.out _).mono ?_; rintro e w2 ⟨rfl, B2⟩; replace B2 := hide B2; have S2 : Hid (St sb w2 m ∧ But (fun k => k = sb) w w2) := hide ⟨S1.out.1.below B2.out, S1.out.2.trans (But.of_below B2.out _)⟩; clear x0 x1 x2; obtain ⟨x0, x1, x2⟩ := BXS.out w2 (But.of_below B2.out _); obtain ⟨v, -, c0, c1, c2, c3, c4, c5, c6, c7, z⟩ := S2.out.1.open; have z7 := z 7; clear z) | (go_at_call 34; refine (must_yes _).mono ?_; rintro e w' ⟨rfl, hw⟩; rw [hw]; clear hw w'))
        have KP : Hid (w2.drew.cell? ⟨pA, 2, none⟩ = some (.slice ao LC ca) ∧ w2.drew.cell? ⟨sb, 3, none⟩ = some (.int .i64 m.nx)) := hide ⟨x2, c3⟩
        have DQ : Below w2.heap.size w2 w2.drew := (Below.refl _ _).drew
        have SQ : Hid (St sb w2.drew m ∧ But (fun k => k = sb) w w2.drew) := hide ⟨S2.out.1.below DQ, S2.out.2.trans (But.of_below DQ _)⟩
        clear DQ B2 S2 S1 x0 x1 x2 c0 c1 c2 c3 c4 c5 c6 c7 z7
        refine wp_region_T (fun q => q.cell? ⟨pA, 2, none⟩ = some (.slice ao LC ca) ∧ q.cell? ⟨sb, 3, none⟩ = some (.int .i64 m.nx)) 9 (by kernel_rfl) ?_
        generalize w2.drew = q at *
        refine wpAnyT_take (i := 0) (oi := { dst := some 13, op := Op.move (Operand.tmp 0), type := 47, pos := "state.go:69", after := #[], guard := none }) (v := .pointer (some ⟨sb, 0, none⟩)) [9] rfl (by kernel_rfl) (by kernel_rfl) (by kernel_rfl) (by kernel_rfl) (fun _ _ _ h => h) (Or.inl ⟨by rfl, ?_⟩) KP.out ?_
        · intro wq hSw
          obtain ⟨y0, y1⟩ := hSw
          go_simp
        (try simp only [Act.put, List.setIfInBounds_toArray, List.set_cons_zero, List.set_cons_succ])
        refine wpAnyT_take (i := 1) (oi := { dst := some 14, op := Op.fieldAddr 33 (Operand.tmp 3) 2, type := 0, pos := "state.go:69", after := #[], guard := none }) (v := .pointer (some ⟨pA, 2, none⟩)) [2, 3, 9] rfl (by kernel_rfl) (by kernel_rfl) (by kernel_rfl) (by kernel_rfl) (fun _ _ _ h => h) (Or.inl ⟨by rfl, ?_⟩) KP.out ?_
        · intro wq hSw
          obtain ⟨y0, y1⟩ := hSw
          go_simp
        (try simp only [Act.put, List.setIfInBounds_toArray, List.set_cons_zero, List.set_cons_succ])
        refine wpAnyT_take (i := 2) (oi := { dst := some 15, op := Op.load 31 (Operand.tmp 14), type := 31, pos := "state.go:69", after := #[{ on := 1, ground := Ground.data }], guard := none }) (v := .slice ao LC ca) [3, 9] rfl (by kernel_rfl) (by kernel_rfl) (by kernel_rfl) (by kernel_rfl) (fun _ _ _ h => h) (Or.inl ⟨by rfl, ?_⟩) KP.out ?_
        · intro wq hSw
          obtain ⟨y0, y1⟩ := hSw
          go_simp
        (try simp only [Act.put, List.setIfInBounds_toArray, List.set_cons_zero, List.set_cons_succ])
        refine wpAnyT_take (i := 3) (oi := { dst := some 16, op := Op.build 33 #[(0, Operand.const (Value.int IntKind.i64 2)), (2, Operand.tmp 15)], type := 33, pos := "state.go:69", after := #[{ on := 2, ground := Ground.data }], guard := none }) (v := .agg #[.int .i64 2, .int .i64 0, .slice ao LC ca]) [9] rfl (by kernel_rfl) (by kernel_rfl) (by kernel_rfl) (by kernel_rfl) (fun _ _ _ h => h) (Or.inl ⟨by rfl, ?_⟩) KP.out ?_
        · intro wq hSw
          obtain ⟨y0, y1⟩ := hSw
          go_simp
        (try simp only [Act.put, List.setIfInBounds_toArray, List.set_cons_zero, List.set_cons_succ])
        refine wpAnyT_take (i := 4) (oi := { dst := some 17, op := Op.move (Operand.tmp 0), type := 47, pos := "state.go:69", after := #[], guard := none }) (v := .pointer (some ⟨sb, 0, none⟩)) [5, 6, 7, 8, 9] rfl (by kernel_rfl) (by kernel_rfl) (by kernel_rfl) (by kernel_rfl) (fun _ _ _ h => h) (Or.inl ⟨by rfl, ?_⟩) KP.out ?_
        · intro wq hSw
          obtain ⟨y0, y1⟩ := hSw
          go_simp
        (try simp only [Act.put, List.setIfInBounds_toArray, List.set_cons_zero, List.set_cons_succ])
        refine wpAnyT_take (i := 5) (oi := { dst := some 18, op := Op.nilCheck (Operand.tmp 17), type := 0, pos := "state.go:69", after := #[{ on := 4, ground := Ground.data }], guard := none }) (v := .pointer (some ⟨sb, 0, none⟩)) [6, 7, 8, 9] rfl (by kernel_rfl) (by kernel_rfl) (by kernel_rfl) (by kernel_rfl) (fun _ _ _ h => h) (Or.inl ⟨by rfl, ?_⟩) KP.out ?_
        · intro wq hSw
          obtain ⟨y0, y1⟩ := hSw
          go_simp
        (try simp only [Act.put, List.setIfInBounds_toArray, List.set_cons_zero, List.set_cons_succ])
        refine wpAnyT_take (i := 6) (oi := { dst := some 19, op := Op.fieldAddr 58 (Operand.tmp 18) 3, type := 0, pos := "state.go:69", after := #[{ on := 5, ground := Ground.data }], guard := none }) (v := .pointer (some ⟨sb, 3, none⟩)) [7, 8, 9] rfl (by kernel_rfl) (by kernel_rfl) (by kernel_rfl) (by kernel_rfl) (fun _ _ _ h => h) (Or.inl ⟨by rfl, ?_⟩) KP.out ?_
        · intro wq hSw
          obtain ⟨y0, y1⟩ := hSw
          go_simp
        (try simp only [Act.put, List.setIfInBounds_toArray, List.set_cons_zero, List.set_cons_succ])
        refine wpAnyT_take (i := 7) (oi := { dst := some 20, op := Op.load 2 (Operand.tmp 19), type := 2, pos := "state.go:69", after := #[{ on := 6, ground := Ground.data }], guard := none }) (v := .int .i64 m.nx) [8, 9] rfl (by kernel_rfl) (by kernel_rfl) (by kernel_rfl) (by kernel_rfl) (fun _ _ _ h => h) (Or.inl ⟨by rfl, ?_⟩) KP.out ?_
        · intro wq hSw
          obtain ⟨y0, y1⟩ := hSw
          go_simp
        (try simp only [Act.put, List.setIfInBounds_toArray, List.set_cons_zero, List.set_cons_succ])
        refine wpAnyT_take (i := 8) (oi := { dst := some 21, op := Op.build 35 #[(1, Operand.tmp 20)], type := 35, pos := "state.go:69", after := #[{ on := 7, ground := Ground.data }], guard := none }) (v := .agg #[.int .i64 0, .int .i64 m.nx, .slice none 0 0]) [9] rfl (by kernel_rfl) (by kernel_rfl) (by kernel_rfl) (by kernel_rfl) (fun _ _ _ h => h) (Or.inl ⟨by rfl, ?_⟩) KP.out ?_
        · intro wq hSw
          obtain ⟨y0, y1⟩ := hSw
          go_simp
        (try simp only [Act.put, List.setIfInBounds_toArray, List.set_cons_zero, List.set_cons_succ])
        refine wpAnyT_one (i := 9) (o := { dst := some 22, op := Op.call { callee := Callee.value (Operand.func 26), args := #[Operand.tmp 13, Operand.tmp 16, Operand.tmp 21], argTypes := #[47, 33, 35] }, type := 0, pos := "state.go:69", after := #[{ on := 0, ground := Ground.data }, { on := 3, ground := Ground.data }, { on := 8, ground := Ground.data }], guard := none }) (by kernel_rfl) rfl (fun K hK => ?_)
        go_simp
        go_at_call 26
        refine (AN1.out q SQ.out.1 SQ.out.2).mono ?_
        rintro e w3 ⟨g3, rfl⟩
        exact ⟨rfl, Goes.none (SQ.out.2.trans g3)⟩
      | some m1 =>
        go_enter Try.func21, Try.ntmps21
        go_upto_region 1 with fail
        rw [hw1.out, hpA.out]
        go_upto_region 6 with (first | (go_at_call 35; refine (FI.out _).mono ?_; rintro e w2 ⟨rfl, B2⟩; replace B2 := hide B2; have S2 : Hid (St sb w2 m ∧ But (fun k => k = sb) w w2) := hide ⟨S1.out.1.below B2.out, S1.out.2.trans (But.of_below B2.out _)⟩; clear x0 x1 x2; obtain ⟨x0, x1, x2⟩ := BXS.out w2 (But.of_below B2.out _); obtain ⟨v, -, c0, c1, c2, c3, c4, c5, c6, c7, z⟩ := S2.out.1.open; have z7 := z 7; clear z) | (go_at_call 34; refine (must_yes _).mono ?_; rintro e w' ⟨rfl, hw⟩; rw [hw]; clear hw w'))
        have KP : Hid (w2.drew.cell? ⟨pA, 2, none⟩ = some (.slice ao LC ca) ∧ w2.drew.cell? ⟨sb, 3, none⟩ = some (.int .i64 m.nx)) := hide ⟨x2, c3⟩
        have DQ : Below w2.heap.size w2 w2.drew := (Below.refl _ _).drew
        have SQ : Hid (St sb w2.drew m ∧ But (fun k => k = sb) w w2.drew) := hide ⟨S2.out.1.below DQ, S2.out.2.trans (But.of_below DQ _)⟩
        clear DQ B2 S2 S1 x0 x1 x2 c0 c1 c2 c3 c4 c5 c6 c7 z7
        refine wp_region_T (fun q => q.cell? ⟨pA, 2, none⟩ = some (.slice ao LC ca) ∧ q.cell? ⟨sb, 3, none⟩ = some (.int .i64 m.nx)) 9 (by kernel_rfl) ?_
        generalize w2.drew = q at *
        refine wpAnyT_take (i := 0) (oi := { dst := some 13, op := Op.move (Operand.tmp 0), type := 47, pos := "state.go:69", after := #[], guard := none }) (v := .pointer (some ⟨sb, 0, none⟩)) [9] rfl (by kernel_rfl) (by kernel_rfl) (by kernel_rfl) (by kernel_rfl) (fun _ _ _ h => h) (Or.inl ⟨by rfl, ?_⟩) KP.out ?_
        · intro wq hSw
          obtain ⟨y0, y1⟩ := hSw
          go_simp
        (try simp only [Act.put, List.setIfInBounds_toArray, List.set_cons_zero, List.set_cons_succ])
        refine wpAnyT_take (i := 1) (oi := { dst := some 14, op := Op.fieldAddr 33 (Operand.tmp 3) 2, type := 0, pos := "state.go:69", after := #[], guard := none }) (v := .pointer (some ⟨pA, 2, none⟩)) [2, 3, 9] rfl (by kernel_rfl) (by kernel_rfl) (by kernel_rfl) (by kernel_rfl) (fun _ _ _ h => h) (Or.inl ⟨by rfl, ?_⟩) KP.out ?_
        · intro wq hSw
          obtain ⟨y0, y1⟩ := hSw
          go_simp
        (try simp only [Act.put, List.setIfInBounds_toArray, List.set_cons_zero, List.set_cons_succ])
        refine wpAnyT_take (i := 2) (oi := { dst := some 15, op := Op.load 31 (Operand.tmp 14), type := 31, pos := "state.go:69", after := #[{ on := 1, ground := Ground.data }], guard := none }) (v := .slice ao LC ca) [3, 9] rfl (by kernel_rfl) (by kernel_rfl) (by kernel_rfl) (by kernel_rfl) (fun _ _ _ h => h) (Or.inl ⟨by rfl, ?_⟩) KP.out ?_
        · intro wq hSw
          obtain ⟨y0, y1⟩ := hSw
          go_simp
        (try simp only [Act.put, List.setIfInBounds_toArray, List.set_cons_zero, List.set_cons_succ])
        refine wpAnyT_take (i := 3) (oi := { dst := some 16, op := Op.build 33 #[(0, Operand.const (Value.int IntKind.i64 2)), (2, Operand.tmp 15)], type := 33, pos := "state.go:69", after := #[{ on := 2, ground := Ground.data }], guard := none }) (v := .agg #[.int .i64 2, .int .i64 0, .slice ao LC ca]) [9] rfl (by kernel_rfl) (by kernel_rfl) (by kernel_rfl) (by kernel_rfl) (fun _ _ _ h => h) (Or.inl ⟨by rfl, ?_⟩) KP.out ?_
        · intro wq hSw
          obtain ⟨y0, y1⟩ := hSw
          go_simp
        (try simp only [Act.put, List.setIfInBounds_toArray, List.set_cons_zero, List.set_cons_succ])
        refine wpAnyT_take (i := 4) (oi := { dst := some 17, op := Op.move (Operand.tmp 0), type := 47, pos := "state.go:69", after := #[], guard := none }) (v := .pointer (some ⟨sb, 0, none⟩)) [5, 6, 7, 8, 9] rfl (by kernel_rfl) (by kernel_rfl) (by kernel_rfl) (by kernel_rfl) (fun _ _ _ h => h) (Or.inl ⟨by rfl, ?_⟩) KP.out ?_
        · intro wq hSw
          obtain ⟨y0, y1⟩ := hSw
          go_simp
        (try simp only [Act.put, List.setIfInBounds_toArray, List.set_cons_zero, List.set_cons_succ])
        refine wpAnyT_take (i := 5) (oi := { dst := some 18, op := Op.nilCheck (Operand.tmp 17), type := 0, pos := "state.go:69", after := #[{ on := 4, ground := Ground.data }], guard := none }) (v := .pointer (some ⟨sb, 0, none⟩)) [6, 7, 8, 9] rfl (by kernel_rfl) (by kernel_rfl) (by kernel_rfl) (by kernel_rfl) (fun _ _ _ h => h) (Or.inl ⟨by rfl, ?_⟩) KP.out ?_
        · intro wq hSw
          obtain ⟨y0, y1⟩ := hSw
          go_simp
        (try simp only [Act.put, List.setIfInBounds_toArray, List.set_cons_zero, List.set_cons_succ])
        refine wpAnyT_take (i := 6) (oi := { dst := some 19, op := Op.fieldAddr 58 (Operand.tmp 18) 3, type := 0, pos := "state.go:69", after := #[{ on := 5, ground := Ground.data }], guard := none }) (v := .pointer (some ⟨sb, 3, none⟩)) [7, 8, 9] rfl (by kernel_rfl) (by kernel_rfl) (by kernel_rfl) (by kernel_rfl) (fun _ _ _ h => h) (Or.inl ⟨by rfl, ?_⟩) KP.out ?_
        · intro wq hSw
          obtain ⟨y0, y1⟩ := hSw
          go_simp
        (try simp only [Act.put, List.setIfInBounds_toArray, List.set_cons_zero, List.set_cons_succ])
        refine wpAnyT_take (i := 7) (oi := { dst := some 20, op := Op.load 2 (Operand.tmp 19), type := 2, pos := "state.go:69", after := #[{ on := 6, ground := Ground.data }], guard := none }) (v := .int .i64 m.nx) [8, 9] rfl (by kernel_rfl) (by kernel_rfl) (by kernel_rfl) (by kernel_rfl) (fun _ _ _ h => h) (Or.inl ⟨by rfl, ?_⟩) KP.out ?_
        · intro wq hSw
          obtain ⟨y0, y1⟩ := hSw
          go_simp
        (try simp only [Act.put, List.setIfInBounds_toArray, List.set_cons_zero, List.set_cons_succ])
        refine wpAnyT_take (i := 8) (oi := { dst := some 21, op := Op.build 35 #[(1, Operand.tmp 20)], type := 35, pos := "state.go:69", after := #[{ on := 7, ground := Ground.data }], guard := none }) (v := .agg #[.int .i64 0, .int .i64 m.nx, .slice none 0 0]) [9] rfl (by kernel_rfl) (by kernel_rfl) (by kernel_rfl) (by kernel_rfl) (fun _ _ _ h => h) (Or.inl ⟨by rfl, ?_⟩) KP.out ?_
        · intro wq hSw
          obtain ⟨y0, y1⟩ := hSw
          go_simp
        (try simp only [Act.put, List.setIfInBounds_toArray, List.set_cons_zero, List.set_cons_succ])
        refine wpAnyT_one (i := 9) (o := { dst := some 22, op := Op.call { callee := Callee.value (Operand.func 26), args := #[Operand.tmp 13, Operand.tmp 16, Operand.tmp 21], argTypes := #[47, 33, 35] }, type := 0, pos := "state.go:69", after := #[{ on := 0, ground := Ground.data }, { on := 3, ground := Ground.data }, { on := 8, ground := Ground.data }], guard := none }) (by kernel_rfl) rfl (fun K hK => ?_)
        go_simp
        go_at_call 26
        refine (AN1.out q SQ.out.1 SQ.out.2).mono ?_
        rintro e w3 ⟨g3, rfl, s3⟩
        refine hK.out _ _ (vac (by kernel_rfl)) ?_
        clear hK K
        refine wpAnyT_done (by kernel_rfl) ?_ _
        go_wp2_with fail
        first | go_end0 | refine bodyPost_ret (results_none rfl _ _ _) rfl ?_
        exact Goes.some (SQ.out.2.trans g3) s3
    by_cases h2 : ck = 2
    · subst h2
      rw [if_pos (Or.inr rfl)]
      clear AN6
      obtain ⟨R, hR⟩ : ∃ R, Hid (answerS m ⟨2, 0, cd⟩ ⟨0, m.nx, []⟩ = R) := ⟨_, rfl⟩
      rw [hR.out] at AN1 ⊢
      clear hR
      cases R with
      | none =>
        go_enter Try.func21, Try.ntmps21
        go_upto_region 1 with fail
        rw [hw1.out, hpA.out]
        go_upto_region 6 with (first | (go_at_call 35; refine (FI.out _).mono ?_; rintro e w2 ⟨rfl, B2⟩; replace B2 := hide B2; have S2 : Hid (St sb w2 m ∧ But (fun k => k = sb) w w2) := hide ⟨S1.out.1.below B2.out, S1.out.2.trans (But.of_below B2.out _)⟩; clear x0 x1 x2; obtain ⟨x0, x1, x2⟩ := BXS.out w2 (But.of_below B2.out _); obtain ⟨v, -, c0, c1, c2, c3, c4, c5, c6, c7, z⟩ := S2.out.1.open; have z7 := z 7; clear z) | (go_at_call 34; refine (must_yes _).mono ?_; rintro e w' ⟨rfl, hw⟩; rw [hw]; clear hw w'))
        have KP : Hid (w2.drew.cell? ⟨pA, 2, none⟩ = some (.slice ao LC ca) ∧ w2.drew.cell? ⟨sb, 3, none⟩ = some (.int .i64 m.nx)) := hide ⟨x2, c3⟩
        have DQ : Below w2.heap.size w2 w2.drew := (Below.refl _ _).drew
        have SQ : Hid (St sb w2.drew m ∧ But (fun k => k = sb) w w2.drew) := hide ⟨S2.out.1.below DQ, S2.out.2.trans (But.of_below DQ _)⟩
        clear DQ B2 S2 S1 x0 x1 x2 c0 c1 c2 c3 c4 c5 c6 c7 z7
        refine wp_region_T (fun q => q.cell? ⟨pA, 2, none⟩ = some (.slice ao LC ca) ∧ q.cell? ⟨sb, 3, none⟩ = some (.int .i64 m.nx)) 9 (by kernel_rfl) ?_
        generalize w2.drew = q at *
        refine wpAnyT_take (i := 0) (oi := { dst := some 13, op := Op.move (Operand.tmp 0), type := 47, pos := "state.go:69", after := #[], guard := none }) (v := .pointer (some ⟨sb, 0, none⟩)) [9] rfl (by kernel_rfl) (by kernel_rfl) (by kernel_rfl) (by kernel_rfl) (fun _ _ _ h => h) (Or.inl ⟨by rfl, ?_⟩) KP.out ?_
        · intro wq hSw
          obtain ⟨y0, y1⟩ := hSw
          go_simp
        (try simp only [Act.put, List.setIfInBounds_toArray, List.set_cons_zero, List.set_cons_succ])
        refine wpAnyT_take (i := 1) (oi := { dst := some 14, op := Op.fieldAddr 33 (Operand.tmp 3) 2, type := 0, pos := "state.go:69", after := #[], guard := none }) (v := .pointer (some ⟨pA, 2, none⟩)) [2, 3, 9] rfl (by kernel_rfl) (by kernel_rfl) (by kernel_rfl) (by kernel_rfl) (fun _ _ _ h => h) (Or.inl ⟨by rfl, ?_⟩) KP.out ?_
        · intro wq hSw
          obtain ⟨y0, y1⟩ := hSw
          go_simp
        (try simp only [Act.put, List.setIfInBounds_toArray, List.set_cons_zero, List.set_cons_succ])
        refine wpAnyT_take (i := 2) (oi := { dst := some 15, op := Op.load 31 (Operand.tmp 14), type := 31, pos := "state.go:69", after := #[{ on := 1, ground := Ground.data }], guard := none }) (v := .slice ao LC ca) [3, 9] rfl (by kernel_rfl) (by kernel_rfl) (by kernel_rfl) (by kernel_rfl) (fun _ _ _ h => h) (Or.inl ⟨by rfl, ?_⟩) KP.out ?_
        · intro wq hSw
          obtain ⟨y0, y1⟩ := hSw
          go_simp
        (try simp only [Act.put, List.setIfInBounds_toArray, List.set_cons_zero, List.set_cons_succ])
        refine wpAnyT_take (i := 3) (oi := { dst := some 16, op := Op.build 33 #[(0, Operand.const (Value.int IntKind.i64 2)), (2, Operand.tmp 15)], type := 33, pos := "state.go:69", after := #[{ on := 2, ground := Ground.data }], guard := none }) (v := .agg #[.int .i64 2, .int .i64 0, .slice ao LC ca]) [9] rfl (by kernel_rfl) (by kernel_rfl) (by kernel_rfl) (by kernel_rfl) (fun _ _ _ h => h) (Or.inl ⟨by rfl, ?_⟩) KP.out ?_
        · intro wq hSw
          obtain ⟨y0, y1⟩ := hSw
          go_simp
        (try simp only [Act.put, List.setIfInBounds_toArray, List.set_cons_zero, List.set_cons_succ])
        refine wpAnyT_take (i := 4) (oi := { dst := some 17, op := Op.move (Operand.tmp 0), type := 47, pos := "state.go:69", after := #[], guard := none }) (v := .pointer (some ⟨sb, 0, none⟩)) [5, 6, 7, 8, 9] rfl (by kernel_rfl) (by kernel_rfl) (by kernel_rfl) (by kernel_rfl) (fun _ _ _ h => h) (Or.inl ⟨by rfl, ?_⟩) KP.out ?_
        · intro wq hSw
          obtain ⟨y0, y1⟩ := hSw
          go_simp
        (try simp only [Act.put, List.setIfInBounds_toArray, List.set_cons_zero, List.set_cons_succ])
        refine wpAnyT_take (i := 5) (oi := { dst := some 18, op := Op.nilCheck (Operand.tmp 17), type := 0, pos := "state.go:69", after := #[{ on := 4, ground := Ground.data }], guard := none }) (v := .pointer (some ⟨sb, 0, none⟩)) [6, 7, 8, 9] rfl (by kernel_rfl) (by kernel_rfl) (by kernel_rfl) (by kernel_rfl) (fun _ _ _ h => h) (Or.inl ⟨by rfl, ?_⟩) KP.out ?_
        · intro wq hSw
          obtain ⟨y0, y1⟩ := hSw
          go_simp
        (try simp only [Act.put, List.setIfInBounds_toArray, List.set_cons_zero, List.set_cons_succ])
        refine wpAnyT_take (i := 6) (oi := { dst := some 19, op := Op.fieldAddr 58 (Operand.tmp 18) 3, type := 0, pos := "state.go:69", after := #[{ on := 5, ground := Ground.data }], guard := none }) (v := .pointer (some ⟨sb, 3, none⟩)) [7, 8, 9] rfl (by kernel_rfl) (by kernel_rfl) (by kernel_rfl) (by kernel_rfl) (fun _ _ _ h => h) (Or.inl ⟨by rfl, ?_⟩) KP.out ?_
        · intro wq hSw
          obtain ⟨y0, y1⟩ := hSw
          go_simp
        (try simp only [Act.put, List.setIfInBounds_toArray, List.set_cons_zero, List.set_cons_succ])
        refine wpAnyT_take (i := 7) (oi := { dst := some 20, op := Op.load 2 (Operand.tmp 19), type := 2, pos := "state.go:69", after := #[{ on := 6, ground := Ground.data }], guard := none }) (v := .int .i64 m.nx) [8, 9] rfl (by kernel_rfl) (by kernel_rfl) (by kernel_rfl) (by kernel_rfl) (fun _ _ _ h => h) (Or.inl ⟨by rfl, ?_⟩) KP.out ?_
        · intro wq hSw
          obtain ⟨y0, y1⟩ := hSw
          go_simp
        (try simp only [Act.put, List.setIfInBounds_toArray, List.set_cons_zero, List.set_cons_succ])
        refine wpAnyT_take (i := 8) (oi := { dst := some 21, op := Op.build 35 #[(1, Operand.tmp 20)], type := 35, pos := "state.go:69", after := #[{ on := 7, ground := Ground.data }], guard := none }) (v := .agg #[.int .i64 0, .int .i64 m.nx, .slice none 0 0]) [9] rfl (by kernel_rfl) (by kernel_rfl) (by kernel_rfl) (by kernel_rfl) (fun _ _ _ h => h) (Or.inl ⟨by rfl, ?_⟩) KP.out ?_
        · intro wq hSw
          obtain ⟨y0, y1⟩ := hSw
          go_simp
        (try simp only [Act.put, List.setIfInBounds_toArray, List.set_cons_zero, List.set_cons_succ])
        refine wpAnyT_one (i := 9) (o := { dst := some 22, op := Op.call { callee := Callee.value (Operand.func 26), args := #[Operand.tmp 13, Operand.tmp 16, Operand.tmp 21], argTypes := #[47, 33, 35] }, type := 0, pos := "state.go:69", after := #[{ on := 0, ground := Ground.data }, { on := 3, ground := Ground.data }, { on := 8, ground := Ground.data }], guard := none }) (by kernel_rfl) rfl (fun K hK => ?_)
        go_simp
        go_at_call 26
        refine (AN1.out q SQ.out.1 SQ.out.2).mono ?_
        rintro e w3 ⟨g3, rfl⟩
        exact ⟨rfl, Goes.none (SQ.out.2.trans g3)⟩
      | some m1 =>
        go_enter Try.func21, Try.ntmps21
        go_upto_region 1 with fail
        rw [hw1.out, hpA.out]
        go_upto_region 6 with (first | (go_at_call 35; refine (FI.out _).mono ?_; rintro e w2 ⟨rfl, B2⟩; replace B2 := hide B2; have S2 : Hid (St sb w2 m ∧ But (fun k => k = sb) w w2) := hide ⟨S1.out.1.below B2.out, S1.out.2.trans (But.of_below B2.out _)⟩; clear x0 x1 x2; obtain ⟨x0, x1, x2⟩ := BXS.out w2 (But.of_below B2.out _); obtain ⟨v, -, c0, c1, c2, c3, c4, c5, c6, c7, z⟩ := S2.out.1.open; have z7 := z 7; clear z) | (go_at_call 34; refine (must_yes _).mono ?_; rintro e w' ⟨rfl, hw⟩; rw [hw]; clear hw w'))
        have KP : Hid (w2.drew.cell? ⟨pA, 2, none⟩ = some (.slice ao LC ca) ∧ w2.drew.cell? ⟨sb, 3, none⟩ = some (.int .i64 m.nx)) := hide ⟨x2, c3⟩
        have DQ : Below w2.heap.size w2 w2.drew := (Below.refl _ _).drew
        have SQ : Hid (St sb w2.drew m ∧ But (fun k => k = sb) w w2.drew) := hide ⟨S2.out.1.below DQ, S2.out.2.trans (But.of_below DQ _)⟩
        clear DQ B2 S2 S1 x0 x1 x2 c0 c1 c2 c3 c4 c5 c6 c7 z7
        refine wp_region_T (fun q => q.cell? ⟨pA, 2, none⟩ = some (.slice ao LC ca) ∧ q.cell? ⟨sb, 3, none⟩ = some (.int .i64 m.nx)) 9 (by kernel_rfl) ?_
        generalize w2.drew = q at *
        refine wpAnyT_take (i := 0) (oi := { dst := some 13, op := Op.move (Operand.tmp 0), type := 47, pos := "state.go:69", after := #[], guard := none }) (v := .pointer (some ⟨sb, 0, none⟩)) [9] rfl (by kernel_rfl) (by kernel_rfl) (by kernel_rfl) (by kernel_rfl) (fun _ _ _ h => h) (Or.inl ⟨by rfl, ?_⟩) KP.out ?_
        · intro wq hSw
          obtain ⟨y0, y1⟩ := hSw
          go_simp
        (try simp only [Act.put, List.setIfInBounds_toArray, List.set_cons_zero, List.set_cons_succ])
        refine wpAnyT_take (i := 1) (oi := { dst := some 14, op := Op.fieldAddr 33 (Operand.tmp 3) 2, type := 0, pos := "state.go:69", after := #[], guard := none }) (v := .pointer (some ⟨pA, 2, none⟩)) [2, 3, 9] rfl (by kernel_rfl) (by kernel_rfl) (by kernel_rfl) (by kernel_rfl) (fun _ _ _ h => h) (Or.inl ⟨by rfl, ?_⟩) KP.out ?_
        · intro wq hSw
          obtain ⟨y0, y1⟩ := hSw
          go_simp
        (try simp only [Act.put, List.setIfInBounds_toArray, List.set_cons_zero, List.set_cons_succ])
        refine wpAnyT_take (i := 2) (oi := { dst := some 15, op := Op.load 31 (Operand.tmp 14), type := 31, pos := "state.go:69", after := #[{ on := 1, ground := Ground.data }], guard := none }) (v := .slice ao LC ca) [3, 9] rfl (by kernel_rfl) (by kernel_rfl) (by kernel_rfl) (by kernel_rfl) (fun _ _ _ h => h) (Or.inl ⟨by rfl, ?_⟩) KP.out ?_
        · intro wq hSw
          obtain ⟨y0, y1⟩ := hSw
          go_simp
        (try simp only [Act.put, List.setIfInBounds_toArray, List.set_cons_zero, List.set_cons_succ])
        refine wpAnyT_take (i := 3) (oi := { dst := some 16, op := Op.build 33 #[(0, Operand.const (Value.int IntKind.i64 2)), (2, Operand.tmp 15)], type := 33, pos := "state.go:69", after := #[{ on := 2, ground := Ground.data }], guard := none }) (v := .agg #[.int .i64 2, .int .i64 0, .slice ao LC ca]) [9] rfl (by kernel_rfl) (by kernel_rfl) (by kernel_rfl) (by kernel_rfl) (fun _ _ _ h => h) (Or.inl ⟨by rfl, ?_⟩) KP.out ?_
        · intro wq hSw
          obtain ⟨y0, y1⟩ := hSw
          go_simp
        (try simp only [Act.put, List.setIfInBounds_toArray, List.set_cons_zero, List.set_cons_succ])
        refine wpAnyT_take (i := 4) (oi := { dst := some 17, op := Op.move (Operand.tmp 0), type := 47, pos := "state.go:69", after := #[], guard := none }) (v := .pointer (some ⟨sb, 0, none⟩)) [5, 6, 7, 8, 9] rfl (by kernel_rfl) (by kernel_rfl) (by kernel_rfl) (by kernel_rfl) (fun _ _ _ h => h) (Or.inl ⟨by rfl, ?_⟩) KP.out ?_
        · intro wq hSw
          obtain ⟨y0, y1⟩ := hSw
          go_simp
        (try simp only [Act.put, List.setIfInBounds_toArray, List.set_cons_zero, List.set_cons_succ])
        refine wpAnyT_take (i := 5) (oi := { dst := some 18, op := Op.nilCheck (Operand.tmp 17), type := 0, pos := "state.go:69", after := #[{ on := 4, ground := Ground.data }], guard := none }) (v := .pointer (some ⟨sb, 0, none⟩)) [6, 7, 8, 9] rfl (by kernel_rfl) (by kernel_rfl) (by kernel_rfl) (by kernel_rfl) (fun _ _ _ h => h) (Or.inl ⟨by rfl, ?_⟩) KP.out ?_
        · intro wq hSw
          obtain ⟨y0, y1⟩ := hSw
          go_simp
        (try simp only [Act.put, List.setIfInBounds_toArray, List.set_cons_zero, List.set_cons_succ])
        refine wpAnyT_take (i := 6) (oi := { dst := some 19, op := Op.fieldAddr 58 (Operand.tmp 18) 3, type := 0, pos := "state.go:69", after := #[{ on := 5, ground := Ground.data }], guard := none }) (v := .pointer (some ⟨sb, 3, none⟩)) [7, 8, 9] rfl (by kernel_rfl) (by kernel_rfl) (by kernel_rfl) (by kernel_rfl) (fun _ _ _ h => h) (Or.inl ⟨by rfl, ?_⟩) KP.out ?_
        · intro wq hSw
          obtain ⟨y0, y1⟩ := hSw
          go_simp
        (try simp only [Act.put, List.setIfInBounds_toArray, List.set_cons_zero, List.set_cons_succ])
        refine wpAnyT_take (i := 7) (oi := { dst := some 20, op := Op.load 2 (Operand.tmp 19), type := 2, pos := "state.go:69", after := #[{ on := 6, ground := Ground.data }], guard := none }) (v := .int .i64 m.nx) [8, 9] rfl (by kernel_rfl) (by kernel_rfl) (by kernel_rfl) (by kernel_rfl) (fun _ _ _ h => h) (Or.inl ⟨by rfl, ?_⟩) KP.out ?_
        · intro wq hSw
          obtain ⟨y0, y1⟩ := hSw
          go_simp
        (try simp only [Act.put, List.setIfInBounds_toArray, List.set_cons_zero, List.set_cons_succ])
        refine wpAnyT_take (i := 8) (oi := { dst := some 21, op := Op.build 35 #[(1, Operand.tmp 20)], type := 35, pos := "state.go:69", after := #[{ on := 7, ground := Ground.data }], guard := none }) (v := .agg #[.int .i64 0, .int .i64 m.nx, .slice none 0 0]) [9] rfl (by kernel_rfl) (by kernel_rfl) (by kernel_rfl) (by kernel_rfl) (fun _ _ _ h => h) (Or.inl ⟨by rfl, ?_⟩) KP.out ?_
        · intro wq hSw
          obtain ⟨y0, y1⟩ := hSw
          go_simp
        (try simp only [Act.put, List.setIfInBounds_toArray, List.set_cons_zero, List.set_cons_succ])
        refine wpAnyT_one (i := 9) (o := { dst := some 22, op := Op.call { callee := Callee.value (Operand.func 26), args := #[Operand.tmp 13, Operand.tmp 16, Operand.tmp 21], argTypes := #[47, 33, 35] }, type := 0, pos := "state.go:69", after := #[{ on := 0, ground := Ground.data }, { on := 3, ground := Ground.data }, { on := 8, ground := Ground.data }], guard := none }) (by kernel_rfl) rfl (fun K hK => ?_)
        go_simp
        go_at_call 26
        refine (AN1.out q SQ.out.1 SQ.out.2).mono ?_
        rintro e w3 ⟨g3, rfl, s3⟩
        refine hK.out _ _ (vac (by kernel_rfl)) ?_
        clear hK K
        refine wpAnyT_done (by kernel_rfl) ?_ _
        go_wp2_with fail
        first | go_end0 | refine bodyPost_ret (results_none rfl _ _ _) rfl ?_
        exact Goes.some (SQ.out.2.trans g3) s3
    rw [if_neg (fun c => c.elim h1 h2)]
    have k1 : (ck == 1) = false := by simpa using h1
    have k2 : (ck == 2) = false := by simpa using h2
    clear AN1
    by_cases h6 : ck = 6
    · subst h6
      rw [if_pos rfl]
      obtain ⟨R, hR⟩ : ∃ R, Hid (answerS m ⟨6, cn, cd⟩ ⟨0, 0, []⟩ = R) := ⟨_, rfl⟩
      rw [hR.out] at AN6 ⊢
      clear hR
      cases R with
      | none =>
        go_enter Try.func21, Try.ntmps21
        go_upto_region 1 with fail
        rw [hw1.out, hpA.out]
        go_wp2_with (first | (go_at_call 35; refine (FI.out _).mono ?_; rintro e w2 ⟨rfl, B2⟩; replace B2 := hide B2; have S2 : Hid (St sb w2 m ∧ But (fun k => k = sb) w w2) := hide ⟨S1.out.1.below B2.out, S1.out.2.trans (But.of_below B2.out _)⟩; clear x0 x1 x2; obtain ⟨x0, x1, x2⟩ := BXS.out w2 (But.of_below B2.out _); obtain ⟨v, -, c0, c1, c2, c3, c4, c5, c6, c7, z⟩ := S2.out.1.open; have z7 := z 7; clear z) | (go_at_call 34; refine (must_yes _).mono ?_; rintro e w' ⟨rfl, hw⟩; rw [hw]; clear hw w') | (go_at_call 26; refine (AN6.out w2 S2.out.1 S2.out.2).mono ?_; rintro e w3 ⟨g3, rfl⟩))
        exact ⟨rfl, Goes.none (S2.out.2.trans g3)⟩
      | some m1 =>
        go_enter Try.func21, Try.ntmps21
        go_upto_region 1 with fail
        rw [hw1.out, hpA.out]
        go_wp2_with (first | (go_at_call 35; refine (FI.out _).mono ?_; rintro e w2 ⟨rfl, B2⟩; replace B2 := hide B2; have S2 : Hid (St sb w2 m ∧ But (fun k => k = sb) w w2) := hide ⟨S1.out.1.below B2.out, S1.out.2.trans (But.of_below B2.out _)⟩; clear x0 x1 x2; obtain ⟨x0, x1, x2⟩ := BXS.out w2 (But.of_below B2.out _); obtain ⟨v, -, c0, c1, c2, c3, c4, c5, c6, c7, z⟩ := S2.out.1.open; have z7 := z 7; clear z) | (go_at_call 34; refine (must_yes _).mono ?_; rintro e w' ⟨rfl, hw⟩; rw [hw]; clear hw w') | (go_at_call 26; refine (AN6.out w2 S2.out.1 S2.out.2).mono ?_; rintro e w3 ⟨g3, rfl, s3⟩))
        first | go_end0 | refine bodyPost_ret (results_none rfl _ _ _) rfl ?_
        exact Goes.some (S2.out.2.trans g3) s3
    rw [if_neg h6]
    have k6 : (ck == 6) = false := by simpa using h6
    clear AN6
    by_cases h7 : ck = 7
    · subst h7
      rw [if_pos rfl]
      by_cases hc : m.cl = false
      · rw [if_pos hc]
        go_enter Try.func21, Try.ntmps21
        go_upto_region 1 with fail
        rw [hw1.out, hpA.out]
        go_wp2_with (first | (go_at_call 35; refine (FI.out _).mono ?_; rintro e w2 ⟨rfl, B2⟩; replace B2 := hide B2; have S2 : Hid (St sb w2 m ∧ But (fun k => k = sb) w w2) := hide ⟨S1.out.1.below B2.out, S1.out.2.trans (But.of_below B2.out _)⟩; clear x0 x1 x2; obtain ⟨x0, x1, x2⟩ := BXS.out w2 (But.of_below B2.out _); obtain ⟨v, -, c0, c1, c2, c3, c4, c5, c6, c7, z⟩ := S2.out.1.open; have z7 := z 7; clear z; have FIN : Hid (Goes sb w (some { m with cl := true }) (.returned (.tuple #[])) (w2.setCell ⟨sb, 7, none⟩ (.bool true))) := hide (Goes.some (S2.out.2.trans (but_set _ _ _ _)) (S2.out.1.setCl true)); rw [hc] at c7) | (go_at_call 34; refine (must_yes _).mono ?_; rintro e w' ⟨rfl, hw⟩; rw [hw]; clear hw w'))
        first | go_end0 | refine bodyPost_ret (results_none rfl _ _ _) rfl ?_
        exact FIN.out
      · rw [if_neg hc]
        have hc' : m.cl = true := by simpa using hc
        replace hc := hc'
        clear hc'
        go_enter Try.func21, Try.ntmps21
        go_upto_region 1 with fail
        rw [hw1.out, hpA.out]
        go_upto_region 10 with (first | (go_at_call 35; refine (FI.out _).mono ?_; rintro e w2 ⟨rfl, B2⟩; replace B2 := hide B2; have S2 : Hid (St sb w2 m ∧ But (fun k => k = sb) w w2) := hide ⟨S1.out.1.below B2.out, S1.out.2.trans (But.of_below B2.out _)⟩; clear x0 x1 x2; obtain ⟨x0, x1, x2⟩ := BXS.out w2 (But.of_below B2.out _); obtain ⟨v, -, c0, c1, c2, c3, c4, c5, c6, c7, z⟩ := S2.out.1.open; have z7 := z 7; clear z; rw [hc] at c7) | (go_at_call 34; refine (must_yes _).mono ?_; rintro e w' ⟨rfl, hw⟩; rw [hw]; clear hw w'))
        go_wp2_with (go_at_call 34; refine (must_no _).mono ?_; rintro e w' ⟨rfl, hw⟩; rw [hw]; clear hw w')
        exact ⟨rfl, Goes.none S2.out.2⟩
    · rw [if_neg h7]
      have k7 : (ck == 7) = false := by simpa using h7
      go_enter Try.func21, Try.ntmps21
      go_upto_region 1 with fail
      rw [hw1.out, hpA.out]
      go_upto_region 3 with (first | (go_at_call 35; refine (FI.out _).mono ?_; rintro e w2 ⟨rfl, B2⟩; replace B2 := hide B2; have S2 : Hid (St sb w2 m ∧ But (fun k => k = sb) w w2) := hide ⟨S1.out.1.below B2.out, S1.out.2.trans (But.of_below B2.out _)⟩; clear x0 x1 x2; obtain ⟨x0, x1, x2⟩ := BXS.out w2 (But.of_below B2.out _); obtain ⟨v, -, c0, c1, c2, c3, c4, c5, c6, c7, z⟩ := S2.out.1.open; have z7 := z 7; clear z) | (go_at_call 34; refine (must_yes _).mono ?_; rintro e w' ⟨rfl, hw⟩; rw [hw]; clear hw w'))
      go_wp2_with (go_at_call 34; refine (must_no _).mono ?_; rintro e w' ⟨rfl, hw⟩; rw [hw]; clear hw w')
      exact ⟨rfl, Goes.none S2.out.2⟩
end Go.Proofs.Ytmehlgebbbkdiaa.Um

/-
  bytes.Clone; copied: the records in memory of their own.
-/
namespace Go.Proofs.Ytmehlgebbbkdiaa.Um
open Go.RowKit Go.Maps
set_option linter.unusedVariables false
set_option linter.unusedSimpArgs false
set_option maxRecDepth 100000
/-- The list v of one's own holds the bytes l. -/
def Ob (B : Nat) (w : World) (v : Value) (l : List UInt8) : Prop := w.ownsRow B 5 1 v l.length (bvals l)
theorem Ob.nil (B : Nat) (w : World) : Ob B w (.slice none 0 0) [] := World.ownsRow_nil _ _ _ _
theorem infoB : (Try.prog.info? 5).map (fun i => (i.zero, i.size, i.bytes)) = some (some (.int .u8 0), 1, 1) := by kernel_rfl
theorem Ob.sl {B : Nat} {w : World} {v : Value} {l : List UInt8} (h : Ob B w v l) : Sl w v l := Sl.of_owns h
theorem Ob.low {B C : Nat} {w : World} {v : Value} {l : List UInt8} (h : Ob B w v l) (hb : C ≤ B) : Ob C w v l := by
  refine ⟨h.1, ?_⟩
  rcases h.2 with h | ⟨g, cap, cur, rfl, hg, hh, r⟩
  · exact .inl h
  · exact .inr ⟨g, cap, cur, rfl, by omega, hh, r⟩
theorem Ob.but {B : Nat} {X : Nat → Prop} {A C : World} {v : Value} {l : List UInt8} (h : Ob B A v l) (hb : But X A C) (hx : ∀ k, v.ownBlock = some k → ¬ X k) : Ob B C v l := by
  refine ⟨h.1, ?_⟩
  rcases h.2 with h | ⟨g, cap, cur, rfl, hg, hh, r⟩
  · exact .inl h
  · exact .inr ⟨g, cap, cur, rfl, hg, by rw [hb.block g (heap_lt hh) (hx g rfl)]; exact hh, r⟩
theorem Ob.below {B : Nat} {w w' : World} {v : Value} {l : List UInt8} (h : Ob B w v l) (hb : Below w.heap.size w w') : Ob B w' v l := h.but (But.of_below hb fun _ => False) fun _ _ c => c
theorem Ob.no {B : Nat} {w : World} {v : Value} {l : List UInt8} {b : Nat} {cs : Array Value} {T : TypeId} {fz : Nat × Nat} (h : Ob B w v l) (hb : w.heap[b]? = some (.cells cs T fz)) (hT : T ≠ 5) : ∀ k, v.ownBlock = some k → ¬ k = b := by
  rcases h.2 with ⟨rfl, _⟩ | ⟨g, cap, cur, rfl, hg, hh, r⟩
  · intro k hk; simp [Value.ownBlock] at hk
  · intro k hk e
    simp [Value.ownBlock] at hk
    subst hk
    subst e
    rw [hb] at hh
    simp at hh
    exact hT hh.2.1
/-- append(v, vx...), as an equation. -/
theorem run_app {B : Nat} {w : World} {v vx : Value} {l m : List UInt8} (h : Ob B w v l) (hm : Sl w vx m) (hl : l.length + m.length ≤ 140737488355328) (hB : B ≤ w.heap.size) (ty : TypeId) :
    ∃ v' w', (Builtin.append_ #[31, 31] ty #[v, vx]).run Try.prog w = .ok v' w' ∧ Ob B w' v' (l ++ m) ∧ w.grownBy w' v.ownBlock ∧ (v'.ownBlock = v.ownBlock ∨ v'.ownBlock = some w.heap.size) := by
  obtain ⟨i0, hi, hz0, hz1, hz2⟩ := info_parts infoB
  obtain ⟨ao, cap, rfl, h2, h3, h4, h5⟩ := hm
  cases ao with
  | none =>
    obtain ⟨rfl, rfl⟩ := h2 rfl
    refine ⟨v, w, ?_, by simpa using h, ⟨rfl, rfl, rfl, Nat.le_refl _, fun _ _ _ => rfl⟩, .inl rfl⟩
    exact run_append_owned_none (P := Try.prog) (w := w) B 31 ty 5 i0 1 Try.underlying31 hi v l.length (bvals l) h
  | some ad =>
    have hcells : ∀ j u, (bvals m)[j]? = some u → w.cell? (ad.add j) = some u := by
      intro j u hu
      have hj : j < m.length := by
        have := (List.getElem?_eq_some_iff.1 hu).1
        simpa [bvals] using this
      obtain ⟨b, off, e1, hc⟩ := h5 j hj
      simp only [Option.some.injEq] at e1
      subst e1
      rw [bvals_get hj] at hu
      simp only [Option.some.injEq] at hu
      subst hu
      rw [addr_add]; exact hc
    obtain ⟨v', w', hr, ho, hg, _, hat⟩ := run_append_own_at (P := Try.prog) w B 31 ty 5 i0 (.int .u8 0) 1 1 Try.underlying31 hi hz0 hz1 hz2 rfl (by decide) v l.length (bvals l) h ad m.length cap (bvals m) (by simp [bvals]) hcells (by
      intro u hu
      simp only [bvals, List.mem_map] at hu
      obtain ⟨c, _, rfl⟩ := hu
      rfl) (by unfold maxLen; omega) (by omega) hB
    refine ⟨v', w', hr, ?_, hg, hat⟩
    unfold Ob
    rw [List.length_append, bvals_append]
    exact ho
theorem eqlS (w : World) (a : Option Addr) (n c n' c' : Nat) : (binOp .eql 31 (.slice a n c) (.slice none n' c')).run Try.prog w = .ok (.bool a.isNone) w := Lib.run_eql_slice_nil w _ _ a n c n' c' Try.underlying31
theorem clone_any (w : World) (v : Value) (l : List UInt8) (hv : Sl w v l) (hl : l.length ≤ 140737488355328) :
    Calls Try.prog 43 #[v] w fun e w' => ∃ v', e = .returned v' ∧ Ob w.heap.size w' v' l ∧ Below w.heap.size w w' := by
  have qT := eqlS
  have V := hide hv
  obtain ⟨ao, cap, rfl, h2, _⟩ := hv
  cases ao with
  | none =>
    obtain ⟨rfl, rfl⟩ := h2 rfl
    clear h2 V
    go_enter Try.func43, Try.ntmps43
    go_wp2_with fail
    go_ret
    exact ⟨_, rfl, Ob.nil _ _, Below.refl _ _⟩
  | some ad =>
    clear h2
    have hB := hide ((Below.refl _ w).alloc (Nat.le_refl _) (.cells #[] 5))
    have O1 : Ob w.heap.size (w.alloc (.cells #[] 5)) (.slice (some ⟨w.heap.size, 0, none⟩) 0 0) [] := owns_zero (Nat.le_refl _) (heap_alloc_new w _) rfl (Nat.zero_le _)
    obtain ⟨v', w', hr, O2, hg, _⟩ := run_app (ty := 31) O1 (Below.sl hB.out V.out) (by simpa using hl) (by simp)
    have K : Hid (Ob w.heap.size w' v' l ∧ Below w.heap.size w w') := ⟨by simpa using O2, hB.out.grown hg (by simp) (fun k hk => by simp [Value.ownBlock] at hk; omega)⟩
    clear O1 O2 hg
    go_enter Try.func43, Try.ntmps43
    go_wp2_with (at_builtin; refine Lib.wpList_append_run _ rfl (.tmp 5) (.tmp 6) 31 31 rfl _ _ rfl rfl _ _ hr ?_)
    go_ret
    exact ⟨_, rfl, K.out⟩
/-- A list of lists of one's own. -/
def Own (B : Nat) (w : World) (v : Value) (ls : List (List UInt8)) : Prop := ∃ vs, w.ownsRow B 31 1 v ls.length vs ∧ vs.length = ls.length ∧ ∀ i (h : i < vs.length) (h' : i < ls.length), Ob B w vs[i] ls[i]
theorem Own.below {B : Nat} {w w' : World} {v : Value} {ls : List (List UInt8)} (h : Own B w v ls) (hb : Below w.heap.size w w') : Own B w' v ls := by
  obtain ⟨vs, h1, h2, h3⟩ := h
  exact ⟨vs, ownsRow_below h1 hb, h2, fun i a b => (h3 i a b).below hb⟩
theorem Own.low {B C : Nat} {w : World} {v : Value} {ls : List (List UInt8)} (h : Own B w v ls) (hb : C ≤ B) : Own C w v ls := by
  obtain ⟨vs, ⟨a, h1⟩, h2, h3⟩ := h
  refine ⟨vs, ⟨a, ?_⟩, h2, fun i a b => (h3 i a b).low hb⟩
  rcases h1 with h | ⟨g, cap, cur, rfl, hg, hh, r⟩
  · exact .inl h
  · exact .inr ⟨g, cap, cur, rfl, by omega, hh, r⟩
/-- Such a list as it is read. -/
theorem Own.read {B : Nat} {w : World} {v : Value} {ls : List (List UInt8)} (h : Own B w v ls) : ∃ vs, Row w v vs ∧ Sls w vs ls := by
  obtain ⟨vs, ⟨_, h1⟩, h2, h3⟩ := h
  refine ⟨vs, ?_, h2, fun i a b => (h3 i a b).sl⟩
  rcases h1 with ⟨rfl, h0⟩ | ⟨g, cap, cur, rfl, hg, hh, a1, a2, a3, a4⟩
  · have : vs = [] := List.length_eq_zero_iff.1 (by omega)
    subst this
    exact Row.nil w
  · rw [Nat.mul_one] at a4
    exact row_of hh a4 h2 a1 a2
theorem make_nils (n : Nat) (hn : n ≤ 1000) : (∀ u : World, (Instr.makeSlice 24 (.int .i64 (n : Int)) (.int .i64 (n : Int))).run Try.prog u = .ok (.slice (some ⟨u.heap.size, 0, none⟩) n n) (u.alloc (.cells (madeCells #[.slice none 0 0] n) 31))) := by
  obtain ⟨i0, hi, hz0, hz1, hz2⟩ := info_parts infoL
  intro u
  rw [run_make u 24 31 i0 (.slice none 0 0) Try.underlying24 hi hz0 .i64 .i64 (n : Int) (n : Int) (by omega) (by omega) (by rw [hz2]; omega) (by omega), hz1]
  simp only [Int.toNat_natCast, Nat.mul_one]
  rfl
/-- Between the rounds of copied: the block g holds the copies of the first i. -/
structure CI (w wr : World) (g n : Nat) (ls : List (List UInt8)) (i : Nat) : Prop where
  be : Below w.heap.size w wr
  ge : w.heap.size ≤ g
  cur : ∃ cur : Array Value, wr.heap[g]? = some (.cells cur 31 (0, 0)) ∧ cur.size = n ∧ ∀ j (h : j < i) (h' : j < ls.length), ∃ u, cur[j]? = some u ∧ Ob w.heap.size wr u ls[j]
theorem CI.step {w wr w2 : World} {g n : Nat} {ls : List (List UInt8)} {i : Nat} (h : CI w wr g n ls i) (hb : Below wr.heap.size wr w2) {u : Value} (hi : i < n) (hn : ls.length = n) (hu : Ob wr.heap.size w2 u (ls[i]'(by omega))) :
    CI w (w2.setCell ⟨g, i, none⟩ u) g n ls (i + 1) ∧ w2.frozen? ⟨g, i, none⟩ = false ∧ ∃ x, w2.cell? ⟨g, i, none⟩ = some x := by
  obtain ⟨cur, c1, c2, c3⟩ := h.cur
  have hgl := heap_lt c1
  have c1' := (hb.block g hgl).trans c1
  have hB2 : Below w.heap.size w w2 := h.be.trans ⟨hb.os, hb.tape, hb.output, hb.size, fun k hk => hb.block k (Nat.lt_of_lt_of_le hk h.be.size)⟩
  have BS := but_set w2 g i u
  refine ⟨⟨hB2.trans (BS.below hB2.size (fun k hk => by subst hk; exact h.ge)), h.ge, cur.set! i u, heap_setCell_same w2 g i _ _ _ c1', by simpa using c2, fun j hj hj' => ?_⟩, frz_of c1', cur[i]'(by omega), by rw [cell_of c1']; simp [c2, hi]⟩
  by_cases e : j = i
  · subst e
    refine ⟨u, by simp [c2, hi], ?_⟩
    refine (hu.but BS (hu.no c1' (by decide))).low h.be.size
  · obtain ⟨x, hx, hO⟩ := c3 j (by omega) hj'
    refine ⟨x, by simp [Array.getElem?_set, Ne.symm e, hx, e], ?_⟩
    have hO2 := hO.below hb
    exact hO2.but BS (hO2.no c1' (by decide))
theorem CI.done {w wr : World} {g n : Nat} {ls : List (List UInt8)} (h : CI w wr g n ls n) (hn : ls.length = n) (hm : n ≤ 1000) : Own w.heap.size wr (.slice (some ⟨g, 0, none⟩) n n) ls := by
  obtain ⟨cur, c1, c2, c3⟩ := h.cur
  refine ⟨cur.toList, ⟨by simp [c2, hn], .inr ⟨g, n, cur, by rw [hn], h.ge, c1, by omega, by unfold maxLen; omega, by omega, ?_⟩⟩, by simp [c2, hn], fun i a b => ?_⟩
  · rw [Nat.mul_one, hn]
    exact List.take_of_length_le (by simp [c2])
  · obtain ⟨u, h1, h2⟩ := c3 i (by omega) b
    have : cur.toList[i] = u := by
      rw [← Array.getElem?_toList, List.getElem?_eq_getElem a] at h1
      simpa using h1
    rw [this]; exact h2
set_option maxHeartbeats 1000000 in
theorem copied_any (w : World) (v : Value) (vs : List Value) (ls : List (List UInt8)) (hr : Row w v vs) (hs : Sls w vs ls) (hl : ls.length ≤ 1000) (hd : ∀ d ∈ ls, d.length ≤ 140737488355328) :
    Calls Try.prog 33 #[v] w fun e w' => ∃ v', e = .returned v' ∧ Own w.heap.size w' v' ls ∧ Below w.heap.size w w' := by
  obtain ⟨ao, cap, rfl, hno, hlc, hm, hat⟩ := hr
  have hlen := hs.1
  have HS := hide hs
  have HD := hide hd
  have HAT := hide hat
  obtain ⟨n, hn⟩ : ∃ n, Hid (ls.length = n) := ⟨_, rfl⟩
  have hvn : Hid (vs.length = n) := hide (by rw [hlen]; exact hn.out)
  rw [hvn.out] at hlc ⊢
  rw [hn.out] at hl
  have mk := make_nils n hl
  have hcap : (cap : Int) ≤ 9223372036854775807 := by unfold maxLen at hm; omega
  have B1 := box_below w (.cells (madeCells #[.slice none 0 0] n) 31)
  have N1 := heap_alloc_new w (.cells (madeCells #[.slice none 0 0] n) 31)
  obtain ⟨w1, hw1⟩ : ∃ w1, Hid (w.alloc (.cells (madeCells #[.slice none 0 0] n) 31) = w1) := ⟨_, rfl⟩
  rw [hw1.out] at B1 N1
  have C0 : Hid (CI w w1 w.heap.size n ls 0) := hide ⟨B1, Nat.le_refl _, madeCells #[.slice none 0 0] n, N1, by simp [size_madeCells], fun j h => by omega⟩
  obtain ⟨g, hg⟩ : ∃ g, Hid (w.heap.size = g) := ⟨_, rfl⟩
  rw [hg.out] at C0
  clear B1 N1 hs hd hat hno hlen
  go_enter Try.func33, Try.ntmps33
  go_upto_region 2 with fail
  rw [hw1.out, hg.out]
  go_wp2_with fail
  go_loopw [11] (fun v11 wr => ∃ i : Nat, i ≤ n ∧ v11 = .int .i64 (i : Int) ∧ Hid (CI w wr g n ls i)) (fun v _ => n - (intOf v).toNat)
  case atStart => exact ⟨0, by omega, rfl, C0⟩
  case round =>
    obtain ⟨i, hi, rfl, hC⟩ := hrel
    by_cases hin : i = n
    · subst hin
      have FIN : Hid (Own w.heap.size wr (.slice (some ⟨g, 0, none⟩) i i) ls ∧ Below w.heap.size w wr) := hide ⟨hC.out.done hn.out hl, hC.out.be⟩
      go_wp2
      go_ret
      exact ⟨_, rfl, FIN.out⟩
    · have hil : i < n := by omega
      obtain ⟨b, off, rfl, hc⟩ := HAT.out i (by rw [hvn.out]; exact hil)
      have hsl := HS.out.2 i (by rw [hvn.out]; exact hil) (by rw [hn.out]; exact hil)
      have hc2 : wr.cell? ⟨b, off + i, none⟩ = some (vs[i]'(by rw [hvn.out]; exact hil)) := by rw [hC.out.be.cell (p := ⟨b, off + i, none⟩) (lt_of_cell hc)]; exact hc
      have hsl2 := Below.sl hC.out.be hsl
      have CLO := hide (clone_any wr _ _ hsl2 (HD.out _ (List.getElem_mem _)))
      obtain ⟨x, hx⟩ : ∃ x, Hid (vs[i]'(by rw [hvn.out]; exact hil) = x) := ⟨_, hide rfl⟩
      rw [hx.out] at hc2 CLO hsl2
      obtain ⟨xo, xc, hxe, _⟩ := hsl2
      obtain ⟨XL, hXL⟩ : ∃ XL, Hid ((ls[i]'(by rw [hn.out]; exact hil)).length = XL) := ⟨_, hide rfl⟩
      rw [hXL.out] at hxe
      subst hxe
      have i1 : (i : Int) < (n : Int) := by omega
      clear hc hsl hx
      go_wp2_with (go_at_call 43; refine CLO.out.mono ?_; rintro e w2 ⟨u, rfl, hO, hB⟩; obtain ⟨HC, hz, hq, hcq⟩ := hC.out.step hB hil hn.out hO; replace HC := hide HC; obtain ⟨ua, uc, hue, -⟩ := hO.sl; rw [hXL.out] at hue; subst hue; clear hO hB)
      go_roundw
      case rel => exact ⟨i + 1, by omega, by go_num, HC⟩
      case measure => simp [intOf]; omega
end Go.Proofs.Ytmehlgebbbkdiaa.Um

/-
  A struct of eight cells stored.
-/
namespace Go.Proofs.Ytmehlgebbbkdiaa.Um
open Go.RowKit Go.Maps
open Ix (wp_region_T wpAnyT wpAnyT_take wpAnyT_one wpAnyT_done vac)
set_option linter.unusedVariables false
set_option linter.unusedSimpArgs false
set_option maxRecDepth 100000
def zc : Array Value := #[.int .i64 0, .int .i64 0, .int .i64 0, .int .i64 0, .int .i64 0, .slice none 0 0, .bool false, .bool false]
theorem eight {w : World} {p : Nat} {a0 a1 a2 a3 a4 a5 a6 a7 : Value} {T : TypeId} (h : w.heap[p]? = some (.cells #[a0, a1, a2, a3, a4, a5, a6, a7] T (0, 0))) :
    w.cell? ⟨p, 0, none⟩ = some a0 ∧ w.cell? ⟨p, 1, none⟩ = some a1 ∧ w.cell? ⟨p, 2, none⟩ = some a2 ∧ w.cell? ⟨p, 3, none⟩ = some a3 ∧ w.cell? ⟨p, 4, none⟩ = some a4 ∧ w.cell? ⟨p, 5, none⟩ = some a5 ∧ w.cell? ⟨p, 6, none⟩ = some a6 ∧ w.cell? ⟨p, 7, none⟩ = some a7 := by
  refine ⟨?_, ?_, ?_, ?_, ?_, ?_, ?_, ?_⟩ <;> (rw [cell_of h]; rfl)
def put8 (w : World) (p : Nat) (a0 a1 a2 a3 a4 a5 a6 a7 : Value) : World := (((((((w.setCell ⟨p, 0, none⟩ a0).setCell ⟨p, 1, none⟩ a1).setCell ⟨p, 2, none⟩ a2).setCell ⟨p, 3, none⟩ a3).setCell ⟨p, 4, none⟩ a4).setCell ⟨p, 5, none⟩ a5).setCell ⟨p, 6, none⟩ a6).setCell ⟨p, 7, none⟩ a7
theorem put8_but (w : World) (p : Nat) (a0 a1 a2 a3 a4 a5 a6 a7 : Value) : But (fun k => k = p) w (put8 w p a0 a1 a2 a3 a4 a5 a6 a7) :=
  (((((((but_set w p 0 a0).trans (but_set _ p 1 a1)).trans (but_set _ p 2 a2)).trans (but_set _ p 3 a3)).trans (but_set _ p 4 a4)).trans (but_set _ p 5 a5)).trans (but_set _ p 6 a6)).trans (but_set _ p 7 a7)
theorem put8_heap {w : World} {p : Nat} {b0 b1 b2 b3 b4 b5 b6 b7 : Value} {T : TypeId} (h : w.heap[p]? = some (.cells #[b0, b1, b2, b3, b4, b5, b6, b7] T (0, 0))) (a0 a1 a2 a3 a4 a5 a6 a7 : Value) :
    (put8 w p a0 a1 a2 a3 a4 a5 a6 a7).heap[p]? = some (.cells #[a0, a1, a2, a3, a4, a5, a6, a7] T (0, 0)) := by
  unfold put8
  obtain ⟨w0, hw0⟩ : ∃ u, w.setCell ⟨p, 0, none⟩ a0 = u := ⟨_, rfl⟩
  have e0 : w0.heap[p]? = some (.cells #[a0, b1, b2, b3, b4, b5, b6, b7] T (0, 0)) := by
    rw [← hw0, heap_setCell_same w p 0 _ _ _ h]
    rfl
  rw [hw0]
  obtain ⟨w1, hw1⟩ : ∃ u, w0.setCell ⟨p, 1, none⟩ a1 = u := ⟨_, rfl⟩
  have e1 : w1.heap[p]? = some (.cells #[a0, a1, b2, b3, b4, b5, b6, b7] T (0, 0)) := by
    rw [← hw1, heap_setCell_same w0 p 1 _ _ _ e0]
    rfl
  rw [hw1]
  obtain ⟨w2, hw2⟩ : ∃ u, w1.setCell ⟨p, 2, none⟩ a2 = u := ⟨_, rfl⟩
  have e2 : w2.heap[p]? = some (.cells #[a0, a1, a2, b3, b4, b5, b6, b7] T (0, 0)) := by
    rw [← hw2, heap_setCell_same w1 p 2 _ _ _ e1]
    rfl
  rw [hw2]
  obtain ⟨w3, hw3⟩ : ∃ u, w2.setCell ⟨p, 3, none⟩ a3 = u := ⟨_, rfl⟩
  have e3 : w3.heap[p]? = some (.cells #[a0, a1, a2, a3, b4, b5, b6, b7] T (0, 0)) := by
    rw [← hw3, heap_setCell_same w2 p 3 _ _ _ e2]
    rfl
  rw [hw3]
  obtain ⟨w4, hw4⟩ : ∃ u, w3.setCell ⟨p, 4, none⟩ a4 = u := ⟨_, rfl⟩
  have e4 : w4.heap[p]? = some (.cells #[a0, a1, a2, a3, a4, b5, b6, b7] T (0, 0)) := by
    rw [← hw4, heap_setCell_same w3 p 4 _ _ _ e3]
    rfl
  rw [hw4]
  obtain ⟨w5, hw5⟩ : ∃ u, w4.setCell ⟨p, 5, none⟩ a5 = u := ⟨_, rfl⟩
  have e5 : w5.heap[p]? = some (.cells #[a0, a1, a2, a3, a4, a5, b6, b7] T (0, 0)) := by
    rw [← hw5, heap_setCell_same w4 p 5 _ _ _ e4]
    rfl
  rw [hw5]
  obtain ⟨w6, hw6⟩ : ∃ u, w5.setCell ⟨p, 6, none⟩ a6 = u := ⟨_, rfl⟩
  have e6 : w6.heap[p]? = some (.cells #[a0, a1, a2, a3, a4, a5, a6, b7] T (0, 0)) := by
    rw [← hw6, heap_setCell_same w5 p 6 _ _ _ e5]
    rfl
  rw [hw6]
  obtain ⟨w7, hw7⟩ : ∃ u, w6.setCell ⟨p, 7, none⟩ a7 = u := ⟨_, rfl⟩
  have e7 : w7.heap[p]? = some (.cells #[a0, a1, a2, a3, a4, a5, a6, a7] T (0, 0)) := by
    rw [← hw7, heap_setCell_same w6 p 7 _ _ _ e6]
    rfl
  rw [hw7]
  exact e7
/-- What an answered state owes. -/
def Ans (w : World) (R : Option Md) (e : Ending) (w' : World) : Prop :=
  Below w.heap.size w w' ∧ ∃ rv, e = .returned (.tuple #[.agg (cellsOf (R.getD zeroS) rv), .bool R.isSome]) ∧ Own w.heap.size w' rv (R.getD zeroS).rs
theorem Ob.low_but {B : Nat} {X : Nat → Prop} {A C : World} {v : Value} {l : List UInt8} (h : Ob B A v l) (hb : But X A C) (hx : ∀ k, X k → k < B) : Ob B C v l :=
  h.but hb fun k hk c => by
    rcases h.2 with ⟨rfl, _⟩ | ⟨g, cap, cur, rfl, hg, _⟩
    · simp [Value.ownBlock] at hk
    · simp [Value.ownBlock] at hk
      have := hx k c
      omega
theorem Own.but {B : Nat} {X : Nat → Prop} {A C : World} {v : Value} {ls : List (List UInt8)} (h : Own B A v ls) (hb : But X A C) (hx : ∀ k, X k → k < B) : Own B C v ls := by
  obtain ⟨vs, ⟨a, h1⟩, h2, h3⟩ := h
  refine ⟨vs, ⟨a, ?_⟩, h2, fun i a b => (h3 i a b).low_but hb hx⟩
  rcases h1 with h | ⟨g, cap, cur, rfl, hg, hh, r⟩
  · exact .inl h
  · exact .inr ⟨g, cap, cur, rfl, hg, by rw [hb.block g (heap_lt hh) (fun c => by have := hx g c; omega)]; exact hh, r⟩
theorem Own.form {B : Nat} {w : World} {v : Value} {ls : List (List UInt8)} (h : Own B w v ls) : ∃ ao ca, v = .slice ao ls.length ca := by
  obtain ⟨vs, ⟨_, h1⟩, _⟩ := h
  rcases h1 with ⟨rfl, h0⟩ | ⟨g, cap, cur, rfl, _⟩
  · exact ⟨none, 0, by rw [h0]⟩
  · exact ⟨_, _, rfl⟩
theorem Own.nil (B : Nat) (w : World) : Own B w (.slice none 0 0) [] := ⟨[], World.ownsRow_nil _ _ _ _, rfl, fun i h => by simp at h⟩
/-- What following does at its end. -/
theorem done8 {w : World} {sb p1 p2 : Nat} {a0 a1 a2 a3 a4 b5 a6 a7 : Value} (h1 : w.heap[p1]? = some (.cells zc 26 (0, 0))) (h2 : w.heap[p2]? = some (.cells #[.bool false] 4 (0, 0))) (hs : w.heap[sb]? = some (.cells #[a0, a1, a2, a3, a4, b5, a6, a7] 58 (0, 0))) (n1 : sb ≠ p1) (n2 : sb ≠ p2) (n3 : p1 ≠ p2) (a5 : Value) :
    ∃ W, Hid ((put8 (w.setCell ⟨sb, 5, none⟩ a5) p1 a0 a1 a2 a3 a4 a5 a6 a7).setCell ⟨p2, 0, none⟩ (.bool true) = W) ∧ W.heap[p1]? = some (.cells #[a0, a1, a2, a3, a4, a5, a6, a7] 26 (0, 0)) ∧ W.heap[p2]? = some (.cells #[.bool true] 4 (0, 0)) ∧ But (fun k => k = sb ∨ k = p1 ∨ k = p2) w W ∧ (w.setCell ⟨sb, 5, none⟩ a5).heap[p1]? = some (.cells zc 26 (0, 0)) ∧ (put8 (w.setCell ⟨sb, 5, none⟩ a5) p1 a0 a1 a2 a3 a4 a5 a6 a7).heap[p2]? = some (.cells #[.bool false] 4 (0, 0)) := by
  have S := but_set w sb 5 a5
  have k1 := (S.block p1 (heap_lt h1) (Ne.symm n1)).trans h1
  have k2 := (S.block p2 (heap_lt h2) (Ne.symm n2)).trans h2
  have P := put8_but (w.setCell ⟨sb, 5, none⟩ a5) p1 a0 a1 a2 a3 a4 a5 a6 a7
  have H := put8_heap k1 a0 a1 a2 a3 a4 a5 a6 a7
  have k3 := (P.block p2 (heap_lt k2) (Ne.symm n3)).trans k2
  have Q := but_set (put8 (w.setCell ⟨sb, 5, none⟩ a5) p1 a0 a1 a2 a3 a4 a5 a6 a7) p2 0 (.bool true)
  refine ⟨_, hide rfl, (Q.block p1 (heap_lt H) n3).trans H, ?_, ((S.mono fun k _ e => .inl e).trans (P.mono fun k _ e => .inr (.inl e))).trans (Q.mono fun k _ e => .inr (.inr e)), k1, k3⟩
  rw [heap_setCell_same _ p2 0 _ _ _ k3]
  rfl
end Go.Proofs.Ytmehlgebbbkdiaa.Um

/-
  following: a change of a state, what may not be recovered.
-/
namespace Go.Proofs.Ytmehlgebbbkdiaa.Um
open Go.RowKit Go.Maps
open Ix (wp_region_T wpAnyT wpAnyT_take wpAnyT_one wpAnyT_done vac)
set_option linter.unusedVariables false
set_option linter.unusedSimpArgs false
set_option maxRecDepth 100000
set_option maxHeartbeats 2000000 in
theorem catch_idle (p q : Addr) (w : World) :
    CallsD Try.prog 32 #[.pointer p, .pointer q] .returning w fun e u' w' => e = .returned (.tuple #[]) ∧ u' = .returning ∧ w' = w := by
  refine callsD_of_wpS Try.func32 rfl fun c₀ cs hu => ?_
  have hnil : ∀ u : World, (binOp .neq 20 .nilIface .nilIface).run Try.prog u = .ok (.bool false) u := fun u => by kernel_rfl
  apply wpS_seq
  apply wpS_region
  simp [wpOpsS, go_sem, recoverD, hu, Try.ntmps32, Exit.thenS]
  refine wpS_of_wp ?_
  go_wp2_with fail
  cases c₀
  simp_all [bodyPostS, results, Try.results32]
set_option maxHeartbeats 2000000 in
theorem catch_refusal (w : World) {p q : Nat} {x : Value} (h1 : w.heap[p]? = some (.cells zc 26 (0, 0))) (h2 : w.heap[q]? = some (.cells #[x] 4 (0, 0))) (hpq : p ≠ q) :
    CallsD Try.prog 32 #[.pointer (some ⟨p, 0, none⟩), .pointer (some ⟨q, 0, none⟩)] (.panicking [{ v := .iface 56 (.agg #[]), recovered := false }]) w fun e u' w' =>
      e = .returned (.tuple #[]) ∧ u' = .panicking [{ v := .iface 56 (.agg #[]), recovered := true }] ∧ But (fun k => k = p ∨ k = q) w w' ∧ w'.heap[p]? = some (.cells zc 26 (0, 0)) ∧ w'.heap[q]? = some (.cells #[.bool false] 4 (0, 0)) := by
  refine callsD_of_wpS Try.func32 rfl fun c₀ cs hu => ?_
  have hnil : ∀ u : World, (binOp .neq 20 (.iface 56 (.agg #[])) .nilIface).run Try.prog u = .ok (.bool true) u := fun u => by kernel_rfl
  have ta : ∀ (q : World), (Instr.typeAssert (.iface 56 (.agg #[])) 20 56 true).run Try.prog q = .ok (.tuple #[.agg #[], .bool true]) q := fun q => by kernel_rfl
  have B1 := box_below w (.cells #[] 56)
  obtain ⟨w1, hw1⟩ : ∃ w1, Hid (w.alloc (.cells #[] 56) = w1) := ⟨_, rfl⟩
  rw [hw1.out] at B1
  have k1 := (B1.block p (heap_lt h1)).trans h1
  have k2 := (B1.block q (heap_lt h2)).trans h2
  obtain ⟨a0, a1, a2, a3, a4, a5, a6, a7⟩ := eight k1
  have b0 : w1.cell? ⟨q, 0, none⟩ = some x := by rw [cell_of k2]; rfl
  have z0 : w1.frozen? ⟨q, 0, none⟩ = false := frz_of k2
  have y0 : w1.frozen? ⟨p, 0, none⟩ = false := frz_of k1
  have y1 : w1.frozen? ⟨p, 1, none⟩ = false := frz_of k1
  have y2 : w1.frozen? ⟨p, 2, none⟩ = false := frz_of k1
  have y3 : w1.frozen? ⟨p, 3, none⟩ = false := frz_of k1
  have y4 : w1.frozen? ⟨p, 4, none⟩ = false := frz_of k1
  have y5 : w1.frozen? ⟨p, 5, none⟩ = false := frz_of k1
  have y6 : w1.frozen? ⟨p, 6, none⟩ = false := frz_of k1
  have y7 : w1.frozen? ⟨p, 7, none⟩ = false := frz_of k1
  have FIN : Hid (But (fun k => k = p ∨ k = q) w ((put8 w1 p (.int .i64 0) (.int .i64 0) (.int .i64 0) (.int .i64 0) (.int .i64 0) (.slice none 0 0) (.bool false) (.bool false)).setCell ⟨q, 0, none⟩ (.bool false)) ∧ ((put8 w1 p (.int .i64 0) (.int .i64 0) (.int .i64 0) (.int .i64 0) (.int .i64 0) (.slice none 0 0) (.bool false) (.bool false)).setCell ⟨q, 0, none⟩ (.bool false)).heap[p]? = some (.cells zc 26 (0, 0)) ∧ ((put8 w1 p (.int .i64 0) (.int .i64 0) (.int .i64 0) (.int .i64 0) (.int .i64 0) (.slice none 0 0) (.bool false) (.bool false)).setCell ⟨q, 0, none⟩ (.bool false)).heap[q]? = some (.cells #[.bool false] 4 (0, 0))) := hide (by
    have P := put8_but w1 p (.int .i64 0) (.int .i64 0) (.int .i64 0) (.int .i64 0) (.int .i64 0) (.slice none 0 0) (.bool false) (.bool false)
    have H := put8_heap k1 (.int .i64 0) (.int .i64 0) (.int .i64 0) (.int .i64 0) (.int .i64 0) (.slice none 0 0) (.bool false) (.bool false)
    have Q := but_set (put8 w1 p (.int .i64 0) (.int .i64 0) (.int .i64 0) (.int .i64 0) (.int .i64 0) (.slice none 0 0) (.bool false) (.bool false)) q 0 (.bool false)
    have H2 := (P.block q (heap_lt k2) (fun c => hpq c.symm)).trans k2
    exact ⟨((But.of_below B1 _).trans (P.mono fun k _ e => .inl e)).trans (Q.mono fun k _ e => .inr e), (Q.block p (heap_lt H) hpq).trans H, heap_setCell_same _ q 0 _ _ _ H2⟩)
  unfold put8 at FIN
  clear B1 k1 k2 h1 h2
  apply wpS_seq
  apply wpS_region
  simp [wpOpsS, go_sem, recoverD, hu, Try.ntmps32, Exit.thenS]
  refine wpS_of_wp ?_
  go_upto_region 3 with fail
  rw [hw1.out]
  go_wp2_with fail
  simp [bodyPostS, results, Try.results32]
  exact FIN.out
end Go.Proofs.Ytmehlgebbbkdiaa.Um

/-
  following; Apply, Half of the package. (gen_UmN.py)
-/
namespace Go.Proofs.Ytmehlgebbbkdiaa.Um
open Go.RowKit Go.Maps
open Ix (wp_region_T wpAnyT wpAnyT_take wpAnyT_one wpAnyT_done vac)
set_option linter.unusedVariables false
set_option linter.unusedSimpArgs false
set_option maxRecDepth 100000
set_option maxHeartbeats 8000000 in
theorem following2_any (w : World) (m : Md) (v : Value) (vs : List Value) (hr : Row w v vs) (hs : Sls w vs m.rs) (x y : Value) (R : Option Md)
    (hfit : ∀ m', R = some m' → m'.rs.length ≤ 1000 ∧ ∀ d ∈ m'.rs, d.length ≤ 140737488355328)
    (hc : ∀ sb u, w.heap.size ≤ sb → Below w.heap.size w u → St sb u m → Calls Try.prog 25 #[.pointer (some ⟨sb, 0, none⟩), x, y] u fun e w' => Goes sb u R e w') :
    Calls Try.prog 19 #[.agg (cellsOf m v), .func (.func 25) #[] #[x, y]] w fun e w' => Ans w R e w' := by
  have hmf : ∀ (fn : Fn) (first cap : Array Value) (w : World), (Instr.makeFunc fn first cap).run Try.prog w = .ok (.func fn first cap) w := fun _ _ _ _ => rfl
  obtain ⟨ba, fi, du, nx, li, rs, fa, cl⟩ := m
  unfold cellsOf at *
  simp only at *
  have B0 := box_below w (.cells #[.int .i64 ba, .int .i64 fi, .int .i64 du, .int .i64 nx, .int .i64 li, v, .bool fa, .bool cl] 26)
  have N0 := heap_alloc_new w (.cells #[.int .i64 ba, .int .i64 fi, .int .i64 du, .int .i64 nx, .int .i64 li, v, .bool fa, .bool cl] 26)
  obtain ⟨w0, hw0⟩ : ∃ w0, Hid (w.alloc (.cells #[.int .i64 ba, .int .i64 fi, .int .i64 du, .int .i64 nx, .int .i64 li, v, .bool fa, .bool cl] 26) = w0) := ⟨_, rfl⟩
  have hz0 : w0.heap.size = w.heap.size + 1 := by rw [← hw0.out]; simp
  rw [hw0.out] at B0 N0
  have B1 := box_below w0 (.cells zc 26)
  have N1 := heap_alloc_new w0 (.cells zc 26)
  obtain ⟨w1, hw1⟩ : ∃ w1, Hid (w0.alloc (.cells zc 26) = w1) := ⟨_, rfl⟩
  have hz1 : w1.heap.size = w.heap.size + 2 := by rw [← hw1.out]; simp; omega
  rw [hw1.out] at B1 N1
  rw [hz0] at N1
  have B2 := box_below w1 (.cells #[.bool false] 4)
  have N2 := heap_alloc_new w1 (.cells #[.bool false] 4)
  obtain ⟨w2, hw2⟩ : ∃ w2, Hid (w1.alloc (.cells #[.bool false] 4) = w2) := ⟨_, rfl⟩
  have hz2 : w2.heap.size = w.heap.size + 3 := by rw [← hw2.out]; simp; omega
  rw [hw2.out] at B2 N2
  rw [hz1] at N2
  have B3 := box_below w2 (.cells #[.int .i64 ba, .int .i64 fi, .int .i64 du, .int .i64 nx, .int .i64 li, v, .bool fa, .bool cl] 58)
  have N3 := heap_alloc_new w2 (.cells #[.int .i64 ba, .int .i64 fi, .int .i64 du, .int .i64 nx, .int .i64 li, v, .bool fa, .bool cl] 58)
  obtain ⟨w3, hw3⟩ : ∃ w3, Hid (w2.alloc (.cells #[.int .i64 ba, .int .i64 fi, .int .i64 du, .int .i64 nx, .int .i64 li, v, .bool fa, .bool cl] 58) = w3) := ⟨_, rfl⟩
  have hz3 : w3.heap.size = w.heap.size + 4 := by rw [← hw3.out]; simp; omega
  rw [hw3.out] at B3 N3
  rw [hz2] at N3
  have K2 := (B3.block _ (heap_lt N2)).trans N2
  have K1 := (B3.block _ (by have := heap_lt N1; omega)).trans ((B2.block _ (heap_lt N1)).trans N1)
  have K0 := (B3.block _ (by omega)).trans ((B2.block _ (by omega)).trans ((B1.block _ (heap_lt N0)).trans N0))
  have L0 := (B2.block _ (by omega)).trans ((B1.block _ (heap_lt N0)).trans N0)
  have hB3 : Below w.heap.size w w3 := B0.trans (⟨B1.os, B1.tape, B1.output, B1.size, fun k hk => B1.block k (by omega)⟩ |> fun (e : Below w.heap.size w0 w1) => e.trans (⟨B2.os, B2.tape, B2.output, B2.size, fun k hk => B2.block k (by omega)⟩ |> fun (e : Below w.heap.size w1 w2) => e.trans ⟨B3.os, B3.tape, B3.output, B3.size, fun k hk => B3.block k (by omega)⟩))
  have SW : St (w.heap.size + 3) w3 ⟨ba, fi, du, nx, li, rs, fa, cl⟩ := ⟨v, N3, Rk.of hr hs hB3 (by omega)⟩
  have CC := hide (hc _ w3 (by omega) hB3 SW)
  -- the blocks of the answer stand whatever is done to the state
  have J1 : Hid (∀ q, But (fun k => k = w.heap.size + 3) w3 q → q.heap[w.heap.size + 1]? = some (.cells zc 26 (0, 0)) ∧ q.heap[w.heap.size + 2]? = some (.cells #[.bool false] 4 (0, 0)) ∧ Below w.heap.size w q) := hide (fun q hq => by
    have e1 := K1
    have e2 := K2
    exact ⟨(hq.block _ (heap_lt e1) (by omega)).trans e1, (hq.block _ (heap_lt e2) (by omega)).trans e2, hB3.trans (hq.below hB3.size (fun k hk => by omega))⟩)
  have SIZ : Hid (w.heap.size + 3 < w3.heap.size) := hide SW.lt
  have t0 := eight L0
  obtain ⟨t0, t1, t2, t3, t4, t5, t6, t7⟩ := t0
  have hw1' : Hid (((w.alloc (.cells #[.int .i64 ba, .int .i64 fi, .int .i64 du, .int .i64 nx, .int .i64 li, v, .bool fa, .bool cl] 26)).alloc (.cells zc 26)).alloc (.cells #[.bool false] 4) = w2) := hide (by rw [hw0.out, hw1.out, hw2.out])
  unfold zc at hw1'
  obtain ⟨so, sc, ev, -⟩ := hr
  subst ev
  generalize vs.length = L at *
  clear B0 N0 B1 N1 B2 N2 B3 N3 K0 K1 K2 L0 hB3 SW hs hc hw0 hw1 hw2 hz0 hz1 hz3
  obtain ⟨p0, hp0⟩ : ∃ p, Hid (w.heap.size = p) := ⟨_, rfl⟩
  cases R with
  | none =>
    go_enter_defers Try.func19, Try.ntmps19
    go_upto_region 1 with fail
    rw [hw1'.out]
    go_upto_region 3 with fail
    rw [hw3.out]
    clear t0 t1 t2 t3 t4 t5 t6 t7 hz2 hw3 hw1'
    go_wp2_with (go_at_call 25; refine CC.out.mono ?_; rintro e w4 ⟨g4, rfl⟩)
    obtain ⟨j1, j2, jB⟩ := J1.out w4 g4
    refine leaves_cons (f := 32) (args := #[.pointer (some ⟨w.heap.size + 1, 0, none⟩), .pointer (some ⟨w.heap.size + 1 + 1, 0, none⟩)]) (by simp) (by simp [go_sem]) ?_
    refine (catch_refusal w4 j1 j2 (by omega)).mono ?_
    rintro e u' w5 ⟨rfl, rfl, g5, k1, k2⟩
    unfold zc at k1
    obtain ⟨a0, a1, a2, a3, a4, a5, a6, a7⟩ := eight k1
    have b0 : w5.cell? ⟨w.heap.size + 2, 0, none⟩ = some (.bool false) := by rw [cell_of k2]; rfl
    have FIN : Hid (Ans w none (.returned (.tuple #[.agg (cellsOf zeroS (.slice none 0 0)), .bool false])) w5) := hide ⟨jB.trans (g5.below jB.size (fun k hk => by omega)), _, rfl, Own.nil _ _⟩
    unfold cellsOf zeroS at FIN
    simp [Leaves, settle, results, Try.results19, go_sem, a0, a1, a2, a3, a4, a5, a6, a7, b0]
    exact FIN.out
  | some m' =>
    obtain ⟨mb, mf, md, mn, ml, mr, ma, mc⟩ := m'
    obtain ⟨fit1, fit2⟩ := hfit _ rfl
    have fit1 := hide fit1
    have fit2 := hide fit2
    clear hfit
    go_enter_defers Try.func19, Try.ntmps19
    go_upto_region 1 with fail
    rw [hw1'.out]
    go_upto_region 3 with fail
    rw [hw3.out]
    clear t0 t1 t2 t3 t4 t5 t6 t7 hz2 hw3 hw1'
    go_upto_region 5 with (first
      | (go_at_call 25; refine CC.out.mono ?_; rintro e w4 ⟨g4, rfl, s4⟩; obtain ⟨v4, h4, vs4, rk4⟩ := s4; obtain ⟨r4, s4⟩ := rk4 w4 (But.refl _ _); obtain ⟨j1, j2, jB⟩ := J1.out w4 g4; have CO := hide (copied_any w4 v4 vs4 mr r4 s4 fit1.out fit2.out); obtain ⟨so4, sc4, ev4, -⟩ := r4; subst ev4; clear s4 rk4 CC; obtain ⟨a0, a1, a2, a3, a4, a5, a6, a7⟩ := eight h4; generalize hL4 : vs4.length = L4 at *; clear hL4; replace j1 := hide j1; replace j2 := hide j2; replace jB := hide jB; replace h4 := hide h4)
      | (go_at_call 33; refine CO.out.mono ?_; rintro e w5 ⟨rv, rfl, O5, B5⟩; have i4 := (B5.block _ (heap_lt h4.out)).trans h4.out; obtain ⟨e0, e1, e2, e3, e4, e5, e6, e7⟩ := eight i4; have z5 := frz_of (off := 5) i4; obtain ⟨ro, rc, er⟩ := O5.form; generalize mr.length = LR at er; subst er; replace O5 := hide O5; replace B5 := hide B5; replace i4 := hide i4; clear a0 a1 a2 a3 a4 a5 a6 a7 CO))
    have i1 := (B5.out.block _ (heap_lt j1.out)).trans j1.out
    have i2 := (B5.out.block _ (heap_lt j2.out)).trans j2.out
    obtain ⟨W8, hW8, k1, k2, B8, q1, q2⟩ := done8 i1 i2 i4.out (by omega) (by omega) (by omega) (.slice ro LR rc)
    have FIN : Hid (Ans w (some ⟨mb, mf, md, mn, ml, mr, ma, mc⟩) (.returned (.tuple #[.agg (cellsOf ⟨mb, mf, md, mn, ml, mr, ma, mc⟩ (.slice ro LR rc)), .bool true])) W8) := hide (by
      have jl1 := heap_lt j1.out
      have jl2 := heap_lt j2.out
      have jl4 := heap_lt h4.out
      have hS := jB.out.size
      have Bw : Below w.heap.size w w5 := jB.out.trans ⟨B5.out.os, B5.out.tape, B5.out.output, B5.out.size, fun k hk => B5.out.block k (by omega)⟩
      exact ⟨Bw.trans (B8.below Bw.size (fun k hk => by omega)), _, rfl, (O5.out.but B8 (fun k hk => by omega)).low hS⟩)
    unfold cellsOf at FIN
    have i46 := heap_setCell_same w5 (w.heap.size + 3) 5 _ _ (.slice ro LR rc) i4.out
    obtain ⟨w6, hw6⟩ : ∃ w6, Hid (w5.setCell ⟨w.heap.size + 3, 5, none⟩ (.slice ro LR rc) = w6) := ⟨_, rfl⟩
    rw [hw6.out] at hW8 q1 q2 i46
    rw [hw6.out]
    have q22 : w6.heap[w.heap.size + 2]? = some (.cells #[.bool false] 4 (0, 0)) := by
      rw [← hw6.out, (but_set w5 (w.heap.size + 3) 5 (.slice ro LR rc)).block _ (heap_lt i2) (by omega)]; exact i2
    clear e0 e1 e2 e3 e4 e5 e6 e7 z5 i1 i2 B8 J1 SIZ j1 j2 jB h4 g4 O5 B5 i4 q2
    unfold put8 at hW8
    unfold zc at q1
    obtain ⟨x0, x1, x2, x3, x4, x5, x6, x7⟩ := eight (show w6.heap[w.heap.size + 3]? = some (.cells #[.int .i64 mb, .int .i64 mf, .int .i64 md, .int .i64 mn, .int .i64 ml, .slice ro LR rc, .bool ma, .bool mc] 58 (0, 0)) from i46)
    obtain ⟨y0, y1, y2, y3, y4, y5, y6, y7⟩ := eight q1
    have y8 := cell_of (off := 0) q22
    simp only [List.getElem?_toArray, List.getElem?_cons_zero] at y8
    have z0 := frz_of (off := 0) q1
    have z1 := frz_of (off := 1) q1
    have z2 := frz_of (off := 2) q1
    have z3 := frz_of (off := 3) q1
    have z4 := frz_of (off := 4) q1
    have z5 := frz_of (off := 5) q1
    have z6 := frz_of (off := 6) q1
    have z7 := frz_of (off := 7) q1
    have z8 := frz_of (off := 0) q22
    have hk1 := hide k1
    have hk2 := hide k2
    clear i46 q1 q22 k1 k2
    go_wp2_with fail
    rw [hW8.out]
    obtain ⟨m0, m1, m2, m3, m4, m5, m6, m7⟩ := eight hk1.out
    have m8 := cell_of (off := 0) hk2.out
    simp only [List.getElem?_toArray, List.getElem?_cons_zero] at m8
    clear x0 x1 x2 x3 x4 x5 x6 x7 y0 y1 y2 y3 y4 y5 y6 y7 y8 z0 z1 z2 z3 z4 z5 z6 z7 z8 hW8 hw6
    refine leaves_cons (f := 32) (args := #[.pointer (some ⟨w.heap.size + 1, 0, none⟩), .pointer (some ⟨w.heap.size + 1 + 1, 0, none⟩)]) (by simp) (by simp [go_sem]) ?_
    refine (catch_idle ⟨w.heap.size + 1, 0, none⟩ ⟨w.heap.size + 1 + 1, 0, none⟩ _).mono ?_
    rintro e u' w'' ⟨rfl, rfl, rfl⟩
    simp [Leaves, settle, results, Try.results19, go_sem, m0, m1, m2, m3, m4, m5, m6, m7, m8]
    exact FIN.out
set_option maxHeartbeats 8000000 in
theorem following1_any (w : World) (m : Md) (v : Value) (vs : List Value) (hr : Row w v vs) (hs : Sls w vs m.rs) (x : Value) (R : Option Md)
    (hfit : ∀ m', R = some m' → m'.rs.length ≤ 1000 ∧ ∀ d ∈ m'.rs, d.length ≤ 140737488355328)
    (hc : ∀ sb u, w.heap.size ≤ sb → Below w.heap.size w u → St sb u m → Calls Try.prog 20 #[.pointer (some ⟨sb, 0, none⟩), x] u fun e w' => Goes sb u R e w') :
    Calls Try.prog 19 #[.agg (cellsOf m v), .func (.func 20) #[] #[x]] w fun e w' => Ans w R e w' := by
  have hmf : ∀ (fn : Fn) (first cap : Array Value) (w : World), (Instr.makeFunc fn first cap).run Try.prog w = .ok (.func fn first cap) w := fun _ _ _ _ => rfl
  obtain ⟨ba, fi, du, nx, li, rs, fa, cl⟩ := m
  unfold cellsOf at *
  simp only at *
  have B0 := box_below w (.cells #[.int .i64 ba, .int .i64 fi, .int .i64 du, .int .i64 nx, .int .i64 li, v, .bool fa, .bool cl] 26)
  have N0 := heap_alloc_new w (.cells #[.int .i64 ba, .int .i64 fi, .int .i64 du, .int .i64 nx, .int .i64 li, v, .bool fa, .bool cl] 26)
  obtain ⟨w0, hw0⟩ : ∃ w0, Hid (w.alloc (.cells #[.int .i64 ba, .int .i64 fi, .int .i64 du, .int .i64 nx, .int .i64 li, v, .bool fa, .bool cl] 26) = w0) := ⟨_, rfl⟩
  have hz0 : w0.heap.size = w.heap.size + 1 := by rw [← hw0.out]; simp
  rw [hw0.out] at B0 N0
  have B1 := box_below w0 (.cells zc 26)
  have N1 := heap_alloc_new w0 (.cells zc 26)
  obtain ⟨w1, hw1⟩ : ∃ w1, Hid (w0.alloc (.cells zc 26) = w1) := ⟨_, rfl⟩
  have hz1 : w1.heap.size = w.heap.size + 2 := by rw [← hw1.out]; simp; omega
  rw [hw1.out] at B1 N1
  rw [hz0] at N1
  have B2 := box_below w1 (.cells #[.bool false] 4)
  have N2 := heap_alloc_new w1 (.cells #[.bool false] 4)
  obtain ⟨w2, hw2⟩ : ∃ w2, Hid (w1.alloc (.cells #[.bool false] 4) = w2) := ⟨_, rfl⟩
  have hz2 : w2.heap.size = w.heap.size + 3 := by rw [← hw2.out]; simp; omega
  rw [hw2.out] at B2 N2
  rw [hz1] at N2
  have B3 := box_below w2 (.cells #[.int .i64 ba, .int .i64 fi, .int .i64 du, .int .i64 nx, .int .i64 li, v, .bool fa, .bool cl] 58)
  have N3 := heap_alloc_new w2 (.cells #[.int .i64 ba, .int .i64 fi, .int .i64 du, .int .i64 nx, .int .i64 li, v, .bool fa, .bool cl] 58)
  obtain ⟨w3, hw3⟩ : ∃ w3, Hid (w2.alloc (.cells #[.int .i64 ba, .int .i64 fi, .int .i64 du, .int .i64 nx, .int .i64 li, v, .bool fa, .bool cl] 58) = w3) := ⟨_, rfl⟩
  have hz3 : w3.heap.size = w.heap.size + 4 := by rw [← hw3.out]; simp; omega
  rw [hw3.out] at B3 N3
  rw [hz2] at N3
  have K2 := (B3.block _ (heap_lt N2)).trans N2
  have K1 := (B3.block _ (by have := heap_lt N1; omega)).trans ((B2.block _ (heap_lt N1)).trans N1)
  have K0 := (B3.block _ (by omega)).trans ((B2.block _ (by omega)).trans ((B1.block _ (heap_lt N0)).trans N0))
  have L0 := (B2.block _ (by omega)).trans ((B1.block _ (heap_lt N0)).trans N0)
  have hB3 : Below w.heap.size w w3 := B0.trans (⟨B1.os, B1.tape, B1.output, B1.size, fun k hk => B1.block k (by omega)⟩ |> fun (e : Below w.heap.size w0 w1) => e.trans (⟨B2.os, B2.tape, B2.output, B2.size, fun k hk => B2.block k (by omega)⟩ |> fun (e : Below w.heap.size w1 w2) => e.trans ⟨B3.os, B3.tape, B3.output, B3.size, fun k hk => B3.block k (by omega)⟩))
  have SW : St (w.heap.size + 3) w3 ⟨ba, fi, du, nx, li, rs, fa, cl⟩ := ⟨v, N3, Rk.of hr hs hB3 (by omega)⟩
  have CC := hide (hc _ w3 (by omega) hB3 SW)
  -- the blocks of the answer stand whatever is done to the state
  have J1 : Hid (∀ q, But (fun k => k = w.heap.size + 3) w3 q → q.heap[w.heap.size + 1]? = some (.cells zc 26 (0, 0)) ∧ q.heap[w.heap.size + 2]? = some (.cells #[.bool false] 4 (0, 0)) ∧ Below w.heap.size w q) := hide (fun q hq => by
    have e1 := K1
    have e2 := K2
    exact ⟨(hq.block _ (heap_lt e1) (by omega)).trans e1, (hq.block _ (heap_lt e2) (by omega)).trans e2, hB3.trans (hq.below hB3.size (fun k hk => by omega))⟩)
  have SIZ : Hid (w.heap.size + 3 < w3.heap.size) := hide SW.lt
  have t0 := eight L0
  obtain ⟨t0, t1, t2, t3, t4, t5, t6, t7⟩ := t0
  have hw1' : Hid (((w.alloc (.cells #[.int .i64 ba, .int .i64 fi, .int .i64 du, .int .i64 nx, .int .i64 li, v, .bool fa, .bool cl] 26)).alloc (.cells zc 26)).alloc (.cells #[.bool false] 4) = w2) := hide (by rw [hw0.out, hw1.out, hw2.out])
  unfold zc at hw1'
  obtain ⟨so, sc, ev, -⟩ := hr
  subst ev
  generalize vs.length = L at *
  clear B0 N0 B1 N1 B2 N2 B3 N3 K0 K1 K2 L0 hB3 SW hs hc hw0 hw1 hw2 hz0 hz1 hz3
  obtain ⟨p0, hp0⟩ : ∃ p, Hid (w.heap.size = p) := ⟨_, rfl⟩
  cases R with
  | none =>
    go_enter_defers Try.func19, Try.ntmps19
    go_upto_region 1 with fail
    rw [hw1'.out]
    go_upto_region 3 with fail
    rw [hw3.out]
    clear t0 t1 t2 t3 t4 t5 t6 t7 hz2 hw3 hw1'
    go_wp2_with (go_at_call 20; refine CC.out.mono ?_; rintro e w4 ⟨g4, rfl⟩)
    obtain ⟨j1, j2, jB⟩ := J1.out w4 g4
    refine leaves_cons (f := 32) (args := #[.pointer (some ⟨w.heap.size + 1, 0, none⟩), .pointer (some ⟨w.heap.size + 1 + 1, 0, none⟩)]) (by simp) (by simp [go_sem]) ?_
    refine (catch_refusal w4 j1 j2 (by omega)).mono ?_
    rintro e u' w5 ⟨rfl, rfl, g5, k1, k2⟩
    unfold zc at k1
    obtain ⟨a0, a1, a2, a3, a4, a5, a6, a7⟩ := eight k1
    have b0 : w5.cell? ⟨w.heap.size + 2, 0, none⟩ = some (.bool false) := by rw [cell_of k2]; rfl
    have FIN : Hid (Ans w none (.returned (.tuple #[.agg (cellsOf zeroS (.slice none 0 0)), .bool false])) w5) := hide ⟨jB.trans (g5.below jB.size (fun k hk => by omega)), _, rfl, Own.nil _ _⟩
    unfold cellsOf zeroS at FIN
    simp [Leaves, settle, results, Try.results19, go_sem, a0, a1, a2, a3, a4, a5, a6, a7, b0]
    exact FIN.out
  | some m' =>
    obtain ⟨mb, mf, md, mn, ml, mr, ma, mc⟩ := m'
    obtain ⟨fit1, fit2⟩ := hfit _ rfl
    have fit1 := hide fit1
    have fit2 := hide fit2
    clear hfit
    go_enter_defers Try.func19, Try.ntmps19
    go_upto_region 1 with fail
    rw [hw1'.out]
    go_upto_region 3 with fail
    rw [hw3.out]
    clear t0 t1 t2 t3 t4 t5 t6 t7 hz2 hw3 hw1'
    go_upto_region 5 with (first
      | (go_at_call 20; refine CC.out.mono ?_; rintro e w4 ⟨g4, rfl, s4⟩; obtain ⟨v4, h4, vs4, rk4⟩ := s4; obtain ⟨r4, s4⟩ := rk4 w4 (But.refl _ _); obtain ⟨j1, j2, jB⟩ := J1.out w4 g4; have CO := hide (copied_any w4 v4 vs4 mr r4 s4 fit1.out fit2.out); obtain ⟨so4, sc4, ev4, -⟩ := r4; subst ev4; clear s4 rk4 CC; obtain ⟨a0, a1, a2, a3, a4, a5, a6, a7⟩ := eight h4; generalize hL4 : vs4.length = L4 at *; clear hL4; replace j1 := hide j1; replace j2 := hide j2; replace jB := hide jB; replace h4 := hide h4)
      | (go_at_call 33; refine CO.out.mono ?_; rintro e w5 ⟨rv, rfl, O5, B5⟩; have i4 := (B5.block _ (heap_lt h4.out)).trans h4.out; obtain ⟨e0, e1, e2, e3, e4, e5, e6, e7⟩ := eight i4; have z5 := frz_of (off := 5) i4; obtain ⟨ro, rc, er⟩ := O5.form; generalize mr.length = LR at er; subst er; replace O5 := hide O5; replace B5 := hide B5; replace i4 := hide i4; clear a0 a1 a2 a3 a4 a5 a6 a7 CO))
    have i1 := (B5.out.block _ (heap_lt j1.out)).trans j1.out
    have i2 := (B5.out.block _ (heap_lt j2.out)).trans j2.out
    obtain ⟨W8, hW8, k1, k2, B8, q1, q2⟩ := done8 i1 i2 i4.out (by omega) (by omega) (by omega) (.slice ro LR rc)
    have FIN : Hid (Ans w (some ⟨mb, mf, md, mn, ml, mr, ma, mc⟩) (.returned (.tuple #[.agg (cellsOf ⟨mb, mf, md, mn, ml, mr, ma, mc⟩ (.slice ro LR rc)), .bool true])) W8) := hide (by
      have jl1 := heap_lt j1.out
      have jl2 := heap_lt j2.out
      have jl4 := heap_lt h4.out
      have hS := jB.out.size
      have Bw : Below w.heap.size w w5 := jB.out.trans ⟨B5.out.os, B5.out.tape, B5.out.output, B5.out.size, fun k hk => B5.out.block k (by omega)⟩
      exact ⟨Bw.trans (B8.below Bw.size (fun k hk => by omega)), _, rfl, (O5.out.but B8 (fun k hk => by omega)).low hS⟩)
    unfold cellsOf at FIN
    have i46 := heap_setCell_same w5 (w.heap.size + 3) 5 _ _ (.slice ro LR rc) i4.out
    obtain ⟨w6, hw6⟩ : ∃ w6, Hid (w5.setCell ⟨w.heap.size + 3, 5, none⟩ (.slice ro LR rc) = w6) := ⟨_, rfl⟩
    rw [hw6.out] at hW8 q1 q2 i46
    rw [hw6.out]
    have q22 : w6.heap[w.heap.size + 2]? = some (.cells #[.bool false] 4 (0, 0)) := by
      rw [← hw6.out, (but_set w5 (w.heap.size + 3) 5 (.slice ro LR rc)).block _ (heap_lt i2) (by omega)]; exact i2
    clear e0 e1 e2 e3 e4 e5 e6 e7 z5 i1 i2 B8 J1 SIZ j1 j2 jB h4 g4 O5 B5 i4 q2
    unfold put8 at hW8
    unfold zc at q1
    obtain ⟨x0, x1, x2, x3, x4, x5, x6, x7⟩ := eight (show w6.heap[w.heap.size + 3]? = some (.cells #[.int .i64 mb, .int .i64 mf, .int .i64 md, .int .i64 mn, .int .i64 ml, .slice ro LR rc, .bool ma, .bool mc] 58 (0, 0)) from i46)
    obtain ⟨y0, y1, y2, y3, y4, y5, y6, y7⟩ := eight q1
    have y8 := cell_of (off := 0) q22
    simp only [List.getElem?_toArray, List.getElem?_cons_zero] at y8
    have z0 := frz_of (off := 0) q1
    have z1 := frz_of (off := 1) q1
    have z2 := frz_of (off := 2) q1
    have z3 := frz_of (off := 3) q1
    have z4 := frz_of (off := 4) q1
    have z5 := frz_of (off := 5) q1
    have z6 := frz_of (off := 6) q1
    have z7 := frz_of (off := 7) q1
    have z8 := frz_of (off := 0) q22
    have hk1 := hide k1
    have hk2 := hide k2
    clear i46 q1 q22 k1 k2
    go_wp2_with fail
    rw [hW8.out]
    obtain ⟨m0, m1, m2, m3, m4, m5, m6, m7⟩ := eight hk1.out
    have m8 := cell_of (off := 0) hk2.out
    simp only [List.getElem?_toArray, List.getElem?_cons_zero] at m8
    clear x0 x1 x2 x3 x4 x5 x6 x7 y0 y1 y2 y3 y4 y5 y6 y7 y8 z0 z1 z2 z3 z4 z5 z6 z7 z8 hW8 hw6
    refine leaves_cons (f := 32) (args := #[.pointer (some ⟨w.heap.size + 1, 0, none⟩), .pointer (some ⟨w.heap.size + 1 + 1, 0, none⟩)]) (by simp) (by simp [go_sem]) ?_
    refine (catch_idle ⟨w.heap.size + 1, 0, none⟩ ⟨w.heap.size + 1 + 1, 0, none⟩ _).mono ?_
    rintro e u' w'' ⟨rfl, rfl, rfl⟩
    simp [Leaves, settle, results, Try.results19, go_sem, m0, m1, m2, m3, m4, m5, m6, m7, m8]
    exact FIN.out
end Go.Proofs.Ytmehlgebbbkdiaa.Um

/-
  What a change leaves of the records; what is always so of a state, by data.
-/
namespace Go.Proofs.Ytmehlgebbbkdiaa.Um
set_option linter.unusedVariables false
set_option linter.unusedSimpArgs false
/-- What is always so of a state that comes of New(base). -/
structure Inv (b : Int) (m : Md) : Prop where
  b1 : 1 ≤ b
  ba : m.ba = b
  bf : b ≤ m.fi
  fd : m.fi ≤ m.du
  dn : m.du ≤ m.nx
  dl : m.du ≤ m.li
  nt : m.nx ≤ 9223372036854775807
  lt : m.li ≤ 9223372036854775807
  len : (m.rs.length : Int) = m.nx - b
  dl4 : ∀ d ∈ m.rs, d.length ≤ 4096
/-- How a state may go on. -/
structure Fwd (m m' : Md) : Prop where
  fi : m.fi ≤ m'.fi
  du : m.du ≤ m'.du
  nx : m.nx ≤ m'.nx
  li : m'.li ≤ m.li
  fa : m.fa = true → m'.fa = true
  cl : m.cl = true → m'.cl = true
  rs : m'.rs.length ≤ m.rs.length + 1
theorem Fwd.refl (m : Md) : Fwd m m := ⟨Int.le_refl _, Int.le_refl _, Int.le_refl _, Int.le_refl _, id, id, Nat.le_succ _⟩
/-- Both: what is always so stays, and nothing goes back. -/
def Ok (b : Int) (m m' : Md) : Prop := Inv b m' ∧ Fwd m m'
theorem Inv.ok {b : Int} {m : Md} (h : Inv b m) : Ok b m m := ⟨h, Fwd.refl m⟩
theorem Inv.fail {b : Int} {m : Md} (h : Inv b m) : Ok b m { m with fa := true } :=
  ⟨⟨h.b1, h.ba, h.bf, h.fd, h.dn, h.dl, h.nt, h.lt, h.len, h.dl4⟩, ⟨Int.le_refl _, Int.le_refl _, Int.le_refl _, Int.le_refl _, fun _ => rfl, id, Nat.le_succ _⟩⟩
theorem Inv.close {b : Int} {m : Md} (h : Inv b m) : Ok b m { m with cl := true } :=
  ⟨⟨h.b1, h.ba, h.bf, h.fd, h.dn, h.dl, h.nt, h.lt, h.len, h.dl4⟩, ⟨Int.le_refl _, Int.le_refl _, Int.le_refl _, Int.le_refl _, id, fun _ => rfl, Nat.le_succ _⟩⟩
theorem Ok.failed {b : Int} {m m' : Md} (h : Ok b m m') : Ok b m { m' with fa := true } :=
  ⟨h.1.fail.1, ⟨h.2.fi, h.2.du, h.2.nx, h.2.li, fun _ => rfl, h.2.cl, h.2.rs⟩⟩
theorem Ok.closed {b : Int} {m m' : Md} (h : Ok b m m') : Ok b m { m' with cl := true } :=
  ⟨h.1.close.1, ⟨h.2.fi, h.2.du, h.2.nx, h.2.li, h.2.fa, fun _ => rfl, h.2.rs⟩⟩
theorem raise_ok {b : Int} {m m' : Md} {n : Int} (h : Inv b m) (hn : n ≤ m.nx) (e : raiseS m n = some m') : Ok b m m' ∧ n ≤ m'.du ∧ m'.nx = m.nx ∧ m'.fi = m.fi := by
  unfold raiseS at e
  split at e
  · split at e
    · rename_i h1 h2
      cases e
      have a1 := h.fd
      refine ⟨⟨⟨h.b1, h.ba, h.bf, ?_, ?_, ?_, h.nt, h.lt, h.len, h.dl4⟩, ⟨Int.le_refl _, ?_, Int.le_refl _, Int.le_refl _, id, id, Nat.le_succ _⟩⟩, ?_, rfl, rfl⟩ <;> simp only <;> omega
    · cases e
  · rename_i h1
    cases e
    exact ⟨h.ok, by omega, rfl, rfl⟩
theorem cut_ok {b : Int} {m m' : Md} {n : Int} (h : Inv b m) (e : cutS m n = some m') : Ok b m m' := by
  unfold cutS at e
  split at e
  · rename_i hc
    have hn : n ≤ m.nx := by have := h.fd; have := h.dn; omega
    rw [Option.map_eq_some_iff] at e
    obtain ⟨m1, e1, rfl⟩ := e
    obtain ⟨⟨h1, h2⟩, h3, h4, h5⟩ := raise_ok h hn e1
    have a := h1.fd
    have a2 := h1.bf
    refine ⟨⟨h1.b1, h1.ba, ?_, ?_, h1.dn, h1.dl, h1.nt, h1.lt, h1.len, h1.dl4⟩, ⟨?_, h2.du, h2.nx, h2.li, h2.fa, h2.cl, h2.rs⟩⟩ <;> simp only <;> omega
  · cases e
theorem reserve_ok {b : Int} {m m' : Md} {d : List UInt8} {n : Int} (h : Inv b m) (e : reserveS m d n = some m') : Ok b m m' ∧ n = m.nx ∧ m'.li = m.li ∧ m'.du = m.du := by
  unfold reserveS at e
  split at e
  · rename_i hB
    unfold resB at hB
    simp only [decide_eq_true_eq] at hB
    obtain ⟨h1, h2, h3, h4⟩ := hB
    cases e
    have a1 := h.dn
    have a2 := h.len
    refine ⟨⟨⟨h.b1, h.ba, h.bf, h.fd, ?_, h.dl, ?_, h.lt, ?_, ?_⟩, ⟨Int.le_refl _, Int.le_refl _, ?_, Int.le_refl _, id, id, by simp⟩⟩, h3, rfl, rfl⟩
    · simp only; omega
    · simp only; omega
    · simp only [List.length_append, List.length_singleton]; omega
    · intro x hx
      simp only [List.mem_append, List.mem_singleton] at hx
      rcases hx with hx | rfl
      · exact h.dl4 x hx
      · exact h2
    · simp only; omega
  · cases e
theorem append_ok {b : Int} {m m' : Md} {c : Cl} {r : Rs} (h : Inv b m) (e : appendS m c r = some m') : Ok b m m' := by
  unfold appendS at e
  split at e
  · split at e
    · split at e
      · exact (reserve_ok h e).1
      · cases e
    · split at e
      · rw [Option.bind_eq_some_iff] at e
        obtain ⟨m1, e1, e2⟩ := e
        obtain ⟨⟨i1, f1⟩, k1, k2, k3⟩ := reserve_ok h e1
        unfold loseS at e2
        split at e2
        · rename_i hd
          cases e2
          have a1 := i1.dl
          have a2 := i1.lt
          have a3 := f1.li
          refine ⟨⟨i1.b1, i1.ba, i1.bf, i1.fd, i1.dn, ?_, i1.nt, ?_, i1.len, i1.dl4⟩, ⟨f1.fi, f1.du, f1.nx, ?_, f1.fa, f1.cl, f1.rs⟩⟩ <;> simp only <;> omega
        · cases e2
      · split at e
        · unfold refuseS at e
          split at e
          · cases e; exact h.fail
          · split at e
            · split at e <;> cases e; exact h.ok
            · split at e
              · split at e <;> cases e; exact h.ok
              · cases e
        · cases e
  · cases e
theorem sync_ok {b : Int} {m m' : Md} {r : Rs} (h : Inv b m) (e : syncS m r = some m') : Ok b m m' := by
  unfold syncS at e
  split at e
  · split at e
    · split at e <;> cases e; exact h.ok
    · split at e <;> cases e; exact h.fail
  · cases e
theorem read_ok' {b : Int} {m m' : Md} {c : Cl} {r : Rs} (h : Inv b m) (e : readS m c r = some m') : Ok b m m' := by
  unfold readS at e
  split at e
  · split at e
    · rename_i hh
      have h2 := hh.2.1
      unfold reservedB at h2
      simp at h2
      exact (raise_ok h (by omega) e).1
    · cases e
  · split at e
    · split at e
      · split at e <;> cases e; exact h.ok
      · split at e
        · split at e <;> cases e; exact h.ok
        · split at e
          · split at e <;> cases e; exact h.ok
          · split at e
            · split at e <;> cases e; exact h.fail
            · cases e
    · cases e
theorem trunc_ok {b : Int} {m m' : Md} {n : Int} {r : Rs} (h : Inv b m) (e : truncS m n r = some m') : Ok b m m' := by
  unfold truncS at e
  split at e
  · split at e
    · split at e
      · rw [Option.map_eq_some_iff] at e
        obtain ⟨m1, e1, rfl⟩ := e
        exact (cut_ok h e1).failed
      · cases e
    · split at e
      · split at e
        · cases e; exact h.fail
        · split at e
          · split at e
            · exact cut_ok h e
            · split at e
              · split at e <;> cases e; exact h.ok
              · split at e <;> cases e; exact h.ok
          · cases e
      · cases e
  · cases e
theorem answer_ok {b : Int} {m m' : Md} {c : Cl} {r : Rs} (h : Inv b m) (e : answerS m c r = some m') : Ok b m m' := by
  unfold answerS at e
  split at e
  · split at e
    · split at e <;> cases e; exact h.ok
    · split at e
      · split at e
        · exact append_ok h e
        · split at e
          · exact sync_ok h e
          · split at e
            · exact read_ok' h e
            · split at e
              · exact trunc_ok h e
              · split at e
                · unfold closeS at e
                  rw [Option.map_eq_some_iff] at e
                  obtain ⟨m1, e1, rfl⟩ := e
                  exact (sync_ok h e1).closed
                · cases e; exact h.ok
      · cases e
  · cases e
theorem take_ok {b : Int} {m m' : Md} {c : Cl} (h : Inv b m) (e : takeS m c = some m') : Ok b m m' := by
  unfold takeS at e
  split at e
  · split at e
    · exact answer_ok h e
    · split at e
      · exact answer_ok h e
      · split at e
        · split at e <;> cases e; exact h.close
        · cases e
  · cases e
theorem new_inv {b : Int} (h1 : 1 ≤ b) (h2 : b ≤ 9223372036854775807) : Inv b (newS b) :=
  ⟨h1, rfl, Int.le_refl _, Int.le_refl _, Int.le_refl _, h2, h2, Int.le_refl _, by simp [newS], fun d hd => by simp [newS] at hd⟩
end Go.Proofs.Ytmehlgebbbkdiaa.Um

