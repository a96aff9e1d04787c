/-
  The document's disk: refused, dir.
-/
import Derived.Test.YtjehpijjneghpaaGreatM20
import Derived.Deep.AppendLies
import Derived.Deep.RegionLaw
import Derived.BigRegion
import Derived.Test.YtjehpijjneghpaaGreatM01
namespace Go.Proofs.YtjehpijjneghpaaGreat.Re
open Go.RowKit Go.Maps Go.Sort Go.Shelf Go.Proofs.YtjehpijjneghpaaGreat.Nm Go.Proofs.YtjehpijjneghpaaGreat.Dk
set_option linter.unusedVariables false
def refN (down : Bool) (L : Dr) (s : ByteArray) (there : Bool) : Int := if down then 22 else if may s.data.toList then (if there && (Dk.get L s.data.toList).isNone then 6 else 0) else 24
theorem findN_neg (L : Dr) (n : List UInt8) : findN L n < 0 ↔ (Dk.get L n).isNone = true := by
  unfold findN
  cases Dk.get L n with
  | none => simp
  | some p => simp
set_option maxRecDepth 100000 in
set_option maxHeartbeats 1000000 in
theorem refused_ref (w : World) (b : Nat) (vD : Value) (L : Dr) (down there : Bool) (s : ByteArray) (hD : w.cell? ⟨b, 2, none⟩ = some vD) (hw : w.cell? ⟨b, 16, none⟩ = some (.bool down)) (hv : Tr w vD L) (hs : s.size ≤ maxLen) :
    Calls Tryz.prog 95 #[.pointer (some ⟨b, 0, none⟩), .string s, .bool there] w fun e w' => e = .returned (.int .i64 (refN down L s there)) ∧ w' = w := by
  have hM := refMay_any s w hs
  have hF := find_ref w vD L s hv
  have hN := findN_neg L s.data.toList
  unfold refN
  cases down with
  | true =>
    go_enter Tryz.func95, Tryz.ntmps95
    go_wp2_with fail
    go_ret
    exact ⟨rfl, rfl⟩
  | false =>
    cases hm : may s.data.toList with
    | false =>
      rw [hm] at hM
      go_enter Tryz.func95, Tryz.ntmps95
      go_wp2_with (go_at_call 116; refine hM.mono ?_; rintro e w1 ⟨rfl, e1⟩; subst w1)
      go_ret
      exact ⟨rfl, rfl⟩
    | true =>
      rw [hm] at hM
      cases there with
      | false =>
        clear hN hF
        go_enter Tryz.func95, Tryz.ntmps95
        go_wp2_with (go_at_call 116; refine hM.mono ?_; rintro e w1 ⟨rfl, e1⟩; subst w1)
        go_ret
        exact ⟨rfl, rfl⟩
      | true =>
        cases hg : (Dk.get L s.data.toList).isNone with
        | true =>
          have h1 : findN L s.data.toList < 0 := hN.2 hg
          clear hN
          generalize findN L s.data.toList = n at *
          go_enter Tryz.func95, Tryz.ntmps95
          go_wp2_with (first
            | (go_at_call 116; refine hM.mono ?_; rintro e w1 ⟨rfl, e1⟩; subst w1)
            | (go_at_call 96; refine hF.mono ?_; rintro e w1 ⟨rfl, e1⟩; subst w1))
          go_ret
          exact ⟨rfl, rfl⟩
        | false =>
          have h1 : ¬ findN L s.data.toList < 0 := fun c => by have := hN.1 c; rw [hg] at this; cases this
          clear hN
          generalize findN L s.data.toList = n at *
          go_enter Tryz.func95, Tryz.ntmps95
          go_wp2_with (first
            | (go_at_call 116; refine hM.mono ?_; rintro e w1 ⟨rfl, e1⟩; subst w1)
            | (go_at_call 96; refine hF.mono ?_; rintro e w1 ⟨rfl, e1⟩; subst w1))
          go_ret
          exact ⟨rfl, rfl⟩
def Pr (w : World) (v : Value) (P : List RC) : Prop := ∃ ao ca, v = .slice ao P.length ca ∧ P.length ≤ ca ∧ ca ≤ 9223372036854775807 ∧ ∀ i (h : i < P.length), ∃ b off, ao = some ⟨b, off, none⟩ ∧ w.cell? ⟨b, off + i * 3, none⟩ = some (.string P[i].tn) ∧ w.cell? ⟨b, off + i * 3 + 1, none⟩ = some (.int .i64 P[i].fi) ∧ w.cell? ⟨b, off + i * 3 + 2, none⟩ = some (.string P[i].fr)
def runR (L : Dr) (P : List RC) : Dr := P.foldl (fun l c => c.run l) L
theorem runR_snoc (L : Dr) (P : List RC) (c : RC) : runR L (P ++ [c]) = c.run (runR L P) := by simp [runR]
theorem runR_len (L : Dr) (P : List RC) : (runR L P).length ≤ L.length + P.length := by
  induction P generalizing L with
  | nil => simp [runR]
  | cons c r ih => have := ih (c.run L); have := c.run_len L; simp only [runR, List.foldl_cons, List.length_cons] at *; omega
set_option maxRecDepth 100000 in
set_option maxHeartbeats 2000000 in
theorem dir_ref (w : World) (b : Nat) (vO vP : Value) (L : Dr) (P : List RC) (n : Int) (hO : w.cell? ⟨b, 3, none⟩ = some vO) (hP : w.cell? ⟨b, 4, none⟩ = some vP) (hv : Er w vO L) (hp : Pr w vP P) (hl : ((L.length + P.length : Nat) : Int) ≤ 1000000000) (hf : ∀ c ∈ P, -9223372036854775808 ≤ c.fi ∧ c.fi ≤ 9223372036854775807) :
    Calls Tryz.prog 89 #[.pointer (some ⟨b, 0, none⟩), .int .i64 n] w fun e w' => ∃ v', e = .returned v' ∧ En w.heap.size w' v' (runR L (P.take n.toNat)) ∧ Below w.heap.size w w' := by
  obtain ⟨v1, w1, r1, Q1, G1⟩ := run_appE (En.nil w.heap.size w) hv (by simp; omega) (Nat.le_refl _) 100
  rw [List.nil_append] at Q1
  have X1 : Hid (Below w.heap.size w w1) := (Below.refl _ _).grown G1 (Nat.le_refl _) (fun k hk => by simp [Value.ownBlock] at hk)
  replace Q1 := hide Q1
  have hpl : Hid ((P.length : Int) ≤ 1000000000 ∧ (L.length : Int) ≤ 1000000000) := ⟨by omega, by omega⟩
  have hvo : ∃ oa on oc, vO = .slice oa on oc := by obtain ⟨⟨ao, ca, rfl, _⟩, _⟩ := hv; exact ⟨_, _, _, rfl⟩
  obtain ⟨oa, on, oc, rfl⟩ := hvo
  obtain ⟨ao, ca, rfl, q1, q2, q3⟩ := hp
  obtain ⟨N, hN⟩ : ∃ N, Hid (P.length = N) := ⟨_, rfl⟩
  rw [hN.out] at q1 hP hpl hl
  replace q3 := hide q3
  replace hf := hide hf
  replace hl := hide hl
  replace r1 := hide r1
  clear G1
  have KB : Hid (∀ q, Below w.heap.size w q → q.cell? ⟨b, 4, none⟩ = some (.slice ao N ca)) := fun q hq => by rw [hq.cell (lt_of_cell hP)]; exact hP
  go_enter Tryz.func89, Tryz.ntmps89
  go_wp2_with (at_builtin; refine Lib.wpList_append_run _ rfl (.const (.slice none 0 0)) (.tmp 10) 100 100 rfl _ _ rfl rfl _ _ r1.out ?_)
  clear r1
  go_loopw [5, 6] (fun v5 i wr => ∃ k : Nat, i = .int .i64 k ∧ k ≤ N ∧ Hid (k ≤ n.toNat) ∧ Hid (En w.heap.size wr v5 (runR L (P.take k))) ∧ Hid (Below w.heap.size w wr)) (fun _ i _ => N - (intOf i).toNat)
  case atStart => exact ⟨0, rfl, Nat.zero_le _, Nat.zero_le _, Q1.out, X1⟩
  case round =>
    obtain ⟨k, rfl, hk, hkn, hE, hW⟩ := hrel
    have m4 := KB.out wr hW.out
    by_cases hgo : k < N ∧ (k : Int) < n
    · obtain ⟨hlt, i2⟩ := hgo
      have i1 : (k : Int) < (N : Int) := by omega
      have hkl : k < P.length := by rw [hN.out]; exact hlt
      obtain ⟨gb, off, rfl, y0, y1, y2⟩ := q3.out k hkl
      rw [← hW.out.cell (p := ⟨gb, off + k * 3, none⟩) (lt_of_cell y0)] at y0
      rw [← hW.out.cell (p := ⟨gb, off + k * 3 + 1, none⟩) (lt_of_cell y1)] at y1
      rw [← hW.out.cell (p := ⟨gb, off + k * 3 + 2, none⟩) (lt_of_cell y2)] at y2
      have hsn : Hid (runR L (P.take (k + 1)) = (P[k]).run (runR L (P.take k))) := by show _ = _; rw [List.take_succ_eq_append_getElem hkl, runR_snoc]
      have hfk := hf.out _ (List.getElem_mem hkl)
      have hll : ((runR L (P.take k)).length : Int) ≤ 1000000000 := by have := runR_len L (P.take k); rw [List.length_take] at this; have := hl.out; omega
      have hC := changed_ref wr u5 _ P[k] hE.out.er hll hfk.1 hfk.2
      rw [← hsn.out] at hC
      unfold RC.v at hC
      generalize P[k].tn = c0 at *
      generalize P[k].fi = c1 at *
      generalize P[k].fr = c2 at *
      have hkn2 : Hid (k + 1 ≤ n.toNat) := by show _ ≤ _; omega
      clear hll hfk
      go_wp2_with (go_at_call 114; refine hC.mono ?_; rintro e w2 ⟨v2, rfl, A2, b2⟩; replace A2 := hide A2; replace b2 := hide b2)
      have E2 : Hid (En w.heap.size w2 v2 (runR L (P.take (k + 1)))) := by
        rcases A2.out with h | ⟨rfl, e⟩
        · exact owns_lower2 h hW.out.size
        · show En _ _ _ _
          rw [e]
          exact hE.out.below b2.out
      have W2 : Hid (Below w.heap.size w w2) := hW.out.trans (b2.out.mono hW.out.size)
      go_roundw
      case rel => exact ⟨k + 1, by go_num, by omega, hkn2, E2, W2⟩
      case measure => simp [intOf]; omega
    · have hfin : Hid (P.take n.toNat = P.take k) := by
        show _ = _
        by_cases h1 : k < N
        · have : n.toNat = k := by have := hkn.out; omega
          rw [this]
        · rw [List.take_of_length_le (by rw [hN.out]; have := hkn.out; omega), List.take_of_length_le (by rw [hN.out]; omega)]
      have hend : ¬ ((k : Int) < n) ∨ ((k : Int) < n ∧ ¬ ((k : Int) < (N : Int))) := by omega
      rcases hend with i2 | ⟨i2, i1⟩
      · go_wp2_with fail
        go_ret
        exact ⟨_, rfl, by rw [hfin.out]; exact hE.out, hW.out⟩
      · go_wp2_with fail
        go_ret
        exact ⟨_, rfl, by rw [hfin.out]; exact hE.out, hW.out⟩
theorem svd_zero (f : Fl) : svd f 0 = [] := by unfold svd; simp
theorem svd_spoilt {f : Fl} {k : Nat} (h : k < f.sp) : svd f (k + 1) = svd f k ++ [0] := by
  have e : ∀ m, m ≤ f.sp → svd f m = List.replicate m 0 := fun m hm => by
    unfold svd
    rw [Nat.min_eq_right hm, List.drop_of_length_le (by rw [List.length_take]; omega), List.append_nil]
  rw [e (k + 1) (by omega), e k (by omega), List.replicate_succ']
theorem svd_kept {f : Fl} {k : Nat} (h : ¬ k < f.sp) (hl : f.la.length + k < f.by_.length) : svd f (k + 1) = svd f k ++ [f.by_[f.la.length + k]] := by
  unfold svd
  have hk : k < (f.by_.drop f.la.length).length := by rw [List.length_drop]; omega
  rw [Nat.min_eq_left (by omega), Nat.min_eq_left (by omega), List.take_succ_eq_append_getElem hk, List.drop_append_of_le_length (by rw [List.length_take]; omega), List.append_assoc, List.getElem_drop]
set_option maxRecDepth 100000 in
set_option maxHeartbeats 600000 in
theorem lasting_ref (w : World) (g o : Nat) (vN vL : Value) (f : Fl) (sa : Int) (n : Nat) (c0 : w.cell? ⟨g, o, none⟩ = some vN) (c1 : w.cell? ⟨g, o + 1, none⟩ = some vL) (c2 : w.cell? ⟨g, o + 2, none⟩ = some (.int .i64 sa)) (hN : Sl w vN f.by_) (hL : Sl w vL f.la)
    (hn : f.la.length + n ≤ f.by_.length) (hs : ∀ k : Nat, ((f.la.length + k : Nat) : Int) < sa ↔ k < f.sp) (hz : (f.by_.length : Int) ≤ 100000000) :
    Calls Tryz.prog 90 #[.pointer (some ⟨g, o, none⟩), .int .i64 (n : Int)] w fun e w' => ∃ v', e = .returned v' ∧ Ob w.heap.size w' v' (f.la ++ svd f n) ∧ Below w.heap.size w w' := by
  obtain ⟨v1, w1, r1, Q1, G1, _⟩ := run_app (Ob.nil w.heap.size w) hL (by simp; omega) (Nat.le_refl _) 30
  have X1 : Hid (Below w.heap.size w w1) := (Below.refl _ _).grown G1 (Nat.le_refl _) (fun k hk => by simp [Value.ownBlock] at hk)
  rw [List.nil_append] at Q1
  replace Q1 := hide Q1
  replace r1 := hide r1
  clear G1
  have HN := hide hN
  obtain ⟨an, cn, rfl, zn1, n3, n4, zn2⟩ := hN
  obtain ⟨al, cl, rfl, zl1, l3, l4, zl2⟩ := hL
  have n4' : (cn : Int) ≤ 9223372036854775807 := by unfold maxLen at n4; omega
  have l4' : (cl : Int) ≤ 9223372036854775807 := by unfold maxLen at l4; omega
  clear zn1 zl1 zl2 n4 l4
  replace zn2 := hide zn2
  obtain ⟨A, hA⟩ : ∃ A, Hid (f.la.length = A) := ⟨_, rfl⟩
  obtain ⟨M, hM⟩ : ∃ M, Hid (f.by_.length = M) := ⟨_, rfl⟩
  have hs2 := hide hs
  rw [hA.out] at c1 l3 hn hs2 r1
  rw [hM.out] at c0 n3 hn hz
  replace hz := hide hz
  have KB : Hid (∀ q, Below w.heap.size w q → q.cell? ⟨g, o, none⟩ = some (.slice an M cn) ∧ q.cell? ⟨g, o + 1, none⟩ = some (.slice al A cl) ∧ q.cell? ⟨g, o + 2, none⟩ = some (.int .i64 sa)) := fun q hq => ⟨by rw [hq.cell (lt_of_cell c0)]; exact c0, by rw [hq.cell (lt_of_cell c1)]; exact c1, by rw [hq.cell (lt_of_cell c2)]; exact c2⟩
  obtain ⟨d0, d1, d2⟩ := KB.out w1 X1.out
  have hn2 : (A : Int) + (n : Int) ≤ (M : Int) := by omega
  have hz2 : (M : Int) ≤ 9223372036854775807 := by have := hz.out; omega
  obtain ⟨i0, hi, hz0, hz1, hz3⟩ := info_parts infoB
  replace hi := hide hi
  clear hs hn
  go_enter Tryz.func90, Tryz.ntmps90
  go_wp2_with (at_builtin; refine Lib.wpList_append_run _ rfl (.const (.slice none 0 0)) (.tmp 10) 30 30 rfl _ _ rfl rfl _ _ r1.out ?_)
  clear r1
  go_loopw [5, 6] (fun v5 i wr => ∃ k : Nat, i = .int .i64 ((A : Int) + (k : Int)) ∧ k ≤ n ∧ Hid (Ob w.heap.size wr v5 (f.la ++ svd f k)) ∧ Hid (Below w.heap.size w wr)) (fun _ i _ => (A + n) - (intOf i).toNat)
  case atStart => exact ⟨0, by simp, Nat.zero_le _, by rw [svd_zero, List.append_nil]; exact Q1, X1⟩
  case round =>
    obtain ⟨k, rfl, hk, hE, hW⟩ := hrel
    clear d0 d1 d2
    obtain ⟨d0, d1, d2⟩ := KB.out wr hW.out
    by_cases hlt : k < n
    · have i1 : (A : Int) + (k : Int) < (A : Int) + (n : Int) := by omega
      have i3 : (A : Int) + (k : Int) < (M : Int) := by omega
      by_cases hsp : k < f.sp
      · have i2 : (A : Int) + (k : Int) < sa := by have := (hs2.out k).2 hsp; omega
        have hsn := hide (svd_spoilt hsp)
        have B5 := hide (hW.out.trans ((box_below wr (.cells #[.int .u8 0] 5)).mono hW.out.size))
        have S5 : Sl (wr.alloc (.cells #[.int .u8 0] 5)) (.slice (some ⟨wr.heap.size, 0, none⟩) 1 1) [0] := sl_lit_mark wr [0] 5 (0, 0) (by decide) _ rfl
        have O5 := hE.out.below (box_below wr (.cells #[.int .u8 0] 5))
        obtain ⟨v6, w6, r6, Q6, G6, _⟩ := run_app O5 S5 (by have := hz.out; have := hA.out; have := hM.out; simp [svd]; omega) B5.out.size 30
        have X6 : Hid (Below w.heap.size w w6) := B5.out.grown G6 B5.out.size (fun k hk => (O5.lt k hk).1)
        replace Q6 := hide Q6
        replace r6 := hide r6
        clear S5 O5 G6
        go_wp2_with (at_builtin; refine Lib.wpList_append_run _ rfl (.tmp 34) (.tmp 35) 30 30 rfl _ _ rfl rfl _ _ r6.out ?_)
        exact ⟨⟨k + 1, by rw [show (A : Int) + (k : Int) + 1 = (A : Int) + ((k + 1 : Nat) : Int) by omega], by omega, by rw [hsn.out, ← List.append_assoc]; exact Q6, X6⟩, by simp [intOf]; omega⟩
      · have i2 : ¬ ((A : Int) + (k : Int) < sa) := by
          intro c
          exact hsp ((hs2.out k).1 (by omega))
        have hfl : f.la.length + k < f.by_.length := by have := hA.out; have := hM.out; omega
        have hsn := hide (svd_kept hsp hfl)
        obtain ⟨gb, off, rfl, hcl⟩ := zn2.out (f.la.length + k) hfl
        rw [← hW.out.cell (p := ⟨gb, off + (f.la.length + k), none⟩) (lt_of_cell hcl)] at hcl
        generalize f.by_[f.la.length + k] = x at *
        rw [hA.out] at hcl
        have hcl2 : wr.cell? ⟨gb, off + (A + k), none⟩ = some (.int .u8 (x.toNat : Int)) := hcl
        obtain ⟨I, hI⟩ : ∃ I, Hid (A + k = I) := ⟨_, rfl⟩
        rw [hI.out] at hcl2
        have j3 : (A : Int) + (k : Int) = (I : Int) := by have := hI.out; omega
        have B5 := hide (hW.out.trans ((box_below wr (.cells #[.int .u8 (x.toNat : Int)] 5)).mono hW.out.size))
        have S5 : Sl (wr.alloc (.cells #[.int .u8 (x.toNat : Int)] 5)) (.slice (some ⟨wr.heap.size, 0, none⟩) 1 1) [x] := sl_lit_mark wr [x] 5 (0, 0) (by simp [maxLen]) _ rfl
        have O5 := hE.out.below (box_below wr (.cells #[.int .u8 (x.toNat : Int)] 5))
        obtain ⟨v6, w6, r6, Q6, G6, _⟩ := run_app O5 S5 (by have := hz.out; have := hA.out; have := hM.out; simp [svd]; omega) B5.out.size 30
        have X6 : Hid (Below w.heap.size w w6) := B5.out.grown G6 B5.out.size (fun k hk => (O5.lt k hk).1)
        replace Q6 := hide Q6
        replace r6 := hide r6
        clear S5 O5 G6 hcl
        rw [j3] at i1 i2 i3 ⊢
        replace j3 := hide j3
        go_wp2_with (at_builtin; refine Lib.wpList_append_run _ rfl (.tmp 37) (.tmp 45) 30 30 rfl _ _ rfl rfl _ _ r6.out ?_)
        refine ⟨⟨k + 1, by rw [show (I : Int) + 1 = (A : Int) + ((k + 1 : Nat) : Int) by have := j3.out; omega], by omega, by rw [hsn.out, ← List.append_assoc]; exact Q6, X6⟩, by have := j3.out; simp [intOf]; omega⟩
    · have i1 : ¬ ((A : Int) + (k : Int) < (A : Int) + (n : Int)) := by omega
      obtain rfl : k = n := by omega
      go_wp2_with fail
      go_ret
      exact ⟨_, rfl, hE.out, hW.out⟩
def MayL (fs : List Ft) (n : Nat) : Prop := ∀ i (hi : i < fs.length), i < n → mayF fs[i] = true ∧ ∀ k (hk : k < i), (fs[k]'(by omega)).1 ≠ fs[i].1
theorem mayF_iff (f : Ft) : mayF f = true ↔ ¬ f.1 < 1 ∧ ¬ f.1 > 4294967296 ∧ ¬ f.2.1 < 1 ∧ ¬ f.2.1 > 4 ∧ ¬ f.2.2 < 0 := by
  unfold mayF
  simp only [Bool.and_eq_true, decide_eq_true_eq]
  omega
structure MayA (w : World) (fs : List Ft) (e : Ending) (w' : World) : Prop where
  ans : ∃ R : Bool, e = .returned (.bool R) ∧ (R = true ↔ fs.length ≤ 64 ∧ MayL fs fs.length)
  below : Below w.heap.size w w'
set_option maxRecDepth 100000 in
set_option maxHeartbeats 2000000 in
theorem may_ref (w : World) (v : Value) (fs : List Ft) (hv : Fts w v fs) :
    Calls Tryz.prog 103 #[v] w fun e w' => MayA w fs e w' := by
  obtain ⟨ao, cap, rfl, q1, q2, q3⟩ := hv
  have q2' : (cap : Int) ≤ 9223372036854775807 := by unfold maxLen at q2; omega
  clear q2
  obtain ⟨N, hN⟩ : ∃ N, Hid (fs.length = N) := ⟨_, rfl⟩
  rw [hN.out] at q1 ⊢
  replace q3 := hide q3
  obtain ⟨G, hG⟩ : ∃ G : Prop, Hid ((N ≤ 64 ∧ MayL fs N) ↔ G) := ⟨_, Iff.rfl⟩
  have post : Hid (∀ (e : Ending) (w' : World) (R : Bool), e = .returned (.bool R) → (R = true ↔ G) → Below w.heap.size w w' → MayA w fs e w') := fun e w' R h1 h2 h3 => ⟨⟨R, h1, by rw [hN.out]; exact h2.trans hG.out.symm⟩, h3⟩
  by_cases hl : (N : Int) > 64
  · have hg : ¬ G := fun c => by have := hG.out.2 c; omega
    go_enter Tryz.func103, Tryz.ntmps103
    go_wp2_with fail
    go_ret
    exact post.out _ _ false rfl ⟨fun c => by (cases c), fun c => absurd c hg⟩ (Below.refl _ _)
  have hl2 : N ≤ 64 := by omega
  go_enter Tryz.func103, Tryz.ntmps103
  go_wp2_with fail
  go_loopw [3] (fun i wr => ∃ k : Nat, i = .int .i64 k ∧ k ≤ N ∧ Hid (MayL fs k) ∧ Hid (Below w.heap.size w wr)) (fun i _ => N - (intOf i).toNat)
  case atStart => exact ⟨0, rfl, Nat.zero_le _, fun i _ c => absurd c (by omega), Below.refl _ _⟩
  case round =>
    obtain ⟨k, rfl, hk, hno, hW⟩ := hrel
    by_cases hlt : k < N
    · have i1 : (k : Int) < (N : Int) := by omega
      have hkl : k < fs.length := by rw [hN.out]; exact hlt
      obtain ⟨gb, off, rfl, y0, y1, y2⟩ := q3.out k hkl
      rw [← hW.out.cell (p := ⟨gb, off + k * 3, none⟩) (lt_of_cell y0)] at y0
      rw [← hW.out.cell (p := ⟨gb, off + k * 3 + 1, none⟩) (lt_of_cell y1)] at y1
      rw [← hW.out.cell (p := ⟨gb, off + k * 3 + 2, none⟩) (lt_of_cell y2)] at y2
      have hmf := hide (mayF_iff fs[k])
      have bad : Hid (mayF fs[k] ≠ true → ¬ G) := fun c g => c ((hG.out.2 g).2 k hkl hlt).1
      have dup : Hid (∀ j (hj : j < k), (fs[j]'(by omega)).1 = fs[k].1 → ¬ G) := fun j hj e g => ((hG.out.2 g).2 k hkl hlt).2 j hj e
      have nxt : Hid (mayF fs[k] = true → (∀ j (hj : j < k), (fs[j]'(by omega)).1 ≠ fs[k].1) → MayL fs (k + 1)) := fun h1 h2 i hi hik => by
        by_cases e : i = k
        · subst e; exact ⟨h1, h2⟩
        · exact hno.out i hi (by omega)
      obtain ⟨F, hF⟩ : ∃ F : Ft, Hid (fs[k] = F) := ⟨fs[k], rfl⟩
      rw [hF.out] at y0 y1 y2 hmf bad
      simp only [hF.out] at dup nxt
      obtain ⟨fa, fk, fp⟩ := F
      dsimp only at y0 y1 y2 hmf dup nxt
      have z0 := heap_alloc_new wr (.cells #[.int .i64 fa, .int .i64 fk, .int .i64 fp] 118)
      have BX := hide (box_below wr (.cells #[.int .i64 fa, .int .i64 fk, .int .i64 fp] 118))
      obtain ⟨X, hX⟩ : ∃ X, Hid (wr.alloc (.cells #[.int .i64 fa, .int .i64 fk, .int .i64 fp] 118) = X) := ⟨_, rfl⟩
      rw [hX.out] at z0 BX
      have WX : Hid (Below w.heap.size w X) := hW.out.trans (BX.out.mono hW.out.size)
      have KX : Hid (∀ q, Below X.heap.size X q → q.cell? ⟨wr.heap.size, 0, none⟩ = some (.int .i64 fa) ∧ q.cell? ⟨wr.heap.size, 1, none⟩ = some (.int .i64 fk) ∧ q.cell? ⟨wr.heap.size, 2, none⟩ = some (.int .i64 fp)) := fun q hq => by
        have z := (hq.block _ (heap_lt z0)).trans z0
        exact ⟨by simp [World.cell?, z], by simp [World.cell?, z], by simp [World.cell?, z]⟩
      obtain ⟨n0, n1, n2⟩ := KX.out X (Below.refl _ _)
      go_upto_region 7 with fail
      rw [hX.out]
      clear y0 y1 y2
      by_cases hm : mayF (fa, fk, fp) = true
      · obtain ⟨a1, a2, a3, a4, a5⟩ := hmf.out.1 hm
        have kN : (k : Int) ≤ 64 := by omega
        obtain ⟨wo, hwo⟩ : ∃ wo, Hid (wr.heap.size = wo) := ⟨_, rfl⟩
        rw [hwo.out] at KX n0 n1 n2 ⊢
        go_wp2_with fail
        go_loopw [5] (fun i wx => ∃ j : Nat, i = .int .i64 j ∧ j ≤ k ∧ Hid (∀ l (hl : l < fs.length), l < j → (fs[l]).1 ≠ fa) ∧ Hid (Below X.heap.size X wx)) (fun i _ => k - (intOf i).toNat)
        case atStart => exact ⟨0, rfl, Nat.zero_le _, fun l _ c => absurd c (by omega), Below.refl _ _⟩
        case round =>
          obtain ⟨j, rfl, hj, hjn, hWx⟩ := hrel
          clear n0 n1 n2
          obtain ⟨n0, n1, n2⟩ := KX.out wr hWx.out
          by_cases hjl : j < k
          · have j1 : (j : Int) < (k : Int) := by omega
            have j2 : (j : Int) < (N : Int) := by omega
            have hjf : j < fs.length := by omega
            obtain ⟨gb', off', e', x0, _, _⟩ := q3.out j hjf
            simp only [Option.some.injEq, Addr.mk.injEq] at e'
            obtain ⟨rfl, rfl, _⟩ := e'
            have hWw := WX.out.trans (hWx.out.mono WX.out.size)
            rw [← hWw.cell (p := ⟨gb, off + j * 3, none⟩) (lt_of_cell x0)] at x0
            by_cases he : fs[j].1 = fa
            · have hg := dup.out j hjl he
              rw [he] at x0
              go_wp2_with fail
              go_quiet (fail)
              go_wp2_with fail
              go_ret
              exact post.out _ _ false rfl ⟨fun c => by (cases c), fun c => absurd c hg⟩ (hWw.trans ((Qt.below ⟨nq, rfl⟩ _).mono hWw.size))
            · have h2 : Hid (∀ l (hl : l < fs.length), l < j + 1 → (fs[l]).1 ≠ fa) := fun l hl c => by
                by_cases e : l = j
                · subst e; exact he
                · exact hjn.out l hl (by omega)
              generalize fs[j].1 = fj at *
              go_wp2_with fail
              go_quiet (fail)
              have B3 : Hid (Below X.heap.size X (wr.drewN nq)) := hWx.out.trans ((Qt.below ⟨nq, rfl⟩ _).mono hWx.out.size)
              generalize wr.drewN nq = wy at *
              go_wp2_with fail
              go_roundw
              case rel => exact ⟨j + 1, by go_num, by omega, h2, B3⟩
              case measure => simp [intOf]; omega
          · have j1 : ¬ ((j : Int) < (k : Int)) := by omega
            obtain rfl : j = k := by omega
            have hnx := hide (nxt.out hm (fun l hl => hjn.out l (by omega) hl))
            have hWw : Hid (Below w.heap.size w wr) := WX.out.trans (hWx.out.mono WX.out.size)
            go_wp2_with fail
            exact ⟨⟨j + 1, by go_num, by omega, hnx, hWw⟩, by simp [intOf]; omega⟩
      · have hg := bad.out hm
        have hbb : fa < 1 ∨ fa > 4294967296 ∨ fk < 1 ∨ fk > 4 ∨ fp < 0 := by
          by_cases c : fa < 1 ∨ fa > 4294967296 ∨ fk < 1 ∨ fk > 4 ∨ fp < 0
          · exact c
          · exact absurd (hmf.out.2 ⟨fun d => c (.inl d), fun d => c (.inr (.inl d)), fun d => c (.inr (.inr (.inl d))), fun d => c (.inr (.inr (.inr (.inl d)))), fun d => c (.inr (.inr (.inr (.inr d))))⟩) hm
        by_cases a1 : fa < 1
        · go_wp2_with fail
          go_ret
          exact post.out _ _ false rfl ⟨fun c => by (cases c), fun c => absurd c hg⟩ WX.out
        by_cases a2 : fa > 4294967296
        · go_wp2_with fail
          go_ret
          exact post.out _ _ false rfl ⟨fun c => by (cases c), fun c => absurd c hg⟩ WX.out
        by_cases a3 : fk < 1
        · go_wp2_with fail
          go_ret
          exact post.out _ _ false rfl ⟨fun c => by (cases c), fun c => absurd c hg⟩ WX.out
        by_cases a4 : fk > 4
        · go_wp2_with fail
          go_ret
          exact post.out _ _ false rfl ⟨fun c => by (cases c), fun c => absurd c hg⟩ WX.out
        have a5 : fp < 0 := by omega
        clear hbb
        go_wp2_with fail
        go_ret
        exact post.out _ _ false rfl ⟨fun c => by (cases c), fun c => absurd c hg⟩ WX.out
    · have i1 : ¬ ((k : Int) < (N : Int)) := by omega
      obtain rfl : k = N := by omega
      have hg : G := hG.out.1 ⟨hl2, hno.out⟩
      go_wp2_with fail
      go_ret
      exact post.out _ _ true rfl ⟨fun _ => hg, fun _ => rfl⟩ hW.out
def pcells (P : List RC) : List Value := (P.map fun c => [Value.string c.tn, .int .i64 c.fi, .string c.fr]).flatten
theorem pcells_at (P : List RC) : ∀ i (h : i < P.length), (pcells P)[i * 3]? = some (.string P[i].tn) ∧ (pcells P)[i * 3 + 1]? = some (.int .i64 P[i].fi) ∧ (pcells P)[i * 3 + 2]? = some (.string P[i].fr) := by
  induction P with
  | nil => intro i h; simp at h
  | cons e r ih =>
    intro i h
    have : pcells (e :: r) = [.string e.tn, .int .i64 e.fi, .string e.fr] ++ pcells r := by simp [pcells]
    rw [this]
    cases i with
    | zero => exact ⟨rfl, rfl, rfl⟩
    | succ i =>
      obtain ⟨a, b, c⟩ := ih i (by simpa using h)
      rw [show (i + 1) * 3 = i * 3 + 1 + 1 + 1 by omega]
      simp only [List.cons_append, List.nil_append, List.getElem?_cons_succ, List.getElem_cons_succ]
      exact ⟨a, b, c⟩
def Pn (B : Nat) (w : World) (v : Value) (P : List RC) : Prop := w.ownsRow B 155 3 v P.length (pcells P)
theorem infoPn : (Tryz.prog.info? 155).map (fun i => (i.zero, i.size, i.bytes)) = some (some (.agg #[.string ⟨#[]⟩, .int .i64 0, .string ⟨#[]⟩]), 3, 40) := by kernel_rfl
theorem Pn.pr {B : Nat} {w : World} {v : Value} {P : List RC} (h : Pn B w v P) : Pr w v P := by
  have h0 := h
  rcases h.2 with ⟨rfl, e⟩ | ⟨g, cap, cur, rfl, _, _, a, b, _⟩
  · have : P = [] := List.length_eq_zero_iff.1 e
    subst this
    exact ⟨none, 0, rfl, Nat.le_refl _, by omega, fun i hi => by simp at hi⟩
  · refine ⟨_, _, rfl, a, by unfold maxLen at b; omega, fun i hi => ⟨g, 0, rfl, ?_, ?_, ?_⟩⟩
    · have := World.ownsRow.cells h0 (g := g) rfl (i * 3) _ (pcells_at P i hi).1
      rw [addr_add] at this
      exact this
    · have := World.ownsRow.cells h0 (g := g) rfl (i * 3 + 1) _ (pcells_at P i hi).2.1
      rw [addr_add] at this
      exact this
    · have := World.ownsRow.cells h0 (g := g) rfl (i * 3 + 2) _ (pcells_at P i hi).2.2
      rw [addr_add] at this
      exact this
theorem Pn.form {B : Nat} {w : World} {v : Value} {P : List RC} (h : Pn B w v P) : ∃ ao ca, v = .slice ao P.length ca ∧ P.length ≤ ca ∧ ca ≤ 9223372036854775807 := by
  rcases h.2 with ⟨rfl, e⟩ | ⟨g, cap, cur, rfl, _, _, a, b, _⟩
  · exact ⟨_, _, by rw [e], by omega, by omega⟩
  · exact ⟨_, _, rfl, a, by unfold maxLen at b; omega⟩
theorem Pn.lt {B : Nat} {w : World} {v : Value} {P : List RC} (h : Pn B w v P) : ∀ k, v.ownBlock = some k → B ≤ k ∧ k < w.heap.size := fun k hk => World.ownsRow.lt h k hk
theorem Pn.but {X : Nat → Prop} {B : Nat} {w w' : World} {v : Value} {P : List RC} (h : Pn B w v P) (hb : But X w w') (hx : ∀ k, v.ownBlock = some k → ¬ X k) : Pn B w' v P :=
  ⟨h.1, h.2.imp id fun ⟨g, cap, cur, e, hg, hh, r⟩ => ⟨g, cap, cur, e, hg, (hb.block g (heap_lt hh) (hx g (by rw [e]; simp [Value.ownBlock]))).trans hh, r⟩⟩
theorem Pn.below {B : Nat} {w w' : World} {v : Value} {P : List RC} (h : Pn B w v P) (hb : Below w.heap.size w w') : Pn B w' v P := owns_belowN h hb
theorem En.but {X : Nat → Prop} {B : Nat} {w w' : World} {v : Value} {L : Dr} (h : En B w v L) (hb : But X w w') (hx : ∀ k, v.ownBlock = some k → ¬ X k) : En B w' v L :=
  ⟨h.1, h.2.imp id fun ⟨g, cap, cur, e, hg, hh, r⟩ => ⟨g, cap, cur, e, hg, (hb.block g (heap_lt hh) (hx g (by rw [e]; simp [Value.ownBlock]))).trans hh, r⟩⟩
theorem three_newE (w : World) (s t : ByteArray) (n : Int) (ty : TypeId) : ∀ j u, ([Value.string s, .int .i64 n, .string t] : List Value)[j]? = some u → (w.alloc (.cells #[.string s, .int .i64 n, .string t] ty)).cell? ((⟨w.heap.size, 0, none⟩ : Addr).add j) = some u := by
  intro j u hu
  rw [addr_add]
  match j with
  | 0 => simp at hu; subst hu; simp only [World.cell?, heap_alloc_new]; rfl
  | 1 => simp at hu; subst hu; simp only [World.cell?, heap_alloc_new]; rfl
  | 2 => simp at hu; subst hu; simp only [World.cell?, heap_alloc_new]; rfl
  | j + 3 => simp at hu
theorem Ans.slice {B : Nat} {w : World} {a : Option Addr} {n c : Nat} {v : Value} {L0 L : Dr} (h : Ans B w (.slice a n c) v L0 L) : ∃ a n c, v = .slice a n c := by
  rcases h with h | ⟨rfl, _⟩
  · rcases h.form with ⟨rfl, _⟩ | ⟨g, cap, rfl, _⟩ <;> exact ⟨_, _, _, rfl⟩
  · exact ⟨_, _, _, rfl⟩
structure ChA (w w' : World) (b : Nat) (cs : Array Value) (vD vP : Value) (L : Dr) (P : List RC) (c : RC) : Prop where
  out : ∃ vD' vP', w'.heap[b]? = some (.cells ((cs.setIfInBounds 2 vD').setIfInBounds 4 vP') TRD (0, 0)) ∧ En 0 w' vD' (c.run L) ∧ Pn 0 w' vP' (P ++ [c]) ∧
    (vD'.ownBlock = vD.ownBlock ∨ ∀ k, vD'.ownBlock = some k → w.heap.size ≤ k) ∧ (vP'.ownBlock = vP.ownBlock ∨ ∀ k, vP'.ownBlock = some k → w.heap.size ≤ k) ∧ (∀ k, vD'.ownBlock = some k → vP'.ownBlock ≠ some k)
  but : But (fun k => k = b ∨ vP.ownBlock = some k) w w'
theorem own_some (g n c : Nat) : (Value.slice (some ⟨g, 0, none⟩) n c).ownBlock = some g := by simp [Value.ownBlock]
theorem cha_end {w u w2 W1 w4 : World} {b g4 cap4 : Nat} {cs : Array Value} {vD vP v2 : Value} {L : Dr} {P : List RC} {c : RC} (hb : w.heap[b]? = some (.cells cs TRD (0, 0))) (hD : En 0 w vD L) (hP : Pn 0 w vP P) (hPb : vP.ownBlock ≠ some b) (hDb : vD.ownBlock ≠ some b) (hDP : ∀ k, vD.ownBlock = some k → vP.ownBlock ≠ some k)
    (u0 : Below w.heap.size w u) (b3 : Below u.heap.size u w2) (A2 : Ans u.heap.size w2 vD v2 L (c.run L)) (g3 : But (fun k => k = b) w2 W1) (FB : But (fun k => vP.ownBlock = some k) W1 w4) (k4 : w4.heap[b]? = some (.cells (cs.setIfInBounds 2 v2) TRD (0, 0)))
    (ho : Pn 0 w4 (.slice (some ⟨g4, 0, none⟩) (P.length + 1) cap4) (P ++ [c])) (hat : vP.ownBlock = some g4 ∨ g4 = W1.heap.size + 1) : ChA w (w4.setCell ⟨b, 4, none⟩ (.slice (some ⟨g4, 0, none⟩) (P.length + 1) cap4)) b cs vD vP L P c := by
  have hbl := heap_lt hb
  have hw2 : Below w.heap.size w w2 := u0.trans (b3.mono u0.size)
  have hD2 : En 0 w2 v2 (c.run L) := by
    rcases A2 with h | ⟨e1, e2⟩
    · exact owns_lower2 h (Nat.zero_le _)
    · rw [e1, e2]; exact hD.below hw2
  have hDn : v2.ownBlock = vD.ownBlock ∨ ∀ k, v2.ownBlock = some k → u.heap.size ≤ k ∧ k < w2.heap.size := by
    rcases A2 with h | ⟨e1, e2⟩
    · exact .inr fun k hk => h.lt k hk
    · rw [e1]; exact .inl rfl
  have hb2 : ∀ k, v2.ownBlock = some k → k ≠ b := fun k hk e => by
    rcases hDn with h | h
    · rw [h] at hk; exact hDb (by rw [hk, e])
    · have := (h k hk).1; have := u0.size; omega
  have hp2 : ∀ k, v2.ownBlock = some k → vP.ownBlock ≠ some k := fun k hk e => by
    rcases hDn with h | h
    · rw [h] at hk; exact hDP k hk e
    · have := (h k hk).1; have := (hP.lt k e).2; have := u0.size; omega
  have hg4b : g4 ≠ b := fun e => by
    rcases hat with h | h
    · exact hPb (by rw [h, e])
    · have := g3.size; have := hw2.size; omega
  have g5 := But.of_grownBy (X := fun k => k = b) (grown_setCell w4 b 4 (.slice (some ⟨g4, 0, none⟩) (P.length + 1) cap4)) fun k e => by cases e; rfl
  have hDl := fun k hk => (hD2.lt k hk).2
  refine ⟨⟨v2, _, heap_setCell_same w4 b 4 _ _ _ k4, ((hD2.but g3 hb2).but FB hp2).but g5 hb2, ho.but g5 (fun k hk e => hg4b (by rw [own_some] at hk; simp at hk; rw [hk, e])), hDn.imp id (fun h k hk => Nat.le_trans u0.size (h k hk).1), ?_, ?_⟩, ?_⟩
  · rw [own_some]
    rcases hat with h | h
    · exact .inl h.symm
    · right
      intro k hk
      simp at hk
      have := g3.size; have := hw2.size
      omega
  · intro k hk
    rw [own_some]
    intro e
    simp at e
    rcases hat with h | h
    · exact hp2 k hk (by rw [h, e])
    · have := hDl k hk; have := g3.size; omega
  · exact ((((But.of_below hw2 _).trans (g3.mono fun k _ e => .inl e)).trans (FB.mono fun k _ e => .inr e))).trans (g5.mono fun k _ e => .inl e)
set_option maxRecDepth 100000 in
set_option maxHeartbeats 1000000 in
theorem change_ref (w : World) (b : Nat) (cs : Array Value) (vD vP : Value) (L : Dr) (P : List RC) (c : RC) (hb : w.heap[b]? = some (.cells cs TRD (0, 0))) (hz : cs.size = 18) (h2 : cs[2]? = some vD) (h4 : cs[4]? = some vP) (hD : En 0 w vD L) (hP : Pn 0 w vP P)
    (hPb : vP.ownBlock ≠ some b) (hDb : vD.ownBlock ≠ some b) (hDP : ∀ k, vD.ownBlock = some k → vP.ownBlock ≠ some k) (hl : (L.length : Int) ≤ 1000000000) (hpl : (P.length : Int) ≤ 1000000000) (f0 : -9223372036854775808 ≤ c.fi) (f1 : c.fi ≤ 9223372036854775807) :
    Calls Tryz.prog 99 #[.pointer (some ⟨b, 0, none⟩), c.v] w fun e w' => e = .returned (.tuple #[]) ∧ ChA w w' b cs vD vP L P c := by
  have HB := hide hb
  have u0 := hide (box_below w (.cells #[.string c.tn, .int .i64 c.fi, .string c.fr] 155))
  have z0 := hide (heap_alloc_new w (.cells #[.string c.tn, .int .i64 c.fi, .string c.fr] 155))
  obtain ⟨u, hu⟩ : ∃ u, Hid (w.alloc (.cells #[.string c.tn, .int .i64 c.fi, .string c.fr] 155) = u) := ⟨_, rfl⟩
  rw [hu.out] at u0 z0
  have KB : Hid (∀ q, Below u.heap.size u q → q.heap[b]? = some (.cells cs TRD (0, 0)) ∧ q.heap[w.heap.size]? = some (.cells #[.string c.tn, .int .i64 c.fi, .string c.fr] 155)) := fun q hq => ⟨(hq.block b (Nat.lt_of_lt_of_le (heap_lt HB.out) u0.out.size)).trans ((u0.out.block b (heap_lt HB.out)).trans HB.out), (hq.block _ (heap_lt z0.out)).trans z0.out⟩
  have KC : Hid (∀ q, Below u.heap.size u q → Calls Tryz.prog 114 #[vD, c.v] q fun e w' => ∃ v', e = .returned v' ∧ Ans q.heap.size w' vD v' L (c.run L) ∧ Below q.heap.size q w') := fun q hq => changed_ref q vD L c ((hD.below u0.out).below hq).er hl f0 f1
  have c2 : u.cell? ⟨b, 2, none⟩ = some vD := by simp [World.cell?, (KB.out u (Below.refl _ _)).1, h2]
  have x0 : u.cell? ⟨w.heap.size, 0, none⟩ = some (.string c.tn) := by simp [World.cell?, z0.out]
  have x1 : u.cell? ⟨w.heap.size, 1, none⟩ = some (.int .i64 c.fi) := by simp [World.cell?, z0.out]
  have x2 : u.cell? ⟨w.heap.size, 2, none⟩ = some (.string c.fr) := by simp [World.cell?, z0.out]
  have bb := Below.refl u.heap.size u
  have hvd : ∃ da dn dc, vD = .slice da dn dc := by rcases hD.form with ⟨rfl, _⟩ | ⟨g, cap, rfl, _⟩ <;> exact ⟨_, _, _, rfl⟩
  obtain ⟨da, dn, dc, rfl⟩ := hvd
  unfold RC.v at *
  obtain ⟨tn, etn⟩ : ∃ tn, Hid (c.tn = tn) := ⟨_, rfl⟩
  obtain ⟨fi, efi⟩ : ∃ fi, Hid (c.fi = fi) := ⟨_, rfl⟩
  obtain ⟨fr, efr⟩ : ∃ fr, Hid (c.fr = fr) := ⟨_, rfl⟩
  rw [etn.out] at z0 KB KC x0 hu ⊢
  rw [efi.out] at z0 KB KC x1 hu ⊢
  rw [efr.out] at z0 KB KC x2 hu ⊢
  go_enter Tryz.func99, Tryz.ntmps99
  go_upto_region 1 with fail
  rw [hu.out]
  go_region_with (first
    | (go_at_call 114; refine (KC.out _ (by first | exact bb | exact bb.drew | exact bb.drew.drew | exact bb.drew.drew.drew | exact bb.drew.drew.drew.drew)).mono ?_; rintro e w2 ⟨v2, rfl, A2, b2⟩; obtain ⟨sa, sn, sc, rfl⟩ := A2.slice; have A3 : Ans u.heap.size w2 (.slice da dn dc) (.slice sa sn sc) L (c.run L) := A2; have b3 : Below u.heap.size u w2 := (by first | exact bb.trans b2 | exact bb.drew.trans b2 | exact bb.drew.drew.trans b2 | exact bb.drew.drew.drew.trans b2 | exact bb.drew.drew.drew.drew.trans b2); have k2 := (KB.out w2 b3).1; have y2 : w2.cell? ⟨b, 2, none⟩ = some (.slice da dn dc) := (by simp [World.cell?, k2, h2]); have y3 : w2.frozen? ⟨b, 2, none⟩ = false := (by simp [World.frozen?, k2])))
  all_goals
    have k3 := hide (heap_setCell_same w2 b 2 _ _ (.slice sa sn sc) k2)
    have hwb : Hid (w.heap.size ≠ b) := fun e => by have := heap_lt HB.out; omega
    have g3 := But.of_grownBy (X := fun k => k = b) (grown_setCell w2 b 2 (.slice sa sn sc)) fun k e => by cases e; rfl
    have z3 := hide ((g3.block w.heap.size (heap_lt (KB.out w2 b3).2) hwb.out).trans (KB.out w2 b3).2)
    have P2 : Hid (Pn 0 (w2.setCell ⟨b, 2, none⟩ (.slice sa sn sc)) vP P) := ((hP.below u0.out).below b3).but g3 (fun k hk e => hPb (by rw [hk, e]))
    replace g3 := hide g3
    generalize w2.setCell ⟨b, 2, none⟩ (.slice sa sn sc) = W1 at *
    clear y2 y3 x0 x1 x2 c2
    obtain ⟨pa, pc, ep, p1, p2⟩ := P2.out.form
    subst ep
    have c4 : W1.cell? ⟨b, 4, none⟩ = some (.slice pa P.length pc) := by simp [World.cell?, k3.out, h4]
    have x0 : W1.cell? ⟨w.heap.size, 0, none⟩ = some (.string tn) := by simp [World.cell?, z3.out]
    have x1 : W1.cell? ⟨w.heap.size, 1, none⟩ = some (.int .i64 fi) := by simp [World.cell?, z3.out]
    have x2 : W1.cell? ⟨w.heap.size, 2, none⟩ = some (.string fr) := by simp [World.cell?, z3.out]
    obtain ⟨Np, hNp⟩ : ∃ Np, Hid (P.length = Np) := ⟨_, rfl⟩
    have ROW : Hid (W1.ownsRow 0 155 3 (.slice pa Np pc) Np (pcells P)) := by have := P2.out; unfold Pn at this; rw [hNp.out] at this; exact this
    rw [hNp.out] at c4 p1 hpl
    obtain ⟨i0, hi, hz0, hz1, hz2⟩ := info_parts infoPn
    have c4a : (W1.alloc (.cells #[.string tn, .int .i64 fi, .string fr] 155)).cell? ⟨b, 4, none⟩ = some (.slice pa Np pc) := by rw [(box_below W1 _).cell (p := ⟨b, 4, none⟩) (lt_of_cell c4)]; exact c4
    have hPb2 : Hid ((Value.slice pa Np pc).ownBlock ≠ some b) := by rw [← hNp.out]; exact hPb
    go_wp2_with fail
    go_region_law (first | (refine step_append_lies _ rfl (.tmp 17) (.tmp 19) 101 rfl 0 155 i0 (.agg #[.string ⟨#[]⟩, .int .i64 0, .string ⟨#[]⟩]) 3 40 Tryz.underlying101 hi hz0 hz1 hz2 rfl (by decide) (.slice pa Np pc) Np (pcells P) (by simp [Act.eval]) (ROW.out.alloc _) ⟨W1.heap.size, 0, none⟩ 1 1 [.string tn, .int .i64 fi, .string fr] (by simp [Act.eval]) rfl (three_newE _ _ _ _ _) (by simp [Value.oneCell']) (by decide) (by unfold maxLen; omega) (by omega) (Nat.zero_le _) (W1.heap.size + 1) (by simp) ?_; intro g4 cap4 w4 hown4 hgrow4 hat4 hlt4; have FB : But (fun k => (Value.slice pa Np pc).ownBlock = some k) W1 w4 := (But.of_below (by first | exact (box_below W1 _).drew | exact (box_below W1.drew _) | exact box_below W1 _) _).trans (But.of_grownBy hgrow4 fun k e => e); have k4 := (FB.block b (heap_lt k3.out) hPb2.out).trans k3.out; have cc4 := (show w4.cell? ⟨b, 4, none⟩ = some (.slice pa Np pc) by simp [World.cell?, k4, h4, hNp.out]); have ff4 := (show w4.frozen? ⟨b, 4, none⟩ = false by simp [World.frozen?, k4])))
    all_goals
      have hPn : Pn 0 w4 (.slice (some ⟨g4, 0, none⟩) (P.length + 1) cap4) (P ++ [c]) := by
        unfold Pn
        rw [List.length_append, show pcells (P ++ [c]) = pcells P ++ [.string c.tn, .int .i64 c.fi, .string c.fr] by simp [pcells], etn.out, efi.out, efr.out, hNp.out]
        exact hown4
      have fin := cha_end HB.out hD hP hPb hDb hDP u0.out b3 A3 g3.out (by rw [← hNp.out] at FB; exact FB) k4 hPn (by rw [← hNp.out] at hat4; exact hat4)
      rw [hNp.out] at fin
      go_end0
      exact ⟨rfl, by rw [hNp.out]; exact fin⟩
end Go.Proofs.YtjehpijjneghpaaGreat.Re
namespace Go.Proofs.YtjehpijjneghpaaGreat
open Go.RowKit
theorem cap_fits {need old : Nat} (h : old < need) (hb : need ≤ 140737488355328 + 1048576) : Builtin.nextslicecap need old * 1 ≤ 281474976710656 := by
  unfold Builtin.nextslicecap
  split
  · omega
  · split
    · omega
    · rw [growBy_four]
      repeat' split
      all_goals omega
end Go.Proofs.YtjehpijjneghpaaGreat
