/-
  The document's disk: with.
-/
import Derived.Test.YtjehpijjneghpaaGreatM19
import Derived.Test.YtjehpijjneghpaaGreatM13
namespace Go.Proofs.YtjehpijjneghpaaGreat.Re
open Go.RowKit Go.Maps Go.Sort Go.Shelf Go.Proofs.YtjehpijjneghpaaGreat.Nm Go.Proofs.YtjehpijjneghpaaGreat.Dk
set_option linter.unusedVariables false
theorem mem_ddel_ne {L : Dr} {n : List UInt8} {j : Nat} (hj : j < (ddel L n).length) : ((ddel L n)[j]).1 ≠ n := by
  have := List.getElem_mem hj
  exact (mem_ddel this).2
theorem er_one (w : World) (s : ByteArray) (p : Nat) : Er (w.alloc (.cells #[.string s, .int .i64 (p : Int)] 142)) (.slice (some ⟨w.heap.size, 0, none⟩) 1 1) [(s.data.toList, p)] := by
  refine ⟨⟨_, 1, rfl, Nat.le_refl _, by omega, fun i hi => ?_⟩, fun n c e => by simp at e⟩
  obtain rfl : i = 0 := by simp at hi; omega
  refine ⟨w.heap.size, 0, rfl, ?_, ?_⟩
  · simp only [World.cell?, heap_alloc_new]; rfl
  · simp only [World.cell?, heap_alloc_new]; rfl
set_option maxRecDepth 100000 in
set_option maxHeartbeats 2000000 in
theorem with_ref (w : World) (v : Value) (L : Dr) (s : ByteArray) (p : Nat) (hv : Tr w v L) (hl : (L.length : Int) ≤ 1000000000) (hp : (p : Int) ≤ 9223372036854775807) :
    Calls Tryz.prog 123 #[v, .string s, .int .i64 (p : Int)] w fun e w' => ∃ v', e = .returned v' ∧ En w.heap.size w' v' (dput L s.data.toList p) ∧ Below w.heap.size w w' := by
  have hWo := without_ref w v L s hv hl
  have hne : Hid (∀ j (hj : j < (ddel L s.data.toList).length), ((ddel L s.data.toList)[j]).1 ≠ s.data.toList) := fun j hj => mem_ddel_ne hj
  have hdl : Hid (((ddel L s.data.toList).length : Int) ≤ 1000000000) := by have := ddel_len L s.data.toList; show _ ≤ _; omega
  unfold dput
  generalize ddel L s.data.toList = D at *
  obtain ⟨i0, hi, hz0, hz1, hz2⟩ := info_parts infoEn
  replace hi := hide hi
  clear hv hl
  have hWo2 : Calls Tryz.prog 122 #[v, .string s] w fun e w' => ∃ ao cap, e = .returned (.slice ao D.length cap) ∧ D.length ≤ cap ∧ cap ≤ 9223372036854775807 ∧ Hid (En w.heap.size w' (.slice ao D.length cap) D) ∧ Hid (Below w.heap.size w w') := by
    refine hWo.mono ?_
    rintro e w' ⟨v', rfl, hO, hb⟩
    rcases hO.form with ⟨rfl, e1⟩ | ⟨g, cap, rfl, k1, k2⟩
    · subst e1; exact ⟨none, 0, rfl, Nat.le_refl _, by omega, hO, hb⟩
    · exact ⟨_, cap, rfl, k1, k2, hO, hb⟩
  clear hWo
  obtain ⟨N, hN⟩ : ∃ N, Hid (D.length = N) := ⟨_, rfl⟩
  rw [hN.out] at hWo2 hdl
  go_enter Tryz.func123, Tryz.ntmps123
  go_upto_region 2 with (go_at_call 122; refine hWo2.mono ?_; rintro e w1 ⟨ao, cap, rfl, k1, k2, hO, b1⟩)
  clear hWo2
  have HT : Hid (Tr w1 (.slice ao N cap) D) := hO.out.tr
  have q3 : Hid (∀ i (h : i < D.length), ∃ b off, ao = some ⟨b, off, none⟩ ∧ w1.cell? ⟨b, off + i * 2, none⟩ = some (.string (bsOf D[i].1)) ∧ w1.cell? ⟨b, off + i * 2 + 1, none⟩ = some (.int .i64 (D[i].2 : Int))) := by
    obtain ⟨ao', ca', e, _, _, h3⟩ := HT.out
    simp only [Value.slice.injEq] at e
    obtain ⟨rfl, _, rfl⟩ := e
    exact h3
  go_wp2_with fail
  go_loopw [7] (fun i wr => ∃ k : Nat, i = .int .i64 k ∧ k ≤ N ∧ Hid (∀ j (hj : j < D.length), j < k → bytesBefore (D[j]).1 s.data.toList = true) ∧ wr = w1) (fun i _ => N - (intOf i).toNat)
  case atStart => exact ⟨0, rfl, Nat.zero_le _, fun j hj c => absurd c (by omega), rfl⟩
  case round =>
    obtain ⟨k, rfl, hk, hbf, rfl⟩ := hrel
    by_cases hgo : ∃ h : k < D.length, bytesBefore (D[k]).1 s.data.toList = true
    · obtain ⟨hkl, hbk⟩ := hgo
      have hlt : k < N := by rw [← hN.out]; exact hkl
      have i1 : (k : Int) < (N : Int) := by omega
      obtain ⟨gb, off, rfl, c0, c1⟩ := q3.out k hkl
      have hq : Op.bytesLess (bsOf D[k].1).toList s.toList = true := by rw [ByteArray.toList_eq, ByteArray.toList_eq, less_before]; exact hbk
      have h2 : Hid (∀ j (hj : j < D.length), j < k + 1 → bytesBefore (D[j]).1 s.data.toList = true) := fun j hj c => by
        by_cases e : j = k
        · subst e; exact hbk
        · exact hbf.out j hj (by omega)
      generalize bsOf D[k].1 = t at *
      go_wp2_with fail
      go_roundw
      case rel => exact ⟨k + 1, by go_num, by omega, h2, trivial⟩
      case measure => simp [intOf]; omega
    · have hEq : Hid (dins (s.data.toList, p) D = D.take k ++ (s.data.toList, p) :: D.drop k) := by
        refine dins_at _ _ D k (by rw [hN.out]; exact hk) hbf.out (fun hk' => ?_)
        rcases Go.WideAt.bytes_total _ _ (hne.out k hk') with c | c
        · exact absurd ⟨hk', c⟩ hgo
        · exact c
      have hdl2 := hdl.out
      have hDN := hN.out
      have LQ : Hid (∀ q : World, Below wr.heap.size wr q → Below w.heap.size w q) := fun q hq => b1.out.trans (hq.mono b1.out.size)
      have fin : Hid (∀ q v', En wr.heap.size q v' (D.take k ++ [(s.data.toList, p)] ++ D.drop k) → Below wr.heap.size wr q → En w.heap.size q v' (dins (s.data.toList, p) D) ∧ Below w.heap.size w q) := fun q v' hq hb => by
        rw [hEq.out]
        rw [List.append_assoc, List.singleton_append] at hq
        exact ⟨⟨hq.1, hq.2.imp id fun ⟨g, cap, cur, e, hg, r⟩ => ⟨g, cap, cur, e, Nat.le_trans b1.out.size hg, r⟩⟩, LQ.out q hb⟩
      have form := hO.out.form
      rw [hDN] at form
      rcases form with ⟨ev, hD0⟩ | ⟨g, cap', ev, _, _⟩
      · simp only [Value.slice.injEq] at ev
        obtain ⟨rfl, _, rfl⟩ := ev
        subst hD0
        obtain rfl : k = 0 := by simp at hDN; omega
        have i1 : ¬ (((0 : Nat) : Int) < (N : Int)) := by simp at hDN; omega
        have hN0 : N = 0 := by simpa using hDN.symm
        subst hN0
        have B2 := box_below wr (.cells #[.string s, .int .i64 (p : Int)] 142)
        have E2 : Er (wr.alloc (.cells #[.string s, .int .i64 (p : Int)] 142)) (.slice (some ⟨wr.heap.size, 0, none⟩) 1 1) [(s.data.toList, p)] := er_one wr s p
        obtain ⟨v4, w4, r4, Q4, G4⟩ := run_appE (En.nil wr.heap.size _) E2 (by simp) B2.size 100
        have X4 : Below wr.heap.size wr w4 := B2.grown G4 B2.size (fun k hk => by simp [Value.ownBlock] at hk)
        rw [List.nil_append] at Q4
        have fin2 := hide (fin.out w4 v4 (by simpa using Q4) X4)
        have r2 : Hid ((Builtin.append_ #[100, 100] 100 #[.slice none 0 0, .slice none 0 0]).run Tryz.prog wr = .ok (.slice none 0 0) wr) := run_append_owned_none (P := Tryz.prog) (w := wr) wr.heap.size 100 100 142 i0 2 Tryz.underlying100 hi.out (.slice none 0 0) 0 [] (World.ownsRow_nil _ _ _ _)
        have r5 : Hid ((Builtin.append_ #[100, 100] 100 #[v4, .slice none 0 0]).run Tryz.prog w4 = .ok v4 w4) := run_append_owned_none (P := Tryz.prog) (w := w4) wr.heap.size 100 100 142 i0 2 Tryz.underlying100 hi.out v4 _ _ Q4
        clear Q4 G4 X4 B2 E2 LQ fin
        replace r4 := hide r4
        go_wp2_with (first
            | (at_builtin; refine Lib.wpList_append_run _ rfl (.const (.slice none 0 0)) (.tmp 29) 100 100 rfl _ _ rfl rfl _ _ r2.out ?_)
            | (at_builtin; refine Lib.wpList_append_run _ rfl (.tmp 31) (.tmp 35) 100 100 rfl _ _ rfl rfl _ _ r4.out ?_)
            | (at_builtin; refine Lib.wpList_append_run _ rfl (.tmp 37) (.tmp 40) 100 100 rfl _ _ rfl rfl _ _ r5.out ?_)
            | fail)
        go_ret
        exact ⟨_, rfl, fin2.out.1, fin2.out.2⟩
      · simp only [Value.slice.injEq] at ev
        obtain ⟨rfl, _, rfl⟩ := ev
        have HTr := HT.out
        rw [← hDN] at HTr
        have EF := Er.front HTr (k := k) (by omega)
        have ER := Er.rest HTr (k := k) (by omega)
        rw [hDN] at ER
        obtain ⟨v2, w2, r2, Q2, G2⟩ := run_appE (En.nil wr.heap.size wr) EF (by simp; omega) (Nat.le_refl _) 100
        rw [List.nil_append] at Q2
        have X2 : Below wr.heap.size wr w2 := (Below.refl _ _).grown G2 (Nat.le_refl _) (fun k hk => by simp [Value.ownBlock] at hk)
        have B3 := box_below w2 (.cells #[.string s, .int .i64 (p : Int)] 142)
        have X3 := X2.trans (B3.mono X2.size)
        obtain ⟨v4, w4, r4, Q4, G4⟩ := run_appE (Q2.below B3) (er_one w2 s p) (by simp; omega) X3.size 100
        have X4 : Below wr.heap.size wr w4 := X3.grown G4 X3.size (fun k hk => (Q2.lt k hk).1)
        clear HTr EF G2 Q2 X2 B3 X3 G4
        replace r2 := hide r2
        replace r4 := hide r4
        by_cases hkl : k < D.length
        · obtain ⟨v5, w5, r5, Q5, G5⟩ := run_appE Q4 (ER.below (X4.mono (Nat.le_refl _))) (by simp; omega) X4.size 100
          have X5 : Below wr.heap.size wr w5 := X4.grown G5 X4.size (fun k hk => (Q4.lt k hk).1)
          have fin2 := hide (fin.out w5 v5 Q5 X5)
          clear Q4 X4 Q5 G5 X5 ER LQ fin
          replace r5 := hide r5
          have hlt : k < N := by omega
          have i1 : (k : Int) < (N : Int) := by omega
          obtain ⟨gb, off, e, c0, c1⟩ := q3.out k hkl
          simp only [Option.some.injEq, Addr.mk.injEq] at e
          obtain ⟨rfl, rfl, _⟩ := e
          rw [Nat.zero_add] at c0 c1
          have hq : Op.bytesLess (bsOf D[k].1).toList s.toList = false := by
            rw [ByteArray.toList_eq, ByteArray.toList_eq, less_before]
            by_cases c : bytesBefore D[k].1 s.data.toList = true
            · exact absurd ⟨hkl, c⟩ hgo
            · have c2 : bytesBefore D[k].1 s.data.toList = false := by simpa using c
              exact c2
          generalize bsOf D[k].1 = t at *
          go_wp2_with (first
            | (at_builtin; refine Lib.wpList_append_run _ rfl (.const (.slice none 0 0)) (.tmp 29) 100 100 rfl _ _ rfl rfl _ _ r2.out ?_)
            | (at_builtin; refine Lib.wpList_append_run _ rfl (.tmp 31) (.tmp 35) 100 100 rfl _ _ rfl rfl _ _ r4.out ?_)
            | (at_builtin; refine Lib.wpList_append_run _ rfl (.tmp 37) (.tmp 40) 100 100 rfl _ _ rfl rfl _ _ r5.out ?_)
            | fail)
          go_ret
          exact ⟨_, rfl, fin2.out.1, fin2.out.2⟩
        · obtain rfl : k = N := by omega
          have i1 : ¬ ((k : Int) < (k : Int)) := by omega
          have hdr : D.drop k = [] := List.drop_of_length_le (by omega)
          have E5 : Er w4 (.slice (if cap = k then some ⟨g, 0, none⟩ else some ⟨g, k * 2, none⟩) 0 (cap - k)) (D.drop k) := by
            rw [hdr]
            split
            · exact ⟨⟨_, _, rfl, Nat.zero_le _, by omega, fun i hi => by simp at hi⟩, fun n c e => by simp at e⟩
            · exact ⟨⟨_, _, rfl, Nat.zero_le _, by omega, fun i hi => by simp at hi⟩, fun n c e => by simp at e⟩
          obtain ⟨v5, w5, r5, Q5, G5⟩ := run_appE Q4 E5 (by simp; omega) X4.size 100
          have X5 : Below wr.heap.size wr w5 := X4.grown G5 X4.size (fun k hk => (Q4.lt k hk).1)
          have fin2 := hide (fin.out w5 v5 Q5 X5)
          clear Q4 X4 Q5 G5 X5 ER LQ fin E5 hdr
          replace r5 := hide r5
          go_wp2_with (first
            | (at_builtin; refine Lib.wpList_append_run _ rfl (.const (.slice none 0 0)) (.tmp 29) 100 100 rfl _ _ rfl rfl _ _ r2.out ?_)
            | (at_builtin; refine Lib.wpList_append_run _ rfl (.tmp 31) (.tmp 35) 100 100 rfl _ _ rfl rfl _ _ r4.out ?_)
            | (at_builtin; refine Lib.wpList_append_run _ rfl (.tmp 37) (.tmp 40) 100 100 rfl _ _ rfl rfl _ _ r5.out ?_)
            | fail)
          all_goals
            go_ret
            exact ⟨_, rfl, fin2.out.1, fin2.out.2⟩
structure RC where
  tn : ByteArray
  fi : Int
  fr : ByteArray
def RC.v (c : RC) : Value := .agg #[.string c.tn, .int .i64 c.fi, .string c.fr]
def RC.one (c : RC) (L : Dr) : Dr := if c.fr.data.toList = [] then L else ddel L c.fr.data.toList
def RC.run (c : RC) (L : Dr) : Dr := if 0 ≤ c.fi then dput (c.one L) c.tn.data.toList c.fi.toNat else c.one L
theorem dput_len (L : Dr) (n : List UInt8) (p : Nat) : (dput L n p).length ≤ L.length + 1 := by
  unfold dput
  rw [dins_len]
  have := ddel_len L n
  omega
theorem RC.one_len (c : RC) (L : Dr) : (c.one L).length ≤ L.length := by
  unfold RC.one
  split
  · exact Nat.le_refl _
  · exact ddel_len _ _
theorem RC.run_len (c : RC) (L : Dr) : (c.run L).length ≤ L.length + 1 := by
  have := c.one_len L
  unfold RC.run
  split
  · have := dput_len (c.one L) c.tn.data.toList c.fi.toNat; omega
  · omega
theorem str_nil (s : ByteArray) (h : s.data.toList = []) : (s.toList == ([] : List UInt8)) = true := by rw [ByteArray.toList_eq, h]; rfl
theorem str_some (s : ByteArray) (h : s.data.toList ≠ []) : (s.toList == ([] : List UInt8)) = false := by rw [ByteArray.toList_eq]; simpa using h
def Ans (B : Nat) (w : World) (v0 v : Value) (L0 L : Dr) : Prop := En B w v L ∨ (v = v0 ∧ L = L0)
theorem owns_lower2 {w : World} {B B' : Nat} {v : Value} {L : Dr} (h : En B w v L) (hb : B' ≤ B) : En B' w v L :=
  ⟨h.1, h.2.imp id fun ⟨g, cap, cur, e, hg, r⟩ => ⟨g, cap, cur, e, Nat.le_trans hb hg, r⟩⟩
set_option maxRecDepth 100000 in
set_option maxHeartbeats 2000000 in
theorem changed_ref (w : World) (v : Value) (L : Dr) (c : RC) (hv : Er w v L) (hl : (L.length : Int) ≤ 1000000000) (h0 : -9223372036854775808 ≤ c.fi) (h1 : c.fi ≤ 9223372036854775807) :
    Calls Tryz.prog 114 #[v, c.v] w fun e w' => ∃ v', e = .returned v' ∧ Ans w.heap.size w' v v' L (c.run L) ∧ Below w.heap.size w w' := by
  obtain ⟨tn, fi, fr⟩ := c
  dsimp only [RC.v] at *
  have B0 := hide (box_below w (.cells #[.string tn, .int .i64 fi, .string fr] 155))
  have N0 := hide (heap_alloc_new w (.cells #[.string tn, .int .i64 fi, .string fr] 155))
  obtain ⟨u, hu⟩ : ∃ u, Hid (w.alloc (.cells #[.string tn, .int .i64 fi, .string fr] 155) = u) := ⟨_, rfl⟩
  rw [hu.out] at B0 N0
  have KC : Hid (∀ q, Below u.heap.size u q → q.cell? ⟨w.heap.size, 0, none⟩ = some (.string tn) ∧ q.cell? ⟨w.heap.size, 1, none⟩ = some (.int .i64 fi) ∧ q.cell? ⟨w.heap.size, 2, none⟩ = some (.string fr)) := fun q hq => by
    have z := (hq.block _ (heap_lt N0.out)).trans N0.out
    exact ⟨by simp [World.cell?, z], by simp [World.cell?, z], by simp [World.cell?, z]⟩
  obtain ⟨x0, x1, x2⟩ := KC.out u (Below.refl _ _)
  have V0 := hide (hv.below B0.out)
  -- behind without
  have KW : Hid (∀ q v1 L1, Below u.heap.size u q → Tr q v1 L1 → (L1.length : Int) ≤ 1000000000 → 0 ≤ fi → Calls Tryz.prog 123 #[v1, .string tn, .int .i64 fi] q fun e w' => ∃ v', e = .returned v' ∧ Hid (En w.heap.size w' v' (dput L1 tn.data.toList fi.toNat)) ∧ Hid (Below w.heap.size w w')) := fun q v1 L1 hq h1' hl1 hfi => by
    obtain ⟨p, hp⟩ := Int.eq_ofNat_of_zero_le hfi
    subst hp
    refine (with_ref q v1 L1 tn p h1' hl1 (by omega)).mono ?_
    rintro e w' ⟨v', rfl, hO, hb⟩
    rw [Int.toNat_natCast]
    have hz := Nat.le_trans B0.out.size hq.size
    exact ⟨v', rfl, owns_lower2 hO hz, (B0.out.trans (hq.mono B0.out.size)).trans (hb.mono hz)⟩
  by_cases hf : fr.data.toList = []
  · have e1 : (⟨tn, fi, fr⟩ : RC).one L = L := by unfold RC.one; rw [if_pos hf]
    have hq : (fr.toList == ([] : List UInt8)) = true := str_nil fr hf
    by_cases hp : 0 ≤ fi
    · have e2 : Hid ((⟨tn, fi, fr⟩ : RC).run L = dput L tn.data.toList fi.toNat) := by show _ = _; unfold RC.run; rw [e1, if_pos hp]
      have hW := KW.out u v L (Below.refl _ _) V0.out.tr hl hp
      clear hv e1
      go_enter Tryz.func114, Tryz.ntmps114
      go_upto_region 1 with fail
      rw [hu.out]
      go_wp2_with (first
        | (go_at_call 123; refine hW.mono ?_; rintro e w2 ⟨v2, rfl, O2, b2⟩)
        | fail)
      go_ret
      exact ⟨_, rfl, .inl (by rw [e2.out]; exact O2.out), b2.out⟩
    · have e2 : Hid ((⟨tn, fi, fr⟩ : RC).run L = L) := by show _ = _; unfold RC.run; rw [e1, if_neg hp]
      have hp2 : ¬ (fi ≥ 0) := hp
      clear hv e1 hp
      go_enter Tryz.func114, Tryz.ntmps114
      go_upto_region 1 with fail
      rw [hu.out]
      go_wp2_with fail
      go_ret
      exact ⟨_, rfl, .inr ⟨rfl, e2.out⟩, B0.out⟩
  · have e1 : (⟨tn, fi, fr⟩ : RC).one L = ddel L fr.data.toList := by unfold RC.one; rw [if_neg hf]
    have hq : (fr.toList == ([] : List UInt8)) = false := str_some fr hf
    have hWo : Calls Tryz.prog 122 #[v, .string fr] u fun e w' => ∃ v', e = .returned v' ∧ Hid (En w.heap.size w' v' (ddel L fr.data.toList)) ∧ Hid (Below u.heap.size u w') := by
      refine (without_ref u v L fr V0.out.tr hl).mono ?_
      rintro e w' ⟨v', rfl, hO, hb⟩
      exact ⟨v', rfl, owns_lower2 hO B0.out.size, hb⟩
    have hdl : ((ddel L fr.data.toList).length : Int) ≤ 1000000000 := by have := ddel_len L fr.data.toList; omega
    by_cases hp : 0 ≤ fi
    · have e2 : Hid ((⟨tn, fi, fr⟩ : RC).run L = dput (ddel L fr.data.toList) tn.data.toList fi.toNat) := by show _ = _; unfold RC.run; rw [e1, if_pos hp]
      clear hv e1
      replace hdl := hide hdl
      go_enter Tryz.func114, Tryz.ntmps114
      go_upto_region 1 with fail
      rw [hu.out]
      go_wp2_with (first
        | (go_at_call 122; refine hWo.mono ?_; rintro e w1 ⟨v1, rfl, O1, b1⟩; obtain ⟨y0, y1, y2⟩ := KC.out w1 b1.out)
        | (go_at_call 123; refine (KW.out w1 v1 _ b1.out O1.out.tr hdl.out hp).mono ?_; rintro e w2 ⟨v2, rfl, O2, b2⟩)
        | fail)
      go_ret
      exact ⟨_, rfl, .inl (by rw [e2.out]; exact O2.out), b2.out⟩
    · have e2 : Hid ((⟨tn, fi, fr⟩ : RC).run L = ddel L fr.data.toList) := by show _ = _; unfold RC.run; rw [e1, if_neg hp]
      have hp2 : ¬ (fi ≥ 0) := hp
      clear hv e1 hp
      go_enter Tryz.func114, Tryz.ntmps114
      go_upto_region 1 with fail
      rw [hu.out]
      go_wp2_with (first
        | (go_at_call 122; refine hWo.mono ?_; rintro e w1 ⟨v1, rfl, O1, b1⟩; obtain ⟨y0, y1, y2⟩ := KC.out w1 b1.out)
        | fail)
      go_ret
      exact ⟨_, rfl, .inl (by rw [e2.out]; exact O1.out), B0.out.trans (b1.out.mono B0.out.size)⟩
def toldN (k : Int) : Int := if k = 1 then 20 else if k = 2 then 21 else if k = 3 then 22 else 23
theorem told_ref (w : World) (k : Int) : Calls Tryz.prog 98 #[.int .i64 k] w fun e w' => e = .returned (.int .i64 (toldN k)) ∧ w' = w := by
  unfold toldN
  by_cases h1 : k = 1
  · subst h1
    go_enter Tryz.func98, Tryz.ntmps98
    go_wp2_with fail
    go_ret
    exact ⟨rfl, rfl⟩
  by_cases h2 : k = 2
  · subst h2
    go_enter Tryz.func98, Tryz.ntmps98
    go_wp2_with fail
    go_ret
    exact ⟨rfl, rfl⟩
  by_cases h3 : k = 3
  · subst h3
    go_enter Tryz.func98, Tryz.ntmps98
    go_wp2_with fail
    go_ret
    exact ⟨rfl, rfl⟩
  rw [if_neg h1, if_neg h2, if_neg h3]
  go_enter Tryz.func98, Tryz.ntmps98
  go_wp2_with fail
  go_ret
  exact ⟨rfl, rfl⟩
def TRD : TypeId := 103
structure Sr (w u : World) (b rb : Nat) (cs : Array Value) (f : Ft) : Prop where
  box : u.heap[b]? = some (.cells cs TRD (0, 0))
  ans : u.heap[rb]? = some (.cells #[.int .i64 f.1, .int .i64 f.2.1, .int .i64 f.2.2] 118 (0, 0))
  but : But (fun k => k = b) w u
  lo : w.heap.size ≤ rb
theorem Sr.ne {w u : World} {b rb : Nat} {cs : Array Value} {f : Ft} (h : Sr w u b rb cs f) : b ≠ rb := by
  intro e
  have h1 := h.box
  rw [e, h.ans] at h1
  simp [TRD] at h1
theorem Sr.set {w u : World} {b rb : Nat} {cs : Array Value} {f : Ft} (h : Sr w u b rb cs f) (j : Nat) (v : Value) : Sr w (u.setCell ⟨b, j, none⟩ v) b rb (cs.setIfInBounds j v) f := by
  have g := grown_setCell u b j v
  refine ⟨heap_setCell_same _ _ _ _ _ _ h.box, ?_, h.but.trans (But.of_grownBy g fun k e => by cases e; rfl), h.lo⟩
  rw [g.block rb (heap_lt h.ans) (by simpa using fun e => h.ne e.symm)]
  exact h.ans
theorem Sr.start {w : World} {b : Nat} {cs : Array Value} (hb : w.heap[b]? = some (.cells cs TRD (0, 0))) : Sr w (w.alloc (.cells #[.int .i64 0, .int .i64 0, .int .i64 0] 118)) b w.heap.size cs zf := by
  have hB := (Below.refl _ w).alloc (Nat.le_refl _) (.cells #[.int .i64 0, .int .i64 0, .int .i64 0] 118)
  exact ⟨(hB.block b (heap_lt hb)).trans hb, heap_alloc_new _ _, But.of_below hB _, Nat.le_refl _⟩
theorem Sr.more {w u u' : World} {b rb : Nat} {cs : Array Value} {f : Ft} (h : Sr w u b rb cs f) (hB : Below u.heap.size u u') : Sr w u' b rb cs f :=
  ⟨(hB.block b (heap_lt h.box)).trans h.box, (hB.block rb (heap_lt h.ans)).trans h.ans, h.but.trans (But.of_below hB _), h.lo⟩
theorem Sr.cell {w u : World} {b rb : Nat} {cs : Array Value} {f : Ft} (h : Sr w u b rb cs f) (i : Nat) : u.cell? ⟨b, i, none⟩ = cs[i]? := by simp [World.cell?, h.box]
theorem Sr.frozen {w u : World} {b rb : Nat} {cs : Array Value} {f : Ft} (h : Sr w u b rb cs f) (i : Nat) : u.frozen? ⟨b, i, none⟩ = false := by simp [World.frozen?, h.box]
theorem Sr.put {w u : World} {b rb : Nat} {cs : Array Value} {g : Ft} (h : Sr w u b rb cs g) (f : Ft) :
    Sr w (((u.setCell ⟨rb, 0, none⟩ (.int .i64 f.1)).setCell ⟨rb, 1, none⟩ (.int .i64 f.2.1)).setCell ⟨rb, 2, none⟩ (.int .i64 f.2.2)) b rb cs f := by
  have g0 := grown_setCell u rb 0 (.int .i64 f.1)
  have g1 := grown_setCell (u.setCell ⟨rb, 0, none⟩ (.int .i64 f.1)) rb 1 (.int .i64 f.2.1)
  have g2 := grown_setCell ((u.setCell ⟨rb, 0, none⟩ (.int .i64 f.1)).setCell ⟨rb, 1, none⟩ (.int .i64 f.2.1)) rb 2 (.int .i64 f.2.2)
  have B := ((But.of_grownBy (X := fun k => k = rb) g0 fun k e => by cases e; rfl).trans (But.of_grownBy g1 fun k e => by cases e; rfl)).trans (But.of_grownBy g2 fun k e => by cases e; rfl)
  have z0 := heap_setCell_same u rb 0 _ _ (.int .i64 f.1) h.ans
  have z1 := heap_setCell_same _ rb 1 _ _ (.int .i64 f.2.1) z0
  have z2 := heap_setCell_same _ rb 2 _ _ (.int .i64 f.2.2) z1
  refine ⟨B.at h.box h.ne, by simpa using z2, ?_, h.lo⟩
  have lo := h.lo
  exact ⟨B.os.trans h.but.os, B.tape.trans h.but.tape, B.output.trans h.but.output, Nat.le_trans h.but.size B.size, fun k hk hx => (B.block k (Nat.lt_of_lt_of_le hk h.but.size) (by omega)).trans (h.but.block k hk hx)⟩
def rfl1 (fs : List Ft) (n : Int) : Ft := (fs.find? fun f => f.1 == n).getD zf
theorem rfl1_at {fs : List Ft} {n : Int} {k : Nat} (hk : k < fs.length) (h : ∀ j (hj : j < fs.length), j < k → (fs[j]).1 ≠ n) (e : (fs[k]).1 = n) : rfl1 fs n = fs[k] := by
  unfold rfl1
  have : fs.find? (fun f => f.1 == n) = some fs[k] := by
    rw [List.find?_eq_some_iff_getElem]
    refine ⟨by simp [e], k, hk, rfl, fun j hj => ?_⟩
    simpa using h j (by omega) hj
  rw [this]
  rfl
theorem rfl1_none {fs : List Ft} {n : Int} (h : ∀ j (hj : j < fs.length), (fs[j]).1 ≠ n) : rfl1 fs n = zf := by
  unfold rfl1
  have : fs.find? (fun f => f.1 == n) = none := by
    rw [List.find?_eq_none]
    intro x hx
    obtain ⟨j, hj, rfl⟩ := List.getElem_of_mem hx
    simpa using h j hj
  rw [this]
  rfl
def begC (cs : Array Value) (j : Nat) (c a s : Int) : Array Value := (((cs.setIfInBounds (7 + j) (.int .i64 (c + 1))).setIfInBounds 14 (.int .i64 (a + 1))).setIfInBounds 6 (.int .i64 (s + 1))).setIfInBounds 17 (.int .i64 0)
def begF (cs : Array Value) (k : Int) : Array Value := if k = 3 then cs.setIfInBounds 16 (.bool true) else cs
theorem fts_but {w w' : World} {b : Nat} {v : Value} {fs : List Ft} (h : Fts w v fs) (hb : But (fun k => k = b) w w') (ho : ∀ g off n c, v = .slice (some ⟨g, off, none⟩) n c → 0 < n → g ≠ b) : Fts w' v fs := by
  obtain ⟨ao, cap, e, h1, h2, h3⟩ := h
  refine ⟨ao, cap, e, h1, h2, fun i hi => ?_⟩
  obtain ⟨g, off, e1, c1, c2, c3⟩ := h3 i hi
  have hg : ¬ g = b := ho g off fs.length cap (by rw [e, e1]) (by omega)
  exact ⟨g, off, e1, cell_but c1 hb hg, cell_but c2 hb hg, cell_but c3 hb hg⟩
set_option maxRecDepth 100000 in
set_option maxHeartbeats 2000000 in
theorem begins_ref (w : World) (b j : Nat) (cs : Array Value) (c a s : Int) (vA : Value) (fs : List Ft) (x16 x17 : Value) (hb : w.heap[b]? = some (.cells cs TRD (0, 0))) (hz : cs.size = 18) (hj : j < 7)
    (h1 : cs[7 + j]? = some (.int .i64 c)) (h2 : cs[14]? = some (.int .i64 a)) (h3 : cs[6]? = some (.int .i64 s)) (h4 : cs[5]? = some vA) (h5 : cs[16]? = some x16) (h6 : cs[17]? = some x17)
    (hA : Fts w vA fs) (hAb : ∀ g off n c, vA = .slice (some ⟨g, off, none⟩) n c → 0 < n → g ≠ b) (hK : ∀ f ∈ fs, f.2.1 ≠ 4)
    (c0 : 0 ≤ c) (c1 : c ≤ 4611686018427387904) (a0 : 0 ≤ a) (a1 : a ≤ 4611686018427387904) (s0 : 0 ≤ s) (s1 : s ≤ 4611686018427387904) :
    Calls Tryz.prog 97 #[.pointer (some ⟨b, 0, none⟩), .pointer (some ⟨b, 7 + j, none⟩)] w fun e w' => e = .returned (fv (rfl1 fs (s + 1))) ∧
      w'.heap[b]? = some (.cells (begF (begC cs j c a s) (rfl1 fs (s + 1)).2.1) TRD (0, 0)) ∧ But (fun k => k = b) w w' := by
  obtain ⟨R, hR⟩ : ∃ R, Hid (rfl1 fs (s + 1) = R) := ⟨_, rfl⟩
  rw [hR.out]
  have S0 := hide (Sr.start hb)
  obtain ⟨u0, hu0⟩ : ∃ u0, Hid (w.alloc (.cells #[.int .i64 0, .int .i64 0, .int .i64 0] 118) = u0) := ⟨_, rfl⟩
  rw [hu0.out] at S0
  have k1 : u0.cell? ⟨b, 7 + j, none⟩ = some (.int .i64 c) := (S0.out.cell _).trans h1
  have k2 := S0.out.frozen (7 + j)
  replace hb := hide hb
  replace hA := hide hA
  replace hAb := hide hAb
  replace hK := hide hK
  clear h1
  go_enter Tryz.func97, Tryz.ntmps97
  go_upto_region 1 with fail
  rw [hu0.out]
  go_upto_region 2 with fail
  have S1 := hide (S0.out.set (7 + j) (.int .i64 (c + 1)))
  generalize u0.setCell ⟨b, 7 + j, none⟩ (.int .i64 (c + 1)) = u1 at *
  obtain ⟨cs1, hc1⟩ : ∃ cs1, Hid (cs.setIfInBounds (7 + j) (.int .i64 (c + 1)) = cs1) := ⟨_, rfl⟩
  rw [hc1.out] at S1
  have g2 : cs1[14]? = some (.int .i64 a) := by rw [← hc1.out, Array.getElem?_setIfInBounds_ne (by omega)]; exact h2
  have g3 : cs1[6]? = some (.int .i64 s) := by rw [← hc1.out, Array.getElem?_setIfInBounds_ne (by omega)]; exact h3
  have g5 : cs1[5]? = some vA := by rw [← hc1.out, Array.getElem?_setIfInBounds_ne (by omega)]; exact h4
  have g6 : cs1[16]? = some x16 := by rw [← hc1.out, Array.getElem?_setIfInBounds_ne (by omega)]; exact h5
  have g7 : cs1[17]? = some x17 := by rw [← hc1.out, Array.getElem?_setIfInBounds_ne (by omega)]; exact h6
  have g8 : cs1.size = 18 := by rw [← hc1.out]; simpa using hz
  have l1 : u1.cell? ⟨b, 14, none⟩ = some (.int .i64 a) := (S1.out.cell _).trans g2
  have l2 := S1.out.frozen 14
  clear k1 k2 S0 hu0 h2 h3 h4 h5 h6 hz g2
  go_upto_region 3 with fail
  have S2 := hide (S1.out.set 14 (.int .i64 (a + 1)))
  generalize u1.setCell ⟨b, 14, none⟩ (.int .i64 (a + 1)) = u2 at *
  obtain ⟨cs2, hc2⟩ : ∃ cs2, Hid (cs1.setIfInBounds 14 (.int .i64 (a + 1)) = cs2) := ⟨_, rfl⟩
  rw [hc2.out] at S2
  have e3 : cs2[6]? = some (.int .i64 s) := by rw [← hc2.out, Array.getElem?_setIfInBounds_ne (by omega)]; exact g3
  have e5 : cs2[5]? = some vA := by rw [← hc2.out, Array.getElem?_setIfInBounds_ne (by omega)]; exact g5
  have e6 : cs2[16]? = some x16 := by rw [← hc2.out, Array.getElem?_setIfInBounds_ne (by omega)]; exact g6
  have e7 : cs2[17]? = some x17 := by rw [← hc2.out, Array.getElem?_setIfInBounds_ne (by omega)]; exact g7
  have e8 : cs2.size = 18 := by rw [← hc2.out]; simpa using g8
  have l1 : u2.cell? ⟨b, 6, none⟩ = some (.int .i64 s) := (S2.out.cell _).trans e3
  have l2 := S2.out.frozen 6
  clear S1 g3 g5 g6 g7 g8
  go_upto_region 4 with fail
  have S3 := hide (S2.out.set 6 (.int .i64 (s + 1)))
  generalize u2.setCell ⟨b, 6, none⟩ (.int .i64 (s + 1)) = u3 at *
  obtain ⟨cs3, hc3⟩ : ∃ cs3, Hid (cs2.setIfInBounds 6 (.int .i64 (s + 1)) = cs3) := ⟨_, rfl⟩
  rw [hc3.out] at S3
  have f4 : cs3[6]? = some (.int .i64 (s + 1)) := by rw [← hc3.out, Array.getElem?_setIfInBounds_self_of_lt (by omega)]
  have f5 : cs3[5]? = some vA := by rw [← hc3.out, Array.getElem?_setIfInBounds_ne (by omega)]; exact e5
  have f6 : cs3[16]? = some x16 := by rw [← hc3.out, Array.getElem?_setIfInBounds_ne (by omega)]; exact e6
  have f7 : cs3[17]? = some x17 := by rw [← hc3.out, Array.getElem?_setIfInBounds_ne (by omega)]; exact e7
  have l1 : u3.cell? ⟨b, 17, none⟩ = some x17 := (S3.out.cell _).trans f7
  have l2 := S3.out.frozen 17
  clear S2 e3 e5 e6 e7 e8
  go_upto_region 5 with fail
  have S4 := hide (S3.out.set 17 (.int .i64 0))
  generalize u3.setCell ⟨b, 17, none⟩ (.int .i64 0) = u4 at *
  obtain ⟨cs4, hc4⟩ : ∃ cs4, Hid (cs3.setIfInBounds 17 (.int .i64 0) = cs4) := ⟨_, rfl⟩
  rw [hc4.out] at S4
  have hcs : Hid (begC cs j c a s = cs4) := by show _ = _; unfold begC; rw [hc1.out, hc2.out, hc3.out, hc4.out]
  have d4 : cs4[6]? = some (.int .i64 (s + 1)) := by rw [← hc4.out, Array.getElem?_setIfInBounds_ne (by omega)]; exact f4
  have d5 : cs4[5]? = some vA := by rw [← hc4.out, Array.getElem?_setIfInBounds_ne (by omega)]; exact f5
  have d6 : cs4[16]? = some x16 := by rw [← hc4.out, Array.getElem?_setIfInBounds_ne (by omega)]; exact f6
  clear S3 f4 f5 f6 f7 l1 l2 hc1 hc2 hc3 hc4
  have FT := fts_but hA.out S4.out.but hAb.out
  obtain ⟨ao, cap, rfl, q1, q2, q3⟩ := FT
  have q2' : (cap : Int) ≤ 9223372036854775807 := by unfold maxLen at q2; omega
  clear q2
  obtain ⟨N, hN⟩ : ∃ N, Hid (fs.length = N) := ⟨_, rfl⟩
  rw [hN.out] at q1 d5
  replace q3 := hide q3
  have KB : Hid (∀ q, Below u4.heap.size u4 q → q.cell? ⟨b, 5, none⟩ = some (.slice ao N cap) ∧ q.cell? ⟨b, 6, none⟩ = some (.int .i64 (s + 1)) ∧ Sr w q b w.heap.size cs4 zf) := fun q hq => by
    have := S4.out.more hq
    exact ⟨(this.cell _).trans d5, (this.cell _).trans d4, this⟩
  obtain ⟨m5, m6, _⟩ := KB.out u4 (Below.refl _ _)
  go_wp2_with fail
  go_loopw [5] (fun i wr => ∃ k : Nat, i = .int .i64 k ∧ k ≤ N ∧ Hid (∀ j (hj : j < fs.length), j < k → (fs[j]).1 ≠ s + 1) ∧ Hid (Below u4.heap.size u4 wr)) (fun i _ => N - (intOf i).toNat)
  case atStart => exact ⟨0, rfl, Nat.zero_le _, fun j hj c => absurd c (by omega), Below.refl _ _⟩
  case round =>
    obtain ⟨k, rfl, hk, hno, hW⟩ := hrel
    clear m5 m6
    obtain ⟨m5, m6, SR⟩ := KB.out wr hW.out
    replace SR := hide SR
    by_cases hlt : k < N
    · have i1 : (k : Int) < (N : Int) := by omega
      have hkl : k < fs.length := by rw [hN.out]; exact hlt
      obtain ⟨gb, off, rfl, y0, y1, y2⟩ := q3.out k hkl
      have KF : Hid (∀ q, Below u4.heap.size u4 q → q.cell? ⟨gb, off + k * 3, none⟩ = some (.int .i64 fs[k].1) ∧ q.cell? ⟨gb, off + k * 3 + 1, none⟩ = some (.int .i64 fs[k].2.1) ∧ q.cell? ⟨gb, off + k * 3 + 2, none⟩ = some (.int .i64 fs[k].2.2)) := fun q hq => ⟨by rw [hq.cell (lt_of_cell y0)]; exact y0, by rw [hq.cell (lt_of_cell y1)]; exact y1, by rw [hq.cell (lt_of_cell y2)]; exact y2⟩
      clear y0 y1 y2
      obtain ⟨y0, y1, y2⟩ := KF.out wr hW.out
      by_cases he : fs[k].1 = s + 1
      · have hRe : Hid (R = fs[k]) := by show _ = _; rw [← hR.out]; exact rfl1_at hkl hno.out he
        have hk4 : fs[k].2.1 ≠ 4 := hK.out _ (List.getElem_mem hkl)
        obtain ⟨F, hF⟩ : ∃ F : Ft, Hid (fs[k] = F) := ⟨fs[k], rfl⟩
        rw [hF.out] at y0 y1 y2 he hk4 hRe KF
        obtain ⟨fa, fk, fp⟩ := F
        dsimp only at y0 y1 y2 he hk4
        subst he
        go_wp2_with fail
        go_quiet (fail)
        have B3 : Hid (Below u4.heap.size u4 (wr.drewN nq)) := hW.out.trans ((Qt.below ⟨nq, rfl⟩ _).mono hW.out.size)
        generalize wr.drewN nq = wy at *
        clear y0 y1 y2 m5 m6 SR
        obtain ⟨m5, m6, SR⟩ := KB.out wy B3.out
        obtain ⟨y0, y1, y2⟩ := KF.out wy B3.out
        replace SR := hide SR
        have z0 := heap_alloc_new wy (.cells #[.int .i64 (s + 1), .int .i64 fk, .int .i64 fp] 118)
        have BX := hide (box_below wy (.cells #[.int .i64 (s + 1), .int .i64 fk, .int .i64 fp] 118))
        obtain ⟨X, hX⟩ : ∃ X, Hid (wy.alloc (.cells #[.int .i64 (s + 1), .int .i64 fk, .int .i64 fp] 118) = X) := ⟨_, rfl⟩
        rw [hX.out] at z0 BX
        have SX0 := hide (SR.out.more BX.out)
        have hne : Hid (wy.heap.size ≠ b) := fun e => by have := heap_lt SR.out.box; omega
        go_upto_region 10 with fail
        rw [hX.out]
        have n0 : X.cell? ⟨wy.heap.size, 0, none⟩ = some (.int .i64 (s + 1)) := by simp [World.cell?, z0]
        have n1 : X.cell? ⟨wy.heap.size, 1, none⟩ = some (.int .i64 fk) := by simp [World.cell?, z0]
        have n2 : X.cell? ⟨wy.heap.size, 2, none⟩ = some (.int .i64 fp) := by simp [World.cell?, z0]
        clear y0 y1 y2 m5 m6
        by_cases h3k : fk = 3
        · subst h3k
          have hbF : Hid (begF cs4 3 = cs4.setIfInBounds 16 (.bool true)) := rfl
          have t1 : X.cell? ⟨b, 16, none⟩ = some x16 := (SX0.out.cell _).trans d6
          have t2 := SX0.out.frozen 16
          go_upto_region 12 with fail
          have SX := hide (SX0.out.set 16 (.bool true))
          have gX := grown_setCell X b 16 (.bool true)
          have z1 := (gX.block wy.heap.size (heap_lt z0) (by simpa using fun e => hne.out e)).trans z0
          generalize X.setCell ⟨b, 16, none⟩ (.bool true) = X1 at *
          clear n0 n1 n2 t1 t2
          have n0 : X1.cell? ⟨wy.heap.size, 0, none⟩ = some (.int .i64 (s + 1)) := by simp [World.cell?, z1]
          have n1 : X1.cell? ⟨wy.heap.size, 1, none⟩ = some (.int .i64 3) := by simp [World.cell?, z1]
          have n2 : X1.cell? ⟨wy.heap.size, 2, none⟩ = some (.int .i64 fp) := by simp [World.cell?, z1]
          obtain ⟨y0, y1, y2⟩ := cells3 SX.out.ans
          obtain ⟨r0, r1, r2⟩ := frozen3 SX.out.ans
          go_wp2_with fail
          have S5 := hide (SX.out.put (s + 1, 3, fp))
          dsimp only at S5
          generalize ((X1.setCell ⟨w.heap.size, 0, none⟩ (.int .i64 (s + 1))).setCell ⟨w.heap.size, 1, none⟩ (.int .i64 3)).setCell ⟨w.heap.size, 2, none⟩ (.int .i64 fp) = u5 at *
          clear y0 y1 y2 r0 r1 r2 n0 n1 n2
          obtain ⟨x0, x1, x2⟩ := cells3 S5.out.ans
          refine bodyPost_ret (v := fv (s + 1, 3, fp)) (by simp [results, Tryz.results97, go_sem, x0, x1, x2]; try rfl) rfl ?_
          rw [hRe.out, hcs.out]
          exact ⟨rfl, by rw [hbF.out]; exact S5.out.box, S5.out.but⟩
        · have hbF : Hid (begF cs4 fk = cs4) := if_neg h3k
          have SX := SX0
          generalize X = X1 at *
          obtain ⟨y0, y1, y2⟩ := cells3 SX.out.ans
          obtain ⟨r0, r1, r2⟩ := frozen3 SX.out.ans
          go_wp2_with fail
          have S5 := hide (SX.out.put (s + 1, fk, fp))
          dsimp only at S5
          generalize ((X1.setCell ⟨w.heap.size, 0, none⟩ (.int .i64 (s + 1))).setCell ⟨w.heap.size, 1, none⟩ (.int .i64 fk)).setCell ⟨w.heap.size, 2, none⟩ (.int .i64 fp) = u5 at *
          clear y0 y1 y2 r0 r1 r2 n0 n1 n2
          obtain ⟨x0, x1, x2⟩ := cells3 S5.out.ans
          refine bodyPost_ret (v := fv (s + 1, fk, fp)) (by simp [results, Tryz.results97, go_sem, x0, x1, x2]; try rfl) rfl ?_
          rw [hRe.out, hcs.out]
          exact ⟨rfl, by rw [hbF.out]; exact S5.out.box, S5.out.but⟩
      · have h2 : Hid (∀ j (hj : j < fs.length), j < k + 1 → (fs[j]).1 ≠ s + 1) := fun j hj c => by
          by_cases e : j = k
          · subst e; exact he
          · exact hno.out j hj (by omega)
        generalize fs[k].1 = f1 at *
        go_wp2_with fail
        go_quiet (fail)
        have B3 : Hid (Below u4.heap.size u4 (wr.drewN nq)) := hW.out.trans ((Qt.below ⟨nq, rfl⟩ _).mono hW.out.size)
        generalize wr.drewN nq = wy at *
        go_wp2_with fail
        go_roundw
        case rel => exact ⟨k + 1, by go_num, by omega, h2, B3⟩
        case measure => simp [intOf]; omega
    · have i1 : ¬ ((k : Int) < (N : Int)) := by omega
      have hRe : Hid (R = zf) := by show _ = _; rw [← hR.out]; exact rfl1_none (fun j hj => hno.out j hj (by have := hN.out; omega))
      obtain ⟨y0, y1, y2⟩ := cells3 SR.out.ans
      obtain ⟨r0, r1, r2⟩ := frozen3 SR.out.ans
      go_wp2_with fail
      have S5 := hide (SR.out.put zf)
      dsimp only [zf] at S5
      generalize ((wr.setCell ⟨w.heap.size, 0, none⟩ (.int .i64 0)).setCell ⟨w.heap.size, 1, none⟩ (.int .i64 0)).setCell ⟨w.heap.size, 2, none⟩ (.int .i64 0) = u5 at *
      clear y0 y1 y2 r0 r1 r2
      obtain ⟨x0, x1, x2⟩ := cells3 S5.out.ans
      refine bodyPost_ret (v := fv zf) (by simp [results, Tryz.results97, go_sem, x0, x1, x2]; try rfl) rfl ?_
      rw [hRe.out, hcs.out]
      exact ⟨rfl, S5.out.box, S5.out.but⟩
end Go.Proofs.YtjehpijjneghpaaGreat.Re
