/-
  Lists of tails, compared; faults that do not panic.
-/
import Derived.Test.YtjehpijjneghpaaGreatM34
import Derived.Test.YtjehpijjneghpaaGreatM35
namespace Go.Proofs.YtjehpijjneghpaaGreat.Re
open Go.RowKit Go.Maps Go.Sort Go.Shelf Go.Proofs.YtjehpijjneghpaaGreat.Nm Go.Proofs.YtjehpijjneghpaaGreat.Dk
set_option linter.unusedVariables false
structure BP (P : Prop) (w : World) (e : Ending) (w' : World) : Prop where
  out : ∃ r, e = .returned (.bool r) ∧ (P → r = true) ∧ Below w.heap.size w w'
theorem bs_ne {a b : List UInt8} (h : a ≠ b) : ((bsOf a).toList == (bsOf b).toList) = false := by
  rw [ByteArray.toList_eq, ByteArray.toList_eq, bsOf_list, bsOf_list]
  simpa using h
set_option maxRecDepth 100000 in
set_option maxHeartbeats 1000000 in
theorem tails_eq (w : World) (va vb : Value) (L M : Tls) (ha : Tr w va L) (hb : Tr w vb M) :
    Calls Tryz.prog 62 #[va, vb] w (BP (L = M) w) := by
  obtain ⟨aa, ac, rfl, a1, a2, a3⟩ := ha
  obtain ⟨ba, bc, rfl, b1, b2, b3⟩ := hb
  obtain ⟨N, hN⟩ : ∃ N, Hid (L.length = N) := ⟨_, rfl⟩
  obtain ⟨N2, hN2⟩ : ∃ N2, Hid (M.length = N2) := ⟨_, rfl⟩
  rw [hN.out] at a1 ⊢
  rw [hN2.out] at b1 ⊢
  replace a3 := hide a3
  replace b3 := hide b3
  by_cases hl : N = N2
  · subst hl
    go_enter Tryz.func62, Tryz.ntmps62
    go_wp2_with fail
    go_loopw [5] (fun i wr => ∃ k : Nat, i = .int .i64 k ∧ k ≤ N ∧ Hid (Below w.heap.size w wr)) (fun i _ => N - (intOf i).toNat)
    case atStart => exact ⟨0, rfl, Nat.zero_le _, Below.refl _ _⟩
    case round =>
      obtain ⟨k, rfl, hk, hB⟩ := hrel
      by_cases hlt : k < N
      · have i1 : (k : Int) < (N : Int) := by omega
        have hkl : k < L.length := by rw [hN.out]; exact hlt
        have hkm : k < M.length := by rw [hN2.out]; exact hlt
        obtain ⟨ga, oa, rfl, x0, x1⟩ := a3.out k hkl
        obtain ⟨gb, ob, rfl, y0, y1⟩ := b3.out k hkm
        rw [← hB.out.cell (p := ⟨ga, oa + k * 2, none⟩) (lt_of_cell x0)] at x0
        rw [← hB.out.cell (p := ⟨ga, oa + k * 2 + 1, none⟩) (lt_of_cell x1)] at x1
        rw [← hB.out.cell (p := ⟨gb, ob + k * 2, none⟩) (lt_of_cell y0)] at y0
        rw [← hB.out.cell (p := ⟨gb, ob + k * 2 + 1, none⟩) (lt_of_cell y1)] at y1
        by_cases he : L[k] = M[k]
        · rw [← he] at y0 y1
          generalize bsOf L[k].1 = t at *
          generalize (L[k].2 : Int) = n at *
          clear he
          go_wp2_with fail
          go_quiet (fail)
          have B3 : Hid (Below w.heap.size w (wr.drewN nq)) := hB.out.trans ((Qt.below ⟨nq, rfl⟩ _).mono hB.out.size)
          generalize wr.drewN nq = wy at *
          go_wp2_with fail
          go_roundw
          case rel => exact ⟨k + 1, by go_num, by omega, B3⟩
          case measure => simp [intOf]; omega
        · have hno : Hid (¬ L = M) := fun c => he (by subst c; rfl)
          by_cases h1 : L[k].1 = M[k].1
          · have h2 : ¬ (L[k].2 : Int) = (M[k].2 : Int) := fun c => he (Prod.ext h1 (by omega))
            rw [← h1] at y0
            generalize bsOf L[k].1 = t at *
            generalize (L[k].2 : Int) = n at *
            generalize (M[k].2 : Int) = m at *
            have h3 : (n == m) = false := by simpa using h2
            clear he h1
            go_wp2_with fail
            go_quiet (fail)
            have B3 : Hid (Below w.heap.size w (wr.drewN nq)) := hB.out.trans ((Qt.below ⟨nq, rfl⟩ _).mono hB.out.size)
            generalize wr.drewN nq = wy at *
            go_wp2_with fail
            go_ret
            exact ⟨⟨_, rfl, fun c => absurd c hno.out, B3.out⟩⟩
          · have h3 := bs_ne h1
            generalize bsOf L[k].1 = t at *
            generalize bsOf M[k].1 = t2 at *
            generalize (L[k].2 : Int) = n at *
            generalize (M[k].2 : Int) = m at *
            clear he h1
            go_wp2_with fail
            go_quiet (fail)
            have B3 : Hid (Below w.heap.size w (wr.drewN nq)) := hB.out.trans ((Qt.below ⟨nq, rfl⟩ _).mono hB.out.size)
            generalize wr.drewN nq = wy at *
            go_wp2_with fail
            go_ret
            exact ⟨⟨_, rfl, fun c => absurd c hno.out, B3.out⟩⟩
      · have i1 : ¬ ((k : Int) < (N : Int)) := by omega
        go_wp2_with fail
        go_ret
        exact ⟨⟨_, rfl, fun _ => rfl, hB.out⟩⟩
  · have i1 : ((N : Int) != (N2 : Int)) = true := by simp; omega
    have hno : Hid (¬ L = M) := fun c => hl (by rw [← hN.out, ← hN2.out, c])
    go_enter Tryz.func62, Tryz.ntmps62
    go_wp2_with fail
    go_ret
    exact ⟨⟨_, rfl, fun c => absurd c hno.out, Below.refl _ _⟩⟩
theorem three_new (w : World) (a b c : Value) (t : TypeId) : ∀ j u, ([a, b, c] : List Value)[j]? = some u → (w.alloc (.cells #[a, b, c] t)).cell? ((⟨w.heap.size, 0, none⟩ : Addr).add j) = some u := by
  intro j u hu
  rw [addr_add]
  match j with
  | 0 => simp at hu; subst hu; simp only [World.cell?, heap_alloc_new]; rfl
  | 1 => simp at hu; subst hu; simp only [World.cell?, heap_alloc_new]; rfl
  | 2 => simp at hu; subst hu; simp only [World.cell?, heap_alloc_new]; rfl
  | j + 3 => simp at hu
theorem calm_take_keep {fs : List Ft} {k : Nat} (hk : k < fs.length) (h : fs[k].2.1 ≠ 4) : calm (fs.take (k + 1)) = calm (fs.take k) ++ [fs[k]] := by
  unfold calm
  rw [List.take_succ_eq_append_getElem hk, List.filter_append]
  simp [h]
theorem calm_take_drop {fs : List Ft} {k : Nat} (hk : k < fs.length) (h : fs[k].2.1 = 4) : calm (fs.take (k + 1)) = calm (fs.take k) := by
  unfold calm
  rw [List.take_succ_eq_append_getElem hk, List.filter_append]
  simp [h]
set_option maxRecDepth 100000 in
set_option maxHeartbeats 1000000 in
theorem calm_any (w : World) (v : Value) (fs : List Ft) (hv : Fts w v fs) (hl : fs.length * 24 ≤ 140737488351232) :
    Calls Tryz.prog 58 #[v] w fun e w' => ∃ v', e = .returned v' ∧ w'.ownsRow w.heap.size 118 3 v' (calm fs).length (acells (calm fs)) ∧ Below w.heap.size w w' := by
  obtain ⟨aa, ac, rfl, a1, a2, a3⟩ := hv
  obtain ⟨N, hN⟩ : ∃ N, Hid (fs.length = N) := ⟨_, rfl⟩
  rw [hN.out] at a1 hl ⊢
  have a2' : ac ≤ 9223372036854775807 := by unfold maxLen at a2; omega
  replace a3 := hide a3
  replace hl := hide hl
  obtain ⟨i0, hi, hz0, hz1, hz2⟩ := info_parts infoFa
  replace hi := hide hi
  clear a2
  go_enter Tryz.func58, Tryz.ntmps58
  go_wp2_with fail
  go_loopw [3, 4] (fun v3 i wr => ∃ k : Nat, i = .int .i64 k ∧ k ≤ N ∧ Hid (wr.ownsRow w.heap.size 118 3 v3 (calm (fs.take k)).length (acells (calm (fs.take k)))) ∧ Hid (Below w.heap.size w wr)) (fun _ i _ => N - (intOf i).toNat)
  case atStart => exact ⟨0, rfl, Nat.zero_le _, World.ownsRow_nil _ _ _ _, Below.refl _ _⟩
  case round =>
    obtain ⟨k, rfl, hk, hO, hB⟩ := hrel
    by_cases hlt : k < N
    · have i1 : (k : Int) < (N : Int) := by omega
      have hkl : k < fs.length := by rw [hN.out]; exact hlt
      obtain ⟨ga, oa, rfl, x0, x1, x2⟩ := a3.out k hkl
      rw [← hB.out.cell (p := ⟨ga, oa + k * 3, none⟩) (lt_of_cell x0)] at x0
      rw [← hB.out.cell (p := ⟨ga, oa + k * 3 + 1, none⟩) (lt_of_cell x1)] at x1
      rw [← hB.out.cell (p := ⟨ga, oa + k * 3 + 2, none⟩) (lt_of_cell x2)] at x2
      by_cases h4 : fs[k].2.1 = 4
      · have hs := hide (calm_take_drop hkl h4)
        rw [h4] at x1
        go_wp2_with fail
        go_roundw
        case rel => exact ⟨k + 1, by go_num, by omega, by rw [hs.out]; exact hO, hB⟩
        case measure => simp [intOf]; omega
      · have hs := hide (calm_take_keep hkl h4)
        have hll : Hid ((calm (fs.take k)).length ≤ k) := by show _ ≤ _; have := List.length_filter_le (fun t : Ft => t.2.1 != 4) (fs.take k); rw [List.length_take] at this; unfold calm; omega
        have hte : Hid (acells [fs[k]] = [.int .i64 fs[k].1, .int .i64 fs[k].2.1, .int .i64 fs[k].2.2]) := rfl
        have h4' : (fs[k].2.1 != 4) = true := by simpa using h4
        generalize fs[k].2.1 = fk at *
        generalize fs[k].2.2 = fp at *
        generalize fs[k].1 = fa at *
        generalize fs[k] = ft at *
        generalize calm (fs.take k) = D at *
        have B5 := hide (hB.out.trans ((box_below wr (.cells #[.int .i64 fa, .int .i64 fk, .int .i64 fp] 118)).mono hB.out.size))
        have O5 : Hid (World.ownsRow (wr.alloc (.cells #[.int .i64 fa, .int .i64 fk, .int .i64 fp] 118)) w.heap.size 118 3 u3 D.length (acells D)) := hO.out.alloc _
        have hz := hide B5.out.size
        clear h4
        go_wp2_with (at_builtin; refine wpList_append_lies _ rfl (.tmp 17) (.tmp 22) 31 rfl w.heap.size 118 i0 (.agg #[.int .i64 0, .int .i64 0, .int .i64 0]) 3 24 Tryz.underlying31 hi.out hz0 hz1 hz2 rfl (by decide) u3 D.length (acells D) rfl O5.out ⟨wr.heap.size, 0, none⟩ 1 1 [.int .i64 fa, .int .i64 fk, .int .i64 fp] rfl rfl (three_new wr _ _ _ _) (by simp [Value.oneCell']) (by decide) (by have := hll.out; have := hl.out; unfold maxLen; omega) (by have := hll.out; have := hl.out; omega) hz.out (wr.heap.size + 1) (by simp) ?_; intro g2 cap2 w5 ho5 hg5 hat hlt5; replace ho5 := hide ho5; replace hg5 := hide hg5)
        go_roundw
        case rel =>
          refine ⟨k + 1, by go_num, by omega, ?_, Below.grown B5.out hg5.out hz.out (fun j hj => (World.ownsRow.lt O5.out j hj).1)⟩
          show World.ownsRow _ _ _ _ _ _ _
          rw [hs.out, List.length_append, show acells (D ++ [ft]) = acells D ++ acells [ft] by simp [acells], hte.out]
          exact ho5.out
        case measure => simp [intOf]; omega
    · have i1 : ¬ ((k : Int) < (N : Int)) := by omega
      obtain rfl : k = N := by omega
      rw [List.take_of_length_le (by rw [hN.out]; omega)] at hO
      go_wp2_with fail
      go_ret
      exact ⟨_, rfl, hO.out, hB.out⟩
end Go.Proofs.YtjehpijjneghpaaGreat.Re
namespace Go.Proofs.YtjehpijjneghpaaGreat.Re
open Go.RowKit Go.Maps Go.Sort Go.Shelf Go.Proofs.YtjehpijjneghpaaGreat.Nm Go.Proofs.YtjehpijjneghpaaGreat.Dk
open Ix (wp_region_T wpAnyT wpAnyT_take wpAnyT_one wpAnyT_done vac)
set_option linter.unusedVariables false
variable {W0 w : World} {pb b : Nat} {S : DS} {R : RB} {Q : Nat → Prop}
set_option maxRecDepth 100000 in
set_option maxHeartbeats 2000000 in
theorem pl_append (o : Dop) (hk : o.kind = 2) (h : PlI W0 w pb b S R o Q) : Calls Tryz.prog 11 #[.pointer (some ⟨pb, 0, none⟩), opV o] w (PlP w pb b S R o Q) := by
  obtain ⟨rb, O, V, hx, hQ⟩ := h.pw
  have hI := hide h
  have HX := hide hx
  have hlt := hide hx.lt
  have hpR : Hid (R.play o = if 32768 < o.dat.length then R else (R.append o.nm o.dat).1) := by show _ = _; unfold RB.play; simp [hk]
  have hpS : Hid (∀ S', S' = (if 32768 < o.dat.length then S else (S.append o.nm o.dat).1) → DS.play S o S') := fun S' hs => by unfold DS.play; simp [hk, hs]
  have hD : Sl w o.vd o.dat := Below.sl h.bel h.ok.dat
  have hDo : Hid (SOff (own pb O rb V) o.vd) := fun g off n c e hn hc => by
    have q1 := h.lo g (by rw [hQ]; exact hc)
    have hS0 := h.ok.dat
    obtain ⟨ao, ca, e1, _, _, _, h5⟩ := hS0
    rw [e] at e1
    simp only [Value.slice.injEq] at e1
    obtain ⟨rfl, rfl, rfl⟩ := e1
    obtain ⟨g', off', e2, hcl⟩ := h5 0 hn
    simp only [Option.some.injEq, Addr.mk.injEq] at e2
    obtain ⟨rfl, _⟩ := e2
    have := lt_of_cell hcl
    simp only at this
    omega
  obtain ⟨ok, os, on, ot, ov, oD, oo, onn, of, ofs, od, ovk, oks⟩ := o
  dsimp only at *
  subst hk
  have DD := hide hD
  obtain ⟨va, vc, rfl, _, v3, v4, _⟩ := hD
  have v4' : vc ≤ 9223372036854775807 := by unfold maxLen at v4; omega
  have lenD : (oD.length : Int) ≤ 140737488355328 := by have := hI.out.ok.datl; dsimp only at this; omega
  have BF := hide (box_below w (.cells #[.int .i64 2, .bool os, .string on, .string ot, .slice va oD.length vc, .int .i64 oo, .int .i64 onn, of, .int .i64 od, ovk] 36))
  have NF := heap_alloc_new w (.cells #[.int .i64 2, .bool os, .string on, .string ot, .slice va oD.length vc, .int .i64 oo, .int .i64 onn, of, .int .i64 od, ovk] 36)
  clear hx h
  unfold opV
  go_enter Tryz.func11, Tryz.ntmps11
  obtain ⟨wf, hwf⟩ : ∃ wf, Hid (w.alloc (.cells #[.int .i64 2, .bool os, .string on, .string ot, .slice va oD.length vc, .int .i64 oo, .int .i64 onn, of, .int .i64 od, ovk] 36) = wf) := ⟨_, rfl⟩
  have c0 : (w.alloc (.cells #[.int .i64 2, .bool os, .string on, .string ot, .slice va oD.length vc, .int .i64 oo, .int .i64 onn, of, .int .i64 od, ovk] 36)).cell? ⟨w.heap.size, 0, none⟩ = some (.int .i64 2) := (ten_cells NF).1
  have c4 : (w.alloc (.cells #[.int .i64 2, .bool os, .string on, .string ot, .slice va oD.length vc, .int .i64 oo, .int .i64 onn, of, .int .i64 od, ovk] 36)).cell? ⟨w.heap.size, 4, none⟩ = some (.slice va oD.length vc) := (ten_cells NF).2.2.2.2.1
  have c7 : (w.alloc (.cells #[.int .i64 2, .bool os, .string on, .string ot, .slice va oD.length vc, .int .i64 oo, .int .i64 onn, of, .int .i64 od, ovk] 36)).cell? ⟨w.heap.size, 7, none⟩ = some (of) := (ten_cells NF).2.2.2.2.2.2.2.1
  by_cases hbig : 32768 < oD.length
  · have i1 : (oD.length : Int) > 32768 := by omega
    have hE : Hid ((if 32768 < oD.length then R else (R.append on oD).1) = R) := if_pos hbig
    rw [hE.out] at hpR
    go_wp2_with fail
    go_ret
    refine ⟨⟨true, S, Q, b, rfl, ?_, ?_, hpS.out S (by rw [if_pos hbig]), fun _ => rfl, fun _ => rfl⟩⟩
    · rw [hpR.out]; exact ⟨rb, O, V, HX.out.below BF.out, hQ⟩
    · exact Sgo.of_below BF.out
  · have i1 : ¬ ((oD.length : Int) > 32768) := by omega
    rw [if_neg hbig] at hpR
    replace hpS : Hid (∀ S', S' = (S.append on oD).1 → DS.play S ⟨2, os, on, ot, .slice va oD.length vc, oD, oo, onn, of, ofs, od, ovk, oks⟩ S') := fun S' hs => hpS.out S' (by rw [if_neg hbig]; exact hs)
    have hLe : Hid (∀ q, Below w.heap.size w q → Calls Tryz.prog 45 #[.slice va oD.length vc] q fun e w' => ∃ g v', e = .returned v' ∧ LentAt w' g v' oD ∧ Below q.heap.size q w' ∧ q.heap.size ≤ g) := fun q hq => lent_any q _ oD (Below.sl hq DD.out) (by omega)
    have BFo := BF.out
    go_upto_region 8 with (go_at_call 45; refine (hLe.out _ BFo).mono ?_; rintro e wl ⟨lg, lv, rfl, LA, LB, LZ⟩; obtain ⟨lcap, el, lo⟩ := id LA; subst el; replace LA := hide LA; replace LB := hide LB; replace LZ := hide LZ; replace lo := hide lo)
    rw [hwf.out] at BF NF LB LZ
    clear c0 c4 c7 BFo
    have MX := hide (HX.out.below BF.out)
    have hob : Hid (¬ own pb O rb V w.heap.size) := fun c => Nat.lt_irrefl _ (hlt.out _ c)
    have B0 : Hid (Bxs pb w.heap.size b rb ⟨2, os, on, ot, .slice va oD.length vc, oD, oo, onn, of, ofs, od, ovk, oks⟩ wf) := ⟨MX.out.box, NF⟩
    have KB : Hid (∀ u u', Bxs pb w.heap.size b rb ⟨2, os, on, ot, .slice va oD.length vc, oD, oo, onn, of, ofs, od, ovk, oks⟩ u → Below u.heap.size u u' → Bxs pb w.heap.size b rb ⟨2, os, on, ot, .slice va oD.length vc, oD, oo, onn, of, ofs, od, ovk, oks⟩ u') := fun u u' h hb => h.go (But.of_below hb fun _ => False) (fun c => c) (fun c => c)
    have ML := hide (MX.out.below LB.out)
    have BL : Hid (Bxs pb w.heap.size b rb ⟨2, os, on, ot, .slice va oD.length vc, oD, oo, onn, of, ofs, od, ovk, oks⟩ wl) := KB.out _ _ B0.out LB.out
    have LN : Hid (¬ own pb O rb V lg) := fun c => by have := MX.out.lt _ c; have := LZ.out; omega
    have hA : Hid (∀ q, Below wl.heap.size wl q → PX q pb b rb S R O V → Calls Tryz.prog 16 #[.pointer (some ⟨b, 0, none⟩), .string on, .slice (some ⟨lg, 0, none⟩) oD.length lcap] q fun e w' => ∃ O', e = .returned (.tuple #[.int .i64 (S.append on oD).2.1, .int .i64 (S.append on oD).2.2]) ∧ PX w' pb b rb (S.append on oD).1 R O' V ∧ Sgo q w' (own pb O rb V) (own pb O' rb V)) := fun q hb hq => by
      refine (append_dsk hq.d on (by have := hI.out.ok.nm; unfold maxLen; dsimp only at this; omega) _ oD (LA.out.below hb).sl (fun g off n c e _ hc => ?_) (by have := hI.out.cs; omega)).mono ?_
      · simp only [Value.slice.injEq, Option.some.injEq, Addr.mk.injEq] at e
        obtain ⟨⟨rfl, _⟩, _⟩ := e
        exact LN.out (.inr (.inl hc))
      · rintro e w' ⟨rfl, O', hd, hg⟩
        obtain ⟨px, gx⟩ := hq.stepA hd hg
        exact ⟨O', rfl, px, gx⟩
    have hB : Hid (∀ q S' O', Sl q (.slice va oD.length vc) oD → PX q pb b rb S' R O' V → Calls Tryz.prog 46 #[.pointer (some ⟨rb, 0, none⟩), .string on, .slice va oD.length vc] q fun e w' => ∃ V', e = .returned (.tuple #[.int .i64 (R.append on oD).2.1, .int .i64 (R.append on oD).2.2]) ∧ PX w' pb b rb S' (R.append on oD).1 O' V' ∧ Sgo q w' (own pb O' rb V) (own pb O' rb V')) := fun q S' O' hs hq => by
      have Ri := hI.out.ri
      have hsum := sum_le Ri R.dir.length
      have hdl := Ri.dlen
      have hc8 := Ri.c8
      have hcr := hI.out.cr
      refine (append_rm hq.r Ri.ok (by omega) Ri.dirF Ri.flt.2 Ri.most.1 Ri.most.2 (by omega) (by omega) on (by have := hI.out.ok.nm; unfold maxLen; dsimp only at this; omega) _ oD hs (fun g off n c e hn hc => ?_) ?_).mono ?_
      · obtain ⟨x, hx⟩ := hc
        exact hDo.out g off n c e hn (.inr (.inr ⟨x, hx⟩))
      · by_cases h0 : refN R.down R.dir on true = 0
        · have := ap_size Ri h0 oD.length; omega
        · have h1 := (rapN_le R oD.length).1
          have h2 := (fOf_la Ri (R.pOf on)).2
          rw [← lenOf_fOf] at h2
          omega
      · rintro e w' ⟨rfl, hg⟩
        obtain ⟨V', px, gx⟩ := hq.stepB hg
        exact ⟨V', rfl, px, gx⟩
    obtain ⟨RS, hRS⟩ : ∃ RS, Hid (S.append on oD = RS) := ⟨_, rfl⟩
    obtain ⟨RR, hRR⟩ : ∃ RR, Hid (R.append on oD = RR) := ⟨_, rfl⟩
    rw [hRS.out] at hA hpS
    rw [hRR.out] at hB hpR
    have hRel : Hid (Rel S R → RS.2 = RR.2) := fun hr => by rw [← hRS.out, ← hRR.out]; exact (hr.append on oD).2
    have KP : Hid (Bxs pb w.heap.size b rb ⟨2, os, on, ot, .slice va oD.length vc, oD, oo, onn, of, ofs, od, ovk, oks⟩ wl.drew) := KB.out _ _ BL.out (Below.refl _ _).drew
    have PQ : Hid (PX wl.drew pb b rb S R O V) := ML.out.below (Below.refl _ _).drew
    have GQ : Hid (Below wl.heap.size wl wl.drew) := (Below.refl _ _).drew
    refine wp_region_T (fun q => Bxs pb w.heap.size b rb ⟨2, os, on, ot, .slice va oD.length vc, oD, oo, onn, of, ofs, od, ovk, oks⟩ q) 12 (by kernel_rfl) ?_
    generalize wl.drew = q at *
    refine Ix.tk 0 ⟨some 51, .move (.tmp 0), 37, "law.go:117", #[], none⟩ (.pointer (some ⟨pb, 0, none⟩)) [12] ?_ KP.out ?_
    · intro wq hSw; go_simp
    (try simp only [zzp, zza, zzb, zzc])
    refine Ix.tk 1 ⟨some 52, .nilCheck (.tmp 51), 0, "law.go:117", #[⟨0,.data⟩], none⟩ (.pointer (some ⟨pb, 0, none⟩)) [12] ?_ KP.out ?_
    · intro wq hSw; go_simp
    (try simp only [zzp, zza, zzb, zzc])
    refine Ix.tk 2 ⟨some 53, .fieldAddr 29 (.tmp 52) 0, 0, "law.go:117", #[⟨1,.data⟩], none⟩ (.pointer (some ⟨pb, 0, none⟩)) [12] ?_ KP.out ?_
    · intro wq hSw; go_simp
    (try simp only [zzp, zza, zzb, zzc])
    refine Ix.tk 3 ⟨some 54, .load 24 (.tmp 53), 24, "law.go:117", #[⟨2,.data⟩], none⟩ (.pointer (some ⟨b, 0, none⟩)) [12] ?_ KP.out ?_
    · intro wq hSw
      obtain ⟨x1, x2⟩ := two_cells hSw.p
      obtain ⟨y0, y1, y2, y3, y4, y5, y6, y7, y8, y9⟩ := ten_cells hSw.o
      go_simp
    (try simp only [zzp, zza, zzb, zzc])
    refine Ix.tk 4 ⟨some 55, .fieldAddr 36 (.tmp 3) 2, 0, "law.go:117", #[], none⟩ (.pointer (some ⟨w.heap.size, 2, none⟩)) [12] ?_ KP.out ?_
    · intro wq hSw; go_simp
    (try simp only [zzp, zza, zzb, zzc])
    refine Ix.tk 5 ⟨some 56, .load 9 (.tmp 55), 9, "law.go:117", #[⟨4,.data⟩], none⟩ (.string on) [12] ?_ KP.out ?_
    · intro wq hSw
      obtain ⟨x1, x2⟩ := two_cells hSw.p
      obtain ⟨y0, y1, y2, y3, y4, y5, y6, y7, y8, y9⟩ := ten_cells hSw.o
      go_simp
    (try simp only [zzp, zza, zzb, zzc])
    refine Ix.tk 6 ⟨some 57, .move (.tmp 5), 30, "law.go:117", #[], none⟩ (.slice (some ⟨lg, 0, none⟩) oD.length lcap) [12] ?_ KP.out ?_
    · intro wq hSw; go_simp
    (try simp only [zzp, zza, zzb, zzc])
    refine wpAnyT_one (i := 7) (o := ⟨some 58, .call { callee := .value (.func 16), args := #[.tmp 54, .tmp 56, .tmp 57], argTypes := #[24, 9, 30] }, 44, "law.go:117", #[⟨3, .data⟩, ⟨5, .data⟩, ⟨6, .data⟩], none⟩) (by kernel_rfl) rfl (fun K hK => ?_)
    go_simp
    go_at_call 16
    refine (hA.out q GQ.out PQ.out).mono ?_
    rintro e w1 ⟨O1, rfl, P1, G1⟩
    replace P1 := hide P1
    replace G1 := hide G1
    have K1 : Hid (Bxs pb w.heap.size b rb ⟨2, os, on, ot, .slice va oD.length vc, oD, oo, onn, of, ofs, od, ovk, oks⟩ w1) := ⟨P1.out.box, G1.out.but.at KP.out.o hob.out⟩
    (try go_simp)
    refine hK.out _ _ (fun _ => K1.out) ?_
    clear hK K
    (try simp only [zzp, zza, zzb, zzc])
    refine Ix.tk 8 ⟨some 50, .move (.tmp 58), 44, "law.go:117", #[⟨7,.data⟩], none⟩ (.tuple #[.int .i64 RS.2.1, .int .i64 RS.2.2]) [12] ?_ K1.out ?_
    · intro wq hSw; go_simp
    (try simp only [zzp, zza, zzb, zzc])
    refine Ix.tk 9 ⟨some 59, .extract (.tmp 50) 0, 3, "law.go:117", #[⟨8,.data⟩], none⟩ (.int .i64 RS.2.1) [12] ?_ K1.out ?_
    · intro wq hSw
      obtain ⟨x1, x2⟩ := two_cells hSw.p
      obtain ⟨y0, y1, y2, y3, y4, y5, y6, y7, y8, y9⟩ := ten_cells hSw.o
      go_simp
    (try simp only [zzp, zza, zzb, zzc])
    refine Ix.tk 10 ⟨some 60, .extract (.tmp 50) 1, 41, "law.go:117", #[⟨8,.data⟩, { on := 11, ground := Ground.gcOnly Departure.lateStores }], none⟩ (.int .i64 RS.2.2) [12] ?_ K1.out ?_
    · intro wq hSw
      obtain ⟨x1, x2⟩ := two_cells hSw.p
      obtain ⟨y0, y1, y2, y3, y4, y5, y6, y7, y8, y9⟩ := ten_cells hSw.o
      go_simp
    (try simp only [zzp, zza, zzb, zzc])
    refine Ix.tk 11 ⟨some 6, .assign (.tmp 59), 3, "law.go:117", #[⟨9,.data⟩,⟨7,.chain⟩,⟨0,.phase⟩,⟨1,.phase⟩,⟨2,.phase⟩,⟨3,.phase⟩,⟨4,.phase⟩,⟨5,.phase⟩,⟨6,.phase⟩,⟨7,.phase⟩,⟨8,.phase⟩,⟨9,.phase⟩, { on := 10, ground := Ground.textOnly Departure.lateStores }], none⟩ (.int .i64 RS.2.1) [12] ?_ K1.out ?_
    · intro wq hSw
      obtain ⟨x1, x2⟩ := two_cells hSw.p
      obtain ⟨y0, y1, y2, y3, y4, y5, y6, y7, y8, y9⟩ := ten_cells hSw.o
      go_simp
    (try simp only [zzp, zza, zzb, zzc])
    refine wpAnyT_one (i := 12) (o := ⟨some 7, .assign (.tmp 60), 41, "law.go:117", #[⟨10, .data⟩, ⟨11, .chain⟩, ⟨0, .phase⟩, ⟨1, .phase⟩, ⟨2, .phase⟩, ⟨3, .phase⟩, ⟨4, .phase⟩, ⟨5, .phase⟩, ⟨6, .phase⟩, ⟨7, .phase⟩, ⟨8, .phase⟩, ⟨9, .phase⟩, ⟨10, .phase⟩, ⟨11, .phase⟩], none⟩) (by kernel_rfl) rfl (fun K hK => ?_)
    go_simp
    refine hK.out _ _ (vac (by kernel_rfl)) ?_
    clear hK K
    (try simp only [zzp, zza, zzb, zzc])
    refine wpAnyT_done (by kernel_rfl) ?_ _
    have S1 : Hid (Sl w1 (.slice va oD.length vc) oD) := sl_but (Below.sl GQ.out (Below.sl LB.out (Below.sl BF.out DD.out))) G1.out.but hDo.out
    have hob1 : Hid (¬ own pb O1 rb V w.heap.size) := fun c => (G1.out.own _ c).elim hob.out (fun c => by have := heap_lt KP.out.o; omega)
    have lgq : Hid (lg < q.heap.size) := Nat.lt_of_lt_of_le LA.out.lt GQ.out.size
    have LN1 : Hid (¬ own pb O1 rb V lg) := fun c => (G1.out.own _ c).elim LN.out (fun c => by have := lgq.out; omega)
    have LW1 : Hid (LentAt w1 lg (.slice (some ⟨lg, 0, none⟩) oD.length lcap) oD) := ⟨lcap, rfl, ownsRow_but (ownsRow_below lo.out GQ.out) G1.out.but (fun k hk c => by simp [Value.ownBlock] at hk; subst hk; exact LN.out c)⟩
    have KP1 : Hid (Bxs pb w.heap.size b rb ⟨2, os, on, ot, .slice va oD.length vc, oD, oo, onn, of, ofs, od, ovk, oks⟩ w1.drew) := KB.out _ _ K1.out (Below.refl _ _).drew
    have PQ1 : Hid (PX w1.drew pb b rb RS.1 R O1 V) := P1.out.below (Below.refl _ _).drew
    have GQ1 : Hid (Below w1.heap.size w1 w1.drew) := (Below.refl _ _).drew
    have SQ1 : Hid (Sl w1.drew (.slice va oD.length vc) oD) := Below.sl GQ1.out S1.out
    go_upto_region 9 with fail
    refine wp_region_T (fun q => Bxs pb w.heap.size b rb ⟨2, os, on, ot, .slice va oD.length vc, oD, oo, onn, of, ofs, od, ovk, oks⟩ q) 13 (by kernel_rfl) ?_
    generalize w1.drew = q1 at *
    refine Ix.tk 0 ⟨some 62, .move (.tmp 0), 37, "law.go:118", #[], none⟩ (.pointer (some ⟨pb, 0, none⟩)) [13] ?_ KP1.out ?_
    · intro wq hSw; go_simp
    (try simp only [zzp, zza, zzb, zzc])
    refine Ix.tk 1 ⟨some 63, .nilCheck (.tmp 62), 0, "law.go:118", #[⟨0,.data⟩], none⟩ (.pointer (some ⟨pb, 0, none⟩)) [13] ?_ KP1.out ?_
    · intro wq hSw; go_simp
    (try simp only [zzp, zza, zzb, zzc])
    refine Ix.tk 2 ⟨some 64, .fieldAddr 29 (.tmp 63) 1, 0, "law.go:118", #[⟨1,.data⟩], none⟩ (.pointer (some ⟨pb, 1, none⟩)) [13] ?_ KP1.out ?_
    · intro wq hSw; go_simp
    (try simp only [zzp, zza, zzb, zzc])
    refine Ix.tk 3 ⟨some 65, .load 26 (.tmp 64), 26, "law.go:118", #[⟨2,.data⟩], none⟩ (.pointer (some ⟨rb, 0, none⟩)) [13] ?_ KP1.out ?_
    · intro wq hSw
      obtain ⟨x1, x2⟩ := two_cells hSw.p
      obtain ⟨y0, y1, y2, y3, y4, y5, y6, y7, y8, y9⟩ := ten_cells hSw.o
      go_simp
    (try simp only [zzp, zza, zzb, zzc])
    refine Ix.tk 4 ⟨some 66, .fieldAddr 36 (.tmp 3) 2, 0, "law.go:118", #[], none⟩ (.pointer (some ⟨w.heap.size, 2, none⟩)) [13] ?_ KP1.out ?_
    · intro wq hSw; go_simp
    (try simp only [zzp, zza, zzb, zzc])
    refine Ix.tk 5 ⟨some 67, .load 9 (.tmp 66), 9, "law.go:118", #[⟨4,.data⟩], none⟩ (.string on) [13] ?_ KP1.out ?_
    · intro wq hSw
      obtain ⟨x1, x2⟩ := two_cells hSw.p
      obtain ⟨y0, y1, y2, y3, y4, y5, y6, y7, y8, y9⟩ := ten_cells hSw.o
      go_simp
    (try simp only [zzp, zza, zzb, zzc])
    refine Ix.tk 6 ⟨some 68, .fieldAddr 36 (.tmp 3) 4, 0, "law.go:118", #[], none⟩ (.pointer (some ⟨w.heap.size, 4, none⟩)) [13] ?_ KP1.out ?_
    · intro wq hSw; go_simp
    (try simp only [zzp, zza, zzb, zzc])
    refine Ix.tk 7 ⟨some 69, .load 30 (.tmp 68), 30, "law.go:118", #[⟨6,.data⟩], none⟩ (.slice va oD.length vc) [13] ?_ KP1.out ?_
    · intro wq hSw
      obtain ⟨x1, x2⟩ := two_cells hSw.p
      obtain ⟨y0, y1, y2, y3, y4, y5, y6, y7, y8, y9⟩ := ten_cells hSw.o
      go_simp
    (try simp only [zzp, zza, zzb, zzc])
    refine wpAnyT_one (i := 8) (o := ⟨some 70, .call { callee := .value (.func 46), args := #[.tmp 65, .tmp 67, .tmp 69], argTypes := #[26, 9, 30] }, 44, "law.go:118", #[⟨3, .data⟩, ⟨5, .data⟩, ⟨7, .data⟩], none⟩) (by kernel_rfl) rfl (fun K hK => ?_)
    go_simp
    go_at_call 46
    refine (hB.out q1 _ _ SQ1.out PQ1.out).mono ?_
    rintro e w2 ⟨V2, rfl, P2, G2⟩
    replace P2 := hide P2
    replace G2 := hide G2
    have K2 : Hid (Bxs pb w.heap.size b rb ⟨2, os, on, ot, .slice va oD.length vc, oD, oo, onn, of, ofs, od, ovk, oks⟩ w2) := ⟨P2.out.box, G2.out.but.at KP1.out.o hob1.out⟩
    (try go_simp)
    refine hK.out _ _ (fun _ => K2.out) ?_
    clear hK K
    (try simp only [zzp, zza, zzb, zzc])
    refine Ix.tk 9 ⟨some 61, .move (.tmp 70), 44, "law.go:118", #[⟨8,.data⟩], none⟩ (.tuple #[.int .i64 RR.2.1, .int .i64 RR.2.2]) [13] ?_ K2.out ?_
    · intro wq hSw; go_simp
    (try simp only [zzp, zza, zzb, zzc])
    refine Ix.tk 10 ⟨some 71, .extract (.tmp 61) 0, 3, "law.go:118", #[⟨9,.data⟩], none⟩ (.int .i64 RR.2.1) [13] ?_ K2.out ?_
    · intro wq hSw
      obtain ⟨x1, x2⟩ := two_cells hSw.p
      obtain ⟨y0, y1, y2, y3, y4, y5, y6, y7, y8, y9⟩ := ten_cells hSw.o
      go_simp
    (try simp only [zzp, zza, zzb, zzc])
    refine Ix.tk 11 ⟨some 72, .extract (.tmp 61) 1, 41, "law.go:118", #[⟨9,.data⟩, { on := 12, ground := Ground.gcOnly Departure.lateStores }], none⟩ (.int .i64 RR.2.2) [13] ?_ K2.out ?_
    · intro wq hSw
      obtain ⟨x1, x2⟩ := two_cells hSw.p
      obtain ⟨y0, y1, y2, y3, y4, y5, y6, y7, y8, y9⟩ := ten_cells hSw.o
      go_simp
    (try simp only [zzp, zza, zzb, zzc])
    refine Ix.tk 12 ⟨some 8, .assign (.tmp 71), 3, "law.go:118", #[⟨10,.data⟩,⟨8,.chain⟩,⟨0,.phase⟩,⟨1,.phase⟩,⟨2,.phase⟩,⟨3,.phase⟩,⟨4,.phase⟩,⟨5,.phase⟩,⟨6,.phase⟩,⟨7,.phase⟩,⟨8,.phase⟩,⟨9,.phase⟩,⟨10,.phase⟩, { on := 11, ground := Ground.textOnly Departure.lateStores }], none⟩ (.int .i64 RR.2.1) [13] ?_ K2.out ?_
    · intro wq hSw
      obtain ⟨x1, x2⟩ := two_cells hSw.p
      obtain ⟨y0, y1, y2, y3, y4, y5, y6, y7, y8, y9⟩ := ten_cells hSw.o
      go_simp
    (try simp only [zzp, zza, zzb, zzc])
    refine wpAnyT_one (i := 13) (o := ⟨some 9, .assign (.tmp 72), 41, "law.go:118", #[⟨11, .data⟩, ⟨12, .chain⟩, ⟨0, .phase⟩, ⟨1, .phase⟩, ⟨2, .phase⟩, ⟨3, .phase⟩, ⟨4, .phase⟩, ⟨5, .phase⟩, ⟨6, .phase⟩, ⟨7, .phase⟩, ⟨8, .phase⟩, ⟨9, .phase⟩, ⟨10, .phase⟩, ⟨11, .phase⟩, ⟨12, .phase⟩], none⟩) (by kernel_rfl) rfl (fun K hK => ?_)
    go_simp
    refine hK.out _ _ (vac (by kernel_rfl)) ?_
    clear hK K
    (try simp only [zzp, zza, zzb, zzc])
    refine wpAnyT_done (by kernel_rfl) ?_ _
    have d4 := (ten_cells K2.out.o).2.2.2.2.1
    have LN2 : Hid (¬ own pb O1 rb V2 lg) := fun c => (G2.out.own _ c).elim LN1.out (fun c => by have q1 := LW1.out.lt; have q2 := GQ1.out.size; omega)
    have LW2 : Hid (LentAt w2 lg (.slice (some ⟨lg, 0, none⟩) oD.length lcap) oD) := by
      obtain ⟨cap, e, hr⟩ := LW1.out
      exact ⟨cap, e, ownsRow_but (ownsRow_below hr GQ1.out) G2.out.but (fun k hk c => by simp [Value.ownBlock] at hk; subst hk; exact LN1.out c)⟩
    have lgw : Hid (w.heap.size ≤ lg) := by show _ ≤ _; have q1 := LZ.out; have q2 := BF.out.size; omega
    have GA : Hid (Sgo w w2 (own pb O rb V) (own pb O1 rb V2)) := (Sgo.of_below ((BF.out.trans (LB.out.mono BF.out.size)).trans (GQ.out.mono (Nat.le_trans BF.out.size LB.out.size)))).trans (G1.out.trans ((Sgo.of_below GQ1.out).trans G2.out))
    have hfin : Hid (PW w2 pb b RS.1 (R.play ⟨2, os, on, ot, .slice va oD.length vc, oD, oo, onn, of, ofs, od, ovk, oks⟩) (own pb O1 rb V2)) := by show PW _ _ _ _ _ _; rw [hpR.out]; exact P2.out.toPW
    by_cases e1 : RS.2.1 = RR.2.1
    · by_cases e2 : RS.2.2 = RR.2.2
      · have BW : Hid (Below W0.heap.size W0 w2) := GA.out.under (fun k hk => hI.out.lo k (by rw [hQ]; exact hk)) (Nat.le_refl _) hI.out.bel
        have hBk : Hid (Calls Tryz.prog 47 #[.slice (some ⟨lg, 0, none⟩) oD.length lcap, .slice va oD.length vc] w2 fun e w' => e = .returned (.bool true) ∧ w2.grownBy w' (some lg)) := back_any W0 w2 lg _ _ oD BW.out hI.out.ok.dat LW2.out (by have q1 := lgw.out; have q2 := hI.out.bel.size; omega) (by omega)
        have i3 : (RS.2.1 == RR.2.1) = true := by simpa using e1
        have i4 : (RS.2.2 == RR.2.2) = true := by simpa using e2
        clear hA hB hLe e1 e2
        go_wp2_with (go_at_call 47; refine hBk.out.mono ?_; rintro e w3 ⟨rfl, gr⟩)
        go_ret
        have gB := But.of_grownBy (X := fun k => k = lg) gr fun k e => by cases e; rfl
        refine ⟨⟨true, RS.1, _, b, rfl, hfin.out.but gB (fun k hk e => LN2.out (by rw [← e]; exact hk)), ?_, hpS.out _ rfl, fun _ => rfl, fun _ => rfl⟩⟩
        have hG : Sgo w w3 (own pb O rb V) (own pb O1 rb V2) := ⟨but_trans_new GA.out.but gB (fun k e => .inr (by rw [e]; exact lgw.out)), GA.out.own⟩
        first | exact hG | (rw [hQ]; exact hG)
      · have i3 : (RS.2.1 == RR.2.1) = true := by simpa using e1
        have i4 : (RS.2.2 == RR.2.2) = false := by simpa using e2
        replace e2 := hide e2
        clear hA hB hLe e1
        go_wp2_with fail
        go_ret
        refine ⟨⟨false, RS.1, _, b, rfl, hfin.out, ?_, hpS.out _ rfl, fun hr => absurd (congrArg (·.2) (hRel.out hr)) e2.out, fun _ => rfl⟩⟩
        first | exact GA.out | (rw [hQ]; exact GA.out)
    · have i3 : (RS.2.1 == RR.2.1) = false := by simpa using e1
      replace e1 := hide e1
      clear hA hB hLe
      go_wp2_with fail
      go_ret
      refine ⟨⟨false, RS.1, _, b, rfl, hfin.out, ?_, hpS.out _ rfl, fun hr => absurd (congrArg (·.1) (hRel.out hr)) e1.out, fun _ => rfl⟩⟩
      first | exact GA.out | (rw [hQ]; exact GA.out)
end Go.Proofs.YtjehpijjneghpaaGreat.Re
