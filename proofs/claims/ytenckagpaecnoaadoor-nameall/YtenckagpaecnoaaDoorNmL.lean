/-
  The walk of NameAll.
-/
import Derived.Test.YtenckagpaecnoaaDoorNmK
import Derived.Deep.RegionHeld3
import Derived.Deep.CutRange
import Derived.OneCell
namespace Go.Proofs.YtenckagpaecnoaaDoor.Nm
open Go.RowKit
set_option maxRecDepth 100000
set_option linter.unusedVariables false

theorem own8_form {w : World} {base e size n : Nat} {v : Value} {xs : List Value} (h : w.ownsRow base e size v n xs) : ∃ ao ca, v = .slice ao n ca := by
  rcases h.2 with ⟨h0, hn⟩ | ⟨g, ca, _, h0, _⟩
  · exact ⟨none, 0, by rw [h0, hn]⟩
  · exact ⟨_, ca, h0⟩
theorem own8_addr {w : World} {base e size n ca : Nat} {ao : Option Addr} {xs : List Value} (h : w.ownsRow base e size (.slice ao n ca) n xs) (hn : 0 < n) : ∃ g, ao = some ⟨g, 0, none⟩ := by
  obtain ⟨g, c, e, _⟩ := h.form hn
  simp only [Value.slice.injEq] at e
  exact ⟨g, e.1⟩
theorem row8_of {w : World} {base n k cap g : Nat} {ls ms : List (List UInt8)} (h : w.ownsRow base 9 1 (.slice (some ⟨g, 0, none⟩) n cap) n ((ls ++ ms).map enc8)) (hk : ls.length = k) : Row w (.slice (some ⟨g, 0, none⟩) k cap) (ls.map enc8) := by
  have h1 : (ls ++ ms).length = n := by simpa using h.1
  rw [List.length_append] at h1
  rcases h.2 with ⟨h0, _⟩ | ⟨g', c', cur, h0, _, _, hn, hm, _⟩
  · cases h0
  · simp only [Value.slice.injEq, Option.some.injEq, Addr.mk.injEq, and_true, true_and] at h0
    obtain ⟨rfl, rfl⟩ := h0
    refine ⟨_, _, by rw [List.length_map, hk], fun e => by simp at e, by rw [List.length_map]; omega, hm, fun i hi => ⟨_, _, rfl, ?_⟩⟩
    rw [List.length_map] at hi
    rw [Nat.zero_add, h.cellAt i (by omega), List.map_append, List.getElem?_append_left (by simpa using hi)]
    simp [hi]
/-- append(s, x...), s the call's own strings l, x a slice of strings m. -/
theorem wpList_append_strs {w : World} {ops : Array Oper} {rest : List Oper} {o : Oper} {a : Act} {Q : Exit → Act → World → Prop} (hgd : o.guard = none) (s x : Operand)
    (ho : o.op = .call { callee := .builtin .append, args := #[s, x], argTypes := #[22, 22] })
    (base : Nat) (v vx : Value) (l m : List (List UInt8)) (hs : a.eval s = v) (hown : w.ownsRow base 9 1 v l.length (l.map enc8)) (hx : a.eval x = vx) (hsl : Row w vx (m.map enc8))
    (hbytes : (l.length + m.length) * 16 ≤ 140737488355328) (hbase : base ≤ w.heap.size)
    (h : ∀ v' w', w'.ownsRow base 9 1 v' (l ++ m).length ((l ++ m).map enc8) → Below base w w' → wpList Tryd.prog ops Q rest (a.put o.dst v') w') : wpList Tryd.prog ops Q (o :: rest) a w := by
  obtain ⟨i0, hi, hz0, hz1, hz2⟩ : ∃ i, Tryd.prog.info? 9 = some i ∧ i.zero = some (.string ⟨#[]⟩) ∧ i.size = 1 ∧ i.bytes = 16 := ⟨_, rfl, rfl, rfl, rfl⟩
  obtain ⟨ao, cap, rfl, h2, h3, h4, h5⟩ := hsl
  have hlm : (m.map enc8).length = m.length := by simp
  cases ao with
  | none =>
    obtain ⟨e0, rfl⟩ := h2 rfl
    have e1 : m = [] := by simpa using e0
    subst e1
    refine wpList_append_own_none hgd s x 22 ho base 9 i0 1 Tryd.underlying22 hi v l.length (l.map enc8) hs hown hx ?_
    exact h v w (by simpa using hown) (Below.refl _ _)
  | some ad =>
    have hcells : ∀ j u, (m.map enc8)[j]? = some u → w.cell? (ad.add j) = some u := by
      intro j u hu
      have hj : j < (m.map enc8).length := (List.getElem?_eq_some_iff.1 hu).1
      obtain ⟨b, off, e1, hc⟩ := h5 j hj
      simp only [Option.some.injEq] at e1
      subst e1
      have e2 : (m.map enc8)[j] = u := (List.getElem?_eq_some_iff.1 hu).2
      rw [addr_add, hc, e2]
    refine wpList_append_own w hgd s x 22 ho base 9 i0 (.string ⟨#[]⟩) 1 16 Tryd.underlying22 hi hz0 hz1 hz2 rfl (by decide) v l.length (l.map enc8) hs hown ad (m.map enc8).length cap (m.map enc8) hx (by simp) hcells ?_ (by rw [hlm]; unfold maxLen; omega) (by rw [hlm]; omega) hbase ?_
    · intro u hu
      obtain ⟨c, _, rfl⟩ := List.mem_map.1 hu
      rfl
    · intro v' w' ho' hg _
      refine h v' w' ?_ ((Below.refl _ _).grown hg hbase fun k hk => (hown.lt k hk).1)
      rw [List.length_append, List.map_append, ← hlm]
      exact ho'
#print axioms wpList_append_strs

set_option maxHeartbeats 8000000 in
theorem nall_walk (w : World) (v u : Value) (ls : List (List UInt8)) (ns : List Int) (hv : Row w v (ls.map enc8)) (hl : ∀ x ∈ ls, x.length ≤ maxLen) (hu : Row w u (ns.map (Value.int .i64))) (hns : ∀ n ∈ ns, (Lit.int .i64 n).wf = true) (hT : Tab16 w) :
    Calls Tryd.prog 3 #[v, u] w fun e w' => e = .returned (.bool true) ∧ Below w.heap.size w w' := by
  have HV := hide hv
  obtain ⟨ao, cap, rfl, hj1, h1, h2, h3⟩ := hv
  obtain ⟨bo, cbp, rfl, hj2, g1, g2, g3⟩ := hu
  clear hj1 hj2
  rw [List.length_map] at *
  obtain ⟨N, hN⟩ : ∃ N, Hid (ls.length = N) := ⟨_, rfl⟩
  obtain ⟨P, hP⟩ : ∃ P, Hid (ns.length = P) := ⟨_, rfl⟩
  rw [hN.out] at h1 HV ⊢
  rw [hP.out] at g1
  rw [List.length_map, hP.out]
  have hg := hide (begun8_any w hT)
  replace hT := hide hT
  replace hl := hide hl
  replace hns := hide hns
  replace h3 := hide h3
  replace g3 := hide g3
  have hNc : N ≤ cap := h1
  have hPc : P ≤ cbp := g1
  unfold maxLen at h2 g2
  have hNm : (N : Int) ≤ 9223372036854775807 := by omega
  have hPm : (P : Int) ≤ 9223372036854775807 := by omega
  clear h1 h2 g1 g2
  go_enter Tryd.func3, Tryd.ntmps3
  go_wp2_with fail
  refine hg.out.mono ?_
  rintro e w1 ⟨rfl, b1⟩
  replace b1 := hide b1
  clear hg
  go_wp2_with fail
  go_loopw [5] (fun i wr => ∃ k : Nat, i = .int .i64 k ∧ k ≤ N ∧ Hid (Below w.heap.size w wr)) (fun i _ => N - (intOf i).toNat)
  case atStart => exact ⟨0, rfl, Nat.zero_le _, b1.out⟩
  case round =>
    clear b1
    obtain ⟨k, rfl, hk, hB⟩ := hrel
    by_cases hlt : k < N
    · have i1 : (k : Int) < (N : Int) := by omega
      have hkl : k < ls.length := by rw [hN.out]; exact hlt
      obtain ⟨b, off, rfl, hc⟩ := h3.out k (by rw [List.length_map]; exact hkl)
      have hlk := hide (hl.out ls[k] (List.getElem_mem hkl))
      have hcw : Hid (w.cell? ⟨b, off + k, none⟩ = some (.string (bs ls[k]))) := by show _ = _; rw [hc, List.getElem_map]; rfl
      clear hc h3 HV
      generalize ls[k] = x at *
      have hxl : (bs x).size ≤ maxLen := by rw [bs_size]; exact hlk.out
      have c1 : wr.cell? ⟨b, off + k, none⟩ = some (.string (bs x)) := by rw [hB.out.cell (p := ⟨b, off + k, none⟩) (lt_of_cell hcw.out)]; exact hcw.out
      have CN := hide (fun q => number_any (bs x) q hxl)
      have CR := hide (fun q => refNumber_any (bs x) q hxl)
      have CM := hide (fun q => may_any (bs x) q hxl)
      have CF := hide (fun q => refMay_any (bs x) q hxl)
      have CK := hide (fun q => kind_any (bs x) q hxl)
      have CG := hide (fun q => refKind_any (bs x) q hxl)
      rw [bs_list] at CN CR CM CF CK CG
      generalize numB x = nx at *
      generalize segB x = sx at *
      generalize may x = mx at *
      generalize kindB x = kx at *
      clear hxl
      go_wp2_with fail
      refine (CN.out _).mono ?_
      rintro e w' ⟨rfl, rfl⟩
      go_wp2_with fail
      refine (CR.out _).mono ?_
      rintro e w2 ⟨rfl, b2⟩
      have B2 := hide (hB.out.trans (b2.mono hB.out.size))
      have c2 : w2.cell? ⟨b, off + k, none⟩ = some (.string (bs x)) := by rw [B2.out.cell (p := ⟨b, off + k, none⟩) (lt_of_cell hcw.out)]; exact hcw.out
      clear b2 hB c1 CN CR
      have f1 : (mx != mx) = false := by simp
      have f2 : ((nx : Int) != (nx : Int)) = false := by simp
      have f3 : (sx != sx) = false := by simp
      have f4 : ((kx : Int) != (kx : Int)) = false := by simp
      have KS : Hid (∀ q : World, Below w2.heap.size w2 q → Below w2.heap.size w2 q ∧ q.cell? ⟨b, off + k, none⟩ = some (.string (bs x))) := fun q hq => ⟨hq, by rw [hq.cell (p := ⟨b, off + k, none⟩) (lt_of_cell c2)]; exact c2⟩
      have hS0 := KS.out w2.drew (Below.refl _ _).drew
      go_wp2_with fail
      go_region_held3 (fun q => Below w2.heap.size w2 q ∧ q.cell? ⟨b, off + k, none⟩ = some (.string (bs x)))
        (first | exact hS0 | assumption | exact KS.out _ KP | fail)
        (first
          | (go_at_call 8; refine (CM.out _).mono ?_; rintro ee u1 ⟨rfl, rfl⟩)
          | (go_at_call 9; refine (CF.out _).mono ?_; rintro ee u1 ⟨rfl, rfl⟩)
          | (go_at_call 10; refine (CK.out _).mono ?_; rintro ee u1 ⟨rfl, rfl⟩)
          | (go_at_call 11; have hL := And.left (by assumption : Below w2.heap.size w2 _ ∧ _); refine (CG.out _).mono ?_; rintro ee u1 ⟨rfl, B9⟩
             have KP : Below w2.heap.size w2 u1 := hL.trans (B9.mono hL.size))
          | fail)
      all_goals
        go_wp2_with fail
        go_roundw
        case rel => exact ⟨k + 1, by go_num, by omega, B2.out.trans (KP.mono B2.out.size)⟩
        case measure => simp [intOf]; omega
    · obtain rfl : k = N := by omega
      go_wp2_with fail
      go_loopw [10] (fun i wr => ∃ j : Nat, i = .int .i64 j ∧ j ≤ P ∧ Hid (Below w.heap.size w wr)) (fun i _ => P - (intOf i).toNat)
      case atStart => exact ⟨0, rfl, Nat.zero_le _, hB.out⟩
      case round =>
        clear hB
        obtain ⟨j, rfl, hj, hB⟩ := hrel
        by_cases hjt : j < P
        · have i1 : (j : Int) < (P : Int) := by omega
          have hjl : j < ns.length := by rw [hP.out]; exact hjt
          obtain ⟨b, off, rfl, hc⟩ := g3.out j (by rw [List.length_map]; exact hjl)
          have hnb := i64_bounds (hns.out ns[j] (List.getElem_mem hjl))
          have hcw : Hid (w.cell? ⟨b, off + j, none⟩ = some (.int .i64 ns[j])) := by show _ = _; rw [hc, List.getElem_map]
          clear hc g3
          generalize ns[j] = x at *
          have c1 : wr.cell? ⟨b, off + j, none⟩ = some (.int .i64 x) := by rw [hB.out.cell (p := ⟨b, off + j, none⟩) (lt_of_cell hcw.out)]; exact hcw.out
          have CS := hide (fun q (hq : Tab16 q) => segment_any q x (by omega) hq)
          have CR := hide (fun q => refSegment_any q x (by omega))
          have T1 := hide (hT.out.below hB.out)
          by_cases hx : x < 1
          · rw [segV_small hx] at CS CR
            have CN := hide (fun q => number_any ⟨#[]⟩ q (by decide))
            rw [segB_of (show numB (⟨#[]⟩ : ByteArray).data.toList = 0 from rfl), show numB (⟨#[]⟩ : ByteArray).data.toList = 0 from rfl] at CN
            have hx2 : ¬ (x ≥ 1) := by omega
            clear hnb
            go_wp2_with fail
            refine (CS.out _ T1.out).mono ?_
            rintro e w2 ⟨rfl, b2⟩
            have B2 := hide (hB.out.trans (b2.mono hB.out.size))
            have c2 : w2.cell? ⟨b, off + j, none⟩ = some (.int .i64 x) := by rw [B2.out.cell (p := ⟨b, off + j, none⟩) (lt_of_cell hcw.out)]; exact hcw.out
            clear b2 hB c1 CS T1
            go_wp2_with fail
            refine (CR.out _).mono ?_
            rintro e w3 ⟨rfl, b3⟩
            have B3 := hide (B2.out.trans (b3.mono B2.out.size))
            have c3 : w3.cell? ⟨b, off + j, none⟩ = some (.int .i64 x) := by rw [B3.out.cell (p := ⟨b, off + j, none⟩) (lt_of_cell hcw.out)]; exact hcw.out
            clear b3 B2 c2 CR
            go_wp2_with (go_at_call 6; refine (CN.out _).mono ?_; rintro e w' ⟨rfl, rfl⟩)
            go_roundw
            case rel => exact ⟨j + 1, by go_num, by omega, B3.out⟩
            case measure => simp [intOf]; omega
          · obtain ⟨m, rfl⟩ : ∃ m : Nat, x = (m : Int) := ⟨x.toNat, by omega⟩
            rw [segV_big (by omega)] at CS CR
            have CN := hide (fun q => number_any (bs (segL m)) q (by rw [bs_size, segL_len]; decide))
            rw [bs_list, segB_of (numB_seg (by omega)), numB_seg (by omega), decide_eq_true (by omega)] at CN
            have hx2 : (m : Int) ≥ 1 := by omega
            clear hnb hx
            go_wp2_with fail
            refine (CS.out _ T1.out).mono ?_
            rintro e w2 ⟨rfl, b2⟩
            have B2 := hide (hB.out.trans (b2.mono hB.out.size))
            have c2 : w2.cell? ⟨b, off + j, none⟩ = some (.int .i64 (m : Int)) := by rw [B2.out.cell (p := ⟨b, off + j, none⟩) (lt_of_cell hcw.out)]; exact hcw.out
            clear b2 hB c1 CS T1
            go_wp2_with fail
            refine (CR.out _).mono ?_
            rintro e w3 ⟨rfl, b3⟩
            have B3 := hide (B2.out.trans (b3.mono B2.out.size))
            have c3 : w3.cell? ⟨b, off + j, none⟩ = some (.int .i64 (m : Int)) := by rw [B3.out.cell (p := ⟨b, off + j, none⟩) (lt_of_cell hcw.out)]; exact hcw.out
            clear b3 B2 c2 CR
            go_wp2_with (go_at_call 6; refine (CN.out _).mono ?_; rintro e w' ⟨rfl, rfl⟩)
            go_roundw
            case rel => exact ⟨j + 1, by go_num, by omega, B3.out⟩
            case measure => simp [intOf]; omega
        · obtain rfl : j = P := by omega
          by_cases hbig : (k : Int) > 200
          · go_wp2_with fail
            go_ret
            exact ⟨rfl, hB.out⟩
          · have hk2 : k ≤ 200 := by omega
            clear hNm g3 hns hT
            obtain ⟨i0, hi, hz0, hz1, hz2⟩ : ∃ i, Tryd.prog.info? 9 = some i ∧ i.zero = some (.string ⟨#[]⟩) ∧ i.size = 1 ∧ i.bytes = 16 := ⟨_, rfl, rfl, rfl, rfl⟩
            have zB := hide hB.out.size
            have HW := hide (Below.row hB.out HV.out)
            go_wp2_with (at_builtin; refine wpList_append_strs rfl (.const (.slice none 0 0)) (.tmp 140) rfl w.heap.size (.slice none 0 0) _ [] ls rfl (World.ownsRow_nil _ _ _ _) rfl HW.out (by have := hN.out; simp; omega) zB.out ?_)
            intro v4 w4 ho4 b4
            rw [hN.out] at ho4
            have B4 := hide (hB.out.trans b4)
            have z4 := hide B4.out.size
            replace ho4 := hide ho4
            clear b4 hB zB HW
            go_wp2_with (at_builtin; refine wpList_append_own _ rfl (.tmp 141) (.tmp 142) 22 rfl w.heap.size 9 i0 (.string ⟨#[]⟩) 1 16 Tryd.underlying22 hi hz0 hz1 hz2 rfl (by decide) _ k (ls.map enc8) rfl (ho4.out.alloc _) ⟨w4.heap.size, 0, none⟩ 1 1 [.string ⟨#[109, 97, 114, 107]⟩] rfl rfl (cell_one_new _ _ _) (by simp [Value.oneCell']) (by unfold maxLen; omega) (by omega) (by have := z4.out; simp; omega) ?_)
            intro v5 w5 ho5 g5 _
            have B5 : Hid (Below w.heap.size w w5) := (B4.out.alloc z4.out _).grown g5 (by have := z4.out; simp; omega) fun k hk => (ho4.out.lt k hk).1
            obtain ⟨g, ch, rfl, hgw, hg5⟩ := ho5.form (by omega)
            have hch : k + 1 ≤ ch := by
              rcases ho5.2 with ⟨h0, _⟩ | ⟨g', c', cur, h0, _, _, hn', _⟩
              · cases h0
              · simp only [Value.slice.injEq, Option.some.injEq, Addr.mk.injEq, and_true, true_and] at h0
                rw [h0.2]; exact hn'
            have ho5' : Hid (w5.ownsRow w.heap.size 9 1 (.slice (some ⟨g, 0, none⟩) (k + 1) ch) (k + 1) ((ls ++ [[109, 97, 114, 107]]).map enc8)) := by
              show World.ownsRow _ _ _ _ _ _ _
              rw [List.map_append]; exact ho5
            have HR5 := hide (row8_of ho5'.out hN.out)
            replace hg5 := hide hg5
            clear ho5 g5 ho4 B4 z4
            have j1 : (k : Int) ≤ (ch : Int) := by omega
            have j0 : (0 : Int) ≤ (k : Int) := by omega
            have C1 := hide (order_all w5 _ ls HR5.out hl.out (by rw [hN.out]; exact hk2))
            obtain ⟨M, hM⟩ : ∃ M, Hid ((ordR ls).length = M) := ⟨_, rfl⟩
            have hMk : M ≤ 200 := by have := ordR_len ls; have := hM.out; have := hN.out; omega
            rw [hM.out] at C1
            go_wp2_with fail
            refine C1.out.mono ?_
            rintro e w6 ⟨v6, rfl, ho6, b6⟩
            have B6 := hide (B5.out.trans (b6.mono B5.out.size))
            have ho5b := hide (ownsRow_below ho5'.out b6)
            have z56 := hide b6.size
            have HR6 := hide (row8_of ho5b.out hN.out)
            have C2 := hide (order_all w6 _ ls HR6.out hl.out (by rw [hN.out]; exact hk2))
            rw [hM.out] at C2
            obtain ⟨a6, c6, rfl⟩ := own8_form ho6
            replace ho6 := hide ho6
            clear C1 HR5 ho5' b6 B5
            go_wp2_with fail
            refine C2.out.mono ?_
            rintro e w7 ⟨v7, rfl, ho7, b7⟩
            have B7 := hide (B6.out.trans (b7.mono B6.out.size))
            have ho5c := hide (ownsRow_below ho5b.out b7)
            have ho6b := hide (ownsRow_below ho6.out b7)
            have z67 := hide b7.size
            have HR7 := hide (Below.row B7.out HV.out)
            have C3 := hide (refOrder_any w7 _ ls HR7.out hl.out (by rw [hN.out]; exact hk2))
            rw [hM.out] at C3
            obtain ⟨a7, c7, rfl⟩ := own8_form ho7
            replace ho7 := hide ho7
            clear C2 HR6 b7 B6 ho5b
            go_wp2_with fail
            refine C3.out.mono ?_
            rintro e w8 ⟨v8, rfl, ho8, b8⟩
            have B8 := hide (B7.out.trans (b8.mono B7.out.size))
            have ho5d := hide (ownsRow_below ho5c.out b8)
            have ho6c := hide (ownsRow_below ho6b.out b8)
            have ho7c := hide (ownsRow_below ho7.out b8)
            obtain ⟨a8, c8, rfl⟩ := own8_form ho8
            have z78 := hide b8.size
            have hlt6 : Hid (∀ x, (Value.slice a6 M c6).ownBlock = some x → w5.heap.size ≤ x ∧ x < w6.heap.size) := fun x hx => ho6.out.lt x hx
            have hlt7 : Hid (∀ x, (Value.slice a7 M c7).ownBlock = some x → w6.heap.size ≤ x ∧ x < w7.heap.size) := fun x hx => ho7.out.lt x hx
            have hlt8 : Hid (∀ x, (Value.slice a8 M c8).ownBlock = some x → w7.heap.size ≤ x) := fun x hx => (ho8.lt x hx).1
            replace ho8 := hide ho8
            clear C3 HR7 b8 B7 ho5c ho6b ho7 ho6
            go_wp2_with fail
            go_loopw [21] (fun i wr => ∃ j : Nat, i = .int .i64 j ∧ j ≤ k ∧ Hid (Qt w8 wr)) (fun i _ => k - (intOf i).toNat)
            case atStart => exact ⟨0, rfl, Nat.zero_le _, Qt.refl _⟩
            case round =>
              obtain ⟨i, rfl, hik, hq⟩ := hrel
              by_cases hil : i < k
              · have l1 : (i : Int) < (k : Int) := by omega
                have hll : i < ls.length := by rw [hN.out]; exact hil
                obtain ⟨b, off, rfl, hc⟩ := h3.out i (by rw [List.length_map]; exact hll)
                have hcw : Hid (w.cell? ⟨b, off + i, none⟩ = some (.string (bs ls[i]))) := by show _ = _; rw [hc, List.getElem_map]; rfl
                have c1 : wr.cell? ⟨b, off + i, none⟩ = some (.string (bs ls[i])) := by rw [hq.out.cell, B8.out.cell (p := ⟨b, off + i, none⟩) (lt_of_cell hcw.out)]; exact hcw.out
                have c2 : wr.cell? ⟨g, i, none⟩ = some (.string (bs ls[i])) := by
                  rw [hq.out.cell, ho5d.out.cellAt i (by omega), List.map_append, List.getElem?_append_left (by simpa using hll)]
                  simp [hll, enc8]
                clear hc h3 HV hcw
                generalize ls[i] = x at c1 c2
                have heq : ((bs x).toList == (bs x).toList) = true := by simp
                go_wp2_with fail
                go_quiet (fail)
                go_wp2_with fail
                go_roundw
                case rel => exact ⟨i + 1, by go_num, by omega, hq.out.trans ⟨_, rfl⟩⟩
                case measure => simp [intOf]; omega
              · obtain rfl : i = k := by omega
                have q1 : ((M : Int) != (M : Int)) = false := by simp
                have B9 : Hid (Below w.heap.size w wr) := by obtain ⟨nq, rfl⟩ := hq.out; exact below_drewN B8.out nq
                have o5 : Hid (wr.ownsRow w.heap.size 9 1 (.slice (some ⟨g, 0, none⟩) (i + 1) ch) (i + 1) ((ls ++ [[109, 97, 114, 107]]).map enc8)) := by obtain ⟨nq, rfl⟩ := hq.out; exact ho5d.out
                have o6 : Hid (wr.ownsRow w5.heap.size 9 1 (.slice a6 M c6) M ((ordR ls).map enc8)) := by obtain ⟨nq, rfl⟩ := hq.out; exact ho6c.out
                have o7 : Hid (wr.ownsRow w6.heap.size 9 1 (.slice a7 M c7) M ((ordR ls).map enc8)) := by obtain ⟨nq, rfl⟩ := hq.out; exact ho7c.out
                have o8 : Hid (wr.ownsRow w7.heap.size 9 1 (.slice a8 M c8) M ((ordR ls).map enc8)) := by obtain ⟨nq, rfl⟩ := hq.out; exact ho8.out
                have cm : wr.cell? ⟨g, i, none⟩ = some (.string ⟨#[109, 97, 114, 107]⟩) := by
                  rw [o5.out.cellAt i (by omega), List.map_append, List.getElem?_append_right (by rw [List.length_map, hN.out]; exact Nat.le_refl _), List.length_map, hN.out, Nat.sub_self]
                  rfl
                have j2 : (i : Int) + 1 ≤ (ch : Int) := by omega
                have j3 : (i : Int) < (i : Int) + 1 := by omega
                clear ho5d ho6c ho7c ho8 hq B8 h3 HV
                go_wp2_with fail
                obtain ⟨wA, hwA⟩ : ∃ wA, wA = wr := ⟨_, rfl⟩
                subst hwA
                clear cm o5
                have hne78 : Hid (∀ gl, (Value.slice a6 M c6).ownBlock = some gl → (Value.slice a7 M c7).ownBlock ≠ some gl ∧ (Value.slice a8 M c8).ownBlock ≠ some gl ∧ w.heap.size ≤ gl) := fun gl h => by
                  have h1 := hlt6.out gl h
                  have h2 := z56.out
                  have h3 := z67.out
                  have h4 := hg5.out
                  refine ⟨fun e => ?_, fun e => ?_, by omega⟩
                  · have := hlt7.out gl e; omega
                  · have := hlt8.out gl e; omega
                go_loopw [22] (fun v wr => ∃ (j : Nat) (xs : List Value), v = .int .i64 j ∧ j ≤ M ∧ Hid (wr.ownsRow w5.heap.size 9 1 (.slice a6 M c6) M xs ∧ (∀ m, j ≤ m → xs[m]? = ((ordR ls).map enc8)[m]?) ∧ wr.ownsRow w6.heap.size 9 1 (.slice a7 M c7) M ((ordR ls).map enc8) ∧ wr.ownsRow w7.heap.size 9 1 (.slice a8 M c8) M ((ordR ls).map enc8) ∧ Below w.heap.size w wr)) (fun v _ => M - (intOf v).toNat)
                case atStart => exact ⟨0, _, rfl, Nat.zero_le _, o6.out, fun _ _ => rfl, o7.out, o8.out, B9.out⟩
                case round =>
                  clear o6 o7 o8 B9
                  obtain ⟨j, xs, rfl, hjM, hR⟩ := hrel
                  by_cases hjl : j < M
                  · have l1 : (j : Int) < (M : Int) := by omega
                    have hol : j < (ordR ls).length := by rw [hM.out]; exact hjl
                    obtain ⟨g6, rfl⟩ := own8_addr hR.out.1 (by omega)
                    obtain ⟨g8, rfl⟩ := own8_addr hR.out.2.2.2.1 (by omega)
                    have c1 : wr.cell? ⟨g6, j, none⟩ = some (.string (bs (ordR ls)[j])) := by
                      rw [hR.out.1.cellAt j (by omega), hR.out.2.1 j (Nat.le_refl _), List.getElem?_map, List.getElem?_eq_getElem hol]; rfl
                    have c2 : wr.cell? ⟨g8, j, none⟩ = some (.string (bs (ordR ls)[j])) := by
                      rw [hR.out.2.2.2.1.cellAt j (by omega), List.getElem?_map, List.getElem?_eq_getElem hol]; rfl
                    have f1 := hR.out.1.frozenAt j
                    have hst := hide (hR.out.1.stored j (.string ⟨#[115, 112, 111, 105, 108, 116]⟩)).1
                    have hn := hide (hne78.out g6 rfl)
                    have hW : Hid (∀ nq, let q := (wr.drewN nq).setCell ⟨g6, j, none⟩ (.string ⟨#[115, 112, 111, 105, 108, 116]⟩)
                        q.ownsRow w5.heap.size 9 1 (.slice (some ⟨g6, 0, none⟩) M c6) M (xs.set j (.string ⟨#[115, 112, 111, 105, 108, 116]⟩)) ∧ (∀ m, j + 1 ≤ m → (xs.set j (.string ⟨#[115, 112, 111, 105, 108, 116]⟩))[m]? = ((ordR ls).map enc8)[m]?) ∧ q.ownsRow w6.heap.size 9 1 (.slice a7 M c7) M ((ordR ls).map enc8) ∧ q.ownsRow w7.heap.size 9 1 (.slice (some ⟨g8, 0, none⟩) M c8) M ((ordR ls).map enc8) ∧ Below w.heap.size w q) := fun nq => by
                      have hR' := hR.out
                      refine ⟨(World.ownsRow.stored (w := wr.drewN nq) hR'.1 j _).1, fun m hm => ?_, ownsRow_setCell_other (w := wr.drewN nq) hR'.2.2.1 (a := ⟨g6, j, none⟩) (by exact hn.out.1) _, ownsRow_setCell_other (w := wr.drewN nq) hR'.2.2.2.1 (a := ⟨g6, j, none⟩) (by exact hn.out.2.1) _, (below_drewN hR'.2.2.2.2 nq).setCell (p := ⟨g6, j, none⟩) hn.out.2.2 _⟩
                      rw [List.getElem?_set_ne (by omega)]
                      exact hR'.2.1 m (by omega)
                    clear hR hst hn
                    generalize (ordR ls)[j] = x at c1 c2
                    have heq : ((bs x).toList == (bs x).toList) = true := by simp
                    go_wp2_with fail
                    go_quiet (fail)
                    go_wp2_with fail
                    go_roundw
                    case rel => exact ⟨j + 1, _, by go_num, by omega, hW.out _⟩
                    case measure => simp [intOf]; omega
                  · obtain rfl : j = M := by omega
                    have B10 := hide hR.out.2.2.2.2
                    have o7 := hide hR.out.2.2.1
                    have o8 := hide hR.out.2.2.2.1
                    obtain ⟨wC, hwC⟩ : ∃ wC, wC = wr := ⟨_, rfl⟩
                    subst hwC
                    clear hR
                    go_wp2_with fail
                    go_loopw [23] (fun v wr => ∃ m : Nat, v = .int .i64 m ∧ m ≤ j ∧ Hid (Qt wC wr)) (fun v _ => j - (intOf v).toNat)
                    case atStart => exact ⟨0, rfl, Nat.zero_le _, Qt.refl _⟩
                    case round =>
                      obtain ⟨m, rfl, hmj, hq⟩ := hrel
                      by_cases hml : m < j
                      · have l1 : (m : Int) < (j : Int) := by omega
                        have hol : m < (ordR ls).length := by rw [hM.out]; exact hml
                        obtain ⟨g7, rfl⟩ := own8_addr o7.out (by omega)
                        obtain ⟨g8, rfl⟩ := own8_addr o8.out (by omega)
                        have c1 : wr.cell? ⟨g7, m, none⟩ = some (.string (bs (ordR ls)[m])) := by
                          rw [hq.out.cell, o7.out.cellAt m (by omega), List.getElem?_map, List.getElem?_eq_getElem hol]; rfl
                        have c2 : wr.cell? ⟨g8, m, none⟩ = some (.string (bs (ordR ls)[m])) := by
                          rw [hq.out.cell, o8.out.cellAt m (by omega), List.getElem?_map, List.getElem?_eq_getElem hol]; rfl
                        generalize (ordR ls)[m] = x at c1 c2
                        have heq : ((bs x).toList == (bs x).toList) = true := by simp
                        go_wp2_with fail
                        go_quiet (fail)
                        go_wp2_with fail
                        go_roundw
                        case rel => exact ⟨m + 1, by go_num, by omega, hq.out.trans ⟨_, rfl⟩⟩
                        case measure => simp [intOf]; omega
                      · obtain rfl : m = j := by omega
                        go_wp2_with fail
                        go_ret
                        refine ⟨rfl, ?_⟩
                        obtain ⟨nq, rfl⟩ := hq.out
                        exact below_drewN B10.out nq
#print axioms nall_walk
end Go.Proofs.YtenckagpaecnoaaDoor.Nm
