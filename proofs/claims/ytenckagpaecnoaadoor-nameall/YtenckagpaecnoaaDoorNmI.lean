/-
  The document's Order of names.
-/
import Derived.Test.YtenckagpaecnoaaDoorNmG
import Derived.Test.YtenckagpaecnoaaDoorNmH
import Derived.Laws.OwnMore
import Derived.Deep.AppendLies
namespace Go.Proofs.YtenckagpaecnoaaDoor.Nm
open Go.RowKit
set_option maxRecDepth 100000
set_option linter.unusedVariables false

theorem less_eq : ∀ (x y : List UInt8), Op.bytesLess x y = decide (x < y)
  | [], [] => by simp [Op.bytesLess]
  | _ :: _, [] => by simp [Op.bytesLess]
  | [], _ :: _ => by simp [Op.bytesLess]
  | a :: x, b :: y => by
    rw [Op.bytesLess, less_eq x y]
    by_cases h1 : a < b
    · simp [h1, List.cons_lt_cons_iff]
    · by_cases h2 : a = b
      · subst h2; simp [h1]
      · simp [h1, h2, List.cons_lt_cons_iff]
theorem shift_step (acc : List Bs) (j : Nat) (e : Value) (hj : j < acc.length) :
    ((acc.take (j + 1)).map enc8 ++ e :: (acc.drop (j + 1)).map enc8).set (j + 1) (enc8 acc[j]) = (acc.take j).map enc8 ++ enc8 acc[j] :: (acc.drop j).map enc8 := by
  have hl : ((acc.take (j + 1)).map enc8).length = j + 1 := by simp; omega
  rw [List.set_append_right _ _ (by omega), hl, Nat.sub_self, List.set_cons_zero, List.take_succ_eq_append_getElem hj, List.drop_eq_getElem_cons hj]
  simp only [List.map_append, List.map_cons, List.map_nil, List.append_assoc, List.cons_append, List.nil_append]
theorem shift_get (acc : List Bs) (j : Nat) (e : Value) (hj : j < acc.length) :
    ((acc.take (j + 1)).map enc8 ++ e :: (acc.drop (j + 1)).map enc8)[j]? = some (enc8 acc[j]) := by
  rw [List.getElem?_append_left (by simp; omega)]
  simp [hj]
theorem shift_end (acc : List Bs) (j : Nat) (e : Value) (x : Bs) (hj : j ≤ acc.length) :
    ((acc.take j).map enc8 ++ e :: (acc.drop j).map enc8).set j (enc8 x) = (acc.take j ++ x :: acc.drop j).map enc8 := by
  have hl : ((acc.take j).map enc8).length = j := by simp; omega
  rw [List.set_append_right _ _ (by omega), hl, Nat.sub_self, List.set_cons_zero]
  simp

theorem widen8 {K : Act → World → Prop} {Q : Exit → Act → World → Prop} {e : Exit} {a : Act} {W : World} (R : World → Prop) (hR : R W) (h : ∀ q, R q → Exit.then K Q e a q) : Exit.then K Q e a W := h W hR
set_option maxHeartbeats 8000000 in
theorem refOrder_any (w : World) (v : Value) (ls : List (List UInt8)) (hv : Row w v (ls.map enc8)) (hl : ∀ x ∈ ls, x.length ≤ maxLen) (hn : ls.length ≤ 200) :
    Calls Tryd.prog 15 #[v] w fun e w' => ∃ v', e = .returned v' ∧ w'.ownsRow w.heap.size 9 1 v' (ordR ls).length ((ordR ls).map enc8) ∧ Below w.heap.size w w' := by
  obtain ⟨ao, cap, rfl, ha, h1, h2, h3⟩ := hv
  rw [List.length_map] at *
  obtain ⟨N, hN⟩ : ∃ N, Hid (ls.length = N) := ⟨_, rfl⟩
  rw [hN.out] at h1 hn ⊢
  replace hl := hide hl
  replace h3 := hide h3
  have N1 : (N : Int) ≤ 200 := by omega
  have hNc : N ≤ cap := h1
  clear h1 h2 ha
  obtain ⟨i0, hi, hz0, hz1, hz2⟩ : ∃ i, Tryd.prog.info? 9 = some i ∧ i.zero = some (.string ⟨#[]⟩) ∧ i.size = 1 ∧ i.bytes = 16 := ⟨_, rfl, rfl, rfl, rfl⟩
  go_enter Tryd.func15, Tryd.ntmps15
  go_wp2_with fail
  go_loopw [3, 4] (fun u i wr => ∃ k : Nat, i = .int .i64 k ∧ k ≤ N ∧ Hid (wr.ownsRow w.heap.size 9 1 u (ordR (ls.take k)).length ((ordR (ls.take k)).map enc8) ∧ Below w.heap.size w wr)) (fun _ i _ => N - (intOf i).toNat)
  case atStart => exact ⟨0, rfl, Nat.zero_le _, World.ownsRow_nil _ _ _ _, Below.refl _ _⟩
  case round =>
    obtain ⟨k, rfl, hk, hO⟩ := hrel
    obtain ⟨wA, hwA⟩ : ∃ wA, wA = wr := ⟨_, rfl⟩
    subst hwA
    by_cases hlt : k < N
    · have i1 : (k : Int) < (N : Int) := by omega
      have hkl : k < ls.length := by rw [hN.out]; exact hlt
      obtain ⟨b, off, rfl, hc⟩ := h3.out k (by rw [List.length_map]; exact hkl)
      have hcell : wA.cell? ⟨b, off + k, none⟩ = some (.string (bs ls[k])) := by
        rw [hO.out.2.cell (p := ⟨b, off + k, none⟩) (lt_of_cell hc), hc, List.getElem_map]; rfl
      have hcw : Hid (w.cell? ⟨b, off + k, none⟩ = some (.string (bs ls[k]))) := by show _ = _; rw [hc, List.getElem_map]; rfl
      have hlk := hide (hl.out ls[k] (List.getElem_mem hkl))
      have hm := refMay_any (bs ls[k]) wA (by rw [bs_size]; exact hlk.out)
      rw [bs_list] at hm
      have hts := hide (List.take_succ_eq_append_getElem hkl)
      have hsn := hide (ordR_snoc (ls.take k) ls[k])
      have hle := hide (ordR_len (ls.take k))
      clear hc h3 hlk
      generalize ls[k] = x at *
      obtain ⟨acc, hacc⟩ : ∃ acc, Hid (ordR (ls.take k) = acc) := ⟨_, rfl⟩
      rw [hacc.out] at hO hsn hle
      have hl2 : acc.length ≤ 200 := by have := hle.out; simp at this; omega
      cases hmx : may x with
      | false =>
        rw [hmx] at hm
        have hO2 : Hid (wA.ownsRow w.heap.size 9 1 u3 (ordR (ls.take (k + 1))).length ((ordR (ls.take (k + 1))).map enc8) ∧ Below w.heap.size w wA) := by
          have e := hsn.out
          rw [hmx] at e
          show _ ∧ _
          rw [hts.out, e]
          simpa using hO.out
        replace hm := hide hm
        clear hO hsn hmx
        go_wp2_with (go_at_call 9; refine hm.out.mono ?_; rintro e w' ⟨rfl, rfl⟩)
        go_roundw
        case rel => exact ⟨k + 1, by go_num, by omega, hO2⟩
        case measure => simp [intOf]; omega
      | true =>
        rw [hmx] at hm
        have hoe : Hid (ordR (ls.take (k + 1)) = insB x acc) := by
          have e := hsn.out
          rw [hmx] at e
          show _ = _
          rw [hts.out]; simpa using e
        replace hm := hide hm
        clear hsn hmx hts
        obtain ⟨n, hn'⟩ : ∃ n, Hid (acc.length = n) := ⟨_, rfl⟩
        rw [hn'.out] at hO hl2
        have hform : (u3 = .slice none 0 0 ∧ n = 0) ∨ ∃ g c, u3 = .slice (some ⟨g, 0, none⟩) n c := by
          by_cases h0 : n = 0
          · rcases hO.out.1.2 with ⟨e, _⟩ | ⟨g, c, _, e, _⟩
            · exact .inl ⟨e, h0⟩
            · exact .inr ⟨g, c, e⟩
          · obtain ⟨g, c, e, _⟩ := hO.out.1.form (by omega); exact .inr ⟨g, c, e⟩
        have hform2 : ∃ ao c, u3 = .slice ao n c ∧ (0 < n → ∃ g, ao = some ⟨g, 0, none⟩) := by
          rcases hform with ⟨e, h0⟩ | ⟨g, c, e⟩
          · exact ⟨none, 0, by rw [e, h0], by omega⟩
          · exact ⟨_, c, e, fun _ => ⟨g, rfl⟩⟩
        obtain ⟨al, cl, rfl, hal⟩ := hform2
        replace hal := hide hal
        obtain ⟨t, ht⟩ : ∃ t, Hid (atB x acc = t) := ⟨_, rfl⟩
        have htn : t ≤ n := by have := atB_le x acc; have := ht.out; have := hn'.out; omega
        clear hform
        go_wp2_with (go_at_call 9; refine hm.out.mono ?_; rintro e w' ⟨rfl, rfl⟩)
        go_loopw [5] (fun a wr => ∃ j : Nat, a = .int .i64 j ∧ j ≤ t ∧ Hid (Qt w' wr)) (fun a _ => t - (intOf a).toNat)
        case atStart => exact ⟨0, rfl, Nat.zero_le _, Qt.refl _⟩
        case round =>
          obtain ⟨j, rfl, hj, hq⟩ := hrel
          have hcell2 : wr.cell? ⟨b, off + k, none⟩ = some (.string (bs x)) := by rw [hq.out.cell]; exact hcell
          by_cases hjt : j < t
          · have hja : j < acc.length := by have := hn'.out; omega
            obtain ⟨g, rfl⟩ := hal.out (by omega)
            have hcg : wr.cell? ⟨g, j, none⟩ = some (.string (bs acc[j])) := by
              rw [hq.out.cell, hO.out.1.cellAt j (by omega), List.getElem?_map, List.getElem?_eq_getElem hja]; rfl
            have hls : Op.bytesLess (bs acc[j]).toList (bs x).toList = true := by
              rw [less_eq, tl, tl, bs_list, bs_list]
              simpa using atB_less x acc j hja (by rw [ht.out]; exact hjt)
            have j1 : (j : Int) < (n : Int) := by omega
            clear hcell
            go_wp2_with fail
            go_quiet (fail)
            go_wp2_with fail
            go_roundw
            case rel => exact ⟨j + 1, by go_num, by omega, hq.out.trans ⟨_, rfl⟩⟩
            case measure => simp [intOf]; omega
          · obtain rfl : j = t := by omega
            have hib := hide (insB_at x acc)
            by_cases hjn : j < n
            · have hja : j < acc.length := by have := hn'.out; omega
              obtain ⟨g, rfl⟩ := hal.out (by omega)
              have hcg : wr.cell? ⟨g, j, none⟩ = some (.string (bs acc[j])) := by
                rw [hq.out.cell, hO.out.1.cellAt j (by omega), List.getElem?_map, List.getElem?_eq_getElem hja]; rfl
              have hls : Op.bytesLess (bs acc[j]).toList (bs x).toList = false := by
                rw [less_eq, tl, tl, bs_list, bs_list]
                have := atB_stop x acc (by rw [ht.out]; exact hja)
                simp only [ht.out] at this
                simpa using this
              have j1 : (j : Int) < (n : Int) := by omega
              clear hcell
              by_cases hex : acc[j] = x
              · have hO2 : Hid (wr.ownsRow w.heap.size 9 1 (.slice (some ⟨g, 0, none⟩) n cl) (ordR (ls.take (k + 1))).length ((ordR (ls.take (k + 1))).map enc8) ∧ Below w.heap.size w wr) := by
                  show _ ∧ _
                  have e1 := hib.out
                  rw [ht.out, List.getElem?_eq_getElem hja, hex, if_pos rfl] at e1
                  rw [hoe.out, e1, hn'.out]
                  obtain ⟨nq, rfl⟩ := hq.out
                  exact ⟨hO.out.1, below_drewN hO.out.2 nq⟩
                have heq : ((bs acc[j]).toList == (bs x).toList) = true := by rw [hex]; simp
                clear hO hex hib hq
                go_wp2_with fail
                go_quiet (fail)
                go_wp2_with fail
                go_quiet (fail)
                go_wp2_with fail
                go_roundw
                case rel => exact ⟨k + 1, by go_num, by omega, hO2.out.1, by first | exact below_drewN hO2.out.2 _ | exact below_drewN (below_drewN hO2.out.2 _) _⟩
                case measure => simp [intOf]; omega
              · have heq : ((bs acc[j]).toList == (bs x).toList) = false := by rw [tl, tl, bs_list, bs_list]; simpa using hex
                have hie : Hid (insB x acc = acc.take j ++ x :: acc.drop j) := by
                  show _ = _
                  have e1 := hib.out
                  rw [ht.out, List.getElem?_eq_getElem hja, if_neg (by simpa using hex)] at e1
                  exact e1
                clear hex hib
                go_wp2_with fail
                go_quiet (fail)
                go_wp2_with fail
                go_quiet (fail)
                refine widen8 (fun q => q.ownsRow w.heap.size 9 1 (.slice (some ⟨g, 0, none⟩) n cl) n (acc.map enc8) ∧ Below w.heap.size w q) (by obtain ⟨nz, rfl⟩ := hq.out; exact ⟨hO.out.1, below_drewN (below_drewN (below_drewN hO.out.2 _) _) _⟩) ?_
                rintro q ⟨o1, o2⟩
                have zq := hide o2.size
                replace o1 := hide o1
                replace o2 := hide o2
                clear hO hq hcg hls heq hcell2
                go_wp2_with (at_builtin; refine wpList_append_own _ rfl (.tmp 51) (.tmp 52) 22 rfl w.heap.size 9 i0 (.string ⟨#[]⟩) 1 16 Tryd.underlying22 hi hz0 hz1 hz2 rfl (by decide) _ n (acc.map enc8) rfl (o1.out.alloc _) ⟨q.heap.size, 0, none⟩ 1 1 [.string ⟨#[]⟩] rfl rfl (cell_one_new _ _ _) (by simp [Value.oneCell']) (by unfold maxLen; omega) (by omega) (by have := zq.out; simp; omega) ?_)
                intro v3 w3 ho3 g3 _
                have hB3 : Hid (Below w.heap.size w w3) := (o2.out.alloc zq.out _).grown g3 (by have := zq.out; simp; omega) fun k hk => (o1.out.lt k hk).1
                obtain ⟨gl, c3, rfl, _⟩ := ho3.form (by omega)
                have hgl : Hid (w.heap.size ≤ gl) := (ho3.lt gl rfl).1
                replace ho3 := hide ho3
                clear g3 o1 o2 zq
                have n1 : (n : Int) + 1 - 1 = (n : Int) := by omega
                go_wp2_with fail
                go_loopw [6] (fun v wr => ∃ (J : Nat) (e : Value), v = .int .i64 J ∧ j ≤ J ∧ J ≤ n ∧ Hid (wr.ownsRow w.heap.size 9 1 (.slice (some ⟨gl, 0, none⟩) (n + 1) c3) (n + 1) ((acc.take J).map enc8 ++ e :: (acc.drop J).map enc8) ∧ Below w.heap.size w wr)) (fun v _ => (intOf v).toNat)
                case atStart =>
                  refine ⟨n, .string ⟨#[]⟩, by first | rfl | go_num, by omega, Nat.le_refl _, ?_, hB3.out⟩
                  rw [List.take_of_length_le (by have := hn'.out; omega), List.drop_of_length_le (by have := hn'.out; omega)]
                  exact ho3.out
                case round =>
                  obtain ⟨J, ev, rfl, hJ1, hJ2, hR⟩ := hrel
                  clear ho3 hB3
                  by_cases hJ : j < J
                  · obtain ⟨J', rfl⟩ : ∃ J', J = J' + 1 := ⟨J - 1, by omega⟩
                    have hJa : J' < acc.length := by have := hn'.out; omega
                    have r1 : wr.cell? ⟨gl, J', none⟩ = some (.string (bs acc[J'])) := by
                      rw [hR.out.1.cellAt J' (by omega), shift_get acc J' ev hJa]; rfl
                    obtain ⟨z, r2⟩ : ∃ z, wr.cell? ⟨gl, J' + 1, none⟩ = some z := by
                      refine ⟨_, (hR.out.1.cellAt (J' + 1) (by omega)).trans (List.getElem?_eq_getElem (by have := hn'.out; simp; omega))⟩
                    have r3 := hR.out.1.frozenAt (J' + 1)
                    have hst := hide (hR.out.1.stored (J' + 1) (.string (bs acc[J'])))
                    have hss := hide (shift_step acc J' ev hJa)
                    have J0 : ((J' + 1 : Nat) : Int) > (j : Int) := by omega
                    have J1 : ((J' + 1 : Nat) : Int) - 1 = (J' : Int) := by omega
                    have J2 : ((J' + 1 : Nat) : Int) < (n : Int) + 1 := by omega
                    have J3 : (J' : Int) < (n : Int) + 1 := by omega
                    go_wp2_with fail
                    go_roundw
                    case rel => exact ⟨J', _, by go_num, by omega, by omega, by have := hst.out.1; rw [show Value.string (bs acc[J']) = enc8 acc[J'] from rfl, hss.out] at this; exact this, hR.out.2.setCell (p := ⟨gl, J' + 1, none⟩) hgl.out _⟩
                    case measure => simp [intOf]
                  · obtain rfl : J = j := by omega
                    have J0 : ¬ ((J : Int) > (J : Int)) := by omega
                    obtain ⟨z, r2⟩ : ∃ z, wr.cell? ⟨gl, J, none⟩ = some z := by
                      refine ⟨_, (hR.out.1.cellAt J (by omega)).trans (List.getElem?_eq_getElem (by have := hn'.out; simp; omega))⟩
                    have r3 := hR.out.1.frozenAt J
                    have r1 : wr.cell? ⟨b, off + k, none⟩ = some (.string (bs x)) := by rw [hR.out.2.cell (p := ⟨b, off + k, none⟩) (lt_of_cell hcw.out)]; exact hcw.out
                    have hO2 : Hid ((wr.setCell ⟨gl, J, none⟩ (.string (bs x))).ownsRow w.heap.size 9 1 (.slice (some ⟨gl, 0, none⟩) (n + 1) c3) (ordR (ls.take (k + 1))).length ((ordR (ls.take (k + 1))).map enc8) ∧ Below w.heap.size w (wr.setCell ⟨gl, J, none⟩ (.string (bs x)))) := by
                      show _ ∧ _
                      have h5 := (hR.out.1.stored J (.string (bs x))).1
                      rw [show Value.string (bs x) = enc8 x from rfl, shift_end acc J ev x (by have := hn'.out; omega), ← hie.out, ← hoe.out] at h5
                      refine ⟨?_, hR.out.2.setCell (p := ⟨gl, J, none⟩) hgl.out _⟩
                      have h6 : (ordR (ls.take (k + 1))).length = n + 1 := by rw [hoe.out, hie.out]; have := hn'.out; simp; omega
                      rw [h6]; exact h5
                    have J2 : (J : Int) < (n : Int) + 1 := by omega
                    clear hR
                    go_wp2_with fail
                    go_roundw
                    case rel => exact ⟨k + 1, by go_num, by omega, hO2⟩
                    case measure => simp [intOf]; omega
            · obtain rfl : j = n := by omega
              have j1 : ¬ (j : Int) < (j : Int) := by omega
              have hie : Hid (insB x acc = acc.take j ++ x :: acc.drop j) := by
                show _ = _
                have e1 := hib.out
                rw [ht.out, List.getElem?_eq_none (by have := hn'.out; omega), if_neg (by simp)] at e1
                exact e1
              clear hib hcell
              go_wp2_with fail
              go_quiet (fail)
              go_wp2_with fail
              go_quiet (fail)
              refine widen8 (fun q => q.ownsRow w.heap.size 9 1 (.slice al j cl) j (acc.map enc8) ∧ Below w.heap.size w q) (by obtain ⟨nz, rfl⟩ := hq.out; exact ⟨hO.out.1, below_drewN (below_drewN (below_drewN hO.out.2 _) _) _⟩) ?_
              rintro q ⟨o1, o2⟩
              have zq := hide o2.size
              replace o1 := hide o1
              replace o2 := hide o2
              clear hO hq hcell2
              go_wp2_with (at_builtin; refine wpList_append_own _ rfl (.tmp 51) (.tmp 52) 22 rfl w.heap.size 9 i0 (.string ⟨#[]⟩) 1 16 Tryd.underlying22 hi hz0 hz1 hz2 rfl (by decide) _ j (acc.map enc8) rfl (o1.out.alloc _) ⟨q.heap.size, 0, none⟩ 1 1 [.string ⟨#[]⟩] rfl rfl (cell_one_new _ _ _) (by simp [Value.oneCell']) (by unfold maxLen; omega) (by omega) (by have := zq.out; simp; omega) ?_)
              intro v3 w3 ho3 g3 _
              have hB3 : Hid (Below w.heap.size w w3) := (o2.out.alloc zq.out _).grown g3 (by have := zq.out; simp; omega) fun k hk => (o1.out.lt k hk).1
              obtain ⟨gl, c3, rfl, _⟩ := ho3.form (by omega)
              have hgl : Hid (w.heap.size ≤ gl) := (ho3.lt gl rfl).1
              replace ho3 := hide ho3
              clear g3 o1 o2 zq
              have n1 : (j : Int) + 1 - 1 = (j : Int) := by omega
              go_wp2_with fail
              go_loopw [6] (fun v wr => ∃ (J : Nat) (e : Value), v = .int .i64 J ∧ j ≤ J ∧ J ≤ j ∧ Hid (wr.ownsRow w.heap.size 9 1 (.slice (some ⟨gl, 0, none⟩) (j + 1) c3) (j + 1) ((acc.take J).map enc8 ++ e :: (acc.drop J).map enc8) ∧ Below w.heap.size w wr)) (fun v _ => (intOf v).toNat)
              case atStart =>
                refine ⟨j, .string ⟨#[]⟩, by first | rfl | go_num, by omega, Nat.le_refl _, ?_, hB3.out⟩
                rw [List.take_of_length_le (by have := hn'.out; omega), List.drop_of_length_le (by have := hn'.out; omega)]
                exact ho3.out
              case round =>
                obtain ⟨J, ev, rfl, hJ1, hJ2, hR⟩ := hrel
                clear ho3 hB3
                by_cases hJ : j < J
                · exfalso; omega
                · obtain rfl : j = J := by omega
                  have J0 : ¬ ((j : Int) > (j : Int)) := by omega
                  obtain ⟨z, r2⟩ : ∃ z, wr.cell? ⟨gl, j, none⟩ = some z := by
                    refine ⟨_, (hR.out.1.cellAt j (by omega)).trans (List.getElem?_eq_getElem (by have := hn'.out; simp; omega))⟩
                  have r3 := hR.out.1.frozenAt j
                  have r1 : wr.cell? ⟨b, off + k, none⟩ = some (.string (bs x)) := by rw [hR.out.2.cell (p := ⟨b, off + k, none⟩) (lt_of_cell hcw.out)]; exact hcw.out
                  have hO2 : Hid ((wr.setCell ⟨gl, j, none⟩ (.string (bs x))).ownsRow w.heap.size 9 1 (.slice (some ⟨gl, 0, none⟩) (j + 1) c3) (ordR (ls.take (k + 1))).length ((ordR (ls.take (k + 1))).map enc8) ∧ Below w.heap.size w (wr.setCell ⟨gl, j, none⟩ (.string (bs x)))) := by
                    show _ ∧ _
                    have h5 := (hR.out.1.stored j (.string (bs x))).1
                    rw [show Value.string (bs x) = enc8 x from rfl, shift_end acc j ev x (by have := hn'.out; omega), ← hie.out, ← hoe.out] at h5
                    refine ⟨?_, hR.out.2.setCell (p := ⟨gl, j, none⟩) hgl.out _⟩
                    have h6 : (ordR (ls.take (k + 1))).length = j + 1 := by rw [hoe.out, hie.out]; have := hn'.out; simp; omega
                    rw [h6]; exact h5
                  have J2 : (j : Int) < (j : Int) + 1 := by omega
                  clear hR
                  go_wp2_with fail
                  go_roundw
                  case rel => exact ⟨k + 1, by go_num, by omega, hO2⟩
                  case measure => simp [intOf]; omega
    · obtain rfl : k = N := by omega
      have hO2 : Hid (wA.ownsRow w.heap.size 9 1 u3 (ordR ls).length ((ordR ls).map enc8) ∧ Below w.heap.size w wA) := by
        have := hO.out
        rwa [List.take_of_length_le (by have := hN.out; omega)] at this
      clear hO
      go_wp2_with fail
      go_ret
      exact ⟨_, rfl, hO2.out⟩
#print axioms refOrder_any
end Go.Proofs.YtenckagpaecnoaaDoor.Nm
