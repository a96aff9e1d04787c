/-
  Whether two values are the same in all.
-/
import Derived.Test.YtpfnkkkfekhngaaGreatDoorVi
import Derived.Deep.CutRange
import Derived.Deep.RegionHeld3
import Derived.BigQuiet
import Derived.WalkLawsBesides
namespace Go.Proofs.YtpfnkkkfekhngaaGreatDoor.Va
open Go.RowKit Go.Proofs.YtpfnkkkfekhngaaGreatDoor.Rl
set_option maxRecDepth 100000

mutual
def eqV : Val → Val → Bool
  | .mk k n r t l, .mk k' n' r' t' l' => decide (k = k') && decide (n = n') && decide (r = r') && decide (t = t') && eqL l l'
def eqL : List Val → List Val → Bool
  | [], [] => true
  | [], _ :: _ => false
  | _ :: _, [] => false
  | x :: r, y :: s => eqV x y && eqL r s
end
mutual
theorem eqV_iff : ∀ x y, eqV x y = true ↔ x = y
  | .mk k n r t l, .mk k' n' r' t' l' => by
    rw [eqV]
    simp only [Bool.and_eq_true, decide_eq_true_eq, eqL_iff l l', Val.mk.injEq, and_assoc]
theorem eqL_iff : ∀ x y, eqL x y = true ↔ x = y
  | [], [] => by simp [eqL]
  | [], _ :: _ => by simp [eqL]
  | _ :: _, [] => by simp [eqL]
  | x :: r, y :: s => by
    rw [eqL]
    simp only [Bool.and_eq_true, eqV_iff x y, eqL_iff r s, List.cons.injEq]
end
theorem eqL_len : ∀ {x y : List Val}, eqL x y = true → x.length = y.length := fun {x y} h => by rw [(eqL_iff x y).1 h]
theorem bits3_any (w : World) (a b : Nat) : Calls Tryz.prog 36 #[.float .f64 a, .float .f64 b] w fun e w' => e = .returned (.bool (decide (a = b))) ∧ w' = w := by
  have k1 := bits_run
  go_enter Tryz.func36, Tryz.ntmps36
  go_wp2
  go_ret
  refine ⟨congrArg (fun x => Ending.returned (Value.bool x)) (?_ : _ = _), rfl⟩
  rw [Bool.eq_iff_iff]
  simp
  omega
theorem bstr_list (t : List UInt8) : (bstr t).toList = t := ByteArray.toList_mk t
theorem keepV {w u v : World} (q : Below u.heap.size u v) (h : Below w.heap.size w u) : Below w.heap.size w v := h.trans (q.mono h.size)
theorem bstr_inj {a b : List UInt8} (h : bstr a = bstr b) : a = b := by
  unfold bstr at h
  simpa using h
set_option maxHeartbeats 2000000 in
theorem eq_any (x : Val) : ∀ (y : Val) (w : World) (v u : Value), IsV w v x → IsV w u y → Calls Tryz.prog 16 #[v, u] w fun e w' => e = .returned (.bool (eqV x y)) ∧ Below w.heap.size w w' := by
  induction x using Val.ind with
  | h k n r t l ih =>
    intro y w v u hv hu
    obtain ⟨k', n', r', t', l'⟩ := y
    rw [IsV] at hv hu
    obtain ⟨ao, cap, rfl, _, _, h4, _, h6⟩ := hv
    obtain ⟨ao', cap', rfl, _, _, h4', _, h6'⟩ := hu
    replace h6 : Hid (IsL w ao 0 l) := h6
    replace h6' : Hid (IsL w ao' 0 l') := h6'
    obtain ⟨n0, hn0⟩ : ∃ n0, Hid (l.length = n0) := ⟨_, rfl⟩
    obtain ⟨m0, hm0⟩ : ∃ n0, Hid (l'.length = n0) := ⟨_, rfl⟩
    rw [hn0.out, hm0.out]
    have hn1 : n0 ≤ 9223372036854775807 := by rw [← hn0.out]; unfold maxLen at h4; omega
    clear h4 h4'
    replace ih : Hid (∀ x ∈ l, ∀ (y : Val) (w : World) (v u : Value), IsV w v x → IsV w u y → Calls Tryz.prog 16 #[v, u] w fun e w' => e = .returned (.bool (eqV x y)) ∧ Below w.heap.size w w') := ih
    obtain ⟨D, hD⟩ : ∃ D : Bool, Hid (D = (decide (k = k') && decide (n = n') && decide (r = r') && decide (t = t') && decide (n0 = m0))) := ⟨decide (k = k') && decide (n = n') && decide (r = r') && decide (t = t') && decide (n0 = m0), rfl⟩
    have hbox : Hid (Below w.heap.size w ((w.alloc (.cells #[.int .i64 k, .int .i64 n, .float .f64 r, .string (bstr t), .slice ao n0 cap] 35)).alloc (.cells #[.int .i64 k', .int .i64 n', .float .f64 r', .string (bstr t'), .slice ao' m0 cap'] 35))) := (box_below _ _).alloc (by simp) _
    go_enter Tryz.func16, Tryz.ntmps16
    go_upto_region 1 with fail
    go_cut [41] from 6 (fun s wx => s = .bool (!D) ∧ wx = (w.alloc (.cells #[.int .i64 k, .int .i64 n, .float .f64 r, .string (bstr t), .slice ao n0 cap] 35)).alloc (.cells #[.int .i64 k', .int .i64 n', .float .f64 r', .string (bstr t'), .slice ao' m0 cap'] 35))
    case first =>
      by_cases e1 : k = k'
      · subst e1
        by_cases e2 : n = n'
        · subst e2
          go_wp2_with fail
          refine (bits3_any _ r r').mono ?_
          rintro e w1 ⟨rfl, rfl⟩
          by_cases e3 : r = r'
          · have kt : ((bstr t).toList == (bstr t').toList) = decide (t = t') := by rw [bstr_list, bstr_list, Bool.eq_iff_iff]; simp
            rw [decide_eq_true e3]
            by_cases e4 : t = t'
            · rw [decide_eq_true e4] at kt
              by_cases e5 : n0 = m0
              · have hD1 : D = true := by rw [hD.out]; simp [e3, e4, e5]
                have kn : ((n0 : Int) != (m0 : Int)) = false := by simp [e5]
                clear e3 e4 e5
                subst hD1
                go_wp2_with fail
                go_meet
                case rel => exact ⟨rfl, rfl⟩
              · have hD1 : D = false := by rw [hD.out]; simp [e5]
                have kn : ((n0 : Int) != (m0 : Int)) = true := by simp; omega
                clear e3 e4 e5
                subst hD1
                go_wp2_with fail
                go_meet
                case rel => exact ⟨rfl, rfl⟩
            · rw [decide_eq_false e4] at kt
              have hD1 : D = false := by rw [hD.out]; simp [e4]
              clear e3 e4
              subst hD1
              go_wp2_with fail
              go_meet
              case rel => exact ⟨rfl, rfl⟩
          · have hD1 : D = false := by rw [hD.out]; simp [e3]
            rw [decide_eq_false e3]
            clear e3
            subst hD1
            go_wp2_with fail
            go_meet
            case rel => exact ⟨rfl, rfl⟩
        · have hD1 : D = false := by rw [hD.out]; simp [e2]
          have kn : (n != n') = true := by simp [e2]
          subst hD1
          go_wp2_with fail
          go_meet
          case rel => exact ⟨rfl, rfl⟩
      · have hD1 : D = false := by rw [hD.out]; simp [e1]
        have kn : (k != k') = true := by simp [e1]
        subst hD1
        go_wp2_with fail
        go_meet
        case rel => exact ⟨rfl, rfl⟩
    case rest =>
      obtain ⟨rfl, rfl⟩ := hcut
      cases D with
      | false =>
        have fin : Hid (eqV (.mk k n r t l) (.mk k' n' r' t' l') = false) := by
          show _ = _
          cases h : eqV (.mk k n r t l) (.mk k' n' r' t' l') with
          | false => rfl
          | true =>
            have e := (eqV_iff _ _).1 h
            simp only [Val.mk.injEq] at e
            obtain ⟨rfl, rfl, rfl, rfl, rfl⟩ := e
            have e2 : n0 = m0 := hn0.out.symm.trans hm0.out
            have := hD.out
            simp [e2] at this
        go_wp2_with fail
        go_ret
        exact ⟨by rw [fin.out]; rfl, hbox.out⟩
      | true =>
        have hDD := hD.out
        simp only [Bool.true_eq, Bool.and_eq_true, decide_eq_true_eq] at hDD
        obtain ⟨⟨⟨⟨rfl, rfl⟩, rfl⟩, rfl⟩, rfl⟩ := hDD
        obtain ⟨R, hR⟩ : ∃ R, Hid (eqV (.mk k n r t l) (.mk k n r t l') = R) := ⟨eqV (.mk k n r t l) (.mk k n r t l'), rfl⟩
        have fin : Hid (R = eqL l l') := by show _ = _; rw [← hR.out, eqV]; simp
        clear hD
        rw [Bool.not_true]
        go_wp2_with fail
        go_loopw [5] (fun v5 wr => ∃ i : Nat, i ≤ n0 ∧ v5 = .int .i64 (i : Int) ∧ Hid (R = eqL (l.drop i) (l'.drop i)) ∧ wr.cell? ⟨w.heap.size, 4, none⟩ = some (.slice ao n0 cap) ∧ wr.cell? ⟨w.heap.size + 1, 4, none⟩ = some (.slice ao' n0 cap') ∧ Hid (Below w.heap.size w wr ∧ w.heap.size + 1 < wr.heap.size)) (fun v _ => n0 - (intOf v).toNat)
        case atStart => exact ⟨0, by omega, rfl, fin.out, by simp, by simp, ⟨hbox.out, by simp⟩⟩
        case round =>
          clear hbox
          obtain ⟨i, hi, rfl, hz, b1, b2, hB⟩ := hrel
          by_cases hin : i = n0
          · have hRt : R = true := by
              have h1 := hn0.out
              have h2 := hm0.out
              rw [hz.out, List.drop_of_length_le (by omega), List.drop_of_length_le (by omega)]; rfl
            subst hin hRt
            go_wp2_with fail
            go_ret
            exact ⟨by rw [hR.out]; rfl, hB.out.1⟩
          · have hil : i < l.length := by have := hn0.out; omega
            have hil' : i < l'.length := by have := hm0.out; omega
            have i1 : (i : Int) < (n0 : Int) := by omega
            have i2 : (0 : Int) ≤ (i : Int) := by omega
            have hbw : Hid (IsL wr ao 0 l) := IsL.below hB.out.1 l ao 0 h6.out
            have hbw' : Hid (IsL wr ao' 0 l') := IsL.below hB.out.1 l' ao' 0 h6'.out
            obtain ⟨b, off, c0, c1, c2, c3, c4, rfl, g0, g1, g2, g3, g4, hx⟩ := IsL.get hbw.out i hil
            obtain ⟨b', off', d0, d1, d2, d3, d4, rfl, q0, q1, q2, q3, q4, hy⟩ := IsL.get hbw'.out i hil'
            rw [Nat.zero_add] at g0 g1 g2 g3 g4 q0 q1 q2 q3 q4
            replace hx : Hid (IsV wr (.agg #[c0, c1, c2, c3, c4]) l[i]) := hx
            replace hy : Hid (IsV wr (.agg #[d0, d1, d2, d3, d4]) l'[i]) := hy
            have hz2 : Hid (R = (eqV l[i] l'[i] && eqL (l.drop (i + 1)) (l'.drop (i + 1)))) := by
              show _ = _
              rw [hz.out, List.drop_eq_getElem_cons hil, List.drop_eq_getElem_cons hil', eqL]
            obtain ⟨E, hE⟩ : ∃ E, Hid (eqV l[i] l'[i] = E) := ⟨eqV l[i] l'[i], rfl⟩
            rw [hE.out] at hz2
            have ceq : Hid (∀ q, Below wr.heap.size wr q → Calls Tryz.prog 16 #[.agg #[c0, c1, c2, c3, c4], .agg #[d0, d1, d2, d3, d4]] q fun e w' => e = .returned (.bool E) ∧ Below q.heap.size q w') := fun q hb => by
              have := ih.out l[i] (List.getElem_mem hil) l'[i] q _ _ (IsV.below hb _ _ hx.out) (IsV.below hb _ _ hy.out)
              rw [hE.out] at this
              exact this
            have KS : Hid (∀ q : World, Below wr.heap.size wr q → Below wr.heap.size wr q ∧ q.cell? ⟨w.heap.size, 4, none⟩ = some (.slice (some ⟨b, off, none⟩) n0 cap) ∧ q.cell? ⟨w.heap.size + 1, 4, none⟩ = some (.slice (some ⟨b', off', none⟩) n0 cap') ∧ q.cell? ⟨b, off + i * 5, none⟩ = some c0 ∧ q.cell? ⟨b, off + i * 5 + 1, none⟩ = some c1 ∧ q.cell? ⟨b, off + i * 5 + 2, none⟩ = some c2 ∧ q.cell? ⟨b, off + i * 5 + 3, none⟩ = some c3 ∧ q.cell? ⟨b, off + i * 5 + 4, none⟩ = some c4 ∧ q.cell? ⟨b', off' + i * 5, none⟩ = some d0 ∧ q.cell? ⟨b', off' + i * 5 + 1, none⟩ = some d1 ∧ q.cell? ⟨b', off' + i * 5 + 2, none⟩ = some d2 ∧ q.cell? ⟨b', off' + i * 5 + 3, none⟩ = some d3 ∧ q.cell? ⟨b', off' + i * 5 + 4, none⟩ = some d4) := fun q hb =>
              ⟨hb, (hb.cell (lt_of_cell b1)).trans b1, (hb.cell (lt_of_cell b2)).trans b2, (hb.cell (lt_of_cell g0)).trans g0, (hb.cell (lt_of_cell g1)).trans g1, (hb.cell (lt_of_cell g2)).trans g2, (hb.cell (lt_of_cell g3)).trans g3, (hb.cell (lt_of_cell g4)).trans g4, (hb.cell (lt_of_cell q0)).trans q0, (hb.cell (lt_of_cell q1)).trans q1, (hb.cell (lt_of_cell q2)).trans q2, (hb.cell (lt_of_cell q3)).trans q3, (hb.cell (lt_of_cell q4)).trans q4⟩
            have hS0 := KS.out wr.drew (Below.refl _ _).drew
            have hbB : Hid (w.heap.size + 1 < wr.heap.size) := hB.out.2
            have b1' : Hid (wr.cell? ⟨w.heap.size, 4, none⟩ = some (.slice (some ⟨b, off, none⟩) n0 cap)) := b1
            have b2' : Hid (wr.cell? ⟨w.heap.size + 1, 4, none⟩ = some (.slice (some ⟨b', off', none⟩) n0 cap')) := b2
            go_wp2_with fail
            go_region_held3 (fun q => Below wr.heap.size wr q ∧ q.cell? ⟨w.heap.size, 4, none⟩ = some (.slice (some ⟨b, off, none⟩) n0 cap) ∧ q.cell? ⟨w.heap.size + 1, 4, none⟩ = some (.slice (some ⟨b', off', none⟩) n0 cap') ∧ q.cell? ⟨b, off + i * 5, none⟩ = some c0 ∧ q.cell? ⟨b, off + i * 5 + 1, none⟩ = some c1 ∧ q.cell? ⟨b, off + i * 5 + 2, none⟩ = some c2 ∧ q.cell? ⟨b, off + i * 5 + 3, none⟩ = some c3 ∧ q.cell? ⟨b, off + i * 5 + 4, none⟩ = some c4 ∧ q.cell? ⟨b', off' + i * 5, none⟩ = some d0 ∧ q.cell? ⟨b', off' + i * 5 + 1, none⟩ = some d1 ∧ q.cell? ⟨b', off' + i * 5 + 2, none⟩ = some d2 ∧ q.cell? ⟨b', off' + i * 5 + 3, none⟩ = some d3 ∧ q.cell? ⟨b', off' + i * 5 + 4, none⟩ = some d4)
              (first | exact hS0 | assumption | exact KS.out _ (by assumption) | exact KS.out _ (keepV (by assumption) (And.left (by assumption))))
              (first
                | (go_at_call 16; refine (ceq.out _ (And.left (by assumption))).mono ?_; rintro e u1 ⟨rfl, B1⟩))
            have hb1 : Below wr.heap.size wr u1 := And.left (a := Below wr.heap.size wr u1) (by assumption)
            have f1 : u1.cell? ⟨w.heap.size, 4, none⟩ = some (.slice (some ⟨b, off, none⟩) n0 cap) := (hb1.cell (lt_of_cell b1'.out)).trans b1'.out
            have f2 : u1.cell? ⟨w.heap.size + 1, 4, none⟩ = some (.slice (some ⟨b', off', none⟩) n0 cap') := (hb1.cell (lt_of_cell b2'.out)).trans b2'.out
            have hB2 : Hid (Below w.heap.size w u1 ∧ w.heap.size + 1 < u1.heap.size) := ⟨hB.out.1.trans (hb1.mono hB.out.1.size), by have := hb1.size; have := hbB.out; omega⟩
            clear hb1 B1 hS0 b1 b2 g0 g1 g2 g3 g4 q0 q1 q2 q3 q4
            cases E with
            | false =>
              have hRf : R = false := by rw [hz2.out]; rfl
              subst hRf
              go_wp2_with fail
              go_ret
              exact ⟨by rw [hR.out]; rfl, hB2.out.1⟩
            | true =>
              have hz3 : Hid (R = eqL (l.drop (i + 1)) (l'.drop (i + 1))) := by show _ = _; rw [hz2.out]; rfl
              go_wp2_with fail
              go_roundw
              case rel => exact ⟨i + 1, by omega, by go_num, hz3.out, by assumption, by assumption, hB2.out⟩
              case measure => simp [intOf]; omega
#print axioms eq_any
end Go.Proofs.YtpfnkkkfekhngaaGreatDoor.Va
