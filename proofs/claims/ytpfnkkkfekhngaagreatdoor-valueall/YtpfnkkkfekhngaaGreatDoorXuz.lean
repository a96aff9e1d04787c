/-
  The document's own answer: flumeref4.number, Texts.
-/
import Derived.Test.YtpfnkkkfekhngaaGreatDoorXlz
import Derived.BigQuiet
import Derived.Deep.RegionWith
import Derived.Test.YtpfnkkkfekhngaaGreatDoorVwK
import Derived.Test.YtpfnkkkfekhngaaGreatDoorVg
import Derived.Test.YtpfnkkkfekhngaaGreatDoorVz
import Derived.Test.YtpfnkkkfekhngaaGreatDoorVs
import Derived.Test.YtpfnkkkfekhngaaGreatDoorVm
import Derived.Test.YtpfnkkkfekhngaaGreatDoorVf
namespace Go.Proofs.YtpfnkkkfekhngaaGreatDoor.Va
open Go.RowKit Go.Proofs.YtpfnkkkfekhngaaGreatDoor.Rl
set_option maxRecDepth 100000

theorem refNumber_any (w : World) (a b : Int) : Calls Tryz.prog 49 #[.int .i64 a, .int .i64 b] w fun e w' => e = .returned (.int .i64 (cmpZ a b)) ∧ w' = w := by
  unfold cmpZ
  go_enter Tryz.func49, Tryz.ntmps49
  by_cases h1 : a < b
  · rw [if_pos h1]
    go_wp2
    go_ret
    exact ⟨rfl, rfl⟩
  · rw [if_neg h1]
    by_cases h2 : b < a
    · rw [if_pos h2]
      go_wp2
      go_ret
      exact ⟨rfl, rfl⟩
    · rw [if_neg h2]
      go_wp2
      go_ret
      exact ⟨rfl, rfl⟩
theorem cmpT_end (t s : List UInt8) (h : t = [] ∨ s = []) : cmpT t s = cmpZ t.length s.length := by
  cases t <;> cases s <;> simp [cmpT, cmpZ] at h ⊢ <;> omega
theorem cmpZ_add (a b c : Int) : cmpZ (a + c) (b + c) = cmpZ a b := by unfold cmpZ; (repeat' split) <;> omega
set_option maxHeartbeats 2000000 in
theorem refTexts_any (w : World) (t s : List UInt8) (ht : t.length ≤ 140737488355328) (hs : s.length ≤ 140737488355328) : Calls Tryz.prog 51 #[.string (bstr t), .string (bstr s)] w fun e w' => e = .returned (.int .i64 (cmpT t s)) ∧ Qt w w' := by
  obtain ⟨R, hR⟩ : ∃ R, Hid (cmpT t s = R) := ⟨_, rfl⟩
  rw [hR.out]
  have l1 : (bstr t).size = t.length := rfl
  have l2 : (bstr s).size = s.length := rfl
  go_enter Tryz.func51, Tryz.ntmps51
  go_wp2_with fail
  go_loopw [5] (fun v5 wr => ∃ i : Nat, i ≤ t.length ∧ i ≤ s.length ∧ v5 = .int .i64 (i : Int) ∧ Hid (R = cmpT (t.drop i) (s.drop i)) ∧ Qt w wr) (fun v _ => t.length - (intOf v).toNat)
  case atStart => exact ⟨0, by omega, by omega, rfl, hR.out.symm, Qt.refl _⟩
  case round =>
    obtain ⟨i, hi, hj, rfl, hz, ⟨nq, rfl⟩⟩ := hrel
    have hfin : Hid ((i = t.length ∨ i = s.length) → cmpZ t.length s.length = R) := fun hend => by
      rw [hz.out, cmpT_end _ _ (by
        rcases hend with h | h
        · left; rw [h]; exact List.drop_length
        · right; rw [h]; exact List.drop_length)]
      rw [List.length_drop, List.length_drop]
      have := cmpZ_add ((t.length - i : Nat) : Int) ((s.length - i : Nat) : Int) i
      rw [← this]
      congr 1 <;> omega
    by_cases hend : i = t.length
    · have hRe : Hid (cmpZ t.length s.length = R) := hfin.out (Or.inl hend)
      have i1 : ¬ (i : Int) < (t.length : Int) := by omega
      clear hend
      go_wp2_with fail
      refine (refNumber_any _ _ _).mono ?_
      rintro e w2 ⟨rfl, rfl⟩
      go_wp2_with fail
      go_ret
      exact ⟨by first | (rw [← hRe.out]; rfl) | (show _ = _; rw [← hRe.out]), ⟨_, rfl⟩⟩
    have i1 : (i : Int) < (t.length : Int) := by omega
    by_cases hend2 : i = s.length
    · have hRe : Hid (cmpZ t.length s.length = R) := hfin.out (Or.inr hend2)
      have i3 : ¬ (i : Int) < (s.length : Int) := by omega
      clear hend hend2
      go_wp2_with fail
      refine (refNumber_any _ _ _).mono ?_
      rintro e w2 ⟨rfl, rfl⟩
      go_wp2_with fail
      go_ret
      exact ⟨by first | (rw [← hRe.out]; rfl) | (show _ = _; rw [← hRe.out]), ⟨_, rfl⟩⟩
    have i3 : (i : Int) < (s.length : Int) := by omega
    have i2 : (0 : Int) ≤ (i : Int) := by omega
    have hil : i < t.length := by omega
    have hjl : i < s.length := by omega
    obtain ⟨c, hc⟩ : ∃ c, Hid (t[i] = c) := ⟨t[i], rfl⟩
    obtain ⟨d, hd⟩ : ∃ c, Hid (s[i] = c) := ⟨s[i], rfl⟩
    have hix : ∀ h : i < (bstr t).size, (bstr t)[i] = c := fun h => by
      rw [← hc.out]
      show (bstr t).data[i] = _
      simp [bstr]
    have hjx : ∀ h : i < (bstr s).size, (bstr s)[i] = d := fun h => by
      rw [← hd.out]
      show (bstr s).data[i] = _
      simp [bstr]
    have hz2 : Hid (R = if c = d then cmpT (t.drop (i + 1)) (s.drop (i + 1)) else cmpZ c.toNat d.toNat) := by
      show _ = _
      rw [hz.out, List.drop_eq_getElem_cons hil, List.drop_eq_getElem_cons hjl, cmpT, hc.out, hd.out]
    clear hend hend2 hfin hz hc hd
    by_cases hcd : c = d
    · have hz3 : Hid (R = cmpT (t.drop (i + 1)) (s.drop (i + 1))) := by show _ = _; rw [hz2.out, if_pos hcd]
      subst hcd
      clear hz2
      go_wp2_with fail
      go_quiet (fail)
      go_wp2_with fail
      go_roundw
      case rel => exact ⟨i + 1, by omega, by omega, by go_num, hz3, ⟨_, rfl⟩⟩
      case measure => simp [intOf]; omega
    · have hz3 : Hid (cmpZ c.toNat d.toNat = R) := by show _ = _; rw [hz2.out, if_neg hcd]
      have q1 : ((c.toNat : Int) != (d.toNat : Int)) = true := by
        simp only [bne_iff_ne, ne_eq, Int.natCast_inj]
        intro h
        exact hcd (UInt8.toNat_inj.1 h)
      have wr1 : ∀ x : UInt8, IntKind.i64.wrap (x.toNat : Int) = (x.toNat : Int) := fun x => by
        have := x.toNat_lt
        rw [IntKind.wrap_i64]
        omega
      have knum : Hid (∀ q, Calls Tryz.prog 49 #[.int .i64 (IntKind.i64.wrap (c.toNat : Int)), .int .i64 (IntKind.i64.wrap (d.toNat : Int))] q fun e w' => e = .returned (.int .i64 R) ∧ w' = q) := fun q => by
        rw [wr1, wr1, ← hz3.out]
        exact refNumber_any q _ _
      clear hz2 hcd wr1
      go_wp2_with fail
      go_quiet (fail)
      go_wp2_with fail
      go_region_with (first | (go_at_call 49; refine (knum.out _).mono ?_; rintro e w2 ⟨rfl, rfl⟩))
      all_goals (go_wp2_with fail; go_ret; exact ⟨rfl, ⟨_, by first | rfl | (simp [World.drewN]; rfl)⟩⟩)
#print axioms refTexts_any
end Go.Proofs.YtpfnkkkfekhngaaGreatDoor.Va

/-
  The document's own answer: flumeref4.order.
-/
namespace Go.Proofs.YtpfnkkkfekhngaaGreatDoor.Va
open Go.RowKit Go.Proofs.YtpfnkkkfekhngaaGreatDoor.Rl
set_option maxRecDepth 100000

theorem hideR {p : Prop} (h : p) : Hid p := h
theorem wtL_atR : ∀ {l : List Val}, wtL l → ∀ i (h : i < l.length), wtV l[i]
  | [], _, i, h => by simp at h
  | x :: r, hw, 0, _ => by rw [wtL] at hw; exact hw.1
  | x :: r, hw, i + 1, h => by rw [wtL] at hw; exact wtL_atR hw.2 i (by simpa using h)
theorem cmpL_end (t s : List Val) (h : t = [] ∨ s = []) : cmpL t s = cmpZ t.length s.length := by
  cases t <;> cases s <;> simp [cmpL, cmpZ] at h ⊢ <;> omega
set_option maxHeartbeats 4000000 in
theorem reforder_any (x : Val) : ∀ (y : Val) (w : World) (v u : Value), IsV w v x → IsV w u y → wtV x → wtV y → Calls Tryz.prog 39 #[v, u] w fun e w' => e = .returned (.int .i64 (cmpV x y)) ∧ Below w.heap.size w w' := by
  induction x using Val.ind with
  | h k n r t l ih =>
    intro y w v u hv hu hwx hwy
    obtain ⟨k', n', r', t', l'⟩ := y
    rw [IsV] at hv hu
    obtain ⟨ao, cap, rfl, h2, h3, h4, h5, h6⟩ := hv
    obtain ⟨ao', cap', rfl, h2', h3', h4', h5', h6'⟩ := hu
    rw [wtV] at hwx hwy
    replace h6 : Hid (IsL w ao 0 l) := h6
    replace h6' : Hid (IsL w ao' 0 l') := h6'
    have hwl : Hid (wtL l ∧ wtL l') := ⟨hwx.2.2.2, hwy.2.2.2⟩
    have hr1 := hwx.2.2.1
    have hr2 := hwy.2.2.1
    replace ih : Hid (∀ x ∈ l, ∀ (y : Val) (w : World) (v u : Value), IsV w v x → IsV w u y → wtV x → wtV y → Calls Tryz.prog 39 #[v, u] w fun e w' => e = .returned (.int .i64 (cmpV x y)) ∧ Below w.heap.size w w') := ih
    obtain ⟨n0, hn0⟩ : ∃ n0, Hid (l.length = n0) := ⟨_, rfl⟩
    obtain ⟨m0, hm0⟩ : ∃ n0, Hid (l'.length = n0) := ⟨_, rfl⟩
    rw [hn0.out, hm0.out]
    have hn1 : n0 ≤ 9223372036854775807 := by rw [← hn0.out]; unfold maxLen at h4; omega
    have hm1 : m0 ≤ 9223372036854775807 := by rw [← hm0.out]; unfold maxLen at h4'; omega
    clear h2 h3 h4 h2' h3' h4' hwx hwy
    obtain ⟨R, hR⟩ : ∃ R, Hid (cmpV (.mk k n r t l) (.mk k' n' r' t' l') = R) := ⟨_, rfl⟩
    rw [hR.out]
    have fin : Hid (R = if k ≠ k' then cmpZ k k' else if k = 2 ∨ k = 3 then cmpZ n n' else if k = 4 then cmpB r r' else if k = 5 then cmpT t t' else cmpL l l') := by show _ = _; rw [← hR.out, cmpV]
    clear hR
    have hbox : Hid (Below w.heap.size w ((w.alloc (.cells #[.int .i64 k, .int .i64 n, .float .f64 r, .string (bstr t), .slice ao n0 cap] 35)).alloc (.cells #[.int .i64 k', .int .i64 n', .float .f64 r', .string (bstr t'), .slice ao' m0 cap'] 35))) := (box_below _ _).alloc (by simp) _
    go_enter Tryz.func39, Tryz.ntmps39
    by_cases e1 : k = k'
    case neg =>
      have hR1 : Hid (cmpZ k k' = R) := by show _ = _; rw [fin.out, if_pos e1]
      have q1 : (k != k') = true := by simp [e1]
      clear e1
      go_wp2_with fail
      refine (refNumber_any _ _ _).mono ?_
      rintro e w1 ⟨rfl, rfl⟩
      rw [hR1.out]
      go_wp2_with fail
      go_ret
      exact ⟨rfl, hbox.out⟩
    subst e1
    have fin1 : Hid (R = if k = 2 ∨ k = 3 then cmpZ n n' else if k = 4 then cmpB r r' else if k = 5 then cmpT t t' else cmpL l l') := by show _ = _; rw [fin.out, if_neg (by simp)]
    by_cases e2 : k = 2
    · subst e2
      have hR1 : Hid (cmpZ n n' = R) := by show _ = _; rw [fin1.out, if_pos (by simp)]
      go_wp2_with fail
      refine (refNumber_any _ _ _).mono ?_
      rintro e w1 ⟨rfl, rfl⟩
      rw [hR1.out]
      go_wp2_with fail
      go_ret
      exact ⟨rfl, hbox.out⟩
    by_cases e3 : k = 3
    · subst e3
      have hR1 : Hid (cmpZ n n' = R) := by show _ = _; rw [fin1.out, if_pos (by simp)]
      clear e2
      go_wp2_with fail
      refine (refNumber_any _ _ _).mono ?_
      rintro e w1 ⟨rfl, rfl⟩
      rw [hR1.out]
      go_wp2_with fail
      go_ret
      exact ⟨rfl, hbox.out⟩
    by_cases e4 : k = 4
    · subst e4
      have hR1 : Hid (cmpB r r' = R) := by show _ = _; rw [fin1.out, if_neg (by simp), if_pos rfl]
      clear e2 e3
      go_wp2_with fail
      refine (refCompare_any _ _ _ hr1 hr2).mono ?_
      rintro e w1 ⟨rfl, rfl⟩
      rw [hR1.out]
      go_wp2_with fail
      go_ret
      exact ⟨rfl, hbox.out⟩
    by_cases e5 : k = 5
    · subst e5
      have hR1 : Hid (cmpT t t' = R) := by show _ = _; rw [fin1.out, if_neg (by simp), if_neg (by simp), if_pos rfl]
      clear e2 e3 e4
      go_wp2_with fail
      refine (refTexts_any _ _ _ h5 h5').mono ?_
      rintro e w1 ⟨rfl, hq⟩
      rw [hR1.out]
      have hB1 : Hid (Below w.heap.size w w1) := hbox.out.trans (Qt.below hq _)
      clear hq
      go_wp2_with fail
      go_ret
      exact ⟨rfl, hB1.out⟩
    have fin2 : Hid (R = cmpL l l') := by show _ = _; rw [fin1.out, if_neg (by omega), if_neg e4, if_neg e5]
    have q2 : (k == 2) = false := by simp [e2]
    have q3 : (k == 3) = false := by simp [e3]
    have q4 : (k == 4) = false := by simp [e4]
    have q5 : (k == 5) = false := by simp [e5]
    clear e2 e3 e4 e5 fin fin1 hr1 hr2 h5 h5'
    go_wp2_with fail
    clear q2 q3 q4 q5
    go_loopw [5] (fun v5 wr => ∃ i : Nat, i ≤ n0 ∧ i ≤ m0 ∧ v5 = .int .i64 (i : Int) ∧ Hid (R = cmpL (l.drop i) (l'.drop i)) ∧ wr.cell? ⟨w.heap.size, 4, none⟩ = some (.slice ao n0 cap) ∧ wr.cell? ⟨w.heap.size + 1, 4, none⟩ = some (.slice ao' m0 cap') ∧ Hid (Below w.heap.size w wr ∧ w.heap.size + 1 < wr.heap.size)) (fun v _ => n0 - (intOf v).toNat)
    case atStart => exact ⟨0, by omega, by omega, rfl, fin2.out, by simp, by simp, ⟨hbox.out, by simp⟩⟩
    case round =>
          clear hbox
          obtain ⟨i, hi, hj, rfl, hz, b1, b2, hB⟩ := hrel
          have hfin : Hid ((i = n0 ∨ i = m0) → cmpZ n0 m0 = R) := fun hend => by
            have h1 := hn0.out
            have h2 := hm0.out
            rw [hz.out, cmpL_end _ _ (by
              rcases hend with h | h
              · left; exact List.drop_of_length_le (by omega)
              · right; exact List.drop_of_length_le (by omega))]
            rw [List.length_drop, List.length_drop]
            have := cmpZ_add ((l.length - i : Nat) : Int) ((l'.length - i : Nat) : Int) i
            rw [← this]
            congr 1 <;> omega
          by_cases hin : i = n0
          · have hRt := hideR (hfin.out (Or.inl hin))
            have i1 : ¬ (i : Int) < (n0 : Int) := by omega
            clear hin
            go_wp2_with fail
            refine (refNumber_any _ _ _).mono ?_
            rintro e w1 ⟨rfl, rfl⟩
            rw [hRt.out]
            go_wp2_with fail
            go_ret
            exact ⟨rfl, hB.out.1⟩
          have i1 : (i : Int) < (n0 : Int) := by omega
          by_cases hin2 : i = m0
          · have hRt := hideR (hfin.out (Or.inr hin2))
            have i3 : ¬ (i : Int) < (m0 : Int) := by omega
            clear hin hin2
            go_wp2_with fail
            refine (refNumber_any _ _ _).mono ?_
            rintro e w1 ⟨rfl, rfl⟩
            rw [hRt.out]
            go_wp2_with fail
            go_ret
            exact ⟨rfl, hB.out.1⟩
          · have hil : i < l.length := by have := hn0.out; omega
            have hil' : i < l'.length := by have := hm0.out; omega
            have i3 : (i : Int) < (m0 : Int) := by omega
            have i2 : (0 : Int) ≤ (i : Int) := by omega
            clear hin hin2 hfin
            have hbw : Hid (IsL wr ao 0 l) := IsL.below hB.out.1 l ao 0 h6.out
            have hbw' : Hid (IsL wr ao' 0 l') := IsL.below hB.out.1 l' ao' 0 h6'.out
            obtain ⟨b, off, c0, c1, c2, c3, c4, rfl, g0, g1, g2, g3, g4, hx⟩ := IsL.get hbw.out i hil
            obtain ⟨b', off', d0, d1, d2, d3, d4, rfl, q0, q1, q2, q3, q4, hy⟩ := IsL.get hbw'.out i hil'
            rw [Nat.zero_add] at g0 g1 g2 g3 g4 q0 q1 q2 q3 q4
            replace hx : Hid (IsV wr (.agg #[c0, c1, c2, c3, c4]) l[i]) := hx
            replace hy : Hid (IsV wr (.agg #[d0, d1, d2, d3, d4]) l'[i]) := hy
            have hz2 : Hid (R = if cmpV l[i] l'[i] = 0 then cmpL (l.drop (i + 1)) (l'.drop (i + 1)) else cmpV l[i] l'[i]) := by
              show _ = _
              rw [hz.out, List.drop_eq_getElem_cons hil, List.drop_eq_getElem_cons hil', cmpL]
            obtain ⟨E, hE⟩ : ∃ E, Hid (cmpV l[i] l'[i] = E) := ⟨cmpV l[i] l'[i], rfl⟩
            rw [hE.out] at hz2
            have wt1 := wtL_atR hwl.out.1 i hil
            have wt2 := wtL_atR hwl.out.2 i hil'
            have ceq : Hid (∀ q, Below wr.heap.size wr q → Calls Tryz.prog 39 #[.agg #[c0, c1, c2, c3, c4], .agg #[d0, d1, d2, d3, d4]] q fun e w' => e = .returned (.int .i64 E) ∧ Below q.heap.size q w') := fun q hb => by
              have := ih.out l[i] (List.getElem_mem hil) l'[i] q _ _ (IsV.below hb _ _ hx.out) (IsV.below hb _ _ hy.out) wt1 wt2
              rw [hE.out] at this
              exact this
            clear wt1 wt2
            have KS : Hid (∀ q : World, Below wr.heap.size wr q → Below wr.heap.size wr q ∧ q.cell? ⟨w.heap.size, 4, none⟩ = some (.slice (some ⟨b, off, none⟩) n0 cap) ∧ q.cell? ⟨w.heap.size + 1, 4, none⟩ = some (.slice (some ⟨b', off', none⟩) m0 cap') ∧ q.cell? ⟨b, off + i * 5, none⟩ = some c0 ∧ q.cell? ⟨b, off + i * 5 + 1, none⟩ = some c1 ∧ q.cell? ⟨b, off + i * 5 + 2, none⟩ = some c2 ∧ q.cell? ⟨b, off + i * 5 + 3, none⟩ = some c3 ∧ q.cell? ⟨b, off + i * 5 + 4, none⟩ = some c4 ∧ q.cell? ⟨b', off' + i * 5, none⟩ = some d0 ∧ q.cell? ⟨b', off' + i * 5 + 1, none⟩ = some d1 ∧ q.cell? ⟨b', off' + i * 5 + 2, none⟩ = some d2 ∧ q.cell? ⟨b', off' + i * 5 + 3, none⟩ = some d3 ∧ q.cell? ⟨b', off' + i * 5 + 4, none⟩ = some d4) := fun q hb =>
              ⟨hb, (hb.cell (lt_of_cell b1)).trans b1, (hb.cell (lt_of_cell b2)).trans b2, (hb.cell (lt_of_cell g0)).trans g0, (hb.cell (lt_of_cell g1)).trans g1, (hb.cell (lt_of_cell g2)).trans g2, (hb.cell (lt_of_cell g3)).trans g3, (hb.cell (lt_of_cell g4)).trans g4, (hb.cell (lt_of_cell q0)).trans q0, (hb.cell (lt_of_cell q1)).trans q1, (hb.cell (lt_of_cell q2)).trans q2, (hb.cell (lt_of_cell q3)).trans q3, (hb.cell (lt_of_cell q4)).trans q4⟩
            have hS0 := KS.out wr.drew (Below.refl _ _).drew
            have hbB : Hid (w.heap.size + 1 < wr.heap.size) := hB.out.2
            have b1' : Hid (wr.cell? ⟨w.heap.size, 4, none⟩ = some (.slice (some ⟨b, off, none⟩) n0 cap)) := b1
            have b2' : Hid (wr.cell? ⟨w.heap.size + 1, 4, none⟩ = some (.slice (some ⟨b', off', none⟩) m0 cap')) := b2
            go_wp2_with fail
            go_region_held3 (fun q => Below wr.heap.size wr q ∧ q.cell? ⟨w.heap.size, 4, none⟩ = some (.slice (some ⟨b, off, none⟩) n0 cap) ∧ q.cell? ⟨w.heap.size + 1, 4, none⟩ = some (.slice (some ⟨b', off', none⟩) m0 cap') ∧ q.cell? ⟨b, off + i * 5, none⟩ = some c0 ∧ q.cell? ⟨b, off + i * 5 + 1, none⟩ = some c1 ∧ q.cell? ⟨b, off + i * 5 + 2, none⟩ = some c2 ∧ q.cell? ⟨b, off + i * 5 + 3, none⟩ = some c3 ∧ q.cell? ⟨b, off + i * 5 + 4, none⟩ = some c4 ∧ q.cell? ⟨b', off' + i * 5, none⟩ = some d0 ∧ q.cell? ⟨b', off' + i * 5 + 1, none⟩ = some d1 ∧ q.cell? ⟨b', off' + i * 5 + 2, none⟩ = some d2 ∧ q.cell? ⟨b', off' + i * 5 + 3, none⟩ = some d3 ∧ q.cell? ⟨b', off' + i * 5 + 4, none⟩ = some d4)
              (first | exact hS0 | assumption | exact KS.out _ (by assumption) | exact KS.out _ (keepV (by assumption) (And.left (by assumption))))
              (first
                | (go_at_call 39; refine (ceq.out _ (And.left (by assumption))).mono ?_; rintro e u1 ⟨rfl, B1⟩))
            have hb1 : Below wr.heap.size wr u1 := And.left (a := Below wr.heap.size wr u1) (by assumption)
            have f1 : u1.cell? ⟨w.heap.size, 4, none⟩ = some (.slice (some ⟨b, off, none⟩) n0 cap) := (hb1.cell (lt_of_cell b1'.out)).trans b1'.out
            have f2 : u1.cell? ⟨w.heap.size + 1, 4, none⟩ = some (.slice (some ⟨b', off', none⟩) m0 cap') := (hb1.cell (lt_of_cell b2'.out)).trans b2'.out
            have hB2 : Hid (Below w.heap.size w u1 ∧ w.heap.size + 1 < u1.heap.size) := ⟨hB.out.1.trans (hb1.mono hB.out.1.size), by have := hb1.size; have := hbB.out; omega⟩
            clear hb1 B1 hS0 b1 b2 g0 g1 g2 g3 g4 q0 q1 q2 q3 q4
            by_cases hE0 : E = 0
            · have hz3 : Hid (R = cmpL (l.drop (i + 1)) (l'.drop (i + 1))) := by show _ = _; rw [hz2.out, if_pos hE0]
              subst hE0
              go_wp2_with fail
              go_roundw
              case rel => exact ⟨i + 1, by omega, by omega, by go_num, hz3.out, by assumption, by assumption, hB2.out⟩
              case measure => simp [intOf]; omega
            · have hRf : R = E := by rw [hz2.out, if_neg hE0]
              have qE : (E != 0) = true := by simp [hE0]
              subst hRf
              clear hE0
              go_wp2_with fail
              go_ret
              exact ⟨rfl, hB2.out.1⟩
#print axioms reforder_any
end Go.Proofs.YtpfnkkkfekhngaaGreatDoor.Va

/-
  The document's own answer: flumeref4.Compare, Same.
-/
namespace Go.Proofs.YtpfnkkkfekhngaaGreatDoor.Va
open Go.RowKit Go.Proofs.YtpfnkkkfekhngaaGreatDoor.Rl
set_option maxRecDepth 100000

set_option maxHeartbeats 2000000 in
theorem refComp_any (w : World) (vx vy : Value) (x y : Val) (hx : IsV w vx x) (hy : IsV w vy y) (tx : wtV x) (ty : wtV y) : Calls Tryz.prog 22 #[vx, vy] w fun e w' => e = .returned (.int .i64 (compV x y)) ∧ Below w.heap.size w w' := by
  obtain ⟨X, hX⟩ : ∃ X, Hid (x = X) := ⟨_, rfl⟩
  obtain ⟨Y, hY⟩ : ∃ X, Hid (y = X) := ⟨_, rfl⟩
  have h1 := hx
  have h2 := hy
  obtain ⟨xk, xn, xr, xt, xl⟩ := x
  obtain ⟨yk, yn, yr, yt, yl⟩ := y
  rw [IsV] at h1 h2
  obtain ⟨xo, xc, rfl, _⟩ := h1
  obtain ⟨yo, yc, rfl, _⟩ := h2
  have ix : Hid (IsV w (.agg #[.int .i64 xk, .int .i64 xn, .float .f64 xr, .string (bstr xt), .slice xo xl.length xc]) X) := by rw [← hX.out]; exact hx
  have iy : Hid (IsV w (.agg #[.int .i64 yk, .int .i64 yn, .float .f64 yr, .string (bstr yt), .slice yo yl.length yc]) Y) := by rw [← hY.out]; exact hy
  have tx' : Hid (wtV X) := by rw [← hX.out]; exact tx
  have ty' : Hid (wtV Y) := by rw [← hY.out]; exact ty
  rw [hX.out, hY.out]
  clear hx hy tx ty hX hY
  obtain ⟨mx, hmx⟩ : ∃ m, Hid (mayV X = m) := ⟨mayV X, rfl⟩
  obtain ⟨my, hmy⟩ : ∃ m, Hid (mayV Y = m) := ⟨mayV Y, rfl⟩
  obtain ⟨c, hc⟩ : ∃ c, Hid (cmpV X Y = c) := ⟨cmpV X Y, rfl⟩
  obtain ⟨R, hR⟩ : ∃ R, Hid (compV X Y = R) := ⟨_, rfl⟩
  rw [hR.out]
  have kmx : Hid (∀ q, Two w q xk xn xr xt xo xl xc yk yn yr yt yo yl yc → Calls Tryz.prog 13 #[.agg #[.int .i64 xk, .int .i64 xn, .float .f64 xr, .string (bstr xt), .slice xo xl.length xc]] q fun e w' => e = .returned (.bool mx) ∧ Below q.heap.size q w') := fun q h => by
    have t := refMay_any q _ X (IsV.below h.1 _ _ ix.out)
    rw [hmx.out] at t
    exact t
  have kmy : Hid (∀ q, Two w q xk xn xr xt xo xl xc yk yn yr yt yo yl yc → Calls Tryz.prog 13 #[.agg #[.int .i64 yk, .int .i64 yn, .float .f64 yr, .string (bstr yt), .slice yo yl.length yc]] q fun e w' => e = .returned (.bool my) ∧ Below q.heap.size q w') := fun q h => by
    have t := refMay_any q _ Y (IsV.below h.1 _ _ iy.out)
    rw [hmy.out] at t
    exact t
  have ko : Hid (∀ q, Two w q xk xn xr xt xo xl xc yk yn yr yt yo yl yc → Calls Tryz.prog 39 #[.agg #[.int .i64 xk, .int .i64 xn, .float .f64 xr, .string (bstr xt), .slice xo xl.length xc], .agg #[.int .i64 yk, .int .i64 yn, .float .f64 yr, .string (bstr yt), .slice yo yl.length yc]] q fun e w' => e = .returned (.int .i64 c) ∧ Below q.heap.size q w') := fun q h => by
    have t := reforder_any X Y q _ _ (IsV.below h.1 _ _ ix.out) (IsV.below h.1 _ _ iy.out) tx'.out ty'.out
    rw [hc.out] at t
    exact t
  have hT0 : Hid (Two w ((w.alloc (.cells #[.int .i64 xk, .int .i64 xn, .float .f64 xr, .string (bstr xt), .slice xo xl.length xc] 35)).alloc (.cells #[.int .i64 yk, .int .i64 yn, .float .f64 yr, .string (bstr yt), .slice yo yl.length yc] 35)) xk xn xr xt xo xl xc yk yn yr yt yo yl yc) := by
    show Two ..
    unfold Two
    have e1 : ∀ A : Obj, (w.alloc A).heap.size = w.heap.size + 1 := fun A => by simp
    have n0 : ∀ (cs : Array Value) (T : TypeId) (B : Obj) (j : Nat) (v : Value), cs[j]? = some v → ((w.alloc (.cells cs T)).alloc B).cell? ⟨w.heap.size, j, none⟩ = some v := fun cs T B j v hv => by
      have h := box_cell w cs T j v hv
      exact ((box_below (w.alloc (.cells cs T)) B).cell (lt_of_cell h)).trans h
    have n1 : ∀ (A : Obj) (cs : Array Value) (T : TypeId) (j : Nat) (v : Value), cs[j]? = some v → ((w.alloc A).alloc (.cells cs T)).cell? ⟨w.heap.size + 1, j, none⟩ = some v := fun A cs T j v hv => by
      have h := box_cell (w.alloc A) cs T j v hv
      rw [e1] at h
      exact h
    refine ⟨(box_below _ _).alloc (by rw [e1]; omega) _, n0 _ _ _ _ _ rfl, n0 _ _ _ _ _ rfl, n0 _ _ _ _ _ rfl, n0 _ _ _ _ _ rfl, n0 _ _ _ _ _ rfl, n1 _ _ _ _ _ rfl, n1 _ _ _ _ _ rfl, n1 _ _ _ _ _ rfl, n1 _ _ _ _ _ rfl, n1 _ _ _ _ _ rfl⟩
  go_enter Tryz.func22, Tryz.ntmps22
  rw [compV, hmx.out, hmy.out, hc.out] at hR
  cases mx
  case false =>
    cases my
    case false =>
      have hR0 : R = 0 := hR.out.symm
      subst hR0
      go_wp2_with fail
      refine (kmx.out _ hT0.out).mono ?_
      rintro e w1 ⟨rfl, hb⟩
      have hT1 : Hid (Two w w1 xk xn xr xt xo xl xc yk yn yr yt yo yl yc) := hT0.out.below hb
      clear hb hT0
      obtain ⟨_, d0, d1, d2, d3, d4, d5, d6, d7, d8, d9⟩ := hT1.out
      go_wp2_with fail
      clear d0 d1 d2 d3 d4 d5 d6 d7 d8 d9
      refine (kmy.out _ hT1.out).mono ?_
      rintro e w2 ⟨rfl, hb⟩
      have hT2 : Hid (Two w w2 xk xn xr xt xo xl xc yk yn yr yt yo yl yc) := hT1.out.below hb
      clear hb
      go_wp2_with fail
      go_ret
      exact ⟨rfl, hT2.out.1⟩
    case true =>
      have hR0 : R = 1 := hR.out.symm
      subst hR0
      go_wp2_with fail
      refine (kmx.out _ hT0.out).mono ?_
      rintro e w1 ⟨rfl, hb⟩
      have hT1 : Hid (Two w w1 xk xn xr xt xo xl xc yk yn yr yt yo yl yc) := hT0.out.below hb
      clear hb hT0
      obtain ⟨_, d0, d1, d2, d3, d4, d5, d6, d7, d8, d9⟩ := hT1.out
      go_wp2_with fail
      clear d0 d1 d2 d3 d4 d5 d6 d7 d8 d9
      refine (kmy.out _ hT1.out).mono ?_
      rintro e w2 ⟨rfl, hb⟩
      have hT2 : Hid (Two w w2 xk xn xr xt xo xl xc yk yn yr yt yo yl yc) := hT1.out.below hb
      clear hb
      obtain ⟨_, d0, d1, d2, d3, d4, d5, d6, d7, d8, d9⟩ := hT2.out
      go_wp2_with fail
      clear d0 d1 d2 d3 d4 d5 d6 d7 d8 d9
      refine (kmx.out _ hT2.out).mono ?_
      rintro e w3 ⟨rfl, hb⟩
      have hT3 : Hid (Two w w3 xk xn xr xt xo xl xc yk yn yr yt yo yl yc) := hT2.out.below hb
      clear hb
      go_wp2_with fail
      go_ret
      exact ⟨rfl, hT3.out.1⟩
  case true =>
    cases my
    case false =>
      have hR0 : R = -1 := hR.out.symm
      subst hR0
      go_wp2_with fail
      refine (kmx.out _ hT0.out).mono ?_
      rintro e w1 ⟨rfl, hb⟩
      have hT1 : Hid (Two w w1 xk xn xr xt xo xl xc yk yn yr yt yo yl yc) := hT0.out.below hb
      clear hb hT0
      obtain ⟨_, d0, d1, d2, d3, d4, d5, d6, d7, d8, d9⟩ := hT1.out
      go_wp2_with fail
      clear d0 d1 d2 d3 d4 d5 d6 d7 d8 d9
      refine (kmx.out _ hT1.out).mono ?_
      rintro e w2 ⟨rfl, hb⟩
      have hT2 : Hid (Two w w2 xk xn xr xt xo xl xc yk yn yr yt yo yl yc) := hT1.out.below hb
      clear hb
      obtain ⟨_, d0, d1, d2, d3, d4, d5, d6, d7, d8, d9⟩ := hT2.out
      go_wp2_with fail
      clear d0 d1 d2 d3 d4 d5 d6 d7 d8 d9
      refine (kmy.out _ hT2.out).mono ?_
      rintro e w3 ⟨rfl, hb⟩
      have hT3 : Hid (Two w w3 xk xn xr xt xo xl xc yk yn yr yt yo yl yc) := hT2.out.below hb
      clear hb
      go_wp2_with fail
      go_ret
      exact ⟨rfl, hT3.out.1⟩
    case true =>
      have hR0 : R = c := hR.out.symm
      subst hR0
      go_wp2_with fail
      refine (kmx.out _ hT0.out).mono ?_
      rintro e w1 ⟨rfl, hb⟩
      have hT1 : Hid (Two w w1 xk xn xr xt xo xl xc yk yn yr yt yo yl yc) := hT0.out.below hb
      clear hb hT0
      obtain ⟨_, d0, d1, d2, d3, d4, d5, d6, d7, d8, d9⟩ := hT1.out
      go_wp2_with fail
      clear d0 d1 d2 d3 d4 d5 d6 d7 d8 d9
      refine (kmx.out _ hT1.out).mono ?_
      rintro e w2 ⟨rfl, hb⟩
      have hT2 : Hid (Two w w2 xk xn xr xt xo xl xc yk yn yr yt yo yl yc) := hT1.out.below hb
      clear hb
      obtain ⟨_, d0, d1, d2, d3, d4, d5, d6, d7, d8, d9⟩ := hT2.out
      go_wp2_with fail
      clear d0 d1 d2 d3 d4 d5 d6 d7 d8 d9
      refine (kmy.out _ hT2.out).mono ?_
      rintro e w3 ⟨rfl, hb⟩
      have hT3 : Hid (Two w w3 xk xn xr xt xo xl xc yk yn yr yt yo yl yc) := hT2.out.below hb
      clear hb
      obtain ⟨_, d0, d1, d2, d3, d4, d5, d6, d7, d8, d9⟩ := hT3.out
      go_wp2_with fail
      clear d0 d1 d2 d3 d4 d5 d6 d7 d8 d9
      refine (ko.out _ hT3.out).mono ?_
      rintro e w4 ⟨rfl, hb⟩
      have hT4 : Hid (Two w w4 xk xn xr xt xo xl xc yk yn yr yt yo yl yc) := hT3.out.below hb
      clear hb
      go_wp2_with fail
      go_ret
      exact ⟨rfl, hT4.out.1⟩
#print axioms refComp_any
set_option maxHeartbeats 2000000 in
theorem refSame_any (w : World) (vx vy : Value) (x y : Val) (hx : IsV w vx x) (hy : IsV w vy y) (tx : wtV x) (ty : wtV y) : Calls Tryz.prog 24 #[vx, vy] w fun e w' => e = .returned (.bool (sameV x y)) ∧ Below w.heap.size w w' := by
  obtain ⟨X, hX⟩ : ∃ X, Hid (x = X) := ⟨_, rfl⟩
  obtain ⟨Y, hY⟩ : ∃ X, Hid (y = X) := ⟨_, rfl⟩
  have h1 := hx
  have h2 := hy
  obtain ⟨xk, xn, xr, xt, xl⟩ := x
  obtain ⟨yk, yn, yr, yt, yl⟩ := y
  rw [IsV] at h1 h2
  obtain ⟨xo, xc, rfl, _⟩ := h1
  obtain ⟨yo, yc, rfl, _⟩ := h2
  have ix : Hid (IsV w (.agg #[.int .i64 xk, .int .i64 xn, .float .f64 xr, .string (bstr xt), .slice xo xl.length xc]) X) := by rw [← hX.out]; exact hx
  have iy : Hid (IsV w (.agg #[.int .i64 yk, .int .i64 yn, .float .f64 yr, .string (bstr yt), .slice yo yl.length yc]) Y) := by rw [← hY.out]; exact hy
  have tx' : Hid (wtV X) := by rw [← hX.out]; exact tx
  have ty' : Hid (wtV Y) := by rw [← hY.out]; exact ty
  rw [hX.out, hY.out]
  clear hx hy tx ty hX hY
  obtain ⟨mx, hmx⟩ : ∃ m, Hid (mayV X = m) := ⟨mayV X, rfl⟩
  obtain ⟨my, hmy⟩ : ∃ m, Hid (mayV Y = m) := ⟨mayV Y, rfl⟩
  obtain ⟨c, hc⟩ : ∃ c, Hid (cmpV X Y = c) := ⟨cmpV X Y, rfl⟩
  obtain ⟨R, hR⟩ : ∃ R, Hid (sameV X Y = R) := ⟨_, rfl⟩
  rw [hR.out]
  have kmx : Hid (∀ q, Two w q xk xn xr xt xo xl xc yk yn yr yt yo yl yc → Calls Tryz.prog 13 #[.agg #[.int .i64 xk, .int .i64 xn, .float .f64 xr, .string (bstr xt), .slice xo xl.length xc]] q fun e w' => e = .returned (.bool mx) ∧ Below q.heap.size q w') := fun q h => by
    have t := refMay_any q _ X (IsV.below h.1 _ _ ix.out)
    rw [hmx.out] at t
    exact t
  have kmy : Hid (∀ q, Two w q xk xn xr xt xo xl xc yk yn yr yt yo yl yc → Calls Tryz.prog 13 #[.agg #[.int .i64 yk, .int .i64 yn, .float .f64 yr, .string (bstr yt), .slice yo yl.length yc]] q fun e w' => e = .returned (.bool my) ∧ Below q.heap.size q w') := fun q h => by
    have t := refMay_any q _ Y (IsV.below h.1 _ _ iy.out)
    rw [hmy.out] at t
    exact t
  have ko : Hid (∀ q, Two w q xk xn xr xt xo xl xc yk yn yr yt yo yl yc → Calls Tryz.prog 39 #[.agg #[.int .i64 xk, .int .i64 xn, .float .f64 xr, .string (bstr xt), .slice xo xl.length xc], .agg #[.int .i64 yk, .int .i64 yn, .float .f64 yr, .string (bstr yt), .slice yo yl.length yc]] q fun e w' => e = .returned (.int .i64 c) ∧ Below q.heap.size q w') := fun q h => by
    have t := reforder_any X Y q _ _ (IsV.below h.1 _ _ ix.out) (IsV.below h.1 _ _ iy.out) tx'.out ty'.out
    rw [hc.out] at t
    exact t
  have hT0 : Hid (Two w ((w.alloc (.cells #[.int .i64 xk, .int .i64 xn, .float .f64 xr, .string (bstr xt), .slice xo xl.length xc] 35)).alloc (.cells #[.int .i64 yk, .int .i64 yn, .float .f64 yr, .string (bstr yt), .slice yo yl.length yc] 35)) xk xn xr xt xo xl xc yk yn yr yt yo yl yc) := by
    show Two ..
    unfold Two
    have e1 : ∀ A : Obj, (w.alloc A).heap.size = w.heap.size + 1 := fun A => by simp
    have n0 : ∀ (cs : Array Value) (T : TypeId) (B : Obj) (j : Nat) (v : Value), cs[j]? = some v → ((w.alloc (.cells cs T)).alloc B).cell? ⟨w.heap.size, j, none⟩ = some v := fun cs T B j v hv => by
      have h := box_cell w cs T j v hv
      exact ((box_below (w.alloc (.cells cs T)) B).cell (lt_of_cell h)).trans h
    have n1 : ∀ (A : Obj) (cs : Array Value) (T : TypeId) (j : Nat) (v : Value), cs[j]? = some v → ((w.alloc A).alloc (.cells cs T)).cell? ⟨w.heap.size + 1, j, none⟩ = some v := fun A cs T j v hv => by
      have h := box_cell (w.alloc A) cs T j v hv
      rw [e1] at h
      exact h
    refine ⟨(box_below _ _).alloc (by rw [e1]; omega) _, n0 _ _ _ _ _ rfl, n0 _ _ _ _ _ rfl, n0 _ _ _ _ _ rfl, n0 _ _ _ _ _ rfl, n0 _ _ _ _ _ rfl, n1 _ _ _ _ _ rfl, n1 _ _ _ _ _ rfl, n1 _ _ _ _ _ rfl, n1 _ _ _ _ _ rfl, n1 _ _ _ _ _ rfl⟩
  go_enter Tryz.func24, Tryz.ntmps24
  rw [sameV, hmx.out, hmy.out, hc.out] at hR
  cases mx
  case false =>
    have hR0 : R = false := hR.out.symm
    subst hR0
    go_wp2_with fail
    refine (kmx.out _ hT0.out).mono ?_
    rintro e w1 ⟨rfl, hb⟩
    have hT1 : Hid (Two w w1 xk xn xr xt xo xl xc yk yn yr yt yo yl yc) := hT0.out.below hb
    clear hb hT0
    go_wp2_with fail
    go_ret
    exact ⟨rfl, hT1.out.1⟩
  case true =>
    cases my
    case false =>
      have hR0 : R = false := hR.out.symm
      subst hR0
      go_wp2_with fail
      refine (kmx.out _ hT0.out).mono ?_
      rintro e w1 ⟨rfl, hb⟩
      have hT1 : Hid (Two w w1 xk xn xr xt xo xl xc yk yn yr yt yo yl yc) := hT0.out.below hb
      clear hb hT0
      obtain ⟨_, d0, d1, d2, d3, d4, d5, d6, d7, d8, d9⟩ := hT1.out
      go_wp2_with fail
      clear d0 d1 d2 d3 d4 d5 d6 d7 d8 d9
      refine (kmy.out _ hT1.out).mono ?_
      rintro e w2 ⟨rfl, hb⟩
      have hT2 : Hid (Two w w2 xk xn xr xt xo xl xc yk yn yr yt yo yl yc) := hT1.out.below hb
      clear hb
      go_wp2_with fail
      go_ret
      exact ⟨rfl, hT2.out.1⟩
    case true =>
      have hR0 : (c == 0) = R := by rw [← hR.out]; rfl
      go_wp2_with fail
      refine (kmx.out _ hT0.out).mono ?_
      rintro e w1 ⟨rfl, hb⟩
      have hT1 : Hid (Two w w1 xk xn xr xt xo xl xc yk yn yr yt yo yl yc) := hT0.out.below hb
      clear hb hT0
      obtain ⟨_, d0, d1, d2, d3, d4, d5, d6, d7, d8, d9⟩ := hT1.out
      go_wp2_with fail
      clear d0 d1 d2 d3 d4 d5 d6 d7 d8 d9
      refine (kmy.out _ hT1.out).mono ?_
      rintro e w2 ⟨rfl, hb⟩
      have hT2 : Hid (Two w w2 xk xn xr xt xo xl xc yk yn yr yt yo yl yc) := hT1.out.below hb
      clear hb
      obtain ⟨_, d0, d1, d2, d3, d4, d5, d6, d7, d8, d9⟩ := hT2.out
      go_wp2_with fail
      clear d0 d1 d2 d3 d4 d5 d6 d7 d8 d9
      refine (ko.out _ hT2.out).mono ?_
      rintro e w3 ⟨rfl, hb⟩
      have hT3 : Hid (Two w w3 xk xn xr xt xo xl xc yk yn yr yt yo yl yc) := hT2.out.below hb
      clear hb
      go_wp2_with fail
      go_ret
      exact ⟨rfl, hT3.out.1⟩
#print axioms refSame_any
end Go.Proofs.YtpfnkkkfekhngaaGreatDoor.Va

/-
  The walk of ValueBack, over what Key, Read, Copy and Compare answer.
-/
namespace Go.Proofs.YtpfnkkkfekhngaaGreatDoor.Va
open Go.RowKit Go.Proofs.YtpfnkkkfekhngaaGreatDoor.Rl
set_option maxRecDepth 100000

/-- What Copy owes. -/
def DoesCopy (f : Nat) : Prop := ∀ (w : World) (v : Value) (x : Val), IsV w v x → wtV x → Calls Tryz.prog f #[v] w fun e w' => ∃ cv, e = .returned (.tuple #[cv, .int .i64 (errO x)]) ∧ IsV w' cv (copyO x) ∧ Below w.heap.size w w'
theorem infoB : (Tryz.prog.info? 5).map (fun i => (i.zero, i.size, i.bytes)) = some (some (.int .u8 0), 1, 1) := by kernel_rfl
theorem Sl.front {w : World} {ao : Option Addr} {n c : Nat} {l : List UInt8} (h : Sl w (.slice ao n c) l) (m : Nat) (hm : m ≤ l.length) : Sl w (.slice ao m c) (l.take m) := by
  obtain ⟨ao', c', e, h1, h2, h3, h4⟩ := h
  simp only [Value.slice.injEq] at e
  obtain ⟨rfl, rfl, rfl⟩ := e
  have hl : (l.take m).length = m := by rw [List.length_take]; omega
  refine ⟨ao, c, by rw [hl], fun e => ?_, by omega, h3, fun i hi => ?_⟩
  · obtain ⟨e1, e2⟩ := h1 e
    rw [e1]; exact ⟨by simp, e2⟩
  · obtain ⟨b, off, e1, hc⟩ := h4 i (by omega)
    refine ⟨b, off, e1, ?_⟩
    rw [hc]
    simp
theorem esc_len : ∀ t, (esc t).length ≤ 2 * t.length
  | [] => by simp [esc]
  | c :: r => by
    have := esc_len r
    rw [esc]
    split <;> simp <;> omega
mutual
theorem key_len : ∀ x : Val, (keyV x).length ≤ 9 * szV x
  | .mk k n r t l => by
    have h1 := esc_len t
    have h2 := keyL_len l
    rw [keyV, szV]
    (repeat' split) <;> simp [bigN_len] <;> omega
theorem keyL_len : ∀ l : List Val, (keyL l).length ≤ 9 * szL l
  | [] => by simp [keyL]
  | x :: r => by
    have h1 := key_len x
    have h2 := keyL_len r
    rw [keyL, szL, List.length_append]
    omega
end
end Go.Proofs.YtpfnkkkfekhngaaGreatDoor.Va

/-
  value.Copy.
-/
namespace Go.Proofs.YtpfnkkkfekhngaaGreatDoor.Va
open Go.RowKit Go.Proofs.YtpfnkkkfekhngaaGreatDoor.Rl
set_option maxRecDepth 100000

theorem put5_ret {w : World} {b : Nat} {k n : Int} {r : Nat} {t : ByteArray} {ao : Option Addr} {m c : Nat} (h : ∃ v0 v1 v2 v3 v4, w.cell? ⟨b, 0, none⟩ = some v0 ∧ w.cell? ⟨b, 1, none⟩ = some v1 ∧ w.cell? ⟨b, 2, none⟩ = some v2 ∧ w.cell? ⟨b, 3, none⟩ = some v3 ∧ w.cell? ⟨b, 4, none⟩ = some v4) :
    (put5 w b 0 (.int .i64 k) (.int .i64 n) (.float .f64 r) (.string t) (.slice ao m c)).cell? ⟨b, 0, none⟩ = some (.int .i64 k) ∧ (put5 w b 0 (.int .i64 k) (.int .i64 n) (.float .f64 r) (.string t) (.slice ao m c)).cell? ⟨b, 1, none⟩ = some (.int .i64 n) ∧ (put5 w b 0 (.int .i64 k) (.int .i64 n) (.float .f64 r) (.string t) (.slice ao m c)).cell? ⟨b, 2, none⟩ = some (.float .f64 r) ∧ (put5 w b 0 (.int .i64 k) (.int .i64 n) (.float .f64 r) (.string t) (.slice ao m c)).cell? ⟨b, 3, none⟩ = some (.string t) ∧ (put5 w b 0 (.int .i64 k) (.int .i64 n) (.float .f64 r) (.string t) (.slice ao m c)).cell? ⟨b, 4, none⟩ = some (.slice ao m c) := by
  obtain ⟨v0, v1, v2, v3, v4, h0, h1, h2, h3, h4⟩ := h
  exact put5_reads h0 h1 h2 h3 h4 _ _ _ _ _
def errC (x : Val) : Int := if mayV x then 0 else 1
set_option maxHeartbeats 2000000 in
/-- What Copy answers is new. -/
theorem Copy_new (w : World) (v : Value) (x : Val) (hv : IsV w v x) (hw : wtV x) : Calls Tryz.prog 8 #[v] w fun e w' => ∃ cv, e = .returned (.tuple #[cv, .int .i64 (errO x)]) ∧ NewV w' w.heap.size w'.heap.size cv (copyO x) ∧ Below w.heap.size w w' := by
  have hc := fun q (hq : Below w.heap.size w q) => thingOf_any q v x (IsV.below hq x v hv)
  have hs := fun (q : World) (tv : Value) (h : mayV x = true) (S : Nat → Prop) (ht : IsT S q tv x) => plain_any x S q tv 0 (may_parts h).1 (may_parts h).2 hw ht
  obtain ⟨k, n, r, t, l⟩ := x
  rw [IsV] at hv
  obtain ⟨ao, cap, rfl, _⟩ := hv
  obtain ⟨X, hX⟩ : ∃ X, Hid (Val.mk k n r t l = X) := ⟨_, rfl⟩
  rw [hX.out] at hc hs ⊢
  replace hc : Hid (∀ q, Below w.heap.size w q → _) := hc
  replace hs : Hid (∀ (q : World) (tv : Value), mayV X = true → ∀ S : Nat → Prop, IsT S q tv X → Disp "flume/value.plain" tv [] q (Plains q (canonV X))) := hs
  obtain ⟨M, hM⟩ : ∃ M, Hid (mayV X = M) := ⟨mayV X, rfl⟩
  obtain ⟨Z, hZ⟩ : ∃ Z, Hid (errO X = Z) := ⟨errO X, rfl⟩
  obtain ⟨K, hK⟩ : ∃ K, Hid (copyO X = K) := ⟨copyO X, rfl⟩
  have hZ2 : Hid (Z = if M then 0 else 1) := by show _ = _; rw [← hZ.out, errO, hM.out]
  have hK2 : Hid (K = if M then canonV X else zeroV) := by show _ = _; rw [← hK.out, copyO, hM.out]
  rw [hZ.out, hK.out]
  have ksf : ∀ (w : World) (a : Addr) (x : Nat) (m : Mode), (store a (.float .f64 x) m).run Tryz.prog w = stored Tryz.prog w a (.float .f64 x) m := fun w a x m => run_store Tryz.prog w a _ m rfl
  obtain ⟨wa, hwa⟩ : ∃ wa, Hid ((w.alloc (.cells #[.int .i64 k, .int .i64 n, .float .f64 r, .string (bstr t), .slice ao l.length cap] 35)).alloc (.cells #[.int .i64 0, .int .i64 0, .float .f64 0, .string ⟨#[]⟩, .slice none 0 0] 35) = wa) := ⟨_, rfl⟩
  have e1 : ∀ A : Obj, (w.alloc A).heap.size = w.heap.size + 1 := fun A => by simp
  have hBa : Hid (Below w.heap.size w wa) := by rw [← hwa.out]; exact (box_below _ _).alloc (by rw [e1]; omega) _
  have hblk : Hid (wa.heap[w.heap.size + 1]? = some (.cells #[.int .i64 0, .int .i64 0, .float .f64 0, .string ⟨#[]⟩, .slice none 0 0] 35 (0, 0))) := by
    rw [← hwa.out]
    have := heap_alloc_new (w.alloc (.cells #[.int .i64 k, .int .i64 n, .float .f64 r, .string (bstr t), .slice ao l.length cap] 35)) (.cells #[.int .i64 0, .int .i64 0, .float .f64 0, .string ⟨#[]⟩, .slice none 0 0] 35)
    rw [e1] at this
    exact this
  have hx : Hid (∀ (j : Nat) (v : Value), #[.int .i64 k, .int .i64 n, .float .f64 r, .string (bstr t), .slice ao l.length cap][j]? = some v → wa.cell? ⟨w.heap.size, j, none⟩ = some v) := fun j v hv => by
    have h1 := box_cell w _ 35 j v hv
    rw [← hwa.out]
    exact ((box_below _ _).cell (lt_of_cell h1)).trans h1
  have x0 := hx.out 0 _ rfl
  have x1 := hx.out 1 _ rfl
  have x2 := hx.out 2 _ rfl
  have x3 := hx.out 3 _ rfl
  have x4 := hx.out 4 _ rfl
  clear hw e1
  go_enter Tryz.func8, Tryz.ntmps8
  go_wp2_with fail
  rw [hwa.out]
  refine (hc.out _ hBa.out).mono ?_
  rintro e w1 ⟨tv, rfl, hno, hyes, hb⟩
  clear x0 x1 x2 x3 x4 hx
  have hB : Hid (Below w.heap.size w w1) := keepV hb hBa.out
  have hb1 : Hid (w1.heap[w.heap.size + 1]? = some (.cells #[.int .i64 0, .int .i64 0, .float .f64 0, .string ⟨#[]⟩, .slice none 0 0] 35 (0, 0))) := (hb.block _ (heap_lt hblk.out)).trans hblk.out
  rw [hM.out] at hno hyes ⊢
  clear hb
  have cells : Hid (∀ q : World, q.heap[w.heap.size + 1]? = some (.cells #[.int .i64 0, .int .i64 0, .float .f64 0, .string ⟨#[]⟩, .slice none 0 0] 35 (0, 0)) → (∀ (j : Nat) (v : Value), #[.int .i64 0, .int .i64 0, .float .f64 0, .string ⟨#[]⟩, .slice none 0 0][j]? = some v → q.cell? ⟨w.heap.size + 1, j, none⟩ = some v) ∧ ∀ j, q.frozen? ⟨w.heap.size + 1, j, none⟩ = false) := fun q hq => ⟨fun j v hv => by
    unfold World.cell?
    simp only [hq]
    exact hv, fun j => by simp [World.frozen?, hq]⟩
  cases M with
  | false =>
    have hZ3 : Hid (Z = 1) := hZ2.out
    have hK3 : Hid (K = zeroV) := hK2.out
    obtain ⟨ce, fz⟩ := cells.out w1 hb1.out
    have c0 := ce 0 _ rfl
    have c1 := ce 1 _ rfl
    have c2 := ce 2 _ rfl
    have c3 := ce 3 _ rfl
    have c4 := ce 4 _ rfl
    have f0 := fz 0
    have f1 := fz 1
    have f2 := fz 2
    have f3 := fz 3
    have f4 := fz 4
    have hrd : Hid _ := put5_reads c0 c1 c2 c3 c4 (.int .i64 0) (.int .i64 0) (.float .f64 0) (.string ⟨#[]⟩) (.slice none 0 0)
    have hfi : Hid (Below w.heap.size w (put5 w1 (w.heap.size + 1) 0 (.int .i64 0) (.int .i64 0) (.float .f64 0) (.string ⟨#[]⟩) (.slice none 0 0))) := hB.out.trans ((put5_block w1 (w.heap.size + 1) 0 _ _ _ _ _).below (by omega) hB.out.size)
    clear hno hyes ce fz
    go_wp2_with fail
    show bodyPost _ _ _ _ _ (put5 w1 (w.heap.size + 1) 0 (.int .i64 0) (.int .i64 0) (.float .f64 0) (.string ⟨#[]⟩) (.slice none 0 0))
    obtain ⟨w5, hw5⟩ : ∃ w5, Hid (put5 w1 (w.heap.size + 1) 0 (.int .i64 0) (.int .i64 0) (.float .f64 0) (.string ⟨#[]⟩) (.slice none 0 0) = w5) := ⟨_, rfl⟩
    rw [hw5.out] at hrd hfi ⊢
    obtain ⟨k0, k1, k2, k3, k4⟩ := hrd.out
    refine bodyPost_ret (by simp [results, Tryz.results8, go_sem, k0, k1, k2, k3, k4]; rfl) rfl ?_
    refine ⟨_, by rw [hZ3.out], ?_, hfi.out⟩
    rw [hK3.out]
    exact newV_plain _ _ _ 0 0 0 [] (by simp)
  | true =>
    have hZ3 : Hid (Z = 0) := hZ2.out
    have hK3 : Hid (K = canonV X) := hK2.out
    obtain ⟨T, u, f, rfl, hme, hen, hcall⟩ := hs.out w1 tv hM.out _ (hyes rfl)
    rw [← hK3.out] at hcall
    replace hcall : Hid (Calls Tryz.prog f [u].toArray w1 (Plains w1 K)) := hcall
    clear hno hyes
    go_wp2_with fail
    refine hcall.out.mono ?_
    rintro e w2 ⟨v2, rfl, hnv, hb⟩
    have hB2 : Hid (Below w.heap.size w w2) := keepV hb hB.out
    have hlt : Hid (w.heap.size + 1 < w1.heap.size) := heap_lt hb1.out
    have hb2 : Hid (w2.heap[w.heap.size + 1]? = some (.cells #[.int .i64 0, .int .i64 0, .float .f64 0, .string ⟨#[]⟩, .slice none 0 0] 35 (0, 0))) := (hb.block _ hlt.out).trans hb1.out
    obtain ⟨xk, xn, xr, xt, xo, xm, xc, rfl⟩ := hnv.cells
    have hnw : Hid (NewV (put5 w2 (w.heap.size + 1) 0 (.int .i64 xk) (.int .i64 xn) (.float .f64 xr) (.string xt) (.slice xo xm xc)) w.heap.size (put5 w2 (w.heap.size + 1) 0 (.int .i64 xk) (.int .i64 xn) (.float .f64 xr) (.string xt) (.slice xo xm xc)).heap.size (.agg #[.int .i64 xk, .int .i64 xn, .float .f64 xr, .string xt, .slice xo xm xc]) K) := by
      show NewV ..
      rw [put5_size]
      have hl := hlt.out
      exact NewV.wide (by omega) (Nat.le_refl _) (NewV.keep K _ _ _ (fun b b1 b2 => (put5_block w2 (w.heap.size + 1) 0 _ _ _ _ _).block b b2 (by omega)) hnv)
    obtain ⟨ce, fz⟩ := cells.out w2 hb2.out
    have c0 := ce 0 _ rfl
    have c1 := ce 1 _ rfl
    have c2 := ce 2 _ rfl
    have c3 := ce 3 _ rfl
    have c4 := ce 4 _ rfl
    have f0 := fz 0
    have f1 := fz 1
    have f2 := fz 2
    have f3 := fz 3
    have f4 := fz 4
    have hrd : Hid _ := put5_reads c0 c1 c2 c3 c4 (.int .i64 xk) (.int .i64 xn) (.float .f64 xr) (.string xt) (.slice xo xm xc)
    have hfi : Hid (Below w.heap.size w (put5 w2 (w.heap.size + 1) 0 (.int .i64 xk) (.int .i64 xn) (.float .f64 xr) (.string xt) (.slice xo xm xc))) := hB2.out.trans ((put5_block w2 (w.heap.size + 1) 0 _ _ _ _ _).below (by omega) hB2.out.size)
    clear hnv hb ce fz
    go_wp2_with fail
    show bodyPost _ _ _ _ _ (put5 w2 (w.heap.size + 1) 0 (.int .i64 xk) (.int .i64 xn) (.float .f64 xr) (.string xt) (.slice xo xm xc))
    obtain ⟨w5, hw5⟩ : ∃ w5, Hid (put5 w2 (w.heap.size + 1) 0 (.int .i64 xk) (.int .i64 xn) (.float .f64 xr) (.string xt) (.slice xo xm xc) = w5) := ⟨_, rfl⟩
    rw [hw5.out] at hrd hfi hnw ⊢
    obtain ⟨k0, k1, k2, k3, k4⟩ := hrd.out
    refine bodyPost_ret (by simp [results, Tryz.results8, go_sem, k0, k1, k2, k3, k4]; rfl) rfl ?_
    exact ⟨_, by rw [hZ3.out], hnw.out, hfi.out⟩
theorem Copy_any : DoesCopy 8 := fun w v x hv hw => (Copy_new w v x hv hw).mono fun _ _ ⟨cv, h1, h2, h3⟩ => ⟨cv, h1, NewV.isV _ _ _ _ h2, h3⟩
#print axioms Copy_any
end Go.Proofs.YtpfnkkkfekhngaaGreatDoor.Va

/-
  Things of one kind, held against one another.
-/
namespace Go.Proofs.YtpfnkkkfekhngaaGreatDoor.Va
open Go.RowKit Go.Proofs.YtpfnkkkfekhngaaGreatDoor.Rl
set_option maxRecDepth 100000

theorem nanI (w : World) (x : Int) : Calls Tryz.prog 69 #[.int .i64 x] w fun e w' => e = .returned (.bool false) ∧ w' = w := by
  go_enter Tryz.func69, Tryz.ntmps69
  go_wp2
  go_ret
  exact ⟨by simp, rfl⟩
theorem cmpI_any (w : World) (x y : Int) : Calls Tryz.prog 48 #[.int .i64 x, .int .i64 y] w fun e w' => e = .returned (.int .i64 (cmpZ x y)) ∧ w' = w := by
  go_enter Tryz.func48, Tryz.ntmps48
  go_wp2_with (first | (go_at_call 69; refine (nanI _ _).mono ?_; rintro e _ ⟨rfl, rfl⟩))
  all_goals (go_ret; refine ⟨ret_int ?_, rfl⟩; unfold cmpZ; (repeat' split) <;> omega)
theorem nanB (w : World) (x : Int) : Calls Tryz.prog 116 #[.int .i64 x] w fun e w' => e = .returned (.bool false) ∧ w' = w := by
  go_enter Tryz.func116, Tryz.ntmps116
  go_wp2
  go_ret
  exact ⟨by simp, rfl⟩
theorem cmpB_any (w : World) (x y : Int) : Calls Tryz.prog 115 #[.int .i64 x, .int .i64 y] w fun e w' => e = .returned (.int .i64 (cmpZ x y)) ∧ w' = w := by
  go_enter Tryz.func115, Tryz.ntmps115
  go_wp2_with (first | (go_at_call 116; refine (nanB _ _).mono ?_; rintro e _ ⟨rfl, rfl⟩))
  all_goals (go_ret; refine ⟨ret_int ?_, rfl⟩; unfold cmpZ; (repeat' split) <;> omega)
theorem nanN (w : World) (x : Int) : Calls Tryz.prog 124 #[.int .i64 x] w fun e w' => e = .returned (.bool false) ∧ w' = w := by
  go_enter Tryz.func124, Tryz.ntmps124
  go_wp2
  go_ret
  exact ⟨by simp, rfl⟩
theorem cmpN_any (w : World) (x y : Int) : Calls Tryz.prog 123 #[.int .i64 x, .int .i64 y] w fun e w' => e = .returned (.int .i64 (cmpZ x y)) ∧ w' = w := by
  go_enter Tryz.func123, Tryz.ntmps123
  go_wp2_with (first | (go_at_call 124; refine (nanN _ _).mono ?_; rintro e _ ⟨rfl, rfl⟩))
  all_goals (go_ret; refine ⟨ret_int ?_, rfl⟩; unfold cmpZ; (repeat' split) <;> omega)
theorem nanT (w : World) (t : List UInt8) : Calls Tryz.prog 143 #[.string (bstr t)] w fun e w' => e = .returned (.bool false) ∧ w' = w := by
  go_enter Tryz.func143, Tryz.ntmps143
  go_wp2
  go_ret
  exact ⟨by simp, rfl⟩
theorem cmpT_eq : ∀ t s : List UInt8, cmpT t s = 0 → t = s
  | [], [], _ => rfl
  | [], _ :: _, h => by simp [cmpT] at h
  | _ :: _, [], h => by simp [cmpT] at h
  | a :: r, b :: q, h => by
    rw [cmpT] at h
    by_cases e : a = b
    · rw [if_pos e] at h; rw [e, cmpT_eq r q h]
    · rw [if_neg e] at h
      exact absurd (UInt8.toNat_inj.1 (by unfold cmpZ at h; (repeat' split at h) <;> omega)) e
theorem less_cmp : ∀ t s : List UInt8, Op.bytesLess t s = decide (cmpT t s = -1)
  | [], [] => by simp [Op.bytesLess, cmpT]
  | [], _ :: _ => by simp [Op.bytesLess, cmpT]
  | _ :: _, [] => by simp [Op.bytesLess, cmpT]
  | a :: r, b :: q => by
    have ih := less_cmp r q
    rw [cmpT, Op.bytesLess]
    by_cases e : a = b
    · subst e; simp [ih]
    · rw [if_neg e]
      have ne : a.toNat ≠ b.toNat := fun h => e (UInt8.toNat_inj.1 h)
      unfold cmpZ
      rw [Bool.eq_iff_iff]
      simp [e, UInt8.lt_iff_toNat_lt]
      (repeat' split) <;> omega
theorem cmpT_any (w : World) (t s : List UInt8) : Calls Tryz.prog 141 #[.string (bstr t), .string (bstr s)] w fun e w' => e = .returned (.int .i64 (cmpT t s)) ∧ w' = w := by
  have h1 : Op.bytesLess (bstr t).toList (bstr s).toList = decide (cmpT t s = -1) := by rw [bstr_list, bstr_list]; exact less_cmp t s
  have h2 : ((bstr t).toList == (bstr s).toList) = decide (cmpT t s = 0) := by
    rw [bstr_list, bstr_list, Bool.eq_iff_iff]
    simp only [beq_iff_eq, decide_eq_true_eq]
    exact ⟨fun h => by rw [h, cmpT_self], cmpT_eq t s⟩
  have hr := (cmpT_ord t s s).rng
  obtain ⟨C, hC⟩ : ∃ C, Hid (cmpT t s = C) := ⟨_, rfl⟩
  rw [hC.out] at h1 h2 hr ⊢
  rcases hr with rfl | rfl | rfl
  all_goals simp only [decide_true, Int.reduceNeg, reduceCtorEq, Int.reduceEq, decide_false] at h1 h2
  all_goals go_enter Tryz.func141, Tryz.ntmps141
  all_goals go_wp2_with (first | (go_at_call 143; refine (nanT _ _).mono ?_; rintro e _ ⟨rfl, rfl⟩))
  all_goals (go_ret; exact ⟨rfl, rfl⟩)
end Go.Proofs.YtpfnkkkfekhngaaGreatDoor.Va

/-
  Things held against one another.
-/
namespace Go.Proofs.YtpfnkkkfekhngaaGreatDoor.Va
open Go.RowKit Go.Proofs.YtpfnkkkfekhngaaGreatDoor.Rl
set_option maxRecDepth 100000

theorem two_new (w : World) (xk xn : Int) (xr : Nat) (xt : List UInt8) (xo : Option Addr) (xl : List Val) (xc : Nat) (yk yn : Int) (yr : Nat) (yt : List UInt8) (yo : Option Addr) (yl : List Val) (yc : Nat) (T : TypeId) :
    Two w ((w.alloc (.cells #[.int .i64 xk, .int .i64 xn, .float .f64 xr, .string (bstr xt), .slice xo xl.length xc] T)).alloc (.cells #[.int .i64 yk, .int .i64 yn, .float .f64 yr, .string (bstr yt), .slice yo yl.length yc] T)) xk xn xr xt xo xl xc yk yn yr yt yo yl yc := by
  unfold Two
  have e1 : ∀ A : Obj, (w.alloc A).heap.size = w.heap.size + 1 := fun A => by simp
  have n0 : ∀ (cs : Array Value) (T : TypeId) (B : Obj) (j : Nat) (v : Value), cs[j]? = some v → ((w.alloc (.cells cs T)).alloc B).cell? ⟨w.heap.size, j, none⟩ = some v := fun cs T B j v hv => by
    have h := box_cell w cs T j v hv
    exact ((box_below (w.alloc (.cells cs T)) B).cell (lt_of_cell h)).trans h
  have n1 : ∀ (A : Obj) (cs : Array Value) (T : TypeId) (j : Nat) (v : Value), cs[j]? = some v → ((w.alloc A).alloc (.cells cs T)).cell? ⟨w.heap.size + 1, j, none⟩ = some v := fun A cs T j v hv => by
    have h := box_cell (w.alloc A) cs T j v hv
    rw [e1] at h
    exact h
  refine ⟨(box_below _ _).alloc (by rw [e1]; omega) _, n0 _ _ _ _ _ rfl, n0 _ _ _ _ _ rfl, n0 _ _ _ _ _ rfl, n0 _ _ _ _ _ rfl, n0 _ _ _ _ _ rfl, n1 _ _ _ _ _ rfl, n1 _ _ _ _ _ rfl, n1 _ _ _ _ _ rfl, n1 _ _ _ _ _ rfl, n1 _ _ _ _ _ rfl⟩
def DoesCmp (x : Val) : Prop := ∀ (y : Val) (S S' : Nat → Prop) (w : World) (a b : Value) (d d' : Nat), okV d x = true → okV d' y = true → wtV x → wtV y → IsT S w a x → IsT S' w b y →
  Calls Tryz.prog 38 #[a, b] w fun e w' => e = .returned (.int .i64 (cmpV x y)) ∧ Below w.heap.size w w'
theorem cmpL_nil {l : List Val} : cmpL [] l = if 0 < l.length then -1 else 0 := by
  cases l <;> simp [cmpL]
set_option maxHeartbeats 1000000 in
theorem lists_cmp (l l' : List Val) (ih : ∀ x ∈ l, DoesCmp x) (S S' : Nat → Prop) (w : World) (ao ao' : Option Addr) (cap cap' d d' : Nat) (h1 : okL d l = true) (h1' : okL d' l' = true) (hw : wtL l) (hw' : wtL l') (hl : IsTL S w ao 0 l) (hl' : IsTL S' w ao' 0 l') (h2 : l.length ≤ cap) (h2' : l'.length ≤ cap') (h3 : cap ≤ maxLen) (h3' : cap' ≤ maxLen) :
    Calls Tryz.prog 150 #[.slice ao l.length cap, .slice ao' l'.length cap', .func (.func 38) #[] #[]] w fun e w' => e = .returned (.int .i64 (cmpL l l')) ∧ Below w.heap.size w w' := by
  obtain ⟨n, hn⟩ : ∃ n, Hid (l.length = n) := ⟨_, rfl⟩
  obtain ⟨n', hn'⟩ : ∃ n, Hid (l'.length = n) := ⟨_, rfl⟩
  rw [hn.out] at h2 ⊢
  rw [hn'.out] at h2' ⊢
  have hcap : n ≤ 9223372036854775807 := by unfold maxLen at h3; omega
  have hcap' : n' ≤ 9223372036854775807 := by unfold maxLen at h3'; omega
  replace hl : Hid (IsTL S w ao 0 l) := hl
  replace hl' : Hid (IsTL S' w ao' 0 l') := hl'
  replace ih : Hid (∀ x ∈ l, DoesCmp x) := ih
  replace h1 : Hid (okL d l = true) := h1
  replace h1' : Hid (okL d' l' = true) := h1'
  replace hw : Hid (wtL l) := hw
  replace hw' : Hid (wtL l') := hw'
  obtain ⟨C, hC⟩ : ∃ C, Hid (cmpL l l' = C) := ⟨_, rfl⟩
  rw [hC.out]
  clear h3 h3' h2 h2'
  go_enter Tryz.func150, Tryz.ntmps150
  go_wp2_with fail
  go_loopw [13] (fun v13 wr => ∃ i : Nat, i ≤ n ∧ i ≤ n' ∧ v13 = .int .i64 (i : Int) ∧ Hid (C = cmpL (l.drop i) (l'.drop i)) ∧ Hid (Below w.heap.size w wr)) (fun v _ => n - (intOf v).toNat)
  case atStart => exact ⟨0, by omega, by omega, rfl, by show _ = _; rw [List.drop_zero, List.drop_zero, hC.out], Below.refl _ _⟩
  case round =>
    obtain ⟨i, hi, hi', rfl, hz, hB⟩ := hrel
    by_cases hin : i = n
    · have hz2 : Hid (C = if (n : Int) < (n' : Int) then -1 else 0) := by
        show _ = _
        have g1 := hn.out
        have g2 := hn'.out
        rw [hz.out, List.drop_of_length_le (by omega), cmpL_nil, List.length_drop]
        by_cases g : (n : Int) < (n' : Int)
        · rw [if_pos g, if_pos (by omega)]
        · rw [if_neg g, if_neg (by omega)]
      subst hin
      by_cases g : (i : Int) < (n' : Int)
      · have hz3 : Hid (C = -1) := by show _ = _; rw [hz2.out, if_pos g]
        go_wp2_with fail
        go_ret
        exact ⟨by rw [hz3.out]; rfl, hB.out⟩
      · have hz3 : Hid (C = 0) := by show _ = _; rw [hz2.out, if_neg g]
        go_wp2_with fail
        go_ret
        exact ⟨by rw [hz3.out]; rfl, hB.out⟩
    · have hil : i < l.length := by have := hn.out; omega
      have i1 : (i : Int) < (n : Int) := by omega
      have i2 : (0 : Int) ≤ (i : Int) := by omega
      obtain ⟨b, off, c, rfl, _, hc, hx⟩ := IsTL.get hl.out i hil
      rw [Nat.zero_add] at hc
      replace hc := (hB.out.cell (lt_of_cell hc)).trans hc
      replace hx := hx.below hB.out
      by_cases hin' : i = n'
      · have hz3 : Hid (C = 1) := by
          show _ = _
          rw [hz.out, List.drop_eq_getElem_cons hil, List.drop_of_length_le (l := l') (by have := hn'.out; omega), cmpL]
        have i3 : ¬ (i : Int) < (n' : Int) := by omega
        subst hin'
        clear hx
        go_wp2_with fail
        go_ret
        exact ⟨by rw [hz3.out]; rfl, hB.out⟩
      · have hil' : i < l'.length := by have := hn'.out; omega
        have i3 : (i : Int) < (n' : Int) := by omega
        obtain ⟨b', off', c', rfl, _, hc', hx'⟩ := IsTL.get hl'.out i hil'
        rw [Nat.zero_add] at hc'
        replace hc' := (hB.out.cell (lt_of_cell hc')).trans hc'
        replace hx' := hx'.below hB.out
        have hcall := ih.out l[i] (List.getElem_mem hil) l'[i] S S' wr c c' d d' (okL_at h1.out hil) (okL_at h1'.out hil') (wtL_at hw.out i hil) (wtL_at hw'.out i hil') hx hx'
        have hz2 : Hid (C = if cmpV l[i] l'[i] = 0 then cmpL (l.drop (i + 1)) (l'.drop (i + 1)) else cmpV l[i] l'[i]) := by
          show _ = _
          rw [hz.out, List.drop_eq_getElem_cons hil, List.drop_eq_getElem_cons hil', cmpL]
        obtain ⟨s, hs⟩ : ∃ s, Hid (cmpV l[i] l'[i] = s) := ⟨cmpV l[i] l'[i], rfl⟩
        rw [hs.out] at hcall hz2
        replace hcall : Hid (Calls Tryz.prog 38 #[c, c'] wr fun e w' => e = .returned (.int .i64 s) ∧ Below wr.heap.size wr w') := hcall
        obtain ⟨T, u, rfl⟩ := hx.shape
        obtain ⟨T', u', rfl⟩ := hx'.shape
        clear hx hx'
        go_wp2_with fail
        refine hcall.out.mono ?_
        rintro e w1 ⟨rfl, hb⟩
        have hB1 : Hid (Below w.heap.size w w1) := keepV hb hB.out
        clear hc hc' hb
        by_cases hs0 : s = 0
        · have hz3 : Hid (C = cmpL (l.drop (i + 1)) (l'.drop (i + 1))) := by show _ = _; rw [hz2.out, if_pos hs0]
          subst hs0
          go_wp2_with fail
          go_roundw
          case rel => exact ⟨i + 1, by omega, by omega, by go_num, hz3.out, hB1.out⟩
          case measure => simp [intOf]; omega
        · have hz3 : Hid (C = s) := by show _ = _; rw [hz2.out, if_neg hs0]
          have ks : (s != 0) = true := by simpa using hs0
          go_wp2_with fail
          go_ret
          exact ⟨by rw [hz3.out]; rfl, hB1.out⟩
def DoesAlike (x : Val) : Prop := ∀ (y : Val) (S S' : Nat → Prop) (w : World) (a b : Value) (d d' : Nat), okV d x = true → okV d' y = true → wtV x → wtV y → IsT S w a x → IsT S' w b y → (∃ k n r t l n' r' t' l', x = .mk k n r t l ∧ y = .mk k n' r' t' l') →
  Disp "flume/value.compareAlike" a [b] w fun e w' => e = .returned (.int .i64 (cmpV x y)) ∧ Below w.heap.size w w'
set_option maxHeartbeats 1000000 in
theorem alike_any (x : Val) (ih : ∀ k n r t l, x = .mk k n r t l → ∀ z ∈ l, DoesCmp z) : DoesAlike x := by
  rintro y S S' w a b d d' ho ho' hw hw' ha hb ⟨k, n, r, t, l, n', r', t', l', rfl, rfl⟩
  have hlist := lists_cmp l l' (ih k n r t l rfl) S S' w
  obtain ⟨f1, f2, f3, f4, f5, f6, f7⟩ := ok_free ho
  obtain ⟨f1', f2', f3', f4', f5', f6', f7'⟩ := ok_free ho'
  rw [wtV] at hw hw'
  rw [IsT] at ha hb
  rcases ha with ⟨rfl, rfl⟩ | ⟨rfl, rfl⟩ | ⟨rfl, rfl⟩ | ⟨rfl, rfl⟩ | ⟨rfl, rfl⟩ | ⟨rfl, ao, cap, rfl, h2, h3, h4⟩
  · rcases hb with ⟨_, rfl⟩ | ⟨h, _⟩ | ⟨h, _⟩ | ⟨h, _⟩ | ⟨h, _⟩ | ⟨h, _⟩
    all_goals first | omega | skip
    have hv : Hid (cmpV (.mk 1 n r t l) (.mk 1 n' r' t' l') = 0) := by
      show _ = _
      rw [cmpV, f1 (by omega), f1' (by omega)]; simp [cmpL]
    rw [hv.out]
    refine ⟨_, _, 106, rfl, fun q => by kernel_rfl, fun a q => by kernel_rfl, ?_⟩
    clear hlist
    go_enter Tryz.func106, Tryz.ntmps106
    go_wp2
    go_ret
    exact ⟨rfl, box_below _ _⟩
  · rcases hb with ⟨h, _⟩ | ⟨_, rfl⟩ | ⟨h, _⟩ | ⟨h, _⟩ | ⟨h, _⟩ | ⟨h, _⟩
    all_goals first | omega | skip
    have hv : Hid (cmpV (.mk 2 n r t l) (.mk 2 n' r' t' l') = cmpZ n n') := by show _ = _; rw [cmpV]; simp
    rw [hv.out]
    refine ⟨_, _, 111, rfl, fun q => by kernel_rfl, fun a q => by kernel_rfl, ?_⟩
    have hta : ∀ u : World, (Instr.typeAssert (.iface 100 (.int .i64 n')) 56 100 true).run Tryz.prog u = .ok (.tuple #[.int .i64 n', .bool true]) u := fun _ => by kernel_rfl
    clear hlist
    go_enter Tryz.func111, Tryz.ntmps111
    go_wp2_with fail
    refine (cmpB_any _ n n').mono ?_
    rintro e w1 ⟨rfl, rfl⟩
    go_wp2_with fail
    go_ret
    exact ⟨rfl, Below.refl _ _⟩
  · rcases hb with ⟨h, _⟩ | ⟨h, _⟩ | ⟨_, rfl⟩ | ⟨h, _⟩ | ⟨h, _⟩ | ⟨h, _⟩
    all_goals first | omega | skip
    have hv : Hid (cmpV (.mk 3 n r t l) (.mk 3 n' r' t' l') = cmpZ n n') := by show _ = _; rw [cmpV]; simp
    rw [hv.out]
    refine ⟨_, _, 118, rfl, fun q => by kernel_rfl, fun a q => by kernel_rfl, ?_⟩
    have hta : ∀ u : World, (Instr.typeAssert (.iface 101 (.int .i64 n')) 56 101 true).run Tryz.prog u = .ok (.tuple #[.int .i64 n', .bool true]) u := fun _ => by kernel_rfl
    clear hlist
    go_enter Tryz.func118, Tryz.ntmps118
    go_wp2_with fail
    refine (cmpN_any _ n n').mono ?_
    rintro e w1 ⟨rfl, rfl⟩
    go_wp2_with fail
    go_ret
    exact ⟨rfl, Below.refl _ _⟩
  · rcases hb with ⟨h, _⟩ | ⟨h, _⟩ | ⟨h, _⟩ | ⟨_, rfl⟩ | ⟨h, _⟩ | ⟨h, _⟩
    all_goals first | omega | skip
    have hv : Hid (cmpV (.mk 4 n r t l) (.mk 4 n' r' t' l') = cmpB r r') := by show _ = _; rw [cmpV]; simp
    rw [hv.out]
    refine ⟨_, _, 126, rfl, fun q => by kernel_rfl, fun a q => by kernel_rfl, ?_⟩
    have hta : ∀ u : World, (Instr.typeAssert (.iface 102 (.float .f64 r')) 56 102 true).run Tryz.prog u = .ok (.tuple #[.float .f64 r', .bool true]) u := fun _ => by kernel_rfl
    have hre : Hid (∀ q, Calls Tryz.prog 131 #[.float .f64 r, .float .f64 r'] q fun e w' => e = .returned (.int .i64 (cmpB r r')) ∧ w' = q) := fun q => compare_any q r r' hw.2.2.1 hw'.2.2.1
    clear hlist hw hw'
    go_enter Tryz.func126, Tryz.ntmps126
    go_wp2_with fail
    refine (hre.out _).mono ?_
    rintro e w1 ⟨rfl, rfl⟩
    go_wp2_with fail
    go_ret
    exact ⟨rfl, Below.refl _ _⟩
  · rcases hb with ⟨h, _⟩ | ⟨h, _⟩ | ⟨h, _⟩ | ⟨h, _⟩ | ⟨_, rfl⟩ | ⟨h, _⟩
    all_goals first | omega | skip
    have hv : Hid (cmpV (.mk 5 n r t l) (.mk 5 n' r' t' l') = cmpT t t') := by show _ = _; rw [cmpV]; simp
    rw [hv.out]
    refine ⟨_, _, 137, rfl, fun q => by kernel_rfl, fun a q => by kernel_rfl, ?_⟩
    have hta : ∀ u : World, (Instr.typeAssert (.iface 103 (.string (bstr t'))) 56 103 true).run Tryz.prog u = .ok (.tuple #[.string (bstr t'), .bool true]) u := fun _ => by kernel_rfl
    clear hlist
    go_enter Tryz.func137, Tryz.ntmps137
    go_wp2_with fail
    refine (cmpT_any _ t t').mono ?_
    rintro e w1 ⟨rfl, rfl⟩
    go_wp2_with fail
    go_ret
    exact ⟨rfl, Below.refl _ _⟩
  · rcases hb with ⟨h, _⟩ | ⟨h, _⟩ | ⟨h, _⟩ | ⟨h, _⟩ | ⟨h, _⟩ | ⟨_, ao', cap', rfl, h2', h3', h4'⟩
    all_goals first | omega | skip
    have hv : Hid (cmpV (.mk 6 n r t l) (.mk 6 n' r' t' l') = cmpL l l') := by show _ = _; rw [cmpV]; simp
    rw [hv.out]
    refine ⟨_, _, 146, rfl, fun q => by kernel_rfl, fun a q => by kernel_rfl, ?_⟩
    have hcall := hlist ao ao' cap cap' (d + 1) (d' + 1) f7 f7' hw.2.2.2 hw'.2.2.2 h4 h4' h2 h2' h3 h3'
    obtain ⟨m, hm⟩ : ∃ m, Hid (l.length = m) := ⟨_, rfl⟩
    obtain ⟨m', hm'⟩ : ∃ m, Hid (l'.length = m) := ⟨_, rfl⟩
    rw [hm.out, hm'.out] at hcall ⊢
    have hta : ∀ u : World, (Instr.typeAssert (.iface 109 (.slice ao' m' cap')) 56 109 true).run Tryz.prog u = .ok (.tuple #[.slice ao' m' cap', .bool true]) u := fun _ => by kernel_rfl
    replace hcall : Hid (Calls Tryz.prog _ _ w _) := hcall
    clear hlist hw hw' h2 h2' h3 h3' h4 h4'
    go_enter Tryz.func146, Tryz.ntmps146
    go_wp2_with fail
    refine hcall.out.mono ?_
    rintro e w1 ⟨rfl, hb⟩
    have hb' : Hid (Below w.heap.size w w1) := hb
    clear hb
    go_wp2_with fail
    go_ret
    exact ⟨rfl, hb'.out⟩
end Go.Proofs.YtpfnkkkfekhngaaGreatDoor.Va

/-
  value.Compare and value.Same.
-/
namespace Go.Proofs.YtpfnkkkfekhngaaGreatDoor.Va
open Go.RowKit Go.Proofs.YtpfnkkkfekhngaaGreatDoor.Rl
set_option maxRecDepth 100000

set_option maxHeartbeats 1000000 in
theorem compare_all (x : Val) : DoesCmp x := by
  induction x using Val.ind with
  | h k n r t l ih =>
    intro y S S' w a b d d' ho ho' hw hw' ha hb
    obtain ⟨k', n', r', t', l'⟩ := y
    obtain ⟨T, u, f, rfl, hme, hen, hk⟩ := kind_any S w a k n r t l ha
    obtain ⟨T', u', f', rfl, hme', hen', hk'⟩ := kind_any S' w b k' n' r' t' l' hb
    have hal := alike_any (.mk k n r t l) (fun _ _ _ _ _ e => by simp only [Val.mk.injEq] at e; rw [← e.2.2.2.2]; exact ih)
    replace hk : Hid (∀ q0, Calls Tryz.prog f [u].toArray q0 fun e w' => e = .returned (.int .i64 k) ∧ Below q0.heap.size q0 w') := hk
    replace hk' : Hid (∀ q0, Calls Tryz.prog f' [u'].toArray q0 fun e w' => e = .returned (.int .i64 k') ∧ Below q0.heap.size q0 w') := hk'
    by_cases hkk : k = k'
    · subst hkk
      replace hal : Hid (∀ q, Below w.heap.size w q → Disp "flume/value.compareAlike" (.iface T u) [.iface T' u'] q fun e w' => e = .returned (.int .i64 (cmpV (.mk k n r t l) (.mk k n' r' t' l'))) ∧ Below q.heap.size q w') := fun q hq => hal (.mk k n' r' t' l') S S' q _ _ d d' ho ho' hw hw' (ha.below hq) (hb.below hq) ⟨_, _, _, _, _, _, _, _, _, rfl, rfl⟩
      obtain ⟨C, hC⟩ : ∃ C, Hid (cmpV (.mk k n r t l) (.mk k n' r' t' l') = C) := ⟨_, rfl⟩
      rw [hC.out] at hal ⊢
      clear ih ho ho' hw hw' ha hb
      go_enter Tryz.func38, Tryz.ntmps38
      go_wp2_with fail
      refine (hk.out _).mono ?_
      rintro e w1 ⟨rfl, hb1⟩
      go_wp2_with fail
      refine (hk'.out _).mono ?_
      rintro e w2 ⟨rfl, hb2⟩
      have hB2 : Hid (Below w.heap.size w w2) := keepV hb2 hb1
      clear hb1 hb2
      obtain ⟨T2, u2, f2, e2, hme2, hen2, hcall⟩ := hal.out w2 hB2.out
      simp only [Value.iface.injEq] at e2
      obtain ⟨rfl, rfl⟩ := e2
      replace hcall : Hid (Calls Tryz.prog f2 [u, .iface T' u'].toArray w2 fun e w' => e = .returned (.int .i64 C) ∧ Below w2.heap.size w2 w') := hcall
      clear hme hme' hen hen'
      go_wp2_with fail
      refine hcall.out.mono ?_
      rintro e w3 ⟨rfl, hb3⟩
      have hB3 : Hid (Below w.heap.size w w3) := keepV hb3 hB2.out
      clear hb3
      go_wp2_with fail
      go_ret
      exact ⟨rfl, hB3.out⟩
    · have hv : Hid (cmpV (.mk k n r t l) (.mk k' n' r' t' l') = cmpZ k k') := by show _ = _; rw [cmpV, if_pos hkk]
      have kne : (k != k') = true := by simpa using hkk
      rw [hv.out]
      clear ih ho ho' hw hw' ha hb hal
      go_enter Tryz.func38, Tryz.ntmps38
      go_wp2_with fail
      refine (hk.out _).mono ?_
      rintro e w1 ⟨rfl, hb1⟩
      go_wp2_with fail
      refine (hk'.out _).mono ?_
      rintro e w2 ⟨rfl, hb2⟩
      have hB2 : Hid (Below w.heap.size w w2) := keepV hb2 hb1
      clear hb1 hb2
      go_wp2_with fail
      refine (hk.out _).mono ?_
      rintro e w3 ⟨rfl, hb3⟩
      go_wp2_with fail
      refine (hk'.out _).mono ?_
      rintro e w4 ⟨rfl, hb4⟩
      have hB4 : Hid (Below w.heap.size w w4) := keepV hb4 (keepV hb3 hB2.out)
      clear hb3 hb4
      go_wp2_with fail
      refine (cmpI_any _ k k').mono ?_
      rintro e w5 ⟨rfl, rfl⟩
      go_wp2_with fail
      go_ret
      exact ⟨rfl, hB4.out⟩
set_option maxHeartbeats 1000000 in
theorem Compare_any : Does2 21 fun x y => .int .i64 (compV x y) := by
  intro w v v' x y hv hv' hw hw'
  have hc := fun q (hq : Below w.heap.size w q) => thingOf_any q v x (IsV.below hq x v hv)
  have hc' := fun q (hq : Below w.heap.size w q) => thingOf_any q v' y (IsV.below hq y v' hv')
  have hcmp := compare_all x y
  obtain ⟨k, n, r, t, l⟩ := x
  obtain ⟨k', n', r', t', l'⟩ := y
  rw [IsV] at hv hv'
  obtain ⟨ao, cap, rfl, _⟩ := hv
  obtain ⟨ao', cap', rfl, _⟩ := hv'
  obtain ⟨X, hX⟩ : ∃ X, Hid (Val.mk k n r t l = X) := ⟨_, rfl⟩
  obtain ⟨Y, hY⟩ : ∃ X, Hid (Val.mk k' n' r' t' l' = X) := ⟨_, rfl⟩
  rw [hX.out] at hc hw hcmp
  rw [hY.out] at hc' hw' hcmp
  show Calls _ _ _ _ fun e w' => e = .returned (.int .i64 (compV (Val.mk k n r t l) (Val.mk k' n' r' t' l'))) ∧ Below w.heap.size w w'
  rw [hX.out, hY.out]
  replace hc : Hid (∀ q, Below w.heap.size w q → _) := hc
  replace hc' : Hid (∀ q, Below w.heap.size w q → _) := hc'
  replace hcmp : Hid (∀ (q : World) (a b : Value) (S S' : Nat → Prop), mayV X = true → mayV Y = true → IsT S q a X → IsT S' q b Y → Calls Tryz.prog 38 #[a, b] q fun e w' => e = .returned (.int .i64 (cmpV X Y)) ∧ Below q.heap.size q w') := fun q a b S S' h1 h2 h3 h4 => hcmp S S' q a b 0 0 (may_parts h1).1 (may_parts h2).1 hw hw' h3 h4
  obtain ⟨M, hM⟩ : ∃ M, Hid (mayV X = M) := ⟨mayV X, rfl⟩
  obtain ⟨M', hM'⟩ : ∃ M, Hid (mayV Y = M) := ⟨mayV Y, rfl⟩
  obtain ⟨C, hC⟩ : ∃ C, Hid (compV X Y = C) := ⟨compV X Y, rfl⟩
  have hC2 : Hid (C = if M then (if M' then cmpV X Y else -1) else (if M' then 1 else 0)) := by show _ = _; rw [← hC.out, compV, hM.out, hM'.out]
  rw [hC.out]
  have hT0 : Hid (Two w ((w.alloc (.cells #[.int .i64 k, .int .i64 n, .float .f64 r, .string (bstr t), .slice ao l.length cap] 35)).alloc (.cells #[.int .i64 k', .int .i64 n', .float .f64 r', .string (bstr t'), .slice ao' l'.length cap'] 35)) k n r t ao l cap k' n' r' t' ao' l' cap') := two_new w k n r t ao l cap k' n' r' t' ao' l' cap' _
  clear hw hw'
  go_enter Tryz.func21, Tryz.ntmps21
  go_wp2_with fail
  refine (hc.out _ hT0.out.1).mono ?_
  rintro e w1 ⟨tv, rfl, hno, hyes, hb⟩
  have hT1 : Hid (Two w w1 k n r t ao l cap k' n' r' t' ao' l' cap') := hT0.out.below hb
  rw [hM.out] at hno hyes ⊢
  replace hyes : Hid (M = true → ∃ S : Nat → Prop, IsT S w1 tv X) := fun h => ⟨_, hyes h⟩
  clear hb hT0 hno
  obtain ⟨_, d0, d1, d2, d3, d4, d5, d6, d7, d8, d9⟩ := hT1.out
  go_wp2_with fail
  clear d0 d1 d2 d3 d4 d5 d6 d7 d8 d9
  refine (hc'.out _ hT1.out.1).mono ?_
  rintro e w2 ⟨tv', rfl, hno', hyes', hb⟩
  have hT2 : Hid (Below w.heap.size w w2) := (hT1.out.below hb).1
  rw [hM'.out] at hno' hyes' ⊢
  replace hyes' : Hid (M' = true → ∃ S : Nat → Prop, IsT S w2 tv' Y) := fun h => ⟨_, hyes' h⟩
  replace hyes : Hid (M = true → ∃ S : Nat → Prop, IsT S w2 tv X) := fun h => by obtain ⟨S, h'⟩ := hyes.out h; exact ⟨S, h'.below hb⟩
  clear hb hT1 hno'
  cases M with
  | false =>
    cases M' with
    | false =>
      have hC3 : Hid (C = 0) := hC2.out
      go_wp2_with fail
      go_ret
      exact ⟨by rw [hC3.out]; rfl, hT2.out⟩
    | true =>
      have hC3 : Hid (C = 1) := hC2.out
      go_wp2_with fail
      go_ret
      exact ⟨by rw [hC3.out]; rfl, hT2.out⟩
  | true =>
    cases M' with
    | false =>
      have hC3 : Hid (C = -1) := hC2.out
      go_wp2_with fail
      go_ret
      exact ⟨by rw [hC3.out]; rfl, hT2.out⟩
    | true =>
      have hC3 : Hid (C = cmpV X Y) := hC2.out
      obtain ⟨S, hx⟩ := hyes.out rfl
      obtain ⟨S', hy⟩ := hyes'.out rfl
      have hcall := hcmp.out w2 tv tv' S S' hM.out hM'.out hx hy
      rw [← hC3.out] at hcall
      replace hcall : Hid (Calls Tryz.prog 38 #[tv, tv'] w2 fun e w' => e = .returned (.int .i64 C) ∧ Below w2.heap.size w2 w') := hcall
      clear hx hy
      go_wp2_with fail
      refine hcall.out.mono ?_
      rintro e w3 ⟨rfl, hb⟩
      have hB3 : Hid (Below w.heap.size w w3) := keepV hb hT2.out
      clear hb
      go_wp2_with fail
      go_ret
      exact ⟨rfl, hB3.out⟩
theorem same_comp (X Y : Val) : sameV X Y = (mayV X && decide (compV X Y = 0)) := by
  unfold sameV compV
  cases mayV X <;> cases mayV Y <;> simp
set_option maxHeartbeats 1000000 in
theorem Same_any : Does2 23 fun x y => .bool (sameV x y) := by
  intro w v v' x y hv hv' hw hw'
  have hm := fun q (hq : Below w.heap.size w q) => may_any q v x (IsV.below hq x v hv) hw
  have hc := fun q (hq : Below w.heap.size w q) => Compare_any q v v' x y (IsV.below hq x v hv) (IsV.below hq y v' hv') hw hw'
  obtain ⟨k, n, r, t, l⟩ := x
  obtain ⟨k', n', r', t', l'⟩ := y
  rw [IsV] at hv hv'
  obtain ⟨ao, cap, rfl, _⟩ := hv
  obtain ⟨ao', cap', rfl, _⟩ := hv'
  show Calls _ _ _ _ fun e w' => e = .returned (.bool (sameV (Val.mk k n r t l) (Val.mk k' n' r' t' l'))) ∧ Below w.heap.size w w'
  obtain ⟨X, hX⟩ : ∃ X, Hid (Val.mk k n r t l = X) := ⟨_, rfl⟩
  obtain ⟨Y, hY⟩ : ∃ X, Hid (Val.mk k' n' r' t' l' = X) := ⟨_, rfl⟩
  rw [hX.out] at hm hc ⊢
  rw [hY.out] at hc ⊢
  obtain ⟨M, hM⟩ : ∃ M, Hid (mayV X = M) := ⟨mayV X, rfl⟩
  obtain ⟨C, hC⟩ : ∃ C, Hid (compV X Y = C) := ⟨compV X Y, rfl⟩
  obtain ⟨Z, hZ⟩ : ∃ C, Hid (sameV X Y = C) := ⟨sameV X Y, rfl⟩
  have hZ2 : Hid (Z = (M && decide (C = 0))) := by show _ = _; rw [← hZ.out, same_comp, hM.out, hC.out]
  replace hm : Hid (∀ q, Below w.heap.size w q → Calls Tryz.prog 12 _ q fun e w' => e = .returned (.bool (mayV X)) ∧ Below q.heap.size q w') := hm
  replace hc : Hid (∀ q, Below w.heap.size w q → Calls Tryz.prog 21 _ q fun e w' => e = .returned (.int .i64 (compV X Y)) ∧ Below q.heap.size q w') := hc
  rw [hM.out] at hm
  rw [hC.out] at hc
  rw [hZ.out]
  have hT0 : Hid (Two w ((w.alloc (.cells #[.int .i64 k, .int .i64 n, .float .f64 r, .string (bstr t), .slice ao l.length cap] 35)).alloc (.cells #[.int .i64 k', .int .i64 n', .float .f64 r', .string (bstr t'), .slice ao' l'.length cap'] 35)) k n r t ao l cap k' n' r' t' ao' l' cap') := two_new w k n r t ao l cap k' n' r' t' ao' l' cap' _
  clear hw hw'
  go_enter Tryz.func23, Tryz.ntmps23
  go_wp2_with fail
  refine (hm.out _ hT0.out.1).mono ?_
  rintro e w1 ⟨rfl, hb⟩
  have hT1 : Hid (Two w w1 k n r t ao l cap k' n' r' t' ao' l' cap') := hT0.out.below hb
  clear hb hT0
  cases M with
  | false =>
    have hZ3 : Hid (Z = false) := hZ2.out
    go_wp2_with fail
    go_ret
    exact ⟨by rw [hZ3.out]; rfl, hT1.out.1⟩
  | true =>
    have hZ3 : Hid (Z = (C == 0)) := by show _ = _; rw [hZ2.out, Bool.true_and, Bool.eq_iff_iff]; simp
    obtain ⟨_, d0, d1, d2, d3, d4, d5, d6, d7, d8, d9⟩ := hT1.out
    go_wp2_with fail
    clear d0 d1 d2 d3 d4 d5 d6 d7 d8 d9
    refine (hc.out _ hT1.out.1).mono ?_
    rintro e w2 ⟨rfl, hb⟩
    have hT2 : Hid (Below w.heap.size w w2) := (hT1.out.below hb).1
    clear hb hT1
    go_wp2_with fail
    go_ret
    exact ⟨by rw [hZ3.out]; rfl, hT2.out⟩
#print axioms Same_any
end Go.Proofs.YtpfnkkkfekhngaaGreatDoor.Va

