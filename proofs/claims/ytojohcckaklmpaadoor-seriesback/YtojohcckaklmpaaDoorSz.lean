/-
  What the law's eq and begun answer.
-/
import Derived.Test.YtojohcckaklmpaaDoorSy
import Derived.Test.YtojohcckaklmpaaDoorRlB
namespace Go.Proofs.YtojohcckaklmpaaDoor.Sr
open Go.RowKit
open Go.Proofs.YtojohcckaklmpaaDoor.Rl (fvals Bs uvals)
set_option maxRecDepth 100000
set_option linter.unusedVariables false

set_option maxHeartbeats 2000000 in
theorem feq_any (w : World) (x y : Value) (us vs : List Nat) (hx : Row w x (fvals us)) (hy : Row w y (fvals vs)) :
    Calls Tryd.prog 15 #[x, y] w fun e w' => e = .returned (.bool (decide (us = vs))) ∧ Qt w w' := by
  obtain ⟨ao, ca, rfl, _, hl1, hm1, h4⟩ := hx
  obtain ⟨bo, cb, rfl, _, _, hm2, g4⟩ := hy
  replace h4 : Hid (At w ao (fvals us)) := h4
  replace g4 : Hid (At w bo (fvals vs)) := g4
  have e1 : (fvals us).length = us.length := by simp [fvals]
  have e2 : (fvals vs).length = vs.length := by simp [fvals]
  rw [e1, e2]
  obtain ⟨n, hn⟩ : ∃ n, Hid (us.length = n) := ⟨_, rfl⟩
  obtain ⟨m, hm⟩ : ∃ m, Hid (vs.length = m) := ⟨_, rfl⟩
  have hmx : n ≤ 9223372036854775807 := by rw [← hn.out, ← e1]; unfold maxLen at hm1; omega
  rw [hn.out, hm.out]
  clear e1 e2 hm1 hm2 hl1
  by_cases hnm : n = m
  · have hnm' : (((n : Nat) : Int) != ((m : Nat) : Int)) = false := by simp; omega
    replace hnm : Hid (n = m) := hnm
    go_enter Tryd.func15, Tryd.ntmps15
    go_wp2_with fail
    go_loopw [5] (fun i wr => ∃ k : Nat, k ≤ n ∧ i = .int .i64 k ∧ Qt w wr ∧ Hid (us.take k = vs.take k)) (fun i _ => n - (intOf i).toNat)
    case atStart => exact ⟨0, Nat.zero_le _, rfl, Qt.refl _, by simp [Hid]⟩
    case round =>
      obtain ⟨k, hk, rfl, hq, heq⟩ := hrel
      replace hq : Hid (Qt w wr) := hq
      by_cases hkn : k = n
      · subst hkn
        have hE : Hid (us = vs) := by
          have := heq.out
          rwa [List.take_of_length_le (by have := hn.out; omega), List.take_of_length_le (by have := hm.out; have := hnm.out; omega)] at this
        go_wp2
        go_ret
        exact ⟨ret_bool (by rw [hE.out]; simp), hq.out⟩
      · have h1 : k < us.length := by have := hn.out; omega
        have h2 : k < vs.length := by have := hm.out; have := hnm.out; omega
        obtain ⟨b1, o1, rfl, c1⟩ := h4.out k (by simp [fvals]; omega)
        obtain ⟨b2, o2, rfl, c2⟩ := g4.out k (by simp [fvals]; omega)
        obtain ⟨a, ha⟩ : ∃ a, Hid (us[k] = a) := ⟨us[k], rfl⟩
        obtain ⟨b, hb⟩ : ∃ a, Hid (vs[k] = a) := ⟨vs[k], rfl⟩
        have d1 : wr.cell? ⟨b1, o1 + k, none⟩ = some (.float .f64 a) := by
          rw [(Qt.below hq.out _).cell (p := ⟨b1, o1 + k, none⟩) (lt_of_cell c1), c1, ← ha.out]; simp [fvals]
        have d2 : wr.cell? ⟨b2, o2 + k, none⟩ = some (.float .f64 b) := by
          rw [(Qt.below hq.out _).cell (p := ⟨b2, o2 + k, none⟩) (lt_of_cell c2), c2, ← hb.out]; simp [fvals]
        clear c1 c2
        have i1 : (k : Int) < (n : Int) := by omega
        have i2 : (k : Int) < (m : Int) := by have := hnm.out; omega
        have i3 : (0 : Int) ≤ (k : Int) := by omega
        have hbits : Hid (∀ q : World, Calls Tryd.prog 13 #[.float .f64 a, .float .f64 b] q fun e w' => e = .returned (.bool (decide (a = b))) ∧ w' = q) := fun q => Rl.bits_any q a b
        by_cases hab : a = b
        · rw [decide_eq_true hab] at hbits
          have heq2 : Hid (us.take (k + 1) = vs.take (k + 1)) := by
            show _ = _
            rw [List.take_succ_eq_append_getElem h1, List.take_succ_eq_append_getElem h2, heq.out, ha.out, hb.out, hab]
          clear hab
          go_wp2_with fail
          go_quiet (first | (go_at_call 13; exact Calls.quiet_of_same (hbits.out _)))
          go_wp2_with fail
          go_roundw
          case rel => exact ⟨k + 1, by omega, by go_num, hq.out.trans ⟨nq, rfl⟩, heq2⟩
          case measure => simp [intOf]; omega
        · rw [decide_eq_false hab] at hbits
          have hne : Hid (us ≠ vs) := by
            show us ≠ vs
            rintro rfl
            exact hab (by rw [← ha.out, ← hb.out])
          clear hab
          go_wp2_with fail
          go_quiet (first | (go_at_call 13; exact Calls.quiet_of_same (hbits.out _)))
          go_wp2
          go_ret
          exact ⟨ret_bool (by rw [decide_eq_false hne.out]), hq.out.trans ⟨nq, rfl⟩⟩
  · have hnm' : (((n : Nat) : Int) != ((m : Nat) : Int)) = true := by simp; omega
    have hne : Hid (us ≠ vs) := by
      show us ≠ vs
      rintro rfl
      exact hnm (by rw [← hn.out, ← hm.out])
    clear hnm
    go_enter Tryd.func15, Tryd.ntmps15
    go_wp2
    go_ret
    exact ⟨ret_bool (by rw [decide_eq_false hne.out]), Qt.refl _⟩
#print axioms feq_any
theorem Row.lit (w : World) (us : List Nat) (t : TypeId) (cs : Array Value) (n : Nat) (hn : us.length = n) (hm : n ≤ maxLen) (hcs : cs = (fvals us).toArray) : Row (w.alloc (.cells cs t)) (.slice (some ⟨w.heap.size, 0, none⟩) n n) (fvals us) := by
  subst hcs
  subst hn
  have e1 : (fvals us).length = us.length := by simp [fvals]
  refine ⟨some ⟨w.heap.size, 0, none⟩, us.length, by rw [e1], fun e => by simp at e, by rw [e1]; exact Nat.le_refl _, hm, fun i hi => ⟨_, _, rfl, ?_⟩⟩
  simp only [World.cell?, heap_alloc_new, Nat.zero_add]
  simp [hi]
theorem pk_lit : Pk (putAll 0 0 [4607182418800017408, 13830554455654793216]) [63, 240, 0, 0, 0, 0, 0, 0, 128, 4] := by unfold Pk; decide +kernel
theorem up_lit : up [1, 0] = ([], 0, 2) := by decide +kernel
theorem enc_lit : enc 2 = [2] := by decide +kernel
set_option maxHeartbeats 2000000 in
theorem begun_any (w : World) (hT : Tab w) : Calls Tryd.prog 7 #[] w fun e w' => e = .returned (.bool true) ∧ Below w.heap.size w w' := by
  replace hT : Hid (Tab w) := hT
  go_enter Tryd.func7, Tryd.ntmps7
  go_wp2_with fail
  refine (pack_any _ _ [4607182418800017408, 13830554455654793216] (Row.lit w _ _ _ 2 rfl (by decide) rfl) (by intro b hb; simp at hb; rcases hb with rfl | rfl <;> decide) (hT.out.below (box_below _ _)) (by decide)).mono ?_
  rintro e w1 ⟨v1, m, rfl, hpk, ho1, hb1⟩
  obtain rfl := hpk.inj pk_lit
  have hb2 : Hid (Below w.heap.size w w1) := (box_below w _).trans (hb1.mono (by simp))
  have hs1 : Hid (Sl w1 v1 [2, 63, 240, 0, 0, 0, 0, 0, 0, 128, 4]) := by
    have := Sl.of_owns ho1
    rw [show ([4607182418800017408, 13830554455654793216] : List Nat).length = 2 from rfl, enc_lit] at this
    exact this
  clear hpk ho1 hb1
  go_wp2_with fail
  refine (unpack_any (w1.alloc (.cells #[.int .u8 1, .int .u8 0] 5)) _ [1, 0] (sl_lit w1 [1, 0] 5 (by decide) _ rfl)).mono ?_
  rintro e w2 ⟨⟨v2, rfl, ho2⟩, hb3⟩
  rw [up_lit] at ho2 ⊢
  have hv2 : v2 = .slice none 0 0 ∨ ∃ g cap, v2 = .slice (some g) 0 cap := by
    obtain ⟨_, p⟩ := ho2
    rcases p with ⟨rfl, _⟩ | ⟨g, cap, cur, rfl, _⟩
    · exact Or.inl rfl
    · exact Or.inr ⟨_, _, rfl⟩
  have hb12 : Below w1.heap.size w1 w2 := (box_below w1 _).trans (hb3.mono (by simp))
  have hs2 : Hid (Sl w2 v1 [2, 63, 240, 0, 0, 0, 0, 0, 0, 128, 4]) := Below.sl hb12 hs1.out
  replace hb2 : Hid (Below w.heap.size w w2) := hb2.out.trans (hb12.mono hb2.out.size)
  clear hb12 hb3 ho2 hs1 hv2
  go_wp2_with fail
  refine (eq_sl (w2.alloc (.cells #[.int .u8 2, .int .u8 63, .int .u8 240, .int .u8 0, .int .u8 0, .int .u8 0, .int .u8 0, .int .u8 0, .int .u8 0, .int .u8 128, .int .u8 4] 5)) _ _ [2, 63, 240, 0, 0, 0, 0, 0, 0, 128, 4] [2, 63, 240, 0, 0, 0, 0, 0, 0, 128, 4] (Below.sl (box_below _ _) hs2.out) (sl_lit w2 _ 5 (by decide) _ rfl)).mono ?_
  rintro e w3 ⟨rfl, hq3⟩
  have hb4 : Hid (Below w.heap.size w w3) := hb2.out.trans (((box_below w2 _).trans (Qt.below hq3 _)).mono hb2.out.size)
  rw [decide_eq_true rfl]
  clear hq3
  go_wp2
  go_ret
  exact ⟨rfl, hb4.out⟩
#print axioms begun_any
end Go.Proofs.YtojohcckaklmpaaDoor.Sr
