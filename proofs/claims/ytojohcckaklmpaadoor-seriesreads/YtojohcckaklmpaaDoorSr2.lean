/-
  The document's own bits: the next difference.
-/
import Derived.Test.YtojohcckaklmpaaDoorSr1
namespace Go.Proofs.YtojohcckaklmpaaDoor.Sr
open Go.RowKit
set_option maxRecDepth 100000
set_option linter.unusedVariables false

def RNextP (base q : Nat) (A : List UInt8) (r : Nat × Int × List Nat) (e : Ending) (w' : World) : Prop := e = .returned (.tuple #[.int .u64 (r.1 : Int), .int .i64 r.2.1]) ∧ (r.2.1 = 0 → RSrc w' base q A r.2.2)
theorem RNextP.bad {base q : Nat} {A : List UInt8} {r : Nat × Int × List Nat} {w' : World} {er : Int} (h : r = (0, er, [])) (h0 : er ≠ 0) : RNextP base q A r (.returned (.tuple #[.int .u64 0, .int .i64 er])) w' := by
  subst h; exact ⟨rfl, fun h => (h0 h).elim⟩
theorem RSrc.isB {w : World} {base q : Nat} {A : List UInt8} {R : List Nat} (h : RSrc w base q A R) : IsB R := by
  obtain ⟨ao, cap, t, _, _, _, _, _, _, rfl⟩ := h
  exact (unb_isB _).drop _
set_option maxHeartbeats 4000000 in
theorem rnext_any (w : World) (base q : Nat) (A : List UInt8) (R : List Nat) (hs : RSrc w base q A R) (hb : base ≤ q) :
    Calls Tryd.prog 41 #[.pointer (some ⟨q, 0, none⟩)] w fun e w' => RNextP base q A (rdDiff R) e w' ∧ w.grownBy w' (some q) := by
  have hR := hs.isB
  replace hs : Hid (RSrc w base q A R) := hs
  replace hR : Hid (IsB R) := hR
  cases R with
  | nil =>
    go_enter Tryd.func41, Tryd.ntmps41
    go_wp2_with fail
    refine (rtake_any _ base q 1 A [] hs.out hb (by omega)).mono ?_
    rintro e w2 ⟨hP, hG⟩
    obtain rfl := hP.no (by simp)
    replace hG : Hid (w.grownBy w2 (some q)) := hG
    clear hP
    go_wp2
    go_ret2
    exact ⟨RNextP.bad rfl (by decide), hG.out⟩
  | cons b l =>
    have hb2 : b < 2 := hR.out b (List.mem_cons_self ..)
    have hl : Hid (IsB l) := fun c hc => hR.out c (List.mem_cons_of_mem _ hc)
    have hbit : Hid (Calls Tryd.prog 40 #[.pointer (some ⟨q, 0, none⟩), .int .i64 1] w fun e w' => e = .returned (.tuple #[.int .u64 (b : Int), .bool true]) ∧ RSrc w' base q A l ∧ w.grownBy w' (some q)) := by
      refine (rtake_any w base q 1 A (b :: l) hs.out hb (by omega)).mono ?_
      rintro e w2 ⟨hP, hG⟩
      obtain ⟨rfl, hS⟩ := hP.yes (by simp)
      exact ⟨by simp [ofB], hS, hG⟩
    by_cases hb0 : b = 0
    · subst hb0
      go_enter Tryd.func41, Tryd.ntmps41
      go_wp2_with fail
      refine hbit.out.mono ?_
      rintro e w2 ⟨rfl, hS2, hB2⟩
      replace hS2 : Hid (RSrc w2 base q A l) := hS2
      replace hB2 : Hid (w.grownBy w2 (some q)) := hB2
      go_wp2
      go_ret2
      exact ⟨⟨rfl, fun _ => hS2.out⟩, hB2.out⟩
    · have hbz : ((b : Int) == 0) = false := by simp; omega
      go_enter Tryd.func41, Tryd.ntmps41
      go_wp2_with fail
      refine hbit.out.mono ?_
      rintro e w2 ⟨rfl, hS2, hB2⟩
      replace hS2 : Hid (RSrc w2 base q A l) := hS2
      replace hB2 : Hid (w.grownBy w2 (some q)) := hB2
      clear hbit hs
      by_cases h6 : 6 ≤ l.length
      · have z64 : ofB 0 (l.take 6) < 64 := by have := ofB_lt0 (hl.out.take 6) (n := 6) (by rw [List.length_take]; omega); simpa using this
        replace h6 : Hid (6 ≤ l.length) := h6
        clear hb2
        go_wp2_with fail
        refine (rtake_any _ base q 6 A l hS2.out hb (by omega)).mono ?_
        rintro e w3 ⟨hP3, hB3⟩
        obtain ⟨rfl, hS3⟩ := hP3.yes h6.out
        replace hS3 : Hid (RSrc w3 base q A (l.drop 6)) := hS3
        replace hB3 : Hid (w.grownBy w3 (some q)) := grown_trans hB2.out hB3
        clear hB2 hS2 hP3
        by_cases h12 : 12 ≤ l.length
        · have hr0 := rdDiff_one hb0 h12 rfl rfl
          have k64 : ofB 0 ((l.drop 6).take 6) < 64 := by have := ofB_lt0 ((hl.out.drop 6).take 6) (n := 6) (by rw [List.length_take, List.length_drop]; omega); simpa using this
          replace h12 : Hid (12 ≤ l.length) := h12
          replace hb0 : Hid (b ≠ 0) := hb0
          generalize ofB 0 (l.take 6) = z at *
          have z64' : (z : Int) < 64 := by omega
          have z0 : (0 : Int) ≤ (z : Int) := by omega
          go_wp2_with fail
          refine (rtake_any _ base q 6 A (l.drop 6) hS3.out hb (by omega)).mono ?_
          rintro e w4 ⟨hP4, hB4⟩
          obtain ⟨rfl, hS4⟩ := hP4.yes (by rw [List.length_drop]; have := h12.out; omega)
          rw [List.drop_drop] at hS4
          generalize ofB 0 ((l.drop 6).take 6) = k at *
          replace hr0 : Hid (rdDiff (b :: l) = if (l.drop 12).length < k + 1 then (0, 2, []) else if 64 < z + (k + 1) ∨ ofB 0 ((l.drop 12).take (k + 1)) % 2 = 0 ∨ ofB 0 ((l.drop 12).take (k + 1)) / 2 ^ k = 0 then (0, 4, [])
            else (ofB 0 ((l.drop 12).take (k + 1)) * 2 ^ (64 - z - (k + 1)), 0, (l.drop 12).drop (k + 1))) := hr0
          replace hS4 : Hid (RSrc w4 base q A (l.drop 12)) := hS4
          replace hB4 : Hid (w.grownBy w4 (some q)) := grown_trans hB3.out hB4
          clear hB3 hS3 hP4
          have k64' : (k : Int) < 64 := by omega
          have k0 : (0 : Int) ≤ (k : Int) := by omega
          have htk : Hid (Calls Tryd.prog 40 #[.pointer (some ⟨q, 0, none⟩), .int .i64 ((k : Int) + 1)] w4 fun e w' => RTakeP base q (k + 1) A (l.drop 12) e w' ∧ w4.grownBy w' (some q)) := rtake_any w4 base q (k + 1) A _ hS4.out hb (by omega)
          go_wp2_with fail
          refine htk.out.mono ?_
          rintro e w5 ⟨hP5, hB5⟩
          replace hB5 : Hid (w.grownBy w5 (some q)) := grown_trans hB4.out hB5
          clear hB4 hS4 htk
          by_cases hlen : (l.drop 12).length < k + 1
          · obtain rfl := hP5.no hlen
            have hr1 : Hid (rdDiff (b :: l) = (0, 2, [])) := by have := hr0.out; rwa [if_pos hlen] at this
            replace hlen : Hid ((l.drop 12).length < k + 1) := hlen
            clear hP5
            go_wp2
            go_ret2
            exact ⟨RNextP.bad hr1.out (by decide), hB5.out⟩
          · obtain ⟨rfl, hS5⟩ := hP5.yes (by omega)
            have hxl : ofB 0 ((l.drop 12).take (k + 1)) < 2 ^ (k + 1) := ofB_lt0 ((hl.out.drop 12).take _) (by rw [List.length_take]; omega)
            replace hr0 : Hid _ := hr0.out.trans (if_neg hlen)
            replace hlen : Hid (¬ (l.drop 12).length < k + 1) := hlen
            replace hS5 : Hid (RSrc w5 base q A ((l.drop 12).drop (k + 1))) := hS5
            clear hP5
            generalize ofB 0 ((l.drop 12).take (k + 1)) = x at *
            replace hxl : Hid (x < 2 ^ (k + 1)) := hxl
            by_cases h64 : 64 < z + (k + 1)
            · have hr1 : Hid (rdDiff (b :: l) = (0, 4, [])) := hr0.out.trans (if_pos (Or.inl h64))
              have g1 : (64 : Int) < (z : Int) + ((k : Int) + 1) := by omega
              clear h64
              go_wp2
              go_ret2
              exact ⟨RNextP.bad hr1.out (by decide), hB5.out⟩
            · have g1 : ¬ (64 : Int) < (z : Int) + ((k : Int) + 1) := by omega
              have hd : (x : Int) / 2 ^ k = ((x / 2 ^ k : Nat) : Int) := by simp
              by_cases ho : x % 2 = 0
              · have hr1 : Hid (rdDiff (b :: l) = (0, 4, [])) := hr0.out.trans (if_pos (Or.inr (Or.inl ho)))
                have g2 : ((x : Int) % 2 == 0) = true := by simp; omega
                clear hd h64 ho
                go_wp2
                go_ret2
                exact ⟨RNextP.bad hr1.out (by decide), hB5.out⟩
              · have g2 : ((x : Int) % 2 == 0) = false := by simp; omega
                by_cases ht : x / 2 ^ k = 0
                · have hr1 : Hid (rdDiff (b :: l) = (0, 4, [])) := hr0.out.trans (if_pos (Or.inr (Or.inr ht)))
                  have g3 : ((x : Int) / 2 ^ k == 0) = true := by rw [hd, ht]; rfl
                  clear ht hd h64 ho
                  go_wp2
                  go_ret2
                  exact ⟨RNextP.bad hr1.out (by decide), hB5.out⟩
                · have g3 : ((x : Int) / 2 ^ k == 0) = false := by rw [hd]; simp only [beq_eq_false_iff_ne, ne_eq]; omega
                  have hr1 : Hid (rdDiff (b :: l) = (x * 2 ^ (64 - z - (k + 1)), 0, (l.drop 12).drop (k + 1))) := hr0.out.trans (if_neg (by omega))
                  obtain ⟨t, ht64⟩ : ∃ t, Hid (64 - z - (k + 1) = t) := ⟨_, rfl⟩
                  have gt : 64 - (z : Int) - ((k : Int) + 1) = (t : Int) := by have := ht64.out; omega
                  have hsh : IntKind.u64.wrap ((x : Int) * 2 ^ t) = ((x * 2 ^ t : Nat) : Int) := by
                    have h1 : x * 2 ^ t < 18446744073709551616 := by
                      have h2 : x * 2 ^ t < 2 ^ (k + 1) * 2 ^ t := Nat.mul_lt_mul_of_pos_right hxl.out (Nat.two_pow_pos _)
                      rw [← Nat.pow_add] at h2
                      have h3 : 2 ^ (k + 1 + t) ≤ 2 ^ 64 := Nat.pow_le_pow_right (by decide) (by have := ht64.out; omega)
                      omega
                    rw [show (x : Int) * 2 ^ t = ((x * 2 ^ t : Nat) : Int) by simp]
                    generalize x * 2 ^ t = y at *
                    rw [IntKind.wrap_u64]; omega
                  rw [ht64.out] at hr1
                  obtain ⟨X, hX⟩ : ∃ X, Hid (x * 2 ^ t = X) := ⟨_, rfl⟩
                  rw [hX.out] at hsh hr1
                  have gt0 : (0 : Int) ≤ (t : Int) := by omega
                  have gt1 : (t : Int) < 64 := by omega
                  clear ht hd h64 ho
                  go_wp2
                  go_ret2
                  refine ⟨?_, hB5.out⟩
                  rw [hr1.out]
                  exact ⟨rfl, fun _ => hS5.out⟩
        · have hr1 : Hid (rdDiff (b :: l) = (0, 2, [])) := by
            show _ = _
            rw [rdDiff, if_neg hb0, if_pos (by omega)]
          replace h12 : Hid (¬ 12 ≤ l.length) := h12
          generalize ofB 0 (l.take 6) = z at *
          go_wp2_with fail
          refine (rtake_any _ base q 6 A (l.drop 6) hS3.out hb (by omega)).mono ?_
          rintro e w4 ⟨hP4, hB4⟩
          obtain rfl := hP4.no (by rw [List.length_drop]; have := h12.out; have := h6.out; omega)
          replace hB4 : Hid (w.grownBy w4 (some q)) := grown_trans hB3.out hB4
          clear hP4
          go_wp2
          go_ret2
          exact ⟨RNextP.bad hr1.out (by decide), hB4.out⟩
      · have hr1 : Hid (rdDiff (b :: l) = (0, 2, [])) := by
          show _ = _
          rw [rdDiff, if_neg hb0, if_pos (by omega)]
        replace h6 : Hid (¬ 6 ≤ l.length) := h6
        go_wp2_with fail
        refine (rtake_any _ base q 6 A l hS2.out hb (by omega)).mono ?_
        rintro e w3 ⟨hP3, hB3⟩
        obtain rfl := hP3.no (by have := h6.out; omega)
        replace hB3 : Hid (w.grownBy w3 (some q)) := grown_trans hB2.out hB3
        clear hP3
        go_wp2
        go_ret2
        exact ⟨RNextP.bad hr1.out (by decide), hB3.out⟩
#print axioms rnext_any
end Go.Proofs.YtojohcckaklmpaaDoor.Sr
