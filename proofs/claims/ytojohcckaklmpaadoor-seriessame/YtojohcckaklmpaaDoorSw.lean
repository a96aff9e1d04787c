/-
  Package series: a difference read; the next number; the rest of the byte under way.
-/
import Derived.Test.YtojohcckaklmpaaDoorSv
namespace Go.Proofs.YtojohcckaklmpaaDoor.Sr
open Go.RowKit
set_option maxRecDepth 100000
set_option linter.unusedVariables false

/-- What reading a number answers: r is the number, the error's number, what is left. -/
def NextP (base q : Nat) (r : Nat × Int × List Nat) (e : Ending) (w' : World) : Prop := e = .returned (.tuple #[.int .u64 (r.1 : Int), .int .i64 r.2.1]) ∧ (r.2.1 = 0 → Src w' base q r.2.2)
theorem NextP.bad {base q : Nat} {r : Nat × Int × List Nat} {w' : World} {er : Int} (h : r = (0, er, [])) (h0 : er ≠ 0) : NextP base q r (.returned (.tuple #[.int .u64 0, .int .i64 er])) w' := by
  subst h; exact ⟨rfl, fun h => (h0 h).elim⟩
theorem twelve (l : List Nat) (hl : IsB l) (h : 12 ≤ l.length) : ofB 0 (l.take 12) = ofB 0 (l.take 6) * 64 + ofB 0 ((l.drop 6).take 6) ∧ ofB 0 (l.take 6) < 64 ∧ ofB 0 ((l.drop 6).take 6) < 64 := by
  have e : l.take 12 = l.take 6 ++ (l.drop 6).take 6 := by rw [show (12 : Nat) = 6 + 6 by omega, List.take_add]
  have h2 : ((l.drop 6).take 6).length = 6 := by rw [List.length_take, List.length_drop]; omega
  refine ⟨?_, by have := ofB_lt0 (hl.take 6) (n := 6) (by rw [List.length_take]; omega); simpa using this, by have := ofB_lt0 ((hl.drop 6).take 6) h2; simpa using this⟩
  rw [e, ofB_append, ofB_split _ _ ((hl.drop 6).take 6), h2]
theorem rdDiff_one {b : Nat} {l : List Nat} (hb : b ≠ 0) (h12 : 12 ≤ l.length) {z k : Nat} (hz : ofB 0 (l.take 6) = z) (hk : ofB 0 ((l.drop 6).take 6) = k) :
    rdDiff (b :: l) = if (l.drop 12).length < k + 1 then (0, 2, []) else if 64 < z + (k + 1) ∨ ofB 0 ((l.drop 12).take (k + 1)) % 2 = 0 ∨ ofB 0 ((l.drop 12).take (k + 1)) / 2 ^ k = 0 then (0, 4, [])
      else (ofB 0 ((l.drop 12).take (k + 1)) * 2 ^ (64 - z - (k + 1)), 0, (l.drop 12).drop (k + 1)) := by
  rw [rdDiff, if_neg hb, if_neg (by omega), hz, hk]
set_option maxHeartbeats 4000000 in
theorem diff_any (w : World) (base q : Nat) (R : List Nat) (hs : Src w base q R) (hb : base ≤ q) :
    Calls Tryd.prog 76 #[.pointer (some ⟨q, 0, none⟩)] w fun e w' => NextP base q (rdDiff R) e w' ∧ w.grownBy w' (some q) := by
  have hR := hs.isB
  replace hs : Hid (Src w base q R) := hs
  replace hR : Hid (IsB R) := hR
  cases R with
  | nil =>
    go_enter Tryd.func76, Tryd.ntmps76
    go_wp2_with fail
    refine (sbit_nil _ base q hs.out).mono ?_
    rintro e w2 ⟨rfl, rfl⟩
    go_wp2
    go_ret2
    exact ⟨NextP.bad rfl (by decide), grown_refl _ _⟩
  | cons b l =>
    have hb2 : b < 2 := hR.out b (List.mem_cons_self ..)
    have hl : Hid (IsB l) := fun c hc => hR.out c (List.mem_cons_of_mem _ hc)
    have hbit : Hid (Calls Tryd.prog 81 #[.pointer (some ⟨q, 0, none⟩)] w fun e w' => e = .returned (.tuple #[.int .u64 (b : Int), .bool true]) ∧ Src w' base q l ∧ w.grownBy w' (some q)) := sbit_some w base q b l hs.out hb
    by_cases hb0 : b = 0
    · subst hb0
      go_enter Tryd.func76, Tryd.ntmps76
      go_wp2_with fail
      refine hbit.out.mono ?_
      rintro e w2 ⟨rfl, hS2, hB2⟩
      replace hS2 : Hid (Src w2 base q l) := hS2
      replace hB2 : Hid (w.grownBy w2 (some q)) := hB2
      go_wp2
      go_ret2
      exact ⟨⟨rfl, fun _ => hS2.out⟩, hB2.out⟩
    · have hbz : ((b : Int) == 0) = false := by simp; omega
      go_enter Tryd.func76, Tryd.ntmps76
      go_wp2_with fail
      refine hbit.out.mono ?_
      rintro e w2 ⟨rfl, hS2, hB2⟩
      replace hS2 : Hid (Src w2 base q l) := hS2
      replace hB2 : Hid (w.grownBy w2 (some q)) := hB2
      clear hbit hs
      by_cases h12 : 12 ≤ l.length
      · obtain ⟨e12, z64, k64⟩ := twelve l hl.out h12
        have hr0 := rdDiff_one hb0 h12 rfl rfl
        generalize ofB 0 (l.take 6) = z at *
        generalize ofB 0 ((l.drop 6).take 6) = k at *
        replace hr0 : Hid (rdDiff (b :: l) = if (l.drop 12).length < k + 1 then (0, 2, []) else if 64 < z + (k + 1) ∨ ofB 0 ((l.drop 12).take (k + 1)) % 2 = 0 ∨ ofB 0 ((l.drop 12).take (k + 1)) / 2 ^ k = 0 then (0, 4, [])
          else (ofB 0 ((l.drop 12).take (k + 1)) * 2 ^ (64 - z - (k + 1)), 0, (l.drop 12).drop (k + 1))) := hr0
        have i1 : ((z * 64 + k : Nat) : Int) / 64 = (z : Int) := by omega
        have i2 : ((z * 64 + k : Nat) : Int) % 64 = (k : Int) := by omega
        obtain ⟨s, hsx⟩ : ∃ s, Hid (z * 64 + k = s) := ⟨_, rfl⟩
        rw [hsx.out] at i1 i2 e12
        replace e12 : Hid (ofB 0 (l.take 12) = s) := e12
        have z64' : (z : Int) < 64 := by omega
        have k64' : (k : Int) < 64 := by omega
        have z0 : (0 : Int) ≤ (z : Int) := by omega
        have k0 : (0 : Int) ≤ (k : Int) := by omega
        replace h12 : Hid (12 ≤ l.length) := h12
        replace hb0 : Hid (b ≠ 0) := hb0
        clear z64 k64 hb2
        go_wp2_with fail
        refine (take_any _ base q 12 l hS2.out hb (by omega)).mono ?_
        rintro e w3 ⟨hP3, hB3⟩
        obtain ⟨rfl, hS3⟩ := hP3.yes h12.out
        rw [e12.out]
        replace hS3 : Hid (Src w3 base q (l.drop 12)) := hS3
        replace hB3 : Hid (w.grownBy w3 (some q)) := grown_trans hB2.out hB3
        clear hB2 hS2 hP3
        have htk : Hid (Calls Tryd.prog 77 #[.pointer (some ⟨q, 0, none⟩), .int .i64 ((k : Int) + 1)] w3 fun e w' => TakeP base q (k + 1) (l.drop 12) e w' ∧ w3.grownBy w' (some q)) := take_any w3 base q (k + 1) _ hS3.out hb (by omega)
        go_wp2_with fail
        refine htk.out.mono ?_
        rintro e w4 ⟨hP4, hB4⟩
        replace hB4 : Hid (w.grownBy w4 (some q)) := grown_trans hB3.out hB4
        clear hB3 hS3 htk i1 i2
        by_cases hlen : (l.drop 12).length < k + 1
        · obtain rfl := hP4.no hlen
          have hr1 : Hid (rdDiff (b :: l) = (0, 2, [])) := by have := hr0.out; rwa [if_pos hlen] at this
          replace hlen : Hid ((l.drop 12).length < k + 1) := hlen
          clear hP4
          go_wp2
          go_ret2
          exact ⟨NextP.bad hr1.out (by decide), hB4.out⟩
        · obtain ⟨rfl, hS4⟩ := hP4.yes (by omega)
          have hxl : ofB 0 ((l.drop 12).take (k + 1)) < 2 ^ (k + 1) := ofB_lt0 ((hl.out.drop 12).take _) (by rw [List.length_take]; omega)
          replace hr0 : Hid _ := hr0.out.trans (if_neg hlen)
          replace hlen : Hid (¬ (l.drop 12).length < k + 1) := hlen
          replace hS4 : Hid (Src w4 base q ((l.drop 12).drop (k + 1))) := hS4
          clear hP4
          generalize ofB 0 ((l.drop 12).take (k + 1)) = x at *
          have hx64 : x < 18446744073709551616 := by
            have : 2 ^ (k + 1) ≤ 2 ^ 64 := Nat.pow_le_pow_right (by decide) (by omega)
            omega
          have ha := and_one x hx64
          obtain ⟨p, hp⟩ : ∃ p, Hid (x % 2 = p) := ⟨_, rfl⟩
          rw [hp.out] at ha
          replace hxl : Hid (x < 2 ^ (k + 1)) := hxl
          by_cases h64 : 64 < z + (k + 1)
          · have hr1 : Hid (rdDiff (b :: l) = (0, 4, [])) := hr0.out.trans (if_pos (Or.inl h64))
            have g1 : 64 - (z : Int) - ((k : Int) + 1) < 0 := by omega
            clear h64
            go_wp2
            go_ret2
            exact ⟨NextP.bad hr1.out (by decide), hB4.out⟩
          · have g1 : (0 : Int) ≤ 64 - (z : Int) - ((k : Int) + 1) := by omega
            have hd : (x : Int) / 2 ^ k = ((x / 2 ^ k : Nat) : Int) := by simp
            by_cases ht : x / 2 ^ k = 0
            · have hr1 : Hid (rdDiff (b :: l) = (0, 4, [])) := hr0.out.trans (if_pos (Or.inr (Or.inr ht)))
              have g2 : ((x : Int) / 2 ^ k == 0) = true := by rw [hd, ht]; rfl
              clear ht hd h64
              go_wp2
              go_ret2
              exact ⟨NextP.bad hr1.out (by decide), hB4.out⟩
            · have g2 : ((x : Int) / 2 ^ k == 0) = false := by rw [hd]; simp only [beq_eq_false_iff_ne, ne_eq]; omega
              by_cases ho : x % 2 = 0
              · have hr1 : Hid (rdDiff (b :: l) = (0, 4, [])) := hr0.out.trans (if_pos (Or.inr (Or.inl ho)))
                have hp0 : p = 0 := by rw [← hp.out]; exact ho
                subst hp0
                clear ht hd h64 ho
                go_wp2
                go_ret2
                exact ⟨NextP.bad hr1.out (by decide), hB4.out⟩
              · have hr1 : Hid (rdDiff (b :: l) = (x * 2 ^ (64 - z - (k + 1)), 0, (l.drop 12).drop (k + 1))) := hr0.out.trans (if_neg (by omega))
                have hp1 : p = 1 := by rw [← hp.out]; omega
                subst hp1
                obtain ⟨t, ht64⟩ : ∃ t, Hid (64 - z - (k + 1) = t) := ⟨_, rfl⟩
                have gt : 64 - (z : Int) - ((k : Int) + 1) = (t : Int) := by have := ht64.out; omega
                have hsh : IntKind.u64.wrap ((x : Int) * 2 ^ t) = ((x * 2 ^ t : Nat) : Int) := by
                  have h1 : x * 2 ^ t < 18446744073709551616 := by
                    have h2 : x * 2 ^ t < 2 ^ (k + 1) * 2 ^ t := Nat.mul_lt_mul_of_pos_right hxl.out (Nat.two_pow_pos _)
                    rw [← Nat.pow_add] at h2
                    have h3 : 2 ^ (k + 1 + t) ≤ 2 ^ 64 := Nat.pow_le_pow_right (by decide) (by have := ht64.out; omega)
                    omega
                  rw [show (x : Int) * 2 ^ t = ((x * 2 ^ t : Nat) : Int) by simp]
                  generalize x * 2 ^ t = y at *
                  rw [IntKind.wrap_u64]; omega
                rw [ht64.out] at hr1
                obtain ⟨X, hX⟩ : ∃ X, Hid (x * 2 ^ t = X) := ⟨_, rfl⟩
                rw [hX.out] at hsh hr1
                have gt0 : (0 : Int) ≤ (t : Int) := by omega
                have gt1 : (t : Int) < 64 := by omega
                clear ht hd h64 ho g1
                go_wp2
                go_ret2
                refine ⟨?_, hB4.out⟩
                rw [hr1.out]
                exact ⟨rfl, fun _ => hS4.out⟩
      · have hr1 : Hid (rdDiff (b :: l) = (0, 2, [])) := by
          show _ = _
          rw [rdDiff, if_neg hb0, if_pos (by omega)]
        replace h12 : Hid (¬ 12 ≤ l.length) := h12
        go_wp2_with fail
        refine (take_any _ base q 12 l hS2.out hb (by omega)).mono ?_
        rintro e w3 ⟨hP3, hB3⟩
        obtain rfl := hP3.no (by have := h12.out; omega)
        replace hB3 : Hid (w.grownBy w3 (some q)) := grown_trans hB2.out hB3
        clear hP3
        go_wp2
        go_ret2
        exact ⟨NextP.bad hr1.out (by decide), hB3.out⟩
#print axioms diff_any
set_option maxHeartbeats 2000000 in
theorem next_any (w : World) (base q i : Nat) (R : List Nat) (hs : Src w base q R) (hb : base ≤ q) :
    Calls Tryd.prog 62 #[.pointer (some ⟨q, 0, none⟩), .bool (decide (i = 0))] w fun e w' => NextP base q (rdNext i R) e w' ∧ w.grownBy w' (some q) := by
  replace hs : Hid (Src w base q R) := hs
  by_cases hi : i = 0
  · rw [decide_eq_true hi]
    by_cases h64 : 64 ≤ R.length
    · have hr1 : Hid (rdNext i R = (ofB 0 (R.take 64), 0, R.drop 64)) := by
        show _ = _
        unfold rdNext; rw [if_pos hi, if_neg (by omega)]
      replace h64 : Hid (64 ≤ R.length) := h64
      clear hi
      go_enter Tryd.func62, Tryd.ntmps62
      go_wp2_with fail
      refine (take_any _ base q 64 R hs.out hb (by omega)).mono ?_
      rintro e w3 ⟨hP3, hB3⟩
      obtain ⟨rfl, hS3⟩ := hP3.yes h64.out
      replace hS3 : Hid (Src w3 base q (R.drop 64)) := hS3
      replace hB3 : Hid (w.grownBy w3 (some q)) := hB3
      clear hP3
      generalize ofB 0 (R.take 64) = x at *
      go_wp2
      go_ret2
      refine ⟨?_, hB3.out⟩
      rw [hr1.out]
      exact ⟨rfl, fun _ => hS3.out⟩
    · have hr1 : Hid (rdNext i R = (0, 2, [])) := by
        show _ = _
        unfold rdNext; rw [if_pos hi, if_pos (by omega)]
      replace h64 : Hid (¬ 64 ≤ R.length) := h64
      clear hi
      go_enter Tryd.func62, Tryd.ntmps62
      go_wp2_with fail
      refine (take_any _ base q 64 R hs.out hb (by omega)).mono ?_
      rintro e w3 ⟨hP3, hB3⟩
      obtain rfl := hP3.no (by have := h64.out; omega)
      replace hB3 : Hid (w.grownBy w3 (some q)) := hB3
      clear hP3
      go_wp2
      go_ret2
      exact ⟨NextP.bad hr1.out (by decide), hB3.out⟩
  · rw [decide_eq_false hi]
    have hr1 : rdNext i R = rdDiff R := by unfold rdNext; rw [if_neg hi]
    have hc := diff_any w base q R hs.out hb
    rw [hr1]
    clear hi hr1
    generalize rdDiff R = r at *
    obtain ⟨x, er, R'⟩ := r
    replace hc : Hid (Calls Tryd.prog 76 #[.pointer (some ⟨q, 0, none⟩)] w fun e w' => NextP base q (x, er, R') e w' ∧ w.grownBy w' (some q)) := hc
    go_enter Tryd.func62, Tryd.ntmps62
    go_wp2_with fail
    refine hc.out.mono ?_
    rintro e w3 ⟨⟨rfl, hS3⟩, hB3⟩
    replace hB3 : Hid (w.grownBy w3 (some q)) := hB3
    replace hS3 : Hid (er = 0 → Src w3 base q R') := hS3
    go_wp2
    go_ret2
    exact ⟨⟨rfl, hS3.out⟩, hB3.out⟩
#print axioms next_any
end Go.Proofs.YtojohcckaklmpaaDoor.Sr
