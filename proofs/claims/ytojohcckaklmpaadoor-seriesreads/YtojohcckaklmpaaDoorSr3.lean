/-
  What the document's own Unpack answers: as package series does.
-/
import Derived.Test.YtojohcckaklmpaaDoorSr2
import Derived.Test.YtojohcckaklmpaaDoorSy
import Derived.Test.YtojohcckaklmpaaDoorRefV
import Derived.Deep.QuietTactic
import Derived.BigQuiet
namespace Go.Proofs.YtojohcckaklmpaaDoor.Sr
open Go.RowKit
open Go.Proofs.YtojohcckaklmpaaDoor.Rl (fvals Bs uvals)
set_option maxRecDepth 100000
set_option linter.unusedVariables false

theorem RSrc.new {w : World} {base q : Nat} {A : List UInt8} {ao : Option Addr} {cap : Nat} (hq : w.heap[q]? = some (.cells #[.slice ao A.length cap, .int .i64 0] 73 (0, 0))) (hA : RdB w base ao A) (h1 : A.length ≤ cap) (h2 : cap ≤ maxLen) (h3 : A.length ≤ 140737488355328) : RSrc w base q A (unb A) :=
  ⟨ao, cap, 0, hq, hA, h1, h2, h3, by omega, rfl⟩
theorem RSrc.at {w : World} {base q : Nat} {A : List UInt8} {R : List Nat} (h : RSrc w base q A R) : ∃ t : Nat, w.cell? ⟨q, 1, none⟩ = some (.int .i64 (t : Int)) ∧ t ≤ 8 * A.length ∧ t + R.length = 8 * A.length := by
  obtain ⟨ao, cap, t, hq, _, _, _, _, h4, rfl⟩ := h
  exact ⟨t, by simp [World.cell?, hq], h4, by rw [List.length_drop, unb_len]; omega⟩
theorem RSrc.below {w w' : World} {base q : Nat} {A : List UInt8} {R : List Nat} (h : RSrc w base q A R) (hb : Below w.heap.size w w') : RSrc w' base q A R := by
  obtain ⟨ao, cap, t, hq, hA, h1, h2, h3, h4, h5⟩ := h
  refine ⟨ao, cap, t, by rw [hb.block q (heap_lt hq)]; exact hq, fun i hi => ?_, h1, h2, h3, h4, h5⟩
  obtain ⟨b, off, e, g1, g2⟩ := hA i hi
  exact ⟨b, off, e, g1, by rw [hb.cell (p := ⟨b, off + i, none⟩) (lt_of_cell g2)]; exact g2⟩
theorem RSrc.other {w w' : World} {base q : Nat} {A : List UInt8} {R : List Nat} {row : Option Nat} (h : RSrc w base q A R) (hg : w.grownBy w' row) (hne : row ≠ some q) (hb : ∀ k, row = some k → base ≤ k) : RSrc w' base q A R := by
  obtain ⟨ao, cap, t, hq, hA, h1, h2, h3, h4, h5⟩ := h
  refine ⟨ao, cap, t, by rw [hg.block q (heap_lt hq) (fun e => hne e.symm)]; exact hq, fun i hi => ?_, h1, h2, h3, h4, h5⟩
  obtain ⟨b, off, e, g1, g2⟩ := hA i hi
  refine ⟨b, off, e, g1, hg.cell g2 (fun e' => ?_)⟩
  have := hb b e'.symm
  omega
theorem rdDiff_bad (l : List Nat) (h : (rdDiff l).2.1 ≠ 0) : rdDiff l = (0, (rdDiff l).2.1, []) := by
  cases l with
  | nil => rfl
  | cons b l =>
    revert h
    rw [rdDiff]
    (repeat' split) <;> intro h <;> first | rfl | exact (h rfl).elim
set_option maxHeartbeats 8000000 in
theorem runpack_any (w : World) (v : Value) (l : List UInt8) (hx : Sl w v l) (hlen : l.length ≤ 140737488355328) :
    Calls Tryd.prog 18 #[v] w fun e w' => UpP w.heap.size l e w' ∧ Below w.heap.size w w' := by
  have k2' := Rl.of_run
  obtain ⟨i0, hi0', hz0, hz1, hz2'⟩ := Rl.infoF_parts Rl.Tryd.infoF64
  have hx0 := hx
  obtain ⟨ao, cap, rfl, h2, h3, h4, h5⟩ := hx
  have hrd : Hid (∀ u : World, Sl u (.slice ao l.length cap) l → Calls Tryd.prog 39 #[.slice ao l.length cap] u fun e w' => e = .returned (rvVal (rv l)) ∧ w' = u) := fun u hu => refReadVarint_any u _ l hu
  have hup : Hid (up l = if (rv l).2.2 ≠ 0 then ([], 0, (rv l).2.2) else if 4096 < (rv l).1 then ([], 0, 9)
    else if (rdGo (rv l).1 0 0 [] (unb (l.drop (rv l).2.1))).2.1 = 0 then ((rdGo (rv l).1 0 0 [] (unb (l.drop (rv l).2.1))).1, l.length - (rdGo (rv l).1 0 0 [] (unb (l.drop (rv l).2.1))).2.2.length / 8, 0)
    else ([], 0, (rdGo (rv l).1 0 0 [] (unb (l.drop (rv l).2.1))).2.1)) := rfl
  obtain ⟨hb1, hb2, hb3, hb4, hb5, hb6⟩ := rv_bounds l
  generalize rv l = r at *
  obtain ⟨n, k, er⟩ := r
  simp only at hb1 hb2 hb3 hb4 hb5 hb6 hup
  unfold rvVal at hrd
  simp only at hrd
  replace hx0 : Hid (Sl w (.slice ao l.length cap) l) := hx0
  replace h5 : Hid (Rd w ao l) := h5
  obtain ⟨N, hN⟩ : ∃ N, Hid (l.length = N) := ⟨_, rfl⟩
  have hNm : N ≤ 140737488355328 := by rw [← hN.out]; exact hlen
  by_cases he : er = 0
  · subst he
    by_cases hn : 4096 < n
    · have hup1 : Hid (up l = ([], 0, 9)) := by have := hup.out; rwa [if_neg (by simp), if_pos hn] at this
      have hn' : (4096 : Int) < (n : Int) := by omega
      clear h2 h3 h4 hn hb1 hb6
      go_enter Tryd.func18, Tryd.ntmps18
      go_wp2_with fail
      refine (hrd.out _ hx0.out).mono ?_
      rintro e w1 ⟨rfl, rfl⟩
      go_wp2
      go_ret3
      exact ⟨UpP.bad hup1.out, Below.refl _ _⟩
    · have hup1 := hup.out
      rw [if_neg (by simp), if_neg hn] at hup1
      have hk0 : 0 < k := hb6 rfl
      obtain ⟨T, hgo⟩ : ∃ T, Hid (rdGo n 0 0 [] (unb (l.drop k)) = T) := ⟨_, rfl⟩
      rw [hgo.out] at hup1
      obtain ⟨xs, er, R⟩ := T
      simp only at hup1
      replace hup1 : Hid (up l = if er = 0 then (xs, l.length - R.length / 8, 0) else ([], 0, er)) := hup1
      obtain ⟨b, off, rfl, hcell⟩ := h5.out.at (by omega)
      have hbl : b < w.heap.size := lt_of_cell (hcell 0 (by omega))
      have hdl : (l.drop k).length = N - k := by rw [List.length_drop, hN.out]
      have hcN : N ≤ cap := by rw [← hN.out]; exact h3
      have hkN : k ≤ N := by rw [← hN.out]; exact hb2
      rw [hN.out] at hx0 hrd ⊢
      replace hcell : Hid (∀ i (h : i < l.length), w.cell? ⟨b, off + i, none⟩ = some (.int .u8 (l[i].toNat : Int))) := hcell
      have hn' : ¬ (4096 : Int) < (n : Int) := by omega
      have n1 : (n : Int) ≤ 4096 := by omega
      have dec1 : decide ((4096 : Int) < (n : Int)) = false := by simp; omega
      have hk1 : (k : Int) ≤ (N : Int) := by omega
      have hk2 : (k : Int) ≤ (cap : Int) := by omega
      have hk3 : (0 : Int) ≤ (k : Int) := by omega
      have hcm : cap ≤ maxLen := h4
      clear h2 h3 h4 hn hb1 hb6 hup hb2 hb4 hb5
      by_cases hck : cap = k
      · have hNk : N = k := by omega
        have hd0 : Hid (l.drop k = []) := List.length_eq_zero_iff.1 (by rw [hdl]; omega)
        have hck' : ((cap : Int) == (k : Int)) = true := by simp; omega
        subst hck
        subst hNk
        go_enter Tryd.func18, Tryd.ntmps18
        go_wp2_with fail
        refine (hrd.out _ hx0.out).mono ?_
        rintro e w1 ⟨rfl, rfl⟩
        go_wp2_with fail
        have hS1 : RSrc (w1.alloc (.cells #[.slice (some ⟨b, off, none⟩) 0 0, .int .i64 0] 73)) w1.heap.size w1.heap.size (l.drop N) (unb (l.drop N)) := by
          refine RSrc.new (ao := some ⟨b, off, none⟩) (cap := 0) (by rw [heap_alloc_new]; rw [hd0.out]; rfl) ?_ (by rw [hd0.out]; simp) (by unfold maxLen; omega) (by rw [hd0.out]; simp)
          rw [hd0.out]; exact fun i hi => by simp at hi
        have hB1 : Hid (Below w1.heap.size w1 (w1.alloc (.cells #[.slice (some ⟨b, off, none⟩) 0 0, .int .i64 0] 73))) := box_below _ _
        obtain ⟨q, hqv⟩ : ∃ q, Hid (w1.heap.size = q) := ⟨_, rfl⟩
        replace hS1 : Hid (RSrc (w1.alloc (.cells #[.slice (some ⟨b, off, none⟩) 0 0, .int .i64 0] 73)) w1.heap.size q (l.drop N) (unb (l.drop N))) := by have := hS1; rw [← hqv.out]; exact this
        have hsz2 : w1.heap.size ≤ (w1.alloc (.cells #[.slice (some ⟨b, off, none⟩) 0 0, .int .i64 0] 73)).heap.size := by simp
        rw [hqv.out]
        generalize w1.alloc (.cells #[.slice (some ⟨b, off, none⟩) 0 0, .int .i64 0] 73) = w2 at *
        (try simp only [dec1])
        go_loopw [9, 10, 11] (fun vx vn vi wr => ∃ (i was : Nat) (acc L : List Nat), i ≤ n ∧ vi = .int .i64 (i : Int) ∧ vn = .int .u64 (was : Int) ∧ was < 18446744073709551616 ∧ Hid (acc.length = i) ∧ Hid (rdGo (n - i) i was acc L = (xs, er, R)) ∧ Hid (RSrc wr w1.heap.size q (l.drop N) L) ∧ Hid (Below w1.heap.size w1 wr) ∧ wr.ownsRow w1.heap.size 26 1 vx i (fvals acc)) (fun _ _ v _ => n - (intOf v).toNat)
        case atStart => exact ⟨0, 0, [], _, by omega, rfl, rfl, by omega, rfl, hgo, hS1, hB1, World.ownsRow_nil _ _ _ _⟩
        case round =>
          clear hS1 hB1 hgo
          obtain ⟨i, was, acc, L, hi, rfl, rfl, hwas, hacc, hgo, hS, hB, ho⟩ := hrel
          by_cases hin : i = n
          · subst hin
            obtain ⟨ao9, ca9, hv9⟩ := own_slice ho
            subst hv9
            obtain ⟨p, hp⟩ : ∃ p, Hid (L.length % 8 = p) := ⟨_, rfl⟩
            have hp8 : p < 8 := by have := hp.out; omega
            obtain ⟨t, hq0, ht0, ht8⟩ := hS.out.at
            have hpt : (8 - t % 8) % 8 = p := by have := hp.out; omega
            have hT2 : Hid ((xs, er, R) = if ofB 0 (L.take p) = 0 then (acc, 0, L) else ([], 4, [])) := by
              show _ = _
              have := hgo.out
              rw [Nat.sub_self, rdGo, hp.out] at this
              exact this.symm
            have htk : Hid (Calls Tryd.prog 40 #[.pointer (some ⟨q, 0, none⟩), .int .i64 (p : Int)] wr fun e w' => RTakeP w1.heap.size q p (l.drop N) L e w' ∧ wr.grownBy w' (some q)) := rtake_any wr _ q p _ L hS.out (by have := hqv.out; omega) (by omega)
            have t0 : (0 : Int) ≤ (t : Int) := by omega
            have hpi : (8 - (t : Int) % 8) % 8 = (p : Int) := by omega
            replace hpt : Hid ((8 - t % 8) % 8 = p) := hpt
            replace ht8 : Hid (t + L.length = 8 * (l.drop N).length) := ht8
            replace ht0 : Hid (t ≤ 8 * (l.drop N).length) := ht0
            go_wp2_with fail
            refine htk.out.mono ?_
            rintro e w4 ⟨hP4, hG4⟩
            obtain ⟨rfl, hS4⟩ := hP4.yes (by have := hp.out; omega)
            have hne9 : (Value.slice ao9 i ca9).ownBlock ≠ some q := by obtain ⟨_, _, _, hqq, _⟩ := hS.out; exact own_ne ho hqq (by decide)
            have ho4 : Hid (w4.ownsRow w1.heap.size 26 1 (.slice ao9 i ca9) i (fvals acc)) := ho.kept hG4 (Or.inr hne9)
            have hB4 : Hid (Below w1.heap.size w1 w4) := hB.out.grown hG4 hB.out.size (fun k hk => by simp at hk; have := hqv.out; omega)
            obtain ⟨x, hx⟩ : ∃ x, Hid (ofB 0 (L.take p) = x) := ⟨_, rfl⟩
            rw [hx.out] at hT2 ⊢
            clear htk hP4 hG4 ho hne9
            obtain ⟨t4, hc4, _, ht4⟩ := hS4.at
            rw [List.length_drop] at ht4
            have ht44 : Hid (t4 = 8 * ((l.drop N).length - L.length / 8)) := by have := ht8.out; have := hp.out; show _ = _; omega
            by_cases hx0 : x = 0
            · have hT3 : Hid ((xs, er, R) = (acc, 0, L)) := hT2.out.trans (if_pos hx0)
              obtain ⟨e1, e2⟩ := Prod.mk.inj hT3.out
              obtain ⟨e2, e3⟩ := Prod.mk.inj e2
              have hup2 : Hid (up l = (acc, l.length - L.length / 8, 0)) := by rw [← e1, ← e3]; exact hup1.out.trans (if_pos e2)
              subst hx0
              have hd4 : (l.drop N).length - L.length / 8 + N = l.length - L.length / 8 := by have := ht8.out; rw [List.length_drop] at this ⊢; have := hN.out; omega
              obtain ⟨M, hM⟩ : ∃ M, Hid ((l.drop N).length - L.length / 8 = M) := ⟨_, rfl⟩
              rw [hM.out] at ht44 hd4
              have t4i : (t4 : Int) = 8 * (M : Int) := by have := ht44.out; omega
              have m0 : (0 : Int) ≤ (M : Int) := by omega
              have m1 : (M : Int) ≤ 140737488355328 := by have := hM.out; omega
              rw [t4i] at hc4
              have m2 : 8 * (M : Int) / 8 = (M : Int) := by omega
              replace hd4 : Hid (M + N = l.length - L.length / 8) := hd4
              clear t4i hT2 ht4
              go_wp2_with fail
              go_quiet (fail)
              go_wp2
              go_ret3
              refine ⟨⟨.slice ao9 i ca9, ?_, ?_⟩, hB4.out.trans ((Qt.below ⟨nq, rfl⟩ _).mono hB4.out.size)⟩
              · rw [hup2.out, ← hd4.out]
                simp
                omega
              · rw [hup2.out]
                simp only
                rw [hacc.out]
                exact ownsRow_below ho4.out (Qt.below ⟨nq, rfl⟩ _)
            · have hxz : ((x : Int) != 0) = true := by simp; omega
              have hT3 : Hid ((xs, er, R) = ([], 4, [])) := hT2.out.trans (if_neg hx0)
              obtain ⟨e1, e2⟩ := Prod.mk.inj hT3.out
              obtain ⟨e2, e3⟩ := Prod.mk.inj e2
              have hup2 : Hid (up l = ([], 0, 4)) := by have := hup1.out.trans (if_neg (by rw [e2]; decide)); rwa [e2] at this
              clear hx0 hT2 hc4 ht4
              go_wp2
              go_ret3
              exact ⟨UpP.bad hup2.out, hB4.out⟩
          · have i1 : (i : Int) < (n : Int) := by omega
            obtain ⟨k2, hk⟩ : ∃ k2, n - i = k2 + 1 := ⟨n - i - 1, by omega⟩
            have hgo1 := hgo.out
            rw [hk, rdGo_succ] at hgo1
            have hlt := rdNext_lt i L hS.out.isB
            have hvx := own_slice ho
            have hnext : Hid (∀ x L', rdNext i L = (x, 0, L') → ∀ (w4 : World), RSrc w4 w1.heap.size q (l.drop N) L' → wr.grownBy w4 (some q) → ∃ X, Hid (was ^^^ x = X) ∧ X < 18446744073709551616 ∧ bits .xor .u64 (was : Int) (x : Int) = (X : Int) ∧ Hid (rdGo k2 (i + 1) X (acc ++ [X]) L' = (xs, er, R)) ∧ Hid (Below w1.heap.size w1 w4) ∧ w4.ownsRow w1.heap.size 26 1 u9 i (fvals acc)) := by
              intro x L' hr w4 hS4 hG4
              rw [hr] at hgo1 hlt
              simp only [if_true] at hgo1 hlt
              refine ⟨was ^^^ x, rfl, xor_lt hwas hlt, xor_nat was x hwas hlt, hgo1, hB.out.grown hG4 hB.out.size (fun k hk => by simp at hk; have := hqv.out; omega), ho.kept hG4 (Or.inr ?_)⟩
              obtain ⟨_, _, _, hqq, _⟩ := hS.out
              exact own_ne ho hqq (by decide)
            have hbad : Hid (∀ er', er' ≠ 0 → rdNext i L = (0, er', []) → up l = ([], 0, er')) := by
              intro er' h0 hr
              rw [hr] at hgo1
              simp only at hgo1
              rw [if_neg h0] at hgo1
              obtain ⟨e1, e2⟩ := Prod.mk.inj hgo1
              obtain ⟨e2, e3⟩ := Prod.mk.inj e2
              have := hup1.out.trans (if_neg (by rw [← e2]; exact h0))
              rwa [← e2] at this
            have hS0 : Hid (RSrc wr w1.heap.size q (l.drop N) L) := hS
            have hho : Hid (wr.ownsRow w1.heap.size 26 1 u9 i (fvals acc)) := ho
            have hbq : w1.heap.size ≤ q := by have := hqv.out; omega
            clear hgo1 hgo ho hlt hvx hS
            by_cases hi0 : i = 0
            · have hiz : ((i : Int) == 0) = true := by simp; omega
              by_cases h64 : 64 ≤ L.length
              · have hr1 : Hid (rdNext i L = (ofB 0 (L.take 64), 0, L.drop 64)) := by
                  show _ = _
                  unfold rdNext; rw [if_pos hi0, if_neg (by omega)]
                replace h64 : Hid (64 ≤ L.length) := h64
                clear hi0
                go_wp2_with fail
                refine (rtake_any _ w1.heap.size q 64 _ L hS0.out hbq (by omega)).mono ?_
                rintro e w4 ⟨hP4, hG4⟩
                obtain ⟨rfl, hS4⟩ := hP4.yes h64.out
                obtain ⟨X, hX, hXl, hxor, hgo2, hB4, ho4⟩ := hnext.out _ _ hr1.out w4 hS4 hG4
                generalize ofB 0 (L.take 64) = x at *
                replace hS4 : Hid (RSrc w4 w1.heap.size q (l.drop N) (L.drop 64)) := hS4
                clear hP4 hG4
                have hle4 := hB4.out.size
                have hh1 : ∀ u ∈ [Value.float .f64 X], u.oneCell' = true := by simp [Value.oneCell']
                have hh2 : i + 1 ≤ maxLen := by unfold maxLen; omega
                have hh3 : (i + 1) * 8 ≤ 140737488355328 := by omega
                clear hnext hbad hho hS0
                go_wp2_with (at_builtin; refine wpList_append_own _ rfl (.tmp 60) (.tmp 63) 24 rfl w1.heap.size 26 i0 (.float .f64 0) 1 8 Tryd.underlying24 hi0' hz0 hz1 hz2' rfl (by decide) _ _ _ rfl (ho4.alloc _) ⟨w4.heap.size, 0, none⟩ 1 1 [.float .f64 X] rfl rfl (cell_one_new _ _ _) hh1 hh2 hh3 (by simp; omega) ?_)
                intro v' w5 ho5 hg5 _
                have hB5 : Hid (Below w1.heap.size w1 w5) := (hB4.out.alloc (by omega) _).grown hg5 (by simp; omega) (fun k hk => (ho4.lt k hk).1)
                have hne9 : u9.ownBlock ≠ some q := by obtain ⟨_, _, _, hqq, _⟩ := hS4.out; exact own_ne ho4 hqq (by decide)
                have hS5 : Hid (RSrc w5 w1.heap.size q (l.drop N) (L.drop 64)) := (hS4.out.below (box_below _ _)).other hg5 (fun h => hne9 h) (fun k hk => (ho4.lt k hk).1)
                have ho6 : Hid (w5.ownsRow w1.heap.size 26 1 v' (i + 1) (fvals (acc ++ [X]))) := by
                  have e1 : fvals (acc ++ [X]) = fvals acc ++ [.float .f64 X] := by simp [fvals]
                  rw [e1]; exact ho5
                clear ho4 ho5 hg5 hS4 hB4 hne9
                go_wp2_with fail
                go_roundw
                case rel => exact ⟨i + 1, X, acc ++ [X], L.drop 64, by omega, by go_num, rfl, hXl, by show _ = _; rw [List.length_append, hacc.out]; rfl, by show _ = _; rw [show n - (i + 1) = k2 by omega]; exact hgo2.out, hS5, hB5, ho6.out⟩
                case measure => simp [intOf]; omega
              · have hr1 : Hid (rdNext i L = (0, 2, [])) := by
                  show _ = _
                  unfold rdNext; rw [if_pos hi0, if_pos (by omega)]
                replace h64 : Hid (¬ 64 ≤ L.length) := h64
                have hup2 : Hid (up l = ([], 0, 2)) := hbad.out 2 (by decide) hr1.out
                clear hi0
                go_wp2_with fail
                refine (rtake_any _ w1.heap.size q 64 _ L hS0.out hbq (by omega)).mono ?_
                rintro e w4 ⟨hP4, hG4⟩
                obtain rfl := hP4.no (by have := h64.out; omega)
                have hB4 : Hid (Below w1.heap.size w1 w4) := hB.out.grown hG4 hB.out.size (fun k hk => by simp at hk; omega)
                clear hP4 hG4
                go_wp2
                go_ret3
                exact ⟨UpP.bad hup2.out, hB4.out⟩
            · have hiz : ((i : Int) == 0) = false := by simp; omega
              have hc := rnext_any wr w1.heap.size q _ L hS0.out hbq
              have hr1 : rdNext i L = rdDiff L := by unfold rdNext; rw [if_neg hi0]
              have herr2 := rdDiff_err L
              have hz2 : (rdDiff L).2.1 ≠ 0 → rdDiff L = (0, (rdDiff L).2.1, []) := rdDiff_bad L
              rw [← hr1] at hc herr2 hz2
              clear hr1 hi0
              generalize rdNext i L = r at *
              obtain ⟨x, er2, L2⟩ := r
              simp only at herr2 hz2
              replace hc : Hid (Calls Tryd.prog 41 #[.pointer (some ⟨q, 0, none⟩)] wr fun e w' => RNextP w1.heap.size q (l.drop N) (x, er2, L2) e w' ∧ wr.grownBy w' (some q)) := hc
              by_cases he2 : er2 = 0
              · subst he2
                go_wp2_with fail
                refine hc.out.mono ?_
                rintro e w4 ⟨⟨rfl, hS4⟩, hG4⟩
                replace hS4 := hS4 rfl
                obtain ⟨X, hX, hXl, hxor, hgo2, hB4, ho4⟩ := hnext.out _ _ rfl w4 hS4 hG4
                replace hS4 : Hid (RSrc w4 w1.heap.size q (l.drop N) L2) := hS4
                clear hG4 herr2 hz2
                have hle4 := hB4.out.size
                have hh1 : ∀ u ∈ [Value.float .f64 X], u.oneCell' = true := by simp [Value.oneCell']
                have hh2 : i + 1 ≤ maxLen := by unfold maxLen; omega
                have hh3 : (i + 1) * 8 ≤ 140737488355328 := by omega
                clear hnext hbad hho hS0
                go_wp2_with (at_builtin; refine wpList_append_own _ rfl (.tmp 60) (.tmp 63) 24 rfl w1.heap.size 26 i0 (.float .f64 0) 1 8 Tryd.underlying24 hi0' hz0 hz1 hz2' rfl (by decide) _ _ _ rfl (ho4.alloc _) ⟨w4.heap.size, 0, none⟩ 1 1 [.float .f64 X] rfl rfl (cell_one_new _ _ _) hh1 hh2 hh3 (by simp; omega) ?_)
                intro v' w5 ho5 hg5 _
                have hB5 : Hid (Below w1.heap.size w1 w5) := (hB4.out.alloc (by omega) _).grown hg5 (by simp; omega) (fun k hk => (ho4.lt k hk).1)
                have hne9 : u9.ownBlock ≠ some q := by obtain ⟨_, _, _, hqq, _⟩ := hS4.out; exact own_ne ho4 hqq (by decide)
                have hS5 : Hid (RSrc w5 w1.heap.size q (l.drop N) (L2)) := (hS4.out.below (box_below _ _)).other hg5 (fun h => hne9 h) (fun k hk => (ho4.lt k hk).1)
                have ho6 : Hid (w5.ownsRow w1.heap.size 26 1 v' (i + 1) (fvals (acc ++ [X]))) := by
                  have e1 : fvals (acc ++ [X]) = fvals acc ++ [.float .f64 X] := by simp [fvals]
                  rw [e1]; exact ho5
                clear ho4 ho5 hg5 hS4 hB4 hne9
                go_wp2_with fail
                go_roundw
                case rel => exact ⟨i + 1, X, acc ++ [X], L2, by omega, by go_num, rfl, hXl, by show _ = _; rw [List.length_append, hacc.out]; rfl, by show _ = _; rw [show n - (i + 1) = k2 by omega]; exact hgo2.out, hS5, hB5, ho6.out⟩
                case measure => simp [intOf]; omega
              · have hup2 : Hid (up l = ([], 0, er2)) := hbad.out er2 he2 (hz2 he2)
                have hez : (er2 != 0) = true := by simpa using he2
                clear he2 hz2 herr2
                go_wp2_with fail
                refine hc.out.mono ?_
                rintro e w4 ⟨⟨rfl, _⟩, hG4⟩
                have hB4 : Hid (Below w1.heap.size w1 w4) := hB.out.grown hG4 hB.out.size (fun k hk => by simp at hk; omega)
                clear hG4
                go_wp2
                go_ret3
                exact ⟨UpP.bad hup2.out, hB4.out⟩
      · have hck' : ((cap : Int) == (k : Int)) = false := by simp; omega
        go_enter Tryd.func18, Tryd.ntmps18
        go_wp2_with fail
        refine (hrd.out _ hx0.out).mono ?_
        rintro e w1 ⟨rfl, rfl⟩
        go_wp2_with fail
        have hS1 : RSrc (w1.alloc (.cells #[.slice (some ⟨b, off + k, none⟩) (N - k) (cap - k), .int .i64 0] 73)) w1.heap.size w1.heap.size (l.drop k) (unb (l.drop k)) := by
          refine RSrc.new (ao := some ⟨b, off + k, none⟩) (cap := cap - k) (by rw [heap_alloc_new]; rw [hdl]) ?_ (by rw [hdl]; omega) (by omega) (by rw [hdl]; omega)
          intro i hi
          have hi2 : k + i < l.length := by rw [hdl] at hi; have := hN.out; omega
          refine ⟨b, off + k, rfl, hbl, ?_⟩
          rw [(box_below w1 _).cell (p := ⟨b, off + k + i, none⟩) hbl, Nat.add_assoc, hcell.out (k + i) hi2]
          simp
        have hB1 : Hid (Below w1.heap.size w1 (w1.alloc (.cells #[.slice (some ⟨b, off + k, none⟩) (N - k) (cap - k), .int .i64 0] 73))) := box_below _ _
        obtain ⟨q, hqv⟩ : ∃ q, Hid (w1.heap.size = q) := ⟨_, rfl⟩
        replace hS1 : Hid (RSrc (w1.alloc (.cells #[.slice (some ⟨b, off + k, none⟩) (N - k) (cap - k), .int .i64 0] 73)) w1.heap.size q (l.drop k) (unb (l.drop k))) := by have := hS1; rw [← hqv.out]; exact this
        have hsz2 : w1.heap.size ≤ (w1.alloc (.cells #[.slice (some ⟨b, off + k, none⟩) (N - k) (cap - k), .int .i64 0] 73)).heap.size := by simp
        rw [hqv.out]
        generalize w1.alloc (.cells #[.slice (some ⟨b, off + k, none⟩) (N - k) (cap - k), .int .i64 0] 73) = w2 at *
        (try simp only [dec1])
        go_loopw [9, 10, 11] (fun vx vn vi wr => ∃ (i was : Nat) (acc L : List Nat), i ≤ n ∧ vi = .int .i64 (i : Int) ∧ vn = .int .u64 (was : Int) ∧ was < 18446744073709551616 ∧ Hid (acc.length = i) ∧ Hid (rdGo (n - i) i was acc L = (xs, er, R)) ∧ Hid (RSrc wr w1.heap.size q (l.drop k) L) ∧ Hid (Below w1.heap.size w1 wr) ∧ wr.ownsRow w1.heap.size 26 1 vx i (fvals acc)) (fun _ _ v _ => n - (intOf v).toNat)
        case atStart => exact ⟨0, 0, [], _, by omega, rfl, rfl, by omega, rfl, hgo, hS1, hB1, World.ownsRow_nil _ _ _ _⟩
        case round =>
          clear hS1 hB1 hgo
          obtain ⟨i, was, acc, L, hi, rfl, rfl, hwas, hacc, hgo, hS, hB, ho⟩ := hrel
          by_cases hin : i = n
          · subst hin
            obtain ⟨ao9, ca9, hv9⟩ := own_slice ho
            subst hv9
            obtain ⟨p, hp⟩ : ∃ p, Hid (L.length % 8 = p) := ⟨_, rfl⟩
            have hp8 : p < 8 := by have := hp.out; omega
            obtain ⟨t, hq0, ht0, ht8⟩ := hS.out.at
            have hpt : (8 - t % 8) % 8 = p := by have := hp.out; omega
            have hT2 : Hid ((xs, er, R) = if ofB 0 (L.take p) = 0 then (acc, 0, L) else ([], 4, [])) := by
              show _ = _
              have := hgo.out
              rw [Nat.sub_self, rdGo, hp.out] at this
              exact this.symm
            have htk : Hid (Calls Tryd.prog 40 #[.pointer (some ⟨q, 0, none⟩), .int .i64 (p : Int)] wr fun e w' => RTakeP w1.heap.size q p (l.drop k) L e w' ∧ wr.grownBy w' (some q)) := rtake_any wr _ q p _ L hS.out (by have := hqv.out; omega) (by omega)
            have t0 : (0 : Int) ≤ (t : Int) := by omega
            have hpi : (8 - (t : Int) % 8) % 8 = (p : Int) := by omega
            replace hpt : Hid ((8 - t % 8) % 8 = p) := hpt
            replace ht8 : Hid (t + L.length = 8 * (l.drop k).length) := ht8
            replace ht0 : Hid (t ≤ 8 * (l.drop k).length) := ht0
            go_wp2_with fail
            refine htk.out.mono ?_
            rintro e w4 ⟨hP4, hG4⟩
            obtain ⟨rfl, hS4⟩ := hP4.yes (by have := hp.out; omega)
            have hne9 : (Value.slice ao9 i ca9).ownBlock ≠ some q := by obtain ⟨_, _, _, hqq, _⟩ := hS.out; exact own_ne ho hqq (by decide)
            have ho4 : Hid (w4.ownsRow w1.heap.size 26 1 (.slice ao9 i ca9) i (fvals acc)) := ho.kept hG4 (Or.inr hne9)
            have hB4 : Hid (Below w1.heap.size w1 w4) := hB.out.grown hG4 hB.out.size (fun k hk => by simp at hk; have := hqv.out; omega)
            obtain ⟨x, hx⟩ : ∃ x, Hid (ofB 0 (L.take p) = x) := ⟨_, rfl⟩
            rw [hx.out] at hT2 ⊢
            clear htk hP4 hG4 ho hne9
            obtain ⟨t4, hc4, _, ht4⟩ := hS4.at
            rw [List.length_drop] at ht4
            have ht44 : Hid (t4 = 8 * ((l.drop k).length - L.length / 8)) := by have := ht8.out; have := hp.out; show _ = _; omega
            by_cases hx0 : x = 0
            · have hT3 : Hid ((xs, er, R) = (acc, 0, L)) := hT2.out.trans (if_pos hx0)
              obtain ⟨e1, e2⟩ := Prod.mk.inj hT3.out
              obtain ⟨e2, e3⟩ := Prod.mk.inj e2
              have hup2 : Hid (up l = (acc, l.length - L.length / 8, 0)) := by rw [← e1, ← e3]; exact hup1.out.trans (if_pos e2)
              subst hx0
              have hd4 : (l.drop k).length - L.length / 8 + k = l.length - L.length / 8 := by have := ht8.out; rw [List.length_drop] at this ⊢; have := hN.out; omega
              obtain ⟨M, hM⟩ : ∃ M, Hid ((l.drop k).length - L.length / 8 = M) := ⟨_, rfl⟩
              rw [hM.out] at ht44 hd4
              have t4i : (t4 : Int) = 8 * (M : Int) := by have := ht44.out; omega
              have m0 : (0 : Int) ≤ (M : Int) := by omega
              have m1 : (M : Int) ≤ 140737488355328 := by have := hM.out; omega
              rw [t4i] at hc4
              have m2 : 8 * (M : Int) / 8 = (M : Int) := by omega
              replace hd4 : Hid (M + k = l.length - L.length / 8) := hd4
              clear t4i hT2 ht4
              go_wp2_with fail
              go_quiet (fail)
              go_wp2
              go_ret3
              refine ⟨⟨.slice ao9 i ca9, ?_, ?_⟩, hB4.out.trans ((Qt.below ⟨nq, rfl⟩ _).mono hB4.out.size)⟩
              · rw [hup2.out, ← hd4.out]
                simp
                omega
              · rw [hup2.out]
                simp only
                rw [hacc.out]
                exact ownsRow_below ho4.out (Qt.below ⟨nq, rfl⟩ _)
            · have hxz : ((x : Int) != 0) = true := by simp; omega
              have hT3 : Hid ((xs, er, R) = ([], 4, [])) := hT2.out.trans (if_neg hx0)
              obtain ⟨e1, e2⟩ := Prod.mk.inj hT3.out
              obtain ⟨e2, e3⟩ := Prod.mk.inj e2
              have hup2 : Hid (up l = ([], 0, 4)) := by have := hup1.out.trans (if_neg (by rw [e2]; decide)); rwa [e2] at this
              clear hx0 hT2 hc4 ht4
              go_wp2
              go_ret3
              exact ⟨UpP.bad hup2.out, hB4.out⟩
          · have i1 : (i : Int) < (n : Int) := by omega
            obtain ⟨k2, hk⟩ : ∃ k2, n - i = k2 + 1 := ⟨n - i - 1, by omega⟩
            have hgo1 := hgo.out
            rw [hk, rdGo_succ] at hgo1
            have hlt := rdNext_lt i L hS.out.isB
            have hvx := own_slice ho
            have hnext : Hid (∀ x L', rdNext i L = (x, 0, L') → ∀ (w4 : World), RSrc w4 w1.heap.size q (l.drop k) L' → wr.grownBy w4 (some q) → ∃ X, Hid (was ^^^ x = X) ∧ X < 18446744073709551616 ∧ bits .xor .u64 (was : Int) (x : Int) = (X : Int) ∧ Hid (rdGo k2 (i + 1) X (acc ++ [X]) L' = (xs, er, R)) ∧ Hid (Below w1.heap.size w1 w4) ∧ w4.ownsRow w1.heap.size 26 1 u9 i (fvals acc)) := by
              intro x L' hr w4 hS4 hG4
              rw [hr] at hgo1 hlt
              simp only [if_true] at hgo1 hlt
              refine ⟨was ^^^ x, rfl, xor_lt hwas hlt, xor_nat was x hwas hlt, hgo1, hB.out.grown hG4 hB.out.size (fun k hk => by simp at hk; have := hqv.out; omega), ho.kept hG4 (Or.inr ?_)⟩
              obtain ⟨_, _, _, hqq, _⟩ := hS.out
              exact own_ne ho hqq (by decide)
            have hbad : Hid (∀ er', er' ≠ 0 → rdNext i L = (0, er', []) → up l = ([], 0, er')) := by
              intro er' h0 hr
              rw [hr] at hgo1
              simp only at hgo1
              rw [if_neg h0] at hgo1
              obtain ⟨e1, e2⟩ := Prod.mk.inj hgo1
              obtain ⟨e2, e3⟩ := Prod.mk.inj e2
              have := hup1.out.trans (if_neg (by rw [← e2]; exact h0))
              rwa [← e2] at this
            have hS0 : Hid (RSrc wr w1.heap.size q (l.drop k) L) := hS
            have hho : Hid (wr.ownsRow w1.heap.size 26 1 u9 i (fvals acc)) := ho
            have hbq : w1.heap.size ≤ q := by have := hqv.out; omega
            clear hgo1 hgo ho hlt hvx hS
            by_cases hi0 : i = 0
            · have hiz : ((i : Int) == 0) = true := by simp; omega
              by_cases h64 : 64 ≤ L.length
              · have hr1 : Hid (rdNext i L = (ofB 0 (L.take 64), 0, L.drop 64)) := by
                  show _ = _
                  unfold rdNext; rw [if_pos hi0, if_neg (by omega)]
                replace h64 : Hid (64 ≤ L.length) := h64
                clear hi0
                go_wp2_with fail
                refine (rtake_any _ w1.heap.size q 64 _ L hS0.out hbq (by omega)).mono ?_
                rintro e w4 ⟨hP4, hG4⟩
                obtain ⟨rfl, hS4⟩ := hP4.yes h64.out
                obtain ⟨X, hX, hXl, hxor, hgo2, hB4, ho4⟩ := hnext.out _ _ hr1.out w4 hS4 hG4
                generalize ofB 0 (L.take 64) = x at *
                replace hS4 : Hid (RSrc w4 w1.heap.size q (l.drop k) (L.drop 64)) := hS4
                clear hP4 hG4
                have hle4 := hB4.out.size
                have hh1 : ∀ u ∈ [Value.float .f64 X], u.oneCell' = true := by simp [Value.oneCell']
                have hh2 : i + 1 ≤ maxLen := by unfold maxLen; omega
                have hh3 : (i + 1) * 8 ≤ 140737488355328 := by omega
                clear hnext hbad hho hS0
                go_wp2_with (at_builtin; refine wpList_append_own _ rfl (.tmp 60) (.tmp 63) 24 rfl w1.heap.size 26 i0 (.float .f64 0) 1 8 Tryd.underlying24 hi0' hz0 hz1 hz2' rfl (by decide) _ _ _ rfl (ho4.alloc _) ⟨w4.heap.size, 0, none⟩ 1 1 [.float .f64 X] rfl rfl (cell_one_new _ _ _) hh1 hh2 hh3 (by simp; omega) ?_)
                intro v' w5 ho5 hg5 _
                have hB5 : Hid (Below w1.heap.size w1 w5) := (hB4.out.alloc (by omega) _).grown hg5 (by simp; omega) (fun k hk => (ho4.lt k hk).1)
                have hne9 : u9.ownBlock ≠ some q := by obtain ⟨_, _, _, hqq, _⟩ := hS4.out; exact own_ne ho4 hqq (by decide)
                have hS5 : Hid (RSrc w5 w1.heap.size q (l.drop k) (L.drop 64)) := (hS4.out.below (box_below _ _)).other hg5 (fun h => hne9 h) (fun k hk => (ho4.lt k hk).1)
                have ho6 : Hid (w5.ownsRow w1.heap.size 26 1 v' (i + 1) (fvals (acc ++ [X]))) := by
                  have e1 : fvals (acc ++ [X]) = fvals acc ++ [.float .f64 X] := by simp [fvals]
                  rw [e1]; exact ho5
                clear ho4 ho5 hg5 hS4 hB4 hne9
                go_wp2_with fail
                go_roundw
                case rel => exact ⟨i + 1, X, acc ++ [X], L.drop 64, by omega, by go_num, rfl, hXl, by show _ = _; rw [List.length_append, hacc.out]; rfl, by show _ = _; rw [show n - (i + 1) = k2 by omega]; exact hgo2.out, hS5, hB5, ho6.out⟩
                case measure => simp [intOf]; omega
              · have hr1 : Hid (rdNext i L = (0, 2, [])) := by
                  show _ = _
                  unfold rdNext; rw [if_pos hi0, if_pos (by omega)]
                replace h64 : Hid (¬ 64 ≤ L.length) := h64
                have hup2 : Hid (up l = ([], 0, 2)) := hbad.out 2 (by decide) hr1.out
                clear hi0
                go_wp2_with fail
                refine (rtake_any _ w1.heap.size q 64 _ L hS0.out hbq (by omega)).mono ?_
                rintro e w4 ⟨hP4, hG4⟩
                obtain rfl := hP4.no (by have := h64.out; omega)
                have hB4 : Hid (Below w1.heap.size w1 w4) := hB.out.grown hG4 hB.out.size (fun k hk => by simp at hk; omega)
                clear hP4 hG4
                go_wp2
                go_ret3
                exact ⟨UpP.bad hup2.out, hB4.out⟩
            · have hiz : ((i : Int) == 0) = false := by simp; omega
              have hc := rnext_any wr w1.heap.size q _ L hS0.out hbq
              have hr1 : rdNext i L = rdDiff L := by unfold rdNext; rw [if_neg hi0]
              have herr2 := rdDiff_err L
              have hz2 : (rdDiff L).2.1 ≠ 0 → rdDiff L = (0, (rdDiff L).2.1, []) := rdDiff_bad L
              rw [← hr1] at hc herr2 hz2
              clear hr1 hi0
              generalize rdNext i L = r at *
              obtain ⟨x, er2, L2⟩ := r
              simp only at herr2 hz2
              replace hc : Hid (Calls Tryd.prog 41 #[.pointer (some ⟨q, 0, none⟩)] wr fun e w' => RNextP w1.heap.size q (l.drop k) (x, er2, L2) e w' ∧ wr.grownBy w' (some q)) := hc
              by_cases he2 : er2 = 0
              · subst he2
                go_wp2_with fail
                refine hc.out.mono ?_
                rintro e w4 ⟨⟨rfl, hS4⟩, hG4⟩
                replace hS4 := hS4 rfl
                obtain ⟨X, hX, hXl, hxor, hgo2, hB4, ho4⟩ := hnext.out _ _ rfl w4 hS4 hG4
                replace hS4 : Hid (RSrc w4 w1.heap.size q (l.drop k) L2) := hS4
                clear hG4 herr2 hz2
                have hle4 := hB4.out.size
                have hh1 : ∀ u ∈ [Value.float .f64 X], u.oneCell' = true := by simp [Value.oneCell']
                have hh2 : i + 1 ≤ maxLen := by unfold maxLen; omega
                have hh3 : (i + 1) * 8 ≤ 140737488355328 := by omega
                clear hnext hbad hho hS0
                go_wp2_with (at_builtin; refine wpList_append_own _ rfl (.tmp 60) (.tmp 63) 24 rfl w1.heap.size 26 i0 (.float .f64 0) 1 8 Tryd.underlying24 hi0' hz0 hz1 hz2' rfl (by decide) _ _ _ rfl (ho4.alloc _) ⟨w4.heap.size, 0, none⟩ 1 1 [.float .f64 X] rfl rfl (cell_one_new _ _ _) hh1 hh2 hh3 (by simp; omega) ?_)
                intro v' w5 ho5 hg5 _
                have hB5 : Hid (Below w1.heap.size w1 w5) := (hB4.out.alloc (by omega) _).grown hg5 (by simp; omega) (fun k hk => (ho4.lt k hk).1)
                have hne9 : u9.ownBlock ≠ some q := by obtain ⟨_, _, _, hqq, _⟩ := hS4.out; exact own_ne ho4 hqq (by decide)
                have hS5 : Hid (RSrc w5 w1.heap.size q (l.drop k) (L2)) := (hS4.out.below (box_below _ _)).other hg5 (fun h => hne9 h) (fun k hk => (ho4.lt k hk).1)
                have ho6 : Hid (w5.ownsRow w1.heap.size 26 1 v' (i + 1) (fvals (acc ++ [X]))) := by
                  have e1 : fvals (acc ++ [X]) = fvals acc ++ [.float .f64 X] := by simp [fvals]
                  rw [e1]; exact ho5
                clear ho4 ho5 hg5 hS4 hB4 hne9
                go_wp2_with fail
                go_roundw
                case rel => exact ⟨i + 1, X, acc ++ [X], L2, by omega, by go_num, rfl, hXl, by show _ = _; rw [List.length_append, hacc.out]; rfl, by show _ = _; rw [show n - (i + 1) = k2 by omega]; exact hgo2.out, hS5, hB5, ho6.out⟩
                case measure => simp [intOf]; omega
              · have hup2 : Hid (up l = ([], 0, er2)) := hbad.out er2 he2 (hz2 he2)
                have hez : (er2 != 0) = true := by simpa using he2
                clear he2 hz2 herr2
                go_wp2_with fail
                refine hc.out.mono ?_
                rintro e w4 ⟨⟨rfl, _⟩, hG4⟩
                have hB4 : Hid (Below w1.heap.size w1 w4) := hB.out.grown hG4 hB.out.size (fun k hk => by simp at hk; omega)
                clear hG4
                go_wp2
                go_ret3
                exact ⟨UpP.bad hup2.out, hB4.out⟩
  · have hup1 : Hid (up l = ([], 0, er)) := by have := hup.out; rwa [if_pos he] at this
    have hez : (er != 0) = true := by simpa using he
    clear h2 h3 h4 he hb1 hb6 hb4 hb5
    go_enter Tryd.func18, Tryd.ntmps18
    go_wp2_with fail
    refine (hrd.out _ hx0.out).mono ?_
    rintro e w1 ⟨rfl, rfl⟩
    go_wp2
    go_ret3
    exact ⟨UpP.bad hup1.out, Below.refl _ _⟩
#print axioms runpack_any
end Go.Proofs.YtojohcckaklmpaaDoor.Sr
