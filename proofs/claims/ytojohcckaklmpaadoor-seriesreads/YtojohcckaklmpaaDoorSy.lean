/-
  What series.Unpack answers.
-/
import Derived.Test.YtojohcckaklmpaaDoorSx
import Derived.Deep.QuietTactic
import Derived.BigQuiet
namespace Go.Proofs.YtojohcckaklmpaaDoor.Sr
open Go.RowKit
open Go.Proofs.YtojohcckaklmpaaDoor.Rl (fvals Bs uvals)
set_option maxRecDepth 100000
set_option linter.unusedVariables false

/-- What Unpack answers of bytes: the numbers, how many bytes, the error's number. -/
def up (l : List UInt8) : List Nat × Nat × Int :=
  if (rv l).2.2 ≠ 0 then ([], 0, (rv l).2.2) else if 4096 < (rv l).1 then ([], 0, 9)
  else if (rdGo (rv l).1 0 0 [] (unb (l.drop (rv l).2.1))).2.1 = 0 then ((rdGo (rv l).1 0 0 [] (unb (l.drop (rv l).2.1))).1, l.length - (rdGo (rv l).1 0 0 [] (unb (l.drop (rv l).2.1))).2.2.length / 8, 0)
  else ([], 0, (rdGo (rv l).1 0 0 [] (unb (l.drop (rv l).2.1))).2.1)
theorem owns_mono {w : World} {base base' e n : Nat} {v : Value} {xs : List Value} (h : w.ownsRow base e 1 v n xs) (hb : base' ≤ base) : w.ownsRow base' e 1 v n xs := by
  obtain ⟨h1, h2⟩ := h
  refine ⟨h1, ?_⟩
  rcases h2 with h2 | ⟨g, cap, cur, hv, hg, r⟩
  · exact Or.inl h2
  · exact Or.inr ⟨g, cap, cur, hv, by omega, r⟩
def UpP (S : Nat) (l : List UInt8) (e : Ending) (w' : World) : Prop :=
  ∃ v', e = .returned (.tuple #[v', .int .i64 ((up l).2.1 : Int), .int .i64 (up l).2.2]) ∧ w'.ownsRow S 26 1 v' (up l).1.length (fvals (up l).1)
theorem UpP.bad {S : Nat} {l : List UInt8} {w' : World} {er : Int} (h : up l = ([], 0, er)) : UpP S l (.returned (.tuple #[.slice none 0 0, .int .i64 0, .int .i64 er])) w' := by
  refine ⟨.slice none 0 0, by rw [h]; rfl, by rw [h]; exact World.ownsRow_nil _ _ _ _⟩
theorem Src.new {w : World} {base q : Nat} {A : List UInt8} {ao : Option Addr} {cap : Nat} (hq : w.heap[q]? = some (.cells #[.slice ao A.length cap, .int .u8 0, .int .i64 0] 68 (0, 0))) (hA : RdB w base ao A) (h1 : A.length ≤ cap) (h2 : cap ≤ maxLen) : Src w base q (unb A) :=
  ⟨A, 0, 0, ⟨ao, cap, hq, hA, h1, h2, by omega, by omega⟩, rfl⟩
theorem Src.ahead {w : World} {base q : Nat} {R : List Nat} (h : Src w base q R) : ∃ ao cap, w.cell? ⟨q, 0, none⟩ = some (.slice ao (R.length / 8) cap) := by
  obtain ⟨A, u, k, ⟨ao, cap, hq, hA, h1, h2, hu, hk⟩, rfl⟩ := h
  refine ⟨ao, cap, ?_⟩
  rw [show (bitsOf u k ++ unb A).length / 8 = A.length by rw [List.length_append, bitsOf_len, unb_len]; omega]
  simp [World.cell?, hq]
set_option maxHeartbeats 4000000 in
theorem unpack_any (w : World) (v : Value) (l : List UInt8) (hx : Sl w v l) :
    Calls Tryd.prog 16 #[v] w fun e w' => UpP w.heap.size l e w' ∧ Below w.heap.size w w' := by
  have hx0 := hx
  obtain ⟨ao, cap, rfl, h2, h3, h4, h5⟩ := hx
  have hrd : Hid (∀ u : World, Sl u (.slice ao l.length cap) l → Calls Tryd.prog 37 #[.slice ao l.length cap] u fun e w' => e = .returned (rvVal (rv l)) ∧ w' = u) := fun u hu => readVarint_any u _ l hu
  have hup : Hid (up l = if (rv l).2.2 ≠ 0 then ([], 0, (rv l).2.2) else if 4096 < (rv l).1 then ([], 0, 9)
    else if (rdGo (rv l).1 0 0 [] (unb (l.drop (rv l).2.1))).2.1 = 0 then ((rdGo (rv l).1 0 0 [] (unb (l.drop (rv l).2.1))).1, l.length - (rdGo (rv l).1 0 0 [] (unb (l.drop (rv l).2.1))).2.2.length / 8, 0)
    else ([], 0, (rdGo (rv l).1 0 0 [] (unb (l.drop (rv l).2.1))).2.1)) := rfl
  obtain ⟨hb1, hb2, hb3, hb4, hb5, hb6⟩ := rv_bounds l
  generalize rv l = r at *
  obtain ⟨n, k, er⟩ := r
  simp only at hb1 hb2 hb3 hb4 hb5 hb6 hup
  unfold rvVal at hrd
  simp only at hrd
  replace hx0 : Hid (Sl w (.slice ao l.length cap) l) := hx0
  replace h5 : Hid (Rd w ao l) := h5
  obtain ⟨N, hN⟩ : ∃ N, Hid (l.length = N) := ⟨_, rfl⟩
  have hNm : N ≤ 9223372036854775807 := by rw [← hN.out]; unfold maxLen at h4; omega
  by_cases he : er = 0
  · subst he
    by_cases hn : 4096 < n
    · have hup1 : Hid (up l = ([], 0, 9)) := by have := hup.out; rwa [if_neg (by simp), if_pos hn] at this
      have hn' : (4096 : Int) < (n : Int) := by omega
      clear h2 h3 h4 hn hb1 hb6
      go_enter Tryd.func16, Tryd.ntmps16
      go_wp2_with fail
      refine (hrd.out _ hx0.out).mono ?_
      rintro e w1 ⟨rfl, rfl⟩
      go_wp2
      go_ret3
      exact ⟨UpP.bad hup1.out, Below.refl _ _⟩
    · have hup1 := hup.out
      rw [if_neg (by simp), if_neg hn] at hup1
      have hk0 : 0 < k := hb6 rfl
      have hnum : Hid (∀ (u : World), Src u w.heap.size w.heap.size (unb (l.drop k)) → w.heap.size < u.heap.size → Calls Tryd.prog 38 #[.pointer (some ⟨w.heap.size, 0, none⟩), .int .i64 (n : Int)] u fun e w' => NumP w.heap.size w.heap.size u.heap.size n (rdGo n 0 0 [] (unb (l.drop k))) e w' ∧ u.grownBy w' (some w.heap.size)) := fun u hu hq => numbers_any u _ _ n _ hu (Nat.le_refl _) hq (by omega)
      have herr := rdGo_err n 0 0 [] (unb (l.drop k))
      have hpk := fun h => pk_rd (n := n) (y := l.drop k) h
      generalize rdGo n 0 0 [] (unb (l.drop k)) = T at *
      obtain ⟨xs, er, R⟩ := T
      simp only at hup1 herr hpk
      replace hup1 : Hid (up l = if er = 0 then (xs, l.length - R.length / 8, 0) else ([], 0, er)) := hup1
      replace hpk : Hid (er = 0 → xs.length = n ∧ B64 xs ∧ R.length / 8 ≤ (l.drop k).length ∧ Pk (putAll 0 0 xs) ((l.drop k).take ((l.drop k).length - R.length / 8))) := hpk
      obtain ⟨b, off, rfl, hcell⟩ := h5.out.at (by omega)
      have hbl : b < w.heap.size := lt_of_cell (hcell 0 (by omega))
      have hdl : (l.drop k).length = N - k := by rw [List.length_drop, hN.out]
      have hcN : N ≤ cap := by rw [← hN.out]; exact h3
      have hkN : k ≤ N := by rw [← hN.out]; exact hb2
      rw [hN.out] at hx0 hrd ⊢
      replace hcell : Hid (∀ i (h : i < l.length), w.cell? ⟨b, off + i, none⟩ = some (.int .u8 (l[i].toNat : Int))) := hcell
      have hn' : ¬ (4096 : Int) < (n : Int) := by omega
      have n1 : (n : Int) ≤ 4096 := by omega
      have hk1 : (k : Int) ≤ (N : Int) := by omega
      have hk2 : (k : Int) ≤ (cap : Int) := by omega
      have hk3 : (0 : Int) ≤ (k : Int) := by omega
      have hcm : cap ≤ maxLen := h4
      clear h2 h3 h4 hn hb1 hb6 hup hb2 hb4 hb5
      by_cases hck : cap = k
      · have hNk : N = k := by omega
        have hd0 : Hid (l.drop k = []) := List.length_eq_zero_iff.1 (by rw [hdl]; omega)
        have hck' : ((cap : Int) == (k : Int)) = true := by simp; omega
        subst hck
        subst hNk
        go_enter Tryd.func16, Tryd.ntmps16
        go_wp2_with fail
        refine (hrd.out _ hx0.out).mono ?_
        rintro e w1 ⟨rfl, rfl⟩
        go_wp2_with fail
        have hS1 : Src (w1.alloc (.cells #[.slice (some ⟨b, off, none⟩) 0 0, .int .u8 0, .int .i64 0] 68)) w1.heap.size w1.heap.size (unb (l.drop N)) := by
          refine Src.new (ao := some ⟨b, off, none⟩) (cap := 0) (by rw [heap_alloc_new]; rw [hd0.out]; rfl) ?_ (by rw [hd0.out]; simp) (by unfold maxLen; omega)
          rw [hd0.out]; exact fun i hi => by simp at hi
        refine (hnum.out _ hS1 (by simp)).mono ?_
        rintro e w3 ⟨hP3, hG3⟩
        have hB3 : Hid (Below w1.heap.size w1 w3) := (Below.mono (box_below w1 (.cells #[.slice (some ⟨b, off, none⟩) 0 0, .int .u8 0, .int .i64 0] 68)) (Nat.le_refl _)).trans (grown_below hG3 (Nat.le_refl _) (by simp))
        clear hS1 hG3
        rcases herr with he0 | ⟨he2, _, _⟩
        · subst he0
          have hup2 : Hid (up l = (xs, l.length - R.length / 8, 0)) := hup1.out.trans (if_pos rfl)
          obtain ⟨hl1, _, hl2, _⟩ := hpk.out rfl
          obtain ⟨v3, rfl, ho3, hS3⟩ := (show ∃ v, e = .returned (.tuple #[v, .int .i64 0]) ∧ w3.ownsRow _ 26 1 v n (fvals xs) ∧ Src w3 w1.heap.size w1.heap.size R by unfold NumP at hP3; rwa [if_pos rfl] at hP3)
          obtain ⟨ao3, cap3, hc3⟩ := hS3.ahead
          have ho4 : Hid (w3.ownsRow w1.heap.size 26 1 v3 n (fvals xs)) := owns_mono ho3 (by simp)
          obtain ⟨ao4, ca4, hv4⟩ := own_slice ho3
          subst hv4
          obtain ⟨M, hM⟩ : ∃ M, Hid (R.length / 8 = M) := ⟨_, rfl⟩
          rw [hM.out] at hc3 hup2 hl2
          have m1 : (M : Int) ≤ (N : Int) := by omega
          have m0 : (0 : Int) ≤ (M : Int) := by omega
          clear hP3 hpk hup1 hS3 ho3 hl2
          go_wp2_with fail
          go_quiet (fail)
          go_wp2
          go_ret3
          refine ⟨⟨.slice ao4 n ca4, ?_, ?_⟩, hB3.out.trans ((Qt.below ⟨nq, rfl⟩ _).mono hB3.out.size)⟩
          · rw [hup2.out, hN.out]
            simp
            omega
          · rw [hup2.out]
            simp only
            rw [hl1]
            exact ownsRow_below ho4.out (Qt.below ⟨nq, rfl⟩ _)
        · have hne : er ≠ 0 := by rcases he2 with h | h <;> (rw [h]; decide)
          have hup2 : Hid (up l = ([], 0, er)) := hup1.out.trans (if_neg hne)
          have hP4 : e = .returned (.tuple #[.slice none 0 0, .int .i64 er]) := by unfold NumP at hP3; rwa [if_neg hne] at hP3
          subst hP4
          have hez : (er != 0) = true := by simpa using hne
          clear hP3 hpk hup1 hne he2
          go_wp2
          go_ret3
          exact ⟨UpP.bad hup2.out, hB3.out⟩
      · have hck' : ((cap : Int) == (k : Int)) = false := by simp; omega
        go_enter Tryd.func16, Tryd.ntmps16
        go_wp2_with fail
        refine (hrd.out _ hx0.out).mono ?_
        rintro e w1 ⟨rfl, rfl⟩
        go_wp2_with fail
        have hS1 : Src (w1.alloc (.cells #[.slice (some ⟨b, off + k, none⟩) (N - k) (cap - k), .int .u8 0, .int .i64 0] 68)) w1.heap.size w1.heap.size (unb (l.drop k)) := by
          refine Src.new (ao := some ⟨b, off + k, none⟩) (cap := cap - k) (by rw [heap_alloc_new]; rw [hdl]) ?_ (by rw [hdl]; omega) (by omega)
          intro i hi
          have hi2 : k + i < l.length := by rw [hdl] at hi; have := hN.out; omega
          refine ⟨b, off + k, rfl, hbl, ?_⟩
          rw [(box_below w1 _).cell (p := ⟨b, off + k + i, none⟩) hbl, Nat.add_assoc, hcell.out (k + i) hi2]
          simp
        refine (hnum.out _ hS1 (by simp)).mono ?_
        rintro e w3 ⟨hP3, hG3⟩
        have hB3 : Hid (Below w1.heap.size w1 w3) := (Below.mono (box_below w1 (.cells #[.slice (some ⟨b, off + k, none⟩) (N - k) (cap - k), .int .u8 0, .int .i64 0] 68)) (Nat.le_refl _)).trans (grown_below hG3 (Nat.le_refl _) (by simp))
        clear hS1 hG3
        rcases herr with he0 | ⟨he2, _, _⟩
        · subst he0
          have hup2 : Hid (up l = (xs, l.length - R.length / 8, 0)) := hup1.out.trans (if_pos rfl)
          obtain ⟨hl1, _, hl2, _⟩ := hpk.out rfl
          obtain ⟨v3, rfl, ho3, hS3⟩ := (show ∃ v, e = .returned (.tuple #[v, .int .i64 0]) ∧ w3.ownsRow _ 26 1 v n (fvals xs) ∧ Src w3 w1.heap.size w1.heap.size R by unfold NumP at hP3; rwa [if_pos rfl] at hP3)
          obtain ⟨ao3, cap3, hc3⟩ := hS3.ahead
          have ho4 : Hid (w3.ownsRow w1.heap.size 26 1 v3 n (fvals xs)) := owns_mono ho3 (by simp)
          obtain ⟨ao4, ca4, hv4⟩ := own_slice ho3
          subst hv4
          obtain ⟨M, hM⟩ : ∃ M, Hid (R.length / 8 = M) := ⟨_, rfl⟩
          rw [hM.out] at hc3 hup2 hl2
          have m1 : (M : Int) ≤ (N : Int) := by omega
          have m0 : (0 : Int) ≤ (M : Int) := by omega
          clear hP3 hpk hup1 hS3 ho3 hl2
          go_wp2_with fail
          go_quiet (fail)
          go_wp2
          go_ret3
          refine ⟨⟨.slice ao4 n ca4, ?_, ?_⟩, hB3.out.trans ((Qt.below ⟨nq, rfl⟩ _).mono hB3.out.size)⟩
          · rw [hup2.out, hN.out]
            simp
            omega
          · rw [hup2.out]
            simp only
            rw [hl1]
            exact ownsRow_below ho4.out (Qt.below ⟨nq, rfl⟩ _)
        · have hne : er ≠ 0 := by rcases he2 with h | h <;> (rw [h]; decide)
          have hup2 : Hid (up l = ([], 0, er)) := hup1.out.trans (if_neg hne)
          have hP4 : e = .returned (.tuple #[.slice none 0 0, .int .i64 er]) := by unfold NumP at hP3; rwa [if_neg hne] at hP3
          subst hP4
          have hez : (er != 0) = true := by simpa using hne
          clear hP3 hpk hup1 hne he2
          go_wp2
          go_ret3
          exact ⟨UpP.bad hup2.out, hB3.out⟩
  · have hup1 : Hid (up l = ([], 0, er)) := by have := hup.out; rwa [if_pos he] at this
    have hez : (er != 0) = true := by simpa using he
    clear h2 h3 h4 he hb1 hb6 hb4 hb5
    go_enter Tryd.func16, Tryd.ntmps16
    go_wp2_with fail
    refine (hrd.out _ hx0.out).mono ?_
    rintro e w1 ⟨rfl, rfl⟩
    go_wp2
    go_ret3
    exact ⟨UpP.bad hup1.out, Below.refl _ _⟩
#print axioms unpack_any
end Go.Proofs.YtojohcckaklmpaaDoor.Sr
