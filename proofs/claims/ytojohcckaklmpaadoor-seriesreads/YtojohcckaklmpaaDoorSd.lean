/-
  The walk of SeriesReads.
-/
import Derived.Test.YtojohcckaklmpaaDoorSb
import Derived.Test.YtojohcckaklmpaaDoorSr3
import Derived.Test.YtojohcckaklmpaaDoorLent
import Derived.Test.YtojohcckaklmpaaDoorRws
namespace Go.Proofs.YtojohcckaklmpaaDoor.Sr
open Go.RowKit
open Go.Proofs.YtojohcckaklmpaaDoor.Rl (fvals Bs uvals)
set_option maxRecDepth 100000
set_option linter.unusedVariables false

theorem slHead {w : World} {ao : Option Addr} {ca : Nat} {l : List UInt8} (n : Nat) (hn : n ≤ l.length) (g2 : ao = none → l = [] ∧ ca = 0) (g3 : l.length ≤ ca) (g4 : ca ≤ maxLen) (g5 : Rd w ao l) : Sl w (.slice ao n ca) (l.take n) := by
  have hl : (l.take n).length = n := by simp; omega
  refine ⟨ao, ca, by rw [hl], fun e => ?_, by omega, g4, fun i hi => ?_⟩
  · obtain ⟨e1, e2⟩ := g2 e
    exact ⟨by rw [e1]; simp, e2⟩
  · obtain ⟨b, off, e1, hc⟩ := g5 i (by omega)
    exact ⟨b, off, e1, by rw [hc]; simp⟩
theorem up_ok {l : List UInt8} (h : (up l).2.2 = 0) : (up l).1.length ≤ 4096 ∧ B64 (up l).1 ∧ (up l).2.1 ≤ l.length ∧ ∃ m, Pk (putAll 0 0 (up l).1) m ∧ enc (up l).1.length ++ m = l.take (up l).2.1 := by
  unfold up at h ⊢
  by_cases h1 : (rv l).2.2 ≠ 0
  · rw [if_pos h1] at h; exact (h1 h).elim
  · rw [if_neg h1] at h ⊢
    by_cases h2 : 4096 < (rv l).1
    · rw [if_pos h2] at h; simp at h
    · rw [if_neg h2] at h ⊢
      obtain ⟨e1, e2⟩ := rv_back (l := l) (by omega)
      have hb := rv_bounds l
      by_cases h3 : (rdGo (rv l).1 0 0 [] (unb (l.drop (rv l).2.1))).2.1 = 0
      · rw [if_pos h3] at h ⊢
        obtain ⟨p1, p2, p3, p4⟩ := pk_rd h3
        generalize rdGo (rv l).1 0 0 [] (unb (l.drop (rv l).2.1)) = T at *
        simp only
        have hd : (l.drop (rv l).2.1).length = l.length - (rv l).2.1 := List.length_drop
        refine ⟨by omega, p2, by omega, _, p4, ?_⟩
        rw [p1, e1, hd]
        rw [hd] at p3
        rw [← List.take_add]
        congr 1
        omega
      · rw [if_neg h3] at h; exact (h3 h).elim
theorem up_bad {l : List UInt8} (h : (up l).2.2 ≠ 0) : (up l).1 = [] ∧ (up l).2.1 = 0 := by
  unfold up at h ⊢
  (repeat' split) <;> first | exact ⟨rfl, rfl⟩ | (simp_all)
theorem keep_row {w w' : World} {g base e n : Nat} {v : Value} {xs : List Value} (h : w.ownsRow base e 1 v n xs) (hg : w.grownBy w' (some g)) (hlt : g < base) : w'.ownsRow base e 1 v n xs := by
  refine h.kept hg ?_
  cases hv : v.ownBlock with
  | none => exact Or.inl rfl
  | some k => exact Or.inr (fun e => by have := (h.lt k hv).1; simp at e; omega)
set_option maxHeartbeats 8000000 in
theorem reads_walk (W : World) (x : Value) (vs : List Value) (ls : List (List UInt8)) (hT : Tab W) (hx : Row W x vs) (hs : Sls W vs ls) (hl : ∀ l ∈ ls, l.length ≤ 140737488351232) :
    Calls Tryd.prog 5 #[x] W fun e w' => e = .returned (.bool true) ∧ Below W.heap.size W w' := by
  obtain ⟨a1, c1, rfl, _, m1, m2, g1⟩ := hx
  obtain ⟨n, hn⟩ : ∃ n, Hid (vs.length = n) := ⟨_, rfl⟩
  have hv : n ≤ 9223372036854775807 := by rw [← hn.out]; unfold maxLen at m2; omega
  rw [hn.out]
  replace g1 : Hid (At W a1 vs) := g1
  replace hl : Hid (∀ l ∈ ls, l.length ≤ 140737488351232) := hl
  replace hs : Hid (Sls W vs ls) := hs
  replace hT : Hid (Tab W) := hT
  clear m1 m2
  go_enter Tryd.func5, Tryd.ntmps5
  go_wp2_with fail
  refine (begun_any _ hT.out).mono ?_
  rintro e w1 ⟨rfl, hb1⟩
  replace hb1 : Hid (Below W.heap.size W w1) := hb1
  go_wp2_with fail
  go_loopw [3] (fun i wr => ∃ (k : Nat), k ≤ n ∧ i = .int .i64 k ∧ Hid (Below W.heap.size W wr)) (fun i _ => n - (intOf i).toNat)
  case atStart => exact ⟨0, Nat.zero_le _, rfl, hb1⟩
  case round =>
    clear hb1
    obtain ⟨k, hk, rfl, hB⟩ := hrel
    by_cases hkn : k = n
    · subst hkn
      go_wp2
      go_ret
      exact ⟨rfl, hB.out⟩
    · have i1 : (k : Int) < (n : Int) := by omega
      have i0 : (0 : Int) ≤ (k : Int) := by omega
      by_cases hk40 : (k : Int) < 40
      · have hkv : k < vs.length := by rw [hn.out]; omega
        have hkl : k < ls.length := by have := hs.out.1; omega
        have hSk := hs.out.2 k hkv hkl
        have hLk := hl.out ls[k] (List.getElem_mem hkl)
        obtain ⟨x1, o1, rfl, d1⟩ := g1.out k hkv
        have l1 := lt_of_cell d1
        generalize vs[k] = vv at *
        generalize ls[k] = ll at *
        replace hSk : Hid (Sl W vv ll) := hSk
        have e1 := (hB.out.cell l1).trans d1
        obtain ⟨va, vc, hvv, q2, q3, q4, q5⟩ := hSk.out
        obtain ⟨N, hN⟩ : ∃ N, Hid (ll.length = N) := ⟨_, rfl⟩
        rw [hN.out] at hvv hLk q3
        subst hvv
        replace q2 : Hid (va = none → ll = [] ∧ vc = 0) := q2
        replace q5 : Hid (Rd W va ll) := q5
        have hS1 : Hid (Sl wr (.slice va N vc) ll) := Below.sl hB.out hSk.out
        have hlent : Hid (Calls Tryd.prog 17 #[.slice va N vc] wr fun e w' => ∃ g v', e = .returned v' ∧ LentAt w' g v' ll ∧ Below wr.heap.size wr w' ∧ wr.heap.size ≤ g) := lent_any wr _ ll hS1.out (by rw [hN.out]; omega)
        go_wp2_with fail
        refine hlent.out.mono ?_
        rintro e w2 ⟨g, v2, rfl, t2, b2, hg2⟩
        have hgl := t2.lt
        replace t2 : Hid (LentAt w2 g v2 ll) := t2
        have hB2 : Hid (Below W.heap.size W w2) := hB.out.trans (b2.mono hB.out.size)
        have hg0 : W.heap.size ≤ g := by have := hB.out.size; omega
        clear hlent b2 hg2 hS1 e1
        have hup2 : Hid (Calls Tryd.prog 16 #[v2] w2 fun e w' => UpP w2.heap.size ll e w' ∧ Below w2.heap.size w2 w') := unpack_any w2 v2 ll t2.out.sl
        go_wp2_with fail
        refine hup2.out.mono ?_
        rintro e w3 ⟨⟨v3, rfl, ho3⟩, b3⟩
        obtain ⟨K, hK⟩ : ∃ K, Hid ((up ll).2.1 = K) := ⟨_, rfl⟩
        obtain ⟨er, her⟩ : ∃ er, Hid ((up ll).2.2 = er) := ⟨_, rfl⟩
        obtain ⟨us, hus⟩ : ∃ us, Hid ((up ll).1 = us) := ⟨_, rfl⟩
        obtain ⟨M, hM⟩ : ∃ M, Hid (us.length = M) := ⟨_, rfl⟩
        rw [hK.out, her.out]
        rw [hus.out, hM.out] at ho3
        obtain ⟨ao3, ca3, rfl⟩ := own_slice ho3
        have hB3 : Hid (Below W.heap.size W w3) := hB2.out.trans (b3.mono hB2.out.size)
        have t3 : Hid (LentAt w3 g v2 ll) := t2.out.below b3
        have hs23 := b3.size
        replace ho3 : Hid (w3.ownsRow w2.heap.size 26 1 (.slice ao3 M ca3) M (fvals us)) := ho3
        have e3 := (hB3.out.cell l1).trans d1
        clear hup2 b3 t2 hB2
        have hup3 : Hid (Calls Tryd.prog 18 #[.slice va N vc] w3 fun e w' => UpP w3.heap.size ll e w' ∧ Below w3.heap.size w3 w') := runpack_any w3 _ ll (Below.sl hB3.out hSk.out) (by rw [hN.out]; omega)
        go_wp2_with fail
        refine hup3.out.mono ?_
        rintro e w4 ⟨⟨v4, rfl, ho4⟩, b4⟩
        rw [hK.out, her.out]
        rw [hus.out, hM.out] at ho4
        obtain ⟨ao4, ca4, rfl⟩ := own_slice ho4
        have hB4 : Hid (Below W.heap.size W w4) := hB3.out.trans (b4.mono hB3.out.size)
        have t4 : Hid (LentAt w4 g v2 ll) := t3.out.below b4
        replace ho4 : Hid (w4.ownsRow w3.heap.size 26 1 (.slice ao4 M ca4) M (fvals us)) := ho4
        have ho34 : Hid (w4.ownsRow w2.heap.size 26 1 (.slice ao3 M ca3) M (fvals us)) := owns_same ho3.out b4
        clear hup3 b4 t3 hB3 ho3 e3
        have heq1 : Hid (Calls Tryd.prog 15 #[.slice ao3 M ca3, .slice ao4 M ca4] w4 fun e w' => e = .returned (.bool (decide (us = us))) ∧ Qt w4 w') := feq_any w4 _ _ us us (Rl.Row.of_owns ho34.out) (Rl.Row.of_owns ho4.out)
        rw [decide_eq_true rfl] at heq1
        go_wp2_with fail
        refine heq1.out.mono ?_
        rintro e w5 ⟨rfl, hq5⟩
        have hB5 : Hid (Below W.heap.size W w5) := hB4.out.trans (Qt.below hq5 _)
        have t5 : Hid (LentAt w5 g v2 ll) := t4.out.below (Qt.below hq5 _)
        have ho35 : Hid (w5.ownsRow w2.heap.size 26 1 (.slice ao3 M ca3) M (fvals us)) := owns_same ho34.out (Qt.below hq5 _)
        have ho45 : Hid (w5.ownsRow w3.heap.size 26 1 (.slice ao4 M ca4) M (fvals us)) := owns_same ho4.out (Qt.below hq5 _)
        have e5 := (hB5.out.cell l1).trans d1
        clear heq1 hq5 hB4 t4 ho34 ho4
        have hback : Hid (Calls Tryd.prog 19 #[v2, .slice va N vc] w5 fun e w' => e = .returned (.bool true) ∧ w5.grownBy w' (some g)) := back_any W w5 g v2 _ ll hB5.out hSk.out t5.out hg0 (by rw [hN.out]; omega)
        go_wp2_with fail
        refine hback.out.mono ?_
        rintro e w6 ⟨rfl, hG6⟩
        have hB6 : Hid (Below W.heap.size W w6) := hB5.out.grown hG6 hB5.out.size (fun k hk => by simp at hk; omega)
        have ho36 : Hid (w6.ownsRow w2.heap.size 26 1 (.slice ao3 M ca3) M (fvals us)) := keep_row ho35.out hG6 hgl
        have ho46 : Hid (w6.ownsRow w3.heap.size 26 1 (.slice ao4 M ca4) M (fvals us)) := keep_row ho45.out hG6 (by omega)
        clear hback hG6 hB5 t5 ho35 ho45 e5
        have heq2 : Hid (Calls Tryd.prog 15 #[.slice ao3 M ca3, .slice ao4 M ca4] w6 fun e w' => e = .returned (.bool (decide (us = us))) ∧ Qt w6 w') := feq_any w6 _ _ us us (Rl.Row.of_owns ho36.out) (Rl.Row.of_owns ho46.out)
        rw [decide_eq_true rfl] at heq2
        go_wp2_with fail
        refine heq2.out.mono ?_
        rintro e w7 ⟨rfl, hq7⟩
        have hB7 : Hid (Below W.heap.size W w7) := hB6.out.trans (Qt.below hq7 _)
        have ho37 : Hid (w7.ownsRow w2.heap.size 26 1 (.slice ao3 M ca3) M (fvals us)) := owns_same ho36.out (Qt.below hq7 _)
        clear heq2 hq7 hB6 ho36 ho46
        by_cases her0 : er = 0
        · subst her0
          obtain ⟨u1, u2, u3, m, hm1, hm2⟩ := up_ok her.out
          rw [hus.out] at u1 u2 hm1 hm2
          rw [hK.out] at u3 hm2
          rw [hM.out] at u1 hm2
          rw [hN.out] at u3
          replace u2 : Hid (B64 us) := u2
          replace hm1 : Hid (Pk (putAll 0 0 us) m) := hm1
          replace hm2 : Hid (enc M ++ m = ll.take K) := hm2
          have hT7 : Hid (Tab w7) := hT.out.below hB7.out
          have hpk : Hid (Calls Tryd.prog 9 #[.slice ao3 M ca3] w7 fun e w' => ∃ v' m', e = .returned (.tuple #[v', .int .i64 0]) ∧ Pk (putAll 0 0 us) m' ∧ w'.ownsRow w7.heap.size 5 1 v' (enc us.length ++ m').length (bvals (enc us.length ++ m')) ∧ Below w7.heap.size w7 w') := pack_any w7 _ us (Rl.Row.of_owns ho37.out) u2.out hT7.out (by rw [hM.out]; exact u1)
          go_wp2_with fail
          refine hpk.out.mono ?_
          rintro e w8 ⟨v8, m', rfl, hm3, ho8, b8⟩
          obtain rfl := hm3.inj hm1.out
          rw [hM.out, hm2.out] at ho8
          have hB8 : Hid (Below W.heap.size W w8) := hB7.out.trans (b8.mono hB7.out.size)
          have hs8 : Hid (Sl w8 v8 (ll.take K)) := Sl.of_owns ho8
          have hs9 : Hid (Sl w8 (.slice va K vc) (ll.take K)) := slHead K (by rw [hN.out]; exact u3) q2.out (by rw [hN.out]; exact q3) q4 (Below.rd (Below.mono hB8.out (Nat.le_refl _)) q5.out)
          have e8 := (hB8.out.cell l1).trans d1
          have k0 : (0 : Int) ≤ (K : Int) := by omega
          have k1 : (K : Int) ≤ (N : Int) := by omega
          have k2 : (K : Int) ≤ (vc : Int) := by omega
          clear hpk hm3 ho8 b8 hT7 ho37 hB7
          have heq3 : Hid (Calls Tryd.prog 14 #[v8, .slice va K vc] w8 fun e w' => e = .returned (.bool (decide (ll.take K = ll.take K))) ∧ Qt w8 w') := eq_sl w8 _ _ _ _ hs8.out hs9.out
          rw [decide_eq_true rfl] at heq3
          go_wp2_with fail
          refine heq3.out.mono ?_
          rintro e w9 ⟨rfl, hq9⟩
          have hB9 : Hid (Below W.heap.size W w9) := hB8.out.trans (Qt.below hq9 _)
          clear heq3 hq9 hB8 hs8 hs9 e8
          go_wp2_with fail
          go_roundw
          case rel => exact ⟨k + 1, by omega, by go_num, hB9⟩
          case measure => simp [intOf]; omega
        · have hez : (er == 0) = false := by simpa using her0
          clear her0
          go_wp2_with fail
          go_roundw
          case rel => exact ⟨k + 1, by omega, by go_num, hB7⟩
          case measure => simp [intOf]; omega
      · go_wp2
        go_ret
        exact ⟨rfl, hB.out⟩
#print axioms reads_walk
end Go.Proofs.YtojohcckaklmpaaDoor.Sr
