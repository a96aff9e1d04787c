/-
  The walk of SeriesBack.
-/
import Derived.Test.YtojohcckaklmpaaDoorSz
import Derived.Test.YtojohcckaklmpaaDoorSbig
namespace Go.Proofs.YtojohcckaklmpaaDoor.Sr
open Go.RowKit
open Go.Proofs.YtojohcckaklmpaaDoor.Rl (fvals Bs uvals)
set_option maxRecDepth 100000
set_option linter.unusedVariables false

theorem up_pk {us : List Nat} {m y : List UInt8} (hb : B64 us) (hn : us.length ≤ 4096) (h : Pk (putAll 0 0 us) m) : up (enc us.length ++ m ++ y) = (us, (enc us.length ++ m).length, 0) := by
  obtain ⟨r, h1, h2⟩ := rd_pk hb h y
  unfold up
  rw [List.append_assoc, rv_enc us.length (m ++ y) (by omega), if_neg (by simp)]
  simp only
  rw [if_neg (by omega), List.drop_left' rfl, h1]
  simp only [if_true]
  rw [h2]
  congr 2
  simp only [List.length_append]
  omega
theorem up_pk0 {us : List Nat} {m : List UInt8} (hb : B64 us) (hn : us.length ≤ 4096) (h : Pk (putAll 0 0 us) m) : up (enc us.length ++ m) = (us, (enc us.length ++ m).length, 0) := by
  have := up_pk (y := []) hb hn h
  rwa [List.append_nil] at this
theorem own_apart {w w' : World} {b1 b2 e1 e2 n1 n2 : Nat} {v1 v2 : Value} {x1 x2 : List Value} (h1 : w.ownsRow b1 e1 1 v1 n1 x1) (h2 : w'.ownsRow b2 e2 1 v2 n2 x2) (hs : w.heap.size ≤ b2) : (v2.ownBlock = none ∨ v2.ownBlock ≠ v1.ownBlock) ∧ (v1.ownBlock = none ∨ v1.ownBlock ≠ v2.ownBlock) := by
  have key : ∀ k, v1.ownBlock = some k → v2.ownBlock = some k → False := by
    intro k e1 e2
    have a1 := (h1.lt k e1).2
    have a2 := (h2.lt k e2).1
    omega
  constructor
  · cases e : v2.ownBlock with
    | none => exact Or.inl rfl
    | some k => exact Or.inr (fun e' => key k e'.symm e)
  · cases e : v1.ownBlock with
    | none => exact Or.inl rfl
    | some k => exact Or.inr (fun e' => key k e e'.symm)
theorem owns_same {w w' : World} {b e n : Nat} {v : Value} {xs : List Value} (h : w.ownsRow b e 1 v n xs) (hb : Below w.heap.size w w') : w'.ownsRow b e 1 v n xs := ownsRow_below h hb
set_option maxHeartbeats 8000000 in
theorem back_walk (W : World) (v vy : Value) (l : List Int) (y : List UInt8) (hL : Tab W) (hrow : Row W v (l.map (Value.int .u64))) (hwf : ∀ n ∈ l, (Lit.int .u64 n).wf = true) (hy : Sl W vy y) (hsz : l.length * 8 ≤ 140737488355328) (hsy : y.length ≤ 140737488355328) :
    Calls Tryd.prog 4 #[v, vy] W fun e w' => e = .returned (.bool true) ∧ Below W.heap.size W w' := by
  have kst : ∀ (w : World) (a : Addr) (x : Nat) (m : Mode), (store a (.float .f64 x) m).run Tryd.prog w = stored Tryd.prog w a (.float .f64 x) m := fun w a x m => run_store Tryd.prog w a _ m rfl
  obtain ⟨us, hbs, hu, hlen⟩ := Rl.nats_of l hwf
  rw [hu] at hrow
  rw [← hlen] at hsz
  clear hu hlen hwf
  replace hbs : Hid (Bs us) := hbs
  replace hL : Hid (Tab W) := hL
  replace hrow : Hid (Row W v (uvals us)) := hrow
  replace hy : Hid (Sl W vy y) := hy
  obtain ⟨n, hn⟩ : ∃ n, Hid (us.length = n) := ⟨_, rfl⟩
  go_enter Tryd.func4, Tryd.ntmps4
  go_wp2_with fail
  refine (begun_any _ hL.out).mono ?_
  rintro e w1 ⟨rfl, hb1⟩
  replace hb1 : Hid (Below W.heap.size W w1) := hb1
  have hof : Hid (Calls Tryd.prog 8 #[v] w1 fun e w' => ∃ v', e = .returned v' ∧ w'.ownsRow w1.heap.size 26 1 v' us.length (fvals us) ∧ Below w1.heap.size w1 w') := Rl.of_any w1 v us (Below.row hb1.out hrow.out) (by omega)
  go_wp2_with fail
  refine hof.out.mono ?_
  rintro e w2 ⟨v2, rfl, ho2, hb2⟩
  rw [hn.out] at ho2 hsz
  have hb02 : Hid (Below W.heap.size W w2) := hb1.out.trans (hb2.mono hb1.out.size)
  have hT2 : Hid (Tab w2) := hL.out.below hb02.out
  have hr2 : Hid (Row w2 v2 (fvals us)) := Rl.Row.of_owns ho2
  obtain ⟨ao2, ca2, rfl⟩ := own_slice ho2
  replace ho2 : Hid (w2.ownsRow w1.heap.size 26 1 (.slice ao2 n ca2) n (fvals us)) := ho2
  clear hof hb2
  by_cases hbig : 4096 < n
  · have hpk : Hid (Calls Tryd.prog 9 #[.slice ao2 n ca2] w2 fun e w' => e = .returned (.tuple #[.slice none 0 0, .int .i64 9]) ∧ w' = w2) := pack_many w2 _ us hr2.out (by rw [hn.out]; exact hbig)
    have g1 : (4096 : Int) < (n : Int) := by omega
    go_wp2_with fail
    refine hpk.out.mono ?_
    rintro e w3 ⟨rfl, rfl⟩
    go_wp2
    go_ret
    exact ⟨rfl, hb02.out⟩
  · have hpk : Hid (Calls Tryd.prog 9 #[.slice ao2 n ca2] w2 fun e w' => ∃ v' m, e = .returned (.tuple #[v', .int .i64 0]) ∧ Pk (putAll 0 0 us) m ∧ w'.ownsRow w2.heap.size 5 1 v' (enc us.length ++ m).length (bvals (enc us.length ++ m)) ∧ Below w2.heap.size w2 w') := pack_any w2 _ us hr2.out hbs.out hT2.out (by rw [hn.out]; omega)
    have g1 : ¬ (4096 : Int) < (n : Int) := by omega
    have dec1 : decide ((4096 : Int) < (n : Int)) = false := by simp; omega
    go_wp2_with fail
    refine hpk.out.mono ?_
    rintro e w3 ⟨v3, m, rfl, hm, ho3, hb3⟩
    have hup1 : Hid (up (enc us.length ++ m ++ y) = (us, (enc us.length ++ m).length, 0)) := up_pk hbs.out (by rw [hn.out]; omega) hm
    have hup2 : Hid (up (enc us.length ++ m) = (us, (enc us.length ++ m).length, 0)) := up_pk0 hbs.out (by rw [hn.out]; omega) hm
    have hml := hm.len
    have hpl := putAll_len us 0 0 hbs.out (by omega)
    have hel := enc_len us.length
    have hbl : (enc us.length ++ m).length ≤ 50000 := by rw [List.length_append]; have := hn.out; omega
    generalize enc us.length ++ m = B at *
    clear hml hpl hel hm hpk
    obtain ⟨N, hN⟩ : ∃ N, Hid (B.length = N) := ⟨_, rfl⟩
    have hs3 : Hid (Sl w3 v3 B) := Sl.of_owns ho3
    rw [hN.out] at ho3 hbl hup1 hup2
    obtain ⟨ao3, ca3, rfl⟩ := own_slice ho3
    have hb03 : Hid (Below W.heap.size W w3) := hb02.out.trans (hb3.mono hb02.out.size)
    have ho2' : Hid (w3.ownsRow w1.heap.size 26 1 (.slice ao2 n ca2) n (fvals us)) := owns_same ho2.out hb3
    clear ho2 hr2 hT2 ho3 hb3 hb02
    have hapx : w3.ownsRow w3.heap.size 5 1 (.slice none 0 0) ([] : List UInt8).length (bvals []) := World.ownsRow_nil _ _ _ _
    go_wp2_with (at_builtin; refine wpList_append_bytes rfl (.const (.slice none 0 0)) (.tmp 35) 27 rfl w3.heap.size 5 Tryd.infoU8 Tryd.underlying27 _ _ [] B rfl hapx rfl hs3.out (by simp; have := hN.out; omega) (Nat.le_refl _) ?_)
    intro v4 w4 ho4 hb4
    have hb04 : Hid (Below W.heap.size W w4) := hb03.out.trans (hb4.mono hb03.out.size)
    have hy4 : Hid (Sl w4 vy y) := Below.sl hb04.out hy.out
    have hle4 := hb4.size
    replace hb4 : Hid (Below w3.heap.size w3 w4) := hb4
    clear hapx
    go_wp2_with (at_builtin; refine wpList_append_big rfl (.tmp 36) (.tmp 37) 27 rfl w3.heap.size 5 Tryd.infoU8 Tryd.underlying27 _ _ B y rfl ho4 rfl hy4.out (by have := hN.out; omega) hle4 ?_)
    intro v5 w5 ho5 hb5
    have hs5 : Hid (Sl w5 v5 (B ++ y)) := Sl.of_owns2 ho5 (by simp)
    have hb35 : Below w3.heap.size w3 w5 := hb4.out.trans hb5
    have hb05 : Hid (Below W.heap.size W w5) := hb03.out.trans (hb35.mono hb03.out.size)
    have hsb5 : Hid (Sl w5 (.slice ao3 N ca3) B) := Below.sl hb35 hs3.out
    have ho25 : Hid (w5.ownsRow w1.heap.size 26 1 (.slice ao2 n ca2) n (fvals us)) := owns_same ho2'.out hb35
    clear ho4 ho5 hb4 hb5 hb35 hy4 hb04 hb03 hs3 ho2' hle4
    have hup5 : Hid (Calls Tryd.prog 16 #[v5] w5 fun e w' => UpP w5.heap.size (B ++ y) e w' ∧ Below w5.heap.size w5 w') := unpack_any w5 v5 _ hs5.out
    go_wp2_with fail
    refine hup5.out.mono ?_
    rintro e w6 ⟨⟨v6, rfl, ho6⟩, hb6⟩
    rw [hup1.out] at ho6 ⊢
    simp only at ho6 ⊢
    rw [hn.out] at ho6
    obtain ⟨ao6, ca6, rfl⟩ := own_slice ho6
    replace ho6 : Hid (w6.ownsRow w5.heap.size 26 1 (.slice ao6 n ca6) n (fvals us)) := ho6
    have hb06 : Hid (Below W.heap.size W w6) := hb05.out.trans (hb6.mono hb05.out.size)
    have hsb6 : Hid (Sl w6 (.slice ao3 N ca3) B) := Below.sl hb6 hsb5.out
    have ho26 : Hid (w6.ownsRow w1.heap.size 26 1 (.slice ao2 n ca2) n (fvals us)) := owns_same ho25.out hb6
    have hap26 : Hid (((Value.slice ao6 n ca6).ownBlock = none ∨ (Value.slice ao6 n ca6).ownBlock ≠ (Value.slice ao2 n ca2).ownBlock) ∧ ((Value.slice ao2 n ca2).ownBlock = none ∨ (Value.slice ao2 n ca2).ownBlock ≠ (Value.slice ao6 n ca6).ownBlock)) := own_apart ho25.out ho6.out (Nat.le_refl _)
    have hW5 := hb05.out.size
    clear hup5 hs5 hb6 hsb5 ho25 hb05 hup1
    have hup6 : Hid (Calls Tryd.prog 16 #[.slice ao3 N ca3] w6 fun e w' => UpP w6.heap.size B e w' ∧ Below w6.heap.size w6 w') := unpack_any w6 _ _ hsb6.out
    go_wp2_with fail
    refine hup6.out.mono ?_
    rintro e w7 ⟨⟨v7, rfl, ho7⟩, hb7⟩
    rw [hup2.out] at ho7 ⊢
    simp only at ho7 ⊢
    rw [hn.out] at ho7
    obtain ⟨ao7, ca7, rfl⟩ := own_slice ho7
    replace ho7 : Hid (w7.ownsRow w6.heap.size 26 1 (.slice ao7 n ca7) n (fvals us)) := ho7
    have hb07 : Hid (Below W.heap.size W w7) := hb06.out.trans (hb7.mono hb06.out.size)
    have ho27 : Hid (w7.ownsRow w1.heap.size 26 1 (.slice ao2 n ca2) n (fvals us)) := owns_same ho26.out hb7
    have ho67 : Hid (w7.ownsRow w5.heap.size 26 1 (.slice ao6 n ca6) n (fvals us)) := owns_same ho6.out hb7
    have hap67 : Hid (((Value.slice ao7 n ca7).ownBlock = none ∨ (Value.slice ao7 n ca7).ownBlock ≠ (Value.slice ao6 n ca6).ownBlock) ∧ ((Value.slice ao6 n ca6).ownBlock = none ∨ (Value.slice ao6 n ca6).ownBlock ≠ (Value.slice ao7 n ca7).ownBlock)) := own_apart ho6.out ho7.out (Nat.le_refl _)
    clear hup6 hb7 hsb6 ho26 hb06 hup2 ho6
    have heq1 : Hid (Calls Tryd.prog 15 #[.slice ao6 n ca6, .slice ao2 n ca2] w7 fun e w' => e = .returned (.bool (decide (us = us))) ∧ Qt w7 w') := feq_any w7 _ _ us us (Rl.Row.of_owns ho67.out) (Rl.Row.of_owns ho27.out)
    rw [decide_eq_true rfl] at heq1
    go_wp2_with fail
    refine heq1.out.mono ?_
    rintro e w8 ⟨rfl, hq8⟩
    have ho78 : Hid (w8.ownsRow w6.heap.size 26 1 (.slice ao7 n ca7) n (fvals us)) := owns_same ho7.out (Qt.below hq8 _)
    have ho28 : Hid (w8.ownsRow w1.heap.size 26 1 (.slice ao2 n ca2) n (fvals us)) := owns_same ho27.out (Qt.below hq8 _)
    have ho68 : Hid (w8.ownsRow w5.heap.size 26 1 (.slice ao6 n ca6) n (fvals us)) := owns_same ho67.out (Qt.below hq8 _)
    have hb08 : Hid (Below W.heap.size W w8) := hb07.out.trans (Qt.below hq8 _)
    clear heq1 ho7 ho27 ho67 hb07 hq8
    have heq2 : Hid (Calls Tryd.prog 15 #[.slice ao7 n ca7, .slice ao2 n ca2] w8 fun e w' => e = .returned (.bool (decide (us = us))) ∧ Qt w8 w') := feq_any w8 _ _ us us (Rl.Row.of_owns ho78.out) (Rl.Row.of_owns ho28.out)
    rw [decide_eq_true rfl] at heq2
    go_wp2_with fail
    refine heq2.out.mono ?_
    rintro e w9 ⟨rfl, hq9⟩
    have ho79 : Hid (w9.ownsRow w6.heap.size 26 1 (.slice ao7 n ca7) n (fvals us)) := owns_same ho78.out (Qt.below hq9 _)
    have ho29 : Hid (w9.ownsRow w1.heap.size 26 1 (.slice ao2 n ca2) n (fvals us)) := owns_same ho28.out (Qt.below hq9 _)
    have ho69 : Hid (w9.ownsRow w5.heap.size 26 1 (.slice ao6 n ca6) n (fvals us)) := owns_same ho68.out (Qt.below hq9 _)
    have hb09 : Hid (Below W.heap.size W w9) := hb08.out.trans (Qt.below hq9 _)
    clear heq2 ho78 ho28 ho68 hb08 hq9
    go_wp2_with fail
    go_loopw [14] (fun vi wr => ∃ (i : Nat) (L : List Value), i ≤ n ∧ vi = .int .i64 (i : Int) ∧ Hid (wr.ownsRow w5.heap.size 26 1 (.slice ao6 n ca6) n L) ∧ Hid (w9.grownBy wr (Value.slice ao6 n ca6).ownBlock)) (fun v _ => n - (intOf v).toNat)
    case atStart => exact ⟨0, fvals us, by omega, rfl, ho69, ⟨rfl, rfl, rfl, Nat.le_refl _, fun _ _ _ => rfl⟩⟩
    case round =>
      obtain ⟨i, L, hi, rfl, hoL, hgL⟩ := hrel
      by_cases hin : i = n
      · subst hin
        have ho7r : Hid (wr.ownsRow w6.heap.size 26 1 (.slice ao7 i ca7) i (fvals us)) := ho79.out.kept hgL.out hap67.out.1
        have ho2r : Hid (wr.ownsRow w1.heap.size 26 1 (.slice ao2 i ca2) i (fvals us)) := ho29.out.kept hgL.out hap26.out.2
        have hb0r : Hid (Below W.heap.size W wr) := hb09.out.grown hgL.out hb09.out.size (fun k hk => by have := (ho69.out.lt k hk).1; omega)
        have heq3 : Hid (Calls Tryd.prog 15 #[.slice ao7 i ca7, .slice ao2 i ca2] wr fun e w' => e = .returned (.bool (decide (us = us))) ∧ Qt wr w') := feq_any wr _ _ us us (Rl.Row.of_owns ho7r.out) (Rl.Row.of_owns ho2r.out)
        rw [decide_eq_true rfl] at heq3
        go_wp2_with fail
        refine heq3.out.mono ?_
        rintro e w10 ⟨rfl, hq10⟩
        go_wp2
        go_ret
        exact ⟨rfl, hb0r.out.trans (Qt.below hq10 _)⟩
      · have i1 : (i : Int) < (n : Int) := by omega
        have i2 : (0 : Int) ≤ (i : Int) := by omega
        obtain ⟨g, hg⟩ : ∃ g, ao6 = some ⟨g, 0, none⟩ := by
          obtain ⟨_, p⟩ := hoL.out
          rcases p with ⟨e, h0⟩ | ⟨g, cap, cur, e, _⟩
          · omega
          · simp only [Value.slice.injEq] at e
            exact ⟨g, e.1⟩
        subst hg
        have hfr := hoL.out.frozenAt i
        have hLn : L.length = n := by have := hoL.out.1; omega
        have hcl : ∃ v0, wr.cell? ⟨g, i, none⟩ = some v0 := by
          have hll : i < L.length := by omega
          exact ⟨_, (hoL.out.cellAt i (by omega)).trans (List.getElem?_eq_getElem hll)⟩
        obtain ⟨v0, hcl⟩ := hcl
        obtain ⟨ho3, hg3⟩ := hoL.out.stored i (.float .f64 13837309855095848960)
        replace ho3 : Hid ((wr.setCell ⟨g, i, none⟩ (.float .f64 13837309855095848960)).ownsRow w5.heap.size 26 1 (.slice (some ⟨g, 0, none⟩) n ca6) n (L.set i (.float .f64 13837309855095848960))) := ho3
        have hg4 : Hid (w9.grownBy (wr.setCell ⟨g, i, none⟩ (.float .f64 13837309855095848960)) (Value.slice (some ⟨g, 0, none⟩) n ca6).ownBlock) := grown_trans hgL.out hg3
        obtain ⟨wq, hwq⟩ : ∃ wq, wq = wr.setCell ⟨g, i, none⟩ (.float .f64 13837309855095848960) := ⟨_, rfl⟩
        rw [← hwq] at ho3 hg4
        clear hg3 hgL hoL
        go_wp2_with fail
        go_roundw
        case rel =>
          rw [← hwq]
          exact ⟨i + 1, _, by omega, by go_num, ho3, hg4⟩
        case measure => simp [intOf]; omega
#print axioms back_walk
end Go.Proofs.YtojohcckaklmpaaDoor.Sr
