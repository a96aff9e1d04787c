/-
  SchedQueues.
-/
import Derived.Test.YtdbhfeiibcpcaaaDoorQ04
import Derived.Test.YtdbhfeiibcpcaaaDoorQ03
import Derived.Test.YtdbhfeiibcpcaaaDoorQ01
import Derived.Test.YtdbhfeiibcpcaaaDoorRows
import Derived.OpenShut
import Derived.ChangeArms
import Derived.ChangeSame
import Derived.FnData
import Derived.JoinedTies
namespace Go.Proofs.YtdbhfeiibcpcaaaDoor.Sd
open Go.RowKit
set_option linter.unusedVariables false
set_option linter.unusedSimpArgs false
set_option maxRecDepth 100000
theorem wr_up {i : Nat} (h : i ≤ 100000) : wrap64 ((i : Int) + 1) = (i : Int) + 1 := by unfold wrap64; omega
/-- The picks, each read. -/
theorem picks_at {w : World} {ao : Option Addr} {N cp : Nat} {picks : List Int} (h : Row w (.slice ao N cp) (picks.map (Value.int .i64))) : picks.length = N ∧ N ≤ cp ∧ cp ≤ 9223372036854775807 ∧ ∀ u, Below w.heap.size w u → ∀ i k, picks[i]? = some k → ∃ b off, ao = some ⟨b, off, none⟩ ∧ u.cell? ⟨b, off + i, none⟩ = some (.int .i64 k) := by
  have hl : picks.length = N := by obtain ⟨a, c, e, -⟩ := h; simp at e; simpa using e.2.1.symm
  have h0 := h
  obtain ⟨a, c, e, h1, h2, h3, h4⟩ := h0
  simp only [Value.slice.injEq] at e
  obtain ⟨rfl, e2, rfl⟩ := e
  rw [List.length_map, hl] at h2
  refine ⟨hl, h2, by unfold maxLen at h3; exact h3, fun u hu i k hi => ?_⟩
  obtain ⟨_, hc⟩ := row_at (Below.row hu h) (by rw [List.length_map, hl])
  obtain ⟨b, off, e, hx⟩ := hc i (.int .i64 k) (by rw [List.getElem?_map, hi]; rfl)
  exact ⟨b, off, e, hx⟩
theorem nonneg_all {picks : List Int} {N : Nat} (hl : picks.length = N) (h : ∀ j k, j < N → picks[j]? = some k → 0 ≤ k) : ∀ k ∈ picks, 0 ≤ k := fun k hk => by
  obtain ⟨j, hj, e⟩ := List.getElem_of_mem hk
  exact h j k (by omega) (by rw [List.getElem?_eq_getElem hj, e])
theorem mulw {n : Nat} (h : n ≤ 100) : wrap64 (2 * (n : Int)) = ((2 * n : Nat) : Int) := by unfold wrap64; omega
theorem subw {n : Nat} (h1 : 1 ≤ n) (h : n ≤ 100) : wrap64 ((n : Int) - 1) = (n : Int) - 1 := by unfold wrap64; omega
theorem putsL_succ (n : Nat) : putsL (n + 1) = putsL n ++ [⟨6, 0, 0, (n : Int)⟩] := by simp [putsL, List.range_succ]
theorem takesL_succ (n : Nat) : takesL (n + 1) = takesL n ++ [⟨7, 0, 3, 0⟩] := by simp [takesL, List.range_succ]
theorem putsL_len (n : Nat) : (putsL n).length = n := by simp [putsL]
theorem takesL_len (n : Nat) : (takesL n).length = n := by simp [takesL]
theorem queues_app {w wr : World} {a8 a9 : Option Addr} {c8 c9 k : Nat} (h8 : Ar w.heap.size wr (.slice a8 k c8) (putsL k)) (h9 : Ar w.heap.size wr (.slice a9 k c9) (takesL k)) (hd : ∀ b, (Value.slice a8 k c8).ownBlock = some b → (Value.slice a9 k c9).ownBlock ≠ some b) (hb : Below w.heap.size w wr) (hk : k ≤ 1000) :
    ∃ a10 c10 w7 a11 c11 w9, Hid ((Builtin.append_ #[45, 45] 45 #[.slice a8 k c8, .slice (some ⟨wr.heap.size, 0, none⟩) 1 1]).run Tryd.prog (wr.alloc (.cells #[.int .i64 6, .int .i64 0, .int .i64 0, .int .i64 (k : Int)] 47)) = .ok (.slice a10 (k + 1) c10) w7) ∧
      Hid ((Builtin.append_ #[45, 45] 45 #[.slice a9 k c9, .slice (some ⟨w7.heap.size, 0, none⟩) 1 1]).run Tryd.prog (w7.alloc (.cells #[.int .i64 7, .int .i64 0, .int .i64 3, .int .i64 0] 47)) = .ok (.slice a11 (k + 1) c11) w9) ∧
      Hid (Ar w.heap.size w9 (.slice a10 (k + 1) c10) (putsL (k + 1)) ∧ Ar w.heap.size w9 (.slice a11 (k + 1) c11) (takesL (k + 1)) ∧ (∀ b, (Value.slice a10 (k + 1) c10).ownBlock = some b → (Value.slice a11 (k + 1) c11).ownBlock ≠ some b) ∧ Below w.heap.size w w9) := by
  have b1 := box_below wr (.cells #[.int .i64 6, .int .i64 0, .int .i64 0, .int .i64 (k : Int)] 47)
  have n1 := heap_alloc_new wr (.cells #[.int .i64 6, .int .i64 0, .int .i64 0, .int .i64 (k : Int)] 47)
  generalize wr.alloc (.cells #[.int .i64 6, .int .i64 0, .int .i64 0, .int .i64 (k : Int)] 47) = w6 at *
  have o8 := fun b hb => World.ownsRow.lt h8 b hb
  have o9 := fun b hb => World.ownsRow.lt h9 b hb
  obtain ⟨v7, w7, r7, A7, G7, X7⟩ := run_appA [⟨6, 0, 0, (k : Int)⟩] wr.heap.size 1 rfl (row_below h8 b1) n1 rfl (by simp) (by rw [putsL_len]; omega) (Nat.le_trans hb.size b1.size) 45
  rw [← putsL_succ] at A7
  obtain ⟨a10, c10, e10, -⟩ := own_form A7
  rw [putsL_len] at e10
  subst e10
  have B7 : Below w.heap.size w w7 := (keepF hb b1).trans (grown_below G7 (Nat.le_trans hb.size b1.size) fun b e => (o8 b e).1)
  have H9 : Ar w.heap.size w7 (.slice a9 k c9) (takesL k) := row_but (row_below h9 b1) G7 fun b hb e => hd b e hb
  have D7 : ∀ b, (Value.slice a10 (k + 1) c10).ownBlock = some b → (Value.slice a9 k c9).ownBlock ≠ some b := fun b e c => by
    rcases X7 b e with d | d
    · exact hd b d c
    · have := (o9 b c).2; have := b1.size; omega
  have b2 := box_below w7 (.cells #[.int .i64 7, .int .i64 0, .int .i64 3, .int .i64 0] 47)
  have n2 := heap_alloc_new w7 (.cells #[.int .i64 7, .int .i64 0, .int .i64 3, .int .i64 0] 47)
  obtain ⟨w8, hw8⟩ : ∃ w8, w7.alloc (.cells #[.int .i64 7, .int .i64 0, .int .i64 3, .int .i64 0] 47) = w8 := ⟨_, rfl⟩
  rw [hw8] at b2 n2
  obtain ⟨v9, w9, r9, A9, G9, X9⟩ := run_appA [⟨7, 0, 3, 0⟩] w7.heap.size 1 rfl (row_below H9 b2) n2 rfl (by simp) (by rw [takesL_len]; omega) (Nat.le_trans B7.size b2.size) 45
  rw [← takesL_succ] at A9
  obtain ⟨a11, c11, e11, -⟩ := own_form A9
  rw [takesL_len] at e11
  subst e11
  refine ⟨a10, c10, w7, a11, c11, w9, r7, (by rw [hw8]; exact r9), row_but (row_below A7 b2) G9 fun b hb e => D7 b hb e, A9, fun b e c => ?_, (keepF B7 b2).trans (grown_below G9 (Nat.le_trans B7.size b2.size) fun b e => (o9 b e).1)⟩
  rcases X9 b c with d | d
  · exact D7 b e d
  · have := (World.ownsRow.lt A7 b e).2; have := b2.size; omega
theorem queues_run {w wr : World} (hT : Tb w) {a8 a9 : Option Addr} {c8 c9 n r : Nat} (h8 : Ar w.heap.size wr (.slice a8 n c8) (putsL n)) (h9 : Ar w.heap.size wr (.slice a9 n c9) (takesL n)) (hb : Below w.heap.size w wr) (n1 : 1 ≤ n) (n2 : n ≤ 100) (r1 : 1 ≤ r) (r2 : r ≤ 16) {vp : Value} {picks : List Int} (hp : Row w vp (picks.map (Value.int .i64))) (hp1 : ∀ k ∈ picks, k ≤ 9223372036854775807) (hp2 : picks.length ≤ 65536) (hp3 : ∀ k ∈ picks, 0 ≤ k) {L : Nat} (hL : 2 * n = L) :
    Calls Tryd.prog 15 #[.slice (some ⟨wr.heap.size, 0, none⟩) 2 2, .int .i64 (r : Int), vp, .int .i64 65536] (wr.alloc (.cells #[.slice a8 n c8, .slice a9 n c9] 45)) fun e w' => ∃ ta tc gr rc ea ec qa qc S, e = .returned (.tuple #[.agg #[.int .i64 (L : Int), .slice ta L tc, .slice (some ⟨gr, 0, none⟩) 8 rc, .slice ea 2 ec, .slice qa 4 qc], .int .i64 0]) ∧ (S.tr.length = L ∧ S.rg 3 = (n : Int) - 1 ∧ (∃ t0 t1, S.tk = [t0, t1] ∧ howS S t0 = 1 ∧ howS S t1 = 1) ∧ ∀ i, i ≤ S.tr.length → 0 ≤ inI S.tr i ∧ inI S.tr i ≤ r) ∧ Rd w' S ta tc gr rc ea ec ∧ Below w.heap.size w w' := by
  subst hL
  have b1 := box_below wr (.cells #[.slice a8 n c8, .slice a9 n c9] 45)
  have n3 := heap_alloc_new wr (.cells #[.slice a8 n c8, .slice a9 n c9] 45)
  generalize wr.alloc (.cells #[.slice a8 n c8, .slice a9 n c9] 45) = w6 at *
  have B6 := keepF hb b1
  have tk : TksAt w6 (.slice (some ⟨wr.heap.size, 0, none⟩) 2 2) [.slice a8 n c8, .slice a9 n c9] [putsL n, takesL n] := tks_lit (us := [.slice a8 n c8, .slice a9 n c9]) n3 rfl (by simp) rfl (by
    intro i u l e1 e2
    match i with
    | 0 => cases e1; cases e2; exact acts_own (row_below h8 b1)
    | 1 => cases e1; cases e2; exact acts_own (row_below h9 b1)
    | i + 2 => simp at e1)
  obtain ⟨S, hS⟩ : ∃ S, runS [putsL n, takesL n] r picks 65536 = S := ⟨_, rfl⟩
  have F := queues_facts n1 n2 r1 picks S hS
  refine (run_read w6 (hT.below B6) _ vp _ [putsL n, takesL n] tk picks (Below.row B6 hp) hp1 r 65536 (queues_ref n2 r1 r2 hp2 hp3) S hS).mono ?_
  rintro e w' ⟨ta, tc, gr, rc, ea, ec, qv, rfl, ⟨qa, qc, rfl⟩, R, hb'⟩
  obtain ⟨t0, t1, ht, -⟩ := F.2.2.1
  have hl : S.tk.length = 2 := by rw [ht]; rfl
  refine ⟨ta, tc, gr, rc, ea, ec, qa, qc, S, by rw [F.1, hl], F, R, B6.trans (hb'.mono B6.size)⟩
set_option maxHeartbeats 4000000 in
theorem queues_walk (w : World) (hT : Tb w) (n room : Int) (ao : Option Addr) (N cp : Nat) (picks : List Int) (hp : Row w (.slice ao N cp) (picks.map (Value.int .i64))) (hb : ∀ k ∈ picks, -9223372036854775808 ≤ k ∧ k ≤ 9223372036854775807) :
    Calls Tryd.prog 6 #[.int .i64 n, .int .i64 room, .slice ao N cp] w fun e w' => e = .returned (.bool true) ∧ Below w.heap.size w w' := by
  obtain ⟨hN, hcap, hcap2, hrd⟩ := picks_at hp
  by_cases hm : 1 ≤ n ∧ n ≤ 100 ∧ 1 ≤ room ∧ room ≤ 16 ∧ N ≤ 3000
  · obtain ⟨m1, m2, m3, m4, m5⟩ := hm
    obtain ⟨n, rfl⟩ := nat_of (show (0 : Int) ≤ n by omega)
    obtain ⟨r, rfl⟩ := nat_of (show (0 : Int) ≤ room by omega)
    have m6 : (N : Int) ≤ 3000 := by omega
    have RD := hide hrd
    have HP := hide hp
    have HB := hide hb
    have T0 := hide hT
    have NN := hide hN
    clear hp hb hT hrd hN
    go_enter Tryd.func6, Tryd.ntmps6
    go_upto_region 3 with (go_at_call 9; refine (begun_any _ T0.out).mono ?_; rintro e u1 ⟨rfl, b1⟩; replace b1 := hide b1)
    go_upto_region 6 with fail
    go_loopw [7] (fun s7 wr => ∃ i : Nat, s7 = .int .i64 (i : Int) ∧ i ≤ N ∧ Hid (wr = u1 ∧ ∀ j k, j < i → picks[j]? = some k → 0 ≤ k)) (fun s7 wr => N - (intOf s7).toNat)
    case atStart => exact ⟨0, rfl, Nat.zero_le _, rfl, fun j k hj => by omega⟩
    case round =>
    obtain ⟨i, rfl, hiN, hst⟩ := hrel
    obtain ⟨e, hpos0⟩ := hst.out
    subst e
    have hpos := hide hpos0
    clear hst hpos0
    have wi := wr_up (i := i) (by omega)
    by_cases hlt : i < N
    · have i1 : (i : Int) < (N : Int) := by omega
      obtain ⟨k, hk⟩ : ∃ k, picks[i]? = some k := ⟨_, List.getElem?_eq_getElem (by rw [NN.out]; exact hlt)⟩
      obtain ⟨pb, po, rfl, hc⟩ := RD.out _ b1.out i k hk
      replace hk := hide hk
      by_cases hneg : k < 0
      · go_wp2_with fail
        go_ret
        exact ⟨rfl, b1.out⟩
      · go_wp2_with fail
        go_roundw
        case rel => exact ⟨i + 1, by go_num, hlt, trivial, fun j k' hj hk' => by
          by_cases c : j = i
          · subst c; rw [hk.out] at hk'; cases hk'; omega
          · exact hpos.out j k' (by omega) hk'⟩
        case measure => simp only [intOf]; omega
    · obtain rfl : i = N := by omega
      have i1 : ¬ (i : Int) < (i : Int) := by omega
      have POS := hide (nonneg_all NN.out hpos.out)
      clear hpos wi
      go_upto_region 12 with fail
      go_loopw [8, 9, 10] (fun s8 s9 s10 wr => ∃ k : Nat, s10 = .int .i64 (k : Int) ∧ k ≤ n ∧ Hid (Ar w.heap.size wr s8 (putsL k) ∧ Ar w.heap.size wr s9 (takesL k) ∧ (∀ b, s8.ownBlock = some b → s9.ownBlock ≠ some b) ∧ Below w.heap.size w wr)) (fun s8 s9 s10 wr => n - (intOf s10).toNat)
      case atStart => exact ⟨0, rfl, Nat.zero_le _, Ar.nil _ _, Ar.nil _ _, (fun b c => by cases c), b1.out⟩
      case round =>
      rename_i v8 v9 _
      obtain ⟨k, rfl, hkn, hst⟩ := hrel
      obtain ⟨a8, c8, e8, -⟩ := own_form hst.out.1
      obtain ⟨a9, c9, e9, -⟩ := own_form hst.out.2.1
      rw [putsL_len] at e8
      rw [takesL_len] at e9
      subst e8
      subst e9
      have wk := wr_up (i := k) (by omega)
      by_cases hlt : k < n
      · have i2 : (k : Int) < (n : Int) := by omega
        obtain ⟨a10, c10, w7, a11, c11, w9, r7, r9, NX⟩ := queues_app hst.out.1 hst.out.2.1 hst.out.2.2.1 hst.out.2.2.2 (by omega)
        clear hst
        go_upto_region 15 with (at_builtin; refine wpList_append_run rfl 45 (.tmp 52) (.tmp 55) rfl rfl rfl r7.out ?_)
        go_wp2_with (at_builtin; refine wpList_append_run rfl 45 (.tmp 57) (.tmp 59) rfl rfl rfl r9.out ?_)
        go_roundw
        case rel => exact ⟨k + 1, by go_num, hlt, NX.out⟩
        case measure => simp only [intOf]; omega
      · obtain rfl : k = n := by omega
        have i2 : ¬ (k : Int) < (k : Int) := by omega
        obtain ⟨L, hL⟩ : ∃ L, Hid (2 * k = L) := ⟨_, rfl⟩
        have RUN := hide (queues_run T0.out hst.out.1 hst.out.2.1 hst.out.2.2.2 (by omega) (by omega) (r := r) (by omega) (by omega) HP.out (fun q hq => (HB.out q hq).2) (by rw [NN.out]; omega) POS.out hL.out)
        clear wk hst
        go_upto_region 17 with (go_at_call 15; refine RUN.out.mono ?_; rintro e w5 ⟨ta, tc, gr, rc, ea, ec, qa, qc, S, rfl, FS, R, b5⟩; replace b5 := hide b5; replace R := hide R; replace FS := hide FS)
        have bb := box_below w5 (.cells #[.int .i64 (L : Int), .slice ta L tc, .slice (some ⟨gr, 0, none⟩) 8 rc, .slice ea 2 ec, .slice qa 4 qc] 33)
        have nb := heap_alloc_new w5 (.cells #[.int .i64 (L : Int), .slice ta L tc, .slice (some ⟨gr, 0, none⟩) 8 rc, .slice ea 2 ec, .slice qa 4 qc] 33)
        have R6 := hide (R.out.below bb)
        have B6 := hide (b5.out.trans (bb.mono b5.out.size))
        clear RUN R b5 bb
        generalize w5.alloc (.cells #[.int .i64 (L : Int), .slice ta L tc, .slice (some ⟨gr, 0, none⟩) 8 rc, .slice ea 2 ec, .slice qa 4 qc] 33) = w6 at *
        generalize w5.heap.size = pb at *
        have x0 : w6.cell? ⟨pb, 0, none⟩ = some (.int .i64 (L : Int)) := by rw [cell_of nb]; rfl
        have x1 : w6.cell? ⟨pb, 1, none⟩ = some (.slice ta L tc) := by rw [cell_of nb]; rfl
        have x2 : w6.cell? ⟨pb, 2, none⟩ = some (.slice (some ⟨gr, 0, none⟩) 8 rc) := by rw [cell_of nb]; rfl
        have x3 : w6.cell? ⟨pb, 3, none⟩ = some (.slice ea 2 ec) := by rw [cell_of nb]; rfl
        have r3 := R6.out.rg.2 3 (by decide)
        rw [FS.out.2.1] at r3
        have hrc : (8 : Int) ≤ (rc : Int) := by have := R6.out.rg.1; omega
        have mw : wrap64 (2 * (k : Int)) = (L : Int) := by rw [mulw (by omega), hL.out]
        have sw := subw (n := k) (by omega) (by omega)
        have htc : L ≤ tc := by have := R6.out.tr.1; rw [FS.out.1] at this; exact this
        have hL2 : L ≤ 200 := by have := hL.out; omega
        obtain ⟨t0, t1, hts, h0, h1⟩ := FS.out.2.2.1
        have hec : (2 : Int) ≤ (ec : Int) := by have := R6.out.en.1; rw [hts] at this; simp at this; omega
        obtain ⟨ge, rfl, y0, -⟩ := R6.out.en.2 0 t0 (by rw [hts]; rfl)
        obtain ⟨ge', e', y1, -⟩ := R6.out.en.2 1 t1 (by rw [hts]; rfl)
        cases e'
        rw [h0] at y0
        rw [h1] at y1
        simp only [Nat.zero_mul, Nat.one_mul] at y0 y1
        clear nb hts h0 h1
        go_upto_region 21 with fail
        rotate_left
        · exfalso; have := hL.out; omega
        clear mw sw r3
        go_loopw [13, 14] (fun s13 s14 wr => ∃ i : Nat, s13 = .int .i64 (inI S.tr i) ∧ s14 = .int .i64 (i : Int) ∧ i ≤ L ∧ Hid (wr = w6)) (fun s13 s14 wr => L - (intOf s14).toNat)
        case atStart => exact ⟨0, by simp [inI], rfl, Nat.zero_le _, rfl⟩
        case round =>
        obtain ⟨i, rfl, rfl, hiL, hst⟩ := hrel
        have e := hst.out
        subst e
        have wi := wr_up (i := i) (by omega)
        by_cases hlt : i < L
        · have i3 : (i : Int) < (L : Int) := by omega
          have i4 : (i : Int) < (tc : Int) := by omega
          obtain ⟨x, hx⟩ : ∃ x, S.tr[i]? = some x := ⟨_, List.getElem?_eq_getElem (by rw [FS.out.1]; exact hlt)⟩
          obtain ⟨gt, rfl, c0, -⟩ := R6.out.tr.2 i x hx
          have nx := inI_next S.tr hx
          have q0 := FS.out.2.2.2 i (by rw [FS.out.1]; omega)
          have q1 := FS.out.2.2.2 (i + 1) (by rw [FS.out.1]; omega)
          obtain ⟨I0, hI0⟩ : ∃ I0, Hid (inI S.tr i = I0) := ⟨_, rfl⟩
          rw [hI0.out] at nx q0
          simp only [hI0.out]
          rw [nx] at q1
          obtain ⟨q1a, q1b⟩ := q1
          obtain ⟨q0a, q0b⟩ := q0
          clear hx hst
          by_cases hx0 : x.1 = 0
          · rw [if_pos hx0] at nx q1a q1b
            have c1 : wr.cell? ⟨gt, i * 2, none⟩ = some (.int .i64 0) := by rw [c0, hx0]; rfl
            have g1 : ¬ I0 + 1 < 0 := by omega
            have g2 : ¬ (r : Int) < I0 + 1 := by omega
            clear c0
            replace nx := hide nx
            go_wp2_with fail
            go_roundw
            case rel => exact ⟨i + 1, by rw [nx.out], by go_num, hlt, trivial⟩
            case measure => simp only [intOf]; omega
          · rw [if_neg hx0] at nx q1a q1b
            have xe : ((x.1 : Int) == 0) = false := by simp; omega
            have g1 : ¬ I0 - 1 < 0 := by omega
            have g2 : ¬ (r : Int) < I0 - 1 := by omega
            replace nx := hide nx
            go_wp2_with fail
            go_roundw
            case rel => exact ⟨i + 1, by rw [nx.out]; rfl, by go_num, hlt, trivial⟩
            case measure => simp only [intOf]; omega
        · obtain rfl : i = L := by omega
          have i3 : ¬ (i : Int) < (i : Int) := by omega
          clear wi hst
          go_wp2_with fail
          go_ret
          exact ⟨rfl, B6.out⟩
  · have T0 := hide hT
    clear hp hb hT hrd
    go_enter Tryd.func6, Tryd.ntmps6
    go_upto_region 3 with (go_at_call 9; refine (begun_any _ T0.out).mono ?_; rintro e u1 ⟨rfl, b1⟩; replace b1 := hide b1)
    go_upto_region 6 with fail
    all_goals first
      | (go_ret; exact ⟨rfl, b1.out⟩)
      | (exfalso; omega)
end Go.Proofs.YtdbhfeiibcpcaaaDoor.Sd

/-
  What the listed table of sched holds.
-/
namespace Go.Proofs.YtdbhfeiibcpcaaaDoor.Sd
open Go.RowKit
set_option maxRecDepth 100000
theorem vars_read {P : Program} {w : World} {n : String} {d : DataW Unit} : ∀ {l : List (String × DataW Unit)} {ps : List MemPlace}, DataW.LaidVars P w l ps → (n, d) ∈ l →
    ∃ g t cs fuel p, P.globalNamed n = some g ∧ (P.globals[g]?).map (·.type) = some t ∧ w.var? P n = some cs ∧ DataW.trod (fun _ => ()) P w 0 (fun _ => true) false fuel t cs.toList = some (d, p) := by
  intro l
  induction l with
  | nil => intro _ _ hm; cases hm
  | cons x r ih =>
    intro ps h hm
    obtain ⟨g, t, cs, fuel, p, q, h1, h2, h3, h4, h5, _⟩ := h
    rcases List.mem_cons.1 hm with e | e
    · subst e; exact ⟨g, t, cs, fuel, p, h1, h2, h3, h4⟩
    · exact ih h5 e
def reachL : List (Int × Int) := [(0, 0), (4, 1), (4, 1), (4, 4), (4, 1), (4, 1), (4, 1), (4, 8), (8, 1), (8, 8), (8, 1), (1, 1), (1, 1), (1, 1)]
theorem laid_list : (Rows.laid_flume_sched_reaches : DataW Unit) = .agg (reachL.map fun x => .agg [.lit (.int .i64 x.1), .lit (.int .i64 x.2)]) := by rfl
theorem reach_fn : ∀ k : Fin 14, 1 ≤ k.val → reachL[k.val]? = some (ra k.val, rb' k.val) := by decide
theorem tb_of {l : List (String × DataW Unit)} {W : World} (h : laidMet Tryd.prog l W) (hm : ("flume/sched.reaches", Rows.laid_flume_sched_reaches) ∈ l) : Tb W := by
  obtain ⟨ps, hv, _⟩ := h
  obtain ⟨g, t, cs, fuel, p, h1, h2, h3, h4⟩ := vars_read hv hm
  obtain rfl := Option.some.inj ((show Tryd.prog.globalNamed "flume/sched.reaches" = some 0 by kernel_rfl).symm.trans h1)
  obtain rfl := Option.some.inj ((show (Tryd.prog.globals[0]?).map (·.type) = some 80 by kernel_rfl).symm.trans h2)
  obtain ⟨xs, m, _, ex, _, hl, hel⟩ := DataW.trod_array Tryd.underlying80 h4
  have c2 : Tryd.prog.cellsOf 79 = 2 := by kernel_rfl
  have c1 : Tryd.prog.cellsOf 3 = 1 := by kernel_rfl
  rw [laid_list] at ex
  have e3 := (DataW.agg.inj (Prod.mk.inj ex).1).symm
  intro k k1 k2
  have hE := hel k (by omega)
  rw [c2, List.getElem?_eq_getElem (by omega)] at hE
  have hr := reach_fn ⟨k, by omega⟩ k1
  simp only at hr
  have e4 : (xs.map (·.1))[k]? = some (.agg [.lit (.int .i64 (ra k)), .lit (.int .i64 (rb' k))]) := by
    rw [e3, List.getElem?_map, hr]; rfl
  rw [List.getElem?_map, List.getElem?_eq_getElem (by omega)] at e4
  simp only [Option.map_some, Option.some.injEq] at e4
  obtain ⟨y0, y1, n, ex2, _, g0, g1⟩ := Go.ChangeShapes.trod_struct2 Tryd.underlying79 hE
  simp only [c1] at g0 g1
  obtain ⟨z0, a1, a2, _⟩ := DataW.trod_int Tryd.underlying3 g0
  obtain ⟨z1, b1, b2, _⟩ := DataW.trod_int Tryd.underlying3 g1
  rw [ex2, a2, b2] at e4
  simp only [DataW.agg.injEq, List.cons.injEq, DataW.lit.injEq, Lit.int.injEq, true_and, and_true] at e4
  obtain ⟨r1, r2⟩ := e4
  refine ⟨?_, ?_⟩
  · rw [World.var?_cell h1 h3 (k * 2), ← r1]
    have h0 : ((((cs.toList.drop (k * 2)).take 2).drop 0).take 1)[0]? = some (.int .i64 z0) := by rw [a1]; rfl
    simpa using h0
  · rw [World.var?_cell h1 h3 (k * 2 + 1), ← r2]
    have h0 : ((((cs.toList.drop (k * 2)).take 2).drop 1).take 1)[0]? = some (.int .i64 z1) := by rw [b1]; rfl
    simpa using h0
end Go.Proofs.YtdbhfeiibcpcaaaDoor.Sd

