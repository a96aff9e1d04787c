/-
  Do the clock and the document's tell the same?
-/
import Derived.Test.YtjplkffghfikgaaN04
import Derived.Test.YtjplkffghfikgaaN01
import Derived.Deep.Strs
import Derived.Deep.Slices
import Derived.Test.YtjplkffghfikgaaN03
import Derived.Laws.FloatBits
namespace Go.Proofs.Ytjplkffghfikgaa.Ck
open Go.RowKit Rl
set_option linter.unusedVariables false
theorem TmB.tms {B : Nat} {w : World} {v : Value} {l : List Tm} (h : TmB B w v l) : Tms w v l := ⟨h.1, h.2.imp id fun ⟨g, cap, cur, e, hg, r⟩ => ⟨g, cap, cur, e, Nat.zero_le _, r⟩⟩
theorem TmB.new {B : Nat} {w : World} {v : Value} {l : List Tm} (h : TmB B w v l) : ∀ k, v.ownBlock = some k → B ≤ k := fun k hk => (World.ownsRow.lt h k hk).1
/-- The list with the first i written over. -/
def zS (S : List Tm) (i : Nat) : List Tm := (S.take i).map (fun _ => ⟨0, 0⟩) ++ S.drop i
theorem zS_len (S : List Tm) (i : Nat) : (zS S i).length = S.length := by unfold zS; simp; omega
theorem zS_zero (S : List Tm) : zS S 0 = S := by simp [zS]
theorem zS_at (S : List Tm) (i : Nat) (hi : i < S.length) : g (zS S i) i = g S i := by
  have e : (zS S i)[i]? = S[i]? := by
    unfold zS
    rw [List.getElem?_append_right (by simp; omega)]
    simp
    congr 1
    omega
  simp [g, List.getD, e]
theorem zS_step (S : List Tm) (i : Nat) (hi : i < S.length) : (zS S i).set i ⟨0, 0⟩ = zS S (i + 1) := by
  have h1 : S.take (i + 1) = S.take i ++ [S[i]] := List.take_succ_eq_append_getElem hi
  have h2 : S.drop i = S[i] :: S.drop (i + 1) := List.drop_eq_getElem_cons hi
  unfold zS
  rw [List.set_append_right _ _ (by simp; omega), h1, h2, show i - ((S.take i).map (fun _ => (⟨0, 0⟩ : Tm))).length = 0 by simp; omega, List.map_append, List.append_assoc]
  rfl
/-- What same looks at behind its calls. -/
structure Sm (w q : World) (rb now : Nat) (N : Int) (vr vf vg : Value) (S Z : List Tm) : Prop where
  ra : RA q rb now N vr S
  f : Tms q vf Z
  g : Tms q vg S
  bel : Below w.heap.size w q
theorem Sm.below {w q q' : World} {rb now : Nat} {N : Int} {vr vf vg : Value} {S Z : List Tm} (h : Sm w q rb now N vr vf vg S Z) (hb : Below q.heap.size q q') : Sm w q' rb now N vr vf vg S Z := ⟨h.ra.below hb, h.f.below hb, h.g.below hb, keepF h.bel hb⟩
theorem Sm.step {w q : World} {rb now fb cf M i : Nat} {N : Int} {vr vg : Value} {S : List Tm} (h : Sm w q rb now N vr (.slice (some ⟨fb, 0, none⟩) M cf) vg S (zS S i)) (hi : i < S.length) (h1 : ¬ Own rb vr fb) (h2 : vg.ownBlock ≠ some fb) (h3 : w.heap.size ≤ fb) : Sm w ((q.setCell ⟨fb, i * 2, none⟩ (.int .i64 0)).setCell ⟨fb, i * 2 + 1, none⟩ (.float .f64 0)) rb now N vr (.slice (some ⟨fb, 0, none⟩) M cf) vg S (zS S (i + 1)) := by
  have bu : But (fun j => j = fb) q ((q.setCell ⟨fb, i * 2, none⟩ (.int .i64 0)).setCell ⟨fb, i * 2 + 1, none⟩ (.float .f64 0)) := (But.of_grownBy (grown_setCell q fb (i * 2) (.int .i64 0)) fun j e => by cases e; rfl).trans (But.of_grownBy (grown_setCell _ fb (i * 2 + 1) (.float .f64 0)) fun j e => by cases e; rfl)
  refine ⟨h.ra.but bu fun k hk e => h1 (by rw [← e]; exact hk), ?_, h.g.but bu fun k hk e => h2 (by rw [← e]; exact hk), h.bel.trans ((bu.below h.bel.size fun k e => by rw [e]; exact h3))⟩
  have := h.f.set i ⟨0, 0⟩
  rw [zS_step S i hi] at this
  exact this
theorem dnb (w : World) (n : Nat) : Below w.heap.size w (w.drewN n) := by
  have h : Qt w (w.drewN n) := ⟨n, rfl⟩
  exact h.below _
theorem bits_self (w : World) (a : Nat) : Calls Try.prog 38 #[.float .f64 a, .float .f64 a] w fun e w' => e = .returned (.bool true) ∧ w' = w := by
  have := bits_any w a a
  simpa using this
set_option maxRecDepth 100000 in
set_option maxHeartbeats 8000000 in
theorem same_any (w : World) (b rb : Nat) (c : C) (v vr : Value) (l S : List Tm) (N : Int) (h : Ck w b c v l S) (hR : RA w rb c.now N vr S) : Calls Try.prog 20 #[.pointer (some ⟨b, 0, none⟩), .pointer (some ⟨rb, 0, none⟩)] w fun e w' => e = .returned (.bool true) ∧ Below w.heap.size w w' := by
  have sf : ∀ (W : World) (a : Addr) (x : Nat), (store a (.float .f64 x)).run Try.prog W = stored Try.prog W a (.float .f64 x) .plain := fun W a x => run_store _ W a _ _ rfl
  have hl := h.len
  have ht := h.tt
  have hN := next_any w b c v l S h
  have hN2 : Hid (∀ q, Below w.heap.size w q → Calls Try.prog 37 #[.pointer (some ⟨rb, 0, none⟩)] q fun e w' => e = .returned (.tuple #[.float .f64 (nxS S).1, .bool (nxS S).2]) ∧ w' = q) := fun q hq => rnext_any q rb c.now N vr S (hR.below hq) ht hl
  have hTm : Hid (∀ q, Below w.heap.size w q → Calls Try.prog 23 #[.pointer (some ⟨b, 0, none⟩)] q fun e w' => ∃ vf, e = .returned vf ∧ TmB q.heap.size w' vf S ∧ Below q.heap.size q w') := fun q hq => timers_any q b c v l S (h.below hq)
  have hNow : Hid (∀ q, Below w.heap.size w q → Calls Try.prog 22 #[.pointer (some ⟨b, 0, none⟩)] q fun e w' => e = .returned (.float .f64 c.now) ∧ w' = q) := fun q hq => now_any q b c v l (h.at_.below hq) h.nx
  have hR' := hide hR
  obtain ⟨M, hM⟩ : ∃ M, Hid (S.length = M) := ⟨_, rfl⟩
  generalize nxS S = y at *
  obtain ⟨t, ok⟩ := y
  clear h ht
  go_enter Try.func20, Try.ntmps20
  go_upto_region 4 with (first | (go_at_call 24; refine hN.mono ?_; rintro e w2 ⟨rfl, hq⟩) | (go_at_call 37; refine (hN2.out _ (hq.below _)).mono ?_; rintro e w' ⟨rfl, hw⟩; rw [hw]; clear hw w') | (go_at_call 23; refine (hTm.out _ (hq.below _)).mono ?_; rintro e w3 ⟨vf, rfl, F3, B3⟩) | (go_at_call 23; refine (hTm.out _ (keepF (hq.below _) B3)).mono ?_; rintro e w4 ⟨vg, rfl, F4, B4⟩) | fail)
  have BB : Below w.heap.size w w4 := keepF (keepF (hq.below _) B3) B4
  have hs2 : w.heap.size ≤ w2.heap.size := (hq.below w.heap.size).size
  have SM : Sm w w4 rb c.now N vr vf vg S (zS S 0) := ⟨hR'.out.below BB, by rw [zS_zero]; exact F3.tms.below B4, F4.tms, BB⟩
  obtain ⟨ar, cr, rfl, q1, q2⟩ := SM.ra.row.form
  obtain ⟨af, cf, rfl, q3, q4⟩ := F3.tms.form
  obtain ⟨ag, cg, rfl, q5, q6⟩ := F4.tms.form
  obtain ⟨c0, c1, c2⟩ := SM.ra.cells
  have hf1 : Hid (∀ k, (Value.slice af S.length cf).ownBlock = some k → w.heap.size ≤ k ∧ k < w3.heap.size) := fun k hk => ⟨Nat.le_trans hs2 (F3.new k hk), F3.tms.lt k hk⟩
  have hg1 : Hid (∀ k, (Value.slice ag S.length cg).ownBlock = some k → w3.heap.size ≤ k) := fun k hk => F4.new k hk
  have hr1 : Hid (∀ k, Own rb (.slice ar S.length cr) k → k < w.heap.size) := fun k hk => hR'.out.lt k hk
  rw [hM.out] at SM hf1 hg1 hr1 c1 ⊢
  rw [hM.out] at q2 q4 q6 hl
  have SM' := hide SM
  have BB' : Hid (∀ n, Below w.heap.size w (w4.drewN n)) := fun n => keepF BB (dnb w4 n)
  clear SM BB F3 F4 B3 B4 hq hN hR hR' hTm hN2
  have hb1 := hide bits_self
  cases ok
  all_goals
    go_quiet (first | (go_at_call 22; exact Calls.quiet_of_same (hNow.out _ (BB'.out _))) | (go_at_call 38; exact Calls.quiet_of_same (hb1.out _ _)))
    have SM5 : Hid (Sm w (w4.drewN nq) rb c.now N (.slice ar M cr) (.slice af M cf) (.slice ag M cg) S (zS S 0)) := SM'.out.below (dnb w4 nq)
    clear BB' SM' c0 c1 c2
    generalize w4.drewN nq = w5 at *
    go_wp2_with fail
    go_loopw [11] (fun iv wr => ∃ i : Nat, iv = .int .i64 i ∧ i ≤ M ∧ Hid (Sm w wr rb c.now N (.slice ar M cr) (.slice af M cf) (.slice ag M cg) S (zS S i))) (fun iv _ => M - (intOf iv).toNat)
    case atStart => exact ⟨0, rfl, Nat.zero_le _, SM5.out⟩
    case round =>
      obtain ⟨i, rfl, hi, hQ⟩ := hrel
      obtain ⟨c0, c1, c2⟩ := hQ.out.ra.cells
      by_cases hlt : i < M
      · have hlS : i < S.length := by rw [hM.out]; exact hlt
        have hne : S ≠ [] := fun e => by rw [e] at hlS; simp at hlS
        have i0 : (0 : Int) ≤ (i : Int) := by omega
        have i1 : (i : Int) < (M : Int) := by omega
        obtain ⟨rt, cr', e1, _, _, hr⟩ := hQ.out.ra.row.read hne
        obtain ⟨fb, cf', cs, e2, _⟩ := hQ.out.f.at (fun e => by have := zS_len S i; rw [e] at this; simp at this; omega)
        simp at e1 e2
        obtain ⟨rfl, _, _⟩ := e1
        obtain ⟨rfl, _, _⟩ := e2
        obtain ⟨d0, d1⟩ := hr i hlS
        obtain ⟨d2, d3⟩ := hQ.out.f.read i (by rw [zS_len]; exact hlS)
        rw [zS_at S i hlS] at d2 d3
        have hsep : ¬ Own rb (.slice (some ⟨rt, 0, none⟩) M cr) fb := fun q => by have a := hr1.out _ q; have b := (hf1.out fb rfl).1; omega
        have hsep2 : (Value.slice ag M cg).ownBlock ≠ some fb := fun q => by have a := hg1.out _ q; have b := (hf1.out fb rfl).2; omega
        have Z6 : Hid (∀ n, Sm w (((wr.drewN n).setCell ⟨fb, i * 2, none⟩ (.int .i64 0)).setCell ⟨fb, i * 2 + 1, none⟩ (.float .f64 0)) rb c.now N (.slice (some ⟨rt, 0, none⟩) M cr) (.slice (some ⟨fb, 0, none⟩) M cf) (.slice ag M cg) S (zS S (i + 1))) := fun n => (hQ.out.below (dnb wr n)).step hlS hsep hsep2 (hf1.out fb rfl).1
        have Z7 : Hid (∀ n, Wr (wr.drewN n) fb (cf * 2)) := fun n => ((hQ.out.below (dnb wr n)).f.wr (fun e => by have := zS_len S i; rw [e] at this; simp at this; omega)).1
        generalize (g S i).id = yi at *
        generalize (g S i).b = yb at *
        clear hr hsep hsep2 hlS hne hQ
        go_upto_region 9 with fail
        go_quiet (first | (go_at_call 38; exact Calls.quiet_of_same (hb1.out _ _)))
        have Z8 := hide (Z6.out nq)
        have W0 := Z7.out nq
        clear Z6 Z7 d0 d1 d2 d3 c0 c1 c2
        generalize wr.drewN nq = w6 at *
        have W1 := W0.put (i * 2) (.int .i64 0)
        obtain ⟨x0, p0⟩ := W0.cell (i * 2) (by omega)
        obtain ⟨x1, p1⟩ := W1.cell (i * 2 + 1) (by omega)
        have f0 := W0.frozen (i * 2)
        have f1 := W1.frozen (i * 2 + 1)
        clear W0 W1
        go_wp2_with fail
        go_roundw
        case rel => exact ⟨i + 1, by go_num, by omega, Z8.out⟩
        case measure => simp [intOf]; omega
      · obtain rfl : i = M := by omega
        have i1 : ¬ ((i : Int) < (i : Int)) := by omega
        have hQ7 := hide hQ.out
        clear c0 c1 c2
        obtain ⟨w7, hw7⟩ : ∃ w7, Hid (wr = w7) := ⟨_, rfl⟩
        rw [hw7.out] at hQ7
        go_wp2_with fail
        rw [hw7.out]
        go_loopw [12] (fun iv wr => ∃ j : Nat, iv = .int .i64 j ∧ j ≤ i ∧ Hid (Sm w wr rb c.now N (.slice ar i cr) (.slice af i cf) (.slice ag i cg) S (zS S i))) (fun iv _ => i - (intOf iv).toNat)
        case atStart => exact ⟨0, rfl, Nat.zero_le _, hQ7.out⟩
        case round =>
          obtain ⟨j, rfl, hj, hX⟩ := hrel
          obtain ⟨c0, c1, c2⟩ := hX.out.ra.cells
          by_cases hlt2 : j < i
          · have hlS : j < S.length := by rw [hM.out]; exact hlt2
            have hne : S ≠ [] := fun e => by rw [e] at hlS; simp at hlS
            have j0 : (0 : Int) ≤ (j : Int) := by omega
            have j1 : (j : Int) < (i : Int) := by omega
            obtain ⟨rt, cr', e1, _, _, hr⟩ := hX.out.ra.row.read hne
            obtain ⟨gb, cg', cs, e2, _⟩ := hX.out.g.at hne
            simp at e1 e2
            obtain ⟨rfl, _, _⟩ := e1
            obtain ⟨rfl, _, _⟩ := e2
            obtain ⟨d0, d1⟩ := hr j hlS
            obtain ⟨d2, d3⟩ := hX.out.g.read j hlS
            have Z9 : Hid (∀ n, Sm w (wr.drewN n) rb c.now N (.slice (some ⟨rt, 0, none⟩) i cr) (.slice af i cf) (.slice (some ⟨gb, 0, none⟩) i cg) S (zS S i)) := fun n => hX.out.below (dnb wr n)
            generalize (g S j).id = yi at *
            clear hr hlS hne hX
            go_upto_region 15 with fail
            go_quiet (fail)
            go_wp2_with fail
            go_roundw
            case rel => exact ⟨j + 1, by go_num, by omega, Z9.out _⟩
            case measure => simp [intOf]; omega
          · obtain rfl : j = i := by omega
            have j1 : ¬ ((j : Int) < (j : Int)) := by omega
            have FIN := hide hX.out.bel
            clear hX
            go_wp2_with fail
            go_ret
            exact ⟨rfl, FIN.out⟩
end Go.Proofs.Ytjplkffghfikgaa.Ck

/-
  An argument that is a list of calls of a clock, opened.
-/
namespace Go.Proofs.Ytjplkffghfikgaa.Ck
open Go.ChangeShapes Go.WideShapes Go.ChangeAt Go.RowKit Go.Deep
set_option maxRecDepth 100000
theorem cellsCop : Try.prog.cellsOf 35 = 3 := by kernel_rfl
theorem cellsU64 : Try.prog.cellsOf 22 = 1 := by kernel_rfl
theorem cellsInt : Try.prog.cellsOf 3 = 1 := by kernel_rfl
/-- Calls lie from address ao on. -/
def AtCops (w : World) (ao : Option Addr) (hs : List (Int × Int × Int)) : Prop :=
  ∀ i (h : i < hs.length), ∃ b off, ao = some ⟨b, off, none⟩ ∧ w.cell? ⟨b, off + i * 3, none⟩ = some (.int .i64 hs[i].1) ∧ w.cell? ⟨b, off + i * 3 + 1, none⟩ = some (.int .u64 hs[i].2.1) ∧ w.cell? ⟨b, off + i * 3 + 2, none⟩ = some (.int .i64 hs[i].2.2)
def CopOk (o : Int × Int × Int) : Prop := (-9223372036854775808 ≤ o.1 ∧ o.1 ≤ 9223372036854775807) ∧ (0 ≤ o.2.1 ∧ o.2.1 < 18446744073709551616) ∧ -9223372036854775808 ≤ o.2.2 ∧ o.2.2 ≤ 9223372036854775807
theorem open_cop {H : Type} {enc : TypeId × Value → H} {w : World} {base : Nat} {spare : Nat → Bool} {held : Bool} {fuel : Nat} {cs : List Value} {y : DataW H × List MemPlace}
    (h : DataW.trod enc Try.prog w base spare held fuel 35 cs = some y) :
    ∃ a b c : Int, cs = [.int .i64 a, .int .u64 b, .int .i64 c] ∧ CopOk (a, b, c) := by
  obtain ⟨y0, y1, y2, n, _, hlen, h0, h1, h2⟩ := trod_struct3 Try.underlying35 h
  rw [cellsCop] at hlen
  obtain ⟨c0, c1, c2, rfl⟩ : ∃ c0 c1 c2, cs = [c0, c1, c2] := by
    match cs, hlen with
    | [c0, c1, c2], _ => exact ⟨c0, c1, c2, rfl⟩
  simp only [cellsU64, cellsInt] at h0 h1 h2
  obtain ⟨a0, e0, _, w0⟩ := DataW.trod_int Try.underlying3 h0
  obtain ⟨a1, e1, _, w1⟩ := DataW.trod_int Try.underlying22 h1
  obtain ⟨a2, e2, _, w2⟩ := DataW.trod_int Try.underlying3 h2
  simp at e0 e1 e2
  subst e0 e1 e2
  exact ⟨a0, a1, a2, rfl, i64_bounds w0, u64_bounds w1, i64_bounds w2⟩
theorem open_cops {H : Type} {enc : TypeId × Value → H} {w : World} {base : Nat} {spare : Nat → Bool} {held : Bool} {fuel : Nat} {v : Value} {x : DataW H × List MemPlace}
    (h : DataW.trod enc Try.prog w base spare held fuel 23 [v] = some x) :
    ∃ (os : List (Int × Int × Int)) (ao : Option Addr) (cap : Nat), v = .slice ao os.length cap ∧ os.length ≤ 9223372036854775807 ∧ AtCops w ao os ∧ (∀ o ∈ os, CopOk o) := by
  rcases open_slice Try.underlying23 h with ⟨hcs, hx⟩ | ⟨a, len, cap, m, n, D, Pl, hcs, hb, hl, hm, hmm, hx, hel⟩
  · simp at hcs
    subst hcs hx
    exact ⟨[], none, 0, rfl, by simp, fun i hi => by simp at hi, fun o ho => by simp at ho⟩
  · simp at hcs
    subst hcs hx
    have hlm : len ≤ m := by split at hmm <;> omega
    have each : ∀ i, ∃ o : Int × Int × Int, i < m → CopOk o ∧ ∃ b off, a = ⟨b, off, none⟩ ∧ w.cell? ⟨b, off + i * 3, none⟩ = some (.int .i64 o.1) ∧ w.cell? ⟨b, off + i * 3 + 1, none⟩ = some (.int .u64 o.2.1) ∧ w.cell? ⟨b, off + i * 3 + 2, none⟩ = some (.int .i64 o.2.2) := by
      intro i
      by_cases hi : i < m
      · obtain ⟨cs', h1, h2⟩ := hel i hi
        obtain ⟨o1, o2, o3, rfl, hok⟩ := open_cop h2
        rw [cellsCop] at h1
        obtain ⟨b, off, sp⟩ := a
        have hsp : sp = none := by
          obtain ⟨cs0, g1, g2⟩ := hel 0 (by omega)
          obtain ⟨_, _, _, rfl, _⟩ := open_cop g2
          rw [cellsCop] at g1
          have g3 := (World.cells?_some g1).2.2 0 (by omega)
          simp [Addr.add] at g3
          exact World.cell?_spot g3
        subst hsp
        have hcell := (World.cells?_some h1).2.2
        rw [addr_add] at hcell
        have k0 := hcell 0 (by omega)
        have k1 := hcell 1 (by omega)
        have k2 := hcell 2 (by omega)
        rw [addr_add] at k0 k1 k2
        exact ⟨(o1, o2, o3), fun _ => ⟨hok, b, off, rfl, by simpa using k0, by simpa using k1, by simpa using k2⟩⟩
      · exact ⟨(0, 0, 0), fun h => absurd h hi⟩
    obtain ⟨O, hO⟩ : ∃ O : Nat → Int × Int × Int, ∀ i, i < m → CopOk (O i) ∧ ∃ b off, a = ⟨b, off, none⟩ ∧ w.cell? ⟨b, off + i * 3, none⟩ = some (.int .i64 (O i).1) ∧ w.cell? ⟨b, off + i * 3 + 1, none⟩ = some (.int .u64 (O i).2.1) ∧ w.cell? ⟨b, off + i * 3 + 2, none⟩ = some (.int .i64 (O i).2.2) := ⟨fun i => Classical.choose (each i), fun i => Classical.choose_spec (each i)⟩
    refine ⟨(List.range len).map O, some a, cap, by simp, by simp; unfold maxLen at hm; omega, ?_, ?_⟩
    · intro i hi
      simp at hi
      obtain ⟨_, b, off, rfl, q1, q2, q3⟩ := hO i (by omega)
      exact ⟨b, off, rfl, by simpa using q1, by simpa using q2, by simpa using q3⟩
    · intro o ho
      simp only [List.mem_map, List.mem_range] at ho
      obtain ⟨i, hi, rfl⟩ := ho
      exact (hO i (by omega)).1
end Go.Proofs.Ytjplkffghfikgaa.Ck

/-
  The clock and the document's side by side.
-/
namespace Go.Proofs.Ytjplkffghfikgaa.Ck
open Go.RowKit Rl
set_option linter.unusedVariables false
structure Ha (W w : World) (b : Nat) (c : C) (v : Value) (l S : List Tm) (rb now : Nat) (N : Int) (vr : Value) (Sr : List Tm) : Prop where
  m : Mine W w b c v l S
  ra : RA w rb now N vr Sr
  nw : ∀ k, Own rb vr k → W.heap.size ≤ k
  dj : ∀ k, Own b v k → ¬ Own rb vr k
theorem Ha.left {W w w' : World} {b : Nat} {c c' : C} {v v' : Value} {l l' S S' : List Tm} {rb now : Nat} {N : Int} {vr : Value} {Sr : List Tm} (h : Ha W w b c v l S rb now N vr Sr) (m : Mine W w' b c' v' l' S') (s : Stp b v v' w w') : Ha W w' b c' v' l' S' rb now N vr Sr := by
  refine ⟨m, h.ra.but s.1 (fun k hb ha => h.dj k ha hb), h.nw, ?_⟩
  rintro k (rfl | hk) hb
  · exact h.dj k (.inl rfl) hb
  · rcases s.2 k hk with e | e
    · exact h.dj k (.inr e) hb
    · have := h.ra.lt k hb; omega
theorem Ha.right {W w w' : World} {b : Nat} {c : C} {v : Value} {l S : List Tm} {rb now now' : Nat} {N N' : Int} {vr vr' : Value} {Sr Sr' : List Tm} (h : Ha W w b c v l S rb now N vr Sr) (ra : RA w' rb now' N' vr' Sr') (s : Stp rb vr vr' w w') : Ha W w' b c v l S rb now' N' vr' Sr' := by
  refine ⟨h.m.but s.1 (fun k hb ha => h.dj k hb ha) (fun k hk => h.nw k hk), ra, (s.below_of h.m.below.size h.nw).2, ?_⟩
  rintro k ho (rfl | hk)
  · exact h.dj _ ho (.inl rfl)
  · rcases s.2 k hk with e | e
    · exact h.dj k ho (.inr e)
    · have := h.m.ck.at_.lt k ho; omega
theorem Ha.quiet {W w w' : World} {b : Nat} {c : C} {v : Value} {l S : List Tm} {rb now : Nat} {N : Int} {vr : Value} {Sr : List Tm} (h : Ha W w b c v l S rb now N vr Sr) (hb : Below w.heap.size w w') : Ha W w' b c v l S rb now N vr Sr := ⟨h.m.quiet hb, h.ra.below hb, h.nw, h.dj⟩
/-- Both, and they stand alike. -/
def Bo (W w : World) (b : Nat) (c : C) (rb : Nat) (S : List Tm) : Prop := ∃ v l vr, Ha W w b c v l S rb c.now (c.nx - 1) vr S
theorem Bo.quiet {W w w' : World} {b : Nat} {c : C} {rb : Nat} {S : List Tm} (h : Bo W w b c rb S) (hb : Below w.heap.size w w') : Bo W w' b c rb S := by
  obtain ⟨v, l, vr, h⟩ := h
  exact ⟨v, l, vr, h.quiet hb⟩
theorem Bo.below {W w : World} {b : Nat} {c : C} {rb : Nat} {S : List Tm} (h : Bo W w b c rb S) : Below W.heap.size W w := by
  obtain ⟨v, l, vr, h⟩ := h
  exact h.m.below
theorem Bo.same {W w : World} {b : Nat} {c : C} {rb : Nat} {S : List Tm} (h : Bo W w b c rb S) : Calls Try.prog 20 #[.pointer (some ⟨b, 0, none⟩), .pointer (some ⟨rb, 0, none⟩)] w fun e w' => e = .returned (.bool true) ∧ Bo W w' b c rb S := by
  obtain ⟨v, l, vr, h⟩ := h
  refine (same_any w b rb c v vr l S (c.nx - 1) h.m.ck h.ra).mono ?_
  rintro e w' ⟨rfl, hb⟩
  exact ⟨rfl, v, l, vr, h.quiet hb⟩
/-- Between the two calls of one kind. -/
def Mid (W w : World) (b : Nat) (c : C) (S : List Tm) (rb now : Nat) (N : Int) (Sr : List Tm) : Prop := ∃ v l vr, Ha W w b c v l S rb now N vr Sr
theorem Bo.after {W w : World} {b : Nat} {c : C} {rb : Nat} {S : List Tm} (h : Bo W w b c rb S) (d : Nat) (hd : d < 18446744073709551616) (hnx : c.nx ≤ 1000000) : Calls Try.prog 11 #[.pointer (some ⟨b, 0, none⟩), .float .f64 d] w fun e w' => e = .returned (.tuple #[.int .i64 (aftF c.now c.nx d S).1, .int .i64 (aftF c.now c.nx d S).2.1]) ∧ Mid W w' b ⟨c.now, (aftF c.now c.nx d S).2.2.2⟩ (aftF c.now c.nx d S).2.2.1 rb c.now (c.nx - 1) S := by
  obtain ⟨v, l, vr, h⟩ := h
  refine (mine_after h.m d hd hnx).mono ?_
  rintro e w' ⟨rfl, v', l', m, s⟩
  exact ⟨rfl, v', l', vr, h.left m s⟩
theorem Mid.after {W w : World} {b : Nat} {c : C} {rb : Nat} {S : List Tm} (d : Nat) (h : Mid W w b ⟨c.now, (aftF c.now c.nx d S).2.2.2⟩ (aftF c.now c.nx d S).2.2.1 rb c.now (c.nx - 1) S) (hnb : Nb c.nx S) (htt : Tt S) (hlen : S.length ≤ 256) (hn : c.now < 9218868437227405312) (hd : d < 18446744073709551616) (hn0 : 1 ≤ c.nx) (hnx : c.nx ≤ 1000000) : Calls Try.prog 12 #[.pointer (some ⟨rb, 0, none⟩), .float .f64 d] w fun e w' => e = .returned (.tuple #[.int .i64 (aftF c.now c.nx d S).1, .int .i64 (aftF c.now c.nx d S).2.1]) ∧ Bo W w' b ⟨c.now, (aftF c.now c.nx d S).2.2.2⟩ rb (aftF c.now c.nx d S).2.2.1 := by
  obtain ⟨v, l, vr, h⟩ := h
  have e1 : c.nx - 1 + 1 = c.nx := by omega
  have hr := rafter_any w rb c.now d (c.nx - 1) vr S h.ra (by rw [e1]; exact hnb) hd hlen htt hn (by omega) (by omega)
  rw [e1] at hr
  refine hr.mono ?_
  rintro e w' ⟨rfl, v', m, s⟩
  exact ⟨rfl, v, l, v', h.right m s⟩
theorem Bo.cancel {W w : World} {b : Nat} {c : C} {rb : Nat} {S : List Tm} (h : Bo W w b c rb S) (id : Int) : Calls Try.prog 13 #[.pointer (some ⟨b, 0, none⟩), .int .i64 id] w fun e w' => e = .returned (.int .i64 (canF id S).2) ∧ Mid W w' b c (canF id S).1 rb c.now (c.nx - 1) S := by
  obtain ⟨v, l, vr, h⟩ := h
  refine (mine_cancel h.m id).mono ?_
  rintro e w' ⟨rfl, v', l', m, s⟩
  exact ⟨rfl, v', l', vr, h.left m s⟩
theorem Mid.cancel {W w : World} {b : Nat} {c : C} {rb : Nat} {S : List Tm} {id : Int} (h : Mid W w b c (canF id S).1 rb c.now (c.nx - 1) S) (hu : Un S) (hlen : S.length ≤ 256) : Calls Try.prog 14 #[.pointer (some ⟨rb, 0, none⟩), .int .i64 id] w fun e w' => e = .returned (.int .i64 (canF id S).2) ∧ Bo W w' b c rb (canF id S).1 := by
  obtain ⟨v, l, vr, h⟩ := h
  refine (rcancel_any w rb c.now (c.nx - 1) id vr S h.ra hu hlen).mono ?_
  rintro e w' ⟨rfl, v', m, s⟩
  exact ⟨rfl, v, l, v', h.right m s⟩
theorem Bo.go {W w : World} {b : Nat} {c : C} {rb : Nat} {S : List Tm} (h : Bo W w b c rb S) (x : Nat) (hx : x < 18446744073709551616) : Calls Try.prog 15 #[.pointer (some ⟨b, 0, none⟩), .float .f64 x] w fun e w' => ∃ ids, e = .returned (.tuple #[ids, .int .i64 (goF c.now x S).2.2.2]) ∧ Mid W w' b ⟨(goF c.now x S).2.2.1, c.nx⟩ (goF c.now x S).2.1 rb c.now (c.nx - 1) S ∧ Ids w.heap.size w' ids (goF c.now x S).1 ∧ (∀ vr : Value, ∀ k, RA w rb c.now (c.nx - 1) vr S → Own rb vr k → k < w.heap.size) := by
  obtain ⟨v, l, vr, h⟩ := h
  refine (mine_go h.m x hx).mono ?_
  rintro e w' ⟨ids, v', l', rfl, m, I, s, _⟩
  exact ⟨ids, rfl, ⟨v', l', vr, h.left m s⟩, I, fun vr k hA hk => hA.lt k hk⟩
end Go.Proofs.Ytjplkffghfikgaa.Ck

/-
  The clock and the document's: New, Go, Jump; the sum of two numbers.
-/
namespace Go.Proofs.Ytjplkffghfikgaa.Ck
open Go.RowKit Rl
set_option linter.unusedVariables false
/-- Between two calls that answer lists. -/
def MidI (W w : World) (b : Nat) (c : C) (S : List Tm) (rb now : Nat) (N : Int) (Sr : List Tm) (ids : Value) (L : List Int) : Prop := ∃ v l vr B, Ha W w b c v l S rb now N vr Sr ∧ Ids B w ids L ∧ ∀ k, ids.ownBlock = some k → ¬ Own rb vr k
theorem Bo.go2 {W w : World} {b : Nat} {c : C} {rb : Nat} {S : List Tm} (h : Bo W w b c rb S) (x : Nat) (hx : x < 18446744073709551616) : Calls Try.prog 15 #[.pointer (some ⟨b, 0, none⟩), .float .f64 x] w fun e w' => ∃ ids, e = .returned (.tuple #[ids, .int .i64 (goF c.now x S).2.2.2]) ∧ MidI W w' b ⟨(goF c.now x S).2.2.1, c.nx⟩ (goF c.now x S).2.1 rb c.now (c.nx - 1) S ids (goF c.now x S).1 := by
  obtain ⟨v, l, vr, h⟩ := h
  refine (mine_go h.m x hx).mono ?_
  rintro e w' ⟨ids, v', l', rfl, m, I, s, _⟩
  exact ⟨ids, rfl, v', l', vr, _, h.left m s, I, fun k hk hc => by have := (I.lt k hk).1; have := h.ra.lt k hc; omega⟩
theorem MidI.go2 {W w : World} {b : Nat} {c : C} {rb : Nat} {S : List Tm} {ids : Value} {x : Nat} (h : MidI W w b ⟨(goF c.now x S).2.2.1, c.nx⟩ (goF c.now x S).2.1 rb c.now (c.nx - 1) S ids (goF c.now x S).1) (htt : Tt S) (hlen : S.length ≤ 256) (hn : c.now < 9218868437227405312) (hx : x < 18446744073709551616) : Calls Try.prog 16 #[.pointer (some ⟨rb, 0, none⟩), .float .f64 x] w fun e w' => ∃ ids2, e = .returned (.tuple #[ids2, .int .i64 (goF c.now x S).2.2.2]) ∧ Bo W w' b ⟨(goF c.now x S).2.2.1, c.nx⟩ rb (goF c.now x S).2.1 ∧ Nm w' ids (goF c.now x S).1 ∧ Nm w' ids2 (goF c.now x S).1 := by
  obtain ⟨v, l, vr, B, h, I, hf⟩ := h
  refine (rgo_any w rb c.now x (c.nx - 1) vr S h.ra htt hlen hn hx).mono ?_
  rintro e w' ⟨ids2, v', rfl, m, I2, s⟩
  exact ⟨ids2, rfl, ⟨v, l, v', h.right m s⟩, (I.but s.1 hf).nm, I2.nm⟩
theorem Bo.jump2 {W w : World} {b : Nat} {c : C} {rb : Nat} {S : List Tm} (h : Bo W w b c rb S) : Calls Try.prog 18 #[.pointer (some ⟨b, 0, none⟩)] w fun e w' => ∃ ids, e = .returned ids ∧ MidI W w' b ⟨(jumpF c.now S).2.2.1, c.nx⟩ (jumpF c.now S).2.1 rb c.now (c.nx - 1) S ids (jumpF c.now S).1 := by
  obtain ⟨v, l, vr, h⟩ := h
  refine (mine_jump h.m).mono ?_
  rintro e w' ⟨ids, v', l', rfl, m, I, s, _⟩
  exact ⟨ids, rfl, v', l', vr, _, h.left m s, I, fun k hk hc => by have := (I.lt k hk).1; have := h.ra.lt k hc; omega⟩
theorem MidI.jump2 {W w : World} {b : Nat} {c : C} {rb : Nat} {S : List Tm} {ids : Value} (h : MidI W w b ⟨(jumpF c.now S).2.2.1, c.nx⟩ (jumpF c.now S).2.1 rb c.now (c.nx - 1) S ids (jumpF c.now S).1) (htt : Tt S) (hlen : S.length ≤ 256) (hn : c.now < 9218868437227405312) : Calls Try.prog 19 #[.pointer (some ⟨rb, 0, none⟩)] w fun e w' => ∃ ids2, e = .returned ids2 ∧ Bo W w' b ⟨(jumpF c.now S).2.2.1, c.nx⟩ rb (jumpF c.now S).2.1 ∧ Nm w' ids (jumpF c.now S).1 ∧ Nm w' ids2 (jumpF c.now S).1 := by
  obtain ⟨v, l, vr, B, h, I, hf⟩ := h
  refine (rjump_any w rb c.now (c.nx - 1) vr S h.ra htt hlen hn).mono ?_
  rintro e w' ⟨ids2, v', rfl, m, I2, s⟩
  exact ⟨ids2, rfl, ⟨v, l, v', h.right m s⟩, (I.but s.1 hf).nm, I2.nm⟩
theorem ids_self (w : World) (v u : Value) (A : List Int) (hv : Nm w v A) (hu : Nm w u A) : Calls Try.prog 17 #[v, u] w fun e w' => e = .returned (.bool true) ∧ Below w.heap.size w w' := by
  refine (ids_any w v u A A hv hu).mono ?_
  rintro e w' ⟨rfl, hq⟩
  exact ⟨by simp, hq.below _⟩
theorem new_no (w : World) (s : Nat) (hs : s < 18446744073709551616) (h : timeB s = false) : Calls Try.prog 8 #[.float .f64 s] w fun e w' => e = .returned (.tuple #[.pointer none, .int .i64 1]) ∧ Below w.heap.size w w' := by
  refine (new_any w s hs).mono ?_
  rintro e w' ⟨hb, ⟨_, rfl⟩ | ⟨q, _⟩⟩
  · exact ⟨rfl, hb⟩
  · rw [h] at q; cases q
theorem rnew_no (w : World) (s : Nat) (hs : s < 18446744073709551616) (h : timeB s = false) : Calls Try.prog 10 #[.float .f64 s] w fun e w' => e = .returned (.tuple #[.pointer none, .int .i64 1]) ∧ Below w.heap.size w w' := by
  refine (rnew_any w s hs).mono ?_
  rintro e w' ⟨hb, ⟨_, rfl⟩ | ⟨q, _⟩⟩
  · exact ⟨rfl, hb⟩
  · rw [h] at q; cases q
theorem new_ok {W w : World} (s : Nat) (hs : s < 18446744073709551616) (h : timeB s = true) (hW : Below W.heap.size W w) : Calls Try.prog 8 #[.float .f64 s] w fun e w' => ∃ b, e = .returned (.tuple #[.pointer (some ⟨b, 0, none⟩), .int .i64 0]) ∧ Mine W w' b ⟨plusB s, 1⟩ (.slice none 0 0) [] [] := by
  refine (new_any w s hs).mono ?_
  rintro e w' ⟨hb, ⟨q, _⟩ | ⟨_, b, hwb, rfl, ha⟩⟩
  · rw [h] at q; cases q
  · exact ⟨b, rfl, Mine.new hW hb hwb ha (plus_time h)⟩
theorem rnew_ok {W w : World} {b : Nat} (s : Nat) (hs : s < 18446744073709551616) (h : timeB s = true) (m : Mine W w b ⟨plusB s, 1⟩ (.slice none 0 0) [] []) : Calls Try.prog 10 #[.float .f64 s] w fun e w' => ∃ rb, e = .returned (.tuple #[.pointer (some ⟨rb, 0, none⟩), .int .i64 0]) ∧ Bo W w' b ⟨plusB s, 1⟩ rb [] := by
  refine (rnew_any w s hs).mono ?_
  rintro e w' ⟨hb, ⟨q, _⟩ | ⟨_, rb, hwb, rfl, ha⟩⟩
  · rw [h] at q; cases q
  · refine ⟨rb, rfl, _, _, _, m.quiet hb, ha, ?_, ?_⟩
    · rintro k (rfl | hk)
      · exact Nat.le_trans m.below.size hwb
      · simp [Value.ownBlock] at hk
    · rintro k ho (rfl | hk)
      · have := m.ck.at_.lt _ ho; omega
      · simp [Value.ownBlock] at hk
def nanAt (w : World) (x y : Nat) : Nat := (Question.nanBits .f64 x y).cut (w.tape w.drawn (.nanBits .f64 x y))
theorem nan_lt (w : World) (x y : Nat) : nanAt w x y < 18446744073709551616 := by
  have e : nanAt w x y = (w.tape w.drawn (.nanBits .f64 x y) % 2) * 2 ^ 63 + 9218868437227405312 + 1 + (w.tape w.drawn (.nanBits .f64 x y) / 2) % (2 ^ 52 - 1) := rfl
  rw [e]
  generalize w.tape w.drawn (.nanBits .f64 x y) = t
  have h1 : (t / 2) % (2 ^ 52 - 1) < 2 ^ 52 - 1 := Nat.mod_lt _ (by decide)
  generalize (t / 2) % (2 ^ 52 - 1) = a at *
  omega
/-- The sum of two numbers: it, or some NaN that is drawn. -/
theorem add_two (x y : Nat) (w : World) : ∃ r w', (binOp .add 29 (.float .f64 x) (.float .f64 y)).run Try.prog w = .ok (.float .f64 r) w' ∧ r < 18446744073709551616 ∧ Below w.heap.size w w' := by
  cases h2 : FloatKind.f64.format.add x y with
  | none => exact ⟨nanAt w x y, w.drew, by simp [binOp, Op.floatArith, h2, nanAt, Question.forced], nan_lt w x y, (Below.refl _ _).drew⟩
  | some r => exact ⟨r, w, by simp [binOp, Op.floatArith, h2], Ieee.Format.add_lt _ h2, Below.refl _ _⟩
end Go.Proofs.Ytjplkffghfikgaa.Ck

/-
  The walk of ClockAll. (gen_Co1.py)
-/
namespace Go.Proofs.Ytjplkffghfikgaa.Ck
open Go.RowKit Rl
open Ix (wp_region_T wpAnyT wpAnyT_take wpAnyT_one wpAnyT_done vac)
set_option linter.unusedVariables false
def CopAt (q : World) (ob o : Nat) (kd xi id : Int) : Prop := q.cell? ⟨ob, o, none⟩ = some (.int .i64 kd) ∧ q.cell? ⟨ob, o + 1, none⟩ = some (.int .u64 xi) ∧ q.cell? ⟨ob, o + 2, none⟩ = some (.int .i64 id)
theorem AtCops.get {W : World} {ao : Option Addr} {os : List (Int × Int × Int)} (h : AtCops W ao os) (i : Nat) (hi : i < os.length) : ∃ ob off, ao = some ⟨ob, off, none⟩ ∧ ∀ q, Below W.heap.size W q → CopAt q ob (off + i * 3) os[i].1 os[i].2.1 os[i].2.2 := by
  obtain ⟨ob, off, e, h0, h1, h2⟩ := h i hi
  refine ⟨ob, off, e, fun q hq => ⟨?_, ?_, ?_⟩⟩
  · rw [hq.cell (p := ⟨ob, off + i * 3, none⟩) (lt_of_cell h0)]; exact h0
  · rw [hq.cell (p := ⟨ob, off + i * 3 + 1, none⟩) (lt_of_cell h1)]; exact h1
  · rw [hq.cell (p := ⟨ob, off + i * 3 + 2, none⟩) (lt_of_cell h2)]; exact h2
/-- What a clock has. -/
structure Cf (c : C) (S : List Tm) : Prop where
  un : Un S
  nb : Nb c.nx S
  tt : Tt S
  len : S.length ≤ 256
  now : c.now < 9218868437227405312
  nx : 1 ≤ c.nx
theorem Bo.cf {W w : World} {b : Nat} {c : C} {rb : Nat} {S : List Tm} (h : Bo W w b c rb S) : Cf c S := by
  obtain ⟨v, l, vr, h⟩ := h
  exact ⟨h.m.un, h.m.nb, h.m.ck.tt, h.m.ck.len, h.m.ck.now, h.m.ck.nx⟩
theorem Mid.below {W w : World} {b : Nat} {c : C} {S : List Tm} {rb now : Nat} {N : Int} {Sr : List Tm} (h : Mid W w b c S rb now N Sr) : Below W.heap.size W w := by
  obtain ⟨v, l, vr, h⟩ := h
  exact h.m.below
theorem Bo.now {W w : World} {b : Nat} {c : C} {rb : Nat} {S : List Tm} (h : Bo W w b c rb S) : w.cell? ⟨rb, 0, none⟩ = some (.float .f64 c.now) := by
  obtain ⟨v, l, vr, h⟩ := h
  exact h.ra.cells.1
set_option maxRecDepth 100000 in
set_option maxHeartbeats 16000000 in
theorem all_walk16 (W : World) (u : Int) (ao : Option Addr) (cap : Nat) (os : List (Int × Int × Int)) (hlen : os.length ≤ 9223372036854775807) (hat : AtCops W ao os) (hok : ∀ o ∈ os, CopOk o) (hu : 0 ≤ u ∧ u < 18446744073709551616) :
    Calls Try.prog 3 #[.int .u64 u, .slice ao os.length cap] W fun e w' => e = .returned (.bool true) ∧ Below W.heap.size W w' := by
  have hB := begun16_any W
  have ku := of_run u
  obtain ⟨s, hs⟩ : ∃ s, Hid (u.toNat = s) := ⟨_, rfl⟩
  rw [hs.out] at ku
  have hs6 : s < 18446744073709551616 := by have := hs.out; omega
  obtain ⟨N, hN⟩ : ∃ N, Hid (os.length = N) := ⟨_, rfl⟩
  rw [hN.out] at hlen ⊢
  replace hat := hide hat
  replace hok := hide hok
  clear hu
  cases htb : timeB s
  · go_enter Try.func3, Try.ntmps3
    go_wp2_with (first | (go_at_call 7; refine hB.mono ?_; rintro e w1 ⟨rfl, b1⟩) | (go_at_call 8; refine (new_no _ s hs6 htb).mono ?_; rintro e w2 ⟨rfl, b2⟩) | (go_at_call 10; refine (rnew_no _ s hs6 htb).mono ?_; rintro e w3 ⟨rfl, b3⟩) | fail)
    go_ret
    exact ⟨rfl, keepF (keepF b1 b2) b3⟩
  · go_enter Try.func3, Try.ntmps3
    go_wp2_with (first | (go_at_call 7; refine hB.mono ?_; rintro e w1 ⟨rfl, b1⟩) | (go_at_call 8; refine (new_ok s hs6 htb b1).mono ?_; rintro e w2 ⟨b, rfl, m2⟩) | (go_at_call 10; refine (rnew_ok s hs6 htb m2).mono ?_; rintro e w3 ⟨rb, rfl, B3⟩) | fail)
    replace B3 := hide B3
    clear b1 m2 hB ku
    generalize plusB s = n0 at *
    go_loopw [9] (fun iv wr => ∃ (i : Nat) (c : C) (S : List Tm), iv = .int .i64 i ∧ i ≤ N ∧ i ≤ 400 ∧ c.nx ≤ 1 + (i : Int) ∧ Hid (Bo W wr b c rb S)) (fun iv _ => N - (intOf iv).toNat)
    case atStart => exact ⟨0, ⟨n0, 1⟩, [], rfl, Nat.zero_le _, Nat.zero_le _, by simp, B3.out⟩
    case round =>
      clear B3
      obtain ⟨i, c, S, rfl, hi, hi4, hcx, hQ⟩ := hrel
      by_cases hlt : i < N ∧ i < 400
      · obtain ⟨hlt, hlt4⟩ := hlt
        have i1 : (i : Int) < (N : Int) := by omega
        have i2 : (i : Int) < 400 := by omega
        have i0 : (0 : Int) ≤ (i : Int) := by omega
        have hio : i < os.length := by rw [hN.out]; exact hlt
        obtain ⟨ob, off, rfl, hD⟩ := hat.out.get i hio
        replace hD := hide hD
        have hxo := (hok.out os[i] (List.getElem_mem hio)).2.1
        have hF := hide hQ.out.cf
        generalize os[i].1 = kd at *
        generalize os[i].2.1 = xi at *
        generalize os[i].2.2 = id at *
        obtain ⟨o, ho⟩ : ∃ o, Hid (off + i * 3 = o) := ⟨_, rfl⟩
        rw [ho.out] at hD
        obtain ⟨d0, d1, d2⟩ := hD.out wr hQ.out.below
        rw [← ho.out] at d0 d1 d2
        have kx := of_run xi
        obtain ⟨x, hx⟩ : ∃ x, Hid (xi.toNat = x) := ⟨_, rfl⟩
        rw [hx.out] at kx
        have hx6 : Hid (x < 18446744073709551616) := by show _ < _; have := hx.out; omega
        clear hxo hio
        by_cases k1 : kd = 1
        · subst k1
          have hA := hQ.out.after x hx6.out (by omega)
          have hM := hide (fun w m => Mid.after (W := W) (w := w) (b := b) (c := c) (rb := rb) (S := S) x m hF.out.nb hF.out.tt hF.out.len hF.out.now hx6.out hF.out.nx (by omega))
          have hnx := (aft_ok (now := c.now) (d := x) hF.out.un hF.out.nb).2.2.2
          generalize aftF c.now c.nx x S = z at *
          obtain ⟨n, er, S', nx'⟩ := z
          go_wp2_with (first | (go_at_call 11; refine hA.mono ?_; rintro e w5 ⟨rfl, M5⟩; skip) | (go_at_call 12; refine (hM.out _ M5).mono ?_; rintro e w6 ⟨rfl, B6⟩) | (go_at_call 20; refine B6.same.mono ?_; rintro e w9 ⟨rfl, B9⟩; replace B9 := hide B9) | fail)
          go_roundw
          case rel => exact ⟨i + 1, ⟨c.now, nx'⟩, S', by go_num, by omega, by omega, by show nx' ≤ _; have h9 : nx' ≤ c.nx + 1 := hnx; push_cast; omega, B9.out⟩
          case measure => simp [intOf]; omega
        · by_cases k2 : kd = 2
          · subst k2
            go_upto_region 18 with fail
            have KP : Hid (CopAt wr.drew ob (off + i * 3) 2 xi id) := by rw [ho.out]; exact hD.out _ (hQ.out.below.trans ((Below.refl _ _).drew.mono hQ.out.below.size))
            have KB : Hid (Bo W wr.drew b c rb S) := hQ.out.quiet (Below.refl _ _).drew
            have hA := hide (KB.out.cancel id)
            have hM := hide (fun w m => Mid.cancel (W := W) (w := w) (b := b) (c := c) (rb := rb) (S := S) (id := id) m hF.out.un hF.out.len)
            generalize canF id S = z at *
            obtain ⟨S', er⟩ := z
            refine wp_region_T (fun q => CopAt q ob (off + i * 3) 2 xi id) 15 (by kernel_rfl) ?_
            clear d0 d1 d2
            generalize wr.drew = q at *
            refine wpAnyT_take (i := 0) (oi := { dst := some 93, op := Op.move (Operand.tmp 5), type := 25, pos := "law.go:93", after := #[], guard := none }) (v := .pointer (some ⟨b, 0, none⟩)) [6, 14, 15] rfl (by kernel_rfl) (by kernel_rfl) (by kernel_rfl) (by kernel_rfl) (fun _ _ _ h => h) (Or.inl ⟨by rfl, ?_⟩) KP.out ?_
            · intro wq hSw
              obtain ⟨y0, y1, y2⟩ := hSw
              go_simp
            (try simp only [Act.put, List.setIfInBounds_toArray, List.set_cons_zero, List.set_cons_succ])
            refine wpAnyT_take (i := 1) (oi := { dst := some 94, op := Op.move (Operand.tmp 1), type := 23, pos := "law.go:93", after := #[], guard := none }) (v := .slice (some ⟨ob, off, none⟩) N cap) [3, 4, 5, 6, 14, 15] rfl (by kernel_rfl) (by kernel_rfl) (by kernel_rfl) (by kernel_rfl) (fun _ _ _ h => h) (Or.inl ⟨by rfl, ?_⟩) KP.out ?_
            · intro wq hSw
              obtain ⟨y0, y1, y2⟩ := hSw
              go_simp
            (try simp only [Act.put, List.setIfInBounds_toArray, List.set_cons_zero, List.set_cons_succ])
            refine wpAnyT_take (i := 2) (oi := { dst := some 95, op := Op.move (Operand.tmp 9), type := 3, pos := "law.go:93", after := #[], guard := none }) (v := .int .i64 (i : Int)) [3, 4, 5, 6, 14, 15] rfl (by kernel_rfl) (by kernel_rfl) (by kernel_rfl) (by kernel_rfl) (fun _ _ _ h => h) (Or.inl ⟨by rfl, ?_⟩) KP.out ?_
            · intro wq hSw
              obtain ⟨y0, y1, y2⟩ := hSw
              go_simp
            (try simp only [Act.put, List.setIfInBounds_toArray, List.set_cons_zero, List.set_cons_succ])
            refine wpAnyT_take (i := 3) (oi := { dst := some 96, op := Op.indexAddr 23 (Operand.tmp 94) (Operand.tmp 95), type := 0, pos := "law.go:93", after := #[{ on := 1, ground := Ground.data }, { on := 2, ground := Ground.data }], guard := none }) (v := .pointer (some ⟨ob, off + i * 3, none⟩)) [4, 5, 6, 14, 15] rfl (by kernel_rfl) (by kernel_rfl) (by kernel_rfl) (by kernel_rfl) (fun _ _ _ h => h) (Or.inl ⟨by rfl, ?_⟩) KP.out ?_
            · intro wq hSw
              obtain ⟨y0, y1, y2⟩ := hSw
              go_simp
            (try simp only [Act.put, List.setIfInBounds_toArray, List.set_cons_zero, List.set_cons_succ])
            refine wpAnyT_take (i := 4) (oi := { dst := some 97, op := Op.fieldAddr 35 (Operand.tmp 96) 2, type := 0, pos := "law.go:93", after := #[{ on := 3, ground := Ground.data }], guard := none }) (v := .pointer (some ⟨ob, off + i * 3 + 2, none⟩)) [5, 6, 14, 15] rfl (by kernel_rfl) (by kernel_rfl) (by kernel_rfl) (by kernel_rfl) (fun _ _ _ h => h) (Or.inl ⟨by rfl, ?_⟩) KP.out ?_
            · intro wq hSw
              obtain ⟨y0, y1, y2⟩ := hSw
              go_simp
            (try simp only [Act.put, List.setIfInBounds_toArray, List.set_cons_zero, List.set_cons_succ])
            refine wpAnyT_take (i := 5) (oi := { dst := some 98, op := Op.load 3 (Operand.tmp 97), type := 3, pos := "law.go:93", after := #[{ on := 4, ground := Ground.data }], guard := none }) (v := .int .i64 id) [6, 14, 15] rfl (by kernel_rfl) (by kernel_rfl) (by kernel_rfl) (by kernel_rfl) (fun _ _ _ h => h) (Or.inl ⟨by rfl, ?_⟩) KP.out ?_
            · intro wq hSw
              obtain ⟨y0, y1, y2⟩ := hSw
              go_simp
            (try simp only [Act.put, List.setIfInBounds_toArray, List.set_cons_zero, List.set_cons_succ])
            refine wpAnyT_take (i := 7) (oi := { dst := some 100, op := Op.move (Operand.tmp 7), type := 31, pos := "law.go:93", after := #[], guard := none }) (v := .pointer (some ⟨rb, 0, none⟩)) [13, 14, 15] rfl (by kernel_rfl) (by kernel_rfl) (by kernel_rfl) (by kernel_rfl) (fun _ _ _ h => h) (Or.inl ⟨by rfl, ?_⟩) KP.out ?_
            · intro wq hSw
              obtain ⟨y0, y1, y2⟩ := hSw
              go_simp
            (try simp only [Act.put, List.setIfInBounds_toArray, List.set_cons_zero, List.set_cons_succ])
            refine wpAnyT_take (i := 8) (oi := { dst := some 101, op := Op.move (Operand.tmp 1), type := 23, pos := "law.go:93", after := #[], guard := none }) (v := .slice (some ⟨ob, off, none⟩) N cap) [10, 11, 12, 13, 14, 15] rfl (by kernel_rfl) (by kernel_rfl) (by kernel_rfl) (by kernel_rfl) (fun _ _ _ h => h) (Or.inl ⟨by rfl, ?_⟩) KP.out ?_
            · intro wq hSw
              obtain ⟨y0, y1, y2⟩ := hSw
              go_simp
            (try simp only [Act.put, List.setIfInBounds_toArray, List.set_cons_zero, List.set_cons_succ])
            refine wpAnyT_take (i := 9) (oi := { dst := some 102, op := Op.move (Operand.tmp 9), type := 3, pos := "law.go:93", after := #[], guard := none }) (v := .int .i64 (i : Int)) [10, 11, 12, 13, 14, 15] rfl (by kernel_rfl) (by kernel_rfl) (by kernel_rfl) (by kernel_rfl) (fun _ _ _ h => h) (Or.inl ⟨by rfl, ?_⟩) KP.out ?_
            · intro wq hSw
              obtain ⟨y0, y1, y2⟩ := hSw
              go_simp
            (try simp only [Act.put, List.setIfInBounds_toArray, List.set_cons_zero, List.set_cons_succ])
            refine wpAnyT_take (i := 10) (oi := { dst := some 103, op := Op.indexAddr 23 (Operand.tmp 101) (Operand.tmp 102), type := 0, pos := "law.go:93", after := #[{ on := 8, ground := Ground.data }, { on := 9, ground := Ground.data }], guard := none }) (v := .pointer (some ⟨ob, off + i * 3, none⟩)) [11, 12, 13, 14, 15] rfl (by kernel_rfl) (by kernel_rfl) (by kernel_rfl) (by kernel_rfl) (fun _ _ _ h => h) (Or.inl ⟨by rfl, ?_⟩) KP.out ?_
            · intro wq hSw
              obtain ⟨y0, y1, y2⟩ := hSw
              go_simp
            (try simp only [Act.put, List.setIfInBounds_toArray, List.set_cons_zero, List.set_cons_succ])
            refine wpAnyT_take (i := 11) (oi := { dst := some 104, op := Op.fieldAddr 35 (Operand.tmp 103) 2, type := 0, pos := "law.go:93", after := #[{ on := 10, ground := Ground.data }], guard := none }) (v := .pointer (some ⟨ob, off + i * 3 + 2, none⟩)) [12, 13, 14, 15] rfl (by kernel_rfl) (by kernel_rfl) (by kernel_rfl) (by kernel_rfl) (fun _ _ _ h => h) (Or.inl ⟨by rfl, ?_⟩) KP.out ?_
            · intro wq hSw
              obtain ⟨y0, y1, y2⟩ := hSw
              go_simp
            (try simp only [Act.put, List.setIfInBounds_toArray, List.set_cons_zero, List.set_cons_succ])
            refine wpAnyT_take (i := 12) (oi := { dst := some 105, op := Op.load 3 (Operand.tmp 104), type := 3, pos := "law.go:93", after := #[{ on := 11, ground := Ground.data }], guard := none }) (v := .int .i64 id) [13, 14, 15] rfl (by kernel_rfl) (by kernel_rfl) (by kernel_rfl) (by kernel_rfl) (fun _ _ _ h => h) (Or.inl ⟨by rfl, ?_⟩) KP.out ?_
            · intro wq hSw
              obtain ⟨y0, y1, y2⟩ := hSw
              go_simp
            (try simp only [Act.put, List.setIfInBounds_toArray, List.set_cons_zero, List.set_cons_succ])
            refine wpAnyT_one (i := 6) (o := { dst := some 99, op := Op.call { callee := Callee.value (Operand.func 13), args := #[Operand.tmp 93, Operand.tmp 98], argTypes := #[25, 3] }, type := 26, pos := "law.go:93", after := #[{ on := 0, ground := Ground.data }, { on := 5, ground := Ground.data }], guard := none }) (by kernel_rfl) rfl (fun K hK => ?_)
            go_simp
            go_at_call 13
            refine (hA.out).mono ?_
            rintro e w5 ⟨rfl, M5⟩
            (try go_simp)
            refine hK.out _ _ (fun _ => by rw [ho.out]; exact hD.out _ M5.below) ?_
            clear hK K
            (try simp only [Act.put, List.setIfInBounds_toArray, List.set_cons_zero, List.set_cons_succ])
            refine wpAnyT_one (i := 13) (o := { dst := some 106, op := Op.call { callee := Callee.value (Operand.func 14), args := #[Operand.tmp 100, Operand.tmp 105], argTypes := #[31, 3] }, type := 26, pos := "law.go:93", after := #[{ on := 7, ground := Ground.data }, { on := 12, ground := Ground.data }, { on := 6, ground := Ground.chain }], guard := none }) (by kernel_rfl) rfl (fun K hK => ?_)
            go_simp
            go_at_call 14
            refine (hM.out _ M5).mono ?_
            rintro e w6 ⟨rfl, B6⟩
            (try go_simp)
            refine hK.out _ _ (fun _ => by rw [ho.out]; exact hD.out _ B6.below) ?_
            clear hK K
            (try simp only [Act.put, List.setIfInBounds_toArray, List.set_cons_zero, List.set_cons_succ])
            refine wpAnyT_one (i := 14) (o := { dst := some 107, op := Op.binOp BinOp.eql 26 (Operand.tmp 99) (Operand.tmp 106) 26, type := 4, pos := "law.go:93", after := #[{ on := 6, ground := Ground.data }, { on := 13, ground := Ground.data }], guard := none }) (by kernel_rfl) rfl (fun K hK => ?_)
            go_simp
            refine hK.out _ _ (fun _ => by rw [ho.out]; exact hD.out _ B6.below) ?_
            clear hK K
            (try simp only [Act.put, List.setIfInBounds_toArray, List.set_cons_zero, List.set_cons_succ])
            refine wpAnyT_one (i := 15) (o := { dst := some 11, op := Op.assign (Operand.tmp 107), type := 4, pos := "law.go:93", after := #[{ on := 14, ground := Ground.data }, { on := 13, ground := Ground.chain }, { on := 0, ground := Ground.phase }, { on := 1, ground := Ground.phase }, { on := 2, ground := Ground.phase }, { on := 3, ground := Ground.phase }, { on := 4, ground := Ground.phase }, { on := 5, ground := Ground.phase }, { on := 6, ground := Ground.phase }, { on := 7, ground := Ground.phase }, { on := 8, ground := Ground.phase }, { on := 9, ground := Ground.phase }, { on := 10, ground := Ground.phase }, { on := 11, ground := Ground.phase }, { on := 12, ground := Ground.phase }, { on := 13, ground := Ground.phase }, { on := 14, ground := Ground.phase }], guard := none }) (by kernel_rfl) rfl (fun K hK => ?_)
            go_simp
            refine hK.out _ _ (vac (by kernel_rfl)) ?_
            clear hK K
            (try simp only [Act.put, List.setIfInBounds_toArray, List.set_cons_zero, List.set_cons_succ])
            refine wpAnyT_done (by kernel_rfl) ?_ _
            go_wp2_with (first | (go_at_call 20; refine B6.same.mono ?_; rintro e w9 ⟨rfl, B9⟩; replace B9 := hide B9) | fail)
            go_roundw
            case rel => exact ⟨i + 1, c, S', by go_num, by omega, by omega, by push_cast; omega, B9.out⟩
            case measure => simp [intOf]; omega
          · by_cases k5 : kd = 5
            · subst k5
              have hA := hQ.out.jump2
              have hM := hide (fun w v m => MidI.jump2 (W := W) (w := w) (b := b) (c := c) (rb := rb) (S := S) (ids := v) m hF.out.tt hF.out.len hF.out.now)
              generalize jumpF c.now S = z at *
              obtain ⟨L, S', nw', er⟩ := z
              go_wp2_with (first | (go_at_call 18; refine hA.mono ?_; rintro e w5 ⟨ids, rfl, M5⟩) | (go_at_call 19; refine (hM.out _ _ M5).mono ?_; rintro e w6 ⟨ids2, rfl, B6, I6, I7⟩) | (go_at_call 17; refine (ids_self _ _ _ _ I6 I7).mono ?_; rintro e w7 ⟨rfl, b7⟩; have B7 := B6.quiet b7) | (go_at_call 20; refine B7.same.mono ?_; rintro e w9 ⟨rfl, B9⟩; replace B9 := hide B9) | fail)
              go_roundw
              case rel => exact ⟨i + 1, ⟨nw', c.nx⟩, S', by go_num, by omega, by omega, by show c.nx ≤ _; push_cast; omega, B9.out⟩
              case measure => simp [intOf]; omega
            · by_cases k3 : kd = 3
              · subst k3
                have hA := hQ.out.go2 x hx6.out
                have hM := hide (fun w v m => MidI.go2 (W := W) (w := w) (b := b) (c := c) (rb := rb) (S := S) (ids := v) (x := x) m hF.out.tt hF.out.len hF.out.now hx6.out)
                generalize goF c.now x S = z at *
                obtain ⟨L, S', nw', er⟩ := z
                go_wp2_with (first | (go_at_call 15; refine hA.mono ?_; rintro e w5 ⟨ids, rfl, M5⟩) | (go_at_call 16; refine (hM.out _ _ M5).mono ?_; rintro e w6 ⟨ids2, rfl, B6, I6, I7⟩) | (go_at_call 17; refine (ids_self _ _ _ _ I6 I7).mono ?_; rintro e w7 ⟨rfl, b7⟩; have B7 := B6.quiet b7) | (go_at_call 20; refine B7.same.mono ?_; rintro e w9 ⟨rfl, B9⟩; replace B9 := hide B9) | fail)
                go_roundw
                case rel => exact ⟨i + 1, ⟨nw', c.nx⟩, S', by go_num, by omega, by omega, by show c.nx ≤ _; push_cast; omega, B9.out⟩
                case measure => simp [intOf]; omega
              · by_cases k4 : kd = 4
                · subst k4
                  obtain ⟨r, wz, hadd, hr6, bz⟩ := add_two c.now x wr
                  have c0 := hQ.out.now
                  have Bz := hQ.out.quiet bz
                  have hA := Bz.go2 r hr6
                  have hM := hide (fun w v m => MidI.go2 (W := W) (w := w) (b := b) (c := c) (rb := rb) (S := S) (ids := v) (x := r) m hF.out.tt hF.out.len hF.out.now hr6)
                  generalize goF c.now r S = z at *
                  obtain ⟨L, S', nw', er⟩ := z
                  go_wp2_with (first | (go_at_call 15; refine hA.mono ?_; rintro e w5 ⟨ids, rfl, M5⟩) | (go_at_call 16; refine (hM.out _ _ M5).mono ?_; rintro e w6 ⟨ids2, rfl, B6, I6, I7⟩) | (go_at_call 17; refine (ids_self _ _ _ _ I6 I7).mono ?_; rintro e w7 ⟨rfl, b7⟩; have B7 := B6.quiet b7) | (go_at_call 20; refine B7.same.mono ?_; rintro e w9 ⟨rfl, B9⟩; replace B9 := hide B9) | fail)
                  go_roundw
                  case rel => exact ⟨i + 1, ⟨nw', c.nx⟩, S', by go_num, by omega, by omega, by show c.nx ≤ _; push_cast; omega, B9.out⟩
                  case measure => simp [intOf]; omega
                · go_wp2_with (first | (go_at_call 20; refine hQ.out.same.mono ?_; rintro e w9 ⟨rfl, B9⟩; replace B9 := hide B9) | fail)
                  go_roundw
                  case rel => exact ⟨i + 1, c, S, by go_num, by omega, by omega, by push_cast; omega, B9.out⟩
                  case measure => simp [intOf]; omega
      · have hex : ((i : Int) < (N : Int) ∧ ¬ ((i : Int) < 400)) ∨ ¬ ((i : Int) < (N : Int)) := by
          by_cases q : i < N
          · exact .inl ⟨by omega, by omega⟩
          · exact .inr (by omega)
        have FIN := hide hQ.out.below
        clear hlt
        rcases hex with ⟨i1, i2⟩ | i1
        all_goals
          go_wp2_with fail
          go_ret
          exact ⟨rfl, FIN.out⟩
end Go.Proofs.Ytjplkffghfikgaa.Ck

