/-
  The walk of IndexCuts.
-/
import Derived.Test.YtoffahbnffhliaaIxR
import Derived.Test.YtoffahbnffhliaaIxQ
namespace Go.Proofs.Ytoffahbnffhliaa.Ix
open Go.RowKit

/-- How far the first telling has come: the index b1 was told the places os, the index b2 nothing. -/
structure C1 (w wr : World) (b1 b2 : Nat) (st : Nat) (x1 : X) (v1 : Value) (x2 : X) (v2 : Value) (vo : Value) (os : List Int) (off : Int) : Prop where
  pair : Pair TI TI w wr b1 x1 v1 b2 x2 v2
  row : Offs w.heap.size wr vo os
  up : ∀ p ∈ os, p < off
  inc : Inc os
  o0 : 0 ≤ off
  o1 : off ≤ 65536 * (os.length : Int)
/-- How far the last telling has come: both were told the same. -/
structure C3 (w wr : World) (b1 b2 : Nat) (st : Nat) (v1 v2 : Value) (ps : List Int) (aa : Int) (k : Nat) : Prop where
  pair : Pair TI TI w wr b1 (told 1 st ps) v1 b2 (told 1 st ps) v2
  up : ∀ p ∈ ps, p < aa
  inc : Inc ps
  o0 : 0 ≤ aa
  o1 : aa ≤ 65536 * 200 + 1 + 65536 * (k : Int)
theorem Offs.own2 {B : Nat} {w wr C : World} {v : Value} {os : List Int} {b1 b2 : Nat} {x1 x2 : X} {v1 v2 : Value} (h : Offs B wr v os) (hp : Pair TI TI w wr b1 x1 v1 b2 x2 v2) (hb : But (Own b1 v1) wr C) : Offs B C v os := h.own hp.m1.at0 (by decide) hb
theorem Pair.offs {B : Nat} {w wr u w3 : World} {b1 b2 : Nat} {x1 x2 : X} {v1 v2 vo vo' : Value} {os : List Int} {o : Int} (hp : Pair TI TI w wr b1 x1 v1 b2 x2 v2) (hr : Offs B wr vo os) (hB : w.heap.size ≤ B) (hu : Below wr.heap.size wr u) (hg : u.grownBy w3 vo.ownBlock)
    (ho : w3.ownsRow B 3 1 vo' (os.length + 1) (os.map (Value.int .i64) ++ [.int .i64 o])) : Pair TI TI w w3 b1 x1 v1 b2 x2 v2 ∧ Offs B w3 vo' (os ++ [o]) := by
  obtain ⟨a1, a2, a3⟩ := offs_app hp.m1.at0 hr (by decide) hu hg ho
  obtain ⟨c1, _, _⟩ := offs_app hp.m2.at0 hr (by decide) hu hg ho
  have hbel : Below w.heap.size w w3 := hp.m1.bel.trans (a3.below hp.m1.bel.size fun k hk => Nat.le_trans hB (World.ownsRow.lt hr k hk).1)
  exact ⟨⟨⟨a1, hbel, hp.m1.lo, hp.m1.own⟩, ⟨c1, hbel, hp.m2.lo, hp.m2.own⟩, hp.ne, hp.ap⟩, a2⟩
theorem row_get {w : World} {ao : Option Addr} {us : List Int} {k : IntKind} (g5 : Proofs.Ytoffahbnffhliaa.At w ao (us.map (Value.int k))) : ∀ i (hi : i < us.length), ∃ b off, ao = some ⟨b, off, none⟩ ∧ w.cell? ⟨b, off + i, none⟩ = some (.int k us[i]) := fun i hi => by
  obtain ⟨b, off, e, hc⟩ := g5 i (by simpa using hi)
  exact ⟨b, off, e, by rw [hc]; simp⟩
/-- What a cut leaves are the entries of the frames ahead of it. -/
theorem cut_l {os : List Int} {st c : Nat} (h0 : 1 ≤ st) (h1 : st ≤ 1048576) (hi : Inc os) (hl : (os.length : Int) ≤ 1000000) (hc : c < os.length) : (told 1 st (os.take (lastN os st c))).l = (told 1 st (os.take c)).l := by
  rw [← cut_told h0 h1 hi hl (by omega)]
  have hF := told_fnd h0 h1 (B := 1) (by omega) os hi (by omega)
  have hne : os ≠ [] := fun e => by subst e; simp at hc
  obtain ⟨a, b⟩ := hF.la hne
  have hcond : ¬ ((told 1 st os).l = [] ∨ (told 1 st os).la.1 < 1 + (c : Int)) := by
    rintro (g | g)
    · exact a g
    · rw [b] at g; simp only at g; omega
  rw [cutF, if_neg hcond]
  exact told_take h0 h1 (by omega) os hi (by omega) c (by omega)
theorem take_up {os : List Int} (h : Inc os) {i : Nat} (hi : i < os.length) : ∀ p ∈ os.take i, p < os[i] := by
  intro p hp
  obtain ⟨j, hj, rfl⟩ := List.getElem_of_mem hp
  rw [List.getElem_take]
  exact List.pairwise_iff_getElem.1 h.1 j i (by simp at hj; omega) hi (by simp at hj; omega)
set_option maxRecDepth 100000 in
set_option maxHeartbeats 8000000 in
theorem cuts_walk (w : World) (step cut : Int) (z y : Value) (us ms : List Int) (h0 : -9223372036854775808 ≤ step) (h1 : step ≤ 9223372036854775807) (c0 : -9223372036854775808 ≤ cut) (c1 : cut ≤ 9223372036854775807)
    (hz : Row w z (us.map (Value.int .u16))) (hu : ∀ u ∈ us, 0 ≤ u ∧ u ≤ 65535) (hy : Row w y (ms.map (Value.int .u16))) (hm : ∀ u ∈ ms, 0 ≤ u ∧ u ≤ 65535) :
    Calls Try.prog 7 #[.int .i64 step, z, .int .i64 cut, y] w fun e w' => e = .returned (.bool true) ∧ Below w.heap.size w w' := by
  obtain ⟨ao, ca, rfl, _, g3, g4, g5⟩ := hz
  obtain ⟨bo, cb, rfl, _, k3, k4, k5⟩ := hy
  have ham : ca ≤ 9223372036854775807 := by unfold maxLen at g4; omega
  have hbm : cb ≤ 9223372036854775807 := by unfold maxLen at k4; omega
  have HU := hide hu
  have HMs := hide hm
  have HZ := hide (row_get g5)
  have HY := hide (row_get k5)
  rw [List.length_map] at g3 k3
  obtain ⟨n, hn⟩ : ∃ n, Hid (us.length = n) := ⟨_, rfl⟩
  obtain ⟨m, hmm⟩ : ∃ m, Hid (ms.length = m) := ⟨_, rfl⟩
  rw [List.length_map, List.length_map, hn.out, hmm.out]
  rw [hn.out] at g3
  rw [hmm.out] at k3
  clear g4 g5 hu k4 k5 hm
  go_enter Try.func7, Try.ntmps7
  go_wp2_with fail
  refine (begun_any w).mono ?_
  rintro e w0 ⟨rfl, b0⟩
  replace b0 := hide b0
  go_wp2_with fail
  refine (new_any w0 step h0 h1).mono ?_
  rintro e w1 ⟨B1, ⟨h, rfl⟩ | ⟨q0, q1, b1, lo1, rfl, A1⟩⟩
  · have hB := hide (keepF b0.out B1)
    clear B1
    go_wp2_with fail
    refine (new_any w1 step h0 h1).mono ?_
    rintro e w2 ⟨B2, ⟨h', rfl⟩ | ⟨q0, q1, _⟩⟩
    · have hB2 := hide (keepF hB.out B2)
      clear B2 hB
      by_cases hs : step < 1
      · go_wp2_with fail
        go_ret
        exact ⟨rfl, hB2.out⟩
      · have hs2 : 1048576 < step := by omega
        go_wp2_with fail
        go_ret
        exact ⟨rfl, hB2.out⟩
    · exact absurd ⟨q0, q1⟩ h
  have hB := hide (keepF b0.out B1)
  have M1 : Hid (Mine TI w w1 b1 ⟨step.toNat, [], (0, 0)⟩ (.slice none 0 0)) := ⟨A1, hB.out, Nat.le_trans b0.out.size lo1, fun k hk => by simp [Value.ownBlock] at hk⟩
  clear A1 B1 lo1 b0
  go_wp2_with fail
  refine (new_any w1 step h0 h1).mono ?_
  rintro e w2 ⟨B2, ⟨h', rfl⟩ | ⟨_, _, b2, lo2, rfl, A2⟩⟩
  · exact absurd ⟨q0, q1⟩ h'
  have hbl1 : b1 < w1.heap.size := M1.out.at0.lt b1 (.inl rfl)
  have P2 : Hid (Pair TI TI w w2 b1 ⟨step.toNat, [], (0, 0)⟩ (.slice none 0 0) b2 ⟨step.toNat, [], (0, 0)⟩ (.slice none 0 0)) :=
    ⟨M1.out.below B2, ⟨A2, keepF hB.out B2, Nat.le_trans hB.out.size lo2, fun k hk => by simp [Value.ownBlock] at hk⟩, by omega, fun k hk => by simp [Value.ownBlock] at hk⟩
  obtain ⟨st, rfl⟩ : ∃ st : Nat, step = (st : Int) := ⟨step.toNat, by omega⟩
  rw [Int.toNat_natCast] at P2
  have P2B := hide P2.out.m1.bel
  clear A2 B2 lo2 M1 hB hbl1
  obtain ⟨bad, hbad⟩ : ∃ bad, Hid (bad = decide (cut < 0 ∨ (200 : Int) < (n : Int) ∨ (200 : Int) < (m : Int) ∨ (n : Int) < cut)) := ⟨_, rfl⟩
  go_upto_region 7 with fail
  go_cut [65] from 36 to 64 (fun c wx => c = .bool bad ∧ w2 = wx)
  case first =>
    clear P2 P2B
    by_cases e1 : cut < 0
    · go_wp2_with fail
      go_meet
      case rel => exact ⟨by rw [hbad.out, decide_eq_true (by omega)], rfl⟩
    by_cases e2 : (200 : Int) < (n : Int)
    · go_wp2_with fail
      go_meet
      case rel => exact ⟨by rw [hbad.out, decide_eq_true (by omega)], rfl⟩
    by_cases e3 : (200 : Int) < (m : Int)
    · go_wp2_with fail
      go_meet
      case rel => exact ⟨by rw [hbad.out, decide_eq_true (by omega)], rfl⟩
    by_cases e4 : (n : Int) < cut
    · go_wp2_with fail
      go_meet
      case rel => exact ⟨by rw [hbad.out, decide_eq_true (by omega)], rfl⟩
    · go_wp2_with fail
      go_meet
      case rel => exact ⟨by rw [hbad.out, decide_eq_false (by omega)], rfl⟩
  case rest =>
  obtain ⟨rfl, rfl⟩ := hcut
  by_cases hb : cut < 0 ∨ (200 : Int) < (n : Int) ∨ (200 : Int) < (m : Int) ∨ (n : Int) < cut
  · obtain rfl : bad = true := by rw [hbad.out]; exact decide_eq_true hb
    clear hb
    go_wp2_with fail
    go_ret
    exact ⟨rfl, P2B.out⟩
  obtain rfl : bad = false := by rw [hbad.out]; exact decide_eq_false hb
  have e1 : ¬ cut < 0 := by omega
  have e2 : n ≤ 200 := by omega
  have e3 : m ≤ 200 := by omega
  have e4 : cut ≤ (n : Int) := by omega
  clear P2B hb hbad
  obtain ⟨ct, rfl⟩ : ∃ ct : Nat, cut = (ct : Int) := ⟨cut.toNat, by omega⟩
  go_wp2_with fail
  go_loopg [13, 15, 16] n (fun kx vf vo vi wr => ∃ (i : Nat) (off : Int) (os : List Int) (v : Value), i ≤ n ∧ n - i ≤ kx ∧ vi = .int .i64 (i : Int) ∧ vf = .int .i64 off ∧ Hid (os.length = i) ∧ Hid (C1 w wr b1 b2 st (told 1 st os) v ⟨st, [], (0, 0)⟩ (.slice none 0 0) vo os off))
  case atStart => exact ⟨0, 0, [], .slice none 0 0, Nat.zero_le _, by omega, rfl, rfl, rfl, P2.out, World.ownsRow_nil _ _ _ _, fun p hp => by simp at hp, Inc.nil, by omega, by simp⟩
  case round =>
    obtain ⟨i, off, os, v, hi, hik, rfl, rfl, hol, hL⟩ := hrel
    obtain ⟨aoo, cao, rfl⟩ := hL.out.row.form
    rw [hol.out] at hL ⊢
    have o0 := hL.out.o0
    have o1 := hL.out.o1
    rw [hol.out] at o1
    have hF := hide (told_fnd (B := 1) (st := st) (by omega) (by omega) (by omega) os hL.out.inc (by rw [hol.out]; omega))
    by_cases hlt : i < n
    · have hiu : i < us.length := by rw [hn.out]; exact hlt
      obtain ⟨bz, oz, rfl, hcz⟩ := HZ.out i hiu
      have hub := HU.out _ (List.getElem_mem hiu)
      generalize us[i] = u at *
      obtain ⟨u0, u1⟩ := hub
      have hS := fnd_step hF.out (o := off) (by omega) (by rw [hol.out]; omega) o0 (by omega) hL.out.up
      rw [hol.out, ← told_snoc] at hS
      have hS1 := hide hS.1
      have hw1 : IntKind.i64.wrap (1 + (i : Int)) = 1 + (i : Int) := by rw [IntKind.wrap_i64]; omega
      have hw2 : IntKind.i64.wrap (off + 1) = off + 1 := by rw [IntKind.wrap_i64]; omega
      have hw3 : IntKind.i64.wrap (off + 1 + u) = off + 1 + u := by rw [IntKind.wrap_i64]; omega
      have hw4 : IntKind.i64.wrap u = u := by rw [IntKind.wrap_i64]; omega
      clear hS
      go_wp2_with fail
      refine (add_any wr b1 _ v (1 + (i : Int)) off hL.out.pair.m1.at0 hF.out.ok (by omega) (by omega) (by omega) (by omega)).mono ?_
      rintro e w3 ⟨rfl, v3, A3, B3, O3⟩
      rw [hS1.out] at A3 ⊢
      have M3 := hide (hL.out.pair.next (by decide) (by decide) A3 B3 O3)
      have R3 := hide (hL.out.row.own hL.out.pair.m1.at0 (by decide) B3)
      clear A3 B3 O3
      obtain ⟨i0, hi0, hz0, hz1, hz2⟩ := info_parts infoInt
      have hsz3 := M3.out.m1.bel.size
      have R3' : Hid (w3.ownsRow w.heap.size 3 1 (.slice aoo i cao) i (os.map (Value.int .i64))) := by have := R3.out; unfold Offs at this; rw [hol.out] at this; exact this
      go_wp2_with (at_builtin; refine wpList_append_own_at _ rfl (.tmp 77) (.tmp 79) 49 rfl w.heap.size 3 i0 (.int .i64 0) 1 8 Try.underlying49 hi0 hz0 hz1 hz2 rfl (by decide) (.slice aoo i cao) i (os.map (Value.int .i64)) rfl (R3'.out.alloc _) ⟨w3.heap.size, 0, none⟩ 1 1 [.int .i64 off] rfl rfl (one_newE _ _ _) (by simp [Value.oneCell']) (by unfold maxLen; omega) (by omega) (by simp; omega) ?_; intro v4 w4 hown4 hgrow4 _ hat4; have P4 := hide (M3.out.offs (vo := .slice aoo i cao) (vo' := v4) R3.out (Nat.le_refl _) (box_below w3 _) hgrow4 (by rw [hol.out]; exact hown4)); have hcz4 : w4.cell? ⟨bz, oz + i, none⟩ = some (.int .u16 u) := (by rw [P4.out.1.m1.bel.cell (lt_of_cell hcz)]; exact hcz); clear hown4 hgrow4 hat4)
      go_roundg (n - (i + 1))
      case measure => omega
      case rel =>
        refine ⟨i + 1, off + 1 + u, os ++ [off], v3, by omega, Nat.le_refl _, by go_num, rfl, by show _ = _; rw [List.length_append, hol.out]; rfl, ?_⟩
        refine ⟨P4.out.1, P4.out.2, fun p hp => ?_, hL.out.inc.snoc o0 (by omega) hL.out.up, by omega, ?_⟩
        · rcases List.mem_append.1 hp with hp | hp
          · have := hL.out.up p hp; omega
          · rw [List.mem_singleton.1 hp]; omega
        · rw [List.length_append, hol.out]; simp; omega
    · obtain rfl : i = n := by omega
      have hXX := hide (cut_told (st := st) (c := ct) (by omega) (by omega) hL.out.inc (by rw [hol.out]; omega) (by rw [hol.out]; omega))
      have hLN := lastN_le (st := st) (c := ct) (by omega) (by omega) hL.out.inc (by rw [hol.out]; omega)
      have hCL := hide (@cut_l os st ct (by omega) (by omega) hL.out.inc (by rw [hol.out]; omega))
      have hLd : Hid (lastN os st ct = if ct < os.length then (lastE (told 1 st (os.take ct)).l).1.toNat else os.length) := rfl
      rw [hol.out] at hLN hLd hCL
      obtain ⟨La, hLa⟩ : ∃ La, Hid (lastN os st ct = La) := ⟨_, rfl⟩
      rw [hLa.out] at hXX hLN hLd hCL
      have I0 := hide hL.out.inc
      have P0 := hide hL.out.pair
      have R0 := hide hL.out.row
      have hFL := hide (told_fnd (B := 1) (st := st) (by omega) (by omega) (by omega) (os.take La) (hL.out.inc.take La) (by simp; omega))
      have hOs : Hid (∀ j (hj : j < os.length), os[j] ≤ 65536 * (i : Int)) := fun j hj => by have := hL.out.up _ (List.getElem_mem hj); omega
      have hw0 : IntKind.i64.wrap (1 + (ct : Int)) = 1 + (ct : Int) := by rw [IntKind.wrap_i64]; omega
      clear hL o0 o1 HZ HU P2
      go_wp2_with fail
      refine (cut_any wr b1 _ v (1 + (ct : Int)) P0.out.m1.at0 hF.out.ok (by omega) (by omega)).mono ?_
      rintro e w3 ⟨rfl, v3, A3, B3, O3⟩
      rw [hXX.out] at A3
      have P3 := hide (P0.out.next (by decide) (by decide) A3 B3 fun k hk => .inl (O3 k hk))
      have R3 := hide (R0.out.own P0.out.m1.at0 (by decide) B3)
      generalize (cutF (told 1 st os) (1 + (ct : Int))).1 = gone
      clear A3 B3 O3 P0 R0 hXX
      go_wp2_with fail
      refine (entries_any w3 b1 _ v3 P3.out.m1.at0 hFL.out.ok).mono ?_
      rintro e w4 ⟨v4, rfl, E4, B4, _⟩
      have P4 := hide (P3.out.below B4)
      have R4 := hide (R3.out.below B4)
      have D4 := hide E4
      obtain ⟨ao4, ca4, rfl, q3, q4⟩ := E4.form
      obtain ⟨N, hN⟩ : ∃ N, Hid ((told 1 st (os.take La)).l.length = N) := ⟨_, rfl⟩
      rw [hN.out] at D4 q4 ⊢
      have hNl : N ≤ 200 := by have := hFL.out.len; rw [hN.out] at this; simp at this; omega
      clear B4 E4 P3 R3
      go_upto_if 98 with fail
      go_cut [19] from 98 to 110 (fun y wx => y = .int .i64 (La : Int) ∧ w4 = wx)
      case first =>
        by_cases hct : ct < i
        · have hcti : (ct : Int) < (i : Int) := by omega
          rw [if_pos hct, ← hCL.out hct] at hLd
          by_cases hl0 : (told 1 st (os.take La)).l = []
          · have hN0 : N = 0 := by rw [← hN.out, hl0]; rfl
            have hLa0 : Hid (La = 0) := by
              have := hLd.out
              rw [hl0, lastE_nil] at this
              exact this
            subst hN0
            go_wp2_with fail
            go_meet
            case rel => exact ⟨by rw [hLa0.out]; rfl, rfl⟩
          · obtain ⟨M, hM⟩ : ∃ M, N = M + 1 := ⟨N - 1, by have := List.length_pos_iff.2 hl0; rw [hN.out] at this; omega⟩
            have hMl : M < (told 1 st (os.take La)).l.length := by rw [hN.out]; omega
            obtain ⟨g, rfl, k0, k1⟩ := D4.out.rd M hMl
            have hle : lastE (told 1 st (os.take La)).l = (told 1 st (os.take La)).l[M] := by rw [lastE_get hl0]; congr 1; rw [hN.out]; omega
            have hr := hFL.out.ok.srt.rng _ (List.getElem_mem hMl)
            rw [hle] at hLd
            generalize (told 1 st (os.take La)).l[M] = en at *
            obtain ⟨e1', e2'⟩ := en
            simp only at k0 k1 hLd hr
            have hLe : Hid (e1' = (La : Int)) := by have := hLd.out; show _ = _; omega
            rw [hLe.out] at k0
            subst hM
            have hw2 : IntKind.i64.wrap (M : Int) = (M : Int) := by rw [IntKind.wrap_i64]; omega
            have hp1 : (0 : Int) < (M : Int) + 1 := by omega
            have hw5 : IntKind.i64.wrap (La : Int) = (La : Int) := by rw [IntKind.wrap_i64]; omega
            clear hle hr hLd k1
            replace hMl := hide hMl
            go_wp2_with fail
            go_meet
            case rel => exact ⟨rfl, rfl⟩
        · have hcti : ¬ (ct : Int) < (i : Int) := by omega
          rw [if_neg hct] at hLd
          have hLe : Hid (La = i) := hLd.out
          go_wp2_with fail
          go_meet
          case rel => exact ⟨by rw [hLe.out], rfl⟩
      case rest =>
        obtain ⟨rfl, rfl⟩ := hcut
        clear D4 hCL hLd hLa
        go_wp2_with fail
        go_loopg [20] La (fun kx vi wq => ∃ (j : Nat) (vy : Value), j ≤ La ∧ La - j ≤ kx ∧ vi = .int .i64 (j : Int) ∧ Hid (Pair TI TI w wq b1 (told 1 st (os.take La)) v3 b2 (told 1 st (os.take j)) vy) ∧ Hid (Offs w.heap.size wq (.slice aoo i cao) os))
        case atStart => exact ⟨0, .slice none 0 0, Nat.zero_le _, by omega, rfl, P4.out, R4.out⟩
        case round =>
          obtain ⟨j, vy, hj, hjk, rfl, hP, hR⟩ := hrel
          by_cases hjl : j < La
          · have hjo : j < os.length := by rw [hol.out]; omega
            obtain ⟨g, rfl, hcs⟩ := hR.out.at (fun c => by rw [c] at hjo; simp at hjo)
            have k1 := hcs j hjo
            have hoj := I0.out.2 _ (List.getElem_mem hjo)
            have hFj := hide (told_fnd (B := 1) (st := st) (by omega) (by omega) (by omega) (os.take j) (I0.out.take j) (by simp; omega))
            have htl : (os.take j).length = j := by simp; omega
            have hS := (fnd_step hFj.out (o := os[j]) (by omega) (by rw [htl]; omega) hoj.1 hoj.2 (take_up I0.out hjo)).1
            rw [htl, ← told_snoc, ← List.take_succ_eq_append_getElem hjo] at hS
            replace hS := hide hS
            generalize os[j] = oj at *
            have hw1 : IntKind.i64.wrap (1 + (j : Int)) = 1 + (j : Int) := by rw [IntKind.wrap_i64]; omega
            have hji : j < i := by omega
            obtain ⟨y1, y2⟩ := hoj
            clear hcs htl
            go_wp2_with fail
            refine (add_any wr b2 _ vy (1 + (j : Int)) oj hP.out.m2.at0 hFj.out.ok (by omega) (by omega) (by omega) (by omega)).mono ?_
            rintro e w5 ⟨rfl, v5, A5, B5, O5⟩
            rw [hS.out] at A5 ⊢
            have P5 := hide (hP.out.symm.next (by decide) (by decide) A5 B5 O5).symm
            have R5 := hide (hR.out.own hP.out.m2.at0 (by decide) B5)
            clear A5 B5 O5
            go_wp2_with fail
            go_roundg (La - (j + 1))
            case measure => omega
            case rel => exact ⟨j + 1, v5, by omega, Nat.le_refl _, by go_num, P5.out, R5.out⟩
          · obtain rfl : j = La := by omega
            clear P4 R4
            go_wp2_with fail
            refine (entries_any wr b2 _ vy hP.out.m2.at0 hFL.out.ok).mono ?_
            rintro e w5 ⟨v5, rfl, E5, B5, _⟩
            have P5 := hide (hP.out.below B5)
            have R5 := hide (hR.out.below B5)
            obtain ⟨ao5, ca5, rfl, _, _⟩ := E5.form
            rw [hN.out]
            clear B5 E5 hP hR
            obtain ⟨at0, hat⟩ : ∃ at0 : Int, Hid (∀ p ∈ os.take j, p < at0) ∧ 0 ≤ at0 ∧ at0 ≤ 65536 * 200 + 1 ∧ Hid ((j = 0 → at0 = 0) ∧ (∀ h : 0 < j, at0 = os[j - 1]'(by rw [hol.out]; omega) + 1)) := by
              by_cases hj0 : j = 0
              · exact ⟨0, fun p hp => by rw [hj0] at hp; simp at hp, by omega, by omega, fun _ => rfl, fun h => by omega⟩
              · have hjm : j - 1 < os.length := by rw [hol.out]; omega
                have q1 := I0.out.2 _ (List.getElem_mem hjm)
                have q2 := hOs.out _ hjm
                refine ⟨os[j - 1] + 1, fun p hp => ?_, by omega, by omega, fun h => absurd h hj0, fun _ => rfl⟩
                obtain ⟨k, hk, rfl⟩ := List.getElem_of_mem hp
                rw [List.getElem_take]
                have hkj : k < j := by simp at hk; omega
                by_cases hk1 : k = j - 1
                · simp only [hk1]; omega
                · have := List.pairwise_iff_getElem.1 I0.out.1 k (j - 1) (by rw [hol.out]; omega) hjm (by omega)
                  omega
            obtain ⟨hat1, hat2, hat3, hat4⟩ := hat
            go_upto_region 30 with fail
            go_upto_if 135 with fail
            go_cut [14] from 134 to 141 (fun y wx => y = .int .i64 at0 ∧ w5 = wx)
            case first =>
              by_cases hj0 : j = 0
              · have ha0 : Hid (at0 = 0) := hat4.out.1 hj0
                subst hj0
                go_wp2_with fail
                go_meet
                case rel => exact ⟨by rw [ha0.out], rfl⟩
              · have hjp : (0 : Int) < (j : Int) := by omega
                obtain ⟨M, rfl⟩ : ∃ M, j = M + 1 := ⟨j - 1, by omega⟩
                have hMo : M < os.length := by rw [hol.out]; omega
                have ha0 := hat4.out.2 (by omega)
                simp only [Nat.add_sub_cancel] at ha0
                obtain ⟨g, rfl, hcs⟩ := R5.out.at (fun c => by rw [c] at hMo; simp at hMo)
                have k1 := hcs M hMo
                have q1 := I0.out.2 _ (List.getElem_mem hMo)
                generalize os[M] = oM at *
                subst ha0
                have hw1 : IntKind.i64.wrap (M : Int) = (M : Int) := by rw [IntKind.wrap_i64]; omega
                have hw2 : IntKind.i64.wrap (oM + 1) = oM + 1 := by rw [IntKind.wrap_i64]; omega
                have hMi : M < i := by omega
                clear hcs hat4
                replace hMo := hide hMo
                go_wp2_with fail
                go_meet
                case rel => exact ⟨rfl, rfl⟩
            case rest =>
              obtain ⟨rfl, rfl⟩ := hcut
              clear R5 hat4 hOs hN hNl
              go_wp2_with fail
              go_loopg [14, 21] m (fun kx va vi wq => ∃ (k : Nat) (aa : Int) (ps : List Int) (vx vy : Value), k ≤ m ∧ m - k ≤ kx ∧ vi = .int .i64 (k : Int) ∧ va = .int .i64 aa ∧ Hid (ps.length = j + k) ∧ Hid (C3 w wq b1 b2 st vx vy ps aa k))
              case atStart => exact ⟨0, at0, os.take j, v3, vy, Nat.zero_le _, by omega, rfl, rfl, by show _ = _; rw [List.length_take, hol.out]; omega, P5.out, hat1.out, I0.out.take j, hat2, by omega⟩
              case round =>
                obtain ⟨k, aa, ps, vx, vy', hk, hkx, rfl, rfl, hpl, hC⟩ := hrel
                have hF := hide (told_fnd (B := 1) (st := st) (by omega) (by omega) (by omega) ps hC.out.inc (by rw [hpl.out]; omega))
                have o0 := hC.out.o0
                have o1 := hC.out.o1
                by_cases hkl : k < m
                · have hku : k < ms.length := by rw [hmm.out]; exact hkl
                  obtain ⟨bz, oz, rfl, hcz⟩ := HY.out k hku
                  have hub := HMs.out _ (List.getElem_mem hku)
                  generalize ms[k] = u at *
                  obtain ⟨u0, u1⟩ := hub
                  have hS := (fnd_step hF.out (o := aa) (by omega) (by rw [hpl.out]; omega) o0 (by omega) hC.out.up).1
                  rw [hpl.out, ← told_snoc, show (1 : Int) + ((j + k : Nat) : Int) = 1 + (j : Int) + (k : Int) by omega] at hS
                  replace hS := hide hS
                  have hw1 : IntKind.i64.wrap (1 + (j : Int)) = 1 + (j : Int) := by rw [IntKind.wrap_i64]; omega
                  have hw5 : IntKind.i64.wrap (1 + (j : Int) + (k : Int)) = 1 + (j : Int) + (k : Int) := by rw [IntKind.wrap_i64]; omega
                  have hw2 : IntKind.i64.wrap (aa + 1) = aa + 1 := by rw [IntKind.wrap_i64]; omega
                  have hw3 : IntKind.i64.wrap (aa + 1 + u) = aa + 1 + u := by rw [IntKind.wrap_i64]; omega
                  have hw4 : IntKind.i64.wrap u = u := by rw [IntKind.wrap_i64]; omega
                  go_wp2_with fail
                  refine (add_any wr b1 _ vx (1 + (j : Int) + (k : Int)) aa hC.out.pair.m1.at0 hF.out.ok (by omega) (by omega) (by omega) (by omega)).mono ?_
                  rintro e w6 ⟨rfl, v6, A6, B6, O6⟩
                  rw [hS.out] at A6 ⊢
                  have P6 := hide (hC.out.pair.next (by decide) (by decide) A6 B6 O6)
                  clear A6 B6 O6
                  go_wp2_with fail
                  refine (add_any w6 b2 _ vy' (1 + (j : Int) + (k : Int)) aa P6.out.m2.at0 hF.out.ok (by omega) (by omega) (by omega) (by omega)).mono ?_
                  rintro e w7 ⟨rfl, v7, A7, B7, O7⟩
                  rw [hS.out] at A7 ⊢
                  have P7 := hide (P6.out.symm.next (by decide) (by decide) A7 B7 O7).symm
                  have hcz7 : w7.cell? ⟨bz, oz + k, none⟩ = some (.int .u16 u) := by rw [P7.out.m1.bel.cell (lt_of_cell hcz)]; exact hcz
                  clear A7 B7 O7 P6
                  go_wp2_with fail
                  go_roundg (m - (k + 1))
                  case measure => omega
                  case rel =>
                    refine ⟨k + 1, aa + 1 + u, ps ++ [aa], v6, v7, by omega, Nat.le_refl _, by go_num, rfl, by show _ = _; rw [List.length_append, hpl.out]; rfl, ?_⟩
                    refine ⟨P7.out, fun p hp => ?_, hC.out.inc.snoc o0 (by omega) hC.out.up, by omega, by omega⟩
                    rcases List.mem_append.1 hp with hp | hp
                    · have := hC.out.up p hp; omega
                    · rw [List.mem_singleton.1 hp]; omega
                · go_wp2_with fail
                  refine (entries_any wr b1 _ vx hC.out.pair.m1.at0 hF.out.ok).mono ?_
                  rintro e w6 ⟨v6, rfl, E6, B6, _⟩
                  have P6 := hide (hC.out.pair.below B6)
                  replace E6 := hide E6
                  obtain ⟨ao6, ca6, rfl, _, _⟩ := E6.out.form
                  clear B6
                  obtain ⟨N6, hN6⟩ : ∃ N6, Hid ((told 1 st ps).l.length = N6) := ⟨_, rfl⟩
                  rw [hN6.out] at E6 ⊢
                  go_wp2_with fail
                  refine (entries_any w6 b2 _ vy' P6.out.m2.at0 hF.out.ok).mono ?_
                  rintro e w7 ⟨v7, rfl, E7, B7, _⟩
                  have P7 := hide (P6.out.below B7)
                  have E6' := hide (E6.out.below B7)
                  replace E7 := hide E7
                  obtain ⟨ao7, ca7, rfl, _, _⟩ := E7.out.form
                  rw [hN6.out] at E7 ⊢
                  clear B7
                  go_wp2_with fail
                  refine (eqE_any w7 _ _ _ _ E6'.out E7.out hF.out.ok.srt.len).mono ?_
                  rintro e w8 ⟨rfl, q8⟩
                  rw [decide_eq_true rfl]
                  have hB8 := hide (keepF P7.out.m1.bel (q8.below _))
                  clear q8
                  go_wp2_with fail
                  go_ret
                  exact ⟨rfl, hB8.out⟩
#print axioms cuts_walk
end Go.Proofs.Ytoffahbnffhliaa.Ix
