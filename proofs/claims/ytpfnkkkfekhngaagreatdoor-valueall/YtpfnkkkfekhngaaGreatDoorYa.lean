/-
  What flumelaw4's Book.Apart answers: lists that lie in blocks of their own are apart.
-/
import Derived.Test.YtpfnkkkfekhngaaGreatDoorYk
import Derived.Deep.QuietTactic
import Derived.BigQuiet
namespace Go.Proofs.YtpfnkkkfekhngaaGreatDoor.Va
open Go.RowKit Go.Proofs.YtpfnkkkfekhngaaGreatDoor.Rl
set_option maxRecDepth 100000
set_option linter.unusedVariables false

theorem yroom_any (w : World) (n : Nat) (hn : n ≤ 65536) : Calls Tryz.prog 37 #[.int .i64 (n : Int), .int .i64 (n : Int)] w fun e w' => e = .returned (.int .i64 (n : Int)) ∧ w' = w := by
  go_enter Tryz.func37, Tryz.ntmps37
  go_wp2
  go_ret
  exact ⟨rfl, rfl⟩
/-- The first k of a list's n values are marked by i. -/
def Part (w : World) (b n i k : Nat) : Prop := ∃ cs : Array Value, w.heap[b]? = some (.cells cs 35 (0, 0)) ∧ cs.size = n * 5 ∧ ∀ q, q < k → cs[q * 5]? = some (.int .i64 (-9)) ∧ cs[q * 5 + 1]? = some (.int .i64 (i : Int))
theorem Part.cells {w : World} {b n i k : Nat} (h : Part w b n i k) (j : Nat) (hj : j < n) : ∃ c0 c1 c2 c3 c4, w.cell? ⟨b, j * 5, none⟩ = some c0 ∧ w.cell? ⟨b, j * 5 + 1, none⟩ = some c1 ∧ w.cell? ⟨b, j * 5 + 2, none⟩ = some c2 ∧ w.cell? ⟨b, j * 5 + 3, none⟩ = some c3 ∧ w.cell? ⟨b, j * 5 + 4, none⟩ = some c4 := by
  obtain ⟨cs, hh, hs, _⟩ := h
  have key : ∀ o, o < cs.size → ∃ c, w.cell? ⟨b, o, none⟩ = some c := fun o ho => ⟨cs[o], by simp [World.cell?, hh, ho]⟩
  obtain ⟨c0, d0⟩ := key (j * 5) (by omega)
  obtain ⟨c1, d1⟩ := key (j * 5 + 1) (by omega)
  obtain ⟨c2, d2⟩ := key (j * 5 + 2) (by omega)
  obtain ⟨c3, d3⟩ := key (j * 5 + 3) (by omega)
  obtain ⟨c4, d4⟩ := key (j * 5 + 4) (by omega)
  exact ⟨c0, c1, c2, c3, c4, d0, d1, d2, d3, d4⟩
theorem Part.frozen {w : World} {b n i k : Nat} (h : Part w b n i k) (o : Nat) : w.frozen? ⟨b, o, none⟩ = false := by
  obtain ⟨cs, hh, _⟩ := h
  simp [World.frozen?, hh]
/-- One value written. -/
def mark (w : World) (b j i : Nat) : World := ((((w.setCell ⟨b, j * 5, none⟩ (.int .i64 (-9))).setCell ⟨b, j * 5 + 1, none⟩ (.int .i64 (i : Int))).setCell ⟨b, j * 5 + 2, none⟩ (.float .f64 0)).setCell ⟨b, j * 5 + 3, none⟩ (.string ⟨#[]⟩)).setCell ⟨b, j * 5 + 4, none⟩ (.slice none 0 0)
theorem mark_grown (w : World) (b j i : Nat) : w.grownBy (mark w b j i) (some b) := by
  unfold mark
  exact grown_trans (grown_trans (grown_trans (grown_trans (grown_setCell _ _ _ _) (grown_setCell _ _ _ _)) (grown_setCell _ _ _ _)) (grown_setCell _ _ _ _)) (grown_setCell _ _ _ _)
theorem Part.mark {w : World} {b n i k : Nat} (h : Part w b n i k) (hk : k < n) : Part (mark w b k i) b n i (k + 1) := by
  obtain ⟨cs, hh, hs, hm⟩ := h
  refine ⟨((((cs.set! (k * 5) (.int .i64 (-9))).set! (k * 5 + 1) (.int .i64 (i : Int))).set! (k * 5 + 2) (.float .f64 0)).set! (k * 5 + 3) (.string ⟨#[]⟩)).set! (k * 5 + 4) (.slice none 0 0), ?_, by simp [hs], ?_⟩
  · unfold Va.mark
    rw [heap_setCell_same _ _ _ _ _ _ (heap_setCell_same _ _ _ _ _ _ (heap_setCell_same _ _ _ _ _ _ (heap_setCell_same _ _ _ _ _ _ (heap_setCell_same _ _ _ _ _ _ hh))))]; rfl
  · intro q hq
    by_cases hqk : q = k
    · subst hqk
      refine ⟨?_, ?_⟩
      · simp [Array.getElem?_setIfInBounds]
        repeat' split
        all_goals first | rfl | omega
      · simp [Array.getElem?_setIfInBounds]
        repeat' split
        all_goals first | rfl | omega
    · obtain ⟨m1, m2⟩ := hm q (by omega)
      refine ⟨?_, ?_⟩
      · simp [Array.getElem?_setIfInBounds]
        repeat' split
        all_goals first | exact m1 | omega
      · simp [Array.getElem?_setIfInBounds]
        repeat' split
        all_goals first | exact m2 | omega
theorem Part.grown {w w' : World} {b n i k c : Nat} (h : Part w b n i k) (hg : w.grownBy w' (some c)) (hne : b ≠ c) : Part w' b n i k := by
  obtain ⟨cs, hh, r⟩ := h
  exact ⟨cs, by rw [hg.block b (heap_lt hh) (by simpa using hne)]; exact hh, r⟩
theorem Item.grown {w w' : World} {t : Nat × Nat} {c : Nat} (h : Item w t) (hg : w.grownBy w' (some c)) (hne : t.1 ≠ c) : Item w' t := by
  obtain ⟨cs, hh, r⟩ := h
  exact ⟨cs, by rw [hg.block t.1 (heap_lt hh) (by simpa using hne)]; exact hh, r⟩
theorem Bk.grown {w w' : World} {base kb c : Nat} {its : List (Nat × Nat)} {cs : Array Value} (h : Bk w base kb its) (hc : w.heap[c]? = some (.cells cs 35 (0, 0))) (hg : w.grownBy w' (some c)) : Bk w' base kb its := by
  obtain ⟨vl, hk, ho, hl⟩ := h
  refine ⟨vl, ?_, ho.kept hg (Or.inr (yown_ne ho hc (by decide))), hl⟩
  rw [hg.block kb (heap_lt hk) (fun e => by
    simp only [Option.some.injEq] at e
    subst e
    rw [hk] at hc
    simp at hc)]
  exact hk
/-- Where the i-th list's slice lies. -/
theorem Bk.at {w : World} {base kb : Nat} {its : List (Nat × Nat)} (h : Bk w base kb its) (i : Nat) (hi : i < its.length) : ∃ g ca, w.cell? ⟨kb, 0, none⟩ = some (.slice (some ⟨g, 0, none⟩) its.length ca) ∧ w.cell? ⟨g, i, none⟩ = some (.slice (some ⟨its[i].1, 0, none⟩) its[i].2 its[i].2) ∧ ∃ cur, w.heap[g]? = some (.cells cur 22 (0, 0)) := by
  obtain ⟨vl, hk, ho, hl⟩ := h
  have h0 := ho
  obtain ⟨_, p⟩ := ho
  rcases p with ⟨_, e⟩ | ⟨g, cap, cur, rfl, _, hgg, _⟩
  · omega
  · refine ⟨g, cap, by simp [World.cell?, hk], ?_, cur, hgg⟩
    rw [h0.cellAt i (by omega)]
    simp [svs, sv, hi]
theorem Bk.cellLen {w : World} {base kb : Nat} {its : List (Nat × Nat)} (h : Bk w base kb its) : ∃ ao ca, w.cell? ⟨kb, 0, none⟩ = some (.slice ao its.length ca) := by
  obtain ⟨ao, ca, h1, _⟩ := h.cell
  exact ⟨ao, ca, h1⟩
/-- Nothing below B has turned, and no block of another type than a value's. -/
structure BV (B : Nat) (w w' : World) : Prop where
  b : Below B w w'
  d : ∀ (k : Nat) (cs : Array Value) (T : TypeId) (fr : Nat × Nat), T ≠ 35 → w.heap[k]? = some (Obj.cells cs T fr) → w'.heap[k]? = some (Obj.cells cs T fr)
theorem BV.refl (B : Nat) (w : World) : BV B w w := ⟨Below.refl _ _, fun _ _ _ _ _ h => h⟩
theorem BV.grown {B g : Nat} {w u v : World} (h : BV B w u) (hg : u.grownBy v (some g)) (hu : B ≤ u.heap.size) (hB : B ≤ g) (hI : ∃ cs fr, u.heap[g]? = some (.cells cs 35 fr)) : BV B w v :=
  ⟨h.b.grown hg hu (fun k hk => by simp at hk; omega), fun k cs T fr hT hk => by
    have h1 := h.d k cs T fr hT hk
    rw [hg.block k (heap_lt h1) (fun e => by
      simp only [Option.some.injEq] at e
      obtain ⟨cs', fr', hI⟩ := hI
      rw [← e, h1] at hI
      simp only [Option.some.injEq, Obj.cells.injEq] at hI
      exact hT hI.2.1)]
    exact h1⟩
set_option maxHeartbeats 8000000 in
theorem bapart_anyV (w : World) (base kb B : Nat) (its : List (Nat × Nat)) (hK : Bk w base kb its) (hI : ∀ t ∈ its, Item w t) (hnd : (its.map Prod.fst).Nodup) (hB : ∀ t ∈ its, B ≤ t.1) (hBs : B ≤ w.heap.size) :
    Calls Tryz.prog 25 #[.pointer (some ⟨kb, 0, none⟩)] w fun e w' => e = .returned (.bool true) ∧ BV B w w' := by
  replace hK : Hid (Bk w base kb its) := hK
  replace hI : Hid (∀ t ∈ its, Item w t) := hI
  replace hB : Hid (∀ t ∈ its, B ≤ t.1) := hB
  have hne : Hid (∀ i j (h1 : i < its.length) (h2 : j < its.length), i ≠ j → its[i].1 ≠ its[j].1) := by
    intro i j h1 h2 hij h
    have := List.pairwise_iff_getElem.1 hnd
    rcases Nat.lt_or_gt_of_ne hij with hlt | hlt
    · exact this i j (by simpa using h1) (by simpa using h2) hlt (by simpa using h)
    · exact this j i (by simpa using h2) (by simpa using h1) hlt (by simpa using h.symm)
  clear hnd
  obtain ⟨L, hL⟩ : ∃ L, Hid (its.length = L) := ⟨_, rfl⟩
  have hL2 : L ≤ 20000 := by rw [← hL.out]; obtain ⟨_, _, _, h⟩ := hK.out; exact h
  have ksf : ∀ (w : World) (a : Addr) (x : Nat) (m : Mode), (store a (.float .f64 x) m).run Tryz.prog w = stored Tryz.prog w a (.float .f64 x) m := fun w a x m => run_store Tryz.prog w a _ m rfl
  go_enter Tryz.func25, Tryz.ntmps25
  go_wp2_with fail
  go_loopw [3] (fun v3 wr => ∃ i : Nat, i ≤ L ∧ v3 = .int .i64 (i : Int) ∧ Hid (Bk wr base kb its) ∧ Hid (∀ j (h : j < its.length), (j < i → Part wr its[j].1 its[j].2 j its[j].2) ∧ Item wr its[j]) ∧ Hid (BV B w wr)) (fun v _ => L - (intOf v).toNat)
  case atStart => exact ⟨0, by omega, rfl, hK, fun j h => ⟨fun h0 => by omega, hI.out _ (List.getElem_mem h)⟩, BV.refl _ _⟩
  case round =>
    clear hK hI
    obtain ⟨i, hi, rfl, hK, hP, hBl⟩ := hrel
    obtain ⟨wA, hwA⟩ : ∃ wA, wA = wr := ⟨wr, rfl⟩
    subst hwA
    by_cases hiL : i = L
    · subst hiL
      obtain ⟨ao, ca, k0⟩ := hK.out.cellLen
      rw [hL.out] at k0
      go_wp2_with fail
      go_loopw [6] (fun v6 wr => ∃ j : Nat, j ≤ i ∧ v6 = .int .i64 (j : Int) ∧ wr = wA) (fun v _ => i - (intOf v).toNat)
      case atStart => exact ⟨0, by omega, rfl, rfl⟩
      case round =>
        obtain ⟨j, hj, rfl, hwr⟩ := hrel
        subst hwr
        by_cases hjL : j = i
        · subst hjL
          go_wp2
          go_ret
          exact ⟨rfl, hBl.out⟩
        · have hjl : j < its.length := by rw [hL.out]; omega
          have hMj := (hP.out j hjl).1 (by rw [← hL.out] at *; omega)
          obtain ⟨cs, hcs, hsz, hmk⟩ := hMj
          obtain ⟨csx, hIj, hsx, hn6, hn0⟩ := (hP.out j hjl).2
          obtain ⟨g, ca', k0', k1, _⟩ := hK.out.at j hjl
          generalize its[j] = tt at *
          obtain ⟨b, n⟩ := tt
          simp only at hcs hsz hmk k1 hn6 hn0
          rw [hL.out] at k0'
          have j1 : (j : Int) < (i : Int) := by omega
          have j2 : (0 : Int) ≤ (j : Int) := by omega
          replace hcs : Hid (wr.heap[b]? = some (.cells cs 35 (0, 0))) := hcs
          replace hmk : Hid (∀ q, q < n → cs[q * 5]? = some (.int .i64 (-9)) ∧ cs[q * 5 + 1]? = some (.int .i64 (j : Int))) := hmk
          clear hIj hsx k0
          go_wp2_with fail
          go_loopw [7] (fun v7 wr' => ∃ q : Nat, q ≤ n ∧ v7 = .int .i64 (q : Int) ∧ wr' = wr) (fun v _ => n - (intOf v).toNat)
          case atStart => exact ⟨0, by omega, rfl, rfl⟩
          case round =>
            obtain ⟨q, hq, rfl, hwq⟩ := hrel
            subst hwq
            by_cases hqn : q = n
            · subst hqn
              go_wp2_with fail
              go_roundw
              case rel => exact ⟨j + 1, by omega, by go_num, by trivial⟩
              case measure => simp [intOf]; omega
            · have q1 : (q : Int) < (n : Int) := by omega
              have q2 : (0 : Int) ≤ (q : Int) := by omega
              obtain ⟨m1, m2⟩ := hmk.out q (by omega)
              have e0 : wr.cell? ⟨b, q * 5, none⟩ = some (.int .i64 (-9)) := by simp [World.cell?, hcs.out, m1]
              have e1 : wr.cell? ⟨b, q * 5 + 1, none⟩ = some (.int .i64 (j : Int)) := by simp [World.cell?, hcs.out, m2]
              clear m1 m2
              go_wp2_with fail
              go_roundw
              case rel => exact ⟨q + 1, by omega, by go_num, by trivial⟩
              case measure => simp [intOf]; omega
    · have hil : i < its.length := by rw [hL.out]; omega
      have hIi := (hP.out i hil).2
      obtain ⟨g, ca, k0, k1, gcur, hgg⟩ := hK.out.at i hil
      replace hgg : Hid (wA.heap[g]? = some (.cells gcur 22 (0, 0))) := hgg
      have hBl2 : B ≤ wA.heap.size := by have := hBl.out.b.size; omega
      have hBi := hB.out _ (List.getElem_mem hil)
      have hIv : Hid (∃ cs fr, wA.heap[its[i].1]? = some (.cells cs 35 fr)) := by obtain ⟨cs, h1, _⟩ := hIi; exact ⟨cs, _, h1⟩
      obtain ⟨b, hb⟩ : ∃ b, Hid (its[i].1 = b) := ⟨its[i].1, rfl⟩
      obtain ⟨n, hn⟩ : ∃ n, Hid (its[i].2 = n) := ⟨its[i].2, rfl⟩
      rw [hL.out] at k0
      rw [hb.out, hn.out] at k1
      rw [hb.out] at hBi
      obtain ⟨cs, hcs, hsz, hn6, hn0⟩ := hIi
      rw [hb.out] at hcs
      rw [hn.out] at hsz hn6 hn0
      have i1 : (i : Int) < (L : Int) := by omega
      have i2 : (0 : Int) ≤ (i : Int) := by omega
      have hroom : Hid (∀ q : World, Calls Tryz.prog 37 #[.int .i64 (n : Int), .int .i64 (n : Int)] q fun e w' => e = .returned (.int .i64 (n : Int)) ∧ w' = q) := fun q => yroom_any q n hn6
      have hpart0 : Hid (Part wA b n i 0) := ⟨cs, hcs, hsz, fun q hq => by omega⟩
      replace hcs : Hid (wA.heap[b]? = some (.cells cs 35 (0, 0))) := hcs
      go_wp2_with fail
      go_quiet (first | (go_at_call 37; exact Calls.quiet_of_same (hroom.out _)))
      have hQ : Hid (Qt wA (wA.drewN nq)) := ⟨nq, rfl⟩
      obtain ⟨wB, hwB⟩ : ∃ wB, wB = wA.drewN nq := ⟨_, rfl⟩
      rw [← hwB]
      rw [← hwB] at hQ
      have kB0 : wB.cell? ⟨kb, 0, none⟩ = some (.slice (some ⟨g, 0, none⟩) L ca) := (hQ.out.cell _).trans k0
      have kB1 : wB.cell? ⟨g, i, none⟩ = some (.slice (some ⟨b, 0, none⟩) n n) := (hQ.out.cell _).trans k1
      clear k0 k1 hwB
      go_wp2_with fail
      go_loopw [34] (fun _ wr => wr = wB) (fun _ _ => 0)
      case atStart => rfl
      case round =>
        have hwr := hrel
        subst hwr
        obtain ⟨wB, hwB⟩ : ∃ wB, wB = wr := ⟨wr, rfl⟩
        subst hwB
        go_wp2_with fail
        go_loopw [5] (fun v5 wr => ∃ q : Nat, q ≤ n ∧ v5 = .int .i64 (q : Int) ∧ Hid (Part wr b n i q) ∧ Hid (wB.grownBy wr (some b))) (fun v _ => n - (intOf v).toNat)
        case atStart => exact ⟨0, by omega, rfl, hpart0.out.grown (hQ.out.grown (some (b + 1))) (by omega), ⟨rfl, rfl, rfl, Nat.le_refl _, fun _ _ _ => rfl⟩⟩
        case round =>
          obtain ⟨q, hq, rfl, hPt, hG⟩ := hrel
          have hgb : g ≠ b := by
            intro e
            have h1 := hgg.out
            rw [e, hcs.out] at h1
            simp at h1
          have hkb : kb ≠ b := by
            intro e
            subst e
            obtain ⟨vl, hk, _⟩ := hK.out
            have := hcs.out
            rw [hk] at this
            simp at this
          have kC0 : wr.cell? ⟨kb, 0, none⟩ = some (.slice (some ⟨g, 0, none⟩) L ca) := hG.out.cell kB0 (by simpa using hkb)
          have kC1 : wr.cell? ⟨g, i, none⟩ = some (.slice (some ⟨b, 0, none⟩) n n) := hG.out.cell kB1 (by simpa using hgb)
          by_cases hqn : q = n
          · subst hqn
            have hGA : Hid (wA.grownBy wr (some b)) := grown_trans (hQ.out.grown _) hG.out
            have hK2 : Hid (Bk wr base kb its) := hK.out.grown hcs.out hGA.out
            have hP2 : Hid (∀ j (h : j < its.length), (j < i + 1 → Part wr its[j].1 its[j].2 j its[j].2) ∧ Item wr its[j]) := by
              intro j hj
              by_cases hji : j = i
              · subst hji
                rw [hb.out, hn.out]
                obtain ⟨cs2, h1, h2, _⟩ := id hPt.out
                refine ⟨fun _ => hPt.out, cs2, by rw [hb.out]; exact h1, by rw [hn.out]; exact h2, by rw [hn.out]; exact hn6, by rw [hn.out]; exact hn0⟩
              · have hnb : its[j].1 ≠ b := by rw [← hb.out]; exact hne.out j i hj hil hji
                exact ⟨fun h => ((hP.out j hj).1 (by omega)).grown hGA.out hnb, (hP.out j hj).2.grown hGA.out hnb⟩
            have hB2 : Hid (BV B w wr) := hBl.out.grown hGA.out hBl2 (by have := hb.out; omega) (by rw [← hb.out]; exact hIv.out)
            go_wp2_with fail
            go_roundw
            case rel => exact ⟨i + 1, by omega, by go_num, hK2, hP2, hB2⟩
            case measure => simp [intOf]; omega
          · have q1 : (q : Int) < (n : Int) := by omega
            have q2 : (0 : Int) ≤ (q : Int) := by omega
            obtain ⟨c0, c1, c2, c3, c4, d0, d1, d2, d3, d4⟩ := hPt.out.cells q (by omega)
            have f0 := hPt.out.frozen (q * 5)
            have f1 := hPt.out.frozen (q * 5 + 1)
            have f2 := hPt.out.frozen (q * 5 + 2)
            have f3 := hPt.out.frozen (q * 5 + 3)
            have f4 := hPt.out.frozen (q * 5 + 4)
            have hPm : Hid (Part (mark wr b q i) b n i (q + 1)) := hPt.out.mark (by omega)
            have hGm : Hid (wB.grownBy (mark wr b q i) (some b)) := grown_trans hG.out (mark_grown _ _ _ _)
            go_wp2_with fail
            go_roundw
            case rel => exact ⟨q + 1, by omega, by go_num, hPm.out, hGm.out⟩
            case measure => simp [intOf]; omega
theorem bapart_any (w : World) (base kb B : Nat) (its : List (Nat × Nat)) (hK : Bk w base kb its) (hI : ∀ t ∈ its, Item w t) (hnd : (its.map Prod.fst).Nodup) (hB : ∀ t ∈ its, B ≤ t.1) (hBs : B ≤ w.heap.size) :
    Calls Tryz.prog 25 #[.pointer (some ⟨kb, 0, none⟩)] w fun e w' => e = .returned (.bool true) ∧ Below B w w' :=
  (bapart_anyV w base kb B its hK hI hnd hB hBs).mono fun _ _ ⟨h1, h2⟩ => ⟨h1, h2.b⟩
#print axioms bapart_any
end Go.Proofs.YtpfnkkkfekhngaaGreatDoor.Va
