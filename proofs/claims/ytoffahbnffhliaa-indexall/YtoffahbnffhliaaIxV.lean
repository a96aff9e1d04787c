/-
  The walk of IndexLoads.
-/
import Derived.Test.YtoffahbnffhliaaIxU
import Derived.Test.YtoffahbnffhliaaIxT
import Derived.Test.YtoffahbnffhliaaLent
namespace Go.Proofs.Ytoffahbnffhliaa.Ix
open Go.RowKit

theorem Loaded.err {T : TypeId} {w w' : World} {E : Int} {x : X} {p : Value} (h : Loaded T w w' E x p) (hE : E ≠ 0) : p = .pointer none := by
  rcases h with h | h
  · exact h.2
  · exact absurd h.1 hE
theorem Loaded.good {T : TypeId} {w w' : World} {E : Int} {x : X} {p : Value} (h : Loaded T w w' E x p) (hE : E = 0) : ∃ b v, p = .pointer (some ⟨b, 0, none⟩) ∧ w.heap.size ≤ b ∧ At T w' b x v ∧ (∀ k, v.ownBlock = some k → w.heap.size ≤ k) := by
  rcases h with h | h
  · exact absurd hE h.1
  · exact h.2
theorem At.lent {T : TypeId} {w w' : World} {b g : Nat} {x : X} {v vl : Value} {l : List UInt8} (h : At T w b x v) (hT : T ≠ 5) (hl : LentAt w g vl l) (hg : w.grownBy w' (some g)) : At T w' b x v := by
  obtain ⟨cap, rfl, ho⟩ := hl
  rcases ho.2 with ⟨e, _⟩ | ⟨g', cap', cur, e, _, hh, _⟩
  · simp at e
  · simp only [Value.slice.injEq, Option.some.injEq, Addr.mk.injEq] at e
    obtain ⟨⟨rfl, _⟩, _, _⟩ := e
    refine h.but (Y := fun j => j = g) (But.of_grownBy hg fun k e => by cases e; rfl) ?_
    rintro j (e | e) e2
    · rw [← e2, e, h.box] at hh
      simp at hh
      exact hT hh.2
    · rw [e2] at e; exact h.row.no hh (by decide) e
set_option maxRecDepth 100000 in
set_option maxHeartbeats 8000000 in
theorem loads_walk (w : World) (z : Value) (vs : List Value) (ls : List (List UInt8)) (hz : Row w z vs) (hs : Sls w vs ls) (hl : ∀ l ∈ ls, l.length ≤ 140737488351232) :
    Calls Try.prog 5 #[z] w fun e w' => e = .returned (.bool true) ∧ Below w.heap.size w w' := by
  obtain ⟨ao, ca, rfl, g2, g3, g4, g5⟩ := hz
  have hm : ca ≤ 9223372036854775807 := by unfold maxLen at g4; omega
  have HS := hide hs
  have HL := hide hl
  have H5 := hide g5
  obtain ⟨n, hn⟩ : ∃ n, Hid (vs.length = n) := ⟨_, rfl⟩
  rw [hn.out] at g3 ⊢
  clear g2 g4 g5 hs hl
  go_enter Try.func5, Try.ntmps5
  go_wp2_with fail
  refine (begun_any w).mono ?_
  rintro e w0 ⟨rfl, b0⟩
  replace b0 := hide b0
  go_wp2_with fail
  go_loopg [3] 40 (fun kx vi wr => ∃ i : Nat, i ≤ n ∧ i ≤ 40 ∧ 40 - i ≤ kx ∧ vi = .int .i64 (i : Int) ∧ Hid (Below w.heap.size w wr))
  case atStart => exact ⟨0, Nat.zero_le _, by omega, by omega, rfl, b0.out⟩
  case round =>
    obtain ⟨i, hi, hi4, hik, rfl, hB⟩ := hrel
    by_cases hlt : i < n ∧ i < 40
    · obtain ⟨l1, l2⟩ := hlt
      have l1' : (i : Int) < (n : Int) := by omega
      have l2' : (i : Int) < 40 := by omega
      have hiv : i < vs.length := by rw [hn.out]; exact l1
      have hil : i < ls.length := by rw [← HS.out.1]; exact hiv
      obtain ⟨bz, oz, rfl, hcz⟩ := H5.out i hiv
      have HSi := hide (HS.out.2 i hiv hil)
      have hll := HL.out _ (List.getElem_mem hil)
      generalize vs[i] = vi at *
      generalize ls[i] = ll at *
      obtain ⟨N, hN⟩ : ∃ N, Hid (ll.length = N) := ⟨_, rfl⟩
      obtain ⟨va, vc, rfl⟩ := HSi.out.form hN.out
      have KC : Hid (∀ q : World, Below w.heap.size w q → q.cell? ⟨bz, oz + i, none⟩ = some (.slice va N vc)) := fun q hq => by rw [hq.cell (lt_of_cell hcz)]; exact hcz
      have c0 := KC.out wr hB.out
      have hlld : Hid (ll.length + 2 ≤ 140737488355328) := by show _ ≤ _; omega
      have hlld2 : Hid (ll.length ≤ 140737488355328) := by show _ ≤ _; omega
      clear hcz
      go_wp2_with fail
      refine (lent_any wr _ ll (Below.sl hB.out HSi.out) hlld.out).mono ?_
      rintro e w2 ⟨g, v2, rfl, t2, b2, hg⟩
      have T2 := hide t2
      have B2 := hide (keepF hB.out b2)
      have hgw := hide (Nat.le_trans hB.out.size hg)
      obtain ⟨ao2, ca2, hv2⟩ := t2.sl.form hN.out
      subst hv2
      clear t2 b2 hg c0
      go_wp2_with fail
      refine (load_any w2 _ ll T2.out.sl hlld2.out).mono ?_
      rintro e w3 ⟨p1, rfl, ld1, b3⟩
      have T3 := hide (T2.out.below b3)
      have B3 := hide (keepF B2.out b3)
      have LD1 := hide ld1
      have c0 := KC.out w3 B3.out
      clear ld1 b3 T2
      obtain ⟨E, hE⟩ : ∃ E, Hid ((loadF ll).1 = E) := ⟨_, rfl⟩
      obtain ⟨x, hx⟩ : ∃ x, Hid ((loadF ll).2 = x) := ⟨_, rfl⟩
      rw [hE.out, hx.out] at LD1
      rw [hE.out]
      go_wp2_with fail
      refine (refLoad_any w3 _ ll (Below.sl B3.out HSi.out) hlld2.out).mono ?_
      rintro e w4 ⟨p2, rfl, ld2, b4⟩
      rw [hE.out, hx.out] at ld2
      rw [hE.out]
      have T4 := hide (T3.out.below b4)
      have B4 := hide (keepF B3.out b4)
      have c4 := KC.out w4 B4.out
      have hback := hide (back_any w w4 g _ _ ll B4.out HSi.out T4.out hgw.out hlld2.out)
      by_cases hE0 : ¬ E = 0
      · obtain rfl := LD1.out.err hE0
        obtain rfl := ld2.err hE0
        have hb0 : (E == 0) = false := by simpa using hE0
        have hb1 : (E != 0) = true := by simpa using hE0
        clear ld2 LD1 b4 c0
        go_wp2_with fail
        refine hback.out.mono ?_
        rintro e w5 ⟨rfl, g5⟩
        have B5 : Hid (Below w.heap.size w w5) := below_block B4.out g5 hgw.out
        clear g5 hback c4 T4
        go_wp2_with fail
        go_quiet (fail)
        go_wp2_with fail
        go_roundg (40 - (i + 1))
        case measure => omega
        case rel => exact ⟨i + 1, by omega, by omega, Nat.le_refl _, by go_num, keepF B5.out (Qt.below ⟨_, rfl⟩ _)⟩
      · replace hE0 := Classical.not_not.1 hE0
        subst hE0
        obtain ⟨b1, v1, rfl, _, A1, _⟩ := LD1.out.good rfl
        obtain ⟨b2, v2, rfl, _, A2, _⟩ := ld2.good rfl
        obtain ⟨hsv, hok, _⟩ := save_loaded hE.out
        rw [hx.out] at hsv hok
        have HOK := hide hok
        have HSV := hide hsv
        have A1' := hide (A1.below b4)
        have A2' := hide A2
        clear ld2 LD1 b4 c0 A1 A2 hsv hok
        go_wp2_with fail
        refine hback.out.mono ?_
        rintro e w5 ⟨rfl, g5⟩
        have B5 : Hid (Below w.heap.size w w5) := below_block B4.out g5 hgw.out
        have A15 := hide (A1'.out.lent (by decide) T4.out g5)
        have A25 := hide (A2'.out.lent (by decide) T4.out g5)
        clear g5 hback c4 T4 A1' A2'
        go_upto_region 11 with fail
        go_cut [75] from 58 to 74 (fun y wx => y = .bool false ∧ Hid (Below w.heap.size w wx))
        case first =>
          have KS : Hid (∀ q : World, Below w5.heap.size w5 q → Below w5.heap.size w5 q ∧ q.cell? ⟨bz, oz + i, none⟩ = some (.slice va N vc)) := fun q hq => ⟨hq, KC.out q (keepF B5.out hq)⟩
          have hS0 := KS.out w5.drew (Below.refl _ _).drew
          have SAME : Hid (∀ q : World, Below w5.heap.size w5 q → Calls Try.prog 21 #[.pointer (some ⟨b1, 0, none⟩), .pointer (some ⟨b2, 0, none⟩)] q fun e w' => e = .returned (.bool true) ∧ Below q.heap.size q w') := fun q hq => same_any q b1 b2 x v1 v2 (A15.out.below hq) (A25.out.below hq) HOK.out
          have BYT : Hid (∀ q : World, Below w5.heap.size w5 q → Calls Try.prog 18 #[.pointer (some ⟨b1, 0, none⟩)] q fun e w' => ∃ v', e = .returned v' ∧ Sl w' v' ll ∧ Below q.heap.size q w') := fun q hq => by
            refine (bytes_any q b1 x v1 (A15.out.below hq) HOK.out).mono ?_
            rintro e u ⟨v', rfl, s, b⟩
            have := Sl.of_owns s
            rw [HSV.out] at this
            exact ⟨v', rfl, this, b⟩
          go_region_held3 (fun q => Below w5.heap.size w5 q ∧ q.cell? ⟨bz, oz + i, none⟩ = some (.slice va N vc))
            (first | exact hS0 | assumption | exact KS.out _ KP | exact KS.out _ KP2 | exact KS.out _ KP3 | fail)
            (first
              | (go_at_call 21; refine (SAME.out _ (And.left (by assumption))).mono ?_; rintro e u1 ⟨rfl, B1⟩; have KP := keepF (And.left (by assumption)) B1)
              | (go_at_call 18; refine (BYT.out _ (And.left (by assumption))).mono ?_; rintro e u2 ⟨v6, rfl, s6, B6⟩; have S6 := hide s6; have KP2 := keepF (And.left (by assumption)) B6; clear s6)
              | (go_at_call 25; refine (eq_sl _ _ _ ll ll S6.out (Below.sl (keepF B5.out (And.left (by assumption))) HSi.out)).mono ?_; rintro e u3 ⟨rfl, Q7⟩; rw [decide_eq_true rfl]; have KP3 := keepF (And.left (by assumption)) (Q7.below _))
              | fail)
          all_goals
            go_wp2_with fail
            go_meet
            case rel => exact ⟨by first | rfl | simp, keepF B5.out (And.left (by assumption))⟩
        case rest =>
          obtain ⟨rfl, hB6⟩ := hcut
          go_wp2_with fail
          go_roundg (40 - (i + 1))
          case measure => omega
          case rel => exact ⟨i + 1, by omega, by omega, Nat.le_refl _, by go_num, hB6.out⟩
    · have hcond : ((i : Int) < (n : Int) ∧ ¬ (i : Int) < 40) ∨ ¬ (i : Int) < (n : Int) := by omega
      rcases hcond with ⟨hz, hz2⟩ | hz
      all_goals
        go_wp2_with fail
        go_ret
        exact ⟨rfl, hB.out⟩
#print axioms loads_walk
end Go.Proofs.Ytoffahbnffhliaa.Ix
