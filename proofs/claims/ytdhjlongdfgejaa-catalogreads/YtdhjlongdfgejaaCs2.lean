/-
  CatalogReads: the walk.
-/
import Derived.Test.YtdhjlongdfgejaaCtzz
import Derived.Test.YtdhjlongdfgejaaCtP
import Derived.Test.YtdhjlongdfgejaaLent
namespace Go.Proofs.Ytdhjlongdfgejaa.Ct
open Go.RowKit

theorem lent_blk {w : World} {g : Nat} {v : Value} {l : List UInt8} (h : LentAt w g v l) : ∃ cs fz, w.heap[g]? = some (.cells cs 5 fz) := by
  obtain ⟨cap, rfl, ho⟩ := h
  rcases ho.2 with ⟨e, _⟩ | ⟨g', cap', cur, e, _, hh, _⟩
  · simp at e
  · simp only [Value.slice.injEq, Option.some.injEq, Addr.mk.injEq] at e
    obtain ⟨⟨rfl, _⟩, _, _⟩ := e
    exact ⟨_, _, hh⟩
theorem Own.lent {B : Nat} {w w' : World} {g : Nat} {v vl : Value} {l : List UInt8} {li : List Sg} (h : Own B w v li) (hl : LentAt w g vl l) (hg : w.grownBy w' (some g)) : Own B w' v li := by
  obtain ⟨cs, fz, hh⟩ := lent_blk hl
  exact h.but (X := fun k => k = g) (But.of_grownBy hg fun k e => by cases e; rfl) fun k hk e => by rw [e] at hk; exact h.no hh (by decide) hk
theorem cat_lent {w w' : World} {g b : Nat} {vl : Value} {l : List UInt8} {cs : Array Value} {fz : Nat × Nat} (h : w.heap[b]? = some (.cells cs 29 fz)) (hl : LentAt w g vl l) (hg : w.grownBy w' (some g)) : w'.heap[b]? = some (.cells cs 29 fz) := by
  obtain ⟨ds, fz', hh⟩ := lent_blk hl
  rw [hg.block b (heap_lt h) (fun e => by cases e; rw [h] at hh; simp at hh)]
  exact h
set_option maxRecDepth 100000 in
set_option maxHeartbeats 8000000 in
theorem reads_walk (w : World) (z : Value) (vs : List Value) (ls : List (List UInt8)) (hz : Row w z vs) (hs : Sls w vs ls) (hl : ∀ l ∈ ls, l.length ≤ 140737488351232) :
    Calls Try.prog 4 #[z] w fun e w' => e = .returned (.bool true) ∧ Below w.heap.size w w' := by
  obtain ⟨ao, ca, rfl, g2, g3, g4, g5⟩ := hz
  have hm : ca ≤ 9223372036854775807 := by unfold maxLen at g4; omega
  have HS := hide hs
  have HL := hide hl
  have H5 := hide g5
  obtain ⟨n, hn⟩ : ∃ n, Hid (vs.length = n) := ⟨_, rfl⟩
  rw [hn.out] at g3 ⊢
  clear g2 g4 g5 hs hl
  go_enter Try.func4, Try.ntmps4
  go_wp2_with fail
  refine (begun_any w).mono ?_
  rintro e w0 ⟨rfl, b0⟩
  replace b0 := hide b0
  go_wp2_with fail
  go_loopg [3] 40 (fun kx vi wr => ∃ i : Nat, i ≤ n ∧ i ≤ 40 ∧ 40 - i ≤ kx ∧ vi = .int .i64 (i : Int) ∧ Hid (Below w.heap.size w wr))
  case atStart => exact ⟨0, Nat.zero_le _, by omega, by omega, rfl, b0.out⟩
  case round =>
    obtain ⟨i, hi, hi4, hik, rfl, hB⟩ := hrel
    by_cases hlt : i < n ∧ i < 40
    · obtain ⟨l1, l2⟩ := hlt
      have l1' : (i : Int) < (n : Int) := by omega
      have l2' : (i : Int) < 40 := by omega
      have hiv : i < vs.length := by rw [hn.out]; exact l1
      have hil : i < ls.length := by rw [← HS.out.1]; exact hiv
      obtain ⟨bz, oz, rfl, hcz⟩ := H5.out i hiv
      have HSi := hide (HS.out.2 i hiv hil)
      have hll := HL.out _ (List.getElem_mem hil)
      generalize vs[i] = vi at *
      generalize ls[i] = ll at *
      obtain ⟨N, hN⟩ : ∃ N, Hid (ll.length = N) := ⟨_, rfl⟩
      obtain ⟨va, vc, rfl⟩ := HSi.out.form hN.out
      have KC : Hid (∀ q : World, Below w.heap.size w q → q.cell? ⟨bz, oz + i, none⟩ = some (.slice va N vc)) := fun q hq => by rw [hq.cell (lt_of_cell hcz)]; exact hcz
      have c0 := KC.out wr hB.out
      have hlld : Hid (ll.length + 2 ≤ 140737488355328) := by show _ ≤ _; omega
      have hlld2 : Hid (ll.length ≤ 140737488355328) := by show _ ≤ _; omega
      have RI : Hid ((readF ll).1 = 0 → _) := fun h => read_inv h
      obtain ⟨R, hR⟩ : ∃ R, Hid (readF ll = R) := ⟨_, rfl⟩
      rw [hR.out] at RI
      obtain ⟨E, g1, f1, li⟩ := R
      dsimp only at RI
      clear hcz
      go_wp2_with fail
      refine (lent_any wr _ ll (Below.sl hB.out HSi.out) hlld.out).mono ?_
      rintro e w2 ⟨g, v2, rfl, t2, b2, hg⟩
      have T2 := hide t2
      have B2 := hide (keepF hB.out b2)
      have hgw := hide (Nat.le_trans hB.out.size hg)
      obtain ⟨ao2, ca2, hv2⟩ := t2.sl.form hN.out
      subst hv2
      clear t2 b2 hg c0
      have RD := hide (read_any w2 _ ll T2.out.sl hlld2.out)
      rw [hR.out] at RD
      go_wp2_with fail
      refine RD.out.mono ?_
      rintro e w3 ⟨v3, rfl, O3, b3⟩
      dsimp only at O3 ⊢
      obtain ⟨M, hM⟩ : ∃ M, Hid (li.length = M) := ⟨_, rfl⟩
      obtain ⟨ao3, ca3, rfl, _, _⟩ := O3.form
      rw [hM.out] at O3 ⊢
      have X3 := hide (box_below w3 (.cells #[.int .i64 g1, .int .i64 f1, .slice ao3 M ca3] 29))
      have C4 := hide (heap_alloc_new w3 (.cells #[.int .i64 g1, .int .i64 f1, .slice ao3 M ca3] 29))
      have T4 := hide ((T2.out.below b3).below X3.out)
      have B4 := hide (keepF (keepF B2.out b3) X3.out)
      have O4 := hide (O3.below X3.out)
      clear O3 b3 T2 RD X3
      go_upto_region 8 with fail
      generalize w3.alloc (.cells #[.int .i64 g1, .int .i64 f1, .slice ao3 M ca3] 29) = w4 at *
      generalize w3.heap.size = cb at *
      have c0 := KC.out w4 B4.out
      have RD := hide (refRead_any w4 _ ll (Below.sl B4.out HSi.out) hlld2.out)
      rw [hR.out] at RD
      go_wp2_with fail
      refine RD.out.mono ?_
      rintro e w5 ⟨v5, rfl, O5, b5⟩
      dsimp only at O5 ⊢
      obtain ⟨ao5, ca5, rfl, _, _⟩ := O5.form
      rw [hM.out] at O5 ⊢
      have X5 := hide (box_below w5 (.cells #[.int .i64 g1, .int .i64 f1, .slice ao5 M ca5] 29))
      have D6 := hide (heap_alloc_new w5 (.cells #[.int .i64 g1, .int .i64 f1, .slice ao5 M ca5] 29))
      have b56 := hide (keepF b5 X5.out)
      have T6 := hide (T4.out.below b56.out)
      have B6 := hide (keepF B4.out b56.out)
      have O6 := hide (O4.out.below b56.out)
      have P6 := hide (O5.below X5.out)
      have C6 : Hid ((w5.alloc (.cells #[.int .i64 g1, .int .i64 f1, .slice ao5 M ca5] 29)).heap[cb]? = some (.cells #[.int .i64 g1, .int .i64 f1, .slice ao3 M ca3] 29 (0, 0))) := by show _ = _; rw [b56.out.block _ (heap_lt C4.out)]; exact C4.out
      clear O5 b5 b56 T4 B4 O4 C4 RD X5 c0
      go_upto_region 9 with fail
      generalize w5.alloc (.cells #[.int .i64 g1, .int .i64 f1, .slice ao5 M ca5] 29) = w6 at *
      generalize w5.heap.size = db at *
      obtain ⟨c0, c1, c2⟩ := three_cells C6.out
      obtain ⟨d0, d1, d2⟩ := three_cells D6.out
      go_wp2_with fail
      refine (eq_same w6 g1 f1 _ _ li O6.out.sgs P6.out.sgs).mono ?_
      rintro e w7 ⟨rfl, b7⟩
      have T7 := hide (T6.out.below b7)
      have B7 := hide (keepF B6.out b7)
      have O7 := hide (O6.out.below b7)
      have C7 : Hid (w7.heap[cb]? = some (.cells #[.int .i64 g1, .int .i64 f1, .slice ao3 M ca3] 29 (0, 0))) := by show _ = _; rw [b7.block _ (heap_lt C6.out)]; exact C6.out
      clear b7 T6 B6 O6 C6 P6 D6 c0 c1 c2 d0 d1 d2
      have y0 := KC.out w7 B7.out
      have hback := hide (back_any w w7 g _ _ ll B7.out HSi.out T7.out hgw.out hlld2.out)
      go_wp2_with fail
      refine hback.out.mono ?_
      rintro e w8 ⟨rfl, g8⟩
      have B8 : Hid (Below w.heap.size w w8) := below_block B7.out g8 hgw.out
      have O8 := hide (O7.out.lent T7.out g8)
      have C8 := hide (cat_lent C7.out T7.out g8)
      clear g8 hback y0 T7 O7 C7 B7
      by_cases hE0 : ¬ E = 0
      · have hb0 : (E == 0) = false := by simpa using hE0
        go_wp2_with fail
        go_roundg (40 - (i + 1))
        case measure => omega
        case rel => exact ⟨i + 1, by omega, by omega, Nat.le_refl _, by go_num, B8.out⟩
      replace hE0 := Classical.not_not.1 hE0
      subst hE0
      obtain ⟨hmay, hby, hg1, hf1⟩ := RI.out rfl
      have hwf : Hid (writeF g1 f1 li = (0, ll)) := by show _ = _; unfold writeF; rw [if_pos hmay, hby]
      obtain ⟨c0, c1, c2⟩ := three_cells C8.out
      have WR := hide (write_any w8 g1 f1 _ li O8.out.sgs hg1 hf1)
      rw [hwf.out] at WR
      clear RI hmay hby
      go_wp2_with fail
      refine WR.out.mono ?_
      rintro e w9 ⟨v9, rfl, O9, b9⟩
      dsimp only at O9 ⊢
      have B9 := hide (keepF B8.out b9)
      have S9 := hide O9.sl
      obtain ⟨ao9, ca9, rfl⟩ := O9.form
      rw [hN.out] at S9 ⊢
      clear O9 b9 WR c0 c1 c2
      have y0 := KC.out w9 B9.out
      go_wp2_with fail
      refine (eq_sl w9 _ _ ll ll S9.out (Below.sl B9.out HSi.out)).mono ?_
      rintro e wa ⟨rfl, Qa⟩
      rw [decide_eq_true rfl]
      have BA := hide (keepF B9.out (Qa.below _))
      clear Qa y0
      go_wp2_with fail
      go_roundg (40 - (i + 1))
      case measure => omega
      case rel => exact ⟨i + 1, by omega, by omega, Nat.le_refl _, by go_num, BA.out⟩
    · have hcond : ((i : Int) < (n : Int) ∧ ¬ (i : Int) < 40) ∨ ¬ (i : Int) < (n : Int) := by omega
      rcases hcond with ⟨hz, hz2⟩ | hz
      all_goals
        go_wp2_with fail
        go_ret
        exact ⟨rfl, hB.out⟩
#print axioms reads_walk
end Go.Proofs.Ytdhjlongdfgejaa.Ct
