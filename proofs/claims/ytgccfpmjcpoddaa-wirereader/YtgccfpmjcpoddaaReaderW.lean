/-
  The walk of WireReader: true.
-/
import Derived.Test.YtgccfpmjcpoddaaOneB
import Derived.Test.YtgccfpmjcpoddaaNone
import Derived.Test.YtgccfpmjcpoddaaLent
namespace Go.Proofs.Ytgccfpmjcpoddaa
open Go.RowKit

set_option maxHeartbeats 400000 in
theorem newReader_safe (w : World) (x : Value) (l : List UInt8) (hx : Sl w x l) (hlen : l.length ≤ 140737488355328) :
    Calls Try.prog 28 #[x] w fun e w' => ∃ rb, e = .returned (.pointer (some ⟨rb, 0, none⟩)) ∧ RdrAt w' rb l 0 0 ∧ Below w.heap.size w w' ∧ w.heap.size ≤ rb ∧ (∀ g u u', g < w.heap.size → Below w'.heap.size w' u → u.grownBy u' (some g) → RdrAt u' rb l 0 0) := by
  go_enter Try.func28, Try.ntmps28
  go_wp2_with fail
  refine (clone_any _ _ l hx hlen).mono ?_
  rintro e w2 ⟨v2, rfl, ho, hb⟩
  obtain ⟨ao, ca, rfl⟩ := own_slice ho
  go_wp2
  go_ret
  have hsz := hb.size
  have key : ∀ u : World, u.heap[w2.heap.size]? = some (.cells #[.slice ao l.length ca, .int .i64 0, .int .i64 0] 62 (0, 0)) → u.ownsRow w.heap.size 5 1 (.slice ao l.length ca) l.length (bvals l) → RdrAt u w2.heap.size l 0 0 := by
    intro u h1 h2
    refine ⟨.slice ao l.length ca, h1, ?_, Nat.zero_le _, hlen⟩
    obtain ⟨a1, a2⟩ := h2
    refine ⟨a1, ?_⟩
    rcases a2 with a2 | ⟨g, cap, cur, hv, hg, r⟩
    · exact Or.inl a2
    · exact Or.inr ⟨g, cap, cur, hv, Nat.zero_le _, r⟩
  have ho2 := ho.alloc (.cells #[.slice ao l.length ca, .int .i64 0, .int .i64 0] 62)
  refine ⟨_, rfl, key _ (heap_alloc_new _ _) ho2, hb.alloc hsz _, hsz, ?_⟩
  intro g u u' hg hu hgr
  have h1 : u.heap[w2.heap.size]? = some (.cells #[.slice ao l.length ca, .int .i64 0, .int .i64 0] 62 (0, 0)) := by
    rw [hu.block _ (by simp)]; exact heap_alloc_new _ _
  refine key u' ?_ ?_
  · rw [hgr.block _ (heap_lt h1) (by simp; omega)]; exact h1
  · refine (ownsRow_below ho2 hu).kept hgr (.inr fun e => ?_)
    have := (ho.lt g e).1
    omega

set_option maxRecDepth 100000 in
set_option maxHeartbeats 4000000 in
theorem reader_walk (w : World) (vb : Value) (b : List UInt8) (ao : Option Addr) (c : Nat) (os : List (Int × Int × Int)) (hb : Sl w vb b) (hlen : b.length ≤ 140737488351232) (hl : os.length ≤ 9223372036854775807) (ho : AtOps w ao os) (hok : ∀ o ∈ os, OpOk o) :
    Calls Try.prog 6 #[vb, .slice ao os.length c] w fun e w' => e = .returned (.bool true) ∧ Below w.heap.size w w' := by
  have HO : Hid (∀ o ∈ os, OpOk o) := hok
  have HA : Hid (AtOps w ao os) := ho
  have HS : Hid (Sl w vb b) := hb
  obtain ⟨bo, bc, rfl, b2, b3, b4, b5⟩ := hb
  have hbc : bc ≤ 9223372036854775807 := by unfold maxLen at b4; omega
  have HVB : Hid (∀ q, w.heap.size ≤ q → VB (.slice bo b.length bc) q) := by
    intro q hq a n c' e hn
    simp only [Value.slice.injEq] at e
    obtain ⟨rfl, rfl, rfl⟩ := e
    obtain ⟨bb, off, e1, hc⟩ := b5 0 hn
    simp only [Option.some.injEq] at e1
    subst e1
    exact Nat.lt_of_lt_of_le (lt_of_cell hc) hq
  clear hok ho b2 b3 b4 b5
  go_enter Try.func6, Try.ntmps6
  go_wp2_with fail
  refine (begun_any w).mono ?_
  rintro e w1 ⟨rfl, b1⟩
  have HB1 : Hid (Below w.heap.size w w1) := b1
  clear b1
  go_wp2_with fail
  refine (lent_any w1 _ b (Below.sl HB1.out HS.out) (by omega)).mono ?_
  rintro e w2 ⟨g, v2, rfl, t2, p2, hg2⟩
  have HB2 : Hid (Below w.heap.size w w2) := HB1.out.trans (p2.mono HB1.out.size)
  have T2 : Hid (LentAt w2 g v2 b) := t2
  have HG : Hid (w.heap.size ≤ g) := Nat.le_trans HB1.out.size hg2
  have HGL : Hid (g < w2.heap.size) := t2.lt
  clear t2 p2 hg2
  go_wp2_with fail
  refine (newReader_safe w2 v2 b T2.out.sl (by omega)).mono ?_
  rintro e w3 ⟨rb, rfl, r3, p3, hrb, safe⟩
  have HB3 : Hid (Below w.heap.size w w3) := HB2.out.trans (p3.mono HB2.out.size)
  have T3 : Hid (LentAt w3 g v2 b) := T2.out.below p3
  have HRB : Hid (w.heap.size ≤ rb ∧ rb < w3.heap.size) := ⟨Nat.le_trans HB2.out.size hrb, r3.lt⟩
  have SAFE : Hid (∀ g u u', g < w2.heap.size → Below w3.heap.size w3 u → u.grownBy u' (some g) → RdrAt u' rb b 0 0) := safe
  clear p3 hrb safe r3
  go_wp2_with fail
  have bxq := box_below w3 (.cells #[.slice bo b.length bc, .int .i64 0, .int .i64 0] 50)
  have HBq : Hid (Below w.heap.size w (w3.alloc (.cells #[.slice bo b.length bc, .int .i64 0, .int .i64 0] 50))) := HB3.out.trans (bxq.mono HB3.out.size)
  have HQ : Hid ((w3.alloc (.cells #[.slice bo b.length bc, .int .i64 0, .int .i64 0] 50)).heap[w3.heap.size]? = some (.cells #[.slice bo b.length bc, .int .i64 0, .int .i64 0] 50 (0, 0))) := heap_alloc_new _ _
  have T4 : Hid (LentAt (w3.alloc (.cells #[.slice bo b.length bc, .int .i64 0, .int .i64 0] 50)) g v2 b) := T3.out.below bxq
  have HBX : Hid (Below w3.heap.size w3 (w3.alloc (.cells #[.slice bo b.length bc, .int .i64 0, .int .i64 0] 50))) := bxq
  have HGL3 : Hid (g < w3.heap.size) := T3.out.lt
  clear bxq
  refine (back_any w _ g v2 _ b HBq.out HS.out T4.out HG.out (by omega)).mono ?_
  rintro e w4 ⟨rfl, g4⟩
  have HB4 : Hid (Below w.heap.size w w4) := HBq.out.grown g4 HBq.out.size (fun k hk => by simp at hk; have := HG.out; omega)
  have R4 : Hid (RdrAt w4 rb b 0 0) := SAFE.out g _ _ HGL.out HBX.out g4
  have Q4 : Hid (RefAt w4 w3.heap.size b 0 0) := ⟨.slice bo b.length bc, by rw [g4.block _ (heap_lt HQ.out) (by simp; have := HGL3.out; omega)]; exact HQ.out, Below.sl HB4.out HS.out, Nat.zero_le _, by omega, HVB.out _ HB3.out.size⟩
  have HQB : Hid (w.heap.size ≤ w3.heap.size ∧ w3.heap.size < w4.heap.size) := ⟨HB3.out.size, Q4.out.lt⟩
  clear g4 T4 HBX HQ HBq T3 T2 SAFE
  generalize w3.heap.size = qb at *
  go_wp2_with fail
  have bxk := box_below w4 (.cells #[.slice none 0 0, .int .i64 0] 53)
  have HK5 : Hid (KeptSt (w4.alloc (.cells #[.slice none 0 0, .int .i64 0] 53)) w4.heap.size) := ⟨[], 0, ⟨.slice none 0 0, heap_alloc_new _ _, World.ownsRow_nil _ _ _ _, by simp, by decide⟩, fun t ht => by simp at ht, by simp⟩
  have R5 : Hid (RdrAt (w4.alloc (.cells #[.slice none 0 0, .int .i64 0] 53)) rb b 0 0) := R4.out.below bxk
  have Q5 : Hid (RefAt (w4.alloc (.cells #[.slice none 0 0, .int .i64 0] 53)) qb b 0 0) := Q4.out.below bxk
  have HB5 : Hid (Below w.heap.size w (w4.alloc (.cells #[.slice none 0 0, .int .i64 0] 53))) := HB4.out.trans (bxk.mono HB4.out.size)
  have HKB : Hid (w.heap.size ≤ w4.heap.size) := HB4.out.size
  clear bxk R4 Q4 HB4
  generalize w4.alloc (.cells #[.slice none 0 0, .int .i64 0] 53) = w5 at *
  generalize w4.heap.size = kb at *
  go_loopw [9] (fun vi wr => ∃ (j k : Nat) (er : Int), j ≤ os.length ∧ vi = .int .i64 (j : Int) ∧ Hid (RdrAt wr rb b k er) ∧ Hid (RefAt wr qb b k er) ∧ Hid (KeptSt wr kb) ∧ Hid (Below w.heap.size w wr)) (fun i _ => os.length - (intOf i).toNat)
  case atStart => exact ⟨0, 0, 0, Nat.zero_le _, rfl, R5.out, Q5.out, HK5.out, HB5.out⟩
  case round =>
    clear R5 Q5 HK5 HB5
    obtain ⟨j, k, er, hj, rfl, hR, hQ, hK, hB⟩ := hrel
    by_cases hlt : j < os.length
    · have hlt' : (j : Int) < (os.length : Int) := by omega
      obtain ⟨x1, o1, rfl, d1, d2, d3⟩ := HA.out j hlt
      have hok := HO.out os[j] (List.getElem_mem hlt)
      obtain ⟨⟨kd, ms, sz⟩, hos⟩ : ∃ o, os[j] = o := ⟨_, rfl⟩
      rw [hos] at d1 d2 d3 hok
      simp only at d1 d2 d3
      have e1 := (hB.out.cell (p := ⟨x1, o1 + j * 3, none⟩) (lt_of_cell d1)).trans d1
      have e2 := (hB.out.cell (p := ⟨x1, o1 + j * 3 + 1, none⟩) (lt_of_cell d2)).trans d2
      have e3 := (hB.out.cell (p := ⟨x1, o1 + j * 3 + 2, none⟩) (lt_of_cell d3)).trans d3
      have HOK : Hid (OpOk (kd, ms, sz)) := hok
      clear hok hos d1 d2 d3
      go_wp2_with fail
      refine (one_all wr rb qb kb w.heap.size kd ms sz b k er hR.out hQ.out hK.out HRB.out.1 HQB.out.1 HKB.out HQB.out.2 HOK.out.1 HOK.out.2.1 HOK.out.2.2).mono ?_
      rintro e w6 ⟨rfl, k6, er6, r6, q6, kk6, b6⟩
      have HR6 : Hid (RdrAt w6 rb b k6 er6) := r6
      have HQ6 : Hid (RefAt w6 qb b k6 er6) := q6
      have HK6 : Hid (KeptSt w6 kb) := kk6
      have HB6 : Hid (Below w.heap.size w w6) := hB.out.trans b6
      obtain ⟨pl, hpl⟩ : ∃ pl : Int, (if er6 = 0 then (0 : Int) else (k6 : Int)) = pl := ⟨_, rfl⟩
      have HPL : Hid ((if er6 = 0 then (0 : Int) else (k6 : Int)) = pl) := hpl
      clear r6 q6 kk6 b6 e1 e2 e3 hpl
      go_wp2_with fail
      refine (err_any w6 rb b k6 er6 HR6.out).mono ?_
      rintro e w7 ⟨rfl, qt7⟩
      rw [HPL.out]
      have HR7 : Hid (RdrAt w7 rb b k6 er6) := HR6.out.below (qt7.below _)
      have HQ7 : Hid (RefAt w7 qb b k6 er6) := HQ6.out.below (qt7.below _)
      have HK7 : Hid (KeptSt w7 kb) := HK6.out.below (qt7.below _)
      have HB7 : Hid (Below w.heap.size w w7) := HB6.out.trans (qt7.below _)
      clear qt7 HR6 HQ6 HK6 HB6
      go_wp2_with fail
      refine (place_any w7 qb b k6 er6 HQ7.out).mono ?_
      rintro e w8 ⟨rfl, qt8⟩
      rw [HPL.out]
      have HR8 : Hid (RdrAt w8 rb b k6 er6) := HR7.out.below (qt8.below _)
      have HQ8 : Hid (RefAt w8 qb b k6 er6) := HQ7.out.below (qt8.below _)
      have HK8 : Hid (KeptSt w8 kb) := HK7.out.below (qt8.below _)
      have HB8 : Hid (Below w.heap.size w w8) := HB7.out.trans (qt8.below _)
      clear qt8 HR7 HQ7 HK7 HB7
      obtain ⟨ao', ca', cc0, cc1, -, -, -, -, -, -, -, hk6, -⟩ := HQ8.out.cells
      clear cc0
      go_wp2_with fail
      go_quiet ((first | (go_at_call 32; exact Calls.quiet_of_same (at_any _ rb b k6 er6 (HR8.out.below (Qt.below ⟨_, rfl⟩ _)))) | (go_at_call 33; exact Calls.quiet_of (left_any _ rb b k6 er6 (HR8.out.below (Qt.below ⟨_, rfl⟩ _))))))
      have HQT : Hid (Below w8.heap.size w8 (w8.drewN nq)) := Qt.below ⟨nq, rfl⟩ _
      go_wp2_with fail
      go_roundw
      case rel => exact ⟨j + 1, k6, er6, by omega, by go_num, HR8.out.below HQT.out, HQ8.out.below HQT.out, HK8.out.below HQT.out, HB8.out.trans (HQT.out.mono HB8.out.size)⟩
      case measure => simp [intOf]; omega
    · have hlt' : ¬ ((j : Int) < (os.length : Int)) := by omega
      obtain ⟨its, size, hKK, hII⟩ := hK.out
      have HKK : Hid (Kept wr kb kb its size) := hKK
      have HII : Hid (Items wr kb its) := hII
      clear hKK hII hK
      go_wp2_with fail
      refine (apart_any wr kb kb its size HKK.out HII.out).mono ?_
      rintro e w9 ⟨rfl, q⟩
      have HB9 : Hid (Below w.heap.size w w9) := hB.out.trans (q.mono HKB.out)
      clear q
      go_wp2_with fail
      go_ret
      exact ⟨rfl, HB9.out⟩
#print axioms reader_walk
end Go.Proofs.Ytgccfpmjcpoddaa
