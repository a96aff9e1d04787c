/-
  What every statement of the tenth layer asks ahead (flumelaw10.begun) is answered true.
-/
import Derived.Test.YtdhjlongdfgejaaCtO
import Derived.Test.YtdhjlongdfgejaaCryd
namespace Go.Proofs.Ytdhjlongdfgejaa.Ct
open Go.RowKit

def l1 : List Sg := [⟨1, 1, 7, 0, 0⟩]
def l2 : List Sg := [⟨1, 1, 7, 11, 300⟩, ⟨2, 11, 9, 0, 0⟩]
theorem in1 : AIn l1 := fun s hs => by
  simp only [l1, List.mem_singleton] at hs
  subst hs
  exact ⟨by decide, by decide, by decide, by decide, by decide, by decide, by decide, by decide, by decide⟩
theorem may1 : May 1 1 l1 := ⟨by decide, by decide, by decide, fun i hi => by simp [l1] at hi, ⟨by decide, by decide, fun c => by rcases c with c | c <;> exact c rfl⟩, by decide, fun c => by rcases c with c | c <;> exact absurd rfl c⟩
theorem may2 : May 2 1 l2 := by
  refine ⟨by decide, by decide, by decide, fun i hi => ?_, ⟨by decide, by decide, fun c => by rcases c with c | c <;> exact c rfl⟩, by decide, fun _ => by decide⟩
  obtain rfl : i = 0 := by simp [l2] at hi; omega
  exact ⟨⟨by decide, by decide, by decide, by decide, by decide⟩, by decide, by decide, by decide⟩
theorem roll1 : rollF 1 1 l1 11 300 9 = (0, 2, 1, l2) := by
  have e : rolled l1 11 300 9 = l2 := rfl
  unfold rollF
  rw [if_neg (fun c => c may1), if_neg (by decide), if_neg (by decide), e, if_neg (fun c => c may2)]
  rfl
theorem at2 : atF 2 1 l2 11 = (1, true) := atF_at may2 (by decide) ⟨by decide, by decide, fun j h1 h2 => by simp [l2] at h2; omega⟩
theorem cut2 : cutF 2 1 l2 11 = (0, 3, 11, [⟨2, 11, 9, 0, 0⟩], [1]) := by
  rw [cutF_at may2 (by decide) (k := 1) ⟨by decide, fun i hi => ?_, fun c => ?_⟩]
  · rfl
  · obtain rfl : i = 0 := by omega
    exact ⟨.inl (by decide), by decide⟩
  · rcases c.1 with c | c <;> exact c rfl
theorem write1 : writeF 1 1 l1 = (0, bytesC 1 1 l1) := by unfold writeF; rw [if_pos may1]
theorem read1 : readF (bytesC 1 1 l1) = (0, 1, 1, l1) := read_back may1 in1 (by decide) (by decide)
theorem len1 : (bytesC 1 1 l1).length ≤ 1000 := by
  have := frontC_len 1 1 l1
  have h := fx_len 4 (Crc.more 0#32 (frontC 1 1 l1)).toNat
  unfold bytesC
  rw [List.length_append, h]
  simp [l1] at this ⊢
  omega
set_option maxRecDepth 20000 in
set_option maxHeartbeats 2000000 in
theorem begun_any (w : World) : Calls Try.prog 7 #[] w fun e w' => e = .returned (.bool true) ∧ Below w.heap.size w w' := by
  have S0 : Hid (Sgs (w.alloc (.cells #[.int .i64 1, .int .i64 1, .int .u32 7, .int .i64 0, .int .i64 0] 53)) (.slice (some ⟨w.heap.size, 0, none⟩) 1 1) l1) := by
    refine ⟨in1, _, _, rfl, fun e => by simp at e, by decide, by decide, fun i hi => ⟨w.heap.size, 0, rfl, ?_⟩⟩
    obtain rfl : i = 0 := by simp [l1] at hi; omega
    exact five_cells (heap_alloc_new w _)
  have B0 := hide (box_below w (.cells #[.int .i64 1, .int .i64 1, .int .u32 7, .int .i64 0, .int .i64 0] 53))
  go_enter Try.func7, Try.ntmps7
  go_upto_region 2 with fail
  have X1 := hide (box_below (w.alloc (.cells #[.int .i64 1, .int .i64 1, .int .u32 7, .int .i64 0, .int .i64 0] 53)) (.cells #[.int .i64 1, .int .i64 1, .slice (some ⟨w.heap.size, 0, none⟩) 1 1] 29))
  have C1 := hide (heap_alloc_new (w.alloc (.cells #[.int .i64 1, .int .i64 1, .int .u32 7, .int .i64 0, .int .i64 0] 53)) (.cells #[.int .i64 1, .int .i64 1, .slice (some ⟨w.heap.size, 0, none⟩) 1 1] 29))
  have S1 := hide (S0.out.below X1.out)
  have B1 := hide (keepF B0.out X1.out)
  rw [show (w.alloc (.cells #[.int .i64 1, .int .i64 1, .int .u32 7, .int .i64 0, .int .i64 0] 53)).heap.size = w.heap.size + 1 by simp] at C1
  generalize (w.alloc (.cells #[.int .i64 1, .int .i64 1, .int .u32 7, .int .i64 0, .int .i64 0] 53)).alloc (.cells #[.int .i64 1, .int .i64 1, .slice (some ⟨w.heap.size, 0, none⟩) 1 1] 29) = w1 at *
  clear S0 B0 X1
  obtain ⟨c0, c1, c2⟩ := three_cells C1.out
  go_wp2_with fail
  refine (roll_any w1 1 1 _ l1 11 300 9 S1.out (by decide) (by decide) (by decide) (by decide) (by decide) (by decide)).mono ?_
  rintro e w2 ⟨vd, rfl, O2, b2⟩
  rw [roll1] at O2 ⊢
  dsimp only at O2 ⊢
  obtain ⟨aod, cad, rfl, _, _⟩ := O2.form
  rw [show l2.length = 2 from rfl] at O2 ⊢
  have X2 := hide (box_below w2 (.cells #[.int .i64 2, .int .i64 1, .slice aod 2 cad] 29))
  have b12 := hide (keepF b2 X2.out)
  have D3 := hide (heap_alloc_new w2 (.cells #[.int .i64 2, .int .i64 1, .slice aod 2 cad] 29))
  have O3 := hide (O2.below X2.out)
  have C3 : Hid ((w2.alloc (.cells #[.int .i64 2, .int .i64 1, .slice aod 2 cad] 29)).heap[w.heap.size + 1]? = some (.cells #[.int .i64 1, .int .i64 1, .slice (some ⟨w.heap.size, 0, none⟩) 1 1] 29 (0, 0))) := by show _ = _; rw [b12.out.block _ (heap_lt C1.out)]; exact C1.out
  have S3 := hide (S1.out.below b12.out)
  have B3 := hide (keepF B1.out b12.out)
  clear O2 b2 b12 S1 B1 C1 c0 c1 c2 X2
  go_upto_region 3 with fail
  generalize (w2.alloc (.cells #[.int .i64 2, .int .i64 1, .slice aod 2 cad] 29)) = w3 at *
  generalize w2.heap.size = db at *
  obtain ⟨c0, c1, c2⟩ := three_cells C3.out
  obtain ⟨d0, d1, d2⟩ := three_cells D3.out
  go_wp2_with fail
  refine (at_any w3 2 1 _ l2 11 O3.out.sgs).mono ?_
  rintro e w4 ⟨rfl, b4⟩
  rw [at2]
  have O4 := hide (O3.out.below b4)
  have S4 := hide (S3.out.below b4)
  have B4 := hide (keepF B3.out b4)
  have C4 : Hid (w4.heap[w.heap.size + 1]? = some (.cells #[.int .i64 1, .int .i64 1, .slice (some ⟨w.heap.size, 0, none⟩) 1 1] 29 (0, 0))) := by show _ = _; rw [b4.block _ (heap_lt C3.out)]; exact C3.out
  have D4 : Hid (w4.heap[db]? = some (.cells #[.int .i64 2, .int .i64 1, .slice aod 2 cad] 29 (0, 0))) := by show _ = _; rw [b4.block _ (heap_lt D3.out)]; exact D3.out
  clear b4 O3 S3 B3 C3 D3 c0 c1 c2 d0 d1 d2
  obtain ⟨c0, c1, c2⟩ := three_cells C4.out
  obtain ⟨d0, d1, d2⟩ := three_cells D4.out
  go_wp2_with fail
  refine (cut_any w4 2 1 _ l2 11 O4.out.sgs (by decide)).mono ?_
  rintro e w5 ⟨vf, vl, rfl, O5, I5, b5⟩
  rw [cut2] at O5 I5 ⊢
  dsimp only at O5 I5 ⊢
  obtain ⟨aof, caf, rfl, _, _⟩ := O5.form
  obtain ⟨gl, cl, rfl, hgl⟩ : ∃ gl cl, vl = .slice (some ⟨gl, 0, none⟩) 1 cl ∧ w5.cell? ⟨gl, 0, none⟩ = some (.int .i64 1) := by
    have I5' := I5
    rcases I5.2 with ⟨_, e⟩ | ⟨gg, cap, cur, rfl, _, hh, a, b, c, d⟩
    · simp at e
    · refine ⟨gg, cap, rfl, ?_⟩
      have := World.ownsRow.cells (g := gg) I5' rfl 0 (.int .i64 1) rfl
      rw [addr_add] at this
      exact this
  have X5 := hide (box_below w5 (.cells #[.int .i64 3, .int .i64 11, .slice aof 1 caf] 29))
  have b45 := hide (keepF b5 X5.out)
  have F6 := hide (heap_alloc_new w5 (.cells #[.int .i64 3, .int .i64 11, .slice aof 1 caf] 29))
  have L6 : Hid ((w5.alloc (.cells #[.int .i64 3, .int .i64 11, .slice aof 1 caf] 29)).cell? ⟨gl, 0, none⟩ = some (.int .i64 1)) := by show _ = _; rw [X5.out.cell (lt_of_cell hgl)]; exact hgl
  have C6 : Hid ((w5.alloc (.cells #[.int .i64 3, .int .i64 11, .slice aof 1 caf] 29)).heap[w.heap.size + 1]? = some (.cells #[.int .i64 1, .int .i64 1, .slice (some ⟨w.heap.size, 0, none⟩) 1 1] 29 (0, 0))) := by show _ = _; rw [b45.out.block _ (heap_lt C4.out)]; exact C4.out
  have D6 : Hid ((w5.alloc (.cells #[.int .i64 3, .int .i64 11, .slice aof 1 caf] 29)).heap[db]? = some (.cells #[.int .i64 2, .int .i64 1, .slice aod 2 cad] 29 (0, 0))) := by show _ = _; rw [b45.out.block _ (heap_lt D4.out)]; exact D4.out
  have S6 := hide (S4.out.below b45.out)
  have B6 := hide (keepF B4.out b45.out)
  clear O5 I5 b5 b45 S4 B4 C4 D4 c0 c1 c2 d0 d1 d2 hgl X5 O4
  simp only [List.length_cons, List.length_nil]
  go_upto_region 5 with fail
  generalize (w5.alloc (.cells #[.int .i64 3, .int .i64 11, .slice aof 1 caf] 29)) = w6 at *
  generalize w5.heap.size = fb at *
  obtain ⟨c0, c1, c2⟩ := three_cells C6.out
  go_wp2_with fail
  refine (write_any w6 1 1 _ l1 S6.out (by decide) (by decide)).mono ?_
  rintro e w7 ⟨vb, rfl, O7, b7⟩
  rw [write1] at O7 ⊢
  dsimp only at O7 ⊢
  have SL7 := hide O7.sl
  obtain ⟨aob, cab, rfl⟩ := O7.form
  have hbl := len1
  have S7 := hide (S6.out.below b7)
  have B7 := hide (keepF B6.out b7)
  have C7 : Hid (w7.heap[w.heap.size + 1]? = some (.cells #[.int .i64 1, .int .i64 1, .slice (some ⟨w.heap.size, 0, none⟩) 1 1] 29 (0, 0))) := by show _ = _; rw [b7.block _ (heap_lt C6.out)]; exact C6.out
  have D7 : Hid (w7.heap[db]? = some (.cells #[.int .i64 2, .int .i64 1, .slice aod 2 cad] 29 (0, 0))) := by show _ = _; rw [b7.block _ (heap_lt D6.out)]; exact D6.out
  have F7 : Hid (w7.heap[fb]? = some (.cells #[.int .i64 3, .int .i64 11, .slice aof 1 caf] 29 (0, 0))) := by show _ = _; rw [b7.block _ (heap_lt F6.out)]; exact F6.out
  have L7 : Hid (w7.cell? ⟨gl, 0, none⟩ = some (.int .i64 1)) := by show _ = _; rw [b7.cell (lt_of_cell L6.out)]; exact L6.out
  clear O7 b7 S6 B6 C6 D6 F6 L6 c0 c1 c2
  have RD := hide (read_any w7 _ _ SL7.out (by omega))
  rw [read1] at RD
  generalize bytesC 1 1 l1 = BB at *
  go_wp2_with fail
  refine RD.out.mono ?_
  rintro e w8 ⟨vr, rfl, O8, b8⟩
  dsimp only at O8 ⊢
  obtain ⟨aor, car, rfl, _, _⟩ := O8.form
  rw [show l1.length = 1 from rfl] at O8 ⊢
  have X8 := hide (box_below w8 (.cells #[.int .i64 1, .int .i64 1, .slice aor 1 car] 29))
  have b89 := hide (keepF b8 X8.out)
  have R9 := hide (heap_alloc_new w8 (.cells #[.int .i64 1, .int .i64 1, .slice aor 1 car] 29))
  have O9 := hide (O8.below X8.out)
  have S9 := hide (S7.out.below b89.out)
  have B9 := hide (keepF B7.out b89.out)
  have C9 : Hid ((w8.alloc (.cells #[.int .i64 1, .int .i64 1, .slice aor 1 car] 29)).heap[w.heap.size + 1]? = some (.cells #[.int .i64 1, .int .i64 1, .slice (some ⟨w.heap.size, 0, none⟩) 1 1] 29 (0, 0))) := by show _ = _; rw [b89.out.block _ (heap_lt C7.out)]; exact C7.out
  have D9 : Hid ((w8.alloc (.cells #[.int .i64 1, .int .i64 1, .slice aor 1 car] 29)).heap[db]? = some (.cells #[.int .i64 2, .int .i64 1, .slice aod 2 cad] 29 (0, 0))) := by show _ = _; rw [b89.out.block _ (heap_lt D7.out)]; exact D7.out
  have F9 : Hid ((w8.alloc (.cells #[.int .i64 1, .int .i64 1, .slice aor 1 car] 29)).heap[fb]? = some (.cells #[.int .i64 3, .int .i64 11, .slice aof 1 caf] 29 (0, 0))) := by show _ = _; rw [b89.out.block _ (heap_lt F7.out)]; exact F7.out
  have L9 : Hid ((w8.alloc (.cells #[.int .i64 1, .int .i64 1, .slice aor 1 car] 29)).cell? ⟨gl, 0, none⟩ = some (.int .i64 1)) := by show _ = _; rw [b89.out.cell (lt_of_cell L7.out)]; exact L7.out
  clear O8 b8 b89 S7 B7 C7 D7 F7 L7 RD SL7 X8
  go_upto_region 7 with fail
  generalize (w8.alloc (.cells #[.int .i64 1, .int .i64 1, .slice aor 1 car] 29)) = w9 at *
  generalize w8.heap.size = rb at *
  obtain ⟨c0, c1, c2⟩ := three_cells C9.out
  have CM := hide (may_any w9 1 1 _ l1 S9.out)
  rw [mayB_t may1] at CM
  go_wp2_with fail
  refine CM.out.mono ?_
  rintro e w10 ⟨rfl, b10⟩
  have C10 : Hid (w10.heap[w.heap.size + 1]? = some (.cells #[.int .i64 1, .int .i64 1, .slice (some ⟨w.heap.size, 0, none⟩) 1 1] 29 (0, 0))) := by show _ = _; rw [b10.block _ (heap_lt C9.out)]; exact C9.out
  obtain ⟨p0, p1, p2⟩ := three_cells C10.out
  obtain ⟨q0, q1, q2⟩ := three_cells (show w10.heap[db]? = some (.cells #[.int .i64 2, .int .i64 1, .slice aod 2 cad] 29 (0, 0)) by rw [b10.block _ (heap_lt D9.out)]; exact D9.out)
  obtain ⟨r0, r1, r2⟩ := three_cells (show w10.heap[fb]? = some (.cells #[.int .i64 3, .int .i64 11, .slice aof 1 caf] 29 (0, 0)) by rw [b10.block _ (heap_lt F9.out)]; exact F9.out)
  obtain ⟨s0, s1, s2⟩ := three_cells (show w10.heap[rb]? = some (.cells #[.int .i64 1, .int .i64 1, .slice aor 1 car] 29 (0, 0)) by rw [b10.block _ (heap_lt R9.out)]; exact R9.out)
  have ll : w10.cell? ⟨gl, 0, none⟩ = some (.int .i64 1) := by rw [b10.cell (lt_of_cell L9.out)]; exact L9.out
  have O10 := hide (O9.out.below b10)
  have S10 := hide (S9.out.below b10)
  have B10 := hide (keepF B9.out b10)
  clear b10 CM c0 c1 c2 C9 D9 F9 L9 R9 O9 S9 B9 C10
  go_wp2_with fail
  refine (eq_same w10 1 1 _ _ l1 O10.out.sgs S10.out).mono ?_
  rintro e w11 ⟨rfl, b11⟩
  have B11 := hide (keepF B10.out b11)
  clear b11
  go_wp2_with fail
  go_ret
  exact ⟨rfl, B11.out⟩
#print axioms begun_any
end Go.Proofs.Ytdhjlongdfgejaa.Ct

/-
  CatalogRuns: what a roll and a cut come to, by data; a catalog in a variable.
-/
namespace Go.Proofs.Ytdhjlongdfgejaa.Ct
open Go.RowKit

theorem roll_cases {g f : Int} {l : List Sg} (hm : May g f l) (en sz : Int) (se : Nat) :
    (rollF g f l en sz se).1 ≠ 0 ∨ (rollF g f l en sz se = (0, g + 1, f, rolled l en sz se) ∧ May (g + 1) f (rolled l en sz se) ∧ g ≠ 9223372036854775807 ∧ (lastS l).nm ≠ 9223372036854775807) := by
  unfold rollF
  rw [if_neg (fun c => c hm)]
  split
  · left; simp
  split
  · left; simp
  split
  · left; simp
  · rename_i h1 h2 h3
    refine .inr ⟨rfl, Classical.not_not.1 h3, fun c => h2 (.inl c), fun c => h2 (.inr c)⟩
theorem cut_cases {g f : Int} {l : List Sg} (hm : May g f l) (n : Int) :
    (cutF g f l n).1 ≠ 0 ∨ ∃ k, IsCut l n k ∧ f ≤ n ∧ g ≠ 9223372036854775807 ∧ cutF g f l n = (0, g + 1, n, l.drop k, (l.take k).map Sg.nm) := by
  by_cases h : n < f ∨ g = 9223372036854775807
  · left; rw [cutF_arg hm h]; simp
  · obtain ⟨k, hk⟩ := hm.isCut n
    refine .inr ⟨k, hk, by omega, fun c => h (.inr c), cutF_at hm h hk⟩
theorem rolled_sg1 (l : List Sg) (en sz : Int) (se : Nat) : sg (rolled l en sz se) (l.length - 1) = ⟨(lastS l).nm, (lastS l).ba, (lastS l).se, en, sz⟩ := by
  unfold sg rolled
  rw [List.getD_eq_getElem?_getD, List.getElem?_append_right (by simp)]
  simp
theorem rolled_sg2 {l : List Sg} (h : 1 ≤ l.length) (en sz : Int) (se : Nat) : sg (rolled l en sz se) l.length = ⟨(lastS l).nm + 1, en, se, 0, 0⟩ := by
  unfold sg rolled
  rw [List.getD_eq_getElem?_getD, List.getElem?_append_right (by simp)]
  have : l.length - (List.take (l.length - 1) l).length = 1 := by simp; omega
  rw [this]
  rfl
theorem four_cells {w : World} {b : Nat} {a0 a1 a2 a3 : Value} {T : TypeId} (h : w.heap[b]? = some (.cells #[a0, a1, a2, a3] T (0, 0))) : w.cell? ⟨b, 0, none⟩ = some a0 ∧ w.cell? ⟨b, 1, none⟩ = some a1 ∧ w.cell? ⟨b, 2, none⟩ = some a2 ∧ w.cell? ⟨b, 3, none⟩ = some a3 := by
  simp [World.cell?, h]
/-- A catalog that may be, in the variable at block cb, of the call's own. -/
structure Stc (w u : World) (cb : Nat) (g f : Int) (v : Value) (l : List Sg) : Prop where
  lo : w.heap.size ≤ cb
  bel : Below w.heap.size w u
  blk : u.heap[cb]? = some (.cells #[.int .i64 g, .int .i64 f, v] 29 (0, 0))
  own : Own w.heap.size u v l
  may : May g f l
  g2 : g ≤ 9223372036854775807
  f2 : f ≤ 9223372036854775807
theorem Stc.below {w u u' : World} {cb : Nat} {g f : Int} {v : Value} {l : List Sg} (h : Stc w u cb g f v l) (hb : Below u.heap.size u u') : Stc w u' cb g f v l :=
  ⟨h.lo, keepF h.bel hb, by rw [hb.block _ (heap_lt h.blk)]; exact h.blk, h.own.below hb, h.may, h.g2, h.f2⟩
/-- Another one is put there. -/
theorem Stc.put {w u : World} {cb : Nat} {g f : Int} {v : Value} {l : List Sg} (h : Stc w u cb g f v l) {g' f' : Int} {v' : Value} {l' : List Sg} (ho : Own w.heap.size u v' l') (hm : May g' f' l') (h1 : g' ≤ 9223372036854775807) (h2 : f' ≤ 9223372036854775807) :
    Stc w (put3 u cb (.int .i64 g') (.int .i64 f') v') cb g' f' v' l' :=
  ⟨h.lo, put3_below h.bel h.lo _ _ _, put3_heap h.blk _ _ _, ho.put3 h.blk (by decide) _ _ _, hm, h1, h2⟩
theorem Stc.other {w u : World} {cb db : Nat} {g f : Int} {v : Value} {l : List Sg} (h : Stc w u cb g f v l) {cs : Array Value} {fz : Nat × Nat} (hb : u.heap[db]? = some (.cells cs 29 fz)) (hne : cb ≠ db) (hlo : w.heap.size ≤ db) (a0 a1 a2 : Value) : Stc w (put3 u db a0 a1 a2) cb g f v l :=
  ⟨h.lo, put3_below h.bel hlo _ _ _, by rw [put3_other _ _ _ _ _ _ hne]; exact h.blk, h.own.put3 hb (by decide) _ _ _, h.may, h.g2, h.f2⟩
/-- What the statement asks of each segment behind a cut. -/
theorem cut_goes {g f : Int} {l : List Sg} (hm : May g f l) {n : Int} {k : Nat} (hk : IsCut l n k) {j : Nat} (hj : j < l.length) : (j < k → (sg l j).en ≠ 0 ∧ (sg l j).en ≤ n) ∧ (¬ j < k → (sg l j).en = 0 ∨ ¬ (sg l j).en ≤ n) := by
  have hg := hk.gap hm j hj
  have hs := hm.sld hj
  constructor
  · intro h
    obtain ⟨a, b⟩ := hg.1 h
    obtain ⟨⟨_, c, d, _⟩, _⟩ := hm.lk j (hs.1 a)
    exact ⟨by omega, b⟩
  · intro h
    by_cases a : sldF (sg l j)
    · exact .inr fun c => h (hg.2 ⟨a, c⟩)
    · exact .inl (Classical.byContradiction fun c => a (.inl c))
theorem bytesC_len (g f : Int) (l : List Sg) (h : l.length ≤ 64) : (bytesC g f l).length ≤ 4000 := by
  have a := frontC_len g f l
  have b := fx_len 4 (Crc.more 0#32 (frontC g f l)).toNat
  unfold bytesC
  rw [List.length_append, b]
  omega
theorem one_own {w w1 : World} (hb : w.heap.size ≤ w1.heap.size) (s : Sg) (hs : SIn s) : Own w.heap.size (w1.alloc (.cells #[.int .i64 s.nm, .int .i64 s.ba, .int .u32 (s.se : Int), .int .i64 s.en, .int .i64 s.sz] 53)) (.slice (some ⟨w1.heap.size, 0, none⟩) 1 1) [s] := by
  refine ⟨fun x hx => by simp at hx; subst hx; exact hs, rfl, .inr ⟨w1.heap.size, 1, _, rfl, hb, heap_alloc_new w1 _, Nat.le_refl _, by decide, rfl, rfl⟩⟩
theorem sin_one {b : Int} (h : 1 ≤ b) (h2 : b ≤ 9223372036854775807) : SIn ⟨1, b, 0, 0, 0⟩ := ⟨by simp, by simp, by simp; omega, h2, by simp, by simp, by simp, by simp, by simp⟩
theorem may_one {b : Int} (h : 1 ≤ b) : May 1 b [⟨1, b, 0, 0, 0⟩] :=
  ⟨by decide, by simp, by simp, fun i hi => by simp at hi, ⟨by show (1 : Int) ≤ 1; decide, h, fun c => by rcases c with c | c <;> exact c rfl⟩, Int.le_refl _, fun c => by rcases c with c | c <;> exact absurd rfl c⟩
end Go.Proofs.Ytdhjlongdfgejaa.Ct

