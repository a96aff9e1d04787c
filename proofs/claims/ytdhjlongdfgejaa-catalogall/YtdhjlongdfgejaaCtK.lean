/-
  A number, a segment, read: the program's.
-/
import Derived.Test.YtdhjlongdfgejaaCtJ
import Derived.Test.YtdhjlongdfgejaaRdS
namespace Go.Proofs.Ytdhjlongdfgejaa.Ct
open Go.RowKit

/-- At block rb lies a Reader over l, in the state s: what is left, the error. -/
def RS (w : World) (rb : Nat) (l : List UInt8) (s : Stt) : Prop := ∃ k, RdrAt w rb l k s.2 ∧ l.drop k = s.1
theorem RS.lt {w : World} {rb : Nat} {l : List UInt8} {s : Stt} (h : RS w rb l s) : rb < w.heap.size := by obtain ⟨k, h, _⟩ := h; exact h.lt
theorem RS.below {w w' : World} {rb : Nat} {l : List UInt8} {s : Stt} (h : RS w rb l s) (hb : Below w.heap.size w w') : RS w' rb l s := by
  obtain ⟨k, h, e⟩ := h; exact ⟨k, h.below hb, e⟩
theorem RS.sets {w : World} {rb sb j : Nat} {l : List UInt8} {s : Stt} {cs : Array Value} {T : TypeId} {fz : Nat × Nat} (h : RS w rb l s) (hb : w.heap[sb]? = some (.cells cs T fz)) (hT : T ≠ 5) (hne : rb ≠ sb) (x : Value) : RS (w.setCell ⟨sb, j, none⟩ x) rb l s := by
  obtain ⟨k, ⟨v, h1, h2, h3⟩, e⟩ := h
  refine ⟨k, ⟨v, ?_, ?_, h3⟩, e⟩
  · rw [heap_setCell_other _ _ _ _ hne]; exact h1
  · refine ownsRow_setCell_other h2 (fun e1 => ?_) _
    rcases h2.2 with ⟨rfl, _⟩ | ⟨g, cap, cur, rfl, hg, hh, r⟩
    · simp [Value.ownBlock] at e1
    · simp [Value.ownBlock] at e1
      subst e1
      rw [hb] at hh
      simp at hh
      exact hT hh.2.1
theorem rvar_any (w : World) (rb : Nat) (l : List UInt8) (s : Stt) (m : Nat) (hm : m < 18446744073709551616) (h : RS w rb l s) :
    Calls Try.prog 60 #[.pointer (some ⟨rb, 0, none⟩), .int .u64 (m : Int)] w fun e w' => e = .returned (.int .u64 (vV m s : Int)) ∧ RS w' rb l (vS m s) ∧ w.grownBy w' (some rb) := by
  obtain ⟨r, er⟩ := s
  obtain ⟨k, h, e⟩ := h
  dsimp only at h e
  subst e
  by_cases h0 : er = 0
  · subst h0
    by_cases h1 : (rv (l.drop k)).2.2 = 0
    · by_cases h2 : (rv (l.drop k)).1 ≤ m
      · have e1 : vV m (l.drop k, 0) = (rv (l.drop k)).1 := by unfold vV; rw [if_pos ⟨rfl, h1, h2⟩]
        have e2 : vS m (l.drop k, 0) = (nx (l.drop k), 0) := by unfold vS; rw [if_neg (by simp), if_neg (by simpa using h1), if_neg (by simp; omega)]
        have e3 : vr l k (m : Int) = rv (l.drop k) := by unfold vr; rw [if_neg (by simpa using h1), if_neg (by omega)]
        rw [e1, e2]
        refine (Varint_good w rb l k (m : Int) h (by omega) (by rw [e3]; exact h1)).mono ?_
        rintro e w' ⟨rfl, R, g⟩
        rw [e3] at R ⊢
        exact ⟨rfl, ⟨_, R, by rw [nx, List.drop_drop]⟩, g⟩
      · have e1 : vV m (l.drop k, 0) = 0 := by unfold vV; rw [if_neg (fun c => h2 c.2.2)]
        have e2 : vS m (l.drop k, 0) = (l.drop k, 3) := by unfold vS; rw [if_neg (by simp), if_neg (by simpa using h1), if_pos (by simp; omega)]
        have e3 : vr l k (m : Int) = (0, 0, 3) := by unfold vr; rw [if_neg (by simpa using h1), if_pos (by omega)]
        rw [e1, e2]
        refine (Varint_bad w rb l k 0 3 (m : Int) h fun u hu => by have := varint_bad u rb l k (m : Int) hu (by omega) (by rw [e3]; simp); rw [e3] at this; exact this).mono ?_
        rintro e w' ⟨rfl, R, g⟩
        exact ⟨rfl, ⟨_, R, rfl⟩, g⟩
    · have e1 : vV m (l.drop k, 0) = 0 := by unfold vV; rw [if_neg (by simp [h1])]
      have e2 : vS m (l.drop k, 0) = (l.drop k, (rv (l.drop k)).2.2) := by unfold vS; rw [if_neg (by simp), if_pos (by simpa using h1)]
      have e3 : vr l k (m : Int) = (0, 0, (rv (l.drop k)).2.2) := by unfold vr; rw [if_pos (by simpa using h1)]
      rw [e1, e2]
      refine (Varint_bad w rb l k 0 (rv (l.drop k)).2.2 (m : Int) h fun u hu => by have := varint_bad u rb l k (m : Int) hu (by omega) (by rw [e3]; exact h1); rw [e3] at this; exact this).mono ?_
      rintro e w' ⟨rfl, R, g⟩
      exact ⟨rfl, ⟨_, R, rfl⟩, g⟩
  · have e1 : vV m (l.drop k, er) = 0 := by unfold vV; rw [if_neg (by simp [h0])]
    have e2 : vS m (l.drop k, er) = (l.drop k, er) := by unfold vS; rw [if_pos (by simpa using h0)]
    rw [e1, e2]
    refine (Varint_bad w rb l k er er (m : Int) h fun u hu => (varint_no u rb l k er (m : Int) hu (by simpa using h0)).mono fun e w' ⟨a, b⟩ => ⟨a, by rw [b]; exact Qt.refl _⟩).mono ?_
    rintro e w' ⟨rfl, R, g⟩
    exact ⟨rfl, ⟨_, R, rfl⟩, g⟩
theorem rfix_any (w : World) (rb : Nat) (l : List UInt8) (s : Stt) (h : RS w rb l s) :
    Calls Try.prog 43 #[.pointer (some ⟨rb, 0, none⟩)] w fun e w' => e = .returned (.int .u32 (xV s : Int)) ∧ RS w' rb l (xS s) ∧ w.grownBy w' (some rb) := by
  obtain ⟨r, er⟩ := s
  obtain ⟨k, h, e⟩ := h
  dsimp only at h e
  subst e
  have hk : k ≤ l.length := by obtain ⟨_, _, _, h, _⟩ := h; exact h
  have hl : (l.drop k).length = l.length - k := List.length_drop
  refine (fixed32_tot w rb l (k, er) h).mono ?_
  rintro e w' ⟨rfl, R, g⟩
  by_cases h0 : er = 0
  · subst h0
    by_cases h1 : k + 4 ≤ l.length
    · have a1 : stv l 4 (k, 0) = num ((l.drop k).take 4) := by rw [stv, if_pos ⟨rfl, h1⟩]
      have a2 : stp l 4 (k, 0) = (k + 4, 0) := by rw [stp, if_pos rfl, if_pos h1]
      have b1 : xV (l.drop k, 0) = num ((l.drop k).take 4) := by unfold xV; rw [if_pos ⟨rfl, by show 4 ≤ (l.drop k).length; omega⟩]
      have b2 : xS (l.drop k, 0) = ((l.drop k).drop 4, 0) := by unfold xS; rw [if_neg (by simp), if_neg (by show ¬ (l.drop k).length < 4; omega)]
      rw [a1, b1, b2]
      rw [a2] at R
      exact ⟨rfl, ⟨_, R, by rw [List.drop_drop]⟩, g⟩
    · have a1 : stv l 4 (k, 0) = 0 := by rw [stv, if_neg (by omega)]
      have a2 : stp l 4 (k, 0) = (k, 2) := by rw [stp, if_pos rfl, if_neg h1]
      have b1 : xV (l.drop k, 0) = 0 := by unfold xV; rw [if_neg (by show ¬ (_ ∧ 4 ≤ (l.drop k).length); omega)]
      have b2 : xS (l.drop k, 0) = (l.drop k, 2) := by unfold xS; rw [if_neg (by simp), if_pos (by show (l.drop k).length < 4; omega)]
      rw [a1, b1, b2]
      rw [a2] at R
      exact ⟨rfl, ⟨_, R, rfl⟩, g⟩
  · have a1 : stv l 4 (k, er) = 0 := by rw [stv, if_neg (by simp [h0])]
    have a2 : stp l 4 (k, er) = (k, er) := by rw [stp, if_neg h0]
    have b1 : xV (l.drop k, er) = 0 := by unfold xV; rw [if_neg (by simp [h0])]
    have b2 : xS (l.drop k, er) = (l.drop k, er) := by unfold xS; rw [if_pos (by simpa using h0)]
    rw [a1, b1, b2]
    rw [a2] at R
    exact ⟨rfl, ⟨_, R, rfl⟩, g⟩
theorem readNumber_any (w : World) (rb : Nat) (l : List UInt8) (s : Stt) (h : RS w rb l s) :
    Calls Try.prog 59 #[.pointer (some ⟨rb, 0, none⟩)] w fun e w' => e = .returned (.int .i64 (nV s : Int)) ∧ RS w' rb l (nS s) ∧ w.grownBy w' (some rb) := by
  have CALL := hide (rvar_any w rb l s 9223372036854775807 (by omega) h)
  have h1 := nV_le s
  have e1 : Hid (vV 9223372036854775807 s = nV s) := rfl
  have e2 : Hid (vS 9223372036854775807 s = nS s) := rfl
  rw [e1.out, e2.out] at CALL
  generalize nV s = n at *
  have hw : IntKind.i64.wrap (n : Int) = (n : Int) := by rw [IntKind.wrap_i64]; omega
  clear h
  go_enter Try.func59, Try.ntmps59
  go_wp2_with fail
  refine CALL.out.mono ?_
  rintro e w1 ⟨rfl, R1, g1⟩
  replace R1 := hide R1
  replace g1 := hide g1
  clear CALL
  go_wp2_with fail
  go_ret
  exact ⟨rfl, R1.out, g1.out⟩
#print axioms readNumber_any
theorem butStep {X Y : Nat → Prop} {A B C : World} (h : But X A B) (k : But Y B C) (hY : ∀ j, j < A.heap.size → Y j → X j) : But X A C :=
  ⟨k.os.trans h.os, k.tape.trans h.tape, k.output.trans h.output, Nat.le_trans h.size k.size, fun i hi hx => (k.block i (Nat.lt_of_lt_of_le hi h.size) (fun c => hx (hY i hi c))).trans (h.block i hi hx)⟩
/-- A segment that is being read into block sb: the world u, out of w. -/
structure Rg (w u : World) (rb sb zb : Nat) (l : List UInt8) (s : Stt) (a : Array Value) : Prop where
  rs : RS u rb l s
  sg : u.heap[sb]? = some (.cells a 53 (0, 0))
  zg : u.heap[zb]? = some (.cells #[.int .i64 0, .int .i64 0, .int .u32 0, .int .i64 0, .int .i64 0] 53 (0, 0))
  but : But (fun k => k = rb) w u
  r1 : rb < w.heap.size
  s1 : w.heap.size ≤ zb
  s2 : zb < sb
theorem Rg.call {w u u' : World} {rb sb zb : Nat} {l : List UInt8} {s s' : Stt} {a : Array Value} (h : Rg w u rb sb zb l s a) (hr : RS u' rb l s') (hg : u.grownBy u' (some rb)) : Rg w u' rb sb zb l s' a := by
  have := h.r1
  have := h.s1
  have := h.s2
  refine ⟨hr, ?_, ?_, butStep (Y := fun k => k = rb) h.but (But.of_grownBy hg fun k e => by cases e; rfl) fun j _ e => e, h.r1, h.s1, h.s2⟩
  · rw [hg.block sb (heap_lt h.sg) (fun e => by cases e; omega)]; exact h.sg
  · rw [hg.block zb (heap_lt h.zg) (fun e => by cases e; omega)]; exact h.zg
theorem Rg.set {w u : World} {rb sb zb : Nat} {l : List UInt8} {s : Stt} {a : Array Value} (h : Rg w u rb sb zb l s a) (j : Nat) (x : Value) : Rg w (u.setCell ⟨sb, j, none⟩ x) rb sb zb l s (a.setIfInBounds j x) := by
  have := h.r1
  have := h.s1
  have := h.s2
  refine ⟨h.rs.sets h.sg (by decide) (by omega) x, ?_, ?_, butStep (Y := fun k => k = sb) h.but (But.of_grownBy (grown_setCell u sb j x) fun k e => by cases e; rfl) fun j hj e => by omega, h.r1, h.s1, h.s2⟩
  · rw [heap_setCell_same _ _ _ _ _ _ h.sg]
  · rw [heap_setCell_other _ _ _ _ (by show zb ≠ sb; omega)]; exact h.zg
theorem Rg.cells {w u : World} {rb sb zb : Nat} {l : List UInt8} {s : Stt} {a0 a1 a2 a3 a4 : Value} (h : Rg w u rb sb zb l s #[a0, a1, a2, a3, a4]) : (u.cell? ⟨sb, 0, none⟩ = some a0 ∧ u.cell? ⟨sb, 1, none⟩ = some a1 ∧ u.cell? ⟨sb, 2, none⟩ = some a2 ∧ u.cell? ⟨sb, 3, none⟩ = some a3 ∧ u.cell? ⟨sb, 4, none⟩ = some a4) ∧ u.frozen? ⟨sb, 0, none⟩ = false ∧ u.frozen? ⟨sb, 1, none⟩ = false ∧ u.frozen? ⟨sb, 2, none⟩ = false ∧ u.frozen? ⟨sb, 3, none⟩ = false ∧ u.frozen? ⟨sb, 4, none⟩ = false := by
  refine ⟨five_cells h.sg, ?_⟩
  have := h.sg
  simp [World.frozen?, this]
theorem put5_zero {u : World} {zb : Nat} {a0 a1 a2 a3 a4 : Value} {T : TypeId} (h : u.heap[zb]? = some (.cells #[a0, a1, a2, a3, a4] T (0, 0))) (b0 b1 b2 b3 b4 : Value) : (((((u.setCell ⟨zb, 0, none⟩ b0).setCell ⟨zb, 1, none⟩ b1).setCell ⟨zb, 2, none⟩ b2).setCell ⟨zb, 3, none⟩ b3).setCell ⟨zb, 4, none⟩ b4).heap[zb]? = some (.cells #[b0, b1, b2, b3, b4] T (0, 0)) := by
  rw [heap_setCell_same _ _ _ _ _ _ (heap_setCell_same _ _ _ _ _ _ (heap_setCell_same _ _ _ _ _ _ (heap_setCell_same _ _ _ _ _ _ (heap_setCell_same _ _ _ _ _ _ h))))]
  simp
/-- Five cells of a block, written. -/
def put5 (w : World) (b : Nat) (a0 a1 a2 a3 a4 : Value) : World := ((((w.setCell ⟨b, 0, none⟩ a0).setCell ⟨b, 1, none⟩ a1).setCell ⟨b, 2, none⟩ a2).setCell ⟨b, 3, none⟩ a3).setCell ⟨b, 4, none⟩ a4
set_option maxHeartbeats 1000000 in
theorem readSeg_any (w : World) (rb : Nat) (l : List UInt8) (s : Stt) (h : RS w rb l s) :
    Calls Try.prog 61 #[.pointer (some ⟨rb, 0, none⟩)] w fun e w' => e = .returned (.agg #[.int .i64 (segV s).nm, .int .i64 (segV s).ba, .int .u32 ((segV s).se : Int), .int .i64 (segV s).en, .int .i64 (segV s).sz]) ∧ RS w' rb l (segS s) ∧ But (fun k => k = rb) w w' := by
  have G0 : Hid (Rg w ((w.alloc (.cells #[.int .i64 0, .int .i64 0, .int .u32 0, .int .i64 0, .int .i64 0] 53)).alloc (.cells #[.int .i64 0, .int .i64 0, .int .u32 0, .int .i64 0, .int .i64 0] 53)) rb (w.heap.size + 1) w.heap.size l s #[.int .i64 0, .int .i64 0, .int .u32 0, .int .i64 0, .int .i64 0]) := by
    have e := heap_alloc_new (w.alloc (.cells #[.int .i64 0, .int .i64 0, .int .u32 0, .int .i64 0, .int .i64 0] 53)) (.cells #[.int .i64 0, .int .i64 0, .int .u32 0, .int .i64 0, .int .i64 0] 53)
    rw [show (w.alloc (.cells #[.int .i64 0, .int .i64 0, .int .u32 0, .int .i64 0, .int .i64 0] 53)).heap.size = w.heap.size + 1 by simp] at e
    exact ⟨(h.below (box_below _ _)).below (box_below _ _), e, by rw [(box_below _ _).block w.heap.size (by simp), heap_alloc_new], (But.alloc _ _ _).trans (But.alloc _ _ _), h.lt, Nat.le_refl _, Nat.lt_succ_self _⟩
  clear h
  go_enter Try.func61, Try.ntmps61
  go_wp2_with fail
  generalize ((w.alloc (.cells #[.int .i64 0, .int .i64 0, .int .u32 0, .int .i64 0, .int .i64 0] 53)).alloc (.cells #[.int .i64 0, .int .i64 0, .int .u32 0, .int .i64 0, .int .i64 0] 53)) = w1 at *
  generalize w.heap.size = zb at *
  refine (readNumber_any w1 rb l s G0.out.rs).mono ?_
  rintro e w2 ⟨rfl, R2, g2⟩
  have G1 := hide (G0.out.call R2 g2)
  clear R2 g2 G0
  obtain ⟨⟨c0, c1, c2, c3, c4⟩, f0, f1, f2, f3, f4⟩ := G1.out.cells
  have S1 := hide (G1.out.set 0 (.int .i64 (nV s : Int)))
  rw [show (_ : Array Value).setIfInBounds 0 (.int .i64 (nV s : Int)) = #[.int .i64 (nV s : Int), .int .i64 0, .int .u32 0, .int .i64 0, .int .i64 0] from rfl] at S1
  go_wp2_with fail
  generalize w2.setCell ⟨zb + 1, 0, none⟩ (.int .i64 (nV s : Int)) = w3 at *
  clear c0 c1 c2 c3 c4 f0 f1 f2 f3 f4 G1
  refine (readNumber_any w3 rb l (nS s) S1.out.rs).mono ?_
  rintro e w4 ⟨rfl, R2, g2⟩
  have G2 := hide (S1.out.call R2 g2)
  clear R2 g2 S1
  obtain ⟨⟨c0, c1, c2, c3, c4⟩, f0, f1, f2, f3, f4⟩ := G2.out.cells
  have S2 := hide (G2.out.set 1 (.int .i64 (nV (nS s) : Int)))
  rw [show (_ : Array Value).setIfInBounds 1 (.int .i64 (nV (nS s) : Int)) = #[.int .i64 (nV s : Int), .int .i64 (nV (nS s) : Int), .int .u32 0, .int .i64 0, .int .i64 0] from rfl] at S2
  go_wp2_with fail
  generalize w4.setCell ⟨zb + 1, 1, none⟩ (.int .i64 (nV (nS s) : Int)) = w5 at *
  clear c0 c1 c2 c3 c4 f0 f1 f2 f3 f4 G2
  refine (rfix_any w5 rb l (nS (nS s)) S2.out.rs).mono ?_
  rintro e w6 ⟨rfl, R2, g2⟩
  have G3 := hide (S2.out.call R2 g2)
  clear R2 g2 S2
  obtain ⟨⟨c0, c1, c2, c3, c4⟩, f0, f1, f2, f3, f4⟩ := G3.out.cells
  have S3 := hide (G3.out.set 2 (.int .u32 (xV (nS (nS s)) : Int)))
  rw [show (_ : Array Value).setIfInBounds 2 (.int .u32 (xV (nS (nS s)) : Int)) = #[.int .i64 (nV s : Int), .int .i64 (nV (nS s) : Int), .int .u32 (xV (nS (nS s)) : Int), .int .i64 0, .int .i64 0] from rfl] at S3
  go_wp2_with fail
  generalize w6.setCell ⟨zb + 1, 2, none⟩ (.int .u32 (xV (nS (nS s)) : Int)) = w7 at *
  clear c0 c1 c2 c3 c4 f0 f1 f2 f3 f4 G3
  refine (readNumber_any w7 rb l (xS (nS (nS s))) S3.out.rs).mono ?_
  rintro e w8 ⟨rfl, R2, g2⟩
  have G4 := hide (S3.out.call R2 g2)
  clear R2 g2 S3
  obtain ⟨⟨c0, c1, c2, c3, c4⟩, f0, f1, f2, f3, f4⟩ := G4.out.cells
  have S4 := hide (G4.out.set 3 (.int .i64 (nV (xS (nS (nS s))) : Int)))
  rw [show (_ : Array Value).setIfInBounds 3 (.int .i64 (nV (xS (nS (nS s))) : Int)) = #[.int .i64 (nV s : Int), .int .i64 (nV (nS s) : Int), .int .u32 (xV (nS (nS s)) : Int), .int .i64 (nV (xS (nS (nS s))) : Int), .int .i64 0] from rfl] at S4
  go_wp2_with fail
  generalize w8.setCell ⟨zb + 1, 3, none⟩ (.int .i64 (nV (xS (nS (nS s))) : Int)) = w9 at *
  clear c0 c1 c2 c3 c4 f0 f1 f2 f3 f4 G4
  refine (readNumber_any w9 rb l (nS (xS (nS (nS s)))) S4.out.rs).mono ?_
  rintro e w10 ⟨rfl, R2, g2⟩
  have G5 := hide (S4.out.call R2 g2)
  clear R2 g2 S4
  obtain ⟨⟨c0, c1, c2, c3, c4⟩, f0, f1, f2, f3, f4⟩ := G5.out.cells
  have S5 := hide (G5.out.set 4 (.int .i64 (nV (nS (xS (nS (nS s)))) : Int)))
  rw [show (_ : Array Value).setIfInBounds 4 (.int .i64 (nV (nS (xS (nS (nS s)))) : Int)) = #[.int .i64 (nV s : Int), .int .i64 (nV (nS s) : Int), .int .u32 (xV (nS (nS s)) : Int), .int .i64 (nV (xS (nS (nS s))) : Int), .int .i64 (nV (nS (xS (nS (nS s)))) : Int)] from rfl] at S5
  go_upto_region 7 with fail
  generalize w10.setCell ⟨zb + 1, 4, none⟩ (.int .i64 (nV (nS (xS (nS (nS s)))) : Int)) = w11 at *
  clear c0 c1 c2 c3 c4 f0 f1 f2 f3 f4 G5
  have Z := S5.out.zg
  obtain ⟨c0, c1, c2, c3, c4⟩ := five_cells Z
  have ff : w11.frozen? ⟨zb, 0, none⟩ = false ∧ w11.frozen? ⟨zb, 1, none⟩ = false ∧ w11.frozen? ⟨zb, 2, none⟩ = false ∧ w11.frozen? ⟨zb, 3, none⟩ = false ∧ w11.frozen? ⟨zb, 4, none⟩ = false := by simp [World.frozen?, Z]
  obtain ⟨f0, f1, f2, f3, f4⟩ := ff
  have hne : rb ≠ zb := by have := S5.out.r1; have := S5.out.s1; omega
  have Z5 := hide (five_cells (put5_zero Z (.int .i64 (nV s : Int)) (.int .i64 (nV (nS s) : Int)) (.int .u32 (xV (nS (nS s)) : Int)) (.int .i64 (nV (xS (nS (nS s))) : Int)) (.int .i64 (nV (nS (xS (nS (nS s)))) : Int))))
  have RF : Hid (RS (put5 w11 zb (.int .i64 (nV s : Int)) (.int .i64 (nV (nS s) : Int)) (.int .u32 (xV (nS (nS s)) : Int)) (.int .i64 (nV (xS (nS (nS s))) : Int)) (.int .i64 (nV (nS (xS (nS (nS s)))) : Int))) rb l (segS s)) := by
    have z0 := Z
    have r0 := S5.out.rs
    have r1 := r0.sets (j := 0) z0 (by decide) hne (.int .i64 (nV s : Int))
    have z1 := heap_setCell_same _ zb 0 _ _ (.int .i64 (nV s : Int)) z0
    have r2 := r1.sets (j := 1) z1 (by decide) hne (.int .i64 (nV (nS s) : Int))
    have z2 := heap_setCell_same _ zb 1 _ _ (.int .i64 (nV (nS s) : Int)) z1
    have r3 := r2.sets (j := 2) z2 (by decide) hne (.int .u32 (xV (nS (nS s)) : Int))
    have z3 := heap_setCell_same _ zb 2 _ _ (.int .u32 (xV (nS (nS s)) : Int)) z2
    have r4 := r3.sets (j := 3) z3 (by decide) hne (.int .i64 (nV (xS (nS (nS s))) : Int))
    have z4 := heap_setCell_same _ zb 3 _ _ (.int .i64 (nV (xS (nS (nS s))) : Int)) z3
    exact r4.sets (j := 4) z4 (by decide) hne (.int .i64 (nV (nS (xS (nS (nS s)))) : Int))
  have hG : ∀ (u : World) (j : Nat) (x : Value), But (fun k => k = rb) w u → But (fun k => k = rb) w (u.setCell ⟨zb, j, none⟩ x) := fun u j x hb => butStep (Y := fun k => k = zb) hb (But.of_grownBy (grown_setCell u zb j x) fun k e => by cases e; rfl) fun k hk e => by have := S5.out.s1; omega
  have BF : Hid (But (fun k => k = rb) w (put5 w11 zb (.int .i64 (nV s : Int)) (.int .i64 (nV (nS s) : Int)) (.int .u32 (xV (nS (nS s)) : Int)) (.int .i64 (nV (xS (nS (nS s))) : Int)) (.int .i64 (nV (nS (xS (nS (nS s)))) : Int)))) := hG _ _ _ (hG _ _ _ (hG _ _ _ (hG _ _ _ (hG _ _ _ S5.out.but))))
  obtain ⟨⟨e0, e1, e2, e3, e4⟩, _⟩ := S5.out.cells
  replace Z := hide Z
  clear hG
  go_wp2_with fail
  show bodyPost _ _ _ _ _ (put5 w11 zb (.int .i64 (nV s : Int)) (.int .i64 (nV (nS s) : Int)) (.int .u32 (xV (nS (nS s)) : Int)) (.int .i64 (nV (xS (nS (nS s))) : Int)) (.int .i64 (nV (nS (xS (nS (nS s)))) : Int)))
  obtain ⟨k0, k1, k2, k3, k4⟩ := Z5.out
  have Z6 : Hid (∀ u, u = put5 w11 zb (.int .i64 (nV s : Int)) (.int .i64 (nV (nS s) : Int)) (.int .u32 (xV (nS (nS s)) : Int)) (.int .i64 (nV (xS (nS (nS s))) : Int)) (.int .i64 (nV (nS (xS (nS (nS s)))) : Int)) → u.cell? ⟨zb, 0, none⟩ = some (.int .i64 (nV s : Int)) ∧ u.cell? ⟨zb, 1, none⟩ = some (.int .i64 (nV (nS s) : Int)) ∧ u.cell? ⟨zb, 2, none⟩ = some (.int .u32 (xV (nS (nS s)) : Int)) ∧ u.cell? ⟨zb, 3, none⟩ = some (.int .i64 (nV (xS (nS (nS s))) : Int)) ∧ u.cell? ⟨zb, 4, none⟩ = some (.int .i64 (nV (nS (xS (nS (nS s)))) : Int))) := fun u e => by rw [e]; exact ⟨k0, k1, k2, k3, k4⟩
  clear k0 k1 k2 k3 k4
  generalize hq : put5 w11 zb (.int .i64 (nV s : Int)) (.int .i64 (nV (nS s) : Int)) (.int .u32 (xV (nS (nS s)) : Int)) (.int .i64 (nV (xS (nS (nS s))) : Int)) (.int .i64 (nV (nS (xS (nS (nS s)))) : Int)) = w12 at *
  obtain ⟨k0, k1, k2, k3, k4⟩ := Z6.out w12 rfl
  refine bodyPost_ret (by simp [results, Try.results61, go_sem, k0, k1, k2, k3, k4]; rfl) rfl ?_
  exact ⟨rfl, RF.out, BF.out⟩
#print axioms readSeg_any
end Go.Proofs.Ytdhjlongdfgejaa.Ct
