/-
  Package series: a source of bits: the next one.
-/
import Derived.Test.YtojohcckaklmpaaDoorSk2
namespace Go.Proofs.YtojohcckaklmpaaDoor.Sr
open Go.RowKit
set_option maxRecDepth 100000
set_option linter.unusedVariables false

/-- Bytes A lie from address ao on, in blocks below base. -/
def RdB (w : World) (base : Nat) (ao : Option Addr) (A : List UInt8) : Prop :=
  ∀ i (h : i < A.length), ∃ b off, ao = some ⟨b, off, none⟩ ∧ b < base ∧ w.cell? ⟨b, off + i, none⟩ = some (.int .u8 (A[i].toNat : Int))
theorem RdB.below {w w' : World} {base : Nat} {ao : Option Addr} {A : List UInt8} (h : RdB w base ao A) (hb : Below base w w') : RdB w' base ao A := fun i hi => by
  obtain ⟨b, off, e, h1, h2⟩ := h i hi
  exact ⟨b, off, e, h1, by rw [hb.cell (p := ⟨b, off + i, none⟩) h1]; exact h2⟩
theorem RdB.next {w : World} {base b off : Nat} {c : UInt8} {A : List UInt8} (h : RdB w base (some ⟨b, off, none⟩) (c :: A)) : RdB w base (some ⟨b, off + 1, none⟩) A := fun i hi => by
  obtain ⟨b', off', e, h1, h2⟩ := h (i + 1) (by simp; omega)
  simp only [Option.some.injEq, Addr.mk.injEq, and_true] at e
  obtain ⟨rfl, rfl⟩ := e
  refine ⟨b, off + 1, rfl, h1, ?_⟩
  rw [show off + 1 + i = off + (i + 1) by omega, h2]
  simp
theorem RdB.grown {w w' : World} {base q : Nat} {ao : Option Addr} {A : List UInt8} (h : RdB w base ao A) (hg : w.grownBy w' (some q)) (hb : base ≤ q) : RdB w' base ao A := fun i hi => by
  obtain ⟨b, off, e, h1, h2⟩ := h i hi
  exact ⟨b, off, e, h1, hg.cell h2 (by simp; omega)⟩
theorem grown_drew {w w' : World} {row : Option Nat} (h : w.grownBy w' row) : w.grownBy w'.drew row := ⟨h.os, h.tape, h.output, h.size, h.block⟩
theorem grown_set {w w' : World} {q : Nat} (h : w.grownBy w' (some q)) (o : Nat) (v : Value) : w.grownBy (w'.setCell ⟨q, o, none⟩ v) (some q) := grown_trans h (grown_setCell _ _ _ _)
theorem grown_refl (w : World) (row : Option Nat) : w.grownBy w row := ⟨rfl, rfl, rfl, Nat.le_refl _, fun _ _ _ => rfl⟩
theorem grown_below {w w' : World} {base q : Nat} (h : w.grownBy w' (some q)) (hb : base ≤ q) (hs : base ≤ w.heap.size) : Below base w w' := (Below.refl _ _).grown h hs (fun k hk => by simp at hk; omega)
/-- A source lies at block q: the bytes ahead, the byte under way, how many of its bits are left. -/
def Src0 (w : World) (base q : Nat) (A : List UInt8) (u k : Nat) : Prop :=
  ∃ ao cap, w.heap[q]? = some (.cells #[.slice ao A.length cap, .int .u8 (u : Int), .int .i64 (k : Int)] 68 (0, 0)) ∧ RdB w base ao A ∧ A.length ≤ cap ∧ cap ≤ maxLen ∧ u < 256 ∧ k < 8
/-- A source of the bits R. -/
def Src (w : World) (base q : Nat) (R : List Nat) : Prop := ∃ A u k, Src0 w base q A u k ∧ R = bitsOf u k ++ unb A
theorem heap_set (w : World) (q o : Nat) (v : Value) (cs : Array Value) (T : TypeId) (h : w.heap[q]? = some (.cells cs T (0, 0))) : (w.setCell ⟨q, o, none⟩ v).heap[q]? = some (.cells (cs.set! o v) T (0, 0)) := heap_setCell_same w q o _ _ _ h
theorem shr_and (u j : Nat) (hu : u < 256) : bits .and .u64 (IntKind.u64.wrap ((u : Int) / 2 ^ j)) 1 = ((u / 2 ^ j % 2 : Nat) : Int) ∧ bits .and .u64 ((u : Int) / 2 ^ j) 1 = ((u / 2 ^ j % 2 : Nat) : Int) := by
  have hl : u / 2 ^ j < 18446744073709551616 := Nat.lt_of_le_of_lt (Nat.div_le_self _ _) (by omega)
  rw [show (u : Int) / 2 ^ j = ((u / 2 ^ j : Nat) : Int) by simp]
  generalize u / 2 ^ j = y at *
  have h := and_one y hl
  rw [IntKind.wrap_u64, Int.emod_eq_of_lt (by omega) (by omega)]
  exact ⟨h, h⟩
set_option maxHeartbeats 4000000 in
theorem sbit_left (w : World) (base q : Nat) (A : List UInt8) (u j : Nat) (hs : Src0 w base q A u (j + 1)) (hb : base ≤ q) :
    Calls Tryd.prog 81 #[.pointer (some ⟨q, 0, none⟩)] w fun e w' => e = .returned (.tuple #[.int .u64 ((u / 2 ^ j % 2 : Nat) : Int), .bool true]) ∧ Src0 w' base q A u j ∧ w.grownBy w' (some q) := by
  obtain ⟨ao, cap, hq, hA, h1, h2, hu, hk⟩ := hs
  have c1 : w.cell? ⟨q, 1, none⟩ = some (.int .u8 (u : Int)) := by simp [World.cell?, hq]
  have c2 : w.cell? ⟨q, 2, none⟩ = some (.int .i64 ((j : Int) + 1)) := by simp [World.cell?, hq]
  have f2 : w.frozen? ⟨q, 2, none⟩ = false := by simp [World.frozen?, hq]
  replace hq : Hid (w.heap[q]? = some (.cells #[.slice ao A.length cap, .int .u8 (u : Int), .int .i64 ((j + 1 : Nat) : Int)] 68 (0, 0))) := hq
  replace hA : Hid (RdB w base ao A) := hA
  obtain ⟨w1, hw1⟩ : ∃ w1, w1 = w.setCell ⟨q, 2, none⟩ (.int .i64 (j : Int)) := ⟨_, rfl⟩
  have hq1 : w1.heap[q]? = some (.cells #[.slice ao A.length cap, .int .u8 (u : Int), .int .i64 (j : Int)] 68 (0, 0)) := by rw [hw1, heap_set _ _ _ _ _ _ hq.out]; rfl
  have d1 : w1.cell? ⟨q, 1, none⟩ = some (.int .u8 (u : Int)) := by simp [World.cell?, hq1]
  have d2 : w1.cell? ⟨q, 2, none⟩ = some (.int .i64 (j : Int)) := by simp [World.cell?, hq1]
  have hB1 : Hid (w.grownBy w1 (some q)) := by rw [hw1]; exact grown_set (grown_refl _ _) _ _
  replace hq1 : Hid (w1.heap[q]? = some (.cells #[.slice ao A.length cap, .int .u8 (u : Int), .int .i64 (j : Int)] 68 (0, 0))) := hq1
  have ha := (shr_and u j hu).1
  obtain ⟨b, hbv⟩ : ∃ b, Hid (u / 2 ^ j % 2 = b) := ⟨_, rfl⟩
  rw [hbv.out] at ha ⊢
  have j0 : (0 : Int) ≤ (j : Int) := by omega
  have j8 : (j : Int) < 7 := by omega
  have e0 : ((j : Int) + 1 == 0) = false := by simp; omega
  have e1 : (j : Int) + 1 - 1 = (j : Int) := by omega
  replace h1 : Hid (A.length ≤ cap) := h1
  go_enter Tryd.func81, Tryd.ntmps81
  go_wp2_with fail
  (try rw [e1])
  rw [← hw1]
  replace hw1 : Hid (w1 = w.setCell ⟨q, 2, none⟩ (.int .i64 (j : Int))) := hw1
  clear c1 c2 f2 e0 e1
  go_region
  go_wp2
  go_ret2
  exact ⟨rfl, ⟨ao, cap, hq1.out, hA.out.grown (grown_drew hB1.out) hb, h1.out, h2, hu, by omega⟩, grown_drew hB1.out⟩
#print axioms sbit_left
theorem sbit_none (w : World) (base q : Nat) (u : Nat) (hs : Src0 w base q [] u 0) :
    Calls Tryd.prog 81 #[.pointer (some ⟨q, 0, none⟩)] w fun e w' => e = .returned (.tuple #[.int .u64 0, .bool false]) ∧ w' = w := by
  obtain ⟨ao, cap, hq, hA, h1, h2, hu, hk⟩ := hs
  have c0 : w.cell? ⟨q, 0, none⟩ = some (.slice ao 0 cap) := by simp [World.cell?, hq]
  have c2 : w.cell? ⟨q, 2, none⟩ = some (.int .i64 0) := by simp [World.cell?, hq]
  clear hq hA h1 hk
  go_enter Tryd.func81, Tryd.ntmps81
  go_wp2
  go_ret2
  exact ⟨rfl, rfl⟩
#print axioms sbit_none
set_option maxHeartbeats 4000000 in
theorem sbit_load (w : World) (base q : Nat) (c : UInt8) (A : List UInt8) (u : Nat) (hs : Src0 w base q (c :: A) u 0) (hb : base ≤ q) :
    Calls Tryd.prog 81 #[.pointer (some ⟨q, 0, none⟩)] w fun e w' => e = .returned (.tuple #[.int .u64 ((c.toNat / 2 ^ 7 % 2 : Nat) : Int), .bool true]) ∧ Src0 w' base q A c.toNat 7 ∧ w.grownBy w' (some q) := by
  obtain ⟨ao, cap, hq, hA, h1, h2, hu, hk⟩ := hs
  obtain ⟨rb, off, rfl, hrb, hcell⟩ := hA 0 (by simp)
  have hcell2 : w.cell? ⟨rb, off, none⟩ = some (.int .u8 (c.toNat : Int)) := by simpa using hcell
  obtain ⟨L, hL⟩ : ∃ L, Hid (A.length = L) := ⟨_, rfl⟩
  have hcap : L + 1 ≤ cap := by rw [← hL.out]; simpa using h1
  have c0 : w.cell? ⟨q, 0, none⟩ = some (.slice (some ⟨rb, off, none⟩) (L + 1) cap) := by simp [World.cell?, hq, hL.out]
  have c1 : w.cell? ⟨q, 1, none⟩ = some (.int .u8 (u : Int)) := by simp [World.cell?, hq]
  have c2 : w.cell? ⟨q, 2, none⟩ = some (.int .i64 0) := by simp [World.cell?, hq]
  have f0 : w.frozen? ⟨q, 0, none⟩ = false := by simp [World.frozen?, hq]
  have f1 : w.frozen? ⟨q, 1, none⟩ = false := by simp [World.frozen?, hq]
  have f2 : w.frozen? ⟨q, 2, none⟩ = false := by simp [World.frozen?, hq]
  have hne : rb ≠ q := by omega
  have hc8 := c.toNat_lt
  obtain ⟨C, hC⟩ : ∃ C, Hid (c.toNat = C) := ⟨_, rfl⟩
  rw [hC.out] at hcell2 hc8 ⊢
  have l1 : (0 : Int) < (L : Int) + 1 := by omega
  have l2 : ((L : Int) + 1 == 0) = false := by simp; omega
  have l3 : (1 : Int) ≤ (L : Int) + 1 := by omega
  have l4 : (1 : Int) ≤ (cap : Int) := by omega
  have l5 : (L : Int) + 1 ≤ (cap : Int) := by omega
  replace hq : Hid (w.heap[q]? = some (.cells #[.slice (some ⟨rb, off, none⟩) (c :: A).length cap, .int .u8 (u : Int), .int .i64 ((0 : Nat) : Int)] 68 (0, 0))) := hq
  replace hA : Hid (RdB w base (some ⟨rb, off, none⟩) (c :: A)) := hA
  clear hcell hk h1
  obtain ⟨_, ha⟩ := shr_and C 7 hc8
  obtain ⟨b, hbv⟩ : ∃ b, Hid (C / 2 ^ 7 % 2 = b) := ⟨C / 2 ^ 7 % 2, (rfl : C / 2 ^ 7 % 2 = C / 2 ^ 7 % 2)⟩
  rw [hbv.out] at ha ⊢
  have ha2 : bits .and .u64 ((C : Int) / 128) 1 = (b : Int) := ha
  clear ha
  by_cases hcp : cap = 1
  · have hL0 : L = 0 := by omega
    have hA0 : A = [] := List.length_eq_zero_iff.1 (by rw [hL.out]; exact hL0)
    subst hL0
    subst hcp
    go_enter Tryd.func81, Tryd.ntmps81
    go_wp2_with fail
    go_region
    have hq2 : ((((w.setCell ⟨q, 1, none⟩ (.int .u8 (C : Int))).setCell ⟨q, 0, none⟩ (.slice (some ⟨rb, off, none⟩) 0 0)).setCell ⟨q, 2, none⟩ (.int .i64 8)).drew).heap[q]? = some (.cells #[.slice (some ⟨rb, off, none⟩) 0 0, .int .u8 (C : Int), .int .i64 8] 68 (0, 0)) := by
      show (((w.setCell ⟨q, 1, none⟩ (.int .u8 (C : Int))).setCell ⟨q, 0, none⟩ (.slice (some ⟨rb, off, none⟩) 0 0)).setCell ⟨q, 2, none⟩ (.int .i64 8)).heap[q]? = _
      rw [heap_set _ _ _ _ _ _ (heap_set _ _ _ _ _ _ (heap_set _ _ _ _ _ _ hq.out))]; rfl
    have hB2 : World.grownBy w ((((w.setCell ⟨q, 1, none⟩ (.int .u8 (C : Int))).setCell ⟨q, 0, none⟩ (.slice (some ⟨rb, off, none⟩) 0 0)).setCell ⟨q, 2, none⟩ (.int .i64 8)).drew) (some q) := grown_drew (grown_set (grown_set (grown_set (grown_refl _ _) _ _) _ _) _ _)
    generalize ((((w.setCell ⟨q, 1, none⟩ (.int .u8 (C : Int))).setCell ⟨q, 0, none⟩ (.slice (some ⟨rb, off, none⟩) 0 0)).setCell ⟨q, 2, none⟩ (.int .i64 8)).drew) = w2 at *
    have d2 : w2.cell? ⟨q, 2, none⟩ = some (.int .i64 8) := by simp [World.cell?, hq2]
    have g2 : w2.frozen? ⟨q, 2, none⟩ = false := by simp [World.frozen?, hq2]
    have hq3 : (w2.setCell ⟨q, 2, none⟩ (.int .i64 7)).heap[q]? = some (.cells #[.slice (some ⟨rb, off, none⟩) 0 0, .int .u8 (C : Int), .int .i64 7] 68 (0, 0)) := by rw [heap_set _ _ _ _ _ _ hq2]; rfl
    have hB3 : w.grownBy (w2.setCell ⟨q, 2, none⟩ (.int .i64 7)) (some q) := grown_set hB2 _ _
    obtain ⟨w3, hw3⟩ : ∃ w3, w3 = w2.setCell ⟨q, 2, none⟩ (.int .i64 7) := ⟨_, rfl⟩
    rw [← hw3] at hq3 hB3
    have d1 : w3.cell? ⟨q, 1, none⟩ = some (.int .u8 (C : Int)) := by simp [World.cell?, hq3]
    have d3 : w3.cell? ⟨q, 2, none⟩ = some (.int .i64 7) := by simp [World.cell?, hq3]
    replace hq3 : Hid (w3.heap[q]? = some (.cells #[.slice (some ⟨rb, off, none⟩) 0 0, .int .u8 (C : Int), .int .i64 7] 68 (0, 0))) := hq3
    replace hB3 : Hid (w.grownBy w3 (some q)) := hB3
    clear hq2 hB2 c0 c1 c2 f0 f1 f2 hcell2 hq
    go_wp2_with fail
    rw [← hw3]
    replace hw3 : Hid (w3 = w2.setCell ⟨q, 2, none⟩ (.int .i64 7)) := hw3
    go_region
    go_wp2
    go_ret2
    refine ⟨rfl, ⟨_, _, by rw [hL.out]; exact hq3.out, RdB.grown (by subst hA0; exact fun i hi => by simp at hi) (grown_drew hB3.out) hb, by subst hA0; simp, by unfold maxLen; omega, hc8, by omega⟩, grown_drew hB3.out⟩
  · have l6 : ((cap : Int) == 1) = false := by simp; omega
    go_enter Tryd.func81, Tryd.ntmps81
    go_wp2_with fail
    go_region
    have hq2 : ((((w.setCell ⟨q, 1, none⟩ (.int .u8 (C : Int))).setCell ⟨q, 0, none⟩ (.slice (some ⟨rb, off + 1, none⟩) L (cap - 1))).setCell ⟨q, 2, none⟩ (.int .i64 8)).drew).heap[q]? = some (.cells #[.slice (some ⟨rb, off + 1, none⟩) L (cap - 1), .int .u8 (C : Int), .int .i64 8] 68 (0, 0)) := by
      show (((w.setCell ⟨q, 1, none⟩ (.int .u8 (C : Int))).setCell ⟨q, 0, none⟩ (.slice (some ⟨rb, off + 1, none⟩) L (cap - 1))).setCell ⟨q, 2, none⟩ (.int .i64 8)).heap[q]? = _
      rw [heap_set _ _ _ _ _ _ (heap_set _ _ _ _ _ _ (heap_set _ _ _ _ _ _ hq.out))]; rfl
    have hB2 : World.grownBy w ((((w.setCell ⟨q, 1, none⟩ (.int .u8 (C : Int))).setCell ⟨q, 0, none⟩ (.slice (some ⟨rb, off + 1, none⟩) L (cap - 1))).setCell ⟨q, 2, none⟩ (.int .i64 8)).drew) (some q) := grown_drew (grown_set (grown_set (grown_set (grown_refl _ _) _ _) _ _) _ _)
    generalize ((((w.setCell ⟨q, 1, none⟩ (.int .u8 (C : Int))).setCell ⟨q, 0, none⟩ (.slice (some ⟨rb, off + 1, none⟩) L (cap - 1))).setCell ⟨q, 2, none⟩ (.int .i64 8)).drew) = w2 at *
    have d2 : w2.cell? ⟨q, 2, none⟩ = some (.int .i64 8) := by simp [World.cell?, hq2]
    have g2 : w2.frozen? ⟨q, 2, none⟩ = false := by simp [World.frozen?, hq2]
    have hq3 : (w2.setCell ⟨q, 2, none⟩ (.int .i64 7)).heap[q]? = some (.cells #[.slice (some ⟨rb, off + 1, none⟩) L (cap - 1), .int .u8 (C : Int), .int .i64 7] 68 (0, 0)) := by rw [heap_set _ _ _ _ _ _ hq2]; rfl
    have hB3 : w.grownBy (w2.setCell ⟨q, 2, none⟩ (.int .i64 7)) (some q) := grown_set hB2 _ _
    obtain ⟨w3, hw3⟩ : ∃ w3, w3 = w2.setCell ⟨q, 2, none⟩ (.int .i64 7) := ⟨_, rfl⟩
    rw [← hw3] at hq3 hB3
    have d1 : w3.cell? ⟨q, 1, none⟩ = some (.int .u8 (C : Int)) := by simp [World.cell?, hq3]
    have d3 : w3.cell? ⟨q, 2, none⟩ = some (.int .i64 7) := by simp [World.cell?, hq3]
    replace hq3 : Hid (w3.heap[q]? = some (.cells #[.slice (some ⟨rb, off + 1, none⟩) L (cap - 1), .int .u8 (C : Int), .int .i64 7] 68 (0, 0))) := hq3
    replace hB3 : Hid (w.grownBy w3 (some q)) := hB3
    clear hq2 hB2 c0 c1 c2 f0 f1 f2 hcell2 hq
    go_wp2_with fail
    rw [← hw3]
    replace hw3 : Hid (w3 = w2.setCell ⟨q, 2, none⟩ (.int .i64 7)) := hw3
    go_region
    go_wp2
    go_ret2
    refine ⟨rfl, ⟨_, _, by rw [hL.out]; exact hq3.out, RdB.grown hA.out.next (grown_drew hB3.out) hb, by have := hL.out; omega, by omega, hc8, by omega⟩, grown_drew hB3.out⟩
#print axioms sbit_load
/-- The next bit, where there is one. -/
theorem sbit_some (w : World) (base q : Nat) (b : Nat) (R : List Nat) (hs : Src w base q (b :: R)) (hb : base ≤ q) :
    Calls Tryd.prog 81 #[.pointer (some ⟨q, 0, none⟩)] w fun e w' => e = .returned (.tuple #[.int .u64 (b : Int), .bool true]) ∧ Src w' base q R ∧ w.grownBy w' (some q) := by
  obtain ⟨A, u, k, h0, hR⟩ := hs
  cases k with
  | succ j =>
    rw [bitsOf, List.cons_append] at hR
    simp only [List.cons.injEq] at hR
    obtain ⟨rfl, rfl⟩ := hR
    refine (sbit_left w base q A u j h0 hb).mono ?_
    rintro e w' ⟨rfl, h1, h2⟩
    exact ⟨rfl, ⟨A, u, j, h1, rfl⟩, h2⟩
  | zero =>
    cases A with
    | nil => simp [bitsOf, unb] at hR
    | cons c A =>
      rw [show bitsOf u 0 ++ unb (c :: A) = (c.toNat / 2 ^ 7 % 2) :: (bitsOf c.toNat 7 ++ unb A) from rfl] at hR
      simp only [List.cons.injEq] at hR
      obtain ⟨rfl, rfl⟩ := hR
      refine (sbit_load w base q c A u h0 hb).mono ?_
      rintro e w' ⟨rfl, h1, h2⟩
      exact ⟨rfl, ⟨A, c.toNat, 7, h1, rfl⟩, h2⟩
theorem sbit_nil (w : World) (base q : Nat) (hs : Src w base q []) :
    Calls Tryd.prog 81 #[.pointer (some ⟨q, 0, none⟩)] w fun e w' => e = .returned (.tuple #[.int .u64 0, .bool false]) ∧ w' = w := by
  obtain ⟨A, u, k, h0, hR⟩ := hs
  have hl := congrArg List.length hR
  simp at hl
  have hk : k = 0 := by omega
  have hA : A = [] := List.length_eq_zero_iff.1 (by omega)
  subst hk; subst hA
  exact sbit_none w base q u h0
end Go.Proofs.YtojohcckaklmpaaDoor.Sr
