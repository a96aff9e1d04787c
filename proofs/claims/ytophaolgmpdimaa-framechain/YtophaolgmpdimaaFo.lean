/-
  Readings of a head's fields, by the bytes.
-/
import Derived.Test.YtophaolgmpdimaaFn
namespace Go.Proofs.Ytophaolgmpdimaa
open Go.RowKit

theorem stp_ok {l : List UInt8} {n : Nat} {s : Nat × Int} (h : (stp l n s).2 = 0) : s.2 = 0 ∧ (stp l n s).1 = s.1 + n ∧ s.1 + n ≤ l.length := by
  unfold stp at h ⊢
  by_cases h0 : s.2 = 0
  · rw [if_pos h0] at h ⊢
    by_cases h1 : s.1 + n ≤ l.length
    · rw [if_pos h1]; exact ⟨h0, rfl, h1⟩
    · rw [if_neg h1] at h; simp at h
  · rw [if_neg h0] at h; exact absurd h h0
theorem read5_no (l : List UInt8) (h : l.length < 32) : ((stp (l.take 32) 4 (stp (l.take 32) 4 (stp (l.take 32) 8 (stp (l.take 32) 8 (stp (l.take 32) 8 (0, 0)))))).2 != 0) = true := by
  have hl : (l.take 32).length = l.length := by simp; omega
  rw [bne_iff_ne]
  intro h0
  obtain ⟨a1, a2, a3⟩ := stp_ok h0
  obtain ⟨b1, b2, b3⟩ := stp_ok a1
  obtain ⟨c1, c2, c3⟩ := stp_ok b1
  obtain ⟨d1, d2, d3⟩ := stp_ok c1
  obtain ⟨e1, e2, e3⟩ := stp_ok d1
  rw [b2, c2, d2, e2] at a3
  simp only [Nat.zero_add] at a3
  omega
theorem num_fx (l : List UInt8) : fx l.length (num l) = l := by
  induction l with
  | nil => rfl
  | cons c r ih =>
    have hc := c.toNat_lt
    have e1 : (c.toNat + 256 * num r) % 256 = c.toNat := by omega
    have e2 : (c.toNat + 256 * num r) / 256 = num r := by omega
    rw [List.length_cons, num, fx, e1, e2, ih]
    simp
theorem num_fx8 (l : List UInt8) (n : Nat) (h : l.length = n) : fx n (num l) = l := by rw [← h]; exact num_fx l
theorem read5_ok (l : List UInt8) (h : 32 ≤ l.length) :
    stp (l.take 32) 4 (stp (l.take 32) 4 (stp (l.take 32) 8 (stp (l.take 32) 8 (stp (l.take 32) 8 (0, 0))))) = (32, 0) ∧
    fx 8 (stv (l.take 32) 8 (0, 0)) = l.take 8 ∧
    stv (l.take 32) 8 (stp (l.take 32) 8 (0, 0)) = gN l ∧
    stv (l.take 32) 8 (stp (l.take 32) 8 (stp (l.take 32) 8 (0, 0))) = gB l ∧
    stv (l.take 32) 4 (stp (l.take 32) 8 (stp (l.take 32) 8 (stp (l.take 32) 8 (0, 0)))) = gS l ∧
    stv (l.take 32) 4 (stp (l.take 32) 4 (stp (l.take 32) 8 (stp (l.take 32) 8 (stp (l.take 32) 8 (0, 0))))) = gM l := by
  have hl : (l.take 32).length = 32 := by simp; omega
  have e1 : stp (l.take 32) 8 (0, 0) = (8, 0) := by simp [stp, hl]
  have e2 : stp (l.take 32) 8 (8, 0) = (16, 0) := by simp [stp, hl]
  have e3 : stp (l.take 32) 8 (16, 0) = (24, 0) := by simp [stp, hl]
  have e4 : stp (l.take 32) 4 (24, 0) = (28, 0) := by simp [stp, hl]
  have e5 : stp (l.take 32) 4 (28, 0) = (32, 0) := by simp [stp, hl]
  rw [e1, e2, e3, e4, e5]
  refine ⟨rfl, ?_, ?_, ?_, ?_, ?_⟩
  · have : stv (l.take 32) 8 (0, 0) = num (l.take 8) := by simp [stv, hl, List.take_take]
    rw [this]
    exact num_fx8 _ 8 (by simp; omega)
  · simp [stv, hl, gN, List.drop_take, List.take_take]
  · simp [stv, hl, gB, List.drop_take, List.take_take]
  · simp [stv, hl, gS, List.drop_take, List.take_take]
  · simp [stv, hl, gM, List.drop_take, List.take_take]
theorem hfs_take (l : List UInt8) (h : 32 ≤ l.length) (ht : l.take 8 = ttl) (seed : Crc.R) (hs : seed.toNat = gS l) : hfs (gN l) (gB l) seed = l.take 28 := by
  rw [hfs, ← ht, hs, gN, gB, gS, num_fx8 _ 8 (by simp; omega), num_fx8 _ 8 (by simp; omega), num_fx8 _ 4 (by simp; omega)]
  rw [show (28 : Nat) = 8 + 20 from rfl, List.take_add, show (20 : Nat) = 8 + 12 from rfl, List.take_add, show (12 : Nat) = 8 + 4 from rfl, List.take_add]
  simp [List.drop_drop]
theorem sg64_le (n : Nat) (h : n < 18446744073709551616) : sg64 n ≤ 9223372036854775807 ∧ -9223372036854775808 ≤ sg64 n := by unfold sg64; split <;> omega
theorem inB_top (n : Int) (h : n ≤ 9223372036854775807) : inB n 9223372036854775807 = decide (1 ≤ n) := by simp [inB, h]
theorem sg64_toNat (n : Nat) (h : n < 18446744073709551616) (h1 : 1 ≤ sg64 n) : (sg64 n).toNat = n := by unfold sg64 at h1 ⊢; split at h1 <;> split <;> omega

/-- RS, sealed. -/
structure RSH (w0 q : World) (b0 b8 rb : Nat) (c0 : Array Value) (T0 : TypeId) (v : Value) (l : List UInt8) (s : Nat × Int) : Prop where
  out : RS w0 q b0 b8 rb c0 T0 v l s
theorem RSH.al {w0 q : World} {b0 b8 rb : Nat} {c0 : Array Value} {T0 : TypeId} {v : Value} {l : List UInt8} {s : Nat × Int} (h : RSH w0 q b0 b8 rb c0 T0 v l s) (o : Obj) : RSH w0 (q.alloc o) b0 b8 rb c0 T0 v l s := ⟨h.out.below (box_below _ _)⟩
theorem RSH.dr {w0 q : World} {b0 b8 rb : Nat} {c0 : Array Value} {T0 : TypeId} {v : Value} {l : List UInt8} {s : Nat × Int} (h : RSH w0 q b0 b8 rb c0 T0 v l s) : RSH w0 q.drew b0 b8 rb c0 T0 v l s := ⟨h.out.below (Below.refl _ _).drew⟩
theorem RSH.cells {w0 q : World} {b0 b8 rb : Nat} {c0 : Array Value} {T0 : TypeId} {v : Value} {l : List UInt8} {s : Nat × Int} (h : RSH w0 q b0 b8 rb c0 T0 v l s) : q.cell? ⟨b8, 0, none⟩ = some (.pointer (some ⟨rb, 0, none⟩)) ∧ q.cell? ⟨b8, 1, none⟩ = some v := h.out.cells
theorem RSH.lt {w0 q : World} {b0 b8 rb : Nat} {c0 : Array Value} {T0 : TypeId} {v : Value} {l : List UInt8} {s : Nat × Int} (h : RSH w0 q b0 b8 rb c0 T0 v l s) : rb < q.heap.size ∧ b0 < q.heap.size ∧ b8 < q.heap.size ∧ w0.heap.size ≤ q.heap.size := ⟨h.out.2.2.1.lt, heap_lt h.out.1, heap_lt h.out.2.1, h.out.2.2.2.1.size⟩
theorem RSH.titled {w0 q : World} {b0 b8 rb : Nat} {c0 : Array Value} {T0 : TypeId} {v : Value} {l : List UInt8} {s : Nat × Int} (h : RSH w0 q b0 b8 rb c0 T0 v l s) :
    Calls Try.prog 46 #[.agg #[.pointer (some ⟨rb, 0, none⟩), v]] q fun e w' => e = .returned (.bool (decide (fx 8 (stv l 8 s) = ttl))) ∧ RSH w0 w' b0 b8 rb c0 T0 v l (stp l 8 s) ∧ q.grownBy w' (some rb) :=
  (titled_any q rb v l s h.out.2.2.1).mono fun _ _ ⟨e, r, g⟩ => ⟨e, ⟨h.out.step g r⟩, g⟩
theorem RSH.head {w0 q : World} {b0 b8 rb : Nat} {c0 : Array Value} {T0 : TypeId} {v : Value} {l : List UInt8} {s : Nat × Int} (h : RSH w0 q b0 b8 rb c0 T0 v l s) :
    Calls Try.prog 47 #[.agg #[.pointer (some ⟨rb, 0, none⟩), v]] q fun e w' => e = .returned (.agg #[.int .i64 (sg64 (stv l 8 s)), .int .i64 (sg64 (stv l 8 (stp l 8 s))), .int .u32 (stv l 4 (stp l 8 (stp l 8 s)) : Int)]) ∧ RSH w0 w' b0 b8 rb c0 T0 v l (stp l 4 (stp l 8 (stp l 8 s))) ∧ q.grownBy w' (some rb) :=
  (head_any q rb v l s h.out.2.2.1).mono fun _ _ ⟨e, r, g⟩ => ⟨e, ⟨h.out.step g r⟩, g⟩
theorem RSH.f32 {w0 q : World} {b0 b8 rb : Nat} {c0 : Array Value} {T0 : TypeId} {v : Value} {l : List UInt8} {s : Nat × Int} (h : RSH w0 q b0 b8 rb c0 T0 v l s) :
    Calls Try.prog 35 #[.pointer (some ⟨rb, 0, none⟩)] q fun e w' => e = .returned (.int .u32 (stv l 4 s : Int)) ∧ RSH w0 w' b0 b8 rb c0 T0 v l (stp l 4 s) ∧ q.grownBy w' (some rb) :=
  (fixed32_tot q rb l s h.out.2.2.1).mono fun _ _ ⟨e, r, g⟩ => ⟨e, ⟨h.out.step g r⟩, g⟩
theorem RSH.put3 {w0 q : World} {b0 b8 rb b7 : Nat} {c0 : Array Value} {T0 T7 : TypeId} {v z0 z1 z2 a0 a1 a2 : Value} {l : List UInt8} {s : Nat × Int} (h : RSH w0 q b0 b8 rb c0 T0 v l s) (hb : q.heap[b7]? = some (.cells #[z0, z1, z2] T7 (0, 0))) (h0 : b0 ≠ b7) (h8 : b8 ≠ b7) (hr : b7 ≠ rb) (hw : w0.heap.size ≤ b7) (hT : T7 ≠ 5 := by decide) : RSH w0 (put3 q b7 a0 a1 a2) b0 b8 rb c0 T0 v l s := by
  obtain ⟨h1, h2, h3, h4, h5, h6, h7⟩ := h.out
  refine ⟨?_, ?_, ?_, put3_below h4 hw a0 a1 a2, h5, h6, h7⟩
  · rw [put3_other _ _ _ _ _ _ h0]; exact h1
  · rw [put3_other _ _ _ _ _ _ h8]; exact h2
  · have a := h3.put (i := 0) (v := a0) hb hr hT
    have b := a.put (i := 1) (v := a1) (heap_set hb _) hr hT
    exact b.put (i := 2) (v := a2) (heap_set (heap_set hb _) _) hr hT
#print axioms RSH.put3
end Go.Proofs.Ytophaolgmpdimaa
