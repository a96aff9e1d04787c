/-
  flumelaw1.one on a Reader of no bytes (a nil one too) and the document's.
-/
import Derived.Test.YtgccfpmjcpoddaaOne
namespace Go.Proofs.Ytgccfpmjcpoddaa
open Go.RowKit
set_option linter.unusedVariables false

theorem keepC {u u' : World} {p : Addr} {v : Value} {row : Option Nat} (h : u.cell? p = some v) (hg : u.grownBy u' row) (hne : some p.block ≠ row) : u'.cell? p = some v := hg.cell h hne
set_option maxHeartbeats 1000000 in
theorem one_Signed (w : World) (rb qb : Nat) (kp : Value) (ms sz : Int) (er : Int) (hr : RdrAt w rb [] 0 er) (hq : RefAt w qb [] 0 er) (hm : 0 ≤ ms ∧ ms < 18446744073709551616) (h0 : -9223372036854775808 ≤ sz) (h1 : sz ≤ 9223372036854775807) :
    Calls Try.prog 29 #[.pointer (some ⟨rb, 0, none⟩), .pointer (some ⟨qb, 0, none⟩), .agg #[.int .i64 2, .int .u64 ms, .int .i64 sz], kp] w fun e w' => e = .returned (.bool true) ∧ ∃ er', RdrAt w' rb [] 0 er' ∧ RefAt w' qb [] 0 er' ∧ Two rb qb w w' := by
  have bx := box_below w (.cells #[.int .i64 2, .int .u64 ms, .int .i64 sz] 56)
  have q1 := hq.below bx
  have r1 := hr.below bx
  have hne := rdr_ne_ref r1 q1
  have HB : Hid (Below w.heap.size w (w.alloc (.cells #[.int .i64 2, .int .u64 ms, .int .i64 sz] 56))) := bx
  clear bx
  have hqlt := hq.lt
  have hrlt := hr.lt
  go_enter Try.func29, Try.ntmps29
  go_wp2_with fail
  refine (Signed_none _ rb er r1).mono ?_
  rintro e w2 ⟨rfl, r2, g2⟩
  have q2 := q1.kept r1 hne.symm g2
  go_wp2_with fail
  refine (qSigned_none w2 qb er q2).mono ?_
  rintro e w3 ⟨rfl, q3, g3⟩
  have r3 := r2.kept q2 hne g3
  go_wp2
  go_ret
  exact ⟨rfl, _, r3, q3, ((Two.of_below HB.out).trans (Two.left g2)).trans (Two.right g3)⟩
set_option maxHeartbeats 1000000 in
theorem oneNil_Signed (w : World) (qb : Nat) (kp : Value) (ms sz : Int) (hq : RefAt w qb [] 0 0) (hm : 0 ≤ ms ∧ ms < 18446744073709551616) (h0 : -9223372036854775808 ≤ sz) (h1 : sz ≤ 9223372036854775807) :
    Calls Try.prog 29 #[.pointer none, .pointer (some ⟨qb, 0, none⟩), .agg #[.int .i64 2, .int .u64 ms, .int .i64 sz], kp] w fun e w' => e = .returned (.bool true) ∧ w.grownBy w' (some qb) := by
  have bx := box_below w (.cells #[.int .i64 2, .int .u64 ms, .int .i64 sz] 56)
  have q1 := hq.below bx
  have HB : Hid (Below w.heap.size w (w.alloc (.cells #[.int .i64 2, .int .u64 ms, .int .i64 sz] 56))) := bx
  clear bx
  have hqlt := hq.lt
  go_enter Try.func29, Try.ntmps29
  go_wp2_with fail
  refine (Signed_nil _).mono ?_
  rintro e w2 ⟨rfl, b2⟩
  have q2 := q1.below b2
  go_wp2_with fail
  refine (qSigned_none w2 qb 0 q2).mono ?_
  rintro e w3 ⟨rfl, q3, g3⟩
  go_wp2
  go_ret
  exact ⟨rfl, grown_trans (Below.grownAny (HB.out.trans (b2.mono (by simp))) _) g3⟩
set_option maxHeartbeats 1000000 in
theorem one_Fixed32 (w : World) (rb qb : Nat) (kp : Value) (ms sz : Int) (er : Int) (hr : RdrAt w rb [] 0 er) (hq : RefAt w qb [] 0 er) (hm : 0 ≤ ms ∧ ms < 18446744073709551616) (h0 : -9223372036854775808 ≤ sz) (h1 : sz ≤ 9223372036854775807) :
    Calls Try.prog 29 #[.pointer (some ⟨rb, 0, none⟩), .pointer (some ⟨qb, 0, none⟩), .agg #[.int .i64 3, .int .u64 ms, .int .i64 sz], kp] w fun e w' => e = .returned (.bool true) ∧ ∃ er', RdrAt w' rb [] 0 er' ∧ RefAt w' qb [] 0 er' ∧ Two rb qb w w' := by
  have bx := box_below w (.cells #[.int .i64 3, .int .u64 ms, .int .i64 sz] 56)
  have q1 := hq.below bx
  have r1 := hr.below bx
  have hne := rdr_ne_ref r1 q1
  have HB : Hid (Below w.heap.size w (w.alloc (.cells #[.int .i64 3, .int .u64 ms, .int .i64 sz] 56))) := bx
  clear bx
  have hqlt := hq.lt
  have hrlt := hr.lt
  go_enter Try.func29, Try.ntmps29
  go_wp2_with fail
  refine (Fixed32_none _ rb er r1).mono ?_
  rintro e w2 ⟨rfl, r2, g2⟩
  have q2 := q1.kept r1 hne.symm g2
  go_wp2_with fail
  refine (qFixed_none w2 qb er 4 (by decide) q2).mono ?_
  rintro e w3 ⟨rfl, q3, g3⟩
  have r3 := r2.kept q2 hne g3
  go_wp2
  go_ret
  exact ⟨rfl, _, r3, q3, ((Two.of_below HB.out).trans (Two.left g2)).trans (Two.right g3)⟩
set_option maxHeartbeats 1000000 in
theorem oneNil_Fixed32 (w : World) (qb : Nat) (kp : Value) (ms sz : Int) (hq : RefAt w qb [] 0 0) (hm : 0 ≤ ms ∧ ms < 18446744073709551616) (h0 : -9223372036854775808 ≤ sz) (h1 : sz ≤ 9223372036854775807) :
    Calls Try.prog 29 #[.pointer none, .pointer (some ⟨qb, 0, none⟩), .agg #[.int .i64 3, .int .u64 ms, .int .i64 sz], kp] w fun e w' => e = .returned (.bool true) ∧ w.grownBy w' (some qb) := by
  have bx := box_below w (.cells #[.int .i64 3, .int .u64 ms, .int .i64 sz] 56)
  have q1 := hq.below bx
  have HB : Hid (Below w.heap.size w (w.alloc (.cells #[.int .i64 3, .int .u64 ms, .int .i64 sz] 56))) := bx
  clear bx
  have hqlt := hq.lt
  go_enter Try.func29, Try.ntmps29
  go_wp2_with fail
  refine (Fixed32_nil _).mono ?_
  rintro e w2 ⟨rfl, b2⟩
  have q2 := q1.below b2
  go_wp2_with fail
  refine (qFixed_none w2 qb 0 4 (by decide) q2).mono ?_
  rintro e w3 ⟨rfl, q3, g3⟩
  go_wp2
  go_ret
  exact ⟨rfl, grown_trans (Below.grownAny (HB.out.trans (b2.mono (by simp))) _) g3⟩
set_option maxHeartbeats 1000000 in
theorem one_Fixed64 (w : World) (rb qb : Nat) (kp : Value) (ms sz : Int) (er : Int) (hr : RdrAt w rb [] 0 er) (hq : RefAt w qb [] 0 er) (hm : 0 ≤ ms ∧ ms < 18446744073709551616) (h0 : -9223372036854775808 ≤ sz) (h1 : sz ≤ 9223372036854775807) :
    Calls Try.prog 29 #[.pointer (some ⟨rb, 0, none⟩), .pointer (some ⟨qb, 0, none⟩), .agg #[.int .i64 4, .int .u64 ms, .int .i64 sz], kp] w fun e w' => e = .returned (.bool true) ∧ ∃ er', RdrAt w' rb [] 0 er' ∧ RefAt w' qb [] 0 er' ∧ Two rb qb w w' := by
  have bx := box_below w (.cells #[.int .i64 4, .int .u64 ms, .int .i64 sz] 56)
  have q1 := hq.below bx
  have r1 := hr.below bx
  have hne := rdr_ne_ref r1 q1
  have HB : Hid (Below w.heap.size w (w.alloc (.cells #[.int .i64 4, .int .u64 ms, .int .i64 sz] 56))) := bx
  clear bx
  have hqlt := hq.lt
  have hrlt := hr.lt
  go_enter Try.func29, Try.ntmps29
  go_wp2_with fail
  refine (Fixed64_none _ rb er r1).mono ?_
  rintro e w2 ⟨rfl, r2, g2⟩
  have q2 := q1.kept r1 hne.symm g2
  go_wp2_with fail
  refine (qFixed_none w2 qb er 8 (by decide) q2).mono ?_
  rintro e w3 ⟨rfl, q3, g3⟩
  have r3 := r2.kept q2 hne g3
  go_wp2
  go_ret
  exact ⟨rfl, _, r3, q3, ((Two.of_below HB.out).trans (Two.left g2)).trans (Two.right g3)⟩
set_option maxHeartbeats 1000000 in
theorem oneNil_Fixed64 (w : World) (qb : Nat) (kp : Value) (ms sz : Int) (hq : RefAt w qb [] 0 0) (hm : 0 ≤ ms ∧ ms < 18446744073709551616) (h0 : -9223372036854775808 ≤ sz) (h1 : sz ≤ 9223372036854775807) :
    Calls Try.prog 29 #[.pointer none, .pointer (some ⟨qb, 0, none⟩), .agg #[.int .i64 4, .int .u64 ms, .int .i64 sz], kp] w fun e w' => e = .returned (.bool true) ∧ w.grownBy w' (some qb) := by
  have bx := box_below w (.cells #[.int .i64 4, .int .u64 ms, .int .i64 sz] 56)
  have q1 := hq.below bx
  have HB : Hid (Below w.heap.size w (w.alloc (.cells #[.int .i64 4, .int .u64 ms, .int .i64 sz] 56))) := bx
  clear bx
  have hqlt := hq.lt
  go_enter Try.func29, Try.ntmps29
  go_wp2_with fail
  refine (Fixed64_nil _).mono ?_
  rintro e w2 ⟨rfl, b2⟩
  have q2 := q1.below b2
  go_wp2_with fail
  refine (qFixed_none w2 qb 0 8 (by decide) q2).mono ?_
  rintro e w3 ⟨rfl, q3, g3⟩
  go_wp2
  go_ret
  exact ⟨rfl, grown_trans (Below.grownAny (HB.out.trans (b2.mono (by simp))) _) g3⟩
set_option maxHeartbeats 1000000 in
theorem one_Byte (w : World) (rb qb : Nat) (kp : Value) (ms sz : Int) (er : Int) (hr : RdrAt w rb [] 0 er) (hq : RefAt w qb [] 0 er) (hm : 0 ≤ ms ∧ ms < 18446744073709551616) (h0 : -9223372036854775808 ≤ sz) (h1 : sz ≤ 9223372036854775807) :
    Calls Try.prog 29 #[.pointer (some ⟨rb, 0, none⟩), .pointer (some ⟨qb, 0, none⟩), .agg #[.int .i64 6, .int .u64 ms, .int .i64 sz], kp] w fun e w' => e = .returned (.bool true) ∧ ∃ er', RdrAt w' rb [] 0 er' ∧ RefAt w' qb [] 0 er' ∧ Two rb qb w w' := by
  have bx := box_below w (.cells #[.int .i64 6, .int .u64 ms, .int .i64 sz] 56)
  have q1 := hq.below bx
  have r1 := hr.below bx
  have hne := rdr_ne_ref r1 q1
  have HB : Hid (Below w.heap.size w (w.alloc (.cells #[.int .i64 6, .int .u64 ms, .int .i64 sz] 56))) := bx
  clear bx
  have hqlt := hq.lt
  have hrlt := hr.lt
  go_enter Try.func29, Try.ntmps29
  go_wp2_with fail
  refine (Byte_none _ rb er r1).mono ?_
  rintro e w2 ⟨rfl, r2, g2⟩
  have q2 := q1.kept r1 hne.symm g2
  go_wp2_with fail
  refine (qFixed_none w2 qb er 1 (by decide) q2).mono ?_
  rintro e w3 ⟨rfl, q3, g3⟩
  have r3 := r2.kept q2 hne g3
  go_wp2
  go_ret
  exact ⟨rfl, _, r3, q3, ((Two.of_below HB.out).trans (Two.left g2)).trans (Two.right g3)⟩
set_option maxHeartbeats 1000000 in
theorem oneNil_Byte (w : World) (qb : Nat) (kp : Value) (ms sz : Int) (hq : RefAt w qb [] 0 0) (hm : 0 ≤ ms ∧ ms < 18446744073709551616) (h0 : -9223372036854775808 ≤ sz) (h1 : sz ≤ 9223372036854775807) :
    Calls Try.prog 29 #[.pointer none, .pointer (some ⟨qb, 0, none⟩), .agg #[.int .i64 6, .int .u64 ms, .int .i64 sz], kp] w fun e w' => e = .returned (.bool true) ∧ w.grownBy w' (some qb) := by
  have bx := box_below w (.cells #[.int .i64 6, .int .u64 ms, .int .i64 sz] 56)
  have q1 := hq.below bx
  have HB : Hid (Below w.heap.size w (w.alloc (.cells #[.int .i64 6, .int .u64 ms, .int .i64 sz] 56))) := bx
  clear bx
  have hqlt := hq.lt
  go_enter Try.func29, Try.ntmps29
  go_wp2_with fail
  refine (Byte_nil _).mono ?_
  rintro e w2 ⟨rfl, b2⟩
  have q2 := q1.below b2
  go_wp2_with fail
  refine (qFixed_none w2 qb 0 1 (by decide) q2).mono ?_
  rintro e w3 ⟨rfl, q3, g3⟩
  go_wp2
  go_ret
  exact ⟨rfl, grown_trans (Below.grownAny (HB.out.trans (b2.mono (by simp))) _) g3⟩
set_option maxHeartbeats 1000000 in
theorem one_String (w : World) (rb qb : Nat) (kp : Value) (ms sz : Int) (er : Int) (hr : RdrAt w rb [] 0 er) (hq : RefAt w qb [] 0 er) (hm : 0 ≤ ms ∧ ms < 18446744073709551616) (h0 : -9223372036854775808 ≤ sz) (h1 : sz ≤ 9223372036854775807) :
    Calls Try.prog 29 #[.pointer (some ⟨rb, 0, none⟩), .pointer (some ⟨qb, 0, none⟩), .agg #[.int .i64 5, .int .u64 ms, .int .i64 sz], kp] w fun e w' => e = .returned (.bool true) ∧ ∃ er', RdrAt w' rb [] 0 er' ∧ RefAt w' qb [] 0 er' ∧ Two rb qb w w' := by
  have bx := box_below w (.cells #[.int .i64 5, .int .u64 ms, .int .i64 sz] 56)
  have q1 := hq.below bx
  have r1 := hr.below bx
  have hne := rdr_ne_ref r1 q1
  have HB : Hid (Below w.heap.size w (w.alloc (.cells #[.int .i64 5, .int .u64 ms, .int .i64 sz] 56))) := bx
  clear bx
  have hqlt := hq.lt
  have hrlt := hr.lt
  go_enter Try.func29, Try.ntmps29
  go_wp2_with fail
  refine (String_none _ rb er sz h0 h1 r1).mono ?_
  rintro e w2 ⟨rfl, r2, g2⟩
  have q2 := q1.kept r1 hne.symm g2
  have cb : w2.cell? ⟨w.heap.size, 2, none⟩ = some (.int .i64 sz) := keepC (by simp [go_sem]) g2 (by simp; omega)
  go_wp2_with fail
  refine (keep_nil _ kp w2.heap.size (by simp [go_sem])).mono ?_
  rintro e w3 ⟨rfl, qt3⟩
  have b23 : Below w2.heap.size w2 w3 := (box_below w2 _).trans (qt3.below _)
  have r3 := r2.below b23
  have q3 := q2.below b23
  have cb3 : w3.cell? ⟨w.heap.size, 2, none⟩ = some (.int .i64 sz) := by rw [b23.cell (p := ⟨w.heap.size, 2, none⟩) (lt_of_cell cb)]; exact cb
  clear qt3
  go_wp2_with fail
  refine (qString_none w3 qb er sz h0 h1 q3).mono ?_
  rintro e w4 ⟨v4, rfl, s4, q4, g4⟩
  have r4 := r3.kept q3 hne g4
  clear cb cb3
  go_wp2_with fail
  refine (eq_sl w4 (.slice none 0 0) v4 [] [] (Sl.nil _) s4).mono ?_
  rintro e w5 ⟨rfl, qt5⟩
  rw [show decide (([] : List UInt8) = []) = true by decide]
  have r5 := r4.below (qt5.below _)
  have q5 := q4.below (qt5.below _)
  go_wp2
  go_ret
  exact ⟨rfl, _, r5, q5, ((((Two.of_below HB.out).trans (Two.left g2)).trans (Two.of_below b23)).trans (Two.right g4)).trans (Two.of_below (qt5.below _))⟩
set_option maxHeartbeats 1000000 in
theorem oneNil_String (w : World) (qb : Nat) (kp : Value) (ms sz : Int) (hq : RefAt w qb [] 0 0) (hm : 0 ≤ ms ∧ ms < 18446744073709551616) (h0 : -9223372036854775808 ≤ sz) (h1 : sz ≤ 9223372036854775807) :
    Calls Try.prog 29 #[.pointer none, .pointer (some ⟨qb, 0, none⟩), .agg #[.int .i64 5, .int .u64 ms, .int .i64 sz], kp] w fun e w' => e = .returned (.bool true) ∧ w.grownBy w' (some qb) := by
  have bx := box_below w (.cells #[.int .i64 5, .int .u64 ms, .int .i64 sz] 56)
  have q1 := hq.below bx
  have HB : Hid (Below w.heap.size w (w.alloc (.cells #[.int .i64 5, .int .u64 ms, .int .i64 sz] 56))) := bx
  clear bx
  have hqlt := hq.lt
  go_enter Try.func29, Try.ntmps29
  go_wp2_with fail
  refine (String_nil _ sz h0 h1).mono ?_
  rintro e w2 ⟨rfl, b2⟩
  have q2 := q1.below b2
  have cb : w2.cell? ⟨w.heap.size, 2, none⟩ = some (.int .i64 sz) := by rw [b2.cell (p := ⟨w.heap.size, 2, none⟩) (by simp)]; simp [go_sem]
  go_wp2_with fail
  refine (keep_nil _ kp w2.heap.size (by simp [go_sem])).mono ?_
  rintro e w3 ⟨rfl, qt3⟩
  have b23 : Below w2.heap.size w2 w3 := (box_below w2 _).trans (qt3.below _)
  have q3 := q2.below b23
  have cb3 : w3.cell? ⟨w.heap.size, 2, none⟩ = some (.int .i64 sz) := by rw [b23.cell (p := ⟨w.heap.size, 2, none⟩) (lt_of_cell cb)]; exact cb
  clear qt3
  go_wp2_with fail
  refine (qString_none w3 qb 0 sz h0 h1 q3).mono ?_
  rintro e w4 ⟨v4, rfl, s4, q4, g4⟩
  clear cb cb3
  go_wp2_with fail
  refine (eq_sl w4 (.slice none 0 0) v4 [] [] (Sl.nil _) s4).mono ?_
  rintro e w5 ⟨rfl, qt5⟩
  rw [show decide (([] : List UInt8) = []) = true by decide]
  go_wp2
  go_ret
  exact ⟨rfl, grown_trans (grown_trans (Below.grownAny ((HB.out.trans (b2.mono (by simp))).trans (b23.mono (by have := HB.out.size; have := b2.size; omega))) _) g4) (qt5.grown _)⟩
set_option maxHeartbeats 1000000 in
theorem one_Varint (w : World) (rb qb : Nat) (kp : Value) (ms sz : Int) (er : Int) (hr : RdrAt w rb [] 0 er) (hq : RefAt w qb [] 0 er) (hm : 0 ≤ ms ∧ ms < 18446744073709551616) (h0 : -9223372036854775808 ≤ sz) (h1 : sz ≤ 9223372036854775807) :
    Calls Try.prog 29 #[.pointer (some ⟨rb, 0, none⟩), .pointer (some ⟨qb, 0, none⟩), .agg #[.int .i64 1, .int .u64 ms, .int .i64 sz], kp] w fun e w' => e = .returned (.bool true) ∧ ∃ er', RdrAt w' rb [] 0 er' ∧ RefAt w' qb [] 0 er' ∧ Two rb qb w w' := by
  have bx := box_below w (.cells #[.int .i64 1, .int .u64 ms, .int .i64 sz] 56)
  have q1 := hq.below bx
  have r1 := hr.below bx
  have hne := rdr_ne_ref r1 q1
  have HB : Hid (Below w.heap.size w (w.alloc (.cells #[.int .i64 1, .int .u64 ms, .int .i64 sz] 56))) := bx
  clear bx
  have hqlt := hq.lt
  have hrlt := hr.lt
  have cb : (w.alloc (.cells #[.int .i64 1, .int .u64 ms, .int .i64 sz] 56)).cell? ⟨w.heap.size, 1, none⟩ = some (.int .u64 ms) := by simp [go_sem]
  go_enter Try.func29, Try.ntmps29
  go_wp2_with fail
  have hS0 : (w.alloc (.cells #[.int .i64 1, .int .u64 ms, .int .i64 sz] 56)).drew.cell? ⟨w.heap.size, 1, none⟩ = some (.int .u64 ms) := cb
  go_region_held3 (fun q => q.cell? ⟨w.heap.size, 1, none⟩ = some (.int .u64 ms)) (first | exact hS0 | exact keepC (by assumption) (by assumption) (by simp; omega))
    (first
      | (go_at_call 36; refine (Varint_none _ rb er ms hm r1.drew).mono ?_; rintro e w2 ⟨rfl, r2, g2⟩)
      | (go_at_call 41; refine (qVarint_none _ qb er ms hm (RefAt.kept (q1.below (Qt.below ⟨1, rfl⟩ _)) r1.drew hne.symm g2)).mono ?_; rintro e w3 ⟨rfl, q3, g3⟩))
  have r3 := r2.kept (RefAt.kept (q1.below (Qt.below ⟨1, rfl⟩ _)) r1.drew hne.symm g2) hne g3
  go_wp2
  go_ret
  exact ⟨rfl, _, r3, q3, ((Two.of_below HB.out.drew).trans (Two.left g2)).trans (Two.right g3)⟩
set_option maxHeartbeats 1000000 in
theorem oneNil_Varint (w : World) (qb : Nat) (kp : Value) (ms sz : Int) (hq : RefAt w qb [] 0 0) (hm : 0 ≤ ms ∧ ms < 18446744073709551616) (h0 : -9223372036854775808 ≤ sz) (h1 : sz ≤ 9223372036854775807) :
    Calls Try.prog 29 #[.pointer none, .pointer (some ⟨qb, 0, none⟩), .agg #[.int .i64 1, .int .u64 ms, .int .i64 sz], kp] w fun e w' => e = .returned (.bool true) ∧ w.grownBy w' (some qb) := by
  have bx := box_below w (.cells #[.int .i64 1, .int .u64 ms, .int .i64 sz] 56)
  have q1 := hq.below bx
  have HB : Hid (Below w.heap.size w (w.alloc (.cells #[.int .i64 1, .int .u64 ms, .int .i64 sz] 56))) := bx
  clear bx
  have hqlt := hq.lt
  have cb : (w.alloc (.cells #[.int .i64 1, .int .u64 ms, .int .i64 sz] 56)).cell? ⟨w.heap.size, 1, none⟩ = some (.int .u64 ms) := by simp [go_sem]
  go_enter Try.func29, Try.ntmps29
  go_wp2_with fail
  have hS0 : (w.alloc (.cells #[.int .i64 1, .int .u64 ms, .int .i64 sz] 56)).drew.cell? ⟨w.heap.size, 1, none⟩ = some (.int .u64 ms) := cb
  go_region_held3 (fun q => q.cell? ⟨w.heap.size, 1, none⟩ = some (.int .u64 ms)) (first | exact hS0 | exact keepC (by assumption) (by assumption) (by simp; omega) | exact keepC (row := none) hS0 (Below.grownAny (by assumption) _) (by simp))
    (first
      | (go_at_call 36; refine (Varint_nil _ ms).mono ?_; rintro e w2 ⟨rfl, b2⟩)
      | (go_at_call 41; refine (qVarint_none _ qb 0 ms hm ((q1.below (Qt.below ⟨1, rfl⟩ _)).below b2)).mono ?_; rintro e w3 ⟨rfl, q3, g3⟩))
  go_wp2
  go_ret
  exact ⟨rfl, grown_trans (Below.grownAny (HB.out.drew.trans (b2.mono (by simp))) _) g3⟩
set_option maxHeartbeats 1000000 in
theorem one_Other (w : World) (rb qb : Nat) (kp : Value) (kd : Int) (ms sz : Int) (er : Int) (hr : RdrAt w rb [] 0 er) (hq : RefAt w qb [] 0 er) (hm : 0 ≤ ms ∧ ms < 18446744073709551616) (h0 : -9223372036854775808 ≤ sz) (h1 : sz ≤ 9223372036854775807) (hk : kd ≠ 1 ∧ kd ≠ 2 ∧ kd ≠ 3 ∧ kd ≠ 4 ∧ kd ≠ 5 ∧ kd ≠ 6) :
    Calls Try.prog 29 #[.pointer (some ⟨rb, 0, none⟩), .pointer (some ⟨qb, 0, none⟩), .agg #[.int .i64 kd, .int .u64 ms, .int .i64 sz], kp] w fun e w' => e = .returned (.bool true) ∧ ∃ er', RdrAt w' rb [] 0 er' ∧ RefAt w' qb [] 0 er' ∧ Two rb qb w w' := by
  have bx := box_below w (.cells #[.int .i64 kd, .int .u64 ms, .int .i64 sz] 56)
  have q1 := hq.below bx
  have r1 := hr.below bx
  have hne := rdr_ne_ref r1 q1
  have HB : Hid (Below w.heap.size w (w.alloc (.cells #[.int .i64 kd, .int .u64 ms, .int .i64 sz] 56))) := bx
  clear bx
  have hqlt := hq.lt
  have hrlt := hr.lt
  obtain ⟨k1, k2, k3, k4, k5, k6⟩ := hk
  have p1 : (kd == 1) = false := by simpa using k1
  have p2 : (kd == 2) = false := by simpa using k2
  have p3 : (kd == 3) = false := by simpa using k3
  have p4 : (kd == 4) = false := by simpa using k4
  have p5 : (kd == 5) = false := by simpa using k5
  have p6 : (kd == 6) = false := by simpa using k6
  clear k1 k2 k3 k4 k5 k6
  go_enter Try.func29, Try.ntmps29
  go_wp2
  go_ret
  exact ⟨rfl, _, r1, q1, Two.of_below HB.out⟩
set_option maxHeartbeats 1000000 in
theorem oneNil_Other (w : World) (qb : Nat) (kp : Value) (kd : Int) (ms sz : Int) (hq : RefAt w qb [] 0 0) (hm : 0 ≤ ms ∧ ms < 18446744073709551616) (h0 : -9223372036854775808 ≤ sz) (h1 : sz ≤ 9223372036854775807) (hk : kd ≠ 1 ∧ kd ≠ 2 ∧ kd ≠ 3 ∧ kd ≠ 4 ∧ kd ≠ 5 ∧ kd ≠ 6) :
    Calls Try.prog 29 #[.pointer none, .pointer (some ⟨qb, 0, none⟩), .agg #[.int .i64 kd, .int .u64 ms, .int .i64 sz], kp] w fun e w' => e = .returned (.bool true) ∧ w.grownBy w' (some qb) := by
  have bx := box_below w (.cells #[.int .i64 kd, .int .u64 ms, .int .i64 sz] 56)
  have q1 := hq.below bx
  have HB : Hid (Below w.heap.size w (w.alloc (.cells #[.int .i64 kd, .int .u64 ms, .int .i64 sz] 56))) := bx
  clear bx
  have hqlt := hq.lt
  obtain ⟨k1, k2, k3, k4, k5, k6⟩ := hk
  have p1 : (kd == 1) = false := by simpa using k1
  have p2 : (kd == 2) = false := by simpa using k2
  have p3 : (kd == 3) = false := by simpa using k3
  have p4 : (kd == 4) = false := by simpa using k4
  have p5 : (kd == 5) = false := by simpa using k5
  have p6 : (kd == 6) = false := by simpa using k6
  clear k1 k2 k3 k4 k5 k6
  go_enter Try.func29, Try.ntmps29
  go_wp2
  go_ret
  exact ⟨rfl, Below.grownAny HB.out _⟩
theorem one_none (w : World) (rb qb : Nat) (kp : Value) (kd : Int) (ms sz : Int) (er : Int) (hr : RdrAt w rb [] 0 er) (hq : RefAt w qb [] 0 er) (hm : 0 ≤ ms ∧ ms < 18446744073709551616) (h0 : -9223372036854775808 ≤ sz) (h1 : sz ≤ 9223372036854775807) :
    Calls Try.prog 29 #[.pointer (some ⟨rb, 0, none⟩), .pointer (some ⟨qb, 0, none⟩), .agg #[.int .i64 kd, .int .u64 ms, .int .i64 sz], kp] w fun e w' => e = .returned (.bool true) ∧ ∃ er', RdrAt w' rb [] 0 er' ∧ RefAt w' qb [] 0 er' ∧ Two rb qb w w' := by
  by_cases c1 : kd = 1
  · subst c1; exact one_Varint w rb qb kp ms sz er hr hq hm h0 h1
  by_cases c2 : kd = 2
  · subst c2; exact one_Signed w rb qb kp ms sz er hr hq hm h0 h1
  by_cases c3 : kd = 3
  · subst c3; exact one_Fixed32 w rb qb kp ms sz er hr hq hm h0 h1
  by_cases c4 : kd = 4
  · subst c4; exact one_Fixed64 w rb qb kp ms sz er hr hq hm h0 h1
  by_cases c5 : kd = 5
  · subst c5; exact one_String w rb qb kp ms sz er hr hq hm h0 h1
  by_cases c6 : kd = 6
  · subst c6; exact one_Byte w rb qb kp ms sz er hr hq hm h0 h1
  exact one_Other w rb qb kp kd ms sz er hr hq hm h0 h1 ⟨c1, c2, c3, c4, c5, c6⟩
theorem one_nil (w : World) (qb : Nat) (kp : Value) (kd : Int) (ms sz : Int) (hq : RefAt w qb [] 0 0) (hm : 0 ≤ ms ∧ ms < 18446744073709551616) (h0 : -9223372036854775808 ≤ sz) (h1 : sz ≤ 9223372036854775807) :
    Calls Try.prog 29 #[.pointer none, .pointer (some ⟨qb, 0, none⟩), .agg #[.int .i64 kd, .int .u64 ms, .int .i64 sz], kp] w fun e w' => e = .returned (.bool true) ∧ w.grownBy w' (some qb) := by
  by_cases c1 : kd = 1
  · subst c1; exact oneNil_Varint w qb kp ms sz hq hm h0 h1
  by_cases c2 : kd = 2
  · subst c2; exact oneNil_Signed w qb kp ms sz hq hm h0 h1
  by_cases c3 : kd = 3
  · subst c3; exact oneNil_Fixed32 w qb kp ms sz hq hm h0 h1
  by_cases c4 : kd = 4
  · subst c4; exact oneNil_Fixed64 w qb kp ms sz hq hm h0 h1
  by_cases c5 : kd = 5
  · subst c5; exact oneNil_String w qb kp ms sz hq hm h0 h1
  by_cases c6 : kd = 6
  · subst c6; exact oneNil_Byte w qb kp ms sz hq hm h0 h1
  exact oneNil_Other w qb kp kd ms sz hq hm h0 h1 ⟨c1, c2, c3, c4, c5, c6⟩
#print axioms one_none
#print axioms one_nil
end Go.Proofs.Ytgccfpmjcpoddaa
