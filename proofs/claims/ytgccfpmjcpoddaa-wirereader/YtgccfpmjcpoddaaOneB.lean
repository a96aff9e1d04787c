/-
  What flumelaw1.one answers, kind by kind: true; both readers stand alike behind it, lists that were kept are kept.
-/
import Derived.Test.YtgccfpmjcpoddaaKeepC
namespace Go.Proofs.Ytgccfpmjcpoddaa
open Go.RowKit
set_option linter.unusedVariables false

theorem Sl.own8 {w w' : World} {t : Option (Nat × Nat × Nat)} {V : List UInt8} (h : Sl w (.slice (sAo t) (sN t) (sC t)) V) (ht : ∀ t', t = some t' → w'.heap[t'.1]? = w.heap[t'.1]?) : Sl w' (.slice (sAo t) (sN t) (sC t)) V := by
  obtain ⟨ao, cap, e, h2, h3, h4, h5⟩ := h
  refine ⟨ao, cap, e, h2, h3, h4, fun i hi => ?_⟩
  obtain ⟨b, off, e1, hc⟩ := h5 i hi
  refine ⟨b, off, e1, ?_⟩
  cases t with
  | none =>
    simp only [sAo, Value.slice.injEq] at e
    rw [← e.1] at e1
    simp at e1
  | some t =>
    simp only [sAo, Value.slice.injEq] at e
    rw [← e.1] at e1
    simp only [Option.some.injEq, Addr.mk.injEq] at e1
    have hb : w'.heap[b]? = w.heap[b]? := by rw [← e1.1]; exact ht t rfl
    rw [World.cell?_of_block (w := w) (a := ⟨b, off + i, none⟩) hb]
    exact hc
theorem keepC {u u' : World} {p : Addr} {v : Value} {row : Option Nat} (h : u.cell? p = some v) (hg : u.grownBy u' row) (hne : some p.block ≠ row) : u'.cell? p = some v := hg.cell h hne
/-- Behind one: alike readers, kept lists, nothing below B turned. -/
def OneP (w w' : World) (rb qb kb B : Nat) (l : List UInt8) : Prop := ∃ k' er', RdrAt w' rb l k' er' ∧ RefAt w' qb l k' er' ∧ KeptSt w' kb ∧ Below B w w'
theorem fS_lt (l : List UInt8) (k : Nat) (er : Int) (n : Nat) : (fS l k er n).1 < 256 ^ n := by
  have hp : 0 < 256 ^ n := Nat.pow_pos (by omega)
  unfold fS
  split
  · split
    · exact num_le _ n (by simp; omega)
    · exact hp
  · exact hp

set_option maxHeartbeats 1000000 in
theorem oneB_Signed (w : World) (rb qb kb B : Nat) (ms sz : Int) (l : List UInt8) (k : Nat) (er : Int) (hr : RdrAt w rb l k er) (hq : RefAt w qb l k er) (hK : KeptSt w kb) (hB1 : B ≤ rb) (hB2 : B ≤ qb) (hB3 : B ≤ kb) (hqk : qb < kb) (hm : 0 ≤ ms ∧ ms < 18446744073709551616) (h0 : -9223372036854775808 ≤ sz) (h1 : sz ≤ 9223372036854775807) :
    Calls Try.prog 29 #[.pointer (some ⟨rb, 0, none⟩), .pointer (some ⟨qb, 0, none⟩), .agg #[.int .i64 2, .int .u64 ms, .int .i64 sz], .pointer (some ⟨kb, 0, none⟩)] w fun e w' => e = .returned (.bool true) ∧ OneP w w' rb qb kb B l := by
  have bx := box_below w (.cells #[.int .i64 2, .int .u64 ms, .int .i64 sz] 56)
  have q1 := hq.below bx
  have r1 := hr.below bx
  have k1 := hK.below bx
  have hne := rdr_ne_ref r1 q1
  have HB : Hid (Below w.heap.size w (w.alloc (.cells #[.int .i64 2, .int .u64 ms, .int .i64 sz] 56))) := bx
  clear bx
  have hqlt := hq.lt
  have hrlt := hr.lt
  have HBs : Hid (B ≤ w.heap.size) := by show _ ≤ _; omega
  obtain ⟨V, hV⟩ : ∃ V, V = zag ((vS l k er 18446744073709551615).1 : Int) := ⟨_, rfl⟩
  have HV : Hid (zag ((vS l k er 18446744073709551615).1 : Int) = V) := hV.symm
  clear hV
  go_enter Try.func29, Try.ntmps29
  go_wp2_with fail
  refine (Signed_all _ rb l k er r1).mono ?_
  rintro e w2 ⟨rfl, r2, g2⟩
  rw [HV.out]
  have q2 := q1.kept r1 hne.symm g2
  have k2 := k1.rdr r1 g2
  go_wp2_with fail
  refine (qSigned_all w2 qb l k er q2).mono ?_
  rintro e w3 ⟨rfl, q3, g3⟩
  rw [HV.out]
  have r3 := r2.kept q2 hne g3
  have k3 := k2.ref q2 g3
  go_wp2
  go_ret
  exact ⟨rfl, _, _, r3, q3, k3, (((Two.of_below HB.out).trans (Two.left g2)).trans (Two.right g3)).belowB hB1 hB2 HBs.out⟩

set_option maxHeartbeats 1000000 in
theorem oneB_Fixed32 (w : World) (rb qb kb B : Nat) (ms sz : Int) (l : List UInt8) (k : Nat) (er : Int) (hr : RdrAt w rb l k er) (hq : RefAt w qb l k er) (hK : KeptSt w kb) (hB1 : B ≤ rb) (hB2 : B ≤ qb) (hB3 : B ≤ kb) (hqk : qb < kb) (hm : 0 ≤ ms ∧ ms < 18446744073709551616) (h0 : -9223372036854775808 ≤ sz) (h1 : sz ≤ 9223372036854775807) :
    Calls Try.prog 29 #[.pointer (some ⟨rb, 0, none⟩), .pointer (some ⟨qb, 0, none⟩), .agg #[.int .i64 3, .int .u64 ms, .int .i64 sz], .pointer (some ⟨kb, 0, none⟩)] w fun e w' => e = .returned (.bool true) ∧ OneP w w' rb qb kb B l := by
  have bx := box_below w (.cells #[.int .i64 3, .int .u64 ms, .int .i64 sz] 56)
  have q1 := hq.below bx
  have r1 := hr.below bx
  have k1 := hK.below bx
  have hne := rdr_ne_ref r1 q1
  have HB : Hid (Below w.heap.size w (w.alloc (.cells #[.int .i64 3, .int .u64 ms, .int .i64 sz] 56))) := bx
  clear bx
  have hqlt := hq.lt
  have hrlt := hr.lt
  have HBs : Hid (B ≤ w.heap.size) := by show _ ≤ _; omega
  obtain ⟨V, hV⟩ : ∃ V, V = (fS l k er 4).1 := ⟨_, rfl⟩
  have hVlt : V < 4294967296 := by rw [hV]; have := fS_lt l k er 4; simpa using this
  have hVw : IntKind.u64.wrap (V : Int) = (V : Int) := by rw [IntKind.wrap_u64]; omega
  have HV : Hid ((fS l k er 4).1 = V) := hV.symm
  clear hV
  go_enter Try.func29, Try.ntmps29
  go_wp2_with fail
  refine (Fixed32_all _ rb l k er r1).mono ?_
  rintro e w2 ⟨rfl, r2, g2⟩
  rw [HV.out]
  have q2 := q1.kept r1 hne.symm g2
  have k2 := k1.rdr r1 g2
  go_wp2_with fail
  refine (qFixed_all w2 qb l k er 4 q2 (by decide) (by decide)).mono ?_
  rintro e w3 ⟨rfl, q3, g3⟩
  rw [HV.out]
  have r3 := r2.kept q2 hne g3
  have k3 := k2.ref q2 g3
  go_wp2
  go_ret
  exact ⟨rfl, _, _, r3, q3, k3, (((Two.of_below HB.out).trans (Two.left g2)).trans (Two.right g3)).belowB hB1 hB2 HBs.out⟩

set_option maxHeartbeats 1000000 in
theorem oneB_Fixed64 (w : World) (rb qb kb B : Nat) (ms sz : Int) (l : List UInt8) (k : Nat) (er : Int) (hr : RdrAt w rb l k er) (hq : RefAt w qb l k er) (hK : KeptSt w kb) (hB1 : B ≤ rb) (hB2 : B ≤ qb) (hB3 : B ≤ kb) (hqk : qb < kb) (hm : 0 ≤ ms ∧ ms < 18446744073709551616) (h0 : -9223372036854775808 ≤ sz) (h1 : sz ≤ 9223372036854775807) :
    Calls Try.prog 29 #[.pointer (some ⟨rb, 0, none⟩), .pointer (some ⟨qb, 0, none⟩), .agg #[.int .i64 4, .int .u64 ms, .int .i64 sz], .pointer (some ⟨kb, 0, none⟩)] w fun e w' => e = .returned (.bool true) ∧ OneP w w' rb qb kb B l := by
  have bx := box_below w (.cells #[.int .i64 4, .int .u64 ms, .int .i64 sz] 56)
  have q1 := hq.below bx
  have r1 := hr.below bx
  have k1 := hK.below bx
  have hne := rdr_ne_ref r1 q1
  have HB : Hid (Below w.heap.size w (w.alloc (.cells #[.int .i64 4, .int .u64 ms, .int .i64 sz] 56))) := bx
  clear bx
  have hqlt := hq.lt
  have hrlt := hr.lt
  have HBs : Hid (B ≤ w.heap.size) := by show _ ≤ _; omega
  obtain ⟨V, hV⟩ : ∃ V, V = (fS l k er 8).1 := ⟨_, rfl⟩
  have HV : Hid ((fS l k er 8).1 = V) := hV.symm
  clear hV
  go_enter Try.func29, Try.ntmps29
  go_wp2_with fail
  refine (Fixed64_all _ rb l k er r1).mono ?_
  rintro e w2 ⟨rfl, r2, g2⟩
  rw [HV.out]
  have q2 := q1.kept r1 hne.symm g2
  have k2 := k1.rdr r1 g2
  go_wp2_with fail
  refine (qFixed_all w2 qb l k er 8 q2 (by decide) (by decide)).mono ?_
  rintro e w3 ⟨rfl, q3, g3⟩
  rw [HV.out]
  have r3 := r2.kept q2 hne g3
  have k3 := k2.ref q2 g3
  go_wp2
  go_ret
  exact ⟨rfl, _, _, r3, q3, k3, (((Two.of_below HB.out).trans (Two.left g2)).trans (Two.right g3)).belowB hB1 hB2 HBs.out⟩

set_option maxHeartbeats 1000000 in
theorem oneB_Byte (w : World) (rb qb kb B : Nat) (ms sz : Int) (l : List UInt8) (k : Nat) (er : Int) (hr : RdrAt w rb l k er) (hq : RefAt w qb l k er) (hK : KeptSt w kb) (hB1 : B ≤ rb) (hB2 : B ≤ qb) (hB3 : B ≤ kb) (hqk : qb < kb) (hm : 0 ≤ ms ∧ ms < 18446744073709551616) (h0 : -9223372036854775808 ≤ sz) (h1 : sz ≤ 9223372036854775807) :
    Calls Try.prog 29 #[.pointer (some ⟨rb, 0, none⟩), .pointer (some ⟨qb, 0, none⟩), .agg #[.int .i64 6, .int .u64 ms, .int .i64 sz], .pointer (some ⟨kb, 0, none⟩)] w fun e w' => e = .returned (.bool true) ∧ OneP w w' rb qb kb B l := by
  have bx := box_below w (.cells #[.int .i64 6, .int .u64 ms, .int .i64 sz] 56)
  have q1 := hq.below bx
  have r1 := hr.below bx
  have k1 := hK.below bx
  have hne := rdr_ne_ref r1 q1
  have HB : Hid (Below w.heap.size w (w.alloc (.cells #[.int .i64 6, .int .u64 ms, .int .i64 sz] 56))) := bx
  clear bx
  have hqlt := hq.lt
  have hrlt := hr.lt
  have HBs : Hid (B ≤ w.heap.size) := by show _ ≤ _; omega
  obtain ⟨V, hV⟩ : ∃ V, V = (fS l k er 1).1 := ⟨_, rfl⟩
  have hVlt : V < 256 := by rw [hV]; have := fS_lt l k er 1; simpa using this
  have hVw : IntKind.u64.wrap (V : Int) = (V : Int) := by rw [IntKind.wrap_u64]; omega
  have HV : Hid ((fS l k er 1).1 = V) := hV.symm
  clear hV
  go_enter Try.func29, Try.ntmps29
  go_wp2_with fail
  refine (Byte_all _ rb l k er r1).mono ?_
  rintro e w2 ⟨rfl, r2, g2⟩
  rw [HV.out]
  have q2 := q1.kept r1 hne.symm g2
  have k2 := k1.rdr r1 g2
  go_wp2_with fail
  refine (qFixed_all w2 qb l k er 1 q2 (by decide) (by decide)).mono ?_
  rintro e w3 ⟨rfl, q3, g3⟩
  rw [HV.out]
  have r3 := r2.kept q2 hne g3
  have k3 := k2.ref q2 g3
  go_wp2
  go_ret
  exact ⟨rfl, _, _, r3, q3, k3, (((Two.of_below HB.out).trans (Two.left g2)).trans (Two.right g3)).belowB hB1 hB2 HBs.out⟩

set_option maxHeartbeats 1000000 in
theorem oneB_Varint (w : World) (rb qb kb B : Nat) (ms sz : Int) (l : List UInt8) (k : Nat) (er : Int) (hr : RdrAt w rb l k er) (hq : RefAt w qb l k er) (hK : KeptSt w kb) (hB1 : B ≤ rb) (hB2 : B ≤ qb) (hB3 : B ≤ kb) (hqk : qb < kb) (hm : 0 ≤ ms ∧ ms < 18446744073709551616) (h0 : -9223372036854775808 ≤ sz) (h1 : sz ≤ 9223372036854775807) :
    Calls Try.prog 29 #[.pointer (some ⟨rb, 0, none⟩), .pointer (some ⟨qb, 0, none⟩), .agg #[.int .i64 1, .int .u64 ms, .int .i64 sz], .pointer (some ⟨kb, 0, none⟩)] w fun e w' => e = .returned (.bool true) ∧ OneP w w' rb qb kb B l := by
  have bx := box_below w (.cells #[.int .i64 1, .int .u64 ms, .int .i64 sz] 56)
  have q1 := hq.below bx
  have r1 := hr.below bx
  have k1 := hK.below bx
  have hne := rdr_ne_ref r1 q1
  have HB : Hid (Below w.heap.size w (w.alloc (.cells #[.int .i64 1, .int .u64 ms, .int .i64 sz] 56))) := bx
  clear bx
  have hqlt := hq.lt
  have hrlt := hr.lt
  have HBs : Hid (B ≤ w.heap.size) := by show _ ≤ _; omega
  have cb : (w.alloc (.cells #[.int .i64 1, .int .u64 ms, .int .i64 sz] 56)).cell? ⟨w.heap.size, 1, none⟩ = some (.int .u64 ms) := by simp [go_sem]
  go_enter Try.func29, Try.ntmps29
  go_wp2_with fail
  have hS0 : (w.alloc (.cells #[.int .i64 1, .int .u64 ms, .int .i64 sz] 56)).drew.cell? ⟨w.heap.size, 1, none⟩ = some (.int .u64 ms) := cb
  go_region_held3 (fun q => q.cell? ⟨w.heap.size, 1, none⟩ = some (.int .u64 ms)) (first | exact hS0 | exact keepC (by assumption) (by assumption) (by simp; omega))
    (first
      | (go_at_call 36; refine (Varint_all _ rb l k er ms r1.drew hm).mono ?_; rintro e w2 ⟨rfl, r2, g2⟩)
      | (go_at_call 41; refine (qVarint_all _ qb l k er ms (RefAt.kept (q1.below (Qt.below ⟨1, rfl⟩ _)) r1.drew hne.symm g2) hm).mono ?_; rintro e w3 ⟨rfl, q3, g3⟩))
  have q2 := RefAt.kept (q1.below (Qt.below ⟨1, rfl⟩ _)) r1.drew hne.symm g2
  have r3 := r2.kept q2 hne g3
  have k3 := ((k1.below (Qt.below ⟨1, rfl⟩ _)).rdr r1.drew g2).ref q2 g3
  go_wp2
  go_ret
  exact ⟨rfl, _, _, r3, q3, k3, (((Two.of_below HB.out.drew).trans (Two.left g2)).trans (Two.right g3)).belowB hB1 hB2 HBs.out⟩

set_option maxHeartbeats 1000000 in
theorem oneB_Other (w : World) (rb qb kb B : Nat) (kd : Int) (ms sz : Int) (l : List UInt8) (k : Nat) (er : Int) (hr : RdrAt w rb l k er) (hq : RefAt w qb l k er) (hK : KeptSt w kb) (hB1 : B ≤ rb) (hB2 : B ≤ qb) (hB3 : B ≤ kb) (hqk : qb < kb) (hm : 0 ≤ ms ∧ ms < 18446744073709551616) (h0 : -9223372036854775808 ≤ sz) (h1 : sz ≤ 9223372036854775807) (hkd : kd ≠ 1 ∧ kd ≠ 2 ∧ kd ≠ 3 ∧ kd ≠ 4 ∧ kd ≠ 5 ∧ kd ≠ 6) :
    Calls Try.prog 29 #[.pointer (some ⟨rb, 0, none⟩), .pointer (some ⟨qb, 0, none⟩), .agg #[.int .i64 kd, .int .u64 ms, .int .i64 sz], .pointer (some ⟨kb, 0, none⟩)] w fun e w' => e = .returned (.bool true) ∧ OneP w w' rb qb kb B l := by
  have bx := box_below w (.cells #[.int .i64 kd, .int .u64 ms, .int .i64 sz] 56)
  have q1 := hq.below bx
  have r1 := hr.below bx
  have k1 := hK.below bx
  have hne := rdr_ne_ref r1 q1
  have HB : Hid (Below w.heap.size w (w.alloc (.cells #[.int .i64 kd, .int .u64 ms, .int .i64 sz] 56))) := bx
  clear bx
  have hqlt := hq.lt
  have hrlt := hr.lt
  have HBs : Hid (B ≤ w.heap.size) := by show _ ≤ _; omega
  obtain ⟨d1, d2, d3, d4, d5, d6⟩ := hkd
  have e1 : (kd == 1) = false := by simpa using d1
  have e2 : (kd == 2) = false := by simpa using d2
  have e3 : (kd == 3) = false := by simpa using d3
  have e4 : (kd == 4) = false := by simpa using d4
  have e5 : (kd == 5) = false := by simpa using d5
  have e6 : (kd == 6) = false := by simpa using d6
  go_enter Try.func29, Try.ntmps29
  go_wp2_with fail
  go_ret
  exact ⟨rfl, _, _, r1, q1, k1, (Two.of_below (a := rb) (b := qb) HB.out).belowB hB1 hB2 HBs.out⟩

set_option maxHeartbeats 1000000 in
theorem oneB_String (w : World) (rb qb kb B : Nat) (ms sz : Int) (l : List UInt8) (k : Nat) (er : Int) (hr : RdrAt w rb l k er) (hq : RefAt w qb l k er) (hK : KeptSt w kb) (hB1 : B ≤ rb) (hB2 : B ≤ qb) (hB3 : B ≤ kb) (hqk : qb < kb) (hm : 0 ≤ ms ∧ ms < 18446744073709551616) (h0 : -9223372036854775808 ≤ sz) (h1 : sz ≤ 9223372036854775807) :
    Calls Try.prog 29 #[.pointer (some ⟨rb, 0, none⟩), .pointer (some ⟨qb, 0, none⟩), .agg #[.int .i64 5, .int .u64 ms, .int .i64 sz], .pointer (some ⟨kb, 0, none⟩)] w fun e w' => e = .returned (.bool true) ∧ OneP w w' rb qb kb B l := by
  have bx := box_below w (.cells #[.int .i64 5, .int .u64 ms, .int .i64 sz] 56)
  have q1 := hq.below bx
  have r1 := hr.below bx
  have k1 := hK.below bx
  have hne := rdr_ne_ref r1 q1
  have HB : Hid (Below w.heap.size w (w.alloc (.cells #[.int .i64 5, .int .u64 ms, .int .i64 sz] 56))) := bx
  clear bx
  have hqlt := hq.lt
  have hrlt := hr.lt
  have HBs : Hid (B ≤ w.heap.size) := by show _ ≤ _; omega
  obtain ⟨V, hV⟩ : ∃ V, V = (sS l k er sz).1 := ⟨_, rfl⟩
  have HV : Hid ((sS l k er sz).1 = V) := hV.symm
  clear hV
  go_enter Try.func29, Try.ntmps29
  go_wp2_with fail
  refine (String_all _ rb l k er sz r1 h0 h1).mono ?_
  rintro e w2 ⟨t, rfl, s2, n2, r2, g2⟩
  rw [HV.out] at s2
  have q2 := q1.kept r1 hne.symm g2
  have cb : w2.cell? ⟨w.heap.size, 2, none⟩ = some (.int .i64 sz) := keepC (by simp [go_sem]) g2 (by simp; omega)
  obtain ⟨its, size, hK2, hI2⟩ := k1.add r1 g2 n2
  have HK2 : Hid (Kept w2 kb kb its size) := hK2
  have HI2 : Hid (Items w2 kb (its ++ somes [t])) := hI2
  have HS2 : Hid (Sl w2 (.slice (sAo t) (sN t) (sC t)) V) := s2
  have HW2 : Hid (w.heap.size < w2.heap.size) := lt_of_cell cb
  have HN2 : Hid (∀ t', t = some t' → Own8 w2 (w.alloc (.cells #[.int .i64 5, .int .u64 ms, .int .i64 sz] 56)).heap.size t') := n2
  have bo2 : w2.heap[w.heap.size]? = some (.cells #[.int .i64 5, .int .u64 ms, .int .i64 sz] 56 (0, 0)) := by
    rw [g2.block w.heap.size (by simp) (by simp; omega)]; exact heap_alloc_new _ _
  have HBO : Hid (w2.heap[w.heap.size]? = some (.cells #[.int .i64 5, .int .u64 ms, .int .i64 sz] 56 (0, 0))) := bo2
  clear hK2 hI2 s2 n2 bo2
  go_wp2_with fail
  refine (keep_core w2 kb its size [t] HK2.out HI2.out (by simp) _ rfl 1 1 rfl).mono ?_
  rintro e w3 ⟨rfl, k3, f3⟩
  have bx2 := box_below w2 (.cells (List.map slx [t]).toArray 28)
  have kx : ∃ cs, (w2.alloc (.cells (List.map slx [t]).toArray 28)).heap[kb]? = some (.cells cs 53 (0, 0)) := by
    obtain ⟨cs, hc⟩ := KeptSt.cells ⟨its, size, HK2.out, Items.sub HI2.out (List.sublist_append_left _ _)⟩
    exact ⟨cs, by rw [bx2.block kb (heap_lt hc)]; exact hc⟩
  have hkw : kb ≤ (w2.alloc (.cells (List.map slx [t]).toArray 28)).heap.size := by
    obtain ⟨cs, hc⟩ := kx; exact Nat.le_of_lt (heap_lt hc)
  have r3 := (r2.below bx2).frK kx f3
  have q3 := (q2.below bx2).frK hqk hkw f3
  have bo3 : w3.heap[w.heap.size]? = some (.cells #[.int .i64 5, .int .u64 ms, .int .i64 sz] 56 (0, 0)) := by
    have h2 : (w2.alloc (.cells (List.map slx [t]).toArray 28)).heap[w.heap.size]? = some (.cells #[.int .i64 5, .int .u64 ms, .int .i64 sz] 56 (0, 0)) := by rw [bx2.block _ (heap_lt HBO.out)]; exact HBO.out
    obtain ⟨cs, hc⟩ := kx
    have hnk : w.heap.size ≠ kb := by intro e; rw [← e, h2] at hc; simp at hc
    rw [f3.block _ (heap_lt h2) hnk (.inr fun c fr e => by rw [h2] at e; simp at e)]; exact h2
  have cb3 : w3.cell? ⟨w.heap.size, 2, none⟩ = some (.int .i64 sz) := by simp [World.cell?, bo3]
  have s3 : Sl w3 (.slice (sAo t) (sN t) (sC t)) V := HS2.out.own8 fun t' e => by
    obtain ⟨cur, hh, _⟩ := HN2.out t' e
    have h2 : (w2.alloc (.cells (List.map slx [t]).toArray 28)).heap[t'.1]? = some (.cells cur 5 (0, 0)) := by rw [bx2.block _ (heap_lt hh)]; exact hh
    obtain ⟨cs, hc⟩ := kx
    have hnk : t'.1 ≠ kb := by intro e; rw [e, hc] at h2; simp at h2
    rw [f3.block _ (heap_lt h2) hnk (.inr fun c fr e => by rw [h2] at e; simp at e), h2, hh]
  have HB3 : Hid (Below B w w3) := by
    have b2 : Below B w w2 := ((Two.of_below HB.out).trans (Two.left (b := qb) g2)).belowB hB1 hB2 HBs.out
    have b3 : Below B w2 w3 := (bx2.mono (Nat.le_trans HBs.out (Nat.le_of_lt HW2.out))).trans (f3.below hkw (Nat.le_refl _) hB3)
    exact b2.trans b3
  have HS3 : Hid (Sl w3 (.slice (sAo t) (sN t) (sC t)) V) := s3
  have HK3 : Hid (KeptSt w3 kb) := k3
  clear f3 bx2 kx hkw bo3 s3 k3 cb HBO HN2 HK2 HI2
  go_wp2_with fail
  refine (qString_all w3 qb l k er sz q3 h0 h1).mono ?_
  rintro e w4 ⟨v4, rfl, s4, q4, g4⟩
  rw [HV.out] at s4
  have r4 := r3.kept q3 hne g4
  have k4 := HK3.out.ref q3 g4
  have t4 := HS3.out.kept (fun j c hc => q3.noByte hc) g4
  have HB4 : Hid (Below B w w4) := HB3.out.trans ((Two.right (a := rb) g4).belowB hB1 hB2 (Nat.le_trans HBs.out HB3.out.size))
  clear cb3 g4
  go_wp2_with fail
  refine (eq_sl w4 _ v4 V V t4 s4).mono ?_
  rintro e w5 ⟨rfl, qt5⟩
  rw [show decide (V = V) = true by simp]
  have r5 := r4.below (qt5.below _)
  have q5 := q4.below (qt5.below _)
  have k5 := k4.below (qt5.below _)
  have HB5 : Hid (Below B w w5) := HB4.out.trans (qt5.below _)
  go_wp2
  go_ret
  exact ⟨rfl, _, _, r5, q5, k5, HB5.out⟩
theorem one_all (w : World) (rb qb kb B : Nat) (kd ms sz : Int) (l : List UInt8) (k : Nat) (er : Int) (hr : RdrAt w rb l k er) (hq : RefAt w qb l k er) (hK : KeptSt w kb) (hB1 : B ≤ rb) (hB2 : B ≤ qb) (hB3 : B ≤ kb) (hqk : qb < kb) (hm : 0 ≤ ms ∧ ms < 18446744073709551616) (h0 : -9223372036854775808 ≤ sz) (h1 : sz ≤ 9223372036854775807) :
    Calls Try.prog 29 #[.pointer (some ⟨rb, 0, none⟩), .pointer (some ⟨qb, 0, none⟩), .agg #[.int .i64 kd, .int .u64 ms, .int .i64 sz], .pointer (some ⟨kb, 0, none⟩)] w fun e w' => e = .returned (.bool true) ∧ OneP w w' rb qb kb B l := by
  by_cases e1 : kd = 1
  · subst e1; exact oneB_Varint w rb qb kb B ms sz l k er hr hq hK hB1 hB2 hB3 hqk hm h0 h1
  by_cases e2 : kd = 2
  · subst e2; exact oneB_Signed w rb qb kb B ms sz l k er hr hq hK hB1 hB2 hB3 hqk hm h0 h1
  by_cases e3 : kd = 3
  · subst e3; exact oneB_Fixed32 w rb qb kb B ms sz l k er hr hq hK hB1 hB2 hB3 hqk hm h0 h1
  by_cases e4 : kd = 4
  · subst e4; exact oneB_Fixed64 w rb qb kb B ms sz l k er hr hq hK hB1 hB2 hB3 hqk hm h0 h1
  by_cases e5 : kd = 5
  · subst e5; exact oneB_String w rb qb kb B ms sz l k er hr hq hK hB1 hB2 hB3 hqk hm h0 h1
  by_cases e6 : kd = 6
  · subst e6; exact oneB_Byte w rb qb kb B ms sz l k er hr hq hK hB1 hB2 hB3 hqk hm h0 h1
  exact oneB_Other w rb qb kb B kd ms sz l k er hr hq hK hB1 hB2 hB3 hqk hm h0 h1 ⟨e1, e2, e3, e4, e5, e6⟩
#print axioms one_all

end Go.Proofs.Ytgccfpmjcpoddaa
