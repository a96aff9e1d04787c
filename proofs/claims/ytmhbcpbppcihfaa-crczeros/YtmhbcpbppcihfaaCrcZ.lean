/-
  The walk of CrcZeros: true.
-/
import Derived.Test.YtmhbcpbppcihfaaCrcG
import Derived.Deep.RegionHeld3
namespace Go.Proofs.Ytmhbcpbppcihfaa.Crc
open Go.RowKit

theorem zeros_zeros (c : R) (n m : Int) (hn : 0 ≤ n) (hm : 0 ≤ m) : zerosOf (zerosOf c n) m = zerosOf c (n + m) := by
  unfold zerosOf
  rw [if_neg (by omega), if_neg (by omega), if_neg (by omega), BitVec.xor_assoc (st _ _) ones ones, BitVec.xor_self, BitVec.xor_zero, ← st_add, show 8 * m.toNat + 8 * n.toNat = 8 * (n + m).toNat by omega]
theorem zeros_more (c : R) (n : Nat) : more c (List.replicate n 0) = zerosOf c (n : Int) := by
  unfold zerosOf more
  rw [if_neg (by omega), feed_zeros]; rfl
theorem made_zeros (n : Nat) : madeCells (Value.int .u8 0).cells (n * 1) = (bvals (List.replicate n 0)).toArray := by
  apply Array.ext
  · simp [madeCells, bvals]
  · intro i h1 h2
    simp [madeCells, bvals, bval, Value.cells, Nat.mod_one]

theorem keepB {w u v : World} (q : Below u.heap.size u v) (h : Below w.heap.size w u) : Below w.heap.size w v := h.trans (q.mono h.size)

set_option maxRecDepth 100000 in
set_option maxHeartbeats 2000000 in
theorem zeros_walk (c : R) (n m : Int) (w : World) (n0 : -9223372036854775808 ≤ n ∧ n ≤ 9223372036854775807) (m0 : -9223372036854775808 ≤ m ∧ m ≤ 9223372036854775807) :
    Calls Try.prog 5 #[.int .u32 (c.toNat : Int), .int .i64 n, .int .i64 m] w fun e w' => e = .returned (.bool true) ∧ Below w.heap.size w w' := by
  obtain ⟨n1, n2⟩ := n0
  obtain ⟨m1, m2⟩ := m0
  obtain ⟨i0, hi, hz0, hz1, hz2⟩ := info_parts Try.infoU8
  go_enter Try.func5, Try.ntmps5
  go_wp2_with fail
  refine (begun2_any _).mono ?_
  rintro e w0 ⟨rfl, hb0⟩
  have HB0 : Hid (Below w.heap.size w w0) := hb0
  have HI : Hid (Try.prog.info? 5 = some i0) := hi
  have HZ0 : Hid (i0.zero = some (.int .u8 0)) := hz0
  have HZ1 : Hid (i0.size = 1) := hz1
  have HZ2 : Hid (i0.bytes = 1) := hz2
  clear hb0 hi hz0 hz1 hz2
  by_cases k1 : n < 0
  · go_wp2_with fail
    go_ret
    exact ⟨rfl, HB0.out⟩
  by_cases k2 : m < 0
  · go_wp2_with fail
    go_ret
    exact ⟨rfl, HB0.out⟩
  by_cases k3 : 2305843009213693952 < n
  · go_wp2_with fail
    go_ret
    exact ⟨rfl, HB0.out⟩
  by_cases k4 : 2305843009213693952 < m
  · go_wp2_with fail
    go_ret
    exact ⟨rfl, HB0.out⟩
  have ZZ : Hid (zerosOf (zerosOf c n) m = zerosOf c (n + m)) := zeros_zeros c n m (by omega) (by omega)
  go_wp2_with fail
  refine (zeros_any _ c n (by omega) (by omega)).mono ?_
  rintro e _ ⟨rfl, rfl⟩
  go_wp2_with fail
  refine (zeros_any _ (zerosOf c n) m (by omega) (by omega)).mono ?_
  rintro e _ ⟨rfl, rfl⟩
  go_wp2_with fail
  refine (zeros_any _ c (n + m) (by omega) (by omega)).mono ?_
  rintro e w1 ⟨rfl, rfl⟩
  rw [ZZ.out]
  by_cases k5 : 4000 < n
  · go_wp2_with fail
    go_ret
    exact ⟨rfl, HB0.out⟩
  obtain ⟨k, rfl⟩ : ∃ k : Nat, n = (k : Int) := ⟨n.toNat, by omega⟩
  obtain ⟨C, hC⟩ : ∃ C, C = (bvals (List.replicate k 0)).toArray := ⟨_, rfl⟩
  have hmk : ∀ u : World, (Instr.makeSlice 26 (.int .i64 (k : Int)) (.int .i64 (k : Int))).run Try.prog u = .ok (.slice (some ⟨u.heap.size, 0, none⟩) k k) (u.alloc (.cells C 5)) := by
    intro u
    rw [run_make u 26 5 i0 (.int .u8 0) Try.underlying26 HI.out HZ0.out .i64 .i64 (k : Int) (k : Int) (by omega) (by omega) (by rw [HZ2.out]; omega) (by omega), HZ1.out, hC]
    simp only [Int.toNat_natCast, made_zeros]
  have HSl : Hid (∀ u : World, Sl (u.alloc (.cells C 5)) (.slice (some ⟨u.heap.size, 0, none⟩) k k) (List.replicate k 0)) := by
    intro u
    have := sl_lit u (List.replicate k 0) 5 (by unfold maxLen; simp; omega) C hC
    simpa using this
  have ZM : Hid (more c (List.replicate k 0) = zerosOf c (k : Int)) := zeros_more c k
  clear hC
  go_wp2_with fail
  have hS0 : Below w.heap.size w w1 := HB0.out
  go_region_held3 (fun q => Below w.heap.size w q) (first | assumption | exact Below.drew (by assumption) | exact Below.alloc (by assumption) (Below.size (by assumption)) _ | exact keepB (by assumption) (by assumption))
    (first
      | (go_at_call 20; refine (zeros_any _ c (k : Int) (by omega) (by omega)).mono ?_; rintro e u1 ⟨rfl, rfl⟩)
      | (go_at_call 12; refine (more_any _ c _ (List.replicate k 0) (by first | exact HSl.out _ | exact Qt.sl ⟨_, rfl⟩ (HSl.out _))).mono ?_; rw [ZM.out]; rintro e u1 ⟨rfl, qm⟩))
  all_goals (go_wp2; go_ret; exact ⟨rfl, by assumption⟩)
#print axioms zeros_walk
end Go.Proofs.Ytmhbcpbppcihfaa.Crc
