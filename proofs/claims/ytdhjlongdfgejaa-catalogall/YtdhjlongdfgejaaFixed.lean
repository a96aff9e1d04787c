/-
  What wire.readFixed and wire.fixed (Fixed32, Fixed64) do.
-/
import Derived.Test.YtdhjlongdfgejaaRVarint
namespace Go.Proofs.Ytdhjlongdfgejaa
open Go.RowKit

/-- The number of bytes l, the lowest first. -/
def num : List UInt8 → Nat
  | [] => 0
  | c :: r => c.toNat + 256 * num r
theorem num_lt (l : List UInt8) : num l < 256 ^ l.length := by
  induction l with
  | nil => simp [num]
  | cons c r ih => have := c.toNat_lt; simp only [num, List.length_cons, Nat.pow_succ]; omega
theorem num_snoc (l : List UInt8) (c : UInt8) : num (l ++ [c]) = num l + c.toNat * 256 ^ l.length := by
  induction l with
  | nil => simp [num]
  | cons d r ih =>
    simp only [List.cons_append, num, ih, List.length_cons, Nat.pow_succ, Nat.mul_add]
    rw [Nat.add_assoc, Nat.mul_comm (256 ^ r.length) 256, ← Nat.mul_assoc, ← Nat.mul_assoc, Nat.mul_comm 256 c.toNat]
theorem num_le (l : List UInt8) (n : Nat) (h : l.length ≤ n) : num l < 256 ^ n := Nat.lt_of_lt_of_le (num_lt l) (Nat.pow_le_pow_right (by omega) h)

theorem or_byte (acc c k : Nat) (ha : acc < 256 ^ k) (hb : acc + c * 256 ^ k < 18446744073709551616) :
    bits BinOp.or IntKind.u64 (acc : Int) (IntKind.u64.wrap ((c : Int) * 2 ^ (8 * k))) = ((acc + c * 256 ^ k : Nat) : Int) := by
  have e : (2 : Nat) ^ (8 * k) = 256 ^ k := by rw [Nat.pow_mul]
  rw [← e] at ha hb ⊢
  exact or_shift acc c (8 * k) ha hb _ (by simp)

set_option maxRecDepth 100000 in
set_option maxHeartbeats 800000 in
theorem readFixed_any (w : World) (x : Value) (l : List UInt8) (hx : Sl w x l) (h8 : l.length ≤ 8) :
    Calls Try.prog 57 #[x] w fun e w' => e = .returned (.int .u64 (num l : Int)) ∧ w' = w := by
  obtain ⟨ao, ca, rfl, h2, h3, h4, h5⟩ := hx
  clear h2 h3 h4
  go_enter Try.func57, Try.ntmps57
  go_wp2
  go_loop [3, 8] (fun n i => ∃ (k acc : Nat), k ≤ l.length ∧ i = .int .i64 k ∧ n = .int .u64 acc ∧ Hid (acc = num (l.take k))) (fun _ i => l.length - (intOf i).toNat)
  case atStart => exact ⟨0, 0, Nat.zero_le _, rfl, rfl, rfl⟩
  case round =>
    obtain ⟨k, acc, hk, rfl, rfl, hacc⟩ := hrel
    by_cases hlt : k < l.length
    · obtain ⟨b1, o1, rfl, h1⟩ := h5.at (by omega)
      have c1 := h1 k hlt
      have hc := l[k].toNat_lt
      have hl : (l.take k).length = k := by simp; omega
      have HN : Hid (acc + l[k].toNat * 256 ^ k = num (l.take (k + 1))) := by
        show _ = _
        rw [take_snoc l k hlt, num_snoc, hacc.out, hl]
      have HO : Hid (bits BinOp.or IntKind.u64 (acc : Int) (IntKind.u64.wrap (((l[k].toNat : Nat) : Int) * 2 ^ (8 * k))) = ((acc + l[k].toNat * 256 ^ k : Nat) : Int)) := by
        have g1 := num_le (l.take k) k (by omega)
        have g2 := num_le (l.take (k + 1)) 8 (by simp; omega)
        rw [← HN.out] at g2
        rw [← hacc.out] at g1
        exact or_byte acc _ k g1 (by simpa using g2)
      clear h1 h5 hl
      generalize l[k] = c at *
      go_wp2
      go_round
      case rel => exact ⟨k + 1, acc + c.toNat * 256 ^ k, by omega, by go_num, by rw [HO.out], HN⟩
      case measure => simp [intOf]; omega
    · have HN : Hid (num l = acc) := by
        show _ = _
        rw [hacc.out, List.take_of_length_le (by omega)]
      go_wp2
      go_ret
      exact ⟨by rw [HN.out]; rfl, rfl⟩

/-- n in size bytes, the lowest first. -/
def fx : Nat → Nat → List UInt8
  | 0, _ => []
  | s + 1, n => UInt8.ofNat (n % 256) :: fx s (n / 256)
theorem fx_len (s n : Nat) : (fx s n).length = s := by
  induction s generalizing n with
  | zero => rfl
  | succ s ih => simp [fx, ih]
theorem fx_snoc (s n : Nat) : fx (s + 1) n = fx s n ++ [UInt8.ofNat (n / 256 ^ s % 256)] := by
  induction s generalizing n with
  | zero => simp [fx]
  | succ s ih =>
    rw [fx, ih, fx, List.cons_append, Nat.div_div_eq_div_mul, Nat.pow_succ, Nat.mul_comm 256]
theorem fx_num (s n : Nat) (h : n < 256 ^ s) : num (fx s n) = n := by
  induction s generalizing n with
  | zero => simp at h; subst h; rfl
  | succ s ih =>
    rw [Nat.pow_succ] at h
    rw [fx, num, ih (n / 256) (Nat.div_lt_of_lt_mul (by omega)), UInt8.toNat_ofNat_of_lt' (show n % 256 < 256 by omega)]
    omega

theorem set_fx (s k n : Nat) (h : k < s) : (bvals (fx k n) ++ List.replicate (s - k) (Value.int .u8 0)).set k (bval (UInt8.ofNat (n / 256 ^ k % 256))) = bvals (fx (k + 1) n) ++ List.replicate (s - (k + 1)) (Value.int .u8 0) := by
  have hl : (bvals (fx k n)).length = k := by rw [bvals_length, fx_len]
  rw [List.set_append_right _ _ (by omega), hl, Nat.sub_self, fx_snoc, bvals_append, List.append_assoc]
  congr 1
  obtain ⟨d, hd⟩ : ∃ d, s - k = d + 1 := ⟨s - k - 1, by omega⟩
  have : s - (k + 1) = d := by omega
  rw [hd, this]
  simp [List.replicate_succ, bvals]
theorem shr_byte (n k : Nat) (x : Int) (hx : x = (n : Int) / 2 ^ (8 * k)) : Value.int .u8 (x % 256) = bval (UInt8.ofNat (n / 256 ^ k % 256)) := by
  have e : (2 : Nat) ^ (8 * k) = 256 ^ k := by rw [Nat.pow_mul]
  rw [← u8_of _ (by omega), ← e, hx]
  simp

set_option maxRecDepth 100000 in
set_option maxHeartbeats 800000 in
theorem fixed_any (w : World) (n s : Nat) (hn : n < 18446744073709551616) (hs : s ≤ 8) :
    Calls Try.prog 50 #[.int .u64 (n : Int), .int .i64 (s : Int)] w fun e w' => ∃ v', e = .returned v' ∧ w'.ownsRow w.heap.size 5 1 v' (fx s n).length (bvals (fx s n)) ∧ Below w.heap.size w w' := by
  obtain ⟨i0, hi, hz0, hz1, hz2⟩ := info_parts Try.infoU8
  have HN : Hid (n < 18446744073709551616) := hn
  clear hn
  go_enter Try.func50, Try.ntmps50
  go_wp2_with (at_make; refine wpList_make_full w rfl _ _ 31 rfl w.heap.size 5 i0 (.int .u8 0) 1 Try.underlying31 hi hz0 hz1 .i64 .i64 _ _ s rfl rfl rfl rfl (by rw [hz2]; omega) (by unfold maxLen; omega) (Nat.le_refl _) ?_)
  intro w1 ho1 hg1
  have hb1 : Below w.heap.size w w1 := (Below.refl _ _).grown hg1 (Nat.le_refl _) (fun k hk => by simp at hk)
  clear hg1
  go_wp2
  go_loopw [11] (fun i wr => ∃ k : Nat, k ≤ s ∧ i = .int .i64 k ∧ wr.ownsRow w.heap.size 5 1 (.slice (some ⟨w.heap.size, 0, none⟩) s s) s (bvals (fx k n) ++ List.replicate (s - k) (.int .u8 0)) ∧ Below w.heap.size w wr) (fun i _ => s - (intOf i).toNat)
  case atStart =>
    refine ⟨0, Nat.zero_le _, rfl, ?_, hb1⟩
    simpa [bvals, fx, toList_madeCells_one, Value.cells] using ho1
  case round =>
    clear ho1 hb1
    obtain ⟨k, hk, rfl, ho, hb⟩ := hrel
    by_cases hlt : k < s
    · have hc1 : (wr.cell? ⟨w.heap.size, k, none⟩).isSome = true := by
        rw [ho.cellAt k (by omega)]; simp [bvals, fx_len]; omega
      obtain ⟨v0, hc⟩ := Option.isSome_iff_exists.1 hc1
      have hf := ho.frozenAt k
      clear hc1
      go_wp2
      go_roundw
      case rel =>
        refine ⟨k + 1, by omega, by go_num, ?_, hb.setCell (Nat.le_refl _) _⟩
        have hst := (ho.stored k (bval (UInt8.ofNat (n / 256 ^ k % 256)))).1
        rw [set_fx s k n hlt] at hst
        rw [shr_byte n k _ rfl]
        exact hst
      case measure => simp [intOf]; omega
    · obtain rfl : k = s := by omega
      go_wp2
      go_ret
      refine ⟨_, rfl, ?_, hb⟩
      rw [fx_len]
      simpa using ho
theorem fixed32_any (w : World) (n : Int) (h0 : 0 ≤ n) (hn : n < 4294967296) :
    Calls Try.prog 28 #[.int .u32 n] w fun e w' => ∃ v', e = .returned v' ∧ w'.ownsRow w.heap.size 5 1 v' (fx 4 n.toNat).length (bvals (fx 4 n.toNat)) ∧ Below w.heap.size w w' := by
  obtain ⟨n, rfl⟩ := Int.eq_ofNat_of_zero_le h0
  rw [Int.toNat_natCast]
  go_enter Try.func28, Try.ntmps28
  go_wp2_with fail
  refine (fixed_any w n 4 (by omega) (by omega)).mono ?_
  rintro e w' ⟨v', rfl, ho, hb⟩
  go_wp2
  go_ret
  exact ⟨_, rfl, ho, hb⟩
end Go.Proofs.Ytdhjlongdfgejaa
