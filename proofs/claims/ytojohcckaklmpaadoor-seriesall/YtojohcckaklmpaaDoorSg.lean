/-
  The document's own Pack: a number's lowest bits, a number's ends.
-/
import Derived.Test.YtojohcckaklmpaaDoorSp
namespace Go.Proofs.YtojohcckaklmpaaDoor.Sr
open Go.RowKit
set_option maxRecDepth 100000
set_option linter.unusedVariables false

/-- Bits as bytes. -/
def bb (l : List Nat) : List UInt8 := l.map UInt8.ofNat
theorem bb_append (l m : List Nat) : bb (l ++ m) = bb l ++ bb m := by simp [bb]
@[simp] theorem bb_len (l : List Nat) : (bb l).length = l.length := by simp [bb]
theorem bb_get (B : List Nat) (hB : IsB B) (i : Nat) (h : i < B.length) : ((bb B)[i]'(by simpa using h)).toNat = B[i] := by
  have := hB _ (List.getElem_mem h)
  unfold bb
  rw [List.getElem_map, UInt8.toNat_ofNat_of_lt' (by simp only [UInt8.size]; omega)]
theorem one_bit (b : Nat) (hb : b < 2) : Value.int .u8 (b : Int) = bval (UInt8.ofNat b) := u8_of b (by omega)
set_option maxHeartbeats 2000000 in
theorem rput_any (w : World) (base : Nat) (v : Value) (B : List Nat) (x W : Nat) (hx : x < 18446744073709551616) (hW : W ≤ 64) (hbase : base ≤ w.heap.size) (ho : w.ownsRow base 5 1 v B.length (bvals (bb B))) (hB : B.length + 64 ≤ 1000000) :
    Calls Tryd.prog 26 #[v, .int .u64 (x : Int), .int .i64 (W : Int)] w fun e w' => ∃ v', e = .returned v' ∧ w'.ownsRow base 5 1 v' (B ++ bitsOf x W).length (bvals (bb (B ++ bitsOf x W))) ∧ Below base w w' := by
  obtain ⟨i0, hi, hz0, hz1, hz2⟩ := info_parts Tryd.infoU8
  go_enter Tryd.func26, Tryd.ntmps26
  go_wp2_with fail
  go_loopw [0, 7] (fun vl v wr => ∃ (k : Nat) (B' : List Nat), k ≤ W ∧ v = .int .i64 ((k : Int) - 1) ∧ wr.ownsRow base 5 1 vl B'.length (bvals (bb B')) ∧ Hid (Below base w wr) ∧ Hid (B ++ bitsOf x W = B' ++ bitsOf x k) ∧ B'.length + k = B.length + W) (fun _ v _ => (intOf v + 1).toNat)
  case atStart => exact ⟨W, B, Nat.le_refl _, by go_num, ho, Below.refl _ _, rfl, rfl⟩
  case round =>
    clear ho
    obtain ⟨k, B', hk, rfl, ho, hbl, he, hlen⟩ := hrel
    by_cases h0 : k = 0
    · subst h0
      replace ho : Hid (wr.ownsRow base 5 1 u0 B'.length (bvals (bb B'))) := ho
      have he2 : Hid (B ++ bitsOf x W = B') := by show _ = _; have := he.out; simpa [bitsOf] using this
      go_wp2
      go_ret
      exact ⟨u0, rfl, by rw [he2.out]; exact ho.out, hbl.out⟩
    · obtain ⟨j, rfl⟩ : ∃ j, k = j + 1 := ⟨k - 1, by omega⟩
      have hj : ((j + 1 : Nat) : Int) - 1 = (j : Int) := by omega
      rw [hj]
      have hj0 : (0 : Int) ≤ (j : Int) := by omega
      have hj1 : (j : Int) < 64 := by omega
      have ha := and_one (x / 2 ^ j) (Nat.lt_of_le_of_lt (Nat.div_le_self _ _) hx)
      rw [show ((x / 2 ^ j : Nat) : Int) = (x : Int) / 2 ^ j by simp] at ha
      obtain ⟨b, hbv⟩ : ∃ b, Hid (x / 2 ^ j % 2 = b) := ⟨_, rfl⟩
      rw [hbv.out] at ha
      have hb2 : b < 2 := by rw [← hbv.out]; omega
      have hbs := hbl.out.size
      have hh1 : ∀ u ∈ [Value.int .u8 (b : Int)], u.oneCell' = true := by simp [Value.oneCell']
      have hh2 : B'.length + 1 ≤ maxLen := by unfold maxLen; omega
      have hh3 : (B'.length + 1) * 1 ≤ 140737488355328 := by omega
      go_wp2_with (at_builtin; refine wpList_append_own _ rfl (.tmp 14) (.tmp 20) 27 rfl base 5 i0 (.int .u8 0) 1 1 Tryd.underlying27 hi hz0 hz1 hz2 rfl (by decide) _ _ _ rfl (ho.alloc _) ⟨wr.heap.size, 0, none⟩ 1 1 [.int .u8 (b : Int)] rfl rfl (cell_one_new _ _ _) hh1 hh2 hh3 (by simp; omega) ?_)
      intro v' w2 ho2 hg2 _
      have hb3 : Hid (Below base w w2) := (hbl.out.alloc (by omega) _).grown hg2 (by simp; omega) (fun k hk => (ho.lt k hk).1)
      have ho3 : Hid (w2.ownsRow base 5 1 v' (B' ++ [b]).length (bvals (bb (B' ++ [b])))) := by
        rw [one_bit b hb2, bvals_one] at ho2
        rw [bb_append]
        show World.ownsRow _ _ _ _ _ _ _
        simpa [bb] using ho2
      clear ho ho2 hg2
      go_wp2_with fail
      go_roundw
      case rel =>
        refine ⟨j, B' ++ [b], by omega, by go_num, ho3.out, hb3, ?_, by simp; omega⟩
        show _ = _
        rw [he.out, bitsOf, hbv.out]; simp
      case measure => simp [intOf]
#print axioms rput_any
set_option maxHeartbeats 2000000 in
theorem ends_any (w : World) (x : Nat) (hx : x < 18446744073709551616) (h0 : x ≠ 0) :
    Calls Tryd.prog 27 #[.int .u64 (x : Int)] w fun e w' => e = .returned (.tuple #[.int .i64 ((64 - Lib.bitLen x : Nat) : Int), .int .i64 ((Lib.bitLen x - Lib.ctz 64 x : Nat) : Int)]) ∧ w' = w := by
  obtain ⟨m, hm, htL, hL64, hd, hls⟩ := ends_of hx h0
  have hLS := bitLen_S hx
  generalize Lib.bitLen x = L at *
  generalize Lib.ctz 64 x = t at *
  replace hLS : Hid (LenS x L) := hLS
  replace hm : Hid (x = 2 ^ t * (2 * m + 1)) := hm
  replace hx : Hid (x < 18446744073709551616) := hx
  clear hd hls
  go_enter Tryd.func27, Tryd.ntmps27
  go_wp2_with fail
  go_loopw [4] (fun v wr => ∃ f : Nat, f ≤ 63 ∧ v = .int .i64 (f : Int) ∧ Hid (x < 2 ^ (f + 1)) ∧ wr = w) (fun v _ => (intOf v).toNat)
  case atStart => exact ⟨63, by omega, rfl, by have := hx.out; show _ < _; omega, rfl⟩
  case round =>
    obtain ⟨f, hf, rfl, hxf, rfl⟩ := hrel
    have hf0 : (0 : Int) ≤ (f : Int) := by omega
    have hf1 : (f : Int) < 64 := by omega
    have hd : (x : Int) / 2 ^ f = ((x / 2 ^ f : Nat) : Int) := by simp
    by_cases hz : x / 2 ^ f = 0
    · have hz2 : ((x : Int) / 2 ^ f == 0) = true := by rw [hd, hz]; rfl
      have hfp : f ≠ 0 := by rintro rfl; simp at hz; exact h0 hz
      obtain ⟨g, rfl⟩ : ∃ g, f = g + 1 := ⟨f - 1, by omega⟩
      have hlt : Hid (x < 2 ^ (g + 1)) := by
        apply Nat.lt_of_not_le
        intro hle
        have : 0 < x / 2 ^ (g + 1) := Nat.div_pos hle (Nat.two_pow_pos _)
        omega
      obtain ⟨G, hG⟩ : ∃ G, Hid (g + 1 = G) := ⟨_, rfl⟩
      rw [hG.out] at hf hxf hf0 hf1 hz2 hd hz ⊢
      have hgi : (G : Int) - 1 = (g : Int) := by have := hG.out; omega
      clear hz hd hfp
      go_wp2_with fail
      go_roundw
      case rel => exact ⟨g, by have := hG.out; omega, by go_num, hlt, by trivial⟩
      case measure => simp [intOf]; have := hG.out; omega
    · have hz2 : ((x : Int) / 2 ^ f == 0) = false := by rw [hd]; simp only [beq_eq_false_iff_ne, ne_eq]; omega
      have hfL : f + 1 = L := by
        refine LenS.uniq ⟨hxf.out, Or.inr ?_⟩ hLS.out
        rw [Nat.add_sub_cancel]
        apply Nat.le_of_not_lt
        intro hlt
        exact hz (Nat.div_eq_of_lt hlt)
      replace hfL : Hid (f + 1 = L) := hfL
      clear hz hd
      go_wp2_with fail
      go_loopw [5] (fun v wr' => ∃ s : Nat, s ≤ t ∧ v = .int .i64 (s : Int) ∧ wr' = wr) (fun v _ => t - (intOf v).toNat)
      case atStart => exact ⟨0, by omega, rfl, rfl⟩
      case round =>
        obtain ⟨s, hs, rfl, hwr⟩ := hrel
        subst hwr
        have hs0 : (0 : Int) ≤ (s : Int) := by omega
        have hs1 : (s : Int) < 64 := by omega
        have ha := and_one (x / 2 ^ s) (Nat.lt_of_le_of_lt (Nat.div_le_self _ _) hx.out)
        rw [show ((x / 2 ^ s : Nat) : Int) = (x : Int) / 2 ^ s by simp] at ha
        by_cases hst : s = t
        · subst hst
          have hodd : x / 2 ^ s % 2 = 1 := by rw [hm.out, Nat.mul_div_cancel_left _ (Nat.two_pow_pos _)]; omega
          rw [hodd] at ha
          replace ha : bits .and .u64 ((x : Int) / 2 ^ s) 1 = 1 := ha
          clear hodd
          have hfL2 : (f : Int) + 1 = (L : Int) := by have := hfL.out; omega
          go_wp2
          go_ret2
          refine ⟨?_, rfl⟩
          simp
          omega
        · have heven : x / 2 ^ s % 2 = 0 := by
            obtain ⟨d, rfl⟩ : ∃ d, t = s + (d + 1) := ⟨t - s - 1, by omega⟩
            rw [hm.out, Nat.pow_add, Nat.mul_assoc, Nat.mul_div_cancel_left _ (Nat.two_pow_pos _), Nat.pow_succ, Nat.mul_comm (2 ^ d), Nat.mul_assoc, Nat.mul_mod_right]
          rw [heven] at ha
          replace ha : bits .and .u64 ((x : Int) / 2 ^ s) 1 = 0 := ha
          clear heven
          go_wp2_with fail
          go_roundw
          case rel => exact ⟨s + 1, by omega, by go_num, by trivial⟩
          case measure => simp [intOf]; omega
#print axioms ends_any
end Go.Proofs.YtojohcckaklmpaaDoor.Sr
