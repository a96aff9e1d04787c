/-
  Package strconv: a number in base 16.
-/
import Derived.Test.YtenckagpaecnoaaDoorNmC
import Derived.BigRegion
import Derived.Lib.SlBuf
import Derived.Lib.BufferRead
import Derived.Lib.SlBytesRow
import Derived.Deep.CutRange
namespace Go.Proofs.YtenckagpaecnoaaDoor.Nm
open Go.RowKit
set_option maxRecDepth 100000
set_option linter.unusedVariables false

/-- What TrailingZeros64 looks up for 16. -/
def Tab16 (w : World) : Prop := w.cell? ⟨3, 15, none⟩ = some (.int .u8 4)
theorem Tab16.below {w w' : World} (h : Tab16 w) (hb : Below w.heap.size w w') : Tab16 w' := by
  show _ = _
  rw [hb.cell (p := ⟨_, 15, none⟩) (lt_of_cell h)]; exact h
theorem tz16 (w : World) (hT : Tab16 w) : Calls Tryd.prog 66 #[.int .u64 16] w fun e w' => e = .returned (.int .i64 4) ∧ w' = w := by
  have hc : w.cell? ⟨3, 15, none⟩ = some (.int .u8 4) := hT
  have key : IntKind.u64.wrap (bits BinOp.and IntKind.u64 (16 : Int) (IntKind.u64.wrap (-(16 : Int))) * 285870213051353865) / 288230376151711744 = (15 : Int) := by decide +kernel
  go_enter Tryd.func66, Tryd.ntmps66
  go_wp2_with (first | (go_in) | (simp only [key]))
  go_ret
  exact ⟨rfl, rfl⟩
/-- Block b holds 65 bytes, the last of them l. -/
structure Dgk (q : World) (b : Nat) (l : List UInt8) : Prop where
  ex : ∃ cs, q.heap[b]? = some (.cells cs 86 (0, 0)) ∧ cs.size = 65 ∧ (∀ j, j < 65 → ∃ z : Int, cs[j]? = some (.int .u8 z)) ∧ ∀ j (h : j < l.length), cs[65 - l.length + j]? = some (.int .u8 (l[j].toNat : Int))
  len : l.length ≤ 65
theorem Dgk.cell {q : World} {b : Nat} {l : List UInt8} (h : Dgk q b l) (j : Nat) (hj : j < 65) : ∃ z : Int, q.cell? ⟨b, j, none⟩ = some (.int .u8 z) := by
  obtain ⟨cs, h1, h2, h3, h4⟩ := h.ex
  obtain ⟨z, hz⟩ := h3 j hj
  exact ⟨z, by simp [World.cell?, h1, hz]⟩
theorem Dgk.frozen {q : World} {b : Nat} {l : List UInt8} (h : Dgk q b l) (j : Nat) : q.frozen? ⟨b, j, none⟩ = false := by
  obtain ⟨cs, h1, h2, h3, h4⟩ := h.ex
  simp [World.frozen?, h1]
theorem Dgk.drewN {q : World} {b : Nat} {l : List UInt8} (h : Dgk q b l) (n : Nat) : Dgk (q.drewN n) b l := ⟨h.ex, h.len⟩
theorem Dgk.put {q : World} {b : Nat} {l : List UInt8} (h : Dgk q b l) (c : UInt8) (hl : l.length < 65) : Dgk (q.setCell ⟨b, 64 - l.length, none⟩ (.int .u8 (c.toNat : Int))) b (c :: l) := by
  obtain ⟨cs, h1, h2, h3, h4⟩ := h.ex
  refine ⟨⟨_, heap_setCell_same q b _ cs _ _ h1, ?_, ?_, ?_⟩, by simp; omega⟩
  · simp [h2]
  · intro j hj
    by_cases e : j = 64 - l.length
    · subst e; exact ⟨_, Array.getElem?_setIfInBounds_self_of_lt (by omega)⟩
    · obtain ⟨z, hz⟩ := h3 j hj
      exact ⟨z, by rw [Array.getElem?_setIfInBounds_ne (by omega)]; exact hz⟩
  · intro j hj
    rcases j with _ | j
    · rw [show 65 - (c :: l).length + 0 = 64 - l.length by simp, Array.getElem?_setIfInBounds_self_of_lt (by omega)]
      rfl
    · rw [show 65 - (c :: l).length + (j + 1) = 65 - l.length + j by simp; omega, Array.getElem?_setIfInBounds_ne (by omega)]
      exact h4 j (by simpa using hj)
theorem Dgk.sl {q : World} {b : Nat} {l : List UInt8} (h : Dgk q b l) (c : Nat) (hc : l.length ≤ c) (hm : c ≤ maxLen) : Sl q (.slice (some ⟨b, 65 - l.length, none⟩) l.length c) l := by
  obtain ⟨cs, h1, h2, h3, h4⟩ := h.ex
  refine ⟨_, _, rfl, fun e => by simp at e, hc, hm, fun i hi => ⟨_, _, rfl, ?_⟩⟩
  simp only [World.cell?, h1]
  exact h4 i hi
theorem tabHd : ∀ d : Fin 16, (⟨#[48, 49, 50, 51, 52, 53, 54, 55, 56, 57, 97, 98, 99, 100, 101, 102, 103, 104, 105, 106, 107, 108, 109, 110, 111, 112, 113, 114, 115, 116, 117, 118, 119, 120, 121, 122]⟩ : ByteArray).data.toList[d.val]? = some (hd d.val) := by decide +kernel
theorem tabHd' (d : Nat) (h : d < 16) (h' : d < (⟨#[48, 49, 50, 51, 52, 53, 54, 55, 56, 57, 97, 98, 99, 100, 101, 102, 103, 104, 105, 106, 107, 108, 109, 110, 111, 112, 113, 114, 115, 116, 117, 118, 119, 120, 121, 122]⟩ : ByteArray).size) : (⟨#[48, 49, 50, 51, 52, 53, 54, 55, 56, 57, 97, 98, 99, 100, 101, 102, 103, 104, 105, 106, 107, 108, 109, 110, 111, 112, 113, 114, 115, 116, 117, 118, 119, 120, 121, 122]⟩ : ByteArray)[d] = hd d := by
  have := tabHd ⟨d, h⟩
  rw [List.getElem?_eq_getElem (by simp; omega)] at this
  exact Option.some.inj this
theorem conv_bs (w : World) (v : Value) (t : List UInt8) (h : Sl w v t) (h0 : 0 < t.length) : (convert 43 9 v).run Tryd.prog w = .ok (.string (bs t)) w := by
  obtain ⟨ao, c, rfl, h1, h2, h3, h4⟩ := h
  obtain ⟨b, off, rfl, _⟩ := h4 0 h0
  have hb : Lib.Bytes w b off (bs t) := fun i hi => by
    obtain ⟨b', off', e', hc⟩ := h4 i (by simpa [bs_size] using hi)
    simp only [Option.some.injEq, Addr.mk.injEq] at e'
    obtain ⟨rfl, rfl, _⟩ := e'
    rw [hc]
    rfl
  have := Lib.run_convert_window w 43 5 9 Tryd.underlying43 Tryd.underlying5 Tryd.underlying9 b off (bs t) hb 0 t.length c (by rw [bs_size]; omega)
  rw [Nat.add_zero] at this
  rw [this]
  congr 2
  apply ByteArray.ext
  simp [bs]
theorem pow_step {m j : Nat} (h1 : 16 ≤ m) (h2 : m < 16 ^ (16 - j)) (hj : j ≤ 15) : j ≤ 14 ∧ m / 16 < 16 ^ (16 - (j + 1)) := by
  have h3 : j ≤ 14 := by
    by_cases e : j = 15
    · subst e; simp at h2; omega
    · omega
  refine ⟨h3, ?_⟩
  rw [show 16 - j = (16 - (j + 1)) + 1 by omega, Nat.pow_succ] at h2
  exact Nat.div_lt_of_lt_mul (by rw [Nat.mul_comm]; exact h2)

set_option maxHeartbeats 4000000 in
theorem fmt16_any (w : World) (n : Nat) (hn : n < 18446744073709551616) (hT : Tab16 w) : Calls Tryd.prog 47 #[.slice none 0 0, .int .u64 (n : Int), .int .i64 16, .bool false, .bool false] w fun e w' => e = .returned (.tuple #[.slice none 0 0, .string (bs (digs n))]) ∧ Below w.heap.size w w' := by
  have hp : bits .and .i64 (16 : Int) (15 : Int) = 0 := by decide +kernel
  have ht := hide (fun q (hq : Tab16 q) => tz16 q hq)
  replace hT := hide hT
  replace hn := hide hn
  go_enter Tryd.func47, Tryd.ntmps47
  go_wp2_with (first | (go_at_call 66; refine (ht.out _ (hT.out.below (box_below _ _))).mono ?_; rintro e w' ⟨rfl, rfl⟩) | go_in)
  have D0 : Hid (Dgk (w.alloc (.cells (Array.replicate 65 (.int .u8 0)) 86)) w.heap.size []) := ⟨⟨_, heap_alloc_new _ _, by simp, fun j hj => ⟨0, by simp [hj]⟩, fun j h => by simp at h⟩, by simp⟩
  have B0 : Hid (Below w.heap.size w (w.alloc (.cells (Array.replicate 65 (.int .u8 0)) 86))) := box_below _ _
  go_loopw [13, 1] (fun i u wr => ∃ (k m : Nat) (l : List UInt8), i = .int .i64 ((k : Int) + 1) ∧ u = .int .u64 m ∧ k + l.length = 64 ∧ l.length ≤ 15 ∧ Hid (m < 16 ^ (16 - l.length)) ∧ Hid (digs n = digs m ++ l) ∧ Hid (Dgk wr w.heap.size l ∧ Below w.heap.size w wr)) (fun _ u _ => (intOf u).toNat)
  case atStart => exact ⟨64, n, [], by go_num, rfl, rfl, by simp, by have := hn.out; show _ < _; simpa using this, by show _ = _; simp, D0.out, B0.out⟩
  case round =>
    clear D0 B0 hT ht hp
    obtain ⟨k, m, l, rfl, rfl, hk, hl, hm, hdd, hD⟩ := hrel
    have k0 : (0 : Int) ≤ (k : Int) := by omega
    have k1 : (k : Int) < 65 := by omega
    obtain ⟨z, hz⟩ := hD.out.1.cell k (by omega)
    have hf := hD.out.1.frozen k
    have hm2 : m < 18446744073709551616 := by
      have := hm.out
      have := Nat.pow_le_pow_right (n := 16) (by omega) (show 16 - l.length ≤ 16 by omega)
      omega
    by_cases hbig : m < 16
    · have i1 : ¬ ((m : Int) ≥ 16) := by omega
      have m0 : (0 : Int) ≤ (m : Int) := by omega
      have m1 : (m : Int) < 36 := by omega
      clear hm2
      go_upto_region 30 with fail
      have hq := hD.out.1.put ((⟨#[48, 49, 50, 51, 52, 53, 54, 55, 56, 57, 97, 98, 99, 100, 101, 102, 103, 104, 105, 106, 107, 108, 109, 110, 111, 112, 113, 114, 115, 116, 117, 118, 119, 120, 121, 122]⟩ : ByteArray)[m]'(by simp [ByteArray.size]; omega)) (by omega)
      have hb := hD.out.2.setCell (p := ⟨w.heap.size, k, none⟩) (Nat.le_refl _) (.int .u8 (((⟨#[48, 49, 50, 51, 52, 53, 54, 55, 56, 57, 97, 98, 99, 100, 101, 102, 103, 104, 105, 106, 107, 108, 109, 110, 111, 112, 113, 114, 115, 116, 117, 118, 119, 120, 121, 122]⟩ : ByteArray)[m]'(by simp [ByteArray.size]; omega)).toNat : Int))
      rw [show 64 - l.length = k by omega] at hq
      revert hq hb
      generalize wr.setCell _ _ = q
      intro hq hb
      rw [tabHd' m (by omega)] at hq
      have kc := conv_bs q _ _ (hq.sl (65 - k) (by simp; omega) (by unfold maxLen; omega)) (by simp)
      rw [show (hd m :: l).length = 65 - k by simp; omega, show 65 - (65 - k) = k by omega, show hd m :: l = digs n by rw [hdd.out, digs_small hbig]; rfl] at kc
      replace hq := hide hq
      replace hb := hide hb
      clear hz hf hD hbig
      have k2 : (k : Int) ≤ 65 := by omega
      have k3 : ¬ (65 = k) := by omega
      go_wp2_with fail
      go_ret2
      exact ⟨rfl, hb.out⟩
    · have i1 : (m : Int) ≥ 16 := by omega
      have ha : bits .and .u64 (m : Int) (15 : Int) = ((m % 16 : Nat) : Int) := by
        have := bits_and_u64_nat m 15 hm2 (by omega)
        rw [show ((15 : Nat) : Int) = 15 from rfl] at this
        rw [this, show (15 : Nat) = 2 ^ 4 - 1 from rfl, Nat.and_two_pow_sub_one_eq_mod]
      obtain ⟨d, hdm⟩ : ∃ d, Hid (m % 16 = d) := ⟨_, rfl⟩
      rw [hdm.out] at ha
      have d1 : (d : Int) < 16 := by have := hdm.out; omega
      have d0 : (0 : Int) ≤ (d : Int) := by omega
      have m0 : (0 : Int) ≤ (m : Int) := by omega
      have hps := hide (pow_step (m := m) (j := l.length) (by omega) hm.out hl)
      have hdg := hide (digs_more hbig)
      clear hm2 hbig
      go_wp2_with fail
      go_roundw
      case rel =>
        have hp := hps.out
        have hq := hD.out.1.put ((⟨#[48, 49, 50, 51, 52, 53, 54, 55, 56, 57, 97, 98, 99, 100, 101, 102, 103, 104, 105, 106, 107, 108, 109, 110, 111, 112, 113, 114, 115, 116, 117, 118, 119, 120, 121, 122]⟩ : ByteArray)[d]'(by simp [ByteArray.size]; omega)) (by omega)
        rw [show 64 - l.length = k by omega] at hq
        refine ⟨k - 1, m / 16, _, by rw [show ((k - 1 : Nat) : Int) + 1 = (k : Int) by omega], by go_num, ?_, ?_, ?_, ?_, hq, hD.out.2.setCell (p := ⟨w.heap.size, k, none⟩) (Nat.le_refl _) _⟩
        · simp; omega
        · simp; omega
        · show _ < _; simpa using hp.2
        · show _ = _
          rw [hdd.out, hdg.out, tabHd' d (by omega), hdm.out]; simp
      case measure => simp [intOf]; omega
#print axioms fmt16_any
theorem format_any (w : World) (n : Nat) (hn : n < 9223372036854775808) (hT : Tab16 w) : Calls Tryd.prog 24 #[.int .i64 (n : Int), .int .i64 16] w fun e w' => e = .returned (.string (bs (digs n))) ∧ Below w.heap.size w w' := by
  have hf := hide (fmt16_any w n (by omega) hT)
  have n0 : ¬ (n : Int) < 0 := by omega
  have n1 : (n : Int) < 9223372036854775808 := by omega
  clear hn
  go_enter Tryd.func24, Tryd.ntmps24
  go_wp2_with (first | (go_at_call 47; refine hf.out.mono ?_; rintro e w' ⟨rfl, hb⟩) | go_in)
  go_ret
  exact ⟨rfl, hb⟩
#print axioms format_any
theorem mul1_any (w : World) (n : Nat) (hn : n ≤ 15) : Calls Tryd.prog 33 #[.int .u64 1, .int .u64 (n : Int)] w fun e w' => e = .returned (.tuple #[.int .u64 0, .int .u64 (n : Int)]) ∧ w' = w := by
  have hA : bits .and .u64 (1 : Int) 4294967295 = 1 := by decide +kernel
  have hB : bits .and .u64 (n : Int) 4294967295 = (n : Int) := by
    have := bits_and_u64_nat n 4294967295 (by omega) (by omega)
    rw [show ((4294967295 : Nat) : Int) = 4294967295 from rfl] at this
    rw [this, show (4294967295 : Nat) = 2 ^ 32 - 1 from rfl, Nat.and_two_pow_sub_one_eq_mod, Nat.mod_eq_of_lt (by omega)]
  have hC : (n : Int) / 4294967296 = 0 := by omega
  have hD : bits .and .u64 (0 : Int) 4294967295 = 0 := by decide +kernel
  have i0 : (0 : Int) ≤ (n : Int) := by omega
  have i1 : (n : Int) ≤ 15 := by omega
  clear hn
  go_enter Tryd.func33, Tryd.ntmps33
  go_wp2
  go_ret2
  exact ⟨rfl, rfl⟩
/-- Is p the front of s? -/
def hpB (s p : ByteArray) : Bool := decide (p.size ≤ s.size) && ((s.extract 0 p.size).toList == p.toList)
theorem hpB_any (s p : ByteArray) (w : World) : Calls Tryd.prog 34 #[.string s, .string p] w fun e w' => e = .returned (.bool (hpB s p)) ∧ w' = w := by
  go_enter Tryd.func34, Tryd.ntmps34
  go_wp2
  all_goals
    go_ret
    exact ⟨ret_bool (by simp [hpB, *]), rfl⟩
theorem zeros_take (n : Nat) (hn : n ≤ 15) : (⟨#[48, 48, 48, 48, 48, 48, 48, 48, 48, 48, 48, 48, 48, 48, 48, 48, 48, 48, 48, 48, 48, 48, 48, 48, 48, 48, 48, 48, 48, 48, 48, 48, 48, 48, 48, 48, 48, 48, 48, 48, 48, 48, 48, 48, 48, 48, 48, 48, 48, 48, 48, 48, 48, 48, 48, 48, 48, 48, 48, 48, 48, 48, 48, 48]⟩ : ByteArray).extract 0 n = bs (List.replicate n 48) := by
  have e : (⟨#[48, 48, 48, 48, 48, 48, 48, 48, 48, 48, 48, 48, 48, 48, 48, 48, 48, 48, 48, 48, 48, 48, 48, 48, 48, 48, 48, 48, 48, 48, 48, 48, 48, 48, 48, 48, 48, 48, 48, 48, 48, 48, 48, 48, 48, 48, 48, 48, 48, 48, 48, 48, 48, 48, 48, 48, 48, 48, 48, 48, 48, 48, 48, 48]⟩ : ByteArray) = ⟨(List.replicate 64 (48 : UInt8)).toArray⟩ := rfl
  rw [e]
  apply ByteArray.ext
  apply Array.toList_inj.1
  rw [bs_list, ext_take]
  simp only [List.take_replicate]
  congr 1
  omega
theorem repeat_any (w : World) (n : Nat) (hn : n ≤ 15) : Calls Tryd.prog 25 #[.string ⟨#[48]⟩, .int .i64 (n : Int)] w fun e w' => e = .returned (.string (bs (List.replicate n 48))) ∧ w' = w := by
  have : n = 0 ∨ n = 1 ∨ 2 ≤ n := by omega
  rcases this with rfl | rfl | h2
  · go_enter Tryd.func25, Tryd.ntmps25
    go_wp2
    go_ret
    exact ⟨rfl, rfl⟩
  · go_enter Tryd.func25, Tryd.ntmps25
    go_wp2
    go_ret
    exact ⟨rfl, rfl⟩
  · have i2 : (2 : Int) ≤ (n : Int) := by omega
    have i3 : (n : Int) ≤ 15 := by omega
    have i4 : ((n : Int) == 0) = false := by simp; omega
    have i5 : ((n : Int) == 1) = false := by simp; omega
    have e1 : hpB ⟨#[32, 32, 32, 32, 32, 32, 32, 32, 32, 32, 32, 32, 32, 32, 32, 32, 32, 32, 32, 32, 32, 32, 32, 32, 32, 32, 32, 32, 32, 32, 32, 32, 32, 32, 32, 32, 32, 32, 32, 32, 32, 32, 32, 32, 32, 32, 32, 32, 32, 32, 32, 32, 32, 32, 32, 32, 32, 32, 32, 32, 32, 32, 32, 32, 32, 32, 32, 32, 32, 32, 32, 32, 32, 32, 32, 32, 32, 32, 32, 32, 32, 32, 32, 32, 32, 32, 32, 32, 32, 32, 32, 32, 32, 32, 32, 32, 32, 32, 32, 32, 32, 32, 32, 32, 32, 32, 32, 32, 32, 32, 32, 32, 32, 32, 32, 32, 32, 32, 32, 32, 32, 32, 32, 32, 32, 32, 32, 32]⟩ ⟨#[48]⟩ = false := by decide +kernel
    have e2 : hpB ⟨#[45, 45, 45, 45, 45, 45, 45, 45, 45, 45, 45, 45, 45, 45, 45, 45, 45, 45, 45, 45, 45, 45, 45, 45, 45, 45, 45, 45, 45, 45, 45, 45, 45, 45, 45, 45, 45, 45, 45, 45, 45, 45, 45, 45, 45, 45, 45, 45, 45, 45, 45, 45, 45, 45, 45, 45, 45, 45, 45, 45, 45, 45, 45, 45, 45, 45, 45, 45, 45, 45, 45, 45, 45, 45, 45, 45, 45, 45, 45, 45, 45, 45, 45, 45, 45, 45, 45, 45, 45, 45, 45, 45, 45, 45, 45, 45, 45, 45, 45, 45, 45, 45, 45, 45, 45, 45, 45, 45, 45, 45, 45, 45, 45, 45, 45, 45, 45, 45, 45, 45, 45, 45, 45, 45, 45, 45, 45, 45]⟩ ⟨#[48]⟩ = false := by decide +kernel
    have e3 : hpB ⟨#[48, 48, 48, 48, 48, 48, 48, 48, 48, 48, 48, 48, 48, 48, 48, 48, 48, 48, 48, 48, 48, 48, 48, 48, 48, 48, 48, 48, 48, 48, 48, 48, 48, 48, 48, 48, 48, 48, 48, 48, 48, 48, 48, 48, 48, 48, 48, 48, 48, 48, 48, 48, 48, 48, 48, 48, 48, 48, 48, 48, 48, 48, 48, 48]⟩ ⟨#[48]⟩ = true := by decide +kernel
    have hm := hide (mul1_any w n hn)
    have hz := hide (zeros_take n hn)
    clear hn h2
    go_enter Tryd.func25, Tryd.ntmps25
    go_wp2_with (first | (go_at_call 33; refine hm.out.mono ?_; rintro e w' ⟨rfl, rfl⟩) | (go_at_call 34; refine (hpB_any _ _ _).mono ?_; rintro e w' ⟨rfl, rfl⟩))
    go_ret
    rw [← hz.out]
    exact ⟨rfl, rfl⟩
#print axioms repeat_any
/-- What Segment answers. -/
def segV (n : Int) : Value := if n < 1 then .tuple #[.string ⟨#[]⟩, .int .i64 1] else .tuple #[.string (bs (segL n.toNat)), .int .i64 0]
theorem segV_small {n : Int} (h : n < 1) : segV n = .tuple #[.string ⟨#[]⟩, .int .i64 1] := if_pos h
theorem segV_big {n : Nat} (h : 1 ≤ n) : segV (n : Int) = .tuple #[.string (bs (segL n)), .int .i64 0] := by rw [segV, if_neg (by omega)]; rfl
theorem bs_append (x y : List UInt8) : bs x ++ bs y = bs (x ++ y) := by
  apply ByteArray.ext
  apply Array.toList_inj.1
  simp [bs]
theorem segment_any (w : World) (n : Int) (hn : n < 9223372036854775808) (hT : Tab16 w) : Calls Tryd.prog 12 #[.int .i64 n] w fun e w' => e = .returned (segV n) ∧ Below w.heap.size w w' := by
  by_cases h1 : n < 1
  · rw [segV_small h1]
    go_enter Tryd.func12, Tryd.ntmps12
    go_wp2
    go_ret2
    exact ⟨rfl, Below.refl _ _⟩
  · obtain ⟨m, rfl⟩ : ∃ m : Nat, n = (m : Int) := ⟨n.toNat, by omega⟩
    rw [segV_big (by omega)]
    have hf := hide (format_any w m (by omega) hT)
    obtain ⟨h2, h3⟩ := digs_seg (n := m) (by omega)
    have h4 := digs_pos m
    have hr := hide (fun q => repeat_any q (16 - (digs m).length) (by omega))
    have hs := bs_size (digs m)
    obtain ⟨k, hk⟩ : ∃ k, k = 16 - (digs m).length := ⟨_, rfl⟩
    have hk2 : (16 : Int) - ((bs (digs m)).size : Int) = (k : Int) := by omega
    rw [← hk] at hr h3
    replace h3 := hide h3
    have hk3 : ((bs (digs m)).size : Int) ≤ 16 := by omega
    have hk4 : (0 : Int) ≤ ((bs (digs m)).size : Int) := by omega
    have hrs := bs_size (List.replicate k 48)
    rw [List.length_replicate] at hrs
    have s1 : ¬ 9223372036854775807 < 4 + (bs (List.replicate k 48)).size := by omega
    have s2 : ¬ 9223372036854775807 < 4 + (bs (List.replicate k 48)).size + (bs (digs m)).size := by omega
    have s3 : ¬ 9223372036854775807 < 4 + (bs (List.replicate k 48)).size + (bs (digs m)).size + 4 := by omega
    have hj : Hid ((⟨#[115, 101, 103, 45]⟩ : ByteArray) ++ bs (List.replicate k 48) ++ bs (digs m) ++ (⟨#[46, 108, 111, 103]⟩ : ByteArray) = bs (segL m)) := by
      show _ = _
      rw [← h3.out, ← bs_append, ← bs_append, ← bs_append]
      rfl
    clear hs h2 h4 hk hn hrs h3
    go_enter Tryd.func12, Tryd.ntmps12
    go_wp2_with (first | (go_at_call 24; refine hf.out.mono ?_; rintro e w' ⟨rfl, hb⟩) | (go_at_call 25; refine (hr.out _).mono ?_; rintro e w' ⟨rfl, rfl⟩))
    go_ret2
    rw [← hj.out]
    exact ⟨rfl, hb⟩
#print axioms segment_any
end Go.Proofs.YtenckagpaecnoaaDoor.Nm
