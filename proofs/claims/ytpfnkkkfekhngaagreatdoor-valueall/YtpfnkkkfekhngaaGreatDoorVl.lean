/-
  Keys put behind bytes: appendEight, and the plain kinds.
-/
import Derived.Test.YtpfnkkkfekhngaaGreatDoorVq
namespace Go.Proofs.YtpfnkkkfekhngaaGreatDoor.Va
open Go.RowKit Go.Proofs.YtpfnkkkfekhngaaGreatDoor.Rl
set_option maxRecDepth 100000

theorem big_step (j n : Nat) : bigN (j + 1) (n % 256 ^ (j + 1)) = UInt8.ofNat (n / 256 ^ j) :: bigN j (n % 256 ^ j) := by
  rw [bigN]
  congr 1
  · apply UInt8.toNat_inj.1
    simp only [UInt8.toNat_ofNat', Nat.reducePow]
    rw [Nat.pow_succ, Nat.mod_mul_right_div_self]
    omega
  · rw [Nat.pow_succ, Nat.mod_mul_right_mod]
theorem byte_is (m : Nat) : Value.int .u8 ((m : Int) % 256) = bval (UInt8.ofNat m) := by
  unfold bval
  simp only [UInt8.toNat_ofNat', Nat.reducePow]
  rfl
/-- What putting bytes behind own ones comes to. -/
def Puts (base : Nat) (w : World) (l : List UInt8) (e : Ending) (w' : World) : Prop := ∃ v', e = .returned v' ∧ w'.ownsRow base 5 1 v' l.length (bvals l) ∧ Below base w w'
theorem Sl.one (w : World) (c : UInt8) (T : TypeId) (u : Value) (h : u = bval c) {B : Nat} (hB : B = w.heap.size := by first | rfl | simp) : Sl (w.alloc (.cells #[u] T)) (.slice (some ⟨B, 0, none⟩) 1 1) [c] := by
  subst h hB
  exact Sl.new w [c] T _ (by simp [bvals]) 1 rfl (by simp [maxLen])
theorem Sl.two (w : World) (c d : UInt8) (T : TypeId) (u v : Value) (h : u = bval c) (h' : v = bval d) {B : Nat} (hB : B = w.heap.size := by first | rfl | simp) : Sl (w.alloc (.cells #[u, v] T)) (.slice (some ⟨B, 0, none⟩) 2 2) [c, d] := by
  subst h h' hB
  exact Sl.new w [c, d] T _ (by simp [bvals]) 2 rfl (by simp [maxLen])
set_option maxHeartbeats 2000000 in
theorem appendEight_any (w : World) (base : Nat) (v : Value) (l : List UInt8) (n : Nat) (hn : n < 18446744073709551616) (hbase : base ≤ w.heap.size)
    (hown : w.ownsRow base 5 1 v l.length (bvals l)) (hlen : l.length + 8 ≤ 140737488355328) :
    Calls Tryz.prog 122 #[v, .int .u64 (n : Int)] w (Puts base w (l ++ bigN 8 n)) := by
  replace hown : Hid (w.ownsRow base 5 1 v l.length (bvals l)) := hown
  have hn' : Hid (n < 18446744073709551616) := hn
  clear hn
  go_enter Tryz.func122, Tryz.ntmps122
  go_wp2_with fail
  go_loopw [0, 5] (fun v x wr => ∃ (j : Nat) (d : List UInt8), j ≤ 8 ∧ x = .int .i64 (8 * (j : Int) - 8) ∧ Hid (bigN 8 n = d ++ bigN j (n % 256 ^ j) ∧ d.length + j = 8) ∧ Hid (wr.ownsRow base 5 1 v (l ++ d).length (bvals (l ++ d)) ∧ Below base w wr)) (fun _ x _ => (intOf x + 8).toNat)
  case atStart => exact ⟨8, [], by omega, rfl, ⟨by rw [Nat.mod_eq_of_lt (by have := hn'.out; omega)]; rfl, rfl⟩, by simpa using hown.out, Below.refl _ _⟩
  case round =>
    obtain ⟨j, d, hj, rfl, hd, hw⟩ := hrel
    clear hown
    by_cases h0 : j = 0
    · subst h0
      have hd2 : Hid (d = bigN 8 n) := by show _ = _; rw [hd.out.1, bigN, List.append_nil]
      rename Value => v0
      go_wp2_with fail
      go_ret
      refine ⟨_, rfl, ?_, hw.out.2⟩
      rw [← hd2.out]
      exact hw.out.1
    · obtain ⟨i, rfl⟩ : ∃ i, j = i + 1 := ⟨j - 1, by omega⟩
      have hd3 : Hid (bigN 8 n = (d ++ [UInt8.ofNat (n / 256 ^ i)]) ++ bigN i (n % 256 ^ i) ∧ (d ++ [UInt8.ofNat (n / 256 ^ i)]).length + i = 8) := by
        refine ⟨by rw [hd.out.1, big_step]; simp, ?_⟩
        have := hd.out.2
        simp; omega
      have hdl : d.length ≤ 7 := by have := hd.out.2; omega
      have hsz := hw.out.2.size
      have hcases : i = 0 ∨ i = 1 ∨ i = 2 ∨ i = 3 ∨ i = 4 ∨ i = 5 ∨ i = 6 ∨ i = 7 := by omega
      rcases hcases with rfl | rfl | rfl | rfl | rfl | rfl | rfl | rfl
      · go_wp2_with (at_builtin; refine wpList_append_bytes rfl (.tmp 10) (.tmp 15) 40 rfl base 5 Tryz.infoU8 Tryz.underlying40 _ _ (l ++ d) [UInt8.ofNat (n / 256 ^ 0)] rfl (hw.out.1.alloc _) rfl (Sl.one _ _ _ _ (by rw [← byte_is]; simp)) (by simp; omega) (by simp; omega) ?_)
        intro v' w1 ho hb
        have hq : Hid (w1.ownsRow base 5 1 v' (l ++ (d ++ [UInt8.ofNat (n / 256 ^ 0)])).length (bvals (l ++ (d ++ [UInt8.ofNat (n / 256 ^ 0)]))) ∧ Below base w w1) := ⟨by simpa using ho, (hw.out.2.alloc (by omega) _).trans hb⟩
        clear ho hb hd
        go_wp2_with fail
        go_roundw
        case rel => exact ⟨0, _, by omega, by go_num, hd3.out, hq.out⟩
        case measure => simp [intOf]
      · go_wp2_with (at_builtin; refine wpList_append_bytes rfl (.tmp 10) (.tmp 15) 40 rfl base 5 Tryz.infoU8 Tryz.underlying40 _ _ (l ++ d) [UInt8.ofNat (n / 256 ^ 1)] rfl (hw.out.1.alloc _) rfl (Sl.one _ _ _ _ (by rw [← byte_is]; simp)) (by simp; omega) (by simp; omega) ?_)
        intro v' w1 ho hb
        have hq : Hid (w1.ownsRow base 5 1 v' (l ++ (d ++ [UInt8.ofNat (n / 256 ^ 1)])).length (bvals (l ++ (d ++ [UInt8.ofNat (n / 256 ^ 1)]))) ∧ Below base w w1) := ⟨by simpa using ho, (hw.out.2.alloc (by omega) _).trans hb⟩
        clear ho hb hd
        go_wp2_with fail
        go_roundw
        case rel => exact ⟨1, _, by omega, by go_num, hd3.out, hq.out⟩
        case measure => simp [intOf]
      · go_wp2_with (at_builtin; refine wpList_append_bytes rfl (.tmp 10) (.tmp 15) 40 rfl base 5 Tryz.infoU8 Tryz.underlying40 _ _ (l ++ d) [UInt8.ofNat (n / 256 ^ 2)] rfl (hw.out.1.alloc _) rfl (Sl.one _ _ _ _ (by rw [← byte_is]; simp)) (by simp; omega) (by simp; omega) ?_)
        intro v' w1 ho hb
        have hq : Hid (w1.ownsRow base 5 1 v' (l ++ (d ++ [UInt8.ofNat (n / 256 ^ 2)])).length (bvals (l ++ (d ++ [UInt8.ofNat (n / 256 ^ 2)]))) ∧ Below base w w1) := ⟨by simpa using ho, (hw.out.2.alloc (by omega) _).trans hb⟩
        clear ho hb hd
        go_wp2_with fail
        go_roundw
        case rel => exact ⟨2, _, by omega, by go_num, hd3.out, hq.out⟩
        case measure => simp [intOf]
      · go_wp2_with (at_builtin; refine wpList_append_bytes rfl (.tmp 10) (.tmp 15) 40 rfl base 5 Tryz.infoU8 Tryz.underlying40 _ _ (l ++ d) [UInt8.ofNat (n / 256 ^ 3)] rfl (hw.out.1.alloc _) rfl (Sl.one _ _ _ _ (by rw [← byte_is]; simp)) (by simp; omega) (by simp; omega) ?_)
        intro v' w1 ho hb
        have hq : Hid (w1.ownsRow base 5 1 v' (l ++ (d ++ [UInt8.ofNat (n / 256 ^ 3)])).length (bvals (l ++ (d ++ [UInt8.ofNat (n / 256 ^ 3)]))) ∧ Below base w w1) := ⟨by simpa using ho, (hw.out.2.alloc (by omega) _).trans hb⟩
        clear ho hb hd
        go_wp2_with fail
        go_roundw
        case rel => exact ⟨3, _, by omega, by go_num, hd3.out, hq.out⟩
        case measure => simp [intOf]
      · go_wp2_with (at_builtin; refine wpList_append_bytes rfl (.tmp 10) (.tmp 15) 40 rfl base 5 Tryz.infoU8 Tryz.underlying40 _ _ (l ++ d) [UInt8.ofNat (n / 256 ^ 4)] rfl (hw.out.1.alloc _) rfl (Sl.one _ _ _ _ (by rw [← byte_is]; simp)) (by simp; omega) (by simp; omega) ?_)
        intro v' w1 ho hb
        have hq : Hid (w1.ownsRow base 5 1 v' (l ++ (d ++ [UInt8.ofNat (n / 256 ^ 4)])).length (bvals (l ++ (d ++ [UInt8.ofNat (n / 256 ^ 4)]))) ∧ Below base w w1) := ⟨by simpa using ho, (hw.out.2.alloc (by omega) _).trans hb⟩
        clear ho hb hd
        go_wp2_with fail
        go_roundw
        case rel => exact ⟨4, _, by omega, by go_num, hd3.out, hq.out⟩
        case measure => simp [intOf]
      · go_wp2_with (at_builtin; refine wpList_append_bytes rfl (.tmp 10) (.tmp 15) 40 rfl base 5 Tryz.infoU8 Tryz.underlying40 _ _ (l ++ d) [UInt8.ofNat (n / 256 ^ 5)] rfl (hw.out.1.alloc _) rfl (Sl.one _ _ _ _ (by rw [← byte_is]; simp)) (by simp; omega) (by simp; omega) ?_)
        intro v' w1 ho hb
        have hq : Hid (w1.ownsRow base 5 1 v' (l ++ (d ++ [UInt8.ofNat (n / 256 ^ 5)])).length (bvals (l ++ (d ++ [UInt8.ofNat (n / 256 ^ 5)]))) ∧ Below base w w1) := ⟨by simpa using ho, (hw.out.2.alloc (by omega) _).trans hb⟩
        clear ho hb hd
        go_wp2_with fail
        go_roundw
        case rel => exact ⟨5, _, by omega, by go_num, hd3.out, hq.out⟩
        case measure => simp [intOf]
      · go_wp2_with (at_builtin; refine wpList_append_bytes rfl (.tmp 10) (.tmp 15) 40 rfl base 5 Tryz.infoU8 Tryz.underlying40 _ _ (l ++ d) [UInt8.ofNat (n / 256 ^ 6)] rfl (hw.out.1.alloc _) rfl (Sl.one _ _ _ _ (by rw [← byte_is]; simp)) (by simp; omega) (by simp; omega) ?_)
        intro v' w1 ho hb
        have hq : Hid (w1.ownsRow base 5 1 v' (l ++ (d ++ [UInt8.ofNat (n / 256 ^ 6)])).length (bvals (l ++ (d ++ [UInt8.ofNat (n / 256 ^ 6)]))) ∧ Below base w w1) := ⟨by simpa using ho, (hw.out.2.alloc (by omega) _).trans hb⟩
        clear ho hb hd
        go_wp2_with fail
        go_roundw
        case rel => exact ⟨6, _, by omega, by go_num, hd3.out, hq.out⟩
        case measure => simp [intOf]
      · go_wp2_with (at_builtin; refine wpList_append_bytes rfl (.tmp 10) (.tmp 15) 40 rfl base 5 Tryz.infoU8 Tryz.underlying40 _ _ (l ++ d) [UInt8.ofNat (n / 256 ^ 7)] rfl (hw.out.1.alloc _) rfl (Sl.one _ _ _ _ (by rw [← byte_is]; simp)) (by simp; omega) (by simp; omega) ?_)
        intro v' w1 ho hb
        have hq : Hid (w1.ownsRow base 5 1 v' (l ++ (d ++ [UInt8.ofNat (n / 256 ^ 7)])).length (bvals (l ++ (d ++ [UInt8.ofNat (n / 256 ^ 7)]))) ∧ Below base w w1) := ⟨by simpa using ho, (hw.out.2.alloc (by omega) _).trans hb⟩
        clear ho hb hd
        go_wp2_with fail
        go_roundw
        case rel => exact ⟨7, _, by omega, by go_num, hd3.out, hq.out⟩
        case measure => simp [intOf]
/-- append(own bytes, new bytes...). -/
theorem owns_name {w : World} {base e : Nat} {v : Value} {n : Nat} {k l : List UInt8} (h : w.ownsRow base e 1 v n (bvals k)) (hk : k = l) (hn : n = l.length) : w.ownsRow base e 1 v l.length (bvals l) := by
  subst hk hn
  exact h
theorem nilApp (w : World) (base : Nat) (b : Value) (l : List UInt8) (hbase : base ≤ w.heap.size) (hown : w.ownsRow base 5 1 b l.length (bvals l)) (hlen : l.length + 9 ≤ 140737488355328) :
    Calls Tryz.prog 105 #[.agg #[], b] w (Puts base w (l ++ [1])) := by
  replace hown : Hid (w.ownsRow base 5 1 b l.length (bvals l)) := hown
  go_enter Tryz.func105, Tryz.ntmps105
  go_wp2_with (at_builtin; refine wpList_append_bytes rfl (.tmp 5) (.tmp 6) 40 rfl base 5 Tryz.infoU8 Tryz.underlying40 _ _ l [1] rfl ((hown.out.alloc _).alloc _) rfl (Sl.one _ _ _ _ rfl) (by simp; omega) (by simp; omega) ?_)
  intro v' w1 ho hb
  have hq : Hid (w1.ownsRow base 5 1 v' (l ++ [1]).length (bvals (l ++ [1])) ∧ Below base w w1) := ⟨by simpa using ho, (((Below.refl _ _).alloc hbase _).alloc (by simp; omega) _).trans hb⟩
  clear ho hb
  go_wp2_with fail
  go_ret
  exact ⟨_, rfl, hq.out⟩
theorem boolApp (w : World) (base : Nat) (b : Value) (l : List UInt8) (n : Int) (hn : 0 ≤ n ∧ n ≤ 1) (hbase : base ≤ w.heap.size) (hown : w.ownsRow base 5 1 b l.length (bvals l)) (hlen : l.length + 9 ≤ 140737488355328) :
    Calls Tryz.prog 110 #[.int .i64 n, b] w (Puts base w (l ++ [2, UInt8.ofNat n.toNat])) := by
  replace hown : Hid (w.ownsRow base 5 1 b l.length (bvals l)) := hown
  have hcases : n = 0 ∨ n = 1 := by omega
  rcases hcases with rfl | rfl
  all_goals go_enter Tryz.func110, Tryz.ntmps110
  · go_wp2_with (at_builtin; refine wpList_append_bytes rfl (.tmp 5) (.tmp 8) 40 rfl base 5 Tryz.infoU8 Tryz.underlying40 _ _ l [2, 0] rfl (hown.out.alloc _) rfl (Sl.two _ _ _ _ _ _ rfl rfl) (by simp; omega) (by simp; omega) ?_)
    intro v' w1 ho hb
    have hq : Hid (w1.ownsRow base 5 1 v' (l ++ [2, 0]).length (bvals (l ++ [2, 0])) ∧ Below base w w1) := ⟨by simpa using ho, ((Below.refl _ _).alloc hbase _).trans hb⟩
    clear ho hb
    go_wp2_with fail
    go_ret
    exact ⟨_, rfl, hq.out⟩
  · go_wp2_with (at_builtin; refine wpList_append_bytes rfl (.tmp 5) (.tmp 8) 40 rfl base 5 Tryz.infoU8 Tryz.underlying40 _ _ l [2, 1] rfl (hown.out.alloc _) rfl (Sl.two _ _ _ _ _ _ rfl rfl) (by simp; omega) (by simp; omega) ?_)
    intro v' w1 ho hb
    have hq : Hid (w1.ownsRow base 5 1 v' (l ++ [2, 1]).length (bvals (l ++ [2, 1])) ∧ Below base w w1) := ⟨by simpa using ho, ((Below.refl _ _).alloc hbase _).trans hb⟩
    clear ho hb
    go_wp2_with fail
    go_ret
    exact ⟨_, rfl, hq.out⟩
/-- The top bit inverted. -/
theorem top_xor {n : Int} (h0 : -9223372036854775808 ≤ n) (h1 : n ≤ 9223372036854775807) : bits .xor .u64 (n % 18446744073709551616) 9223372036854775808 = ((n + 9223372036854775808).toNat : Int) := by
  obtain ⟨a, ha⟩ : ∃ a : Nat, n % 18446744073709551616 = (a : Int) := ⟨(n % 18446744073709551616).toNat, by omega⟩
  have ha2 : a < 18446744073709551616 := by omega
  rw [ha]
  show IntKind.u64.wrap ((BitVec.ofInt 64 (a : Int) ^^^ BitVec.ofInt 64 ((9223372036854775808 : Nat) : Int)).toNat : Int) = _
  rw [BitVec.toNat_xor, ofInt64 a ha2, ofInt64 _ (by omega), IntKind.wrap_u64]
  have h3 : (a ^^^ 9223372036854775808) / 2 ^ 63 = a / 2 ^ 63 ^^^ 9223372036854775808 / 2 ^ 63 := Nat.xor_div_two_pow
  have h4 : (a ^^^ 9223372036854775808) % 2 ^ 63 = a % 2 ^ 63 ^^^ 9223372036854775808 % 2 ^ 63 := Nat.xor_mod_two_pow
  rw [show 9223372036854775808 % 2 ^ 63 = 0 by decide, Nat.xor_zero] at h4
  rw [show 9223372036854775808 / 2 ^ 63 = 1 by decide] at h3
  by_cases hlt : a < 9223372036854775808
  · rw [Nat.div_eq_of_lt (show a < 2 ^ 63 by omega), show (0 : Nat) ^^^ 1 = 1 by decide] at h3
    omega
  · rw [show a / 2 ^ 63 = 1 by omega, show (1 : Nat) ^^^ 1 = 0 by decide] at h3
    omega
theorem intApp (w : World) (base : Nat) (b : Value) (l : List UInt8) (n : Int) (h0 : -9223372036854775808 ≤ n) (h1 : n ≤ 9223372036854775807) (hbase : base ≤ w.heap.size) (hown : w.ownsRow base 5 1 b l.length (bvals l)) (hlen : l.length + 9 ≤ 140737488355328) :
    Calls Tryz.prog 117 #[.int .i64 n, b] w (Puts base w (l ++ 3 :: bigN 8 (n + 9223372036854775808).toNat)) := by
  replace hown : Hid (w.ownsRow base 5 1 b l.length (bvals l)) := hown
  have hx := top_xor h0 h1
  rw [← IntKind.wrap_u64] at hx
  have hm : Hid ((n + 9223372036854775808).toNat < 18446744073709551616) := by show _ < _; omega
  clear h0 h1
  obtain ⟨m, hm0⟩ : ∃ m, Hid ((n + 9223372036854775808).toNat = m) := ⟨_, rfl⟩
  rw [hm0.out] at hm hx ⊢
  go_enter Tryz.func117, Tryz.ntmps117
  go_wp2_with (at_builtin; refine wpList_append_bytes rfl (.tmp 5) (.tmp 6) 40 rfl base 5 Tryz.infoU8 Tryz.underlying40 _ _ l [3] rfl (hown.out.alloc _) rfl (Sl.one _ _ _ _ rfl) (by simp; omega) (by simp; omega) ?_)
  intro v' w1 ho hb
  have hq : Hid (w1.ownsRow base 5 1 v' (l ++ [3]).length (bvals (l ++ [3])) ∧ Below base w w1) := ⟨by simpa using ho, ((Below.refl _ _).alloc hbase _).trans hb⟩
  have hsz := hq.out.2.size
  clear ho hb
  have hce : Hid (Calls Tryz.prog 122 #[v', .int .u64 (m : Int)] w1 (Puts base w1 ((l ++ [3]) ++ bigN 8 m))) := appendEight_any w1 base v' (l ++ [3]) m hm.out (by omega) hq.out.1 (by simp; omega)
  go_wp2_with fail
  refine hce.out.mono ?_
  rintro e w2 ⟨v2, rfl, ho, hb⟩
  have hq2 : Hid (w2.ownsRow base 5 1 v2 (l ++ 3 :: bigN 8 m).length (bvals (l ++ 3 :: bigN 8 m)) ∧ Below base w w2) := ⟨by simpa using ho, hq.out.2.trans hb⟩
  clear ho hb
  go_wp2_with fail
  go_ret
  exact ⟨_, rfl, hq2.out⟩
theorem realApp (w : World) (base : Nat) (b : Value) (l : List UInt8) (r : Nat) (hr : r < 18446744073709551616) (hbase : base ≤ w.heap.size) (hown : w.ownsRow base 5 1 b l.length (bvals l)) (hlen : l.length + 9 ≤ 140737488355328) :
    Calls Tryz.prog 125 #[.float .f64 r, b] w (Puts base w (l ++ 4 :: bigN 8 (keyB r))) := by
  replace hown : Hid (w.ownsRow base 5 1 b l.length (bvals l)) := hown
  have hm : Hid (keyB r < 18446744073709551616) := keyB_lt hr
  have hk : Hid (∀ q, Calls Tryz.prog 130 #[.float .f64 r] q fun e w' => e = .returned (.int .u64 (keyB r : Int)) ∧ w' = q) := fun q => key_any q r hr
  obtain ⟨m, hm0⟩ : ∃ m, Hid (keyB r = m) := ⟨_, rfl⟩
  rw [hm0.out] at hm hk ⊢
  clear hr
  go_enter Tryz.func125, Tryz.ntmps125
  go_wp2_with (at_builtin; refine wpList_append_bytes rfl (.tmp 5) (.tmp 6) 40 rfl base 5 Tryz.infoU8 Tryz.underlying40 _ _ l [4] rfl (hown.out.alloc _) rfl (Sl.one _ _ _ _ rfl) (by simp; omega) (by simp; omega) ?_)
  intro v' w1 ho hb
  have hq : Hid (w1.ownsRow base 5 1 v' (l ++ [4]).length (bvals (l ++ [4])) ∧ Below base w w1) := ⟨by simpa using ho, ((Below.refl _ _).alloc hbase _).trans hb⟩
  have hsz := hq.out.2.size
  clear ho hb
  have hce : Hid (Calls Tryz.prog 122 #[v', .int .u64 (m : Int)] w1 (Puts base w1 ((l ++ [4]) ++ bigN 8 m))) := appendEight_any w1 base v' (l ++ [4]) m hm.out (by omega) hq.out.1 (by simp; omega)
  go_wp2_with fail
  refine (hk.out _).mono ?_
  rintro e _ ⟨rfl, rfl⟩
  go_wp2_with fail
  refine hce.out.mono ?_
  rintro e w2 ⟨v2, rfl, ho, hb⟩
  have hq2 : Hid (w2.ownsRow base 5 1 v2 (l ++ 4 :: bigN 8 m).length (bvals (l ++ 4 :: bigN 8 m)) ∧ Below base w w2) := ⟨by simpa using ho, hq.out.2.trans hb⟩
  clear ho hb
  go_wp2_with fail
  go_ret
  exact ⟨_, rfl, hq2.out⟩
end Go.Proofs.YtpfnkkkfekhngaaGreatDoor.Va
