/-
  Package series: a number's lowest bits, a difference put into a sink; its end; what a list of numbers is packed as.
-/
import Derived.Test.YtojohcckaklmpaaDoorSk2
namespace Go.Proofs.YtojohcckaklmpaaDoor.Sr
open Go.RowKit
set_option maxRecDepth 100000
set_option linter.unusedVariables false

set_option maxHeartbeats 4000000 in
theorem put_any (w : World) (base p : Nat) (l0 : List UInt8) (B : List Nat) (n W : Nat) (hn : n < 18446744073709551616) (hW : W ≤ 64) (hs : Took w base p l0 B) (hb : base ≤ p) (hl : l0.length ≤ 10) (hB : B.length + 64 ≤ 1000000) :
    Calls Tryd.prog 23 #[.pointer (some ⟨p, 0, none⟩), .int .u64 (n : Int), .int .i64 (W : Int)] w fun e w' => e = .returned (.tuple #[]) ∧ Took w' base p l0 (B ++ bitsOf n W) ∧ Below base w w' := by
  replace hs : Hid (Took w base p l0 B) := hs
  go_enter Tryd.func23, Tryd.ntmps23
  go_wp2_with fail
  go_loopw [6] (fun v wr => ∃ (k : Nat) (B' : List Nat), k ≤ W ∧ v = .int .i64 ((k : Int) - 1) ∧ Hid (Took wr base p l0 B' ∧ Below base w wr) ∧ Hid (B ++ bitsOf n W = B' ++ bitsOf n k) ∧ B'.length + k = B.length + W) (fun v _ => (intOf v + 1).toNat)
  case atStart => exact ⟨W, B, Nat.le_refl _, by go_num, ⟨hs.out, Below.refl _ _⟩, rfl, rfl⟩
  case round =>
    obtain ⟨k, B', hk, rfl, hTB, he, hlen⟩ := hrel
    by_cases h0 : k = 0
    · subst h0
      go_wp2
      go_end0
      refine ⟨rfl, ?_, hTB.out.2⟩
      rw [he.out]
      simpa [bitsOf] using hTB.out.1
    · obtain ⟨j, rfl⟩ : ∃ j, k = j + 1 := ⟨k - 1, by omega⟩
      have hj : ((j + 1 : Nat) : Int) - 1 = (j : Int) := by omega
      rw [hj]
      have hj0 : (0 : Int) ≤ (j : Int) := by omega
      have hj1 : (j : Int) < 64 := by omega
      have hlt : n / 2 ^ j < 18446744073709551616 := Nat.lt_of_le_of_lt (Nat.div_le_self _ _) hn
      have hbit : Hid (∀ (q : World), Took q base p l0 B' → Calls Tryd.prog 43 #[.pointer (some ⟨p, 0, none⟩), .int .u64 ((n : Int) / 2 ^ j)] q fun e w' => e = .returned (.tuple #[]) ∧ Took w' base p l0 (B' ++ [n / 2 ^ j % 2]) ∧ Below base q w') := by
        intro q hq
        have := bit_any q base p l0 B' (n / 2 ^ j) hlt hq hb hl (by omega)
        rwa [show ((n / 2 ^ j : Nat) : Int) = (n : Int) / 2 ^ j by simp] at this
      clear hlt h0
      go_wp2_with fail
      refine (hbit.out _ hTB.out.1).mono ?_
      rintro e w2 ⟨rfl, hT2, hB2⟩
      have hTB2 : Hid (Took w2 base p l0 (B' ++ [n / 2 ^ j % 2]) ∧ Below base w w2) := ⟨hT2, hTB.out.2.trans hB2⟩
      clear hT2 hB2 hTB
      go_wp2_with fail
      go_roundw
      case rel =>
        refine ⟨j, B' ++ [n / 2 ^ j % 2], by omega, by go_num, hTB2, ?_, by simp; omega⟩
        show _ = _
        rw [he.out, bitsOf]; simp
      case measure => simp [intOf]
#print axioms put_any

theorem lz_any (w : World) (x : Nat) (hx : x < 18446744073709551616) : Calls Tryd.prog 44 #[.int .u64 (x : Int)] w fun e w' => e = .returned (.int .i64 ((64 - Lib.bitLen x : Nat) : Int)) ∧ w' = w := by
  have hle := (bitLen_S hx).le64 hx
  have hc := Rl.len64_any w x hx
  generalize Lib.bitLen x = L at *
  replace hc : Hid (Calls Tryd.prog 64 #[.int .u64 (x : Int)] w fun e w' => e = .returned (.int .i64 (L : Int)) ∧ w' = w) := hc
  go_enter Tryd.func44, Tryd.ntmps44
  go_wp2_with fail
  refine hc.out.mono ?_
  rintro e w1 ⟨rfl, rfl⟩
  go_wp2
  go_ret
  exact ⟨ret_int (by omega), rfl⟩
#print axioms lz_any
/-- The table that TrailingZeros64 looks into. -/
def Tab (w : World) : Prop := TabAt 1 Lib.deBruijn64tab w
set_option maxHeartbeats 1000000 in
theorem tz_core (x k idx : Nat) (w : World) (hx0 : ((x : Int) == 0) = false)
    (key : IntKind.u64.wrap (bits BinOp.and IntKind.u64 (x : Int) (IntKind.u64.wrap (-(x : Int))) * 285870213051353865) / 288230376151711744 = (idx : Int))
    (hi : idx < 64) (hk : k < 64) (hcell : w.cell? ⟨1, idx, none⟩ = some (.int .u8 k)) :
    Calls Tryd.prog 45 #[.int .u64 x] w fun e w' => e = .returned (.int .i64 k) ∧ w' = w := by
  go_enter Tryd.func45, Tryd.ntmps45
  go_wp2_with (simp only [key])
  go_ret
  exact ⟨rfl, rfl⟩
theorem tz_any (x : Nat) (hx : x < 18446744073709551616) (hx0 : x ≠ 0) (w : World) (hT : Tab w) :
    Calls Tryd.prog 45 #[.int .u64 (x : Int)] w fun e w' => e = .returned (.int .i64 (Lib.ctz 64 x : Int)) ∧ w' = w := by
  obtain ⟨hlow, hk⟩ := Lib.lowest_bit 64 x hx0 hx
  obtain ⟨hi, htab⟩ := Lib.deBruijn64_at _ hk
  have hcell := hT _ hi
  rw [htab] at hcell
  exact tz_core x _ _ w (by simp; omega) (tz64_key x _ hx hx0 hlow) hi hk hcell
#print axioms tz_any
theorem Tab.below {w w' : World} (h : Tab w) (hb : Below w.heap.size w w') : Tab w' := fun j hj => by rw [hb.cell (p := ⟨_, j, none⟩) (lt_of_cell (h j hj))]; exact h j hj
theorem Tab.below2 {w w' : World} {base : Nat} (h : Tab w) (hg : 1 < base) (hb : Below base w w') : Tab w' := fun j hj => by rw [hb.cell (p := ⟨_, j, none⟩) hg]; exact h j hj

set_option maxHeartbeats 4000000 in
theorem putDiff_any (w : World) (base p : Nat) (l0 : List UInt8) (B : List Nat) (x : Nat) (hx : x < 18446744073709551616) (hs : Took w base p l0 B) (hT : Tab w) (hg : 1 < base) (hb : base ≤ p) (hl : l0.length ≤ 10) (hB : B.length + 200 ≤ 1000000) :
    Calls Tryd.prog 24 #[.pointer (some ⟨p, 0, none⟩), .int .u64 (x : Int)] w fun e w' => e = .returned (.tuple #[]) ∧ Took w' base p l0 (B ++ diffB x) ∧ Below base w w' := by
  replace hs : Hid (Took w base p l0 B) := hs
  by_cases h0 : x = 0
  · subst h0
    go_enter Tryd.func24, Tryd.ntmps24
    go_wp2_with fail
    refine (bit_any _ base p l0 B 0 (by decide) hs.out hb hl (by omega)).mono ?_
    rintro e w2 ⟨rfl, hT2, hB2⟩
    go_wp2
    (try simp only [Exit.inBlock, Exit.then])
    refine bodyPost_ret (results_none rfl _ _ _) rfl ?_
    exact ⟨rfl, hT2, hB2⟩
  · obtain ⟨m, hm, htL, hL64, hd, hls⟩ := ends_of hx h0
    have hx0 : ((x : Int) == 0) = false := by simp; omega
    have hD : Hid (diffB x = 1 :: (bitsOf (64 - Lib.bitLen x) 6 ++ (bitsOf (Lib.bitLen x - Lib.ctz 64 x - 1) 6 ++ bitsOf (x / 2 ^ Lib.ctz 64 x) (Lib.bitLen x - Lib.ctz 64 x)))) := by
      show _ = _
      unfold diffB; rw [if_neg h0]
    have hlz : Hid (∀ q : World, Calls Tryd.prog 44 #[.int .u64 (x : Int)] q fun e w' => e = .returned (.int .i64 ((64 - Lib.bitLen x : Nat) : Int)) ∧ w' = q) := fun q => lz_any q x hx
    have htz : Hid (∀ q : World, Tab q → Calls Tryd.prog 45 #[.int .u64 (x : Int)] q fun e w' => e = .returned (.int .i64 (Lib.ctz 64 x : Int)) ∧ w' = q) := fun q hq => tz_any x hx h0 q hq
    have hxt : x / 2 ^ Lib.ctz 64 x < 18446744073709551616 := Nat.lt_of_le_of_lt (Nat.div_le_self _ _) hx
    generalize Lib.bitLen x = L at *
    generalize Lib.ctz 64 x = t at *
    replace hxt : Hid (x / 2 ^ t < 18446744073709551616) := hxt
    clear hm hd hls h0
    replace hx : Hid (x < 18446744073709551616) := hx
    obtain ⟨z, hz⟩ : ∃ z, Hid (64 - L = z) := ⟨_, rfl⟩
    obtain ⟨W, hW⟩ : ∃ W, Hid (L - t = W) := ⟨_, rfl⟩
    rw [hz.out] at hlz hD
    rw [hW.out] at hD
    have hz1 : (z : Int) ≤ 63 := by have := hz.out; omega
    have hz0 : (0 : Int) ≤ (z : Int) := by omega
    have ht0 : (0 : Int) ≤ (t : Int) := by omega
    have ht1 : (t : Int) ≤ 63 := by omega
    have hWI : 64 - (z : Int) - (t : Int) = (W : Int) := by have := hz.out; have := hW.out; omega
    have hW0 : (1 : Int) ≤ (W : Int) := by have := hW.out; omega
    have hW1 : (W : Int) ≤ 64 := by have := hW.out; omega
    clear htL hL64
    go_enter Tryd.func24, Tryd.ntmps24
    go_wp2_with fail
    refine (hlz.out _).mono ?_
    rintro e w1 ⟨rfl, rfl⟩
    go_wp2_with fail
    refine (htz.out _ hT).mono ?_
    rintro e w1 ⟨rfl, rfl⟩
    go_wp2_with fail
    refine (bit_any _ base p l0 B 1 (by decide) hs.out hb hl (by omega)).mono ?_
    rintro e w2 ⟨rfl, hT2, hB2⟩
    replace hT2 : Hid (Took w2 base p l0 (B ++ [1])) := hT2
    replace hB2 : Hid (Below base w1 w2) := hB2
    have hput1 : Hid (∀ q : World, Took q base p l0 (B ++ [1]) → Calls Tryd.prog 23 #[.pointer (some ⟨p, 0, none⟩), .int .u64 (z : Int), .int .i64 6] q fun e w' => e = .returned (.tuple #[]) ∧ Took w' base p l0 (B ++ [1] ++ bitsOf z 6) ∧ Below base q w') := fun q hq => put_any q base p l0 (B ++ [1]) z 6 (by omega) (by omega) hq hb hl (by simp; omega)
    have hput2 : Hid (∀ q : World, Took q base p l0 (B ++ [1] ++ bitsOf z 6) → Calls Tryd.prog 23 #[.pointer (some ⟨p, 0, none⟩), .int .u64 ((W : Int) - 1), .int .i64 6] q fun e w' => e = .returned (.tuple #[]) ∧ Took w' base p l0 (B ++ [1] ++ bitsOf z 6 ++ bitsOf (W - 1) 6) ∧ Below base q w') := by
      intro q hq
      have := put_any q base p l0 (B ++ [1] ++ bitsOf z 6) (W - 1) 6 (by omega) (by omega) hq hb hl (by simp; omega)
      rwa [show ((W - 1 : Nat) : Int) = (W : Int) - 1 by omega] at this
    have hput3 : Hid (∀ q : World, Took q base p l0 (B ++ [1] ++ bitsOf z 6 ++ bitsOf (W - 1) 6) → Calls Tryd.prog 23 #[.pointer (some ⟨p, 0, none⟩), .int .u64 ((x : Int) / 2 ^ t), .int .i64 (W : Int)] q fun e w' => e = .returned (.tuple #[]) ∧ Took w' base p l0 (B ++ [1] ++ bitsOf z 6 ++ bitsOf (W - 1) 6 ++ bitsOf (x / 2 ^ t) W) ∧ Below base q w') := by
      intro q hq
      have := put_any q base p l0 (B ++ [1] ++ bitsOf z 6 ++ bitsOf (W - 1) 6) (x / 2 ^ t) W hxt.out (by omega) hq hb hl (by simp; omega)
      rwa [show ((x / 2 ^ t : Nat) : Int) = (x : Int) / 2 ^ t by simp] at this
    go_wp2_with fail
    refine (hput1.out _ hT2.out).mono ?_
    rintro e w3 ⟨rfl, hT3, hB3⟩
    replace hT3 : Hid (Took w3 base p l0 (B ++ [1] ++ bitsOf z 6)) := hT3
    replace hB3 : Hid (Below base w1 w3) := hB2.out.trans hB3
    go_wp2_with fail
    refine (hput2.out _ hT3.out).mono ?_
    rintro e w4 ⟨rfl, hT4, hB4⟩
    replace hT4 : Hid (Took w4 base p l0 (B ++ [1] ++ bitsOf z 6 ++ bitsOf (W - 1) 6)) := hT4
    replace hB4 : Hid (Below base w1 w4) := hB3.out.trans hB4
    go_wp2_with fail
    refine (hput3.out _ hT4.out).mono ?_
    rintro e w5 ⟨rfl, hT5, hB5⟩
    replace hT5 : Hid (Took w5 base p l0 (B ++ diffB x)) := by
      show Took _ _ _ _ _
      rw [hD.out]
      simpa using hT5
    replace hB5 : Hid (Below base w1 w5) := hB4.out.trans hB5
    go_wp2
    go_end0
    exact ⟨rfl, hT5.out, hB5.out⟩
#print axioms putDiff_any
set_option maxHeartbeats 1000000 in
theorem end_any (w : World) (base p : Nat) (l0 : List UInt8) (B : List Nat) (hs : Took w base p l0 B) (hb : base ≤ p) (hl : l0.length ≤ 10) (hB : B.length ≤ 1000000) :
    Calls Tryd.prog 25 #[.pointer (some ⟨p, 0, none⟩)] w fun e w' => ∃ v m, e = .returned v ∧ Pk B m ∧ w'.ownsRow base 5 1 v (l0 ++ m).length (bvals (l0 ++ m)) ∧ Below base w w' := by
  obtain ⟨d, u, f, hs, hk⟩ := hs
  have hlen := hk.len
  obtain ⟨vd, k0, k1, k2, f0, f1, f2, ho, hne⟩ := hs.cells
  replace hk : Hid (Snk B d u f) := hk
  replace hs : Hid (Sink w base p (l0 ++ d) u f) := hs
  have hu : u < 256 := hk.out.2.1
  have hdl : (l0 ++ d).length + 1 ≤ 140737488355328 := by rw [List.length_append]; omega
  by_cases hf : f = 0
  · subst hf
    replace ho : Hid (w.ownsRow base 5 1 vd (l0 ++ d).length (bvals (l0 ++ d))) := ho
    clear hne k1 f0 f1 f2 hlen
    have k2' : w.cell? ⟨p, 2, none⟩ = some (.int .i64 0) := k2
    clear k2
    obtain ⟨ao, ca, hv⟩ := own_slice ho.out
    have hv' : Hid (vd = .slice ao (l0 ++ d).length ca) := hv
    rw [hv] at k0
    clear hv
    go_enter Tryd.func25, Tryd.ntmps25
    go_wp2
    go_ret
    refine ⟨_, d, rfl, hk.out.done0, ?_, Below.refl _ _⟩
    have := ho.out
    rw [hv'.out] at this
    simpa using this
  · have hf0 : (0 : Int) < (f : Int) := by omega
    clear ho hne k1 k0 f0 f1 f2 hlen
    have hpk : Hid (Pk B (d ++ [UInt8.ofNat u])) := hk.out.done (by omega)
    go_enter Tryd.func25, Tryd.ntmps25
    go_wp2_with fail
    refine (flush_any _ base p _ u _ hs.out hu hb hdl).mono ?_
    rintro e w3 ⟨rfl, hS3, hB3⟩
    obtain ⟨vd, k0, _, _, _, _, _, ho, _⟩ := hS3.cells
    replace ho : Hid (w3.ownsRow base 5 1 vd (l0 ++ d ++ [UInt8.ofNat u]).length (bvals (l0 ++ d ++ [UInt8.ofNat u]))) := ho
    obtain ⟨ao, ca, hv⟩ := own_slice ho.out
    have hv' : Hid (vd = .slice ao (l0 ++ d ++ [UInt8.ofNat u]).length ca) := hv
    rw [hv] at k0
    replace hB3 : Hid (Below base w w3) := hB3
    clear hv hS3 k2 hf
    go_wp2
    go_ret
    refine ⟨_, _, rfl, hpk.out, ?_, hB3.out⟩
    have := ho.out
    rw [hv'.out] at this
    simpa using this
#print axioms end_any
end Go.Proofs.YtojohcckaklmpaaDoor.Sr
