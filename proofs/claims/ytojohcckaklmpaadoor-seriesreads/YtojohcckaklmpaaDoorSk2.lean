/-
  Package series: a bit, a number's lowest bits, a difference put into a sink; its end.
-/
import Derived.Test.YtojohcckaklmpaaDoorSk
import Derived.Test.YtojohcckaklmpaaDoorRlL
import Derived.Shelf.Spec.TrailingZeros
namespace Go.Proofs.YtojohcckaklmpaaDoor.Sr
open Go.RowKit
set_option maxRecDepth 100000
set_option linter.unusedVariables false

theorem or_all : ∀ (u : Fin 256) (f : Fin 8) (b : Fin 2), u.val % 2 ^ (8 - f.val) = 0 → bits .or .u8 (u.val : Int) ((b.val * 2 ^ (7 - f.val) : Nat) : Int) = ((u.val + b.val * 2 ^ (7 - f.val) : Nat) : Int) := by decide +kernel
theorem or_in {u f b : Nat} (hu : u < 256) (hf : f < 8) (hb : b < 2) (h : u % 2 ^ (8 - f) = 0) : bits .or .u8 (u : Int) ((b * 2 ^ (7 - f) : Nat) : Int) = ((u + b * 2 ^ (7 - f) : Nat) : Int) := or_all ⟨u, hu⟩ ⟨f, hf⟩ ⟨b, hb⟩ h
theorem and_one (n : Nat) (hn : n < 18446744073709551616) : bits .and .u64 (n : Int) 1 = ((n % 2 : Nat) : Int) := by
  have h := bits_and_u64_nat n 1 hn (by omega)
  rw [show (1 : Nat) = 2 ^ 1 - 1 by omega, Nat.and_two_pow_sub_one_eq_mod] at h
  exact h
/-- The sink at block p has taken the bits B behind the bytes l0. -/
def Took (w : World) (base p : Nat) (l0 : List UInt8) (B : List Nat) : Prop := ∃ d u f, Sink w base p (l0 ++ d) u f ∧ Snk B d u f
theorem Snk.len {B : List Nat} {d : List UInt8} {u f : Nat} (h : Snk B d u f) : 8 * d.length + f = B.length := by
  obtain ⟨_, _, _, rfl⟩ := h; simp
set_option maxHeartbeats 4000000 in
theorem bit_any (w : World) (base p : Nat) (l0 : List UInt8) (B : List Nat) (n : Nat) (hn : n < 18446744073709551616) (hs : Took w base p l0 B) (hb : base ≤ p) (hl : l0.length ≤ 10) (hB : B.length ≤ 1000000) :
    Calls Tryd.prog 43 #[.pointer (some ⟨p, 0, none⟩), .int .u64 (n : Int)] w fun e w' => e = .returned (.tuple #[]) ∧ Took w' base p l0 (B ++ [n % 2]) ∧ Below base w w' := by
  obtain ⟨d, u, f, hs, hk⟩ := hs
  have hlen := hk.len
  obtain ⟨vd, k0, k1, k2, f0, f1, f2, ho, hne⟩ := hs.cells
  have ha := and_one n hn
  have hor := or_in hk.2.1 hk.1 (Nat.mod_lt n (by decide : 2 > 0)) hk.2.2.1
  obtain ⟨b, hbn⟩ : ∃ b, Hid (n % 2 = b) := ⟨_, rfl⟩
  have hb2 : b = 0 ∨ b = 1 := by have := hbn.out; omega
  rw [hbn.out] at ha hor ⊢
  replace hk : Hid (Snk B d u f) := hk
  replace hs : Hid (Sink w base p (l0 ++ d) u f) := hs
  have hf8 : f < 8 := hk.out.1
  have hu : u < 256 := hk.out.2.1
  clear ho hne hn
  have i1 : (f : Int) + 1 ≤ 8 := by omega
  have i0 : (0 : Int) ≤ (f : Int) := by omega
  have hor2 : bits .or .u8 (u : Int) ((b : Int) % 256 * 2 ^ (7 - f) % 256) = ((u + b * 2 ^ (7 - f) : Nat) : Int) := by
    rw [← hor]
    congr 1
    have hp : b * 2 ^ (7 - f) < 256 := by
      have h1 : 2 ^ (7 - f) ≤ 2 ^ 7 := Nat.pow_le_pow_right (by decide) (by omega)
      have h2 : b * 2 ^ (7 - f) ≤ 1 * 2 ^ (7 - f) := Nat.mul_le_mul_right _ (by omega)
      omega
    have h3 : (b : Int) % 256 = (b : Int) := by omega
    have h4 : (b : Int) * 2 ^ (7 - f) = ((b * 2 ^ (7 - f) : Nat) : Int) := by simp
    rw [h3, h4]; omega
  obtain ⟨U, hU⟩ : ∃ U, Hid (u + b * 2 ^ (7 - f) = U) := ⟨_, rfl⟩
  rw [hU.out] at hor2
  clear hor
  have hmore := fun hf => hk.out.more (b := b) (by omega) hf
  have hfull : f = 7 → Snk (B ++ [b]) (d ++ [UInt8.ofNat (u + b)]) 0 0 ∧ u + b < 256 := fun e => by subst e; exact hk.out.full (by omega)
  replace hmore : Hid _ := hmore
  replace hfull : Hid _ := hfull
  obtain ⟨w1, hw1⟩ : ∃ w1, w1 = w.setCell ⟨p, 2, none⟩ (.int .i64 ((f : Int) + 1)) := ⟨_, rfl⟩
  have hS1 : Hid (Sink w1 base p (l0 ++ d) u (f + 1)) := by rw [hw1]; exact hs.out.set2 (f + 1)
  have hB1 : Hid (Below base w w1) := by rw [hw1]; exact below_set (Below.refl _ _) hb _
  obtain ⟨vd', q0, q1, q2, g0, g1, g2, _, _⟩ := hS1.out.cells
  have q2' : w1.cell? ⟨p, 2, none⟩ = some (.int .i64 ((f : Int) + 1)) := q2
  clear q2 q0 g0 hb2
  go_enter Tryd.func43, Tryd.ntmps43
  go_wp2_with fail
  rw [← hw1]
  replace hw1 : Hid _ := hw1
  clear k0 k1 k2 f0 f1 f2
  go_region
  have hS2 : Sink (w1.setCell ⟨p, 1, none⟩ (.int .u8 (U : Int))).drew base p (l0 ++ d) U (f + 1) := (hS1.out.set1 U).drew
  have hB2 : Below base w (w1.setCell ⟨p, 1, none⟩ (.int .u8 (U : Int))).drew := (below_set hB1.out hb _).drew
  generalize (w1.setCell ⟨p, 1, none⟩ (.int .u8 (U : Int))).drew = w2 at *
  clear hS1 hB1 q1 g1 g2 q2' hor2 hs hw1 ha
  replace hS2 : Hid (Sink w2 base p (l0 ++ d) U (f + 1)) := hS2
  replace hB2 : Hid (Below base w w2) := hB2
  obtain ⟨vd2, q0, q1, q2, g0, g1, g2, ho2, hne2⟩ := hS2.out.cells
  have q2' : w2.cell? ⟨p, 2, none⟩ = some (.int .i64 ((f : Int) + 1)) := q2
  clear q2 ho2 hne2 q0 q1 g0 g1 g2
  have h7 : f = 7 ∨ f < 7 := by omega
  rcases h7 with h7 | h7
  · obtain ⟨hf1, hf2⟩ := hfull.out h7
    clear hmore hfull
    have e8 : (f : Int) + 1 = 8 := by omega
    rw [e8] at q2'
    have hU2 : Hid (U = u + b) := by show _ = _; rw [← hU.out, h7]; simp
    have hdl : (l0 ++ d).length + 1 ≤ 140737488355328 := by rw [List.length_append]; omega
    replace hf1 : Hid (Snk (B ++ [b]) (d ++ [UInt8.ofNat (u + b)]) 0 0) := hf1
    have hUl : U < 256 := by rw [hU2.out]; exact hf2
    clear h7 e8 i0 i1 hf8 hf2
    go_wp2_with fail
    refine (flush_any _ base p _ U _ hS2.out hUl hb hdl).mono ?_
    rintro e w3 ⟨rfl, hS3, hB3⟩
    go_wp2
    go_end0
    refine ⟨rfl, ⟨d ++ [UInt8.ofNat U], 0, 0, by rw [← List.append_assoc]; exact hS3, by rw [hU2.out]; exact hf1.out⟩, hB2.out.trans hB3⟩
  · have hm := hmore.out (by omega)
    rw [hU.out] at hm
    replace hm : Hid (Snk (B ++ [b]) d U (f + 1)) := hm
    have e8 : ((f : Int) + 1 == 8) = false := by simp; omega
    clear hmore hfull i1 i0 hf8 h7
    go_wp2
    go_end0
    exact ⟨rfl, ⟨d, U, f + 1, hS2.out, hm.out⟩, hB2.out⟩
#print axioms bit_any
end Go.Proofs.YtojohcckaklmpaaDoor.Sr
