/-
  Package series: so many bits as a number.
-/
import Derived.Test.YtojohcckaklmpaaDoorSu
namespace Go.Proofs.YtojohcckaklmpaaDoor.Sr
open Go.RowKit
set_option maxRecDepth 100000
set_option linter.unusedVariables false

theorem Src.isB {w : World} {base q : Nat} {R : List Nat} (h : Src w base q R) : IsB R := by
  obtain ⟨A, u, k, _, rfl⟩ := h
  exact IsB.append (bitsOf_isB _ _) (unb_isB _)
theorem shl_or (n b : Nat) (hn : n < 9223372036854775808) (hb : b < 2) : bits .or .u64 (IntKind.u64.wrap ((n : Int) * 2)) (b : Int) = ((2 * n + b : Nat) : Int) := by
  rw [IntKind.wrap_u64, show (n : Int) * 2 % 18446744073709551616 = ((2 * n : Nat) : Int) by omega, u64_or_nat _ _ (by omega) (by omega)]
  congr 1
  have := Nat.two_pow_add_eq_or_of_lt (b := b) (i := 1) (by omega) n
  simpa using this.symm
theorem ofB_snoc (l : List Nat) (b : Nat) : ofB 0 (l ++ [b]) = 2 * ofB 0 l + b := by rw [ofB_append]; rfl
/-- What taking so many bits answers. -/
def TakeP (base q W : Nat) (R : List Nat) (e : Ending) (w' : World) : Prop :=
  if W ≤ R.length then e = .returned (.tuple #[.int .u64 ((ofB 0 (R.take W) : Nat) : Int), .bool true]) ∧ Src w' base q (R.drop W) else e = .returned (.tuple #[.int .u64 0, .bool false])
theorem TakeP.yes {base q W : Nat} {R : List Nat} {e : Ending} {w' : World} (h : TakeP base q W R e w') (hW : W ≤ R.length) : e = .returned (.tuple #[.int .u64 ((ofB 0 (R.take W) : Nat) : Int), .bool true]) ∧ Src w' base q (R.drop W) := by
  unfold TakeP at h; rwa [if_pos hW] at h
theorem TakeP.no {base q W : Nat} {R : List Nat} {e : Ending} {w' : World} (h : TakeP base q W R e w') (hW : R.length < W) : e = .returned (.tuple #[.int .u64 0, .bool false]) := by
  unfold TakeP at h; rwa [if_neg (by omega)] at h
set_option maxHeartbeats 4000000 in
theorem take_any (w : World) (base q W : Nat) (R : List Nat) (hs : Src w base q R) (hb : base ≤ q) (hW : W ≤ 64) :
    Calls Tryd.prog 77 #[.pointer (some ⟨q, 0, none⟩), .int .i64 (W : Int)] w fun e w' => TakeP base q W R e w' ∧ w.grownBy w' (some q) := by
  have hR := hs.isB
  replace hs : Hid (Src w base q R) := hs
  replace hR : Hid (IsB R) := hR
  go_enter Tryd.func77, Tryd.ntmps77
  go_wp2_with fail
  go_loopw [6, 10] (fun vn vi wr => ∃ i n : Nat, i ≤ W ∧ i ≤ R.length ∧ vi = .int .i64 (i : Int) ∧ vn = .int .u64 (n : Int) ∧ Hid (ofB 0 (R.take i) = n) ∧ Hid (Src wr base q (R.drop i)) ∧ Hid (w.grownBy wr (some q))) (fun _ v _ => W - (intOf v).toNat)
  case atStart => exact ⟨0, 0, by omega, by omega, rfl, rfl, rfl, hs, grown_refl _ _⟩
  case round =>
    obtain ⟨i, n, hi, hil, rfl, rfl, hn, hS, hB⟩ := hrel
    by_cases hiW : i = W
    · subst hiW
      go_wp2
      go_ret2
      refine ⟨?_, hB.out⟩
      unfold TakeP
      rw [if_pos hil, hn.out]
      exact ⟨rfl, hS.out⟩
    · have i1 : (i : Int) < (W : Int) := by omega
      by_cases hir : i = R.length
      · have hnil : R.drop i = [] := List.drop_eq_nil_of_le (by omega)
        have hS0 : Hid (Src wr base q []) := by have := hS.out; rwa [hnil] at this
        clear hS
        go_wp2_with fail
        refine (sbit_nil _ base q hS0.out).mono ?_
        rintro e w2 ⟨rfl, rfl⟩
        go_wp2
        go_ret2
        refine ⟨?_, hB.out⟩
        unfold TakeP
        rw [if_neg (by omega)]
        rfl
      · have hlt : i < R.length := by omega
        have hc : R.drop i = R[i] :: R.drop (i + 1) := List.drop_eq_getElem_cons hlt
        obtain ⟨b, hbv⟩ : ∃ b, Hid (R[i] = b) := ⟨R[i], rfl⟩
        have hb2 : b < 2 := by rw [← hbv.out]; exact hR.out _ (List.getElem_mem _)
        have hS1 : Hid (Src wr base q (b :: R.drop (i + 1))) := by have := hS.out; rwa [hc, hbv.out] at this
        have hn2 : n < 9223372036854775808 := by
          have h1 := ofB_lt0 (hR.out.take i) (n := i) (by rw [List.length_take]; omega)
          rw [hn.out] at h1
          have h2 : 2 ^ i ≤ 2 ^ 63 := Nat.pow_le_pow_right (by decide) (by omega)
          omega
        have hn3 : Hid (ofB 0 (R.take (i + 1)) = 2 * n + b) := by
          show _ = _
          rw [List.take_succ_eq_append_getElem hlt, ofB_snoc, hn.out, hbv.out]
        have hor := shl_or n b hn2 hb2
        obtain ⟨N, hN⟩ : ∃ N, Hid (2 * n + b = N) := ⟨_, rfl⟩
        rw [hN.out] at hn3 hor
        clear hS hn2 hb2 hc hir hiW
        go_wp2_with fail
        refine (sbit_some _ base q b _ hS1.out hb).mono ?_
        rintro e w2 ⟨rfl, hS2, hB2⟩
        replace hS2 : Hid (Src w2 base q (R.drop (i + 1))) := hS2
        replace hB2 : Hid (w.grownBy w2 (some q)) := grown_trans hB.out hB2
        clear hS1 hB
        go_wp2_with fail
        go_roundw
        case rel => exact ⟨i + 1, N, by omega, by omega, by go_num, rfl, hn3, hS2, hB2⟩
        case measure => simp [intOf]; omega
#print axioms take_any
end Go.Proofs.YtojohcckaklmpaaDoor.Sr
