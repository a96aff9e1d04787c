/-
  The walk of RealAll.
-/
import Derived.Test.YtdjaekmndhhjgaaGreatDoorRlY
import Derived.Test.YtdjaekmndhhjgaaGreatDoorRlOf
namespace Go.Proofs.YtdjaekmndhhjgaaGreatDoor.Rl
open Go.RowKit
set_option maxRecDepth 100000

set_option maxHeartbeats 2000000 in
theorem all_walk (W : World) (v : Value) (l : List Int) (hL : Laid W) (hrow : Row W v (l.map (Value.int .u64))) (hwf : ∀ n ∈ l, (Lit.int .u64 n).wf = true) (hsz : l.length * 8 ≤ 140737488355328) :
    Calls Tryz.prog 3 #[v] W fun e w' => e = .returned (.bool true) ∧ Below W.heap.size W w' := by
  obtain ⟨us, hbs, hu, hlen⟩ := nats_of l hwf
  rw [hu] at hrow
  rw [← hlen] at hsz
  clear hu hlen hwf
  replace hbs : Hid (Bs us) := hbs
  go_enter Tryz.func3, Tryz.ntmps3
  go_wp2_with fail
  refine (begun_any _ hL).mono ?_
  rintro e w1 ⟨rfl, hb1⟩
  have hrow1 := Below.row hb1 hrow
  replace hb1 : Hid (Below W.heap.size W w1) := hb1
  clear hL
  go_wp2_with fail
  refine (of_any _ v us hrow1 hsz).mono ?_
  rintro e w2 ⟨v2, rfl, ho2, hb2⟩
  have hb3 : Hid (Below W.heap.size W w2) := hb1.out.trans (hb2.mono hb1.out.size)
  have hr2 := Row.of_owns ho2
  have hrow2 := Below.row hb2 hrow1
  clear ho2 hb2 hb1 hrow1 hrow
  obtain ⟨ao, cap, rfl, _, _, _, h4⟩ := hr2
  obtain ⟨bo, cap2, rfl, _, _, _, g4⟩ := hrow2
  have hfl : (fvals us).length = us.length := by simp [fvals]
  have hul : (uvals us).length = us.length := by simp [uvals]
  have h4' : Hid (At w2 ao (fvals us)) := h4
  have g4' : Hid (At w2 bo (uvals us)) := g4
  rw [hfl, hul]
  clear h4 g4 hfl hul
  obtain ⟨n, hn⟩ : ∃ n, Hid (us.length = n) := ⟨_, rfl⟩
  rw [hn.out] at hsz ⊢
  go_wp2_with fail
  go_loopw [4] (fun v4 wr => ∃ i : Nat, i ≤ n ∧ i ≤ 60 ∧ v4 = .int .i64 (i : Int) ∧ Qt w2 wr) (fun v _ => n - (intOf v).toNat)
  case atStart => exact ⟨0, by omega, by omega, rfl, Qt.refl _⟩
  case round =>
    obtain ⟨i, hi, hi6, rfl, hq⟩ := hrel
    replace hq : Hid (Qt w2 wr) := hq
    by_cases hin : i = n
    · subst hin
      go_wp2
      go_ret
      exact ⟨rfl, hb3.out.trans (Qt.below hq.out _)⟩
    · have i1 : (i : Int) < (n : Int) := by omega
      by_cases h60 : i = 60
      · subst h60
        go_wp2
        go_ret
        exact ⟨rfl, hb3.out.trans (Qt.below hq.out _)⟩
      · have hil : i < us.length := by have := hn.out; omega
        obtain ⟨x, hx⟩ : ∃ x, Hid (us[i] = x) := ⟨us[i], rfl⟩
        obtain ⟨rb, off, rfl, hcell⟩ := h4'.out i (by simp [fvals]; omega)
        obtain ⟨rc, og, rfl, hcelg⟩ := g4'.out i (by simp [uvals]; omega)
        have hcx : wr.cell? ⟨rb, off + i, none⟩ = some (.float .f64 x) := by
          rw [hq.out.cell, hcell, ← hx.out]
          simp [fvals]
        have hcy : wr.cell? ⟨rc, og + i, none⟩ = some (.int .u64 (x : Int)) := by
          rw [hq.out.cell, hcelg, ← hx.out]
          simp [uvals]
        clear hcell hcelg
        have hxl : Hid (x < 18446744073709551616) := hbs.out x (by rw [← hx.out]; exact List.getElem_mem hil)
        have hkl : Hid (keyB x < 18446744073709551616) := keyB_lt hxl.out
        have i2 : (0 : Int) ≤ (i : Int) := by omega
        have i3 : (i : Int) < 60 := by omega
        go_wp2_with fail
        refine (unkey_any _ x hxl.out).mono ?_
        rintro e w4 ⟨rfl, rfl⟩
        go_wp2_with fail
        refine (refUnkey_any _ x hxl.out).mono ?_
        rintro e w4 ⟨rfl, rfl⟩
        go_wp2_with fail
        refine (class_any _ x hxl.out).mono ?_
        rintro e w4 ⟨rfl, rfl⟩
        go_wp2_with fail
        refine (refClass_any _ x hxl.out).mono ?_
        rintro e w4 ⟨rfl, rfl⟩
        go_wp2_with fail
        refine (canon_any _ x hxl.out).mono ?_
        rintro e w4 ⟨rfl, rfl⟩
        go_wp2_with fail
        refine (refCanon_any _ x hxl.out).mono ?_
        rintro e w4 ⟨rfl, rfl⟩
        go_wp2_with fail
        refine (bits_any _ _ _).mono ?_
        rintro e w4 ⟨rfl, rfl⟩
        rw [decide_eq_true rfl]
        go_wp2_with fail
        refine (key_any _ x hxl.out).mono ?_
        rintro e w4 ⟨rfl, rfl⟩
        go_wp2_with fail
        refine (refKey_any _ x hxl.out).mono ?_
        rintro e w4 ⟨rfl, rfl⟩
        go_wp2_with fail
        refine (bits_any _ _ _).mono ?_
        rintro e w4 ⟨rfl, rfl⟩
        rw [decide_eq_true rfl]
        go_wp2_with fail
        refine (next_any _ x hxl.out).mono ?_
        rintro e w4 ⟨rfl, rfl⟩
        go_wp2_with fail
        refine (refNext_any _ x hxl.out).mono ?_
        rintro e w4 ⟨rfl, rfl⟩
        go_wp2_with fail
        refine (bits_any _ _ _).mono ?_
        rintro e w4 ⟨rfl, rfl⟩
        rw [decide_eq_true rfl]
        go_wp2_with fail
        go_loopw [10] (fun v10 wr => ∃ k : Nat, k ≤ n ∧ k ≤ 60 ∧ v10 = .int .i64 (k : Int) ∧ Qt w2 wr) (fun v _ => n - (intOf v).toNat)
        case atStart => exact ⟨0, by omega, by omega, rfl, hq.out⟩
        case round =>
          clear hq hcx hcy
          obtain ⟨k, hk, hk6, rfl, hq⟩ := hrel
          replace hq : Hid (Qt w2 wr) := hq
          by_cases hkn : k = n
          · subst hkn
            go_wp2_with fail
            go_roundw
            case rel => exact ⟨i + 1, by omega, by omega, by go_num, hq.out⟩
            case measure => simp [intOf]; omega
          · have j1 : (k : Int) < (n : Int) := by omega
            by_cases hk60 : k = 60
            · subst hk60
              go_wp2_with fail
              go_roundw
              case rel => exact ⟨i + 1, by omega, by omega, by go_num, hq.out⟩
              case measure => simp [intOf]; omega
            · have hkl2 : k < us.length := by have := hn.out; omega
              obtain ⟨y, hy⟩ : ∃ x, Hid (us[k] = x) := ⟨us[k], rfl⟩
              obtain ⟨rb2, off2, he2, hcell⟩ := h4'.out k (by simp [fvals]; omega)
              simp only [Option.some.injEq, Addr.mk.injEq, and_true] at he2
              obtain ⟨rfl, rfl⟩ := he2
              have hcz : wr.cell? ⟨rb, off + k, none⟩ = some (.float .f64 y) := by
                rw [hq.out.cell, hcell, ← hy.out]
                simp [fvals]
              clear hcell
              have hyl : Hid (y < 18446744073709551616) := hbs.out y (by rw [← hy.out]; exact List.getElem_mem hkl2)
              have j2 : (0 : Int) ≤ (k : Int) := by omega
              have j3 : (k : Int) < 60 := by omega
              go_wp2_with fail
              refine (apart_any _ x y hxl.out hyl.out).mono ?_
              rintro e w5 ⟨rfl, rfl⟩
              go_wp2_with fail
              refine (refApart_any _ x y hxl.out hyl.out).mono ?_
              rintro e w5 ⟨rfl, rfl⟩
              obtain ⟨p, hp⟩ : ∃ p, Hid (apB x y = p) := ⟨_, rfl⟩
              obtain ⟨o, ho⟩ : ∃ p, Hid (apOk x y = p) := ⟨_, rfl⟩
              rw [hp.out, ho.out]
              go_wp2_with fail
              go_quiet (first
                | (go_at_call 24; exact Calls.quiet_of_same (compare_any _ x y hxl.out hyl.out))
                | (go_at_call 25; exact Calls.quiet_of_same (refCompare_any _ x y hxl.out hyl.out))
                | (go_at_call 26; exact Calls.quiet_of_same (same_any _ x y hxl.out hyl.out))
                | (go_at_call 27; exact Calls.quiet_of_same (refSame_any _ x y hxl.out hyl.out)))
              go_wp2_with fail
              go_roundw
              case rel => exact ⟨k + 1, by omega, by omega, by go_num, hq.out.trans ⟨nq, rfl⟩⟩
              case measure => simp [intOf]; omega
#print axioms all_walk
end Go.Proofs.YtdjaekmndhhjgaaGreatDoor.Rl
