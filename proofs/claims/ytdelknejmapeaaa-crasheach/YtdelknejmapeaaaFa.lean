/-
  What slices.Grow of no bytes and slices.Concat of slices of bytes answer.
-/
import Derived.Test.YtdelknejmapeaaaGen
import Derived.Test.YtdelknejmapeaaaRws

import Derived.Lib.AppendZeros
namespace Go.Proofs.Ytdelknejmapeaaa
open Go.RowKit
set_option maxRecDepth 100000

theorem hide {p : Prop} (h : p) : Hid p := h

theorem owns_zero {w : World} {base e cap g : Nat} {cur : Array Value} (hg : base ≤ g) (h : w.heap[g]? = some (.cells cur e (0, 0))) (hs : cur.size = cap) (hm : cap ≤ maxLen) : w.ownsRow base e 1 (.slice (some ⟨g, 0, none⟩) 0 cap) 0 (bvals []) :=
  ⟨rfl, Or.inr ⟨g, cap, cur, rfl, hg, h, Nat.zero_le _, hm, by omega, by simp [bvals]⟩⟩

set_option maxHeartbeats 400000 in
theorem grow_any (w : World) (n : Nat) (hn : n ≤ 140737488355328) :
    Calls Try.prog 70 #[.slice none 0 0, .int .i64 (n : Int)] w fun e w' => ∃ v', e = .returned v' ∧ w'.ownsRow w.heap.size 5 1 v' 0 (bvals []) ∧ Below w.heap.size w w' := by
  obtain ⟨i0, hi, hz0, hz1, hz2⟩ := info_parts Try.infoU8
  have HN : Hid (n ≤ 140737488355328) := hn
  by_cases h0 : n = 0
  · subst h0
    clear hn
    go_enter Try.func70, Try.ntmps70
    go_wp2_with fail
    go_ret
    exact ⟨_, rfl, World.ownsRow_nil _ _ _ _, Below.refl _ _⟩
  · have g0 : (0 : Int) < (n : Int) := by omega
    have hr := Lib.run_append_nil_zeros (P := Try.prog) w 22 3 22 5 i0 (.int .u8 0) .i64 .i64 Try.underlying22 Try.underlying3 hi hz0 n (by omega) (by omega) (by omega) (by rw [hz2]; omega)
    have hge := grownCap_ge w n 0 5
    have hle := grownCap_le_maxLen w n 0 5 (by unfold maxLen; omega)
    have hcs : Hid ((Builtin.zeroCells (Value.int .u8 0).cells n ++ Builtin.zeroCells (Value.int .u8 0).cells (grownCap w n 0 5 - n)).size = grownCap w n 0 5) := by
      show _ = _
      simp only [Array.size_append, size_zeroCells]
      simp [Value.cells]
      omega
    generalize grownCap w n 0 5 = cp at *
    generalize Builtin.zeroCells (Value.int .u8 0).cells n ++ Builtin.zeroCells (Value.int .u8 0).cells (cp - n) = cs at *
    have HO : Hid ((w.drew.alloc (.cells cs 5)).ownsRow w.heap.size 5 1 (.slice (some ⟨w.heap.size, 0, none⟩) 0 cp) 0 (bvals [])) := owns_zero (Nat.le_refl _) (heap_alloc_new w.drew _) hcs.out hle
    have HB : Hid (Below w.heap.size w (w.drew.alloc (.cells cs 5))) := (Below.refl _ w).drew.alloc (by simp) _
    have hcp : cp ≤ 9223372036854775807 := by unfold maxLen at hle; omega
    have HR := hide hr
    clear hle hr hcs hn h0
    go_enter Try.func70, Try.ntmps70
    go_wp2_with (at_builtin; refine Lib.wpList_append_run _ rfl (.tmp 20) (.tmp 21) 22 3 rfl _ _ rfl rfl _ _ HR.out ?_)
    go_ret
    exact ⟨_, rfl, HO.out, HB.out⟩

theorem flat_snoc (ls : List (List UInt8)) (k : Nat) (h : k < ls.length) : (ls.take (k + 1)).flatten = (ls.take k).flatten ++ ls[k] := by
  rw [List.take_succ_eq_append_getElem h, List.flatten_append, List.flatten_singleton]
theorem flat_le (ls : List (List UInt8)) (k : Nat) : (ls.take k).flatten.length ≤ ls.flatten.length := by
  have h : ls.flatten = (ls.take k).flatten ++ (ls.drop k).flatten := by rw [← List.flatten_append, List.take_append_drop]
  rw [h, List.length_append]; omega

set_option maxRecDepth 100000 in
set_option maxHeartbeats 800000 in
theorem concat_any (w : World) (v : Value) (vs : List Value) (ls : List (List UInt8)) (hv : Row w v vs) (hs : Sls w vs ls) (hlen : ls.flatten.length ≤ 140737488355328) :
    Calls Try.prog 58 #[v] w fun e w' => ∃ v', e = .returned v' ∧ w'.ownsRow w.heap.size 5 1 v' ls.flatten.length (bvals ls.flatten) ∧ Below w.heap.size w w' := by
  obtain ⟨ao, ca, rfl, h2, h3, h4, h5⟩ := hv
  have hm : ca ≤ 9223372036854775807 := by unfold maxLen at h4; omega
  have HS := hide hs
  have HL := hide hlen
  obtain ⟨n, hn⟩ : ∃ n, Hid (vs.length = n) := ⟨_, rfl⟩
  have hnl : Hid (ls.length = n) := hs.1.symm.trans hn.out
  have hnm : n ≤ 9223372036854775807 := by rw [← hn.out]; omega
  rw [hn.out]
  clear h2 h4 hs hlen h3
  have H5 := hide h5
  clear h5
  go_enter Try.func58, Try.ntmps58
  go_wp2_with fail
  go_loopw [3, 11] (fun vz vi wr => ∃ k z : Nat, k ≤ n ∧ vz = .int .i64 (z : Int) ∧ vi = .int .i64 (k : Int) ∧ Hid (z = (ls.take k).flatten.length) ∧ w = wr) (fun _ i _ => n - (intOf i).toNat)
  case atStart => exact ⟨0, 0, Nat.zero_le _, rfl, rfl, rfl, rfl⟩
  case round =>
    obtain ⟨k, z, hk, rfl, rfl, hz, rfl⟩ := hrel
    by_cases hlt : k < n
    · have hkv : k < vs.length := by rw [hn.out]; exact hlt
      have hkl : k < ls.length := by rw [hnl.out]; exact hlt
      obtain ⟨b1, o1, rfl, hb⟩ := H5.out k hkv
      have HX := hide (HS.out.2 k hkv hkl)
      obtain ⟨ao2, ca2, e2, _, _, _, _⟩ := HX.out
      rw [e2] at hb
      obtain ⟨m, hml⟩ : ∃ m, Hid (ls[k].length = m) := ⟨ls[k].length, hide rfl⟩
      rw [hml.out] at hb
      have hz2 : Hid (z + m = (ls.take (k + 1)).flatten.length) := by show _ = _; rw [flat_snoc ls k hkl, List.length_append, hz.out, hml.out]
      have hzb : z + m ≤ 140737488355328 := by rw [hz2.out]; exact Nat.le_trans (flat_le ls (k + 1)) HL.out
      have hneg : ¬ ((z : Int) + (m : Int) < 0) := by omega
      clear e2 hml hz
      go_wp2_with fail
      go_roundw
      case rel => exact ⟨k + 1, z + m, by omega, by go_num, by go_num, hz2.out, by trivial⟩
      case measure => simp [intOf]; omega
    · obtain rfl : k = n := by omega
      have hzb : z ≤ 140737488355328 := by rw [hz.out]; exact Nat.le_trans (flat_le ls k) HL.out
      clear hz
      go_wp2_with fail
      refine (grow_any _ z hzb).mono ?_
      rintro e w1 ⟨v1, rfl, ho1, hb1⟩
      clear hzb
      go_wp2_with fail
      go_loopw [6, 27] (fun vz vi wr => ∃ j : Nat, j ≤ k ∧ vi = .int .i64 (j : Int) ∧ Hid (wr.ownsRow w.heap.size 5 1 vz ((ls.take j).flatten).length (bvals (ls.take j).flatten)) ∧ Hid (Below w.heap.size w wr)) (fun _ i _ => k - (intOf i).toNat)
      case atStart => exact ⟨0, Nat.zero_le _, rfl, ho1, hb1⟩
      case round =>
        obtain ⟨j, hj, rfl, ho, hb⟩ := hrel
        by_cases hlt : j < k
        · have hkv : j < vs.length := by rw [hn.out]; exact hlt
          have hkl : j < ls.length := by rw [hnl.out]; exact hlt
          obtain ⟨b1, o1, rfl, hc⟩ := H5.out j hkv
          have hc2 : wr.cell? ⟨b1, o1 + j, none⟩ = some vs[j] := (hb.out.cell (lt_of_cell hc)).trans hc
          have HX := hide (Below.sl hb.out (HS.out.2 j hkv hkl))
          have hle : (ls.take j).flatten.length + ls[j].length ≤ 140737488355328 := by
            have := flat_le ls (j + 1)
            rw [flat_snoc ls j hkl, List.length_append] at this
            have := HL.out
            omega
          have hsz := hb.out.size
          have HLe := hide hle
          have HSz := hide hsz
          have HF := hide (flat_snoc ls j hkl)
          obtain ⟨u, hu⟩ : ∃ u, u = vs[j] := ⟨_, rfl⟩
          rw [← hu] at hc2 HX
          obtain ⟨L, hL⟩ : ∃ L, L = (ls.take j).flatten := ⟨_, rfl⟩
          obtain ⟨M, hM⟩ : ∃ M, M = ls[j] := ⟨_, rfl⟩
          rw [← hL] at HLe HF ho
          rw [← hM] at HLe HF HX
          clear hc hle hsz hu hL hM
          go_wp2_with (at_builtin; refine wpList_append_bytes rfl (.tmp 31) (.tmp 32) 22 rfl w.heap.size 5 Try.infoU8 Try.underlying22 _ _ L M rfl ho.out rfl HX.out HLe.out HSz.out ?_)
          intro v2 w2 ho2 hb2
          rw [← List.length_append, ← HF.out] at ho2
          replace ho2 := hide ho2
          go_wp2_with fail
          go_roundw
          case rel => exact ⟨j + 1, by omega, by go_num, ho2.out, hb.out.trans hb2⟩
          case measure => simp [intOf]; omega
        · obtain rfl : j = k := by omega
          have HT : Hid ((ls.take j).flatten = ls.flatten) := by show _ = _; rw [List.take_of_length_le (by rw [hnl.out]; omega)]
          rw [HT.out] at ho
          go_wp2_with fail
          go_ret
          exact ⟨_, rfl, ho.out, hb.out⟩
#print axioms concat_any
end Go.Proofs.Ytdelknejmapeaaa
