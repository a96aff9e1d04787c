/-
  Package name: Order, out of contracts for the library's sort and compact.
-/
import Derived.Test.YtenckagpaecnoaaDoorNmF
import Derived.Test.YtenckagpaecnoaaDoorRws
import Derived.Sort.EncStr
namespace Go.Proofs.YtenckagpaecnoaaDoor.Nm
open Go.RowKit
set_option maxRecDepth 100000
set_option linter.unusedVariables false

def enc8 (l : List UInt8) : Value := .string (bs l)
theorem filter_snoc (ls : List (List UInt8)) (k : Nat) (h : k < ls.length) : (ls.take (k + 1)).filter may = (ls.take k).filter may ++ (if may ls[k] = true then [ls[k]] else []) := by
  rw [List.take_succ_eq_append_getElem h, List.filter_append]
  congr 1
  by_cases e : may ls[k] = true <;> simp [e]
theorem filter_le (ls : List (List UInt8)) (k : Nat) : ((ls.take k).filter may).length ≤ k := by
  have h1 := List.length_filter_le may (ls.take k)
  have h2 : (ls.take k).length ≤ k := by simp; omega
  omega

theorem may_le {l : List UInt8} (h : may l = true) : l.length ≤ 64 := by
  unfold may at h
  simp only [Bool.and_eq_true, decide_eq_true_eq] at h
  exact h.1.1.1.2
set_option maxHeartbeats 4000000 in
theorem order_any (w : World) (v : Value) (ls : List (List UInt8)) (hv : Row w v (ls.map enc8)) (hl : ∀ x ∈ ls, x.length ≤ maxLen) (hn : ls.length ≤ 200) (R : Ending → World → Prop)
    (hS : ∀ (q : World) (u : Value), q.ownsRow w.heap.size 9 1 u (ls.filter may).length ((ls.filter may).map enc8) → Below w.heap.size w q →
      Calls Tryd.prog 27 #[u] q fun e q' => e = .returned (.tuple #[]) ∧ Calls Tryd.prog 28 #[u] q' fun e' q2 => ∃ v', e' = .returned v' ∧ R (.returned v') q2)
    (hC : ∀ (q : World) (l : List UInt8), l.length ≤ 281474976710656 → Calls Tryd.prog 39 #[.string (bs l)] q fun e q' => e = .returned (.string (bs l)) ∧ Below q.heap.size q q') :
    Calls Tryd.prog 14 #[v] w R := by
  have HV := hide hv
  obtain ⟨ao, cap, rfl, ha, h1, h2, h3⟩ := hv
  rw [List.length_map] at *
  obtain ⟨N, hN⟩ : ∃ N, Hid (ls.length = N) := ⟨_, rfl⟩
  rw [hN.out] at h1 hn ⊢
  replace hS := hide hS
  replace hC := hide hC
  replace hl := hide hl
  replace ha := hide ha
  replace h3 := hide h3
  have N1 : (N : Int) ≤ 200 := by omega
  have hNc : N ≤ cap := h1
  clear h1 h2
  obtain ⟨i0, hi, hz0, hz1, hz2⟩ : ∃ i, Tryd.prog.info? 9 = some i ∧ i.zero = some (.string ⟨#[]⟩) ∧ i.size = 1 ∧ i.bytes = 16 := ⟨_, rfl, rfl, rfl, rfl⟩
  go_enter Tryd.func14, Tryd.ntmps14
  go_wp2_with fail
  go_loopw [3, 8] (fun u i wr => ∃ k : Nat, i = .int .i64 k ∧ k ≤ N ∧ Hid (wr.ownsRow w.heap.size 9 1 u ((ls.take k).filter may).length (((ls.take k).filter may).map enc8) ∧ Below w.heap.size w wr)) (fun _ i _ => N - (intOf i).toNat)
  case atStart => exact ⟨0, rfl, Nat.zero_le _, World.ownsRow_nil _ _ _ _, Below.refl _ _⟩
  case round =>
    obtain ⟨k, rfl, hk, hO⟩ := hrel
    by_cases hlt : k < N
    · have i1 : (k : Int) < (N : Int) := by omega
      have hkl : k < ls.length := by rw [hN.out]; exact hlt
      obtain ⟨b, off, rfl, hc⟩ := h3.out k (by rw [List.length_map]; exact hkl)
      have hcell : wr.cell? ⟨b, off + k, none⟩ = some (.string (bs ls[k])) := by
        rw [hO.out.2.cell (p := ⟨b, off + k, none⟩) (lt_of_cell hc), hc, List.getElem_map]; rfl
      have hlk := hide (hl.out ls[k] (List.getElem_mem hkl))
      have hm := may_any (bs ls[k]) wr (by rw [bs_size]; exact hlk.out)
      rw [bs_list] at hm
      have hf := hide (filter_snoc ls k hkl)
      have hle := hide (filter_le ls k)
      have hCk := hide (hC.out wr ls[k])
      have z0 := hide hO.out.2.size
      clear hc HV h3 ha hS hlk
      generalize ls[k] = x at *
      cases hmx : may x with
      | false =>
        rw [hmx] at hm
        have hO2 : Hid (wr.ownsRow w.heap.size 9 1 u3 ((ls.take (k + 1)).filter may).length (((ls.take (k + 1)).filter may).map enc8) ∧ Below w.heap.size w wr) := by
          have e := hf.out
          rw [hmx] at e
          show _ ∧ _
          rw [e]
          simpa using hO.out
        replace hm := hide hm
        clear hO hf hmx
        go_wp2_with (first | (go_at_call 8; refine hm.out.mono ?_; rintro e w' ⟨rfl, rfl⟩))
        go_roundw
        case rel => exact ⟨k + 1, by go_num, by omega, hO2⟩
        case measure => simp [intOf]; omega
      | true =>
        rw [hmx] at hm
        have hfe : Hid ((ls.take (k + 1)).filter may = (ls.take k).filter may ++ [x]) := by
          have e := hf.out
          rw [hmx] at e
          show _ = _
          simpa using e
        have hCk := hide (hCk.out (by have := may_le hmx; omega))
        replace hm := hide hm
        obtain ⟨F, hF⟩ : ∃ F, Hid ((ls.take k).filter may = F) := ⟨_, rfl⟩
        rw [hF.out] at hO hfe hle
        clear hf hmx
        go_wp2_with (first
          | (go_at_call 8; refine hm.out.mono ?_; rintro e w' ⟨rfl, rfl⟩)
          | (go_at_call 39; refine hCk.out.mono ?_; rintro e w2 ⟨rfl, b2⟩; have hO2 := hide (ownsRow_below hO.out.1 b2); have hB2 := hide (hO.out.2.trans (b2.mono z0.out)); have z2 := hide hB2.out.size; clear b2)
          | (at_builtin; refine wpList_append_own _ rfl (.tmp 14) (.tmp 17) 22 rfl w.heap.size 9 i0 (.string ⟨#[]⟩) 1 16 Tryd.underlying22 hi hz0 hz1 hz2 rfl (by decide) _ F.length (F.map enc8) rfl (hO2.out.alloc _) ⟨w2.heap.size, 0, none⟩ 1 1 [.string (bs x)] rfl rfl (cell_one_new _ _ _) (by simp [Value.oneCell']) (by have := hle.out; unfold maxLen; omega) (by have := hle.out; omega) (by have := z2.out; simp; omega) ?_)
          | go_in)
        intro v3 w3 ho3 g3 _
        have hO3 : Hid (w3.ownsRow w.heap.size 9 1 v3 ((ls.take (k + 1)).filter may).length (((ls.take (k + 1)).filter may).map enc8) ∧ Below w.heap.size w w3) := by
          show _ ∧ _
          refine ⟨?_, (hB2.out.alloc z2.out _).grown g3 (by have := z2.out; simp; omega) fun k hk => (hO2.out.lt k hk).1⟩
          rw [hfe.out, List.length_append, List.map_append]
          exact ho3
        clear ho3 g3 hO hO2
        go_wp2_with fail
        go_roundw
        case rel => exact ⟨k + 1, by go_num, by omega, hO3⟩
        case measure => simp [intOf]; omega
    · obtain rfl : k = N := by omega
      have i1 : ¬ ((k : Int) < (k : Int)) := by omega
      have hO2 : Hid (wr.ownsRow w.heap.size 9 1 u3 (ls.filter may).length ((ls.filter may).map enc8) ∧ Below w.heap.size w wr) := by
        have := hO.out
        rwa [List.take_of_length_le (by have := hN.out; omega)] at this
      have hc := hide (hS.out wr u3 hO2.out.1 hO2.out.2)
      clear hO hO2
      go_wp2_with fail
      refine hc.out.mono ?_
      rintro e q' ⟨rfl, hq⟩
      replace hq := hide hq
      clear hc
      go_wp2_with fail
      refine hq.out.mono ?_
      rintro e q2 ⟨v', rfl, hr⟩
      go_wp2_with fail
      exact hr
#print axioms order_any
end Go.Proofs.YtenckagpaecnoaaDoor.Nm
