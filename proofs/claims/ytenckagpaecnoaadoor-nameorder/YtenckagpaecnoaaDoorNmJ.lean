/-
  Package name: Order, whole.
-/
import Derived.Test.YtenckagpaecnoaaDoorNmI
import Derived.Test.YtenckagpaecnoaaDoorShelfN
import Derived.Sort.OwnSorted
import Derived.Sort.Grow
import Derived.Lib.OwnBridge
namespace Go.Proofs.YtenckagpaecnoaaDoor.Nm
open Go.RowKit Go.Sort
set_option maxRecDepth 100000
set_option linter.unusedVariables false

theorem enc8_eq (l : List (List UInt8)) : l.map enc8 = l.map encStr := rfl
theorem order_all (w : World) (v : Value) (ls : List (List UInt8)) (hv : Row w v (ls.map enc8)) (hl : ∀ x ∈ ls, x.length ≤ maxLen) (hn : ls.length ≤ 200) :
    Calls Tryd.prog 14 #[v] w fun e w' => ∃ v', e = .returned v' ∧ w'.ownsRow w.heap.size 9 1 v' (ordR ls).length ((ordR ls).map enc8) ∧ Below w.heap.size w w' := by
  refine order_any w v ls hv hl hn _ ?_ fun q l h => ?_
  · intro q u ho hb
    have hord := ord_eq ls
    have hfl := List.length_filter_le may ls
    generalize ls.filter may = F at *
    by_cases h0 : F.length = 0
    · obtain rfl : F = [] := List.length_eq_zero_iff.1 h0
      have he : ordR ls = [] := by rw [← hord]; simp [Lib.compact, Lib.compactUpTo]
      have hu : ∃ p c, u = .slice p 0 c := by
        rcases ho.2 with ⟨e, _⟩ | ⟨g, c, _, e, _⟩
        · exact ⟨none, 0, e⟩
        · exact ⟨_, c, e⟩
      obtain ⟨p, c, rfl⟩ := hu
      refine (Tryd.slices_Sort_string_none p c q).mono ?_
      rintro e q' ⟨rfl, rfl⟩
      refine ⟨rfl, (Tryd.slices_Compact_string_empty p c q').mono ?_⟩
      rintro e q2 ⟨rfl, rfl⟩
      refine ⟨_, rfl, _, rfl, ?_, hb⟩
      rw [he]
      exact ho
    · have hnn : u ≠ .slice none 0 0 := by
        rintro rfl
        rcases ho.2 with ⟨_, e⟩ | ⟨g, c, _, e, _⟩
        · exact h0 e
        · cases e
      rw [enc8_eq] at ho
      rcases ho.2 with ⟨e0, _⟩ | ⟨g', cap', cur, hv', hbase', hb', h1', h2', h3', h4'⟩
      · exact absurd e0 hnn
      obtain ⟨g, cap, rfl, hbg, hgl, hncap, hcm, hlen, hH⟩ := Lib.holds_of_ownsRow ho hnn
      simp only [Value.slice.injEq, Option.some.injEq, Addr.mk.injEq, and_true, true_and] at hv'
      obtain ⟨rfl, rfl⟩ := hv'
      refine (Tryd.slices_Sort_string g 0 cap F q hH hgl (by omega)).mono ?_
      rintro e q' ⟨rfl, nn, os, rfl⟩
      have hl2 : (F.mergeSort fun x y => decide (x ≤ y)).length = F.length := List.length_mergeSort F
      have hs := ownsRow_sorted (n := nn) (os := os) (ts := F.mergeSort fun x y => decide (x ≤ y)) hl2 hbase' hb' h1' h2' h3'
      have hB := hb.grown (grownBy_sorted (n := nn) (os := os) (g := g) (F.mergeSort fun x y => decide (x ≤ y)).toArray) hb.size (fun j hj => by cases hj; exact hbg)
      obtain ⟨g2, cap2, e2, _, _, _, _, _, hH3⟩ := Lib.holds_of_ownsRow hs (by simp)
      simp only [Value.slice.injEq, Option.some.injEq, Addr.mk.injEq, and_true, true_and] at e2
      obtain ⟨rfl, rfl⟩ := e2
      generalize grow (putRow encStr (Sort.ahead q nn) g 0 (F.mergeSort fun x y => decide (x ≤ y)).toArray) os = Z at *
      have hc := Tryd.slices_Compact_string g 0 cap (F.mergeSort fun x y => decide (x ≤ y)) Z hH3 (by omega) (by omega)
      rw [hl2] at hc
      refine ⟨rfl, hc.mono ?_⟩
      rintro e q2 ⟨rfl, qq, rfl⟩
      have hcl : (Lib.compact (F.mergeSort fun x y => decide (x ≤ y))).length ≤ F.length := by
        unfold Lib.compact Lib.compactUpTo
        rw [List.length_map]
        have := List.length_filter_le (Lib.keeps (F.mergeSort fun x y => decide (x ≤ y)).toArray) (List.range (F.mergeSort fun x y => decide (x ≤ y)).length)
        rw [List.length_range, hl2] at this
        rw [hl2]
        exact this
      have ho2 := Lib.ownsRow_putRow (q := qq) (k := (Lib.compact (F.mergeSort fun x y => decide (x ≤ y))).length) (ys := Lib.compact (F.mergeSort fun x y => decide (x ≤ y)) ++ List.replicate (F.length - (Lib.compact (F.mergeSort fun x y => decide (x ≤ y))).length) []) hs (by simp; omega) hcl
      rw [List.take_left] at ho2
      refine ⟨_, rfl, _, rfl, ?_, Lib.below_putRow hB hbg⟩
      rw [← hord]
      exact ho2
  · exact Tryd.stringslite_Clone (bs l) q (by rw [bs_size]; exact h)
#print axioms order_all
end Go.Proofs.YtenckagpaecnoaaDoor.Nm
