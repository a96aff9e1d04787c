/-
  Package real's exact sums: what the classes alone say.
-/
import Derived.Test.YtojohcckaklmpaaDoorRlN
import Derived.Test.YtojohcckaklmpaaDoorRws
namespace Go.Proofs.YtojohcckaklmpaaDoor.Rl
open Go.RowKit
set_option maxRecDepth 100000

def cnt (xs : List Nat) (c : Nat) : Nat := xs.countP fun b => classB b == (c : Int)
def counts (xs : List Nat) : List Nat := (List.range 10).map (cnt xs)
def ccells (xs : List Nat) : Array Value := ((counts xs).map fun n : Nat => Value.int .i64 (n : Int)).toArray
/-- Block b holds how many there are of each class. -/
def Ct (q : World) (b : Nat) (xs : List Nat) : Prop := ∃ T, q.heap[b]? = some (.cells (ccells xs) T (0, 0))
theorem Ct.cell {q : World} {b : Nat} {xs : List Nat} (h : Ct q b xs) (i : Nat) (hi : i < 10) : q.cell? ⟨b, i, none⟩ = some (.int .i64 (cnt xs i : Int)) := by
  obtain ⟨_, h⟩ := h
  unfold World.cell?
  simp only [h]
  simp [ccells, counts, hi]
theorem Ct.frozen {q : World} {b : Nat} {xs : List Nat} (h : Ct q b xs) (i : Nat) : q.frozen? ⟨b, i, none⟩ = false := by
  obtain ⟨_, h⟩ := h
  simp [World.frozen?, h]
theorem class_mem (b : Nat) : 1 ≤ classB b ∧ classB b ≤ 9 := by
  unfold classB
  have h1 := rankB_mem b
  have h2 := rankB_mem (b - 9223372036854775808)
  (repeat' split) <;> omega
theorem cnt_snoc (xs : List Nat) (x c : Nat) : cnt (xs ++ [x]) c = cnt xs c + if classB x = (c : Int) then 1 else 0 := by
  unfold cnt
  rw [List.countP_append]
  simp [List.countP_cons]
theorem counts_snoc (xs : List Nat) (x c : Nat) (hc : classB x = (c : Int)) : (counts xs).set c (cnt xs c + 1) = counts (xs ++ [x]) := by
  apply List.ext_getElem
  · simp [counts]
  · intro i h1 h2
    simp [counts] at h2
    simp only [counts, List.getElem_set, List.getElem_map, List.getElem_range]
    rw [cnt_snoc]
    by_cases h : c = i
    · subst h; rw [if_pos rfl, if_pos hc]
    · rw [if_neg h, if_neg (by omega)]; rfl
theorem Ct.more {q : World} {b : Nat} {xs : List Nat} (h : Ct q b xs) (x c : Nat) (hc : classB x = (c : Int)) : Ct (q.setCell ⟨b, c, none⟩ (.int .i64 ((cnt xs c : Int) + 1))) b (xs ++ [x]) := by
  obtain ⟨T, h⟩ := h
  refine ⟨T, ?_⟩
  rw [heap_setCell_same q b c _ _ _ h]
  congr 2
  rw [ccells, ccells, ← counts_snoc xs x c hc]
  simp [List.map_set]
theorem Ct.below {q q' : World} {b : Nat} {xs : List Nat} (h : Ct q b xs) (hb : Below q.heap.size q q') : Ct q' b xs := by
  obtain ⟨T, h⟩ := h
  exact ⟨T, by rw [hb.block b (heap_lt h)]; exact h⟩
def fvals (xs : List Nat) : List Value := xs.map fun b => .float .f64 b
def Bs (xs : List Nat) : Prop := ∀ b ∈ xs, b < 18446744073709551616
theorem inf_any (w : World) (n : Int) : Calls Tryd.prog 58 #[.int .i64 n] w fun e w' => e = .returned (.float .f64 (if 0 ≤ n then 9218868437227405312 else 18442240474082181120)) ∧ w' = w := by
  have k2 := of_run
  go_enter Tryd.func58, Tryd.ntmps58
  go_wp2
  all_goals (go_ret; refine ⟨?_, rfl⟩; first | rfl | (split <;> first | rfl | omega))
def unsB (xs : List Nat) : Option Nat :=
  if 0 < cnt xs 1 ∨ (0 < cnt xs 9 ∧ 0 < cnt xs 2) then some 9221120237041090561
  else if 0 < cnt xs 9 then some 9218868437227405312
  else if 0 < cnt xs 2 then some 18442240474082181120
  else if 0 < xs.length ∧ cnt xs 5 = xs.length then some 9223372036854775808 else none
theorem Ct.new (w : World) (cs : Array Value) (T : TypeId) (hs : cs = ccells []) : Ct (w.alloc (.cells cs T)) w.heap.size [] := ⟨T, by rw [heap_alloc_new, hs]⟩
theorem cnt_le (xs : List Nat) (c : Nat) : cnt xs c ≤ xs.length := List.countP_le_length
set_option maxHeartbeats 1000000 in
theorem unsummed_any (w : World) (v : Value) (xs : List Nat) (hx : Row w v (fvals xs)) (hb : Bs xs) :
    Calls Tryd.prog 51 #[v] w fun e w' => e = .returned (.tuple #[.float .f64 ((unsB xs).getD 0), .bool (unsB xs).isSome]) ∧ Below w.heap.size w w' := by
  obtain ⟨ao, cap, rfl, h1, h2, h3, h4⟩ := hx
  have hlen : (fvals xs).length = xs.length := by simp [fvals]
  have h4' : Hid (At w ao (fvals xs)) := h4
  rw [hlen] at h2 ⊢
  have hn47 : xs.length ≤ 9223372036854775807 := by unfold maxLen at h3; omega
  clear h1 h4 hlen h2 h3
  obtain ⟨n, hn⟩ : ∃ n, Hid (xs.length = n) := ⟨_, rfl⟩
  rw [hn.out] at hn47 ⊢
  obtain ⟨U, hU⟩ : ∃ U, Hid (unsB xs = U) := ⟨_, rfl⟩
  rw [hU.out]
  replace hb : Hid (Bs xs) := hb
  go_enter Tryd.func51, Tryd.ntmps51
  go_wp2_with fail
  go_loopw [11] (fun v wr => ∃ i : Nat, i ≤ n ∧ v = .int .i64 (i : Int) ∧ Hid (Ct wr w.heap.size (xs.take i)) ∧ Hid (Below w.heap.size w wr)) (fun v _ => n - (intOf v).toNat)
  case atStart => exact ⟨0, by omega, rfl, Ct.new _ _ _ (by kernel_rfl), box_below _ _⟩
  case round =>
    obtain ⟨i, hi, rfl, hC, hB⟩ := hrel
    by_cases hin : i = n
    · subst hin
      have hC' : Hid (Ct wr w.heap.size xs) := by
        have := hC.out
        rwa [List.take_of_length_le (by have := hn.out; omega)] at this
      obtain ⟨n1, e1⟩ : ∃ k, Hid (cnt xs 1 = k) := ⟨_, rfl⟩
      obtain ⟨n2, e2⟩ : ∃ k, Hid (cnt xs 2 = k) := ⟨_, rfl⟩
      obtain ⟨n5, e5⟩ : ∃ k, Hid (cnt xs 5 = k) := ⟨_, rfl⟩
      obtain ⟨n9, e9⟩ : ∃ k, Hid (cnt xs 9 = k) := ⟨_, rfl⟩
      have c1 : ∀ k, (wr.drewN k).cell? ⟨w.heap.size, 1, none⟩ = some (.int .i64 (n1 : Int)) := fun k => by rw [← e1.out]; exact hC'.out.cell 1 (by omega)
      have c2 := hC'.out.cell 2 (by omega)
      have c9 := hC'.out.cell 9 (by omega)
      have c5 : ∀ k, (wr.drewN k).cell? ⟨w.heap.size, 5, none⟩ = some (.int .i64 (n5 : Int)) := fun k => by rw [← e5.out]; exact hC'.out.cell 5 (by omega)
      rw [e2.out] at c2
      rw [e9.out] at c9
      have hU2 : Hid (U = if 0 < n1 ∨ (0 < n9 ∧ 0 < n2) then some 9221120237041090561 else if 0 < n9 then some 9218868437227405312 else if 0 < n2 then some 18442240474082181120 else if 0 < i ∧ n5 = i then some 9223372036854775808 else none) := by
        show _ = _
        rw [← hU.out, unsB, e1.out, e2.out, e5.out, e9.out, hn.out]
      have k2 := of_run
      go_wp2_with fail
      go_quiet (fail)
      by_cases g1 : (0 : Int) < (n1 : Int)
      · have hV : U = some 9221120237041090561 := by rw [hU2.out, if_pos (Or.inl (by omega))]
        subst hV
        go_wp2_with fail
        refine (nan_any _).mono ?_
        rintro e w2 ⟨rfl, rfl⟩
        go_wp2
        go_ret2
        exact ⟨rfl, hB.out.trans (Qt.below ⟨_, rfl⟩ _)⟩
      · by_cases g9 : (0 : Int) < (n9 : Int)
        · by_cases g2 : (0 : Int) < (n2 : Int)
          · have hV : U = some 9221120237041090561 := by rw [hU2.out, if_pos (Or.inr ⟨by omega, by omega⟩)]
            subst hV
            go_wp2_with fail
            refine (nan_any _).mono ?_
            rintro e w2 ⟨rfl, rfl⟩
            go_wp2
            go_ret2
            exact ⟨rfl, hB.out.trans (Qt.below ⟨_, rfl⟩ _)⟩
          · have hV : U = some 9218868437227405312 := by rw [hU2.out, if_neg (by omega), if_pos (by omega)]
            subst hV
            go_wp2_with fail
            refine (inf_any _ _).mono ?_
            rintro e w2 ⟨rfl, rfl⟩
            go_wp2
            go_ret2
            exact ⟨rfl, hB.out.trans (Qt.below ⟨_, rfl⟩ _)⟩
        · by_cases g2 : (0 : Int) < (n2 : Int)
          · have hV : U = some 18442240474082181120 := by rw [hU2.out, if_neg (by omega), if_neg (by omega), if_pos (by omega)]
            subst hV
            go_wp2_with fail
            refine (inf_any _ _).mono ?_
            rintro e w2 ⟨rfl, rfl⟩
            go_wp2
            go_ret2
            exact ⟨rfl, hB.out.trans (Qt.below ⟨_, rfl⟩ _)⟩
          · by_cases g0 : (0 : Int) < (i : Int)
            · cases g5 : ((n5 : Int) == (i : Int))
              · have hV : U = none := by rw [hU2.out, if_neg (by omega), if_neg (by omega), if_neg (by omega), if_neg (by simp at g5; omega)]
                subst hV
                go_wp2
                go_ret2
                exact ⟨rfl, hB.out.trans (Qt.below ⟨_, rfl⟩ _)⟩
              · have hV : U = some 9223372036854775808 := by rw [hU2.out, if_neg (by omega), if_neg (by omega), if_neg (by omega), if_pos (by simp at g5; omega)]
                subst hV
                go_wp2
                go_ret2
                exact ⟨rfl, hB.out.trans (Qt.below ⟨_, rfl⟩ _)⟩
            · have hV : U = none := by rw [hU2.out, if_neg (by omega), if_neg (by omega), if_neg (by omega), if_neg (by omega)]
              subst hV
              go_wp2
              go_ret2
              exact ⟨rfl, hB.out.trans (Qt.below ⟨_, rfl⟩ _)⟩
    · have hil : i < xs.length := by have := hn.out; omega
      obtain ⟨x, hx⟩ : ∃ x, Hid (xs[i] = x) := ⟨xs[i], rfl⟩
      obtain ⟨rb, off, rfl, hcell⟩ := h4'.out i (by simp [fvals]; omega)
      have hcx : wr.cell? ⟨rb, off + i, none⟩ = some (.float .f64 x) := by
        rw [hB.out.cell (p := ⟨rb, off + i, none⟩) (lt_of_cell hcell), hcell, ← hx.out]
        simp [fvals]
      clear hcell
      obtain ⟨c, hc⟩ : ∃ c : Nat, Hid (classB x = (c : Int)) := ⟨(classB x).toNat, by show _ = _; have := class_mem x; omega⟩
      have hc2 : Hid (c < 10) := by have := class_mem x; have := hc.out; show _ < _; omega
      have hk := hC.out.cell c hc2.out
      have hf := hC.out.frozen c
      have hcl : cnt (xs.take i) c ≤ i := Nat.le_trans (cnt_le _ _) (by rw [List.length_take]; omega)
      have hM : Hid (Ct (wr.setCell ⟨w.heap.size, c, none⟩ (.int .i64 ((cnt (xs.take i) c : Int) + 1))) w.heap.size (xs.take (i + 1))) := by
        have := hC.out.more x c hc.out
        rwa [← hx.out, ← List.take_succ_eq_append_getElem hil] at this
      obtain ⟨m, hm⟩ : ∃ m, Hid (cnt (xs.take i) c = m) := ⟨_, rfl⟩
      rw [hm.out] at hk hcl
      rw [hm.out] at hM
      have i1 : (i : Int) < (n : Int) := by omega
      have i2 : (0 : Int) ≤ (i : Int) := by omega
      go_wp2_with fail
      refine (class_any _ x (hb.out x (by rw [← hx.out]; exact List.getElem_mem hil))).mono ?_
      rintro e w2 ⟨rfl, rfl⟩
      rw [hc.out]
      have hc3 : (c : Int) < 10 := by have := hc2.out; omega
      have hc4 : (0 : Int) ≤ (c : Int) := by omega
      go_wp2_with fail
      go_roundw
      case rel => exact ⟨i + 1, by omega, by go_num, hM.out, hB.out.setCell (p := ⟨w.heap.size, c, none⟩) (Nat.le_refl _) _⟩
      case measure => simp [intOf]; omega
#print axioms unsummed_any
end Go.Proofs.YtojohcckaklmpaaDoor.Rl
