/-
  WireRuns returns true, and writes nothing that was there, where the strings together are not too long.
-/
import Derived.Test.YtjajnioocoinlabRunsA
namespace Go.Proofs.Ytjajnioocoinlab
open Go.RowKit

theorem sum_range_le (ls : List (List UInt8)) : ∀ n, n ≤ ls.length → ((List.range n).map fun i => (ls.getD i []).length).sum ≤ (ls.map List.length).sum := by
  intro n hn
  have h : ((List.range n).map fun i => (ls.getD i []).length) = (ls.take n).map List.length := by
    apply List.ext_getElem
    · simp; omega
    · intro i h1 h2
      simp at h1 h2
      have : i < ls.length := by omega
      simp [List.getD, this]
  rw [h]
  have e : (ls.map List.length).sum = ((ls.take n).map List.length).sum + ((ls.drop n).map List.length).sum := by
    rw [← List.sum_append, ← List.map_append, List.take_append_drop]
  omega

set_option maxHeartbeats 1000000 in
theorem runs_top (x y z : Value) (us is : List Int) (vs : List Value) (ls : List (List UInt8)) (w : World) (hx : Row w x (us.map (Value.int .u64))) (hy : Row w y (is.map (Value.int .i64))) (hz : Row w z vs) (hs : Sls w vs ls)
    (hu : ∀ n ∈ us, (Lit.int .u64 n).wf = true) (hi : ∀ n ∈ is, (Lit.int .i64 n).wf = true) (hsum : (ls.map List.length).sum ≤ 1048576) :
    Calls Try.prog 4 #[x, y, z] w fun e w' => e = .returned (.bool true) ∧ Below w.heap.size w w' := by
  obtain ⟨a1, c1, rfl, _, m1, m2, g1⟩ := hx
  obtain ⟨a2, c2, rfl, _, k1, k2, g2⟩ := hy
  obtain ⟨a3, c3, rfl, _, l1, l2, g3⟩ := hz
  simp only [List.length_map] at m1 k1
  have hm1 : us.length ≤ 9223372036854775807 := by unfold maxLen at m2; omega
  have hm2 : is.length ≤ 9223372036854775807 := by unfold maxLen at k2; omega
  have hm3 : vs.length ≤ 9223372036854775807 := by unfold maxLen at l2; omega
  rw [List.length_map, List.length_map]
  by_cases e1 : us.length = is.length
  · by_cases e2 : us.length = vs.length
    · by_cases e3 : us.length ≤ 60
      · have hl := hs.1
        rw [← e1, ← e2]
        have P := runs_walk w a1 a2 a3 c1 c2 c3 us.length (fun i => us.getD i 0) (fun i => is.getD i 0) (fun i => vs.getD i undef) (fun i => ls.getD i []) e3
        refine P ?_ ?_ ?_ ?_ ?_ ?_ ?_ ?_
        · intro i hi
          obtain ⟨b, off, e, hc⟩ := g1 i (by simpa using hi)
          exact ⟨b, off, e, by rw [hc]; simp [List.getD, hi]⟩
        · intro i hi
          have hi' : i < is.length := by omega
          obtain ⟨b, off, e, hc⟩ := g2 i (by simpa using hi')
          exact ⟨b, off, e, by rw [hc]; simp [List.getD, hi']⟩
        · intro i hi
          have hi' : i < vs.length := by omega
          obtain ⟨b, off, e, hc⟩ := g3 i hi'
          exact ⟨b, off, e, by rw [hc]; simp [List.getD, hi']⟩
        · intro i hi
          have h1 : i < vs.length := by omega
          have h2 : i < ls.length := by omega
          have := hs.2 i h1 h2
          simpa [List.getD, h1, h2] using this
        · intro i hi
          have := u64_bounds (hu us[i] (List.getElem_mem hi))
          simpa [List.getD, hi] using this
        · intro i hi'
          have h1 : i < is.length := by omega
          have := i64_bounds (hi is[i] (List.getElem_mem h1))
          simpa [List.getD, h1] using this
        · intro i hi
          have h2 : i < ls.length := by omega
          have := sum_range_le ls (i + 1) (by omega)
          rw [List.range_succ, List.map_append, List.sum_append] at this
          simp only [List.map_cons, List.map_nil, List.sum_cons, List.sum_nil] at this
          omega
        · intro k hk
          have h1 := runs_len (fun i => piece (us.getD i 0) (is.getD i 0) (ls.getD i [])) (fun i => (ls.getD i []).length) (fun k => piece_len _ _ _) k
          have h2 := sum_range_le ls k (by omega)
          omega
      · have q1 : (((us.length : Nat) : Int) != ((is.length : Nat) : Int)) = false := by simp; omega
        have q2 : (((us.length : Nat) : Int) != ((vs.length : Nat) : Int)) = false := by simp; omega
        have q3 : (60 : Int) < ((us.length : Nat) : Int) := by omega
        clear e1 e2 e3
        go_enter Try.func4, Try.ntmps4
        go_wp2_with fail
        refine (begun_any w).mono ?_
        rintro e w1 ⟨rfl, b1⟩
        go_wp2
        go_ret
        exact ⟨rfl, b1⟩
    · have q1 : (((us.length : Nat) : Int) != ((is.length : Nat) : Int)) = false := by simp; omega
      have q2 : (((us.length : Nat) : Int) != ((vs.length : Nat) : Int)) = true := by simp; omega
      clear e1 e2
      go_enter Try.func4, Try.ntmps4
      go_wp2_with fail
      refine (begun_any w).mono ?_
      rintro e w1 ⟨rfl, b1⟩
      go_wp2
      go_ret
      exact ⟨rfl, b1⟩
  · have q1 : (((us.length : Nat) : Int) != ((is.length : Nat) : Int)) = true := by simp; omega
    clear e1
    go_enter Try.func4, Try.ntmps4
    go_wp2_with fail
    refine (begun_any w).mono ?_
    rintro e w1 ⟨rfl, b1⟩
    go_wp2
    go_ret
    exact ⟨rfl, b1⟩
#print axioms runs_top
end Go.Proofs.Ytjajnioocoinlab
