/-
  append(v, make([]byte, n)...), as an equation.
-/
import Derived.Test.YtdelknejmapeaaaDlN
namespace Go.Proofs.Ytdelknejmapeaaa.Dk
open Go.RowKit Go.Maps Go.Sort Go.Shelf Go.Proofs.Ytdelknejmapeaaa.Nm

theorem zeroCells_u8 (n : Nat) : Builtin.zeroCells (Value.cells (.int .u8 0)) n = (bvals (List.replicate n 0)).toArray := by
  have : Builtin.zeroCells (Value.cells (.int .u8 0)) n = (List.replicate n (Value.int .u8 0)).toArray := by
    apply Array.ext
    · simp [Builtin.zeroCells, Value.cells]
    · intro i h1 h2
      simp [Builtin.zeroCells, Value.cells, Nat.mod_one]
  rw [this]
  unfold bvals
  rw [List.map_replicate]
  rfl
theorem run_zeros {B : Nat} {w : World} {v : Value} {l : List UInt8} (h : Ob B w v l) (n : Nat) (hl : l.length + n ≤ 140737488355328) (hB : B ≤ w.heap.size) (ty : TypeId) :
    ∃ v' w', (Builtin.append_ #[22, 3] ty #[v, .int .i64 (n : Int)]).run Try.prog w = .ok v' w' ∧ Ob B w' v' (l ++ List.replicate n 0) ∧ w.grownBy w' v.ownBlock := by
  obtain ⟨i0, hi, hz0, hz1, hz2⟩ := info_parts infoB
  have hw : IntKind.i64.wrap (n : Int) = n := by rw [IntKind.wrap_i64]; omega
  have hai : ∀ q : World, (asInt (.int .i64 (n : Int))).run Try.prog q = .ok (n : Int) q := fun q => rfl
  have hneg : ¬ (n : Int) < 0 := by omega
  have h48 : ¬ (281474976710656 < (n : Int)) := by omega
  have hbl : (bvals (List.replicate n 0)).length = n := by simp [bvals]
  have hone : ∀ u ∈ bvals (List.replicate n 0), u.oneCell' = true := by
    intro u hu
    simp only [bvals, List.mem_map] at hu
    obtain ⟨c, _, rfl⟩ := hu
    rfl
  have hlen : (bvals l ++ bvals (List.replicate n 0)).length = l.length + n := by rw [List.length_append, hbl]; simp [bvals]
  have h48i : ¬ (281474976710656 < (n : Int) * (i0.bytes : Int)) := by rw [hz2]; omega
  by_cases n0 : n = 0
  · refine ⟨v, w, ?_, by subst n0; simpa using h, ⟨rfl, rfl, rfl, Nat.le_refl _, fun _ _ _ => rfl⟩⟩
    obtain ⟨ao, ca, rfl, h1, h2⟩ := h.form
    have h1' : l.length + n ≤ ca := by omega
    have e1 : l.length + n = l.length := by omega
    have e2 : n * i0.size = 0 := by rw [n0]; simp
    cases ao with
    | none =>
               simp [Builtin.append_, run_underlying Try.underlying22, run_underlying Try.underlying3, sizeOf, typeInfo, hi, asInt, asIntOf, hw, hneg, h48i, e1]
               intro c; omega
    | some a =>
                 simp [Builtin.append_, run_underlying Try.underlying22, run_underlying Try.underlying3, sizeOf, typeInfo, hi, asInt, asIntOf, hw, hneg, h48i, e1, e2, storeCells]
                 intro c; omega
  · have grown : ∀ (old : Nat), ∀ (row : Option Nat),
        Ob B (w.drew.alloc (.cells ((bvals l).toArray ++ (bvals (List.replicate n 0)).toArray ++ Builtin.zeroCells (Value.cells (.int .u8 0)) (grownCap w (l.length + n) old 5 - (l.length + n))) 5))
          (.slice (some ⟨w.heap.size, 0, none⟩) (l.length + n) (grownCap w (l.length + n) old 5)) (l ++ List.replicate n 0) ∧
        w.grownBy (w.drew.alloc (.cells ((bvals l).toArray ++ (bvals (List.replicate n 0)).toArray ++ Builtin.zeroCells (Value.cells (.int .u8 0)) (grownCap w (l.length + n) old 5 - (l.length + n))) 5)) row := by
      intro old row
      have hge := grownCap_ge w (l.length + n) old 5
      have hcm : grownCap w (l.length + n) old 5 ≤ maxLen := grownCap_le_maxLen w (l.length + n) old 5 (by unfold maxLen; omega)
      refine ⟨?_, ⟨rfl, rfl, rfl, by simp, fun k hk _ => Below.heap_alloc w.drew _ k hk⟩⟩
      unfold Ob
      rw [List.length_append, List.length_replicate, bvals_append]
      refine ⟨by rw [hlen]; omega, .inr ⟨w.heap.size, _, _, rfl, hB, heap_alloc_new w.drew _, hge, hcm, ?_, ?_⟩⟩
      · simp only [Array.size_append, List.size_toArray, size_zeroCells, hbl]
        have : (bvals l).length = l.length := by simp [bvals]
        have e : (Value.cells (.int .u8 0)).size = 1 := rfl
        rw [this, e]
        omega
      · simp only [Array.toList_append, Nat.mul_one]
        rw [← hlen]
        exact List.take_left
    rcases h.2 with ⟨rfl, e0⟩ | ⟨g, cap, cur, rfl, hbg, hg, hnc, hcm, hcs, htake⟩
    · have e1 : l = [] := List.length_eq_zero_iff.1 e0
      subst e1
      have hr := Lib.run_append_nil_zeros (P := Try.prog) w 22 3 ty 5 i0 (.int .u8 0) .i64 .i64 Try.underlying22 Try.underlying3 hi hz0 n (by omega) (by omega) (by omega) (by rw [hz2]; omega)
      obtain ⟨k1, k2⟩ := grown 0 (Value.ownBlock (.slice none 0 0))
      rw [← zeroCells_u8] at k1 k2
      simp only [List.length_nil, Nat.zero_add, bvals, List.map_nil, Array.empty_append] at k1 k2 hr ⊢
      exact ⟨_, _, hr, k1, k2⟩
    · by_cases hroom : l.length + n ≤ cap
      · have hst := run_storeCells_at Try.prog g l.length 5 (bvals (List.replicate n 0)) 0 cur w hg (by rw [hbl, hcs]; omega) hone
        simp only [Nat.add_zero] at hst
        have hzz := zeroCells_u8 n
        have e2 : ¬ n * i0.size = 0 := by rw [hz1]; omega
        refine ⟨.slice (some ⟨g, 0, none⟩) (l.length + n) cap, w.setRow g (cur.toList.take l.length ++ bvals (List.replicate n 0) ++ cur.toList.drop (l.length + n)).toArray, ?_, ?_, ?_⟩
        · rw [hbl] at hst
          simp [Builtin.append_, run_underlying Try.underlying22, run_underlying Try.underlying3, sizeOf, typeInfo, hi, asInt, asIntOf, hw, hneg, hroom, h48i, hzz, hz1, n0, Addr.add_lit, hst]
        · unfold Ob
          rw [List.length_append, List.length_replicate, bvals_append]
          refine ⟨by rw [hlen]; omega, .inr ⟨g, cap, _, rfl, hbg, setRow_heap w g cur _ 5 _ hg, hroom, hcm, ?_, ?_⟩⟩
          · simp only [List.size_toArray, List.length_append, List.length_take, List.length_drop, Array.length_toList, hbl]
            omega
          · have ht : cur.toList.take l.length = bvals l := by rw [← htake, Nat.mul_one]
            rw [ht, Nat.mul_one, ← hlen]
            exact List.take_left
        · exact ⟨rfl, rfl, rfl, by simp, fun k _ hk => setRow_other w g k _ (fun e => hk (by simp [Value.ownBlock, e]))⟩
      · have holds : ∀ j u, (bvals l)[j]? = some u → w.cell? ((⟨g, 0, none⟩ : Addr).add j) = some u := World.ownsRow.cells h (g := g) rfl
        have hfo := run_firstCells_some (P := Try.prog) w.drew i0.size l.length ⟨g, 0, none⟩ l.length cap (bvals l) (by rw [hz1]; simp [bvals]) (by simpa using holds)
        have hn : ¬ (l.length + n ≤ cap) := hroom
        have h63' : ¬ (9223372036854775807 < ((l.length : Int) + (n : Int))) := by omega
        have h48' : ¬ (281474976710656 < Builtin.nextslicecap (l.length + n) cap * i0.bytes) := by
          have := growslice_fits (need := l.length + n) (old := cap) (bytes := i0.bytes) (by omega) (by rw [hz2]; omega)
          omega
        have e2 : ¬ n * i0.size = 0 := by rw [hz1]; omega
        obtain ⟨k1, k2⟩ := grown cap (Value.ownBlock (.slice (some ⟨g, 0, none⟩) l.length cap))
        refine ⟨_, _, ?_, k1, k2⟩
        simp [Builtin.append_, run_underlying Try.underlying22, run_underlying Try.underlying3, sizeOf, typeInfo, zeroValue, hi, hz0, asInt, asIntOf, hw, hneg, hn, h63', h48', h48i, e2, Question.forced, hfo, newRow, grownCap, zeroCells_u8]
end Go.Proofs.Ytdelknejmapeaaa.Dk
