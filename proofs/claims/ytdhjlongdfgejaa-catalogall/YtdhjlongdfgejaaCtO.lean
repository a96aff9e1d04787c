/-
  Catalogs that are alike, held against one another.
-/
import Derived.Test.YtdhjlongdfgejaaCtM
import Derived.Test.YtdhjlongdfgejaaCtN
import Derived.Laws.StructEq
import Derived.BigQuiet
namespace Go.Proofs.Ytdhjlongdfgejaa.Ct
open Go.RowKit

theorem segFs : ∃ n0 n1 n2 n3 n4 : String, Try.prog.underlying 53 = some (.struct (Try.prog.fieldsOf 53)) ∧ ((Try.prog.fieldsOf 53).toList.map fun f => (f.name, f.type, f.offset)) = [(n0, 2, 0), (n1, 2, 1), (n2, 23, 2), (n3, 2, 3), (n4, 3, 4)] ∧ n0 ≠ "_" ∧ n1 ≠ "_" ∧ n2 ≠ "_" ∧ n3 ≠ "_" ∧ n4 ≠ "_" :=
  ⟨ "Num", "Base", "Seed", "End", "Size", by kernel_rfl, by kernel_rfl, by decide, by decide, by decide, by decide, by decide⟩
theorem segHeld : Try.prog.stoodInHeld 53 = false := by kernel_rfl
theorem segEq (w : World) (a b c d e : Int) : (Op.equalIn 10000 53 (.agg #[.int .i64 a, .int .i64 b, .int .u32 c, .int .i64 d, .int .i64 e]) (.agg #[.int .i64 a, .int .i64 b, .int .u32 c, .int .i64 d, .int .i64 e])).run Try.prog w = .ok true w := by
  obtain ⟨n0, n1, n2, n3, n4, h1, h2, h3, h4, h5, h6, h7⟩ := segFs
  rw [run_equalIn_struct w 9999 53 _ _ h1 segHeld]
  generalize (Try.prog.fieldsOf 53).toList = fs at h2
  have hl : fs.length = 5 := by have := congrArg List.length h2; simpa using this
  match fs, hl with
  | [f0, f1, f2, f3, f4], _ =>
    simp only [List.map_cons, List.map_nil, List.cons.injEq, Prod.mk.injEq, and_true] at h2
    obtain ⟨⟨a1, a2, a3⟩, ⟨b1, b2, b3⟩, ⟨c1, c2, c3⟩, ⟨d1, d2, d3⟩, ⟨e1, e2, e3⟩⟩ := h2
    have p0 : f0.name ≠ "_" := by rw [a1]; exact h3
    have p1 : f1.name ≠ "_" := by rw [b1]; exact h4
    have p2 : f2.name ≠ "_" := by rw [c1]; exact h5
    have p3 : f3.name ≠ "_" := by rw [d1]; exact h6
    have p4 : f4.name ≠ "_" := by rw [e1]; exact h7
    simp [Op.eqFields, p0, p1, p2, p3, p4, a2, a3, b2, b3, c2, c3, d2, d3, e2, e3, go_sem]
theorem segNeq (w : World) (a b c d e : Int) : (binOp .neq 53 (.agg #[.int .i64 a, .int .i64 b, .int .u32 c, .int .i64 d, .int .i64 e]) (.agg #[.int .i64 a, .int .i64 b, .int .u32 c, .int .i64 d, .int .i64 e])).run Try.prog w = .ok (.bool false) w := by
  rw [run_neq_struct, segEq]
  rfl
#print axioms segNeq
set_option maxHeartbeats 1000000 in
theorem eq_same (w : World) (g f : Int) (v v' : Value) (l : List Sg) (hv : Sgs w v l) (hv' : Sgs w v' l) :
    Calls Try.prog 20 #[.agg #[.int .i64 g, .int .i64 f, v], .agg #[.int .i64 g, .int .i64 f, v']] w fun e w' => e = .returned (.bool true) ∧ Below w.heap.size w w' := by
  obtain ⟨N, hN⟩ : ∃ N, Hid (l.length = N) := ⟨_, rfl⟩
  have H1 := hide hv
  have H2 := hide hv'
  obtain ⟨ao, ca, rfl, q1, q2⟩ := hv.form
  obtain ⟨ao', ca', rfl, q1', q2'⟩ := hv'.form
  rw [hN.out] at H1 H2 q1 q1' ⊢
  have hq := segNeq
  have X0 := hide (box_below w (.cells #[.int .i64 g, .int .i64 f, .slice ao N ca] 29))
  have X1 := hide (box_below (w.alloc (.cells #[.int .i64 g, .int .i64 f, .slice ao N ca] 29)) (.cells #[.int .i64 g, .int .i64 f, .slice ao' N ca'] 29))
  have BB := hide (keepF X0.out X1.out)
  have Z1 : Hid (((w.alloc (.cells #[.int .i64 g, .int .i64 f, .slice ao N ca] 29)).alloc (.cells #[.int .i64 g, .int .i64 f, .slice ao' N ca'] 29)).heap[w.heap.size]? = some (.cells #[.int .i64 g, .int .i64 f, .slice ao N ca] 29 (0, 0))) := by
    show _ = _
    rw [X1.out.block w.heap.size (by simp), heap_alloc_new]
  have Z2 : Hid (((w.alloc (.cells #[.int .i64 g, .int .i64 f, .slice ao N ca] 29)).alloc (.cells #[.int .i64 g, .int .i64 f, .slice ao' N ca'] 29)).heap[w.heap.size + 1]? = some (.cells #[.int .i64 g, .int .i64 f, .slice ao' N ca'] 29 (0, 0))) := by
    show _ = _
    have := heap_alloc_new (w.alloc (.cells #[.int .i64 g, .int .i64 f, .slice ao N ca] 29)) (.cells #[.int .i64 g, .int .i64 f, .slice ao' N ca'] 29)
    simpa using this
  replace H1 := hide (H1.out.below BB.out)
  replace H2 := hide (H2.out.below BB.out)
  clear hv hv'
  go_enter Try.func20, Try.ntmps20
  go_upto_region 1 with fail
  generalize ((w.alloc (.cells #[.int .i64 g, .int .i64 f, .slice ao N ca] 29)).alloc (.cells #[.int .i64 g, .int .i64 f, .slice ao' N ca'] 29)) = w1 at *
  clear X0 X1
  obtain ⟨c0, c1, c2⟩ := three_cells Z1.out
  obtain ⟨d0, d1, d2⟩ := three_cells Z2.out
  go_wp2_with fail
  go_loopw [5] (fun vi wr => ∃ i : Nat, i ≤ N ∧ vi = .int .i64 (i : Int) ∧ Hid (Qt w1 wr)) (fun vi _ => N - (intOf vi).toNat)
  case atStart => exact ⟨0, Nat.zero_le _, rfl, Qt.refl _⟩
  case round =>
    obtain ⟨i, hi, rfl, hQ⟩ := hrel
    have c2' := c2
    have d2' := d2
    rw [← hQ.out.cell] at c2' d2'
    by_cases hlt : i < N
    · obtain ⟨b, off, x1, e1, _, _, hc⟩ := H1.out.at (by rw [hN.out]; omega)
      obtain ⟨b', off', x2, e2, _, _, hc'⟩ := H2.out.at (by rw [hN.out]; omega)
      rw [hN.out] at e1 e2 hc hc'
      simp only [Value.slice.injEq, true_and] at e1 e2
      obtain ⟨rfl, rfl⟩ := e1
      obtain ⟨rfl, rfl⟩ := e2
      obtain ⟨k0, k1, k2, k3, k4⟩ := (hc i hlt).below (hQ.out.below _)
      obtain ⟨j0, j1, j2, j3, j4⟩ := (hc' i hlt).below (hQ.out.below _)
      clear hc hc'
      generalize sg l i = s at *
      obtain ⟨nm, ba, se, en, sz⟩ := s
      dsimp only at k0 k1 k2 k3 k4 j0 j1 j2 j3 j4
      have hlt' : (i : Int) < (N : Int) := by omega
      clear c0 c1 c2 d0 d1 d2
      go_upto_region 6 with fail
      go_quiet (fail)
      go_wp2_with fail
      go_roundw
      case rel => exact ⟨i + 1, by omega, by go_num, hQ.out.trans ⟨_, rfl⟩⟩
      case measure => simp [intOf]; omega
    · obtain rfl : i = N := by omega
      have BF : Hid (Below w.heap.size w wr) := keepF BB.out (hQ.out.below _)
      go_wp2_with fail
      go_ret
      exact ⟨rfl, BF.out⟩
#print axioms eq_same
end Go.Proofs.Ytdhjlongdfgejaa.Ct
