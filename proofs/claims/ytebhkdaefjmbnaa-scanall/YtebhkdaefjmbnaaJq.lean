/-
  Two Scans that are alike, compared (as in Jk: never import both).
-/
import Derived.Test.YtebhkdaefjmbnaaGen
import Derived.Laws.StructEq
namespace Go.Proofs.Ytebhkdaefjmbnaa
open Go.RowKit

theorem scanFs : ∃ n0 n1 n2 n3 n4 : String, Try.prog.underlying 28 = some (.struct (Try.prog.fieldsOf 28)) ∧ (Try.prog.fieldsOf 28).toList.map (fun f => (f.name, f.type, f.offset)) = [(n0, 3, 0), (n1, 3, 1), (n2, 2, 2), (n3, 23, 3), (n4, 3, 4)] ∧ n0 ≠ "_" ∧ n1 ≠ "_" ∧ n2 ≠ "_" ∧ n3 ≠ "_" ∧ n4 ≠ "_" :=
  ⟨ "Count", "End", "Next", "Seed", "Why", by kernel_rfl, by kernel_rfl, by decide, by decide, by decide, by decide, by decide⟩
theorem scanHeld : Try.prog.stoodInHeld 28 = false := by kernel_rfl
theorem scanEq (w : World) (a b c d e : Int) : (Op.equalIn 10000 28 (.agg #[.int .i64 a, .int .i64 b, .int .i64 c, .int .u32 d, .int .i64 e]) (.agg #[.int .i64 a, .int .i64 b, .int .i64 c, .int .u32 d, .int .i64 e])).run Try.prog w = .ok true w := by
  obtain ⟨n0, n1, n2, n3, n4, h1, h2, h3, h4, h5, h6, h7⟩ := scanFs
  rw [run_equalIn_struct w 9999 28 _ _ h1 scanHeld]
  generalize (Try.prog.fieldsOf 28).toList = fs at h2
  have hl : fs.length = 5 := by have := congrArg List.length h2; simpa using this
  match fs, hl with
  | [f0, f1, f2, f3, f4], _ =>
    simp only [List.map_cons, List.map_nil, List.cons.injEq, Prod.mk.injEq, and_true] at h2
    obtain ⟨⟨a1, a2, a3⟩, ⟨b1, b2, b3⟩, ⟨c1, c2, c3⟩, ⟨d1, d2, d3⟩, ⟨e1, e2, e3⟩⟩ := h2
    have p0 : f0.name ≠ "_" := by rw [a1]; exact h3
    have p1 : f1.name ≠ "_" := by rw [b1]; exact h4
    have p2 : f2.name ≠ "_" := by rw [c1]; exact h5
    have p3 : f3.name ≠ "_" := by rw [d1]; exact h6
    have p4 : f4.name ≠ "_" := by rw [e1]; exact h7
    simp [Op.eqFields, p0, p1, p2, p3, p4, a2, a3, b2, b3, c2, c3, d2, d3, e2, e3, go_sem]
theorem scanEql (w : World) (a b c d e : Int) : (binOp .eql 28 (.agg #[.int .i64 a, .int .i64 b, .int .i64 c, .int .u32 d, .int .i64 e]) (.agg #[.int .i64 a, .int .i64 b, .int .i64 c, .int .u32 d, .int .i64 e])).run Try.prog w = .ok (.bool true) w := by
  rw [run_eql_struct, scanEq]
  rfl
theorem scanNeq (w : World) (a b c d e : Int) : (binOp .neq 28 (.agg #[.int .i64 a, .int .i64 b, .int .i64 c, .int .u32 d, .int .i64 e]) (.agg #[.int .i64 a, .int .i64 b, .int .i64 c, .int .u32 d, .int .i64 e])).run Try.prog w = .ok (.bool false) w := by
  rw [run_neq_struct, scanEq]
  rfl


end Go.Proofs.Ytebhkdaefjmbnaa
