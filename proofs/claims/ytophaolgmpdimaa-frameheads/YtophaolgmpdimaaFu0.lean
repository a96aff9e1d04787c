/-
  Two equal heads are not unlike.
-/
import Derived.Test.YtophaolgmpdimaaFs
import Derived.Laws.StructEq
namespace Go.Proofs.Ytophaolgmpdimaa
open Go.RowKit
set_option maxRecDepth 100000

theorem headFs : ∃ n0 n1 n2 : String, Try.prog.underlying 50 = some (.struct (Try.prog.fieldsOf 50)) ∧ (Try.prog.fieldsOf 50).toList.map (fun f => (f.name, f.type, f.offset)) = [(n0, 2, 0), (n1, 2, 1), (n2, 35, 2)] ∧ n0 ≠ "_" ∧ n1 ≠ "_" ∧ n2 ≠ "_" :=
  ⟨"Num", "Base", "Seed", by kernel_rfl, by kernel_rfl, by decide, by decide, by decide⟩
theorem headHeld : Try.prog.stoodInHeld 50 = false := by kernel_rfl
theorem headEq (w : World) (a b : Int) (c : Int) : (Op.equalIn 10000 50 (.agg #[.int .i64 a, .int .i64 b, .int .u32 c]) (.agg #[.int .i64 a, .int .i64 b, .int .u32 c])).run Try.prog w = .ok true w := by
  obtain ⟨n0, n1, n2, h1, h2, h3, h4, h5⟩ := headFs
  rw [run_equalIn_struct w 9999 50 _ _ h1 headHeld]
  generalize (Try.prog.fieldsOf 50).toList = fs at h2
  have hl : fs.length = 3 := by have := congrArg List.length h2; simpa using this
  match fs, hl with
  | [f0, f1, f2], _ =>
    simp only [List.map_cons, List.map_nil, List.cons.injEq, Prod.mk.injEq, and_true] at h2
    obtain ⟨⟨a1, a2, a3⟩, ⟨b1, b2, b3⟩, ⟨c1, c2, c3⟩⟩ := h2
    have p0 : f0.name ≠ "_" := by rw [a1]; exact h3
    have p1 : f1.name ≠ "_" := by rw [b1]; exact h4
    have p2 : f2.name ≠ "_" := by rw [c1]; exact h5
    simp [Op.eqFields, p0, p1, p2, a2, a3, b2, b3, c2, c3, go_sem]
theorem headNeq (w : World) (a b : Int) (c : Int) : (binOp .neq 50 (.agg #[.int .i64 a, .int .i64 b, .int .u32 c]) (.agg #[.int .i64 a, .int .i64 b, .int .u32 c])).run Try.prog w = .ok (.bool false) w := by
  rw [run_neq_struct, headEq]
  rfl
#print axioms headNeq
end Go.Proofs.Ytophaolgmpdimaa
