/-
  Entries held against one another; what every statement of the ninth layer asks ahead (flumelaw9.begun) is answered true.
-/
import Derived.Test.YtoffahbnffhliaaIxJ
import Derived.Laws.StructEq
namespace Go.Proofs.Ytoffahbnffhliaa.Ix
open Go.RowKit

theorem entFs : ∃ n0 n1 : String, Try.prog.underlying 35 = some (.struct (Try.prog.fieldsOf 35)) ∧ ((Try.prog.fieldsOf 35).toList.map fun f => (f.name, f.type, f.offset)) = [(n0, 2, 0), (n1, 3, 1)] ∧ n0 ≠ "_" ∧ n1 ≠ "_" :=
  ⟨ "LSN", "Off", by kernel_rfl, by kernel_rfl, by decide, by decide⟩
theorem entHeld : Try.prog.stoodInHeld 35 = false := by kernel_rfl
theorem entEq (w : World) (a b c d : Int) : (Op.equalIn 10000 35 (.agg #[.int .i64 a, .int .i64 b]) (.agg #[.int .i64 c, .int .i64 d])).run Try.prog w = .ok (decide (a = c ∧ b = d)) w := by
  obtain ⟨n0, n1, h1, h2, h3, h4⟩ := entFs
  rw [run_equalIn_struct w 9999 35 _ _ h1 entHeld]
  generalize (Try.prog.fieldsOf 35).toList = fs at h2
  have hl : fs.length = 2 := by have := congrArg List.length h2; simpa using this
  match fs, hl with
  | [f0, f1], _ =>
    simp only [List.map_cons, List.map_nil, List.cons.injEq, Prod.mk.injEq, and_true] at h2
    obtain ⟨⟨a1, a2, a3⟩, ⟨b1, b2, b3⟩⟩ := h2
    have p0 : f0.name ≠ "_" := by rw [a1]; exact h3
    have p1 : f1.name ≠ "_" := by rw [b1]; exact h4
    by_cases q1 : a = c <;> by_cases q2 : b = d <;> simp [Op.eqFields, p0, p1, a2, a3, b2, b3, go_sem, q1, q2]
theorem entEql (w : World) (a b c d : Int) : (binOp .eql 35 (.agg #[.int .i64 a, .int .i64 b]) (.agg #[.int .i64 c, .int .i64 d])).run Try.prog w = .ok (.bool (decide (a = c ∧ b = d))) w := by
  rw [run_eql_struct, entEq]
  rfl
theorem entNeq (w : World) (a b c d : Int) : (binOp .neq 35 (.agg #[.int .i64 a, .int .i64 b]) (.agg #[.int .i64 c, .int .i64 d])).run Try.prog w = .ok (.bool (!decide (a = c ∧ b = d))) w := by
  rw [run_neq_struct, entEq]
  rfl
def x3 : X := ⟨100, [(5, 32), (7, 132)], (7, 132)⟩
theorem add1 : addF ⟨100, [], (0, 0)⟩ 5 32 = (0, ⟨100, [(5, 32)], (5, 32)⟩) := by rfl
theorem add2 : addF ⟨100, [(5, 32)], (5, 32)⟩ 6 80 = (0, ⟨100, [(5, 32)], (6, 80)⟩) := by rfl
theorem add3 : addF ⟨100, [(5, 32)], (6, 80)⟩ 7 132 = (0, x3) := by rfl
theorem add4 : addF x3 9 140 = (63, x3) := by rfl
theorem ok1 : Ok ⟨100, [(5, 32)], (5, 32)⟩ := by have := (Ok.new (st := 100) (by decide) (by decide)).add 5 32 (by decide); rw [add1] at this; exact this
theorem ok2 : Ok ⟨100, [(5, 32)], (6, 80)⟩ := by have := ok1.add 6 80 (by decide); rw [add2] at this; exact this
theorem ok3 : Ok x3 := by have := ok2.add 7 132 (by decide); rw [add3] at this; exact this
theorem find3 : findF x3.l 6 = ((5, 32), true) := by rfl
/-- An index of the call's own: all of it lies behind what was there in w. -/
structure Mine (T : TypeId) (w wr : World) (b : Nat) (x : X) (v : Value) : Prop where
  at0 : At T wr b x v
  bel : Below w.heap.size w wr
  lo : w.heap.size ≤ b
  own : ∀ k, v.ownBlock = some k → w.heap.size ≤ k
theorem Mine.below {T : TypeId} {w wr w' : World} {b : Nat} {x : X} {v : Value} (h : Mine T w wr b x v) (hb : Below wr.heap.size wr w') : Mine T w w' b x v :=
  ⟨h.at0.below hb, keepF h.bel hb, h.lo, h.own⟩
theorem Mine.next {T : TypeId} {w wr w' : World} {b : Nat} {x x' : X} {v v' : Value} (h : Mine T w wr b x v) (ha : At T w' b x' v') (hb : But (Own b v) wr w') (ho : ∀ k, v'.ownBlock = some k → v.ownBlock = some k ∨ wr.heap.size ≤ k) : Mine T w w' b x' v' :=
  ⟨ha, h.bel.trans (hb.below h.bel.size fun k hk => by
    rcases hk with rfl | hk
    · exact h.lo
    · exact h.own k hk), h.lo, fun k hk => (ho k hk).elim (h.own k) fun e => Nat.le_trans h.bel.size e⟩
theorem begun_any (w : World) : Calls Try.prog 8 #[] w fun e w' => e = .returned (.bool true) ∧ Below w.heap.size w w' := by
  have hq : ∀ (a b c d : Int) (u : World), (binOp .eql 35 (.agg #[.int .i64 a, .int .i64 b]) (.agg #[.int .i64 c, .int .i64 d])).run Try.prog u = .ok (.bool (decide (a = c ∧ b = d))) u := fun a b c d u => entEql u a b c d
  go_enter Try.func8, Try.ntmps8
  go_wp2_with fail
  refine (new_any w 100 (by decide) (by decide)).mono ?_
  rintro e w1 ⟨B1, ⟨h, _⟩ | ⟨_, _, b, lo, rfl, A1⟩⟩
  · exact absurd ⟨by decide, by decide⟩ h
  have M1 : Hid (Mine TI w w1 b ⟨100, [], (0, 0)⟩ (.slice none 0 0)) := ⟨A1, B1, lo, fun k hk => by simp [Value.ownBlock] at hk⟩
  clear A1 B1 lo
  go_wp2_with fail
  refine (add_any w1 b _ _ 5 32 M1.out.at0 (Ok.new (by decide) (by decide)) (by decide) (by decide) (by decide) (by decide)).mono ?_
  rintro e w2 ⟨rfl, v2, a, c, d⟩
  rw [add1] at a ⊢
  have M2 := hide (M1.out.next a c d)
  clear a c d M1
  go_wp2_with fail
  refine (add_any w2 b _ _ 6 80 M2.out.at0 ok1 (by decide) (by decide) (by decide) (by decide)).mono ?_
  rintro e w3 ⟨rfl, v3, a, c, d⟩
  rw [add2] at a ⊢
  have M3 := hide (M2.out.next a c d)
  clear a c d M2
  go_wp2_with fail
  refine (add_any w3 b _ _ 7 132 M3.out.at0 ok2 (by decide) (by decide) (by decide) (by decide)).mono ?_
  rintro e w4 ⟨rfl, v4, a, c, d⟩
  rw [add3] at a ⊢
  have M4 := hide (M3.out.next a c d)
  clear a c d M3
  go_wp2_with fail
  refine (add_any w4 b _ _ 9 140 M4.out.at0 ok3 (by decide) (by decide) (by decide) (by decide)).mono ?_
  rintro e w5 ⟨rfl, v5, a, c, d⟩
  rw [add4] at a ⊢
  have M5 := hide (M4.out.next a c d)
  clear a c d M4
  go_wp2_with fail
  refine (find_any w5 b _ _ 6 M5.out.at0 ok3 (by decide) (by decide)).mono ?_
  rintro e w6 ⟨rfl, b6⟩
  rw [find3]
  have M6 := hide ((M5.out.below b6).below (box_below w6 (.cells #[.int .i64 5, .int .i64 32] 35)))
  clear b6 M5
  simp only [entv]
  go_wp2_with fail
  refine (bytes_any _ b _ _ M6.out.at0 ok3).mono ?_
  rintro e w7 ⟨v7, rfl, s7, b7⟩
  have S7 := hide (Sl.of_owns s7)
  have hl7 : Hid ((bytesF x3).length ≤ 140737488355328) := by show _ ≤ _; have := front_len x3; rw [bytesF, List.length_append, fx_len]; simp [x3] at this ⊢; omega
  have c7 : w7.heap[w6.heap.size]? = some (.cells #[.int .i64 5, .int .i64 32] 35 (0, 0)) := by rw [b7.block w6.heap.size (by simp), heap_alloc_new]
  have M7 := hide (M6.out.below b7)
  obtain ⟨ao7, ca7, rfl⟩ := Bs.form s7
  clear s7 b7 M6
  go_wp2_with fail
  refine (load_any _ _ _ S7.out hl7.out).mono ?_
  rintro e w8 ⟨p, rfl, ld, b8⟩
  rw [load_saved ok3] at ld ⊢
  have c8 : w8.heap[w6.heap.size]? = some (.cells #[.int .i64 5, .int .i64 32] 35 (0, 0)) := by rw [b8.block _ (heap_lt c7)]; exact c7
  obtain ⟨k0, k1, _, _⟩ := two_cells c8
  have M8 := hide (M7.out.below b8)
  rcases ld with ⟨h, _⟩ | ⟨_, b9, v9, rfl, _⟩
  · exact absurd rfl h
  clear b8 c7 c8 M7
  go_wp2_with fail
  refine (entries_any w8 b _ _ M8.out.at0 ok3).mono ?_
  rintro e w9 ⟨v9, rfl, e9, b9, _⟩
  have hB := hide (M8.out.below b9).bel
  obtain ⟨aoe, cae, rfl, _, _⟩ := e9.form
  simp only [x3, List.length_cons, List.length_nil]
  clear e9 b9 M8
  go_wp2_with fail
  go_ret
  exact ⟨rfl, hB.out⟩
#print axioms begun_any
end Go.Proofs.Ytoffahbnffhliaa.Ix
