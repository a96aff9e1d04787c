/-
  The test in ScanAll's third loop, which draws its order within a round.
-/
import Derived.Test.YtebhkdaefjmbnaaIr
import Derived.Test.YtebhkdaefjmbnaaFq7
import Derived.OrdersHeld
import Derived.Deep.RegionHeld
import Derived.WalkKit
import Derived.KernelRfl
namespace Go.Proofs.Ytebhkdaefjmbnaa
open Go.RowKit
set_option maxRecDepth 100000
set_option linter.unusedVariables false
attribute [local go_sem] Oper.semAt_some

abbrev ops38 : Array Oper := #[{ dst := some 162, op := Op.load 3 (Operand.tmp 27), type := 3, pos := "law.go:66", after := #[], guard := none },
  { dst := some 163, op := Op.load 29 (Operand.tmp 13), type := 29, pos := "law.go:66", after := #[], guard := none },
  { dst := some 164, op := Op.call { callee := Callee.builtin Builtin.len, args := #[Operand.tmp 163], argTypes := #[29] }, type := 3, pos := "law.go:66", after := #[{ on := 1, ground := Ground.data }], guard := none },
  { dst := some 165, op := Op.binOp BinOp.geq 3 (Operand.tmp 162) (Operand.tmp 164) 3, type := 4, pos := "law.go:66", after := #[{ on := 0, ground := Ground.data }, { on := 2, ground := Ground.data }], guard := none },
  { dst := some 166, op := Op.move (Operand.tmp 165), type := 4, pos := "law.go:66", after := #[{ on := 3, ground := Ground.data }], guard := none },
  { dst := some 167, op := Op.move (Operand.tmp 28), type := 3, pos := "law.go:66", after := #[{ on := 4, ground := Ground.guard }], guard := some (4, false) },
  { dst := some 168, op := Op.load 29 (Operand.tmp 13), type := 29, pos := "law.go:66", after := #[{ on := 4, ground := Ground.guard }], guard := some (4, false) },
  { dst := some 169, op := Op.load 3 (Operand.tmp 27), type := 3, pos := "law.go:66", after := #[{ on := 4, ground := Ground.guard }], guard := some (4, false) },
  { dst := some 170, op := Op.indexAddr 29 (Operand.tmp 168) (Operand.tmp 169), type := 0, pos := "law.go:66", after := #[{ on := 6, ground := Ground.data }, { on := 7, ground := Ground.data }, { on := 4, ground := Ground.guard }], guard := some (4, false) },
  { dst := some 171, op := Op.fieldAddr 43 (Operand.tmp 170) 0, type := 0, pos := "law.go:66", after := #[{ on := 8, ground := Ground.data }, { on := 4, ground := Ground.guard }], guard := some (4, false) },
  { dst := some 172, op := Op.load 3 (Operand.tmp 171), type := 3, pos := "law.go:66", after := #[{ on := 9, ground := Ground.data }, { on := 4, ground := Ground.guard }], guard := some (4, false) },
  { dst := some 173, op := Op.binOp BinOp.neq 3 (Operand.tmp 167) (Operand.tmp 172) 3, type := 4, pos := "law.go:66", after := #[{ on := 5, ground := Ground.data }, { on := 10, ground := Ground.data }, { on := 4, ground := Ground.guard }], guard := some (4, false) },
  { dst := some 174, op := Op.pick (Operand.tmp 166) (Operand.const (Value.bool true)) (Operand.tmp 173), type := 4, pos := "law.go:66", after := #[{ on := 4, ground := Ground.data }, { on := 11, ground := Ground.data }], guard := none },
  { dst := some 175, op := Op.move (Operand.tmp 174), type := 4, pos := "law.go:66", after := #[{ on := 12, ground := Ground.data }, { on := 4, ground := Ground.chain }], guard := none },
  { dst := some 176, op := Op.load 41 (Operand.tmp 29), type := 41, pos := "law.go:66", after := #[{ on := 13, ground := Ground.guard }], guard := some (13, false) },
  { dst := some 177, op := Op.load 29 (Operand.tmp 13), type := 29, pos := "law.go:66", after := #[{ on := 13, ground := Ground.guard }], guard := some (13, false) },
  { dst := some 178, op := Op.load 3 (Operand.tmp 27), type := 3, pos := "law.go:66", after := #[{ on := 13, ground := Ground.guard }], guard := some (13, false) },
  { dst := some 179, op := Op.indexAddr 29 (Operand.tmp 177) (Operand.tmp 178), type := 0, pos := "law.go:66", after := #[{ on := 15, ground := Ground.data }, { on := 16, ground := Ground.data }, { on := 13, ground := Ground.guard }], guard := some (13, false) },
  { dst := some 180, op := Op.fieldAddr 43 (Operand.tmp 179) 1, type := 0, pos := "law.go:66", after := #[{ on := 17, ground := Ground.data }, { on := 13, ground := Ground.guard }], guard := some (13, false) },
  { dst := some 181, op := Op.load 41 (Operand.tmp 180), type := 41, pos := "law.go:66", after := #[{ on := 18, ground := Ground.data }, { on := 13, ground := Ground.guard }], guard := some (13, false) },
  { dst := some 182, op := Op.call { callee := Callee.value (Operand.func 9), args := #[Operand.tmp 176, Operand.tmp 181], argTypes := #[41, 41] }, type := 4, pos := "law.go:66", after := #[{ on := 14, ground := Ground.data }, { on := 19, ground := Ground.data }, { on := 13, ground := Ground.chain }, { on := 13, ground := Ground.guard }], guard := some (13, false) },
  { dst := some 183, op := Op.unOp UnOp.not 4 (Operand.tmp 182), type := 4, pos := "law.go:66", after := #[{ on := 20, ground := Ground.data }, { on := 13, ground := Ground.guard }], guard := some (13, false) },
  { dst := some 184, op := Op.pick (Operand.tmp 175) (Operand.const (Value.bool true)) (Operand.tmp 183), type := 4, pos := "law.go:66", after := #[{ on := 13, ground := Ground.data }, { on := 21, ground := Ground.data }], guard := none }]
set_option maxHeartbeats 8000000 in
theorem reg38 {Q : Exit → Act → World → Prop} {Wb w0 : World} {ib wb1 gp N cv rb dn vc pc j xe xn : Nat} {va pa : Option Addr}
    {t0 t1 t2 t3 t4 t5 t6 t7 t8 t9 t10 t11 t12 t14 t15 t16 t17 t18 t19 t20 t21 t22 t23 t24 t25 t26 t30 t31 t32 t33 t34 t35 t36 t37 t38 t39 t40 t41 t42 t43 t44 t45 t46 t47 t48 t49 t50 t51 t52 t53 t54 t55 t56 t57 t58 t59 t60 t61 t62 t63 t64 t65 t66 t67 t68 t69 t70 t71 t72 t73 t74 t75 t76 t77 t78 t79 t80 t81 t82 t83 t84 t85 t86 t87 t88 t89 t90 t91 t92 t93 t94 t95 t96 t97 t98 t99 t100 t101 t102 t103 t104 t105 t106 t107 t108 t109 t110 t111 t112 t113 t114 t115 t116 t117 t118 t119 t120 t121 t122 t123 t124 t125 t126 t127 t128 t129 t130 t131 t132 t133 t134 t135 t136 t137 t138 t139 t140 t141 t142 t143 t144 t145 t146 t147 t148 t149 t150 t151 t152 t153 t154 t155 t156 t157 t158 t159 t160 t161 t162 t163 t164 t165 t166 t167 t168 t169 t170 t171 t172 t173 t174 t175 t176 t177 t178 t179 t180 t181 t182 t183 t184 t185 t186 t187 t188 t189 t190 t191 t192 t193 t194 t195 t196 t197 t198 t199 t200 t201 t202 t203 t204 t205 t206 t207 t208 t209 t210 t211 t212 : Value}
    (hQ : ∀ c (a : Act) (d : Option Tmp) (v : Value) (w : World), Q (.panic c) (a.put d v) w → Q (.panic c) a w)
    (j1 : j < N) (jm : (N : Int) ≤ 9223372036854775807) (KS : Hid (∀ q : World, Below Wb.heap.size Wb q → (fun q : World => Below Wb.heap.size Wb q ∧ q.cell? ⟨ib, 0, none⟩ = some (.int .i64 (j : Int)) ∧ q.cell? ⟨wb1, 0, none⟩ = some (.slice (some ⟨gp, 0, none⟩) N cv) ∧ q.cell? ⟨gp, j * 3, none⟩ = some (.int .i64 (xe : Int)) ∧ q.cell? ⟨gp, j * 3 + 1, none⟩ = some (.int .i64 (xn : Int)) ∧ q.cell? ⟨gp, j * 3 + 2, none⟩ = some (.slice pa dn pc) ∧ q.cell? ⟨rb, 0, none⟩ = some (.int .i64 (xn : Int)) ∧ q.cell? ⟨rb, 1, none⟩ = some (.slice va dn vc)) q)) (hS0 : (fun q : World => Below Wb.heap.size Wb q ∧ q.cell? ⟨ib, 0, none⟩ = some (.int .i64 (j : Int)) ∧ q.cell? ⟨wb1, 0, none⟩ = some (.slice (some ⟨gp, 0, none⟩) N cv) ∧ q.cell? ⟨gp, j * 3, none⟩ = some (.int .i64 (xe : Int)) ∧ q.cell? ⟨gp, j * 3 + 1, none⟩ = some (.int .i64 (xn : Int)) ∧ q.cell? ⟨gp, j * 3 + 2, none⟩ = some (.slice pa dn pc) ∧ q.cell? ⟨rb, 0, none⟩ = some (.int .i64 (xn : Int)) ∧ q.cell? ⟨rb, 1, none⟩ = some (.slice va dn vc)) w0)
    (KQ : Hid (∀ q : World, Below Wb.heap.size Wb q → Calls Try.prog 9 #[.agg #[.int .i64 (xn : Int), .slice va dn vc], .agg #[.int .i64 (xn : Int), .slice pa dn pc]] q fun e w' => e = .returned (.bool true) ∧ Below q.heap.size q w'))
    (hfin : ∀ (q : World) (s162 s163 s164 s165 s166 s167 s168 s169 s170 s171 s172 s173 s174 s175 s176 s177 s178 s179 s180 s181 s182 s183 : Value), Below Wb.heap.size Wb q → Q .normal ⟨#[t0, t1, t2, t3, t4, t5, t6, t7, t8, t9, t10, t11, t12, .pointer (some ⟨wb1, 0, none⟩), t14, t15, t16, t17, t18, t19, t20, t21, t22, t23, t24, t25, t26, .pointer (some ⟨ib, 0, none⟩), .int .i64 (xe : Int), .pointer (some ⟨rb, 0, none⟩), t30, t31, t32, t33, t34, t35, t36, t37, t38, t39, t40, t41, t42, t43, t44, t45, t46, t47, t48, t49, t50, t51, t52, t53, t54, t55, t56, t57, t58, t59, t60, t61, t62, t63, t64, t65, t66, t67, t68, t69, t70, t71, t72, t73, t74, t75, t76, t77, t78, t79, t80, t81, t82, t83, t84, t85, t86, t87, t88, t89, t90, t91, t92, t93, t94, t95, t96, t97, t98, t99, t100, t101, t102, t103, t104, t105, t106, t107, t108, t109, t110, t111, t112, t113, t114, t115, t116, t117, t118, t119, t120, t121, t122, t123, t124, t125, t126, t127, t128, t129, t130, t131, t132, t133, t134, t135, t136, t137, t138, t139, t140, t141, t142, t143, t144, t145, t146, t147, t148, t149, t150, t151, t152, t153, t154, t155, t156, t157, t158, t159, t160, t161, s162, s163, s164, s165, s166, s167, s168, s169, s170, s171, s172, s173, s174, s175, s176, s177, s178, s179, s180, s181, s182, s183, .bool false, t185, t186, t187, t188, t189, t190, t191, t192, t193, t194, t195, t196, t197, t198, t199, t200, t201, t202, t203, t204, t205, t206, t207, t208, t209, t210, t211, t212], []⟩ q) :
    wpAnyH Try.prog .any ops38 Q (fun q : World => Below Wb.heap.size Wb q ∧ q.cell? ⟨ib, 0, none⟩ = some (.int .i64 (j : Int)) ∧ q.cell? ⟨wb1, 0, none⟩ = some (.slice (some ⟨gp, 0, none⟩) N cv) ∧ q.cell? ⟨gp, j * 3, none⟩ = some (.int .i64 (xe : Int)) ∧ q.cell? ⟨gp, j * 3 + 1, none⟩ = some (.int .i64 (xn : Int)) ∧ q.cell? ⟨gp, j * 3 + 2, none⟩ = some (.slice pa dn pc) ∧ q.cell? ⟨rb, 0, none⟩ = some (.int .i64 (xn : Int)) ∧ q.cell? ⟨rb, 1, none⟩ = some (.slice va dn vc)) 23 (Array.replicate 23 false) ⟨#[t0, t1, t2, t3, t4, t5, t6, t7, t8, t9, t10, t11, t12, .pointer (some ⟨wb1, 0, none⟩), t14, t15, t16, t17, t18, t19, t20, t21, t22, t23, t24, t25, t26, .pointer (some ⟨ib, 0, none⟩), .int .i64 (xe : Int), .pointer (some ⟨rb, 0, none⟩), t30, t31, t32, t33, t34, t35, t36, t37, t38, t39, t40, t41, t42, t43, t44, t45, t46, t47, t48, t49, t50, t51, t52, t53, t54, t55, t56, t57, t58, t59, t60, t61, t62, t63, t64, t65, t66, t67, t68, t69, t70, t71, t72, t73, t74, t75, t76, t77, t78, t79, t80, t81, t82, t83, t84, t85, t86, t87, t88, t89, t90, t91, t92, t93, t94, t95, t96, t97, t98, t99, t100, t101, t102, t103, t104, t105, t106, t107, t108, t109, t110, t111, t112, t113, t114, t115, t116, t117, t118, t119, t120, t121, t122, t123, t124, t125, t126, t127, t128, t129, t130, t131, t132, t133, t134, t135, t136, t137, t138, t139, t140, t141, t142, t143, t144, t145, t146, t147, t148, t149, t150, t151, t152, t153, t154, t155, t156, t157, t158, t159, t160, t161, t162, t163, t164, t165, t166, t167, t168, t169, t170, t171, t172, t173, t174, t175, t176, t177, t178, t179, t180, t181, t182, t183, t184, t185, t186, t187, t188, t189, t190, t191, t192, t193, t194, t195, t196, t197, t198, t199, t200, t201, t202, t203, t204, t205, t206, t207, t208, t209, t210, t211, t212], []⟩ w0 := by
  have k0 : (0 : Int) ≤ (j : Int) := by omega
  have k1 : (j : Int) < (N : Int) := by omega
  have k2 : ¬ ((j : Int) ≥ (N : Int)) := by omega
  have k3 : ¬ ((N : Int) ≤ (j : Int)) := by omega
  refine wpAnyH_take (i := 0) (oi := { dst := some 162, op := Op.load 3 (Operand.tmp 27), type := 3, pos := "law.go:66", after := #[], guard := none }) (v := .int .i64 (j : Int)) rfl (by kernel_rfl) (by kernel_rfl) (by kernel_rfl) (fun _ _ _ h => hQ _ _ _ _ _ h) (Or.inl ⟨by rfl, ?_⟩) hS0 ?_
  · intro w hSw
    obtain ⟨e0, e1, e2, e3, e4, e5, e6, e7⟩ := hSw
    go_simp
  simp only [Act.put, List.setIfInBounds_toArray, List.set_cons_zero, List.set_cons_succ]
  refine wpAnyH_take (i := 1) (oi := { dst := some 163, op := Op.load 29 (Operand.tmp 13), type := 29, pos := "law.go:66", after := #[], guard := none }) (v := .slice (some ⟨gp, 0, none⟩) N cv) rfl (by kernel_rfl) (by kernel_rfl) (by kernel_rfl) (fun _ _ _ h => hQ _ _ _ _ _ h) (Or.inl ⟨by rfl, ?_⟩) hS0 ?_
  · intro w hSw
    obtain ⟨e0, e1, e2, e3, e4, e5, e6, e7⟩ := hSw
    go_simp
  simp only [Act.put, List.setIfInBounds_toArray, List.set_cons_zero, List.set_cons_succ]
  refine wpAnyH_take (i := 2) (oi := { dst := some 164, op := Op.call { callee := Callee.builtin Builtin.len, args := #[Operand.tmp 163], argTypes := #[29] }, type := 3, pos := "law.go:66", after := #[{ on := 1, ground := Ground.data }], guard := none }) (v := .int .i64 (N : Int)) rfl (by kernel_rfl) (by kernel_rfl) (by kernel_rfl) (fun _ _ _ h => hQ _ _ _ _ _ h) (Or.inl ⟨by rfl, ?_⟩) hS0 ?_
  · intro w hSw
    obtain ⟨e0, e1, e2, e3, e4, e5, e6, e7⟩ := hSw
    go_simp
  simp only [Act.put, List.setIfInBounds_toArray, List.set_cons_zero, List.set_cons_succ]
  refine wpAnyH_take (i := 3) (oi := { dst := some 165, op := Op.binOp BinOp.geq 3 (Operand.tmp 162) (Operand.tmp 164) 3, type := 4, pos := "law.go:66", after := #[{ on := 0, ground := Ground.data }, { on := 2, ground := Ground.data }], guard := none }) (v := .bool false) rfl (by kernel_rfl) (by kernel_rfl) (by kernel_rfl) (fun _ _ _ h => hQ _ _ _ _ _ h) (Or.inl ⟨by rfl, ?_⟩) hS0 ?_
  · intro w hSw
    obtain ⟨e0, e1, e2, e3, e4, e5, e6, e7⟩ := hSw
    go_simp
  simp only [Act.put, List.setIfInBounds_toArray, List.set_cons_zero, List.set_cons_succ]
  refine wpAnyH_take (i := 4) (oi := { dst := some 166, op := Op.move (Operand.tmp 165), type := 4, pos := "law.go:66", after := #[{ on := 3, ground := Ground.data }], guard := none }) (v := .bool false) rfl (by kernel_rfl) (by kernel_rfl) (by kernel_rfl) (fun _ _ _ h => hQ _ _ _ _ _ h) (Or.inl ⟨by rfl, ?_⟩) hS0 ?_
  · intro w hSw
    obtain ⟨e0, e1, e2, e3, e4, e5, e6, e7⟩ := hSw
    go_simp
  simp only [Act.put, List.setIfInBounds_toArray, List.set_cons_zero, List.set_cons_succ]
  refine wpAnyH_take (i := 5) (oi := { dst := some 167, op := Op.move (Operand.tmp 28), type := 3, pos := "law.go:66", after := #[{ on := 4, ground := Ground.guard }], guard := some (4, false) }) (v := .int .i64 (xe : Int)) rfl (by kernel_rfl) (by kernel_rfl) (by kernel_rfl) (fun _ _ _ h => hQ _ _ _ _ _ h) (Or.inl ⟨by rfl, ?_⟩) hS0 ?_
  · intro w hSw
    obtain ⟨e0, e1, e2, e3, e4, e5, e6, e7⟩ := hSw
    go_simp
  simp only [Act.put, List.setIfInBounds_toArray, List.set_cons_zero, List.set_cons_succ]
  refine wpAnyH_take (i := 6) (oi := { dst := some 168, op := Op.load 29 (Operand.tmp 13), type := 29, pos := "law.go:66", after := #[{ on := 4, ground := Ground.guard }], guard := some (4, false) }) (v := .slice (some ⟨gp, 0, none⟩) N cv) rfl (by kernel_rfl) (by kernel_rfl) (by kernel_rfl) (fun _ _ _ h => hQ _ _ _ _ _ h) (Or.inl ⟨by rfl, ?_⟩) hS0 ?_
  · intro w hSw
    obtain ⟨e0, e1, e2, e3, e4, e5, e6, e7⟩ := hSw
    go_simp
  simp only [Act.put, List.setIfInBounds_toArray, List.set_cons_zero, List.set_cons_succ]
  refine wpAnyH_take (i := 7) (oi := { dst := some 169, op := Op.load 3 (Operand.tmp 27), type := 3, pos := "law.go:66", after := #[{ on := 4, ground := Ground.guard }], guard := some (4, false) }) (v := .int .i64 (j : Int)) rfl (by kernel_rfl) (by kernel_rfl) (by kernel_rfl) (fun _ _ _ h => hQ _ _ _ _ _ h) (Or.inl ⟨by rfl, ?_⟩) hS0 ?_
  · intro w hSw
    obtain ⟨e0, e1, e2, e3, e4, e5, e6, e7⟩ := hSw
    go_simp
  simp only [Act.put, List.setIfInBounds_toArray, List.set_cons_zero, List.set_cons_succ]
  refine wpAnyH_take (i := 8) (oi := { dst := some 170, op := Op.indexAddr 29 (Operand.tmp 168) (Operand.tmp 169), type := 0, pos := "law.go:66", after := #[{ on := 6, ground := Ground.data }, { on := 7, ground := Ground.data }, { on := 4, ground := Ground.guard }], guard := some (4, false) }) (v := .pointer (some ⟨gp, j * 3, none⟩)) rfl (by kernel_rfl) (by kernel_rfl) (by kernel_rfl) (fun _ _ _ h => hQ _ _ _ _ _ h) (Or.inl ⟨by rfl, ?_⟩) hS0 ?_
  · intro w hSw
    obtain ⟨e0, e1, e2, e3, e4, e5, e6, e7⟩ := hSw
    go_simp
  simp only [Act.put, List.setIfInBounds_toArray, List.set_cons_zero, List.set_cons_succ]
  refine wpAnyH_take (i := 9) (oi := { dst := some 171, op := Op.fieldAddr 43 (Operand.tmp 170) 0, type := 0, pos := "law.go:66", after := #[{ on := 8, ground := Ground.data }, { on := 4, ground := Ground.guard }], guard := some (4, false) }) (v := .pointer (some ⟨gp, j * 3, none⟩)) rfl (by kernel_rfl) (by kernel_rfl) (by kernel_rfl) (fun _ _ _ h => hQ _ _ _ _ _ h) (Or.inl ⟨by rfl, ?_⟩) hS0 ?_
  · intro w hSw
    obtain ⟨e0, e1, e2, e3, e4, e5, e6, e7⟩ := hSw
    go_simp
  simp only [Act.put, List.setIfInBounds_toArray, List.set_cons_zero, List.set_cons_succ]
  refine wpAnyH_take (i := 10) (oi := { dst := some 172, op := Op.load 3 (Operand.tmp 171), type := 3, pos := "law.go:66", after := #[{ on := 9, ground := Ground.data }, { on := 4, ground := Ground.guard }], guard := some (4, false) }) (v := .int .i64 (xe : Int)) rfl (by kernel_rfl) (by kernel_rfl) (by kernel_rfl) (fun _ _ _ h => hQ _ _ _ _ _ h) (Or.inl ⟨by rfl, ?_⟩) hS0 ?_
  · intro w hSw
    obtain ⟨e0, e1, e2, e3, e4, e5, e6, e7⟩ := hSw
    go_simp
  simp only [Act.put, List.setIfInBounds_toArray, List.set_cons_zero, List.set_cons_succ]
  refine wpAnyH_take (i := 11) (oi := { dst := some 173, op := Op.binOp BinOp.neq 3 (Operand.tmp 167) (Operand.tmp 172) 3, type := 4, pos := "law.go:66", after := #[{ on := 5, ground := Ground.data }, { on := 10, ground := Ground.data }, { on := 4, ground := Ground.guard }], guard := some (4, false) }) (v := .bool false) rfl (by kernel_rfl) (by kernel_rfl) (by kernel_rfl) (fun _ _ _ h => hQ _ _ _ _ _ h) (Or.inl ⟨by rfl, ?_⟩) hS0 ?_
  · intro w hSw
    obtain ⟨e0, e1, e2, e3, e4, e5, e6, e7⟩ := hSw
    go_simp
  simp only [Act.put, List.setIfInBounds_toArray, List.set_cons_zero, List.set_cons_succ]
  refine wpAnyH_take (i := 12) (oi := { dst := some 174, op := Op.pick (Operand.tmp 166) (Operand.const (Value.bool true)) (Operand.tmp 173), type := 4, pos := "law.go:66", after := #[{ on := 4, ground := Ground.data }, { on := 11, ground := Ground.data }], guard := none }) (v := .bool false) rfl (by kernel_rfl) (by kernel_rfl) (by kernel_rfl) (fun _ _ _ h => hQ _ _ _ _ _ h) (Or.inl ⟨by rfl, ?_⟩) hS0 ?_
  · intro w hSw
    obtain ⟨e0, e1, e2, e3, e4, e5, e6, e7⟩ := hSw
    go_simp
  simp only [Act.put, List.setIfInBounds_toArray, List.set_cons_zero, List.set_cons_succ]
  refine wpAnyH_take (i := 13) (oi := { dst := some 175, op := Op.move (Operand.tmp 174), type := 4, pos := "law.go:66", after := #[{ on := 12, ground := Ground.data }, { on := 4, ground := Ground.chain }], guard := none }) (v := .bool false) rfl (by kernel_rfl) (by kernel_rfl) (by kernel_rfl) (fun _ _ _ h => hQ _ _ _ _ _ h) (Or.inl ⟨by rfl, ?_⟩) hS0 ?_
  · intro w hSw
    obtain ⟨e0, e1, e2, e3, e4, e5, e6, e7⟩ := hSw
    go_simp
  simp only [Act.put, List.setIfInBounds_toArray, List.set_cons_zero, List.set_cons_succ]
  refine wpAnyH_take (i := 14) (oi := { dst := some 176, op := Op.load 41 (Operand.tmp 29), type := 41, pos := "law.go:66", after := #[{ on := 13, ground := Ground.guard }], guard := some (13, false) }) (v := .agg #[.int .i64 (xn : Int), .slice va dn vc]) rfl (by kernel_rfl) (by kernel_rfl) (by kernel_rfl) (fun _ _ _ h => hQ _ _ _ _ _ h) (Or.inl ⟨by rfl, ?_⟩) hS0 ?_
  · intro w hSw
    obtain ⟨e0, e1, e2, e3, e4, e5, e6, e7⟩ := hSw
    go_simp
  simp only [Act.put, List.setIfInBounds_toArray, List.set_cons_zero, List.set_cons_succ]
  refine wpAnyH_take (i := 15) (oi := { dst := some 177, op := Op.load 29 (Operand.tmp 13), type := 29, pos := "law.go:66", after := #[{ on := 13, ground := Ground.guard }], guard := some (13, false) }) (v := .slice (some ⟨gp, 0, none⟩) N cv) rfl (by kernel_rfl) (by kernel_rfl) (by kernel_rfl) (fun _ _ _ h => hQ _ _ _ _ _ h) (Or.inl ⟨by rfl, ?_⟩) hS0 ?_
  · intro w hSw
    obtain ⟨e0, e1, e2, e3, e4, e5, e6, e7⟩ := hSw
    go_simp
  simp only [Act.put, List.setIfInBounds_toArray, List.set_cons_zero, List.set_cons_succ]
  refine wpAnyH_take (i := 16) (oi := { dst := some 178, op := Op.load 3 (Operand.tmp 27), type := 3, pos := "law.go:66", after := #[{ on := 13, ground := Ground.guard }], guard := some (13, false) }) (v := .int .i64 (j : Int)) rfl (by kernel_rfl) (by kernel_rfl) (by kernel_rfl) (fun _ _ _ h => hQ _ _ _ _ _ h) (Or.inl ⟨by rfl, ?_⟩) hS0 ?_
  · intro w hSw
    obtain ⟨e0, e1, e2, e3, e4, e5, e6, e7⟩ := hSw
    go_simp
  simp only [Act.put, List.setIfInBounds_toArray, List.set_cons_zero, List.set_cons_succ]
  refine wpAnyH_take (i := 17) (oi := { dst := some 179, op := Op.indexAddr 29 (Operand.tmp 177) (Operand.tmp 178), type := 0, pos := "law.go:66", after := #[{ on := 15, ground := Ground.data }, { on := 16, ground := Ground.data }, { on := 13, ground := Ground.guard }], guard := some (13, false) }) (v := .pointer (some ⟨gp, j * 3, none⟩)) rfl (by kernel_rfl) (by kernel_rfl) (by kernel_rfl) (fun _ _ _ h => hQ _ _ _ _ _ h) (Or.inl ⟨by rfl, ?_⟩) hS0 ?_
  · intro w hSw
    obtain ⟨e0, e1, e2, e3, e4, e5, e6, e7⟩ := hSw
    go_simp
  simp only [Act.put, List.setIfInBounds_toArray, List.set_cons_zero, List.set_cons_succ]
  refine wpAnyH_take (i := 18) (oi := { dst := some 180, op := Op.fieldAddr 43 (Operand.tmp 179) 1, type := 0, pos := "law.go:66", after := #[{ on := 17, ground := Ground.data }, { on := 13, ground := Ground.guard }], guard := some (13, false) }) (v := .pointer (some ⟨gp, j * 3 + 1, none⟩)) rfl (by kernel_rfl) (by kernel_rfl) (by kernel_rfl) (fun _ _ _ h => hQ _ _ _ _ _ h) (Or.inl ⟨by rfl, ?_⟩) hS0 ?_
  · intro w hSw
    obtain ⟨e0, e1, e2, e3, e4, e5, e6, e7⟩ := hSw
    go_simp
  simp only [Act.put, List.setIfInBounds_toArray, List.set_cons_zero, List.set_cons_succ]
  refine wpAnyH_take (i := 19) (oi := { dst := some 181, op := Op.load 41 (Operand.tmp 180), type := 41, pos := "law.go:66", after := #[{ on := 18, ground := Ground.data }, { on := 13, ground := Ground.guard }], guard := some (13, false) }) (v := .agg #[.int .i64 (xn : Int), .slice pa dn pc]) rfl (by kernel_rfl) (by kernel_rfl) (by kernel_rfl) (fun _ _ _ h => hQ _ _ _ _ _ h) (Or.inl ⟨by rfl, ?_⟩) hS0 ?_
  · intro w hSw
    obtain ⟨e0, e1, e2, e3, e4, e5, e6, e7⟩ := hSw
    go_simp
  simp only [Act.put, List.setIfInBounds_toArray, List.set_cons_zero, List.set_cons_succ]
  refine wpAnyH_ready (rs := [20]) (by kernel_rfl) (by simp) ?_
  refine AllReadyH.cons (o := { dst := some 182, op := Op.call { callee := Callee.value (Operand.func 9), args := #[Operand.tmp 176, Operand.tmp 181], argTypes := #[41, 41] }, type := 4, pos := "law.go:66", after := #[{ on := 14, ground := Ground.data }, { on := 19, ground := Ground.data }, { on := 13, ground := Ground.chain }, { on := 13, ground := Ground.guard }], guard := some (13, false) }) rfl (fun K hK => ?_) AllReadyH.nil
  go_simp
  refine (KQ.out _ hS0.1).mono ?_
  rintro ee u1 ⟨rfl, B9⟩
  have KP : Below Wb.heap.size Wb u1 := hS0.1.trans (B9.mono hS0.1.size)
  have hS1 := KS.out u1 KP
  refine hK.out _ _ hS1 (fun hHeld => ?_)
  clear hK K
  refine wpAnyH_take (i := 21) (oi := { dst := some 183, op := Op.unOp UnOp.not 4 (Operand.tmp 182), type := 4, pos := "law.go:66", after := #[{ on := 20, ground := Ground.data }, { on := 13, ground := Ground.guard }], guard := some (13, false) }) (v := .bool false) rfl (by kernel_rfl) (by kernel_rfl) (by kernel_rfl) (fun _ _ _ h => hQ _ _ _ _ _ h) (Or.inl ⟨by rfl, ?_⟩) hS1 ?_
  · intro w hSw
    go_simp
  simp only [Act.put, List.setIfInBounds_toArray, List.set_cons_zero, List.set_cons_succ]
  refine wpAnyH_take (i := 22) (oi := { dst := some 184, op := Op.pick (Operand.tmp 175) (Operand.const (Value.bool true)) (Operand.tmp 183), type := 4, pos := "law.go:66", after := #[{ on := 13, ground := Ground.data }, { on := 21, ground := Ground.data }], guard := none }) (v := .bool false) rfl (by kernel_rfl) (by kernel_rfl) (by kernel_rfl) (fun _ _ _ h => hQ _ _ _ _ _ h) (Or.inl ⟨by rfl, ?_⟩) hS1 ?_
  · intro w hSw
    go_simp
  simp only [Act.put, List.setIfInBounds_toArray, List.set_cons_zero, List.set_cons_succ]
  refine wpAnyH_done (by kernel_rfl) ?_ _
  exact hfin u1 _ _ _ _ _ _ _ _ _ _ _ _ _ _ _ _ _ _ _ _ _ _ KP
#print axioms reg38
end Go.Proofs.Ytebhkdaefjmbnaa
