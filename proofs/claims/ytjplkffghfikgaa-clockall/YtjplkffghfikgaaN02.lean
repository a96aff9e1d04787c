/-
  Less of the timers. (gen_CkF.py)
-/
import Derived.Test.YtjplkffghfikgaaN01
import Derived.Maps.AppendAt
import Derived.OwnWalk
import Derived.Lib.AppendZeros
namespace Go.Proofs.Ytjplkffghfikgaa.Ck
open Go.RowKit Rl
open Ix (wp_region_T wpAnyT wpAnyT_take wpAnyT_one wpAnyT_done vac)
set_option linter.unusedVariables false
set_option maxHeartbeats 2000000 in
theorem less_any (w : World) (b n ca i j : Nat) (l : List Tm) (h : Tms w (.slice (some ⟨b, 0, none⟩) n ca) l) (hn : n = l.length) (hi : i < n) (hj : j < n) (hbi : (g l i).b < 18446744073709551616) (hbj : (g l j).b < 18446744073709551616) :
    Calls Try.prog 96 #[.slice (some ⟨b, 0, none⟩) n ca, .int .i64 (i : Int), .int .i64 (j : Int)] w fun e w' => e = .returned (.bool (decide (Lt (g l i) (g l j)))) ∧ Below w.heap.size w w' := by
  have hil : i < l.length := by omega
  have hjl : j < l.length := by omega
  have i0 : (0 : Int) ≤ (i : Int) := by omega
  have i1 : (i : Int) < (n : Int) := by omega
  have j0 : (0 : Int) ≤ (j : Int) := by omega
  have j1 : (j : Int) < (n : Int) := by omega
  have KP : Hid (Tms w.drew (.slice (some ⟨b, 0, none⟩) n ca) l) := h
  have KQ : Hid (Below w.heap.size w w.drew) := (Below.refl _ _).drew
  have hD : Hid (Ending.returned (.bool (decide (tcmp (g l i) (g l j) < 0))) = .returned (.bool (decide (Lt (g l i) (g l j))))) := by
    show _ = _
    rw [decide_eq_decide.2 (tcmp_lt _ _)]
  clear h hn
  go_enter Try.func96, Try.ntmps96
  go_upto_region 1 with fail
  refine wp_region_T (fun q => Tms q (.slice (some ⟨b, 0, none⟩) n ca) l) 10 (by kernel_rfl) ?_
  generalize w.drew = q at *
  refine wpAnyT_take (i := 0) (oi := { dst := some 7, op := Op.move (Operand.tmp 0), type := 54, pos := "timers.go:21", after := #[], guard := none }) (v := .slice (some ⟨b, 0, none⟩) n ca) [2, 3, 8, 9, 10] rfl (by kernel_rfl) (by kernel_rfl) (by kernel_rfl) (by kernel_rfl) (fun _ _ _ h => h) (Or.inl ⟨by rfl, ?_⟩) KP.out ?_
  · intro wq hSw
    obtain ⟨y0, y1⟩ := hSw.read i hil
    obtain ⟨y2, y3⟩ := hSw.read j hjl
    go_simp
  (try simp only [Act.put, List.setIfInBounds_toArray, List.set_cons_zero, List.set_cons_succ])
  refine wpAnyT_take (i := 1) (oi := { dst := some 8, op := Op.move (Operand.tmp 1), type := 3, pos := "timers.go:21", after := #[], guard := none }) (v := .int .i64 (i : Int)) [2, 3, 8, 9, 10] rfl (by kernel_rfl) (by kernel_rfl) (by kernel_rfl) (by kernel_rfl) (fun _ _ _ h => h) (Or.inl ⟨by rfl, ?_⟩) KP.out ?_
  · intro wq hSw
    obtain ⟨y0, y1⟩ := hSw.read i hil
    obtain ⟨y2, y3⟩ := hSw.read j hjl
    go_simp
  (try simp only [Act.put, List.setIfInBounds_toArray, List.set_cons_zero, List.set_cons_succ])
  refine wpAnyT_take (i := 2) (oi := { dst := some 9, op := Op.indexAddr 54 (Operand.tmp 7) (Operand.tmp 8), type := 0, pos := "timers.go:21", after := #[{ on := 0, ground := Ground.data }, { on := 1, ground := Ground.data }], guard := none }) (v := .pointer (some ⟨b, i * 2, none⟩)) [3, 8, 9, 10] rfl (by kernel_rfl) (by kernel_rfl) (by kernel_rfl) (by kernel_rfl) (fun _ _ _ h => h) (Or.inl ⟨by rfl, ?_⟩) KP.out ?_
  · intro wq hSw
    obtain ⟨y0, y1⟩ := hSw.read i hil
    obtain ⟨y2, y3⟩ := hSw.read j hjl
    go_simp
  (try simp only [Act.put, List.setIfInBounds_toArray, List.set_cons_zero, List.set_cons_succ])
  refine wpAnyT_take (i := 3) (oi := { dst := some 10, op := Op.load 70 (Operand.tmp 9), type := 70, pos := "timers.go:21", after := #[{ on := 2, ground := Ground.data }], guard := none }) (v := .agg #[.int .i64 (g l i).id, .float .f64 (g l i).b]) [8, 9, 10] rfl (by kernel_rfl) (by kernel_rfl) (by kernel_rfl) (by kernel_rfl) (fun _ _ _ h => h) (Or.inl ⟨by rfl, ?_⟩) KP.out ?_
  · intro wq hSw
    obtain ⟨y0, y1⟩ := hSw.read i hil
    obtain ⟨y2, y3⟩ := hSw.read j hjl
    go_simp
  (try simp only [Act.put, List.setIfInBounds_toArray, List.set_cons_zero, List.set_cons_succ])
  refine wpAnyT_take (i := 4) (oi := { dst := some 11, op := Op.move (Operand.tmp 0), type := 54, pos := "timers.go:21", after := #[], guard := none }) (v := .slice (some ⟨b, 0, none⟩) n ca) [6, 7, 8, 9, 10] rfl (by kernel_rfl) (by kernel_rfl) (by kernel_rfl) (by kernel_rfl) (fun _ _ _ h => h) (Or.inl ⟨by rfl, ?_⟩) KP.out ?_
  · intro wq hSw
    obtain ⟨y0, y1⟩ := hSw.read i hil
    obtain ⟨y2, y3⟩ := hSw.read j hjl
    go_simp
  (try simp only [Act.put, List.setIfInBounds_toArray, List.set_cons_zero, List.set_cons_succ])
  refine wpAnyT_take (i := 5) (oi := { dst := some 12, op := Op.move (Operand.tmp 2), type := 3, pos := "timers.go:21", after := #[], guard := none }) (v := .int .i64 (j : Int)) [6, 7, 8, 9, 10] rfl (by kernel_rfl) (by kernel_rfl) (by kernel_rfl) (by kernel_rfl) (fun _ _ _ h => h) (Or.inl ⟨by rfl, ?_⟩) KP.out ?_
  · intro wq hSw
    obtain ⟨y0, y1⟩ := hSw.read i hil
    obtain ⟨y2, y3⟩ := hSw.read j hjl
    go_simp
  (try simp only [Act.put, List.setIfInBounds_toArray, List.set_cons_zero, List.set_cons_succ])
  refine wpAnyT_take (i := 6) (oi := { dst := some 13, op := Op.indexAddr 54 (Operand.tmp 11) (Operand.tmp 12), type := 0, pos := "timers.go:21", after := #[{ on := 4, ground := Ground.data }, { on := 5, ground := Ground.data }], guard := none }) (v := .pointer (some ⟨b, j * 2, none⟩)) [7, 8, 9, 10] rfl (by kernel_rfl) (by kernel_rfl) (by kernel_rfl) (by kernel_rfl) (fun _ _ _ h => h) (Or.inl ⟨by rfl, ?_⟩) KP.out ?_
  · intro wq hSw
    obtain ⟨y0, y1⟩ := hSw.read i hil
    obtain ⟨y2, y3⟩ := hSw.read j hjl
    go_simp
  (try simp only [Act.put, List.setIfInBounds_toArray, List.set_cons_zero, List.set_cons_succ])
  refine wpAnyT_take (i := 7) (oi := { dst := some 14, op := Op.load 70 (Operand.tmp 13), type := 70, pos := "timers.go:21", after := #[{ on := 6, ground := Ground.data }], guard := none }) (v := .agg #[.int .i64 (g l j).id, .float .f64 (g l j).b]) [8, 9, 10] rfl (by kernel_rfl) (by kernel_rfl) (by kernel_rfl) (by kernel_rfl) (fun _ _ _ h => h) (Or.inl ⟨by rfl, ?_⟩) KP.out ?_
  · intro wq hSw
    obtain ⟨y0, y1⟩ := hSw.read i hil
    obtain ⟨y2, y3⟩ := hSw.read j hjl
    go_simp
  (try simp only [Act.put, List.setIfInBounds_toArray, List.set_cons_zero, List.set_cons_succ])
  refine wpAnyT_one (i := 8) (o := { dst := some 15, op := Op.call { callee := Callee.value (Operand.func 42), args := #[Operand.tmp 10, Operand.tmp 14], argTypes := #[70, 70] }, type := 3, pos := "timers.go:21", after := #[{ on := 3, ground := Ground.data }, { on := 7, ground := Ground.data }], guard := none }) (by kernel_rfl) rfl (fun K hK => ?_)
  go_simp
  go_at_call 42
  refine (byTime_any _ (g l i) (g l j) hbi hbj).mono ?_
  rintro e w3 ⟨rfl, b3⟩
  (try go_simp)
  refine hK.out _ _ (fun _ => KP.out.below b3) ?_
  clear hK K
  (try simp only [Act.put, List.setIfInBounds_toArray, List.set_cons_zero, List.set_cons_succ])
  have K3 := hide (KP.out.below b3)
  have Q3 := hide (keepF KQ.out b3)
  clear b3
  refine wpAnyT_one (i := 9) (o := { dst := some 16, op := Op.binOp BinOp.lss 3 (Operand.tmp 15) (Operand.const (Value.int IntKind.i64 0)) 3, type := 4, pos := "timers.go:21", after := #[{ on := 8, ground := Ground.data }], guard := none }) (by kernel_rfl) rfl (fun K hK => ?_)
  go_simp
  refine hK.out _ _ (fun _ => K3.out) ?_
  clear hK K
  (try simp only [Act.put, List.setIfInBounds_toArray, List.set_cons_zero, List.set_cons_succ])
  refine wpAnyT_one (i := 10) (o := { dst := some 6, op := Op.assign (Operand.tmp 16), type := 4, pos := "timers.go:21", after := #[{ on := 9, ground := Ground.data }, { on := 8, ground := Ground.chain }, { on := 0, ground := Ground.phase }, { on := 1, ground := Ground.phase }, { on := 2, ground := Ground.phase }, { on := 3, ground := Ground.phase }, { on := 4, ground := Ground.phase }, { on := 5, ground := Ground.phase }, { on := 6, ground := Ground.phase }, { on := 7, ground := Ground.phase }, { on := 8, ground := Ground.phase }, { on := 9, ground := Ground.phase }], guard := none }) (by kernel_rfl) rfl (fun K hK => ?_)
  go_simp
  refine hK.out _ _ (vac (by kernel_rfl)) ?_
  clear hK K
  (try simp only [Act.put, List.setIfInBounds_toArray, List.set_cons_zero, List.set_cons_succ])
  refine wpAnyT_done (by kernel_rfl) ?_ _
  go_wp2_with fail
  go_ret
  exact ⟨hD.out, Q3.out⟩
end Go.Proofs.Ytjplkffghfikgaa.Ck

/-
  Push and Pop of the timers. (gen_CkG.py)
-/
namespace Go.Proofs.Ytjplkffghfikgaa.Ck
open Go.RowKit Rl
open Ix (wp_region_T wpAnyT wpAnyT_take wpAnyT_one wpAnyT_done vac)
set_option linter.unusedVariables false
theorem infoTm : (Try.prog.info? 70).map (fun i => (i.zero, i.size, i.bytes)) = some (some (.agg #[.int .i64 0, .float .f64 0]), 2, 16) := by kernel_rfl
theorem slice_of {w : World} {v : Value} {l : List Tm} (h : Tms w v l) : ∃ ao n ca, v = .slice ao n ca := by
  obtain ⟨ao, ca, e, _⟩ := h.form
  exact ⟨ao, _, ca, e⟩
/-- One more timer, appended. -/
theorem run_appT {w : World} {v : Value} {l : List Tm} (t : Tm) (gg : Nat) (h : Tms w v l) (h0 : w.cell? ⟨gg, 0, none⟩ = some (.int .i64 t.id)) (h1 : w.cell? ⟨gg, 1, none⟩ = some (.float .f64 t.b)) (hl : l.length ≤ 1000000) (ty : TypeId) :
    ∃ v' w', (Builtin.append_ #[54, 54] ty #[v, .slice (some ⟨gg, 0, none⟩) 1 1]).run Try.prog w = .ok v' w' ∧ Tms w' v' (l ++ [t]) ∧ w.grownBy w' v.ownBlock ∧ (v'.ownBlock = v.ownBlock ∨ v'.ownBlock = some w.heap.size) := by
  obtain ⟨i0, hi, hz0, hz1, hz2⟩ := info_parts infoTm
  have hcells : ∀ j u, ([.int .i64 t.id, .float .f64 t.b] : List Value)[j]? = some u → w.cell? ((⟨gg, 0, none⟩ : Addr).add j) = some u := by
    intro j u hu
    rw [addr_add]
    match j with
    | 0 => simp at hu; subst hu; exact h0
    | 1 => simp at hu; subst hu; exact h1
    | j + 2 => simp at hu
  obtain ⟨v', w', hr, ho, hg, _, hat⟩ := run_append_own_at (P := Try.prog) w 0 54 ty 70 i0 (.agg #[.int .i64 0, .float .f64 0]) 2 16 Try.underlying54 hi hz0 hz1 hz2 rfl (by decide) v l.length (tcells l) h ⟨gg, 0, none⟩ 1 1 [.int .i64 t.id, .float .f64 t.b] rfl hcells (by
      intro u hu
      simp at hu
      rcases hu with rfl | rfl <;> rfl) (by unfold maxLen; omega) (by omega) (Nat.zero_le _)
  refine ⟨v', w', hr, ?_, hg, hat⟩
  unfold Tms
  rw [List.length_append, tcells_snoc]
  exact ho
theorem At.app {w w3 : World} {b : Nat} {c : C} {v v' : Value} {l : List Tm} {t : Tm} (h : At w b c v l) (ho : Tms w3 v' (l ++ [t])) (hg : w.grownBy w3 v.ownBlock) (hat : v'.ownBlock = v.ownBlock ∨ v'.ownBlock = some w.heap.size) :
    w3.heap[b]? = some (.cells #[.float .f64 c.now, .int .i64 c.nx, v] 56 (0, 0)) ∧ At (w3.setCell ⟨b, 2, none⟩ v') b c v' (l ++ [t]) ∧ But (Own b v) w (w3.setCell ⟨b, 2, none⟩ v') ∧ (∀ k, v'.ownBlock = some k → v.ownBlock = some k ∨ w.heap.size ≤ k) := by
  have hb : w3.heap[b]? = some (.cells #[.float .f64 c.now, .int .i64 c.nx, v] 56 (0, 0)) := by
    rw [hg.block b (heap_lt h.box) (fun e => h.ap e.symm)]
    exact h.box
  have g1 : But (fun k => k = b) w3 (w3.setCell ⟨b, 2, none⟩ v') := But.of_grownBy (grown_setCell _ _ _ _) fun k e => by cases e; rfl
  refine ⟨hb, ⟨?_, ?_⟩, ?_, ?_⟩
  · rw [heap_setCell_same w3 b 2 _ _ _ hb]; simp
  · exact ho.but g1 fun k hk e => ho.no hb (by decide) (by rw [← e]; exact hk)
  · exact (But.of_grownBy hg fun k e => .inr e).trans (g1.mono fun k _ e => .inl e)
  · intro k hk
    rcases hat with e | e
    · exact .inl (by rw [← e]; exact hk)
    · rw [e] at hk; cases hk; exact .inr (Nat.le_refl _)
def Bx (w : World) (b : Nat) (c : C) (v : Value) : Prop := w.heap[b]? = some (.cells #[.float .f64 c.now, .int .i64 c.nx, v] 56 (0, 0))
theorem trc {w : World} {b : Nat} {c : C} {v : Value} (h : Bx w b c v) : w.cell? ⟨b, 0, none⟩ = some (.float .f64 c.now) ∧ w.cell? ⟨b, 1, none⟩ = some (.int .i64 c.nx) ∧ w.cell? ⟨b, 2, none⟩ = some v := by
  unfold Bx at h
  exact ⟨by simp [World.cell?, h], by simp [World.cell?, h], by simp [World.cell?, h]⟩
/-- A step of a clock: it turns its own blocks, and those that it has behind it are its own or new. -/
def Stp (b : Nat) (v v' : Value) (w w' : World) : Prop := But (Own b v) w w' ∧ ∀ k, v'.ownBlock = some k → v.ownBlock = some k ∨ w.heap.size ≤ k
set_option maxRecDepth 100000 in
set_option maxHeartbeats 2000000 in
theorem push_any (w : World) (b : Nat) (c : C) (v : Value) (l : List Tm) (t : Tm) (h : At w b c v l) (hlen : l.length ≤ 1000000) :
    Calls Try.prog 99 #[.pointer (some ⟨b, 2, none⟩), .iface 70 (.agg #[.int .i64 t.id, .float .f64 t.b])] w fun e w' => e = .returned (.tuple #[]) ∧ ∃ v', At w' b c v' (l ++ [t]) ∧ Stp b v v' w w' := by
  have sf : ∀ (W : World) (a : Addr) (x : Nat), (store a (.float .f64 x)).run Try.prog W = stored Try.prog W a (.float .f64 x) .plain := fun W a x => run_store _ W a _ _ rfl
  have ta : ∀ (q : World) (x : Value), (Instr.typeAssert (.iface 70 x) 20 70 true).run Try.prog q = .ok (.tuple #[x, .bool true]) q := fun q x => by kernel_rfl
  have B1 := box_below w (.cells #[.int .i64 t.id, .float .f64 t.b] 70)
  have N1 := heap_alloc_new w (.cells #[.int .i64 t.id, .float .f64 t.b] 70)
  obtain ⟨w2, hw2⟩ : ∃ w2, Hid (w.alloc (.cells #[.int .i64 t.id, .float .f64 t.b] 70) = w2) := ⟨_, rfl⟩
  obtain ⟨g4, hg4⟩ : ∃ g4, Hid (w.heap.size = g4) := ⟨_, rfl⟩
  have KP : Hid (At w2.drew b c v l ∧ Tw w2.drew g4 t) := by
    rw [← hw2.out, ← hg4.out]
    exact ⟨h.below B1.drew, N1⟩
  have hvl : Hid (v.ownBlock ≠ some g4) := fun e => by have := h.row.lt _ e; rw [← hg4.out] at this; omega
  have KQ : Hid (Below w.heap.size w w2.drew) := by rw [← hw2.out]; exact B1.drew
  clear B1 N1 h
  go_enter Try.func99, Try.ntmps99
  go_upto_region 2 with fail
  rw [hw2.out, hg4.out]
  refine wp_region_T (fun q => Bx q b c v ∧ Tw q g4 t) 8 (by kernel_rfl) ?_
  generalize w2.drew = q at *
  refine wpAnyT_take (i := 0) (oi := { dst := some 12, op := Op.move (Operand.tmp 0), type := 72, pos := "timers.go:28", after := #[], guard := none }) (v := .pointer (some ⟨b, 2, none⟩)) [7, 8] rfl (by kernel_rfl) (by kernel_rfl) (by kernel_rfl) (by kernel_rfl) (fun _ _ _ h => h) (Or.inl ⟨by rfl, ?_⟩) ⟨KP.out.1.box, KP.out.2⟩ ?_
  · intro wq hSw
    obtain ⟨_, _, y0⟩ := trc hSw.1
    obtain ⟨y1, y2⟩ := prc hSw.2
    go_simp
  (try simp only [Act.put, List.setIfInBounds_toArray, List.set_cons_zero, List.set_cons_succ])
  refine wpAnyT_take (i := 1) (oi := { dst := some 13, op := Op.move (Operand.tmp 0), type := 72, pos := "timers.go:28", after := #[], guard := none }) (v := .pointer (some ⟨b, 2, none⟩)) [2, 3, 6, 8] rfl (by kernel_rfl) (by kernel_rfl) (by kernel_rfl) (by kernel_rfl) (fun _ _ _ h => h) (Or.inl ⟨by rfl, ?_⟩) ⟨KP.out.1.box, KP.out.2⟩ ?_
  · intro wq hSw
    obtain ⟨_, _, y0⟩ := trc hSw.1
    obtain ⟨y1, y2⟩ := prc hSw.2
    go_simp
  (try simp only [Act.put, List.setIfInBounds_toArray, List.set_cons_zero, List.set_cons_succ])
  refine wpAnyT_take (i := 2) (oi := { dst := some 14, op := Op.nilCheck (Operand.tmp 13), type := 0, pos := "timers.go:28", after := #[{ on := 1, ground := Ground.data }], guard := none }) (v := .pointer (some ⟨b, 2, none⟩)) [3, 6, 8] rfl (by kernel_rfl) (by kernel_rfl) (by kernel_rfl) (by kernel_rfl) (fun _ _ _ h => h) (Or.inl ⟨by rfl, ?_⟩) ⟨KP.out.1.box, KP.out.2⟩ ?_
  · intro wq hSw
    obtain ⟨_, _, y0⟩ := trc hSw.1
    obtain ⟨y1, y2⟩ := prc hSw.2
    go_simp
  (try simp only [Act.put, List.setIfInBounds_toArray, List.set_cons_zero, List.set_cons_succ])
  refine wpAnyT_take (i := 3) (oi := { dst := some 15, op := Op.load 54 (Operand.tmp 14), type := 54, pos := "timers.go:28", after := #[{ on := 2, ground := Ground.data }], guard := none }) (v := v) [6, 8] rfl (by kernel_rfl) (by kernel_rfl) (by kernel_rfl) (by kernel_rfl) (fun _ _ _ h => h) (Or.inl ⟨by rfl, ?_⟩) ⟨KP.out.1.box, KP.out.2⟩ ?_
  · intro wq hSw
    obtain ⟨_, _, y0⟩ := trc hSw.1
    obtain ⟨y1, y2⟩ := prc hSw.2
    go_simp
  (try simp only [Act.put, List.setIfInBounds_toArray, List.set_cons_zero, List.set_cons_succ])
  refine wpAnyT_take (i := 4) (oi := { dst := some 16, op := Op.load 70 (Operand.tmp 4), type := 70, pos := "timers.go:28", after := #[], guard := none }) (v := .agg #[.int .i64 t.id, .float .f64 t.b]) [5, 6, 8] rfl (by kernel_rfl) (by kernel_rfl) (by kernel_rfl) (by kernel_rfl) (fun _ _ _ h => h) (Or.inl ⟨by rfl, ?_⟩) ⟨KP.out.1.box, KP.out.2⟩ ?_
  · intro wq hSw
    obtain ⟨_, _, y0⟩ := trc hSw.1
    obtain ⟨y1, y2⟩ := prc hSw.2
    go_simp
  (try simp only [Act.put, List.setIfInBounds_toArray, List.set_cons_zero, List.set_cons_succ])
  refine wpAnyT_one (i := 5) (o := { dst := some 17, op := Op.buildSlice 54 1 #[(0, Operand.tmp 16)], type := 54, pos := "timers.go:28", after := #[{ on := 4, ground := Ground.data }], guard := none }) (by kernel_rfl) rfl (fun K hK => ?_)
  go_simp
  refine hK.out _ _ (fun _ => ⟨(KP.out.1.below (box_below _ _)).box, KP.out.2.below (box_below _ _)⟩) ?_
  clear hK K
  (try simp only [Act.put, List.setIfInBounds_toArray, List.set_cons_zero, List.set_cons_succ])
  have B3 := box_below q (.cells #[.int .i64 t.id, .float .f64 t.b] 70)
  obtain ⟨o0, o1⟩ := prc (heap_alloc_new q (.cells #[.int .i64 t.id, .float .f64 t.b] 70))
  have A3 := KP.out.1.below B3
  have T3 := KP.out.2.below B3
  have Q3 := keepF KQ.out B3
  clear KP KQ B3
  generalize q.alloc (.cells #[.int .i64 t.id, .float .f64 t.b] 70) = w3 at *
  generalize q.heap.size = g3 at *
  obtain ⟨v', w4, r4, M4, G4, X4⟩ := run_appT t g3 A3.row o0 o1 hlen 54
  have Z4 := A3.app M4 G4 X4
  have A4 : Hid (Bx w4 b c v ∧ Tw w4 g4 t) := ⟨Z4.1, (G4.block g4 (heap_lt T3) (fun e => hvl.out e.symm)).trans T3⟩
  have FIN2 : Hid (At (w4.setCell ⟨b, 2, none⟩ v') b c v' (l ++ [t]) ∧ But (Own b v) w (w4.setCell ⟨b, 2, none⟩ v') ∧ ∀ k, v'.ownBlock = some k → v.ownBlock = some k ∨ w.heap.size ≤ k) := ⟨Z4.2.1, (But.of_below Q3 _).trans Z4.2.2.1, fun k hk => (Z4.2.2.2 k hk).imp id fun h => Nat.le_trans Q3.size h⟩
  have c4 : w4.cell? ⟨b, 2, none⟩ = some v := by simp [World.cell?, Z4.1]
  have f4 : w4.frozen? ⟨b, 2, none⟩ = false := by simp [World.frozen?, Z4.1]
  obtain ⟨ao', n', ca', rfl⟩ := slice_of M4
  clear A3 T3 M4 G4 X4 Z4 o0 o1
  replace r4 := hide r4
  refine wpAnyT_one (i := 6) (o := { dst := some 18, op := Op.call { callee := Callee.builtin Builtin.append, args := #[Operand.tmp 15, Operand.tmp 17], argTypes := #[54, 54] }, type := 54, pos := "timers.go:28", after := #[{ on := 3, ground := Ground.data }, { on := 5, ground := Ground.data }], guard := none }) (by kernel_rfl) rfl (fun K hK => ?_)
  rw [if_pos (by simp [Region.wanted])]
  refine Lib.wp_append_run _ (.tmp 15) (.tmp 17) 54 54 rfl v (.slice (some ⟨g3, 0, none⟩) 1 1) (by simp [Act.eval]) (by simp [Act.eval]) _ w4 r4.out ?_
  refine hK.out _ _ (fun _ => A4.out) ?_
  clear hK K
  (try simp only [Act.put, List.setIfInBounds_toArray, List.set_cons_zero, List.set_cons_succ])
  refine wpAnyT_one (i := 7) (o := { dst := some 19, op := Op.nilCheck (Operand.tmp 12), type := 0, pos := "timers.go:28", after := #[{ on := 0, ground := Ground.data }, { on := 0, ground := Ground.phase }, { on := 1, ground := Ground.phase }, { on := 2, ground := Ground.phase }, { on := 3, ground := Ground.phase }, { on := 4, ground := Ground.phase }, { on := 5, ground := Ground.phase }, { on := 6, ground := Ground.phase }], guard := none }) (by kernel_rfl) rfl (fun K hK => ?_)
  go_simp
  refine hK.out _ _ (fun _ => A4.out) ?_
  clear hK K
  (try simp only [Act.put, List.setIfInBounds_toArray, List.set_cons_zero, List.set_cons_succ])
  refine wpAnyT_one (i := 8) (o := { dst := none, op := Op.store 54 (Operand.tmp 19) (Operand.tmp 18), type := 0, pos := "timers.go:28", after := #[{ on := 7, ground := Ground.data }, { on := 6, ground := Ground.data }, { on := 6, ground := Ground.chain }, { on := 0, ground := Ground.phase }, { on := 1, ground := Ground.phase }, { on := 2, ground := Ground.phase }, { on := 3, ground := Ground.phase }, { on := 4, ground := Ground.phase }, { on := 5, ground := Ground.phase }, { on := 6, ground := Ground.phase }], guard := none }) (by kernel_rfl) rfl (fun K hK => ?_)
  go_simp
  refine hK.out _ _ (vac (by kernel_rfl)) ?_
  clear hK K
  (try simp only [Act.put, List.setIfInBounds_toArray, List.set_cons_zero, List.set_cons_succ])
  refine wpAnyT_done (by kernel_rfl) ?_ _
  go_wp2_with fail
  go_end0
  exact ⟨rfl, _, FIN2.out⟩
end Go.Proofs.Ytjplkffghfikgaa.Ck

/-
  Pop of the timers.
-/
namespace Go.Proofs.Ytjplkffghfikgaa.Ck
open Go.RowKit Rl
theorem Stp.refl (b : Nat) (v : Value) (w : World) : Stp b v v w w := ⟨But.refl _ _, fun _ h => .inl h⟩
theorem Stp.trans {b : Nat} {v v' v'' : Value} {w w' w'' : World} (h : Stp b v v' w w') (k : Stp b v' v'' w' w'') : Stp b v v'' w w'' := by
  refine ⟨⟨k.1.os.trans h.1.os, k.1.tape.trans h.1.tape, k.1.output.trans h.1.output, Nat.le_trans h.1.size k.1.size, fun i hi hx => ?_⟩, fun j hj => ?_⟩
  · rw [k.1.block i (Nat.lt_of_lt_of_le hi h.1.size) (fun e => ?_)]
    · exact h.1.block i hi hx
    · rcases e with e | e
      · exact hx (.inl e)
      · rcases h.2 i e with e | e
        · exact hx (.inr e)
        · omega
  · rcases k.2 j hj with e | e
    · exact h.2 j e
    · exact .inr (Nat.le_trans h.1.size e)
theorem Stp.below {b : Nat} {v : Value} {w w' : World} (h : Below w.heap.size w w') : Stp b v v w w' := ⟨But.of_below h _, fun _ h => .inl h⟩
set_option maxRecDepth 100000 in
set_option maxHeartbeats 2000000 in
theorem pop_any (w : World) (b n : Nat) (c : C) (v : Value) (l : List Tm) (h : At w b c v l) (hl : l.length = n + 1) :
    Calls Try.prog 98 #[.pointer (some ⟨b, 2, none⟩)] w fun e w' => e = .returned (.iface 70 (.agg #[.int .i64 (g l n).id, .float .f64 (g l n).b])) ∧ ∃ v', At w' b c v' (l.take n) ∧ Stp b v v' w w' := by
  have sf : ∀ (W : World) (a : Addr) (x : Nat), (store a (.float .f64 x)).run Try.prog W = stored Try.prog W a (.float .f64 x) .plain := fun W a x => run_store _ W a _ _ rfl
  obtain ⟨tb, ca, cs, rfl, hh, hs, hc, hle, hm, hlt⟩ := h.row.at (fun e => by rw [e] at hl; simp at hl)
  obtain ⟨c0, c1⟩ := h.row.read n (by omega)
  obtain ⟨_, _, d2⟩ := h.cells
  obtain ⟨_, _, f2⟩ := h.frozen
  have R1 := h.row.take n (by omega)
  have A1 := h.setV R1
  have B1 := box_below (w.setCell ⟨b, 2, none⟩ (.slice (some ⟨tb, 0, none⟩) n ca)) (.cells #[.int .i64 (g l n).id, .float .f64 (g l n).b] 70)
  have A2 := A1.below B1
  have hb2 : b < w.heap.size := heap_lt h.box
  have FIN : Hid (At ((w.setCell ⟨b, 2, none⟩ (.slice (some ⟨tb, 0, none⟩) n ca)).alloc (.cells #[.int .i64 (g l n).id, .float .f64 (g l n).b] 70)) b c (.slice (some ⟨tb, 0, none⟩) n ca) (l.take n) ∧ Stp b (.slice (some ⟨tb, 0, none⟩) (n + 1) ca) (.slice (some ⟨tb, 0, none⟩) n ca) w ((w.setCell ⟨b, 2, none⟩ (.slice (some ⟨tb, 0, none⟩) n ca)).alloc (.cells #[.int .i64 (g l n).id, .float .f64 (g l n).b] 70))) :=
    ⟨A2, (but_set _ _ _ _ _).trans (But.of_below B1 _), fun k hk => .inl hk⟩
  rw [hl] at d2 ⊢
  have hle2 : n ≤ ca := by omega
  clear hh hs hc A1 A2 R1 h B1
  go_enter Try.func98, Try.ntmps98
  go_wp2_with fail
  go_ret
  exact ⟨rfl, _, FIN.out⟩
end Go.Proofs.Ytjplkffghfikgaa.Ck

/-
  container/heap over the timers: up.
-/
namespace Go.Proofs.Ytjplkffghfikgaa.Ck
open Go.RowKit Rl
/-- Times are 64 bits. -/
def Bt (l : List Tm) : Prop := ∀ t ∈ l, t.b < 18446744073709551616
theorem Bt.perm {l l' : List Tm} (h : Bt l) (hp : l'.Perm l) : Bt l' := fun t ht => h t (hp.mem_iff.1 ht)
theorem Bt.at {l : List Tm} (h : Bt l) {i : Nat} (hi : i < l.length) : (g l i).b < 18446744073709551616 := h _ (g_mem hi)
theorem half (k : Nat) : Int.tdiv ((k : Int) - 1) 2 = (((k - 1) / 2 : Nat) : Int) := by
  match k with
  | 0 => rfl
  | k + 1 =>
    rw [show ((k + 1 : Nat) : Int) - 1 = (k : Int) by omega, Int.tdiv_eq_ediv_of_nonneg (by omega)]
    simp
theorem At.slice {w : World} {b : Nat} {c : C} {v : Value} {l : List Tm} (h : At w b c v l) (hl : l ≠ []) : ∃ tb ca, v = .slice (some ⟨tb, 0, none⟩) l.length ca := by
  obtain ⟨tb, ca, cs, e, _⟩ := h.row.at hl
  exact ⟨tb, ca, e⟩
/-- Between the rounds: the first n timers in another order. -/
def Hs (w : World) (b : Nat) (c : C) (v : Value) (l : List Tm) (n : Nat) (wr : World) (l' : List Tm) : Prop := At wr b c v l' ∧ l'.Perm l ∧ (∀ k, n ≤ k → g l' k = g l k) ∧ Stp b v v w wr
theorem Hs.quiet {w wr wq : World} {b : Nat} {c : C} {v : Value} {l l' : List Tm} {m : Nat} (h : Hs w b c v l m wr l') (hq : Below wr.heap.size wr wq) : Hs w b c v l m wq l' :=
  ⟨h.1.below hq, h.2.1, h.2.2.1, h.2.2.2.trans (Stp.below hq)⟩
theorem Hs.swap {w wr wq : World} {b tb n ca i j m : Nat} {c : C} {l l' : List Tm} (h : Hs w b c (.slice (some ⟨tb, 0, none⟩) n ca) l m wr l') (hr : Tms wq (.slice (some ⟨tb, 0, none⟩) n ca) (sw l' i j)) (hb : But (fun k => k = tb) wr wq) (hi : i < l'.length) (hj : j < l'.length) (hi' : i < m) (hj' : j < m) : Hs w b c (.slice (some ⟨tb, 0, none⟩) n ca) l m wq (sw l' i j) := by
  have hne : b ≠ tb := fun e => h.1.ap (by rw [e]; rfl)
  refine ⟨⟨hb.at h.1.box hne, hr⟩, (sw_perm hi hj).trans h.2.1, fun k hk => by rw [sw_get hi hj, if_neg (by omega), if_neg (by omega)]; exact h.2.2.1 k hk, h.2.2.2.trans ⟨hb.mono fun k _ e => .inr (by rw [e]; rfl), fun k hk => .inl hk⟩⟩
set_option maxRecDepth 100000 in
set_option maxHeartbeats 2000000 in
theorem up_any (w : World) (b j n : Nat) (c : C) (v : Value) (l : List Tm) (h : At w b c v l) (hu : UpI l j n) (hB : Bt l) (hlen : l.length ≤ 1000000) :
    Calls Try.prog 44 #[.iface 72 (.pointer (some ⟨b, 2, none⟩)), .int .i64 (j : Int)] w fun e w' => e = .returned (.tuple #[]) ∧ ∃ l', Hs w b c v l n w' l' ∧ HpN l' n := by
  have hne : l ≠ [] := fun e => by have h1 := hu.1; have h2 := hu.2.1; rw [e] at h2; simp at h2; omega
  obtain ⟨tb, ca, rfl⟩ := h.slice hne
  obtain ⟨N, hN⟩ : ∃ N, Hid (l.length = N) := ⟨_, rfl⟩
  rw [hN.out] at h hlen ⊢
  have H0 : Hid (Hs w b c (.slice (some ⟨tb, 0, none⟩) N ca) l n w l ∧ UpI l j n) := ⟨⟨h, List.Perm.refl _, fun _ _ => rfl, Stp.refl _ _ _⟩, hu⟩
  have hB' := hide hB
  clear h hu hB hne
  go_enter Try.func44, Try.ntmps44
  go_wp2_with fail
  go_loopw [1] (fun jv wr => ∃ (k : Nat), jv = .int .i64 (k : Int) ∧ ∃ l', Hid (Hs w b c (.slice (some ⟨tb, 0, none⟩) N ca) l n wr l' ∧ UpI l' k n)) (fun jv _ => (intOf jv).toNat)
  case atStart => exact ⟨j, rfl, l, H0.out⟩
  case round =>
    obtain ⟨k, rfl, l', hQ⟩ := hrel
    have hl' : l'.length = N := by rw [hQ.out.1.2.1.length_eq]; exact hN.out
    have hk : k < N := by have h1 := hQ.out.2.1; have h2 := hQ.out.2.2.1; omega
    have hkn := hQ.out.2.1
    have hh := half k
    have hi : (k - 1) / 2 < N := by omega
    obtain ⟨_, _, cv⟩ := hQ.out.1.1.cells
    have m1 := meth_less cv
    by_cases h0 : k = 0
    · subst h0
      have FIN : Hid (∃ l', Hs w b c (.slice (some ⟨tb, 0, none⟩) N ca) l n wr l' ∧ HpN l' n) := ⟨l', hQ.out.1, hQ.out.2.done (.inl rfl)⟩
      go_wp2_with fail
      go_end0
      exact ⟨rfl, FIN.out⟩
    · have hki : ¬ ((((k - 1) / 2 : Nat) : Int) = (k : Int)) := by omega
      have hL := less_any wr tb N ca k ((k - 1) / 2) l' hQ.out.1.1.row hl'.symm hk hi ((hB'.out.perm hQ.out.1.2.1).at (by omega)) ((hB'.out.perm hQ.out.1.2.1).at (by omega))
      by_cases hlt : Lt (g l' k) (g l' ((k - 1) / 2))
      · have hlt' := hide hlt
        rw [decide_eq_true hlt] at hL
        clear hlt
        have i2 := hide hi
        obtain ⟨p, hp⟩ : ∃ p, Hid ((k - 1) / 2 = p) := ⟨_, rfl⟩
        rw [hp.out] at hh hki hL hi
        go_wp2_with (first | (go_at_call 96; refine hL.mono ?_; rintro e w2 ⟨rfl, b2⟩; have H2 := hide (hQ.out.1.quiet b2); have m2 := meth_swap H2.out.1.cells.2.2) | (go_at_call 97; refine (swap_any w2 tb N ca p k l' H2.out.1.row hl'.symm hi hk).mono ?_; rintro e w3 ⟨rfl, r3, b3⟩))
        have H3 : Hid (Hs w b c (.slice (some ⟨tb, 0, none⟩) N ca) l n w3 (sw l' p k) ∧ UpI (sw l' p k) p n) := by
          refine ⟨H2.out.swap r3 b3 (by omega) (by omega) (by have := hp.out; omega) hkn, ?_⟩
          rw [← hp.out]
          exact hQ.out.2.step (by omega) hlt'.out
        clear r3 b3 m2 H2
        go_wp2_with fail
        go_roundw
        case rel => exact ⟨p, rfl, _, H3.out⟩
        case measure => have := hp.out; simp [intOf]; omega
      · have FIN : Hid (∀ wq, Below wr.heap.size wr wq → ∃ l', Hs w b c (.slice (some ⟨tb, 0, none⟩) N ca) l n wq l' ∧ HpN l' n) := fun wq hq => ⟨l', hQ.out.1.quiet hq, hQ.out.2.done (.inr hlt)⟩
        rw [decide_eq_false hlt] at hL
        clear hlt
        go_wp2_with (go_at_call 96; refine hL.mono ?_; rintro e w2 ⟨rfl, b2⟩; have H2 := hide (FIN.out _ b2))
        go_end0
        exact ⟨rfl, H2.out⟩
end Go.Proofs.Ytjplkffghfikgaa.Ck

/-
  container/heap over the timers: down. (gen_CkJ.py)
-/
namespace Go.Proofs.Ytjplkffghfikgaa.Ck
open Go.RowKit Rl
set_option linter.unusedVariables false
theorem par_two {k k' : Nat} (h : 0 < k') (hp : (k' - 1) / 2 = k) : k' = 2 * k + 1 ∨ k' = 2 * k + 2 := by omega
def DnP (w : World) (b : Nat) (c : C) (v : Value) (l : List Tm) (i0 n : Nat) (e : Ending) (w' : World) : Prop := ∃ l' i, e = .returned (.bool (decide (i0 < i))) ∧ i0 ≤ i ∧ Hs w b c v l n w' l' ∧ (i0 < i → HpN l' n) ∧ (i = i0 → UpI l' i0 n)
theorem gtI (i0 k : Nat) : decide ((i0 : Int) < (k : Int)) = decide (i0 < k) := by rw [decide_eq_decide]; omega
set_option maxRecDepth 100000 in
set_option maxHeartbeats 4000000 in
theorem down_any (w : World) (b i0 n : Nat) (c : C) (v : Value) (l : List Tm) (h : At w b c v l) (hd : DnI l i0 i0 n) (hB : Bt l) (hlen : l.length ≤ 1000000) :
    Calls Try.prog 45 #[.iface 72 (.pointer (some ⟨b, 2, none⟩)), .int .i64 (i0 : Int), .int .i64 (n : Int)] w fun e w' => DnP w b c v l i0 n e w' := by
  have hne : l ≠ [] := fun e => by have h1 := hd.1; have h2 := hd.2.2.1; rw [e] at h2; simp at h2; omega
  obtain ⟨tb, ca, rfl⟩ := h.slice hne
  obtain ⟨N, hN⟩ : ∃ N, Hid (l.length = N) := ⟨_, rfl⟩
  rw [hN.out] at h hlen ⊢
  have hnN : n ≤ N := by have := hd.2.2.1; rw [hN.out] at this; exact this
  have H0 : Hid (Hs w b c (.slice (some ⟨tb, 0, none⟩) N ca) l n w l ∧ DnI l i0 i0 n) := ⟨⟨h, List.Perm.refl _, fun _ _ => rfl, Stp.refl _ _ _⟩, hd⟩
  have hB' := hide hB
  clear h hd hB hne
  go_enter Try.func45, Try.ntmps45
  go_wp2_with fail
  go_loopw [7] (fun jv wr => ∃ (k : Nat), jv = .int .i64 (k : Int) ∧ ∃ l', Hid (Hs w b c (.slice (some ⟨tb, 0, none⟩) N ca) l n wr l' ∧ DnI l' i0 k n)) (fun jv _ => n - (intOf jv).toNat)
  case atStart => exact ⟨i0, rfl, l, H0.out⟩
  case round =>
    obtain ⟨k, rfl, l', hQ⟩ := hrel
    have hl' : l'.length = N := by rw [hQ.out.1.2.1.length_eq]; exact hN.out
    have hkn : k < n := hQ.out.2.1
    have hik : i0 ≤ k := hQ.out.2.2.1
    have hBl := hide (hB'.out.perm hQ.out.1.2.1)
    obtain ⟨_, _, cv⟩ := hQ.out.1.1.cells
    have m1 := meth_less cv
    have gt1 := gtI i0 k
    obtain ⟨p1, hp1⟩ : ∃ p1, Hid (2 * k + 1 = p1) := ⟨_, rfl⟩
    obtain ⟨p2, hp2⟩ : ∃ p2, Hid (2 * k + 2 = p2) := ⟨_, rfl⟩
    have e1 : 2 * (k : Int) + 1 = (p1 : Int) := by have := hp1.out; omega
    have e2 : (p1 : Int) + 1 = (p2 : Int) := by have := hp1.out; have := hp2.out; omega
    have kb : (k : Int) ≤ 1000000 := by omega
    have pb : (p1 : Int) ≤ 2000001 := by omega
    have p0 : ¬ ((p1 : Int) < 0) := by omega
    by_cases h1 : p1 < n
    · have h1a : ¬ ((n : Int) ≤ (p1 : Int)) := by omega
      by_cases h2 : p2 < n
      · have h2a : (p2 : Int) < (n : Int) := by omega
        have hL1 := less_any wr tb N ca p2 p1 l' hQ.out.1.1.row hl'.symm (by omega) (by omega) (hBl.out.at (by omega)) (hBl.out.at (by omega))
        by_cases c1 : Lt (g l' p2) (g l' p1)
        · rw [decide_eq_true c1] at hL1
          have hmin : Hid (∀ k', 0 < k' → k' < n → (k' - 1) / 2 = k → ¬ Lt (g l' k') (g l' p2)) := by
            intro k' k0 hk' hp
            rcases par_two k0 hp with e | e
            · rw [e, hp1.out]; exact fun q => c1.asym q
            · rw [e, hp2.out]; exact Lt.irr _
          have hpar : Hid (((p2 - 1) / 2 = k) ∧ 0 < p2 ∧ p2 < n) := by have := hp1.out; have := hp2.out; exact ⟨by omega, by omega, by omega⟩
          clear c1
          have R2 : Hid (∀ wq, Below wr.heap.size wr wq → Hs w b c (.slice (some ⟨tb, 0, none⟩) N ca) l n wq l') := fun wq hq => hQ.out.1.quiet hq
          have hL2 := hide (fun wq (hq : Below wr.heap.size wr wq) => less_any wq tb N ca p2 k l' (R2.out wq hq).1.row hl'.symm (by omega) (by omega) (hBl.out.at (by omega)) (hBl.out.at (by omega)))
          by_cases c2 : Lt (g l' p2) (g l' k)
          · have hlt := hide c2
            rw [decide_eq_true c2] at hL2
            clear c2
            go_wp2_with (first
              | (go_at_call 97; refine (swap_any w3 tb N ca k p2 l' H3.out.1.row hl'.symm (by omega) (by omega)).mono ?_; rintro e w4 ⟨rfl, r4, b4⟩)
              | (go_at_call 96; refine (hL2.out w2 b2.out).mono ?_; rintro e w3 ⟨rfl, b3⟩; have H3 := hide ((R2.out _ b2.out).quiet b3); have m3 := meth_swap H3.out.1.cells.2.2)
              | (go_at_call 96; refine hL1.mono ?_; rintro e w2 ⟨rfl, b2⟩; replace b2 := hide b2; have m2 := meth_less (R2.out _ b2.out).1.cells.2.2)
              | fail)
            have H4 : Hid (Hs w b c (.slice (some ⟨tb, 0, none⟩) N ca) l n w4 (sw l' k p2) ∧ DnI (sw l' k p2) i0 p2 n) := ⟨H3.out.swap r4 b4 (by omega) (by omega) (by omega) (by omega), hQ.out.2.step hpar.out.2.2 hpar.out.2.1 hpar.out.1 hlt.out hmin.out⟩
            clear r4 b4 m3 H3 m2 b2
            go_wp2_with fail
            go_roundw
            case rel => exact ⟨p2, rfl, _, H4.out⟩
            case measure => have := hpar.out.1; have := hpar.out.2.1; simp [intOf]; omega
          · have FIN : Hid (∀ wq, Below wr.heap.size wr wq → DnP w b c (.slice (some ⟨tb, 0, none⟩) N ca) l i0 n (.returned (.bool (decide (i0 < k)))) wq) := fun wq hq => by
              have hd := hQ.out.2.done (fun k' k0 hk' hp => Lt.ntrans (hmin.out k' k0 hk' hp) c2)
              exact ⟨l', k, rfl, hik, hQ.out.1.quiet hq, hd.1, hd.2⟩
            rw [decide_eq_false c2] at hL2
            clear c2
            go_wp2_with (first
              | (go_at_call 96; refine (hL2.out w2 b2.out).mono ?_; rintro e w3 ⟨rfl, b3⟩; have H3 := hide (keepF b2.out b3))
              | (go_at_call 96; refine hL1.mono ?_; rintro e w2 ⟨rfl, b2⟩; replace b2 := hide b2; have m2 := meth_less (R2.out _ b2.out).1.cells.2.2)
              | fail)
            go_ret
            exact FIN.out _ H3.out
        · rw [decide_eq_false c1] at hL1
          have hmin : Hid (∀ k', 0 < k' → k' < n → (k' - 1) / 2 = k → ¬ Lt (g l' k') (g l' p1)) := by
            intro k' k0 hk' hp
            rcases par_two k0 hp with e | e
            · rw [e, hp1.out]; exact Lt.irr _
            · rw [e, hp2.out]; exact c1
          have hpar : Hid (((p1 - 1) / 2 = k) ∧ 0 < p1 ∧ p1 < n) := by have := hp1.out; have := hp2.out; exact ⟨by omega, by omega, by omega⟩
          clear c1
          have R2 : Hid (∀ wq, Below wr.heap.size wr wq → Hs w b c (.slice (some ⟨tb, 0, none⟩) N ca) l n wq l') := fun wq hq => hQ.out.1.quiet hq
          have hL2 := hide (fun wq (hq : Below wr.heap.size wr wq) => less_any wq tb N ca p1 k l' (R2.out wq hq).1.row hl'.symm (by omega) (by omega) (hBl.out.at (by omega)) (hBl.out.at (by omega)))
          by_cases c2 : Lt (g l' p1) (g l' k)
          · have hlt := hide c2
            rw [decide_eq_true c2] at hL2
            clear c2
            go_wp2_with (first
              | (go_at_call 97; refine (swap_any w3 tb N ca k p1 l' H3.out.1.row hl'.symm (by omega) (by omega)).mono ?_; rintro e w4 ⟨rfl, r4, b4⟩)
              | (go_at_call 96; refine (hL2.out w2 b2.out).mono ?_; rintro e w3 ⟨rfl, b3⟩; have H3 := hide ((R2.out _ b2.out).quiet b3); have m3 := meth_swap H3.out.1.cells.2.2)
              | (go_at_call 96; refine hL1.mono ?_; rintro e w2 ⟨rfl, b2⟩; replace b2 := hide b2; have m2 := meth_less (R2.out _ b2.out).1.cells.2.2)
              | fail)
            have H4 : Hid (Hs w b c (.slice (some ⟨tb, 0, none⟩) N ca) l n w4 (sw l' k p1) ∧ DnI (sw l' k p1) i0 p1 n) := ⟨H3.out.swap r4 b4 (by omega) (by omega) (by omega) (by omega), hQ.out.2.step hpar.out.2.2 hpar.out.2.1 hpar.out.1 hlt.out hmin.out⟩
            clear r4 b4 m3 H3 m2 b2
            go_wp2_with fail
            go_roundw
            case rel => exact ⟨p1, rfl, _, H4.out⟩
            case measure => have := hpar.out.1; have := hpar.out.2.1; simp [intOf]; omega
          · have FIN : Hid (∀ wq, Below wr.heap.size wr wq → DnP w b c (.slice (some ⟨tb, 0, none⟩) N ca) l i0 n (.returned (.bool (decide (i0 < k)))) wq) := fun wq hq => by
              have hd := hQ.out.2.done (fun k' k0 hk' hp => Lt.ntrans (hmin.out k' k0 hk' hp) c2)
              exact ⟨l', k, rfl, hik, hQ.out.1.quiet hq, hd.1, hd.2⟩
            rw [decide_eq_false c2] at hL2
            clear c2
            go_wp2_with (first
              | (go_at_call 96; refine (hL2.out w2 b2.out).mono ?_; rintro e w3 ⟨rfl, b3⟩; have H3 := hide (keepF b2.out b3))
              | (go_at_call 96; refine hL1.mono ?_; rintro e w2 ⟨rfl, b2⟩; replace b2 := hide b2; have m2 := meth_less (R2.out _ b2.out).1.cells.2.2)
              | fail)
            go_ret
            exact FIN.out _ H3.out
      · have h2a : ¬ ((p2 : Int) < (n : Int)) := by omega
        have hmin : Hid (∀ k', 0 < k' → k' < n → (k' - 1) / 2 = k → ¬ Lt (g l' k') (g l' p1)) := by
          intro k' k0 hk' hp
          rcases par_two k0 hp with e | e
          · rw [e, hp1.out]; exact Lt.irr _
          · rw [hp2.out] at e; omega
        have hpar : Hid (((p1 - 1) / 2 = k) ∧ 0 < p1 ∧ p1 < n) := by have := hp1.out; have := hp2.out; exact ⟨by omega, by omega, by omega⟩
        have hL2 := less_any wr tb N ca p1 k l' hQ.out.1.1.row hl'.symm (by omega) (by omega) (hBl.out.at (by omega)) (hBl.out.at (by omega))
        by_cases c2 : Lt (g l' p1) (g l' k)
        · have hlt := hide c2
          rw [decide_eq_true c2] at hL2
          clear c2
          go_wp2_with (first
            | (go_at_call 97; refine (swap_any w3 tb N ca k p1 l' H3.out.1.row hl'.symm (by omega) (by omega)).mono ?_; rintro e w4 ⟨rfl, r4, b4⟩)
            | (go_at_call 96; refine hL2.mono ?_; rintro e w3 ⟨rfl, b3⟩; have H3 := hide (hQ.out.1.quiet b3); have m3 := meth_swap H3.out.1.cells.2.2)
            | fail)
          have H4 : Hid (Hs w b c (.slice (some ⟨tb, 0, none⟩) N ca) l n w4 (sw l' k p1) ∧ DnI (sw l' k p1) i0 p1 n) := ⟨H3.out.swap r4 b4 (by omega) (by omega) (by omega) (by omega), hQ.out.2.step hpar.out.2.2 hpar.out.2.1 hpar.out.1 hlt.out hmin.out⟩
          clear r4 b4 m3 H3
          go_wp2_with fail
          go_roundw
          case rel => exact ⟨p1, rfl, _, H4.out⟩
          case measure => have := hpar.out.1; have := hpar.out.2.1; simp [intOf]; omega
        · have FIN : Hid (∀ wq, Below wr.heap.size wr wq → DnP w b c (.slice (some ⟨tb, 0, none⟩) N ca) l i0 n (.returned (.bool (decide (i0 < k)))) wq) := fun wq hq => by
            have hd := hQ.out.2.done (fun k' k0 hk' hp => Lt.ntrans (hmin.out k' k0 hk' hp) c2)
            exact ⟨l', k, rfl, hik, hQ.out.1.quiet hq, hd.1, hd.2⟩
          rw [decide_eq_false c2] at hL2
          clear c2
          go_wp2_with (go_at_call 96; refine hL2.mono ?_; rintro e w3 ⟨rfl, b3⟩; have H3 := hide b3)
          go_ret
          exact FIN.out _ H3.out
    · have h1a : (n : Int) ≤ (p1 : Int) := by omega
      have FIN : Hid (DnP w b c (.slice (some ⟨tb, 0, none⟩) N ca) l i0 n (.returned (.bool (decide (i0 < k)))) wr) := by
        have hd := hQ.out.2.done (fun k' k0 hk' hp => by have := par_two k0 hp; have := hp1.out; omega)
        exact ⟨l', k, rfl, hik, hQ.out.1, hd.1, hd.2⟩
      go_wp2_with fail
      go_ret
      exact FIN.out
end Go.Proofs.Ytjplkffghfikgaa.Ck

/-
  container/heap over the timers: Push, Pop, Remove.
-/
namespace Go.Proofs.Ytjplkffghfikgaa.Ck
open Go.RowKit Rl
set_option linter.unusedVariables false
/-- down among none. -/
theorem down_none (w : World) (x : Value) : Calls Try.prog 45 #[x, .int .i64 0, .int .i64 0] w fun e w' => e = .returned (.bool false) ∧ w' = w := by
  go_enter Try.func45, Try.ntmps45
  go_wp2_with fail
  go_loopw [7] (fun jv wr => jv = .int .i64 0 ∧ Hid (wr = w)) (fun _ _ => 0)
  case atStart => exact ⟨rfl, rfl⟩
  case round =>
    obtain ⟨rfl, hQ⟩ := hrel
    go_wp2_with fail
    go_ret
    exact ⟨rfl, hQ.out⟩
theorem Bt.snoc {l : List Tm} (h : Bt l) {t : Tm} (ht : t.b < 18446744073709551616) : Bt (l ++ [t]) := fun x hx => by
  rcases List.mem_append.1 hx with hx | hx
  · exact h x hx
  · simp at hx; subst hx; exact ht
set_option maxRecDepth 100000 in
set_option maxHeartbeats 2000000 in
theorem hpush_any (w : World) (b : Nat) (c : C) (v : Value) (l : List Tm) (t : Tm) (h : At w b c v l) (hp : Hp l) (hB : Bt l) (ht : t.b < 18446744073709551616) (hlen : l.length ≤ 999999) :
    Calls Try.prog 31 #[.iface 72 (.pointer (some ⟨b, 2, none⟩)), .iface 70 (.agg #[.int .i64 t.id, .float .f64 t.b])] w fun e w' => e = .returned (.tuple #[]) ∧ ∃ v' l', At w' b c v' l' ∧ Hp l' ∧ l'.Perm (t :: l) ∧ Stp b v v' w w' := by
  have m1 := meth_push w b
  have hP := push_any w b c v l t h (by omega)
  have hu := hide (hp.push t)
  have hB2 := hide (hB.snoc ht)
  have hl2 : Hid ((l ++ [t]).length ≤ 1000000) := by show _ ≤ _; simp; omega
  clear hp hB ht h
  go_enter Try.func31, Try.ntmps31
  go_wp2_with (first
    | (go_at_call 95; refine (len_any _ ao n ca).mono ?_; rintro e w3 ⟨rfl, rfl⟩)
    | (go_at_call 44; refine hU.out.mono ?_; rintro e w4 ⟨rfl, l', H4, P4⟩)
    | (go_at_call 99; refine hP.mono ?_; rintro e w2 ⟨rfl, v', A2, S2⟩; obtain ⟨ao, ca, rfl, _⟩ := A2.row.form; obtain ⟨n, hn⟩ : ∃ n, Hid ((l ++ [t]).length = n) := ⟨_, rfl⟩; rw [hn.out] at A2 S2; have m2 := meth_len A2.cells.2.2; have hU := hide (up_any w2 b l.length (l.length + 1) c _ (l ++ [t]) A2 hu.out hB2.out hl2.out); have hn1 : (n : Int) - 1 = (l.length : Int) := (by have := hn.out; simp at this; omega); have nb : (n : Int) ≤ 1000000 := (by have := hn.out; have := hl2.out; omega))
    | fail)
  go_end0
  have hq : l'.length = l.length + 1 := by rw [H4.2.1.length_eq]; simp
  refine ⟨rfl, _, l', H4.1, ?_, H4.2.1.trans (perm_snoc l t), S2.trans H4.2.2.2⟩
  unfold Hp
  rw [hq]
  exact P4
end Go.Proofs.Ytjplkffghfikgaa.Ck

/-
  container/heap over the timers: Pop, Remove.
-/
namespace Go.Proofs.Ytjplkffghfikgaa.Ck
open Go.RowKit Rl
set_option linter.unusedVariables false
theorem HpN.zero (l : List Tm) : HpN l 0 := fun k _ h => by omega
/-- What is left where the last of the first n + 1 goes. -/
theorem gone {l l1 l2 : List Tm} {n i : Nat} (hl : l.length = n + 1) (hi : i ≤ n) (h1 : l1 = sw l i n) (h2 : l2.Perm l1) (ht : g l2 n = g l1 n) : g l2 n = g l i ∧ (g l i :: l2.take n).Perm l := by
  have e : g l1 n = g l i := by rw [h1, sw_get (by omega) (by omega), if_pos rfl]
  have hp : l1.Perm l := by rw [h1]; exact sw_perm (by omega) (by omega)
  have hl2 : l2.length = n + 1 := by rw [h2.length_eq, hp.length_eq, hl]
  refine ⟨ht.trans e, ?_⟩
  have := (perm_snoc (l2.take n) (g l2 n)).symm
  rw [← take_g hl2, ht, e] at this
  exact this.trans (h2.trans hp)
theorem sw_same (l : List Tm) (i : Nat) (h : i < l.length) : sw l i i = l := by
  unfold sw; rw [g_get h]; simp
set_option maxRecDepth 100000 in
set_option maxHeartbeats 4000000 in
theorem hpop_any (w : World) (b n : Nat) (c : C) (v : Value) (l : List Tm) (h : At w b c v l) (hp : Hp l) (hB : Bt l) (hl : l.length = n + 1) (hlen : n ≤ 999999) :
    Calls Try.prog 46 #[.iface 72 (.pointer (some ⟨b, 2, none⟩))] w fun e w' => e = .returned (.iface 70 (.agg #[.int .i64 (g l 0).id, .float .f64 (g l 0).b])) ∧ ∃ v' l', At w' b c v' l' ∧ Hp l' ∧ (g l 0 :: l').Perm l ∧ Stp b v v' w w' := by
  obtain ⟨tb, ca, rfl⟩ := h.slice (fun e => by rw [e] at hl; simp at hl)
  obtain ⟨N, hN⟩ : ∃ N, Hid (l.length = N) := ⟨_, rfl⟩
  have hN1 := hN.out
  rw [hN.out] at h hl ⊢
  have m1 := meth_len h.cells.2.2
  have m2 := meth_swap h.cells.2.2
  have hS := swap_any w tb N ca 0 n l h.row hN.out.symm (by omega) (by omega)
  have H0 : Hid (Hs w b c (.slice (some ⟨tb, 0, none⟩) N ca) l (n + 1) w l) := ⟨h, List.Perm.refl _, fun _ _ => rfl, Stp.refl _ _ _⟩
  have e1 : (N : Int) - 1 = (n : Int) := by omega
  have nb : (N : Int) ≤ 1000000 := by omega
  have hp' := hide hp
  have hB' := hide hB
  have hl0 : Hid (l.length = n + 1) := by show _ = _; omega
  have fin : Hid (∀ (w2 w3 : World) (l2 : List Tm) (v' : Value), Hs w b c (.slice (some ⟨tb, 0, none⟩) N ca) l (n + 1) w2 l2 → l2.Perm (sw l 0 n) → g l2 n = g (sw l 0 n) n → HpN l2 n → At w3 b c v' (l2.take n) → Stp b (.slice (some ⟨tb, 0, none⟩) N ca) v' w2 w3 →
      Ending.returned (.iface 70 (.agg #[.int .i64 (g l2 n).id, .float .f64 (g l2 n).b])) = .returned (.iface 70 (.agg #[.int .i64 (g l 0).id, .float .f64 (g l 0).b])) ∧ ∃ v' l', At w3 b c v' l' ∧ Hp l' ∧ (g l 0 :: l').Perm l ∧ Stp b (.slice (some ⟨tb, 0, none⟩) N ca) v' w w3) := by
    intro w2 w3 l2 v' hs h2 ht hn ha hst
    obtain ⟨q1, q2⟩ := gone hl0.out (Nat.zero_le _) rfl h2 ht
    exact ⟨by rw [q1], v', _, ha, Hp.of_take hn, q2, hs.2.2.2.trans hst⟩
  clear hp hB h hl
  go_enter Try.func46, Try.ntmps46
  by_cases h0 : n = 0
  · subst h0
    go_wp2_with (first
      | (go_at_call 98; refine (pop_any w2 b 0 c _ (sw l 0 0) H1.out.1 (by rw [sw_len]; exact hl0.out)).mono ?_; rintro e w3 ⟨rfl, v', A3, S3⟩)
      | (go_at_call 45; refine (down_none w2 _).mono ?_; rintro e w2' ⟨rfl, hw2⟩; rw [hw2]; clear hw2 w2'; have m3 := meth_pop w2 b)
      | (go_at_call 97; refine hS.mono ?_; rintro e w2 ⟨rfl, r2, b2⟩; have H1 := hide (H0.out.swap r2 b2 (by omega) (by omega) (by omega) (by omega)); clear hS)
      | (go_at_call 95; refine (len_any _ _ _ _).mono ?_; rintro e w1 ⟨rfl, hw1⟩; rw [hw1]; clear hw1 w1)
      | fail)
    go_ret
    exact fin.out w2 w3 _ v' H1.out (List.Perm.refl _) rfl (HpN.zero _) A3 S3
  · have hDn := hide (hp'.out.pop hl0.out (by omega))
    go_wp2_with (first
      | (go_at_call 98; refine (pop_any w4 b n c _ l2 H2.1 (by rw [H2.2.1.length_eq, sw_len]; exact hl0.out)).mono ?_; rintro e w3 ⟨rfl, v', A3, S3⟩)
      | (go_at_call 45; refine (down_any w2 b 0 n c _ (sw l 0 n) H1.out.1 hDn.out (hB'.out.perm H1.out.2.1) (by rw [sw_len]; have := hl0.out; omega)).mono ?_; rintro e w4 ⟨l2, i2, rfl, i2a, H2, i2b, i2c⟩; have m3 := meth_pop w4 b)
      | (go_at_call 97; refine hS.mono ?_; rintro e w2 ⟨rfl, r2, b2⟩; have H1 := hide (H0.out.swap r2 b2 (by omega) (by omega) (by omega) (by omega)); clear hS)
      | (go_at_call 95; refine (len_any _ _ _ _).mono ?_; rintro e w1 ⟨rfl, hw1⟩; rw [hw1]; clear hw1 w1)
      | fail)
    go_ret
    have hn : HpN l2 n := by
      by_cases q : 0 < i2
      · exact i2b q
      · exact (i2c (by omega)).done (.inl rfl)
    refine fin.out w4 w3 l2 v' ⟨H2.1, H2.2.1.trans H1.out.2.1, fun k hk => (H2.2.2.1 k (by omega)).trans (H1.out.2.2.1 k hk), H1.out.2.2.2.trans H2.2.2.2⟩ H2.2.1 (H2.2.2.1 n (Nat.le_refl _)) hn A3 S3
end Go.Proofs.Ytjplkffghfikgaa.Ck

/-
  container/heap over the timers: Remove.
-/
namespace Go.Proofs.Ytjplkffghfikgaa.Ck
open Go.RowKit Rl
set_option linter.unusedVariables false
theorem nlt_eq {i i2 : Nat} (h : i ≤ i2) (q : (!decide (i < i2)) = true) : i2 = i := by simp at q; omega
theorem lt_of_not {i i2 : Nat} (q : (!decide (i < i2)) = false) : i < i2 := by simpa using q
set_option maxRecDepth 100000 in
set_option maxHeartbeats 4000000 in
theorem hrem_any (w : World) (b n i : Nat) (c : C) (v : Value) (l : List Tm) (h : At w b c v l) (hp : Hp l) (hB : Bt l) (hl : l.length = n + 1) (hi : i ≤ n) (hlen : n ≤ 999999) :
    Calls Try.prog 35 #[.iface 72 (.pointer (some ⟨b, 2, none⟩)), .int .i64 (i : Int)] w fun e w' => e = .returned (.iface 70 (.agg #[.int .i64 (g l i).id, .float .f64 (g l i).b])) ∧ ∃ v' l', At w' b c v' l' ∧ Hp l' ∧ (g l i :: l').Perm l ∧ Stp b v v' w w' := by
  obtain ⟨tb, ca, rfl⟩ := h.slice (fun e => by rw [e] at hl; simp at hl)
  obtain ⟨N, hN⟩ : ∃ N, Hid (l.length = N) := ⟨_, rfl⟩
  have hN1 := hN.out
  rw [hN.out] at h hl ⊢
  have m1 := meth_len h.cells.2.2
  have m2 := meth_swap h.cells.2.2
  have hS := swap_any w tb N ca i n l h.row hN.out.symm (by omega) (by omega)
  have H0 : Hid (Hs w b c (.slice (some ⟨tb, 0, none⟩) N ca) l (n + 1) w l) := ⟨h, List.Perm.refl _, fun _ _ => rfl, Stp.refl _ _ _⟩
  have e1 : (N : Int) - 1 = (n : Int) := by omega
  have nb : (N : Int) ≤ 1000000 := by omega
  have hp' := hide hp
  have hB' := hide hB
  have hl0 : Hid (l.length = n + 1) := by show _ = _; omega
  have hi0 := hide hi
  have fin : Hid (∀ (w2 w3 : World) (l2 : List Tm) (v' : Value), Hs w b c (.slice (some ⟨tb, 0, none⟩) N ca) l (n + 1) w2 l2 → l2.Perm (sw l i n) → g l2 n = g (sw l i n) n → HpN l2 n → At w3 b c v' (l2.take n) → Stp b (.slice (some ⟨tb, 0, none⟩) N ca) v' w2 w3 →
      Ending.returned (.iface 70 (.agg #[.int .i64 (g l2 n).id, .float .f64 (g l2 n).b])) = .returned (.iface 70 (.agg #[.int .i64 (g l i).id, .float .f64 (g l i).b])) ∧ ∃ v' l', At w3 b c v' l' ∧ Hp l' ∧ (g l i :: l').Perm l ∧ Stp b (.slice (some ⟨tb, 0, none⟩) N ca) v' w w3) := by
    intro w2 w3 l2 v' hs h2 ht hn ha hst
    obtain ⟨q1, q2⟩ := gone hl0.out hi0.out rfl h2 ht
    exact ⟨by rw [q1], v', _, ha, Hp.of_take hn, q2, hs.2.2.2.trans hst⟩
  clear hp hB h hl
  go_enter Try.func35, Try.ntmps35
  by_cases h0 : n = i
  · subst h0
    have hD : Hid (sw l n n = l) := sw_same l n (by have := hl0.out; omega)
    have m3 := meth_pop w b
    have hnn : HpN l n := fun k k0 hk => hp'.out k k0 (by have := hl0.out; omega)
    replace hnn := hide hnn
    go_wp2_with (first
      | (go_at_call 98; refine (pop_any w b n c _ l H0.out.1 hl0.out).mono ?_; rintro e w3 ⟨rfl, v', A3, S3⟩)
      | (go_at_call 95; refine (len_any _ _ _ _).mono ?_; rintro e w1 ⟨rfl, hw1⟩; rw [hw1]; clear hw1 w1)
      | fail)
    go_ret
    exact fin.out w w3 l v' H0.out (by rw [hD.out]) (by rw [hD.out]) hnn.out A3 S3
  · have hin : ¬ ((n : Int) = (i : Int)) := by omega
    have hDn := hide (hp'.out.rem hl0.out (show i < n by omega))
    have hE : Hid (∀ (w2 w4 : World) (l2 : List Tm), Hs w b c (.slice (some ⟨tb, 0, none⟩) N ca) l (n + 1) w2 (sw l i n) → Hs w2 b c (.slice (some ⟨tb, 0, none⟩) N ca) (sw l i n) n w4 l2 → Hs w b c (.slice (some ⟨tb, 0, none⟩) N ca) l (n + 1) w4 l2) := fun w2 w4 l2 H1 H2 => ⟨H2.1, H2.2.1.trans H1.2.1, fun k hk => (H2.2.2.1 k (by omega)).trans (H1.2.2.1 k hk), H1.2.2.2.trans H2.2.2.2⟩
    go_upto_region 4 with (first
      | (go_at_call 97; refine hS.mono ?_; rintro e w2 ⟨rfl, r2, b2⟩; have H1 := hide (H0.out.swap r2 b2 (by omega) (by omega) (by omega) (by omega)); clear hS)
      | (go_at_call 95; refine (len_any _ _ _ _).mono ?_; rintro e w1 ⟨rfl, hw1⟩; rw [hw1]; clear hw1 w1)
      | fail)
    clear m1 m2
    have hDD := hide (down_any w2 b i n c _ (sw l i n) H1.out.1 hDn.out (hB'.out.perm H1.out.2.1) (by rw [sw_len]; have := hl0.out; omega))
    have hle : Hid ((sw l i n).length = n + 1) := by show _ = _; rw [sw_len]; exact hl0.out
    go_wp2_with (first
      | (go_at_call 98; refine (pop_any w5 b n c _ l3 H3.1 (by rw [H3.2.1.length_eq, H2.out.2.1.length_eq]; exact hle.out)).mono ?_; rintro e w3 ⟨rfl, v', A3, S3⟩)
      | (go_at_call 98; refine (pop_any w4 b n c _ l2 H2.out.1 (by rw [H2.out.2.1.length_eq]; exact hle.out)).mono ?_; rintro e w3 ⟨rfl, v', A3, S3⟩)
      | (go_at_call 44; have hqq : i2 = i := nlt_eq i2a (by assumption); refine (up_any w4 b i n c _ l2 H2.out.1 (i2c.out hqq) (hB'.out.perm (H2.out.2.1.trans H1.out.2.1)) (by rw [H2.out.2.1.length_eq, hle.out]; omega)).mono ?_; rintro e w5 ⟨rfl, l3, H3, P3⟩; have m5 := meth_pop w5 b)
      | (go_at_call 45; refine hDD.out.mono ?_; rintro e w4 ⟨l2, i2, rfl, i2a, H2, i2b, i2c⟩; replace H2 := hide H2; replace i2b := hide i2b; replace i2c := hide i2c; have m4 := meth_pop w4 b)
      | fail)
    · go_ret
      exact fin.out w5 w3 l3 v' (hE.out _ _ _ H1.out ⟨H3.1, H3.2.1.trans H2.out.2.1, fun k hk => (H3.2.2.1 k hk).trans (H2.out.2.2.1 k hk), H2.out.2.2.2.trans H3.2.2.2⟩) (H3.2.1.trans H2.out.2.1) ((H3.2.2.1 n (Nat.le_refl _)).trans (H2.out.2.2.1 n (Nat.le_refl _))) P3 A3 S3
    · go_ret
      have hqq : i < i2 := lt_of_not (by assumption)
      exact fin.out w4 w3 l2 v' (hE.out _ _ _ H1.out H2.out) H2.out.2.1 (H2.out.2.2.1 n (Nat.le_refl _)) (i2b.out hqq) A3 S3
end Go.Proofs.Ytjplkffghfikgaa.Ck

/-
  The model's nearest number is the one that an exact sum is rounded to.
-/
namespace Go.Proofs.Ytjplkffghfikgaa.Rl
open Go.RowKit
set_option maxRecDepth 100000
theorem up_iff (V s : Nat) (hs : 1 ≤ s) : upB V s = decide (2 ^ s < 2 * (V % 2 ^ s) ∨ (2 ^ s = 2 * (V % 2 ^ s) ∧ V / 2 ^ s % 2 = 1)) := by
  obtain ⟨t, rfl⟩ : ∃ t, s = t + 1 := ⟨s - 1, by omega⟩
  unfold upB
  rw [Nat.add_sub_cancel]
  have hp : 0 < 2 ^ t := Nat.two_pow_pos t
  have e1 : V % 2 ^ (t + 1) = V % 2 ^ t + 2 ^ t * (V / 2 ^ t % 2) := by rw [Nat.pow_succ, Nat.mod_mul]
  have e2 : V % 2 ^ t < 2 ^ t := Nat.mod_lt _ hp
  rw [e1, Nat.pow_succ]
  generalize V / (2 ^ t * 2) % 2 = o
  generalize V % 2 ^ t = r at *
  have hb : V / 2 ^ t % 2 = 0 ∨ V / 2 ^ t % 2 = 1 := by omega
  generalize V / 2 ^ t % 2 = b at *
  generalize 2 ^ t = P at *
  rcases hb with rfl | rfl
  · rw [Nat.mul_zero, Nat.add_zero, decide_eq_false (by omega : ¬ (0 = 1)), Bool.false_and]
    rw [decide_eq_false (by omega)]
  · rw [Nat.mul_one, decide_eq_true rfl, Bool.true_and]
    rw [Bool.eq_iff_iff]
    simp only [Bool.or_eq_true, decide_eq_true_eq]
    omega
theorem log2_mul_pow (m p : Nat) (hm : m ≠ 0) : (m * 2 ^ p).log2 = m.log2 + p := by
  have h0 : m * 2 ^ p ≠ 0 := Nat.mul_ne_zero hm (Nat.pos_iff_ne_zero.1 (Nat.two_pow_pos p))
  rw [Nat.log2_eq_iff h0]
  have h1 := (Nat.log2_eq_iff hm).1 rfl
  refine ⟨?_, ?_⟩
  · rw [Nat.pow_add]; exact Nat.mul_le_mul_right _ h1.1
  · rw [show m.log2 + p + 1 = (m.log2 + 1) + p by omega, Nat.pow_add]; exact Nat.mul_lt_mul_of_pos_right h1.2 (Nat.two_pow_pos p)
theorem cut_zero (neg : Bool) (n : Nat) : Ieee.Toward.even.cut neg n 0 = n := by
  unfold Ieee.Toward.cut
  simp [Nat.mod_one]
theorem cut_some (neg : Bool) (n d : Nat) (hd : d ≤ n.log2 + 2) : Ieee.Toward.even.cut neg n d = n / 2 ^ d + (decide (2 ^ d < 2 * (n % 2 ^ d) ∨ (2 ^ d = 2 * (n % 2 ^ d) ∧ n / 2 ^ d % 2 = 1))).toNat := by
  unfold Ieee.Toward.cut
  simp only [Nat.min_eq_left hd, Nat.one_shiftLeft]
  congr 2
  rw [Bool.eq_iff_iff]
  simp
theorem round_zero : roundB 0 = 0 := by unfold roundB; rw [if_pos (by omega)]
theorem nearest_eq (neg : Bool) (m p : Nat) : Ieee.double.nearest neg m (-1074 + (p : Int)) = Ieee.double.word neg (roundB (m * 2 ^ p)) := by
  unfold Ieee.Format.nearest
  by_cases hm : m = 0
  · subst hm; rw [if_pos rfl, Nat.zero_mul, round_zero]
  · rw [if_neg hm, fmt_least, fmt_bin, fmt_inf]
    simp only
    obtain ⟨s, hs⟩ : ∃ s : Nat, s = m.log2 + p - 52 := ⟨_, rfl⟩
    have e1 : max (-1074 + (p : Int) + (m.log2 : Int) - (Ieee.double.fractionBits : Int)) (-1074) = -1074 + (s : Int) := by
      have : (Ieee.double.fractionBits : Int) = 52 := rfl
      rw [this]; omega
    rw [e1, show (-1074 + (p : Int) - (-1074 + (s : Int))).toNat = p - s by omega, show (-1074 + (s : Int) - (-1074 + (p : Int))).toNat = s - p by omega,
      show (-1074 + (s : Int) - -1074).toNat = s by omega]
    congr 1
    have hl := log2_mul_pow m p hm
    have hV0 : m * 2 ^ p ≠ 0 := Nat.mul_ne_zero hm (Nat.pos_iff_ne_zero.1 (Nat.two_pow_pos p))
    have hb := (Nat.log2_eq_iff hV0).1 rfl
    rw [hl] at hb
    by_cases hps : s ≤ p
    · rw [show s - p = 0 by omega, cut_zero, Nat.shiftLeft_eq]
      have e2 : m * 2 ^ p = m * 2 ^ (p - s) * 2 ^ s := by rw [Nat.mul_assoc, ← Nat.pow_add, Nat.sub_add_cancel hps]
      have e3 : m * 2 ^ p / 2 ^ s = m * 2 ^ (p - s) := by rw [e2, Nat.mul_div_cancel _ (Nat.two_pow_pos s)]
      have e4 : m * 2 ^ p % 2 ^ s = 0 := by rw [e2]; exact Nat.mul_mod_left _ _
      unfold roundB
      by_cases hlt : m * 2 ^ p < 9007199254740992
      · have hs0 : s = 0 := by
          have : m.log2 + p < 53 := by
            rcases Nat.lt_or_ge (m.log2 + p) 53 with h | h
            · exact h
            · have := pow_le2 53 _ h; omega
          omega
        rw [if_pos hlt]
        subst hs0
        simp only [Nat.zero_mul, Nat.zero_add, Nat.sub_zero]
        exact Nat.min_eq_left (by omega)
      · have hs1 : 1 ≤ s := by
          rcases Nat.lt_or_ge s 1 with h | h
          · exfalso
            have h2 : m.log2 + p + 1 ≤ 53 := by omega
            have := pow_le2 _ 53 h2
            omega
          · exact h
        have hf : ¬ (2 ^ s < 2 * 0 ∨ (2 ^ s = 2 * 0 ∧ m * 2 ^ (p - s) % 2 = 1)) := by have := Nat.two_pow_pos s; omega
        rw [if_neg hlt, hl, ← hs, up_iff _ _ hs1, e3, e4, decide_eq_false hf, Bool.toNat_false, Nat.add_zero]
    · have hs2 : s - p = m.log2 - 52 := by omega
      have hsp : s = (s - p) + p := by omega
      rw [show p - s = 0 by omega, Nat.shiftLeft_zero, cut_some _ _ _ (by omega)]
      have e3 : m * 2 ^ p / 2 ^ s = m / 2 ^ (s - p) := by rw [hsp, Nat.pow_add, Nat.mul_div_mul_right _ _ (Nat.two_pow_pos p), Nat.add_sub_cancel]
      have e4 : m * 2 ^ p % 2 ^ s = m % 2 ^ (s - p) * 2 ^ p := by rw [hsp, Nat.pow_add, Nat.mul_mod_mul_right, Nat.add_sub_cancel]
      have hs1 : 1 ≤ s := by omega
      have hlt : ¬ m * 2 ^ p < 9007199254740992 := by
        have h2 : 53 ≤ m.log2 + p := by omega
        have := pow_le2 53 _ h2
        omega
      unfold roundB
      rw [if_neg hlt, hl, ← hs, up_iff _ _ hs1, e3, e4]
      have e5 : 2 ^ s = 2 ^ (s - p) * 2 ^ p := by rw [← Nat.pow_add]; congr 1
      rw [e5, show 2 * (m % 2 ^ (s - p) * 2 ^ p) = (2 * (m % 2 ^ (s - p))) * 2 ^ p by rw [Nat.mul_assoc]]
      have h6 : ∀ a b : Nat, a * 2 ^ p < b * 2 ^ p ↔ a < b := fun a b => Nat.mul_lt_mul_right (Nat.two_pow_pos p)
      have h7 : ∀ a b : Nat, a * 2 ^ p = b * 2 ^ p ↔ a = b := fun a b => ⟨fun h => Nat.eq_of_mul_eq_mul_right (Nat.two_pow_pos p) h, fun h => by rw [h]⟩
      simp only [h6, h7]
      rw [Nat.add_assoc]
end Go.Proofs.Ytjplkffghfikgaa.Rl

/-
  What exact sums come to: of one number, of two, of whole numbers, of a list turned round, of a list with a number and its opposite.
-/
namespace Go.Proofs.Ytjplkffghfikgaa.Rl
open Go.RowKit
set_option maxRecDepth 100000
theorem round_exact (D h : Nat) (hD : D < 9007199254740992) (hh : h ≤ 2045) : magB (roundB (D * 2 ^ h)) = D * 2 ^ h := by
  unfold roundB
  by_cases hlt : D * 2 ^ h < 9007199254740992
  · rw [if_pos hlt]
    unfold magB
    by_cases h1 : D * 2 ^ h < 4503599627370496
    · rw [if_pos h1]
    · rw [if_neg h1, show D * 2 ^ h / 4503599627370496 - 1 = 0 by omega, Nat.pow_zero, Nat.mul_one]; omega
  · rw [if_neg hlt]
    have hD0 : D ≠ 0 := by rintro rfl; rw [Nat.zero_mul] at hlt; omega
    have hl := log2_mul_pow D h hD0
    have hV0 : D * 2 ^ h ≠ 0 := Nat.mul_ne_zero hD0 (Nat.pos_iff_ne_zero.1 (Nat.two_pow_pos h))
    have hb := (Nat.log2_eq_iff hV0).1 rfl
    have hbD := (Nat.log2_eq_iff hD0).1 rfl
    rw [hl] at hb
    have hd52 : D.log2 ≤ 52 := by
      rcases Nat.lt_or_ge 52 D.log2 with g | g
      · have := pow_le2 53 _ g; omega
      · exact g
    have h53 : 53 ≤ D.log2 + h := by
      rcases Nat.lt_or_ge (D.log2 + h) 53 with g | g
      · have := pow_le2 (D.log2 + h + 1) 53 (by omega); omega
      · exact g
    obtain ⟨s, hs⟩ : ∃ s, s = D.log2 + h - 52 := ⟨_, rfl⟩
    rw [hl, ← hs]
    have hsh : s ≤ h := by omega
    have e2 : D * 2 ^ h = D * 2 ^ (h - s) * 2 ^ s := by rw [Nat.mul_assoc, ← Nat.pow_add, Nat.sub_add_cancel hsh]
    have e3 : D * 2 ^ h / 2 ^ s = D * 2 ^ (h - s) := by rw [e2, Nat.mul_div_cancel _ (Nat.two_pow_pos s)]
    have e4 : D * 2 ^ h % 2 ^ s = 0 := by rw [e2]; exact Nat.mul_mod_left _ _
    have hf : ¬ (2 ^ s < 2 * 0 ∨ (2 ^ s = 2 * 0 ∧ D * 2 ^ (h - s) % 2 = 1)) := by have := Nat.two_pow_pos s; omega
    rw [up_iff _ _ (by omega), e3, e4, decide_eq_false hf, Bool.toNat_false, Nat.add_zero]
    have hq1 : 4503599627370496 ≤ D * 2 ^ (h - s) := by
      have g1 : 2 ^ (D.log2 + (h - s)) = 2 ^ 52 := by congr 1; omega
      have g2 : 2 ^ D.log2 * 2 ^ (h - s) ≤ D * 2 ^ (h - s) := Nat.mul_le_mul_right _ hbD.1
      rw [← Nat.pow_add, g1] at g2
      omega
    have hq2 : D * 2 ^ (h - s) < 9007199254740992 := by
      have g1 : 2 ^ (D.log2 + 1 + (h - s)) = 2 ^ 53 := by congr 1; omega
      have g2 : D * 2 ^ (h - s) < 2 ^ (D.log2 + 1) * 2 ^ (h - s) := Nat.mul_lt_mul_of_pos_right hbD.2 (Nat.two_pow_pos _)
      rw [← Nat.pow_add, g1] at g2
      omega
    rw [e2]
    generalize D * 2 ^ (h - s) = q at *
    rw [Nat.min_eq_left (by omega)]
    unfold magB
    rw [if_neg (by omega), show (s * 4503599627370496 + q) / 4503599627370496 - 1 = s by omega, show (s * 4503599627370496 + q) % 4503599627370496 + 4503599627370496 = q by omega]
theorem mag_form {s : Nat} (h : s < 9218868437227405312) : ∃ D k, magB s = D * 2 ^ k ∧ D < 9007199254740992 ∧ k ≤ 2045 := by
  unfold magB
  by_cases h1 : s < 4503599627370496
  · rw [if_pos h1]; exact ⟨s, 0, by simp, by omega, by omega⟩
  · rw [if_neg h1]; exact ⟨_, _, rfl, by omega, by omega⟩
theorem round_mag {s : Nat} (h : s < 9218868437227405312) : roundB (magB s) = s := by
  obtain ⟨D, k, e, h1, h2⟩ := mag_form h
  apply mag_inj
  rw [e]
  exact round_exact D k h1 h2
/-- A sum by its sign and its size. -/
def signB (z : Int) : Nat := if z < 0 then 9223372036854775808 + roundB z.natAbs else roundB z.natAbs
end Go.Proofs.Ytjplkffghfikgaa.Rl

/-
  Exact sums of one number and of two, and Go's own.
-/
namespace Go.Proofs.Ytjplkffghfikgaa.Rl
open Go.RowKit
set_option maxRecDepth 100000
theorem word_eq (neg : Bool) (r : Nat) : Ieee.double.word neg r = if neg then 9223372036854775808 + r else r := by unfold Ieee.Format.word; rw [fmt_sign]
theorem sg_zero_iff {b : Nat} (hb : b < 18446744073709551616) (hs : sgnB b = true) (h0 : sg b = 0) : b = 9223372036854775808 := by
  rw [sg_eq hb, hs, if_pos rfl] at h0
  have : magB (b % 9223372036854775808) = 0 := by omega
  have h1 : b % 9223372036854775808 = 0 := by
    rcases Nat.eq_zero_or_pos (b % 9223372036854775808) with h | h
    · exact h
    · have := mag_mono h; rw [mag_zero] at this; omega
  unfold sgnB at hs
  simp at hs
  omega
/-- Two finite numbers: Go's sum is the exact one, rounded once. -/
theorem add_fin {a b : Nat} (ha : a < 18446744073709551616) (hb : b < 18446744073709551616) (fa : a % 9223372036854775808 < 9218868437227405312) (fb : b % 9223372036854775808 < 9218868437227405312) :
    Ieee.double.add a b = some (if a = 9223372036854775808 ∧ b = 9223372036854775808 then 9223372036854775808 else signB (sg a + sg b)) := by
  unfold Ieee.Format.add
  obtain ⟨m, h, ea, em⟩ := read_fin fa
  obtain ⟨n, k, eb, en⟩ := read_fin fb
  rw [ea, eb]
  have hd : Ieee.Datum.sum (.number (sgnB a) m (-1074 + (h : Int))) (.number (sgnB b) n (-1074 + (k : Int))) =
      some (.number (if Ieee.signed (sgnB a) m (h - min h k) + Ieee.signed (sgnB b) n (k - min h k) = 0 then sgnB a && sgnB b else decide (Ieee.signed (sgnB a) m (h - min h k) + Ieee.signed (sgnB b) n (k - min h k) < 0))
        (Ieee.signed (sgnB a) m (h - min h k) + Ieee.signed (sgnB b) n (k - min h k)).natAbs (-1074 + ((min h k : Nat) : Int))) := by
    show some _ = some _
    rw [show min (-1074 + (h : Int)) (-1074 + (k : Int)) = -1074 + ((min h k : Nat) : Int) by omega]
    rw [show ((-1074 + (h : Int)) - (-1074 + ((min h k : Nat) : Int))).toNat = h - min h k by omega,
      show ((-1074 + (k : Int)) - (-1074 + ((min h k : Nat) : Int))).toNat = k - min h k by omega]
  rw [hd]
  have e1 := signed_mul (sgnB a) m h (min h k) (Nat.min_le_left _ _)
  have e2 := signed_mul (sgnB b) n k (min h k) (Nat.min_le_right _ _)
  rw [em, ← sg_eq ha] at e1
  rw [en, ← sg_eq hb] at e2
  obtain ⟨T, hT⟩ : ∃ T, T = Ieee.signed (sgnB a) m (h - min h k) + Ieee.signed (sgnB b) n (k - min h k) := ⟨_, rfl⟩
  rw [← hT]
  have hP : (0 : Int) < ((2 ^ min h k : Nat) : Int) := by have := Nat.two_pow_pos (min h k); omega
  have e3 : T * ((2 ^ min h k : Nat) : Int) = sg a + sg b := by rw [hT, Int.add_mul, e1, e2]
  show some (Ieee.double.nearest _ _ _) = _
  rw [nearest_eq, word_eq]
  have e4 : T.natAbs * 2 ^ min h k = (sg a + sg b).natAbs := by rw [← e3, Int.natAbs_mul, Int.natAbs_natCast]
  rw [e4]
  generalize ((2 ^ min h k : Nat) : Int) = P at *
  congr 1
  by_cases hz : T = 0
  · subst hz
    rw [Int.zero_mul] at e3
    rw [if_pos rfl, ← e3, Int.natAbs_zero, round_zero]
    by_cases hboth : a = 9223372036854775808 ∧ b = 9223372036854775808
    · rw [if_pos hboth, hboth.1, hboth.2]; decide +kernel
    · rw [if_neg hboth]
      have hne : (sgnB a && sgnB b) = false := by
        cases ha2 : sgnB a
        · rfl
        · cases hb2 : sgnB b
          · rfl
          · exfalso
            have g1 : sg a ≤ 0 := by rw [sg_eq ha, ha2, if_pos rfl]; omega
            have g2 : sg b ≤ 0 := by rw [sg_eq hb, hb2, if_pos rfl]; omega
            exact hboth ⟨sg_zero_iff ha ha2 (by omega), sg_zero_iff hb hb2 (by omega)⟩
      rw [hne, if_neg (by simp)]
      unfold signB
      rw [if_neg (by omega), Int.natAbs_zero, round_zero]
  · rw [if_neg hz]
    have hboth : ¬ (a = 9223372036854775808 ∧ b = 9223372036854775808) := by
      rintro ⟨rfl, rfl⟩
      have : sg 9223372036854775808 = 0 := by decide +kernel
      rw [this] at e3
      rcases Int.mul_eq_zero.1 (e3.trans (by omega)) with g | g <;> omega
    rw [if_neg hboth]
    unfold signB
    by_cases hneg : T < 0
    · have : sg a + sg b < 0 := by rw [← e3]; exact Int.mul_neg_of_neg_of_pos hneg hP
      rw [decide_eq_true hneg, if_pos rfl, if_pos this]
    · have : ¬ sg a + sg b < 0 := by
        have := Int.mul_nonneg (show 0 ≤ T by omega) (show 0 ≤ P by omega)
        omega
      rw [decide_eq_false hneg, if_neg (by simp), if_neg this]
end Go.Proofs.Ytjplkffghfikgaa.Rl

/-
  Times: isTime, plus; a clock that was made.
-/
namespace Go.Proofs.Ytjplkffghfikgaa.Ck
open Go.RowKit Rl
set_option linter.unusedVariables false
theorem nn {a : Nat} (h : a ≤ 9218868437227405312) : nanB a = false := by
  unfold nanB; rw [Nat.mod_eq_of_lt (by omega)]; simp; omega
theorem nneg {a : Nat} (h : 9223372036854775808 ≤ a) (h2 : a ≤ 18442240474082181120) : nanB a = false := by
  unfold nanB; simp; omega
theorem sg_pos {a : Nat} (h : a ≤ 9218868437227405312) : sg a = (magB a : Int) := by unfold sg; rw [if_pos (by omega)]
theorem cmp_mag {a b : Nat} : compare ((magB a : Int)) (magB b : Int) = compare a b := by
  rcases Nat.lt_trichotomy a b with h | h | h
  · have := mag_mono h
    rw [Int.compare_eq_lt.2 (show (magB a : Int) < magB b by omega), Nat.compare_eq_lt.2 h]
  · subst h; simp
  · have := mag_mono h
    rw [Int.compare_eq_gt.2 (show (magB b : Int) < magB a by omega), Nat.compare_eq_gt.2 h]
/-- Two numbers from 0 on, as Go compares them. -/
theorem ord_pos {a b : Nat} (ha : a ≤ 9218868437227405312) (hb : b ≤ 9218868437227405312) : FloatKind.f64.format.order a b = some (compare a b) := by
  rw [order_eq (by omega) (by omega) (nn ha) (nn hb), sg_pos ha, sg_pos hb, cmp_mag]
theorem ord_mz {b : Nat} (hb : b ≤ 9218868437227405312) : FloatKind.f64.format.order 9223372036854775808 b = some (compare 0 b) := by
  rw [order_eq (by omega) (by omega) (nneg (by omega) (by omega)) (nn hb), sg_pos hb]
  have : sg 9223372036854775808 = (magB 0 : Int) := by unfold sg; rw [if_neg (by omega)]; simp [mag_zero]
  rw [this, cmp_mag]
theorem ord_neg {a b : Nat} (ha : 9223372036854775808 < a) (ha2 : a ≤ 18442240474082181120) (hb : b ≤ 9218868437227405312) : FloatKind.f64.format.order a b = some .lt := by
  rw [order_eq (by omega) (by omega) (nneg (by omega) ha2) (nn hb), sg_pos hb]
  have h1 : sg a = -(magB (a - 9223372036854775808) : Int) := by unfold sg; rw [if_neg (by omega)]
  have h2 : magB 0 < magB (a - 9223372036854775808) := mag_mono (by omega)
  rw [mag_zero] at h2
  rw [h1, Int.compare_eq_lt.2 (by omega)]
theorem fcase {b : Nat} (hb : b < 18446744073709551616) : nanB b = true ∨ b ≤ 9218868437227405312 ∨ b = 9223372036854775808 ∨ (9223372036854775808 < b ∧ b ≤ 18442240474082181120) := by
  by_cases h : nanB b = true
  · exact .inl h
  · right
    unfold nanB at h
    simp at h
    omega
theorem nan_big {b : Nat} (h : nanB b = true) : ¬ b ≤ 9218868437227405312 ∧ b ≠ 9223372036854775808 := by
  refine ⟨fun c => ?_, fun c => ?_⟩
  · rw [nn c] at h; cases h
  · rw [nneg (by omega) (by omega)] at h; cases h
theorem cmp0 {b : Nat} (h : 0 < b) : compare b 0 = Ordering.gt := Nat.compare_eq_gt.2 h
theorem cmpmax {b : Nat} (h : b ≤ 9218868437227405311) : (compare b 9218868437227405311 = .lt) ∨ (compare b 9218868437227405311 = .eq) := by
  rcases Nat.lt_or_eq_of_le h with h | h
  · exact .inl (Nat.compare_eq_lt.2 h)
  · subst h; exact .inr (by simp)
theorem cmpinf : compare 9218868437227405312 9218868437227405311 = Ordering.gt := Nat.compare_eq_gt.2 (by omega)
def timeB (b : Nat) : Bool := decide (b < 9218868437227405312 ∨ b = 9223372036854775808)
theorem isTime_any (w : World) (b : Nat) (hb : b < 18446744073709551616) :
    Calls Try.prog 27 #[.float .f64 b] w fun e w' => e = .returned (.bool (timeB b)) ∧ w' = w := by
  obtain ⟨z, hz⟩ : ∃ z, Hid (timeB b = z) := ⟨_, rfl⟩
  rw [hz.out]
  rcases fcase hb with h | h | h | h
  · have o1 := order_nan (b := 0) (.inl h)
    obtain rfl : z = false := by rw [← hz.out]; unfold timeB; have := nan_big h; simp; omega
    go_enter Try.func27, Try.ntmps27
    go_wp2_with fail
    go_ret
    exact ⟨rfl, rfl⟩
  · have o1 := ord_pos h (b := 0) (by omega)
    have o2 := ord_pos h (b := 9218868437227405311) (by omega)
    by_cases hi : b = 9218868437227405312
    · subst hi
      rw [cmp0 (by omega)] at o1
      rw [cmpinf] at o2
      obtain rfl : z = false := by rw [← hz.out]; decide
      go_enter Try.func27, Try.ntmps27
      go_wp2_with fail
      go_ret
      exact ⟨rfl, rfl⟩
    · obtain rfl : z = true := by rw [← hz.out]; unfold timeB; simp; omega
      have hle : compare b 0 = .gt ∨ compare b 0 = .eq := by
        by_cases h0 : b = 0
        · subst h0; exact .inr (by simp)
        · exact .inl (cmp0 (by omega))
      rcases hle with e | e <;> rcases cmpmax (show b ≤ 9218868437227405311 by omega) with e2 | e2 <;> rw [e] at o1 <;> rw [e2] at o2
      all_goals
        clear e e2
        go_enter Try.func27, Try.ntmps27
        go_wp2_with fail
        go_ret
        exact ⟨rfl, rfl⟩
  · subst h
    have o1 := ord_mz (b := 0) (by omega)
    have o2 := ord_mz (b := 9218868437227405311) (by omega)
    rw [show compare 0 0 = Ordering.eq by decide] at o1
    rw [show compare 0 9218868437227405311 = Ordering.lt from Nat.compare_eq_lt.2 (by omega)] at o2
    obtain rfl : z = true := by rw [← hz.out]; decide
    go_enter Try.func27, Try.ntmps27
    go_wp2_with fail
    go_ret
    exact ⟨rfl, rfl⟩
  · have o1 := ord_neg h.1 h.2 (b := 0) (by omega)
    obtain rfl : z = false := by rw [← hz.out]; unfold timeB; simp; omega
    go_enter Try.func27, Try.ntmps27
    go_wp2_with fail
    go_ret
    exact ⟨rfl, rfl⟩
def plusB (b : Nat) : Nat := if b = 9223372036854775808 then 0 else b
theorem order_zero {b : Nat} (hb : b < 18446744073709551616) : (FloatKind.f64.format.order b 0 == some Ordering.eq) = decide (b = 0 ∨ b = 9223372036854775808) := by
  rcases fcase hb with h | h | h | h
  · rw [order_nan (.inl h)]; have := nan_big h; simp; omega
  · rw [ord_pos h (by omega)]
    by_cases h0 : b = 0
    · subst h0; simp
    · rw [cmp0 (by omega)]; simp [h0]; omega
  · subst h; rw [ord_mz (by omega)]; decide
  · rw [ord_neg h.1 h.2 (by omega)]; simp; omega
theorem plus_any (w : World) (b : Nat) (hb : b < 18446744073709551616) :
    Calls Try.prog 28 #[.float .f64 b] w fun e w' => e = .returned (.float .f64 (plusB b)) ∧ w' = w := by
  have o1 := order_zero hb
  obtain ⟨z, hz⟩ : ∃ z, Hid (plusB b = z) := ⟨_, rfl⟩
  rw [hz.out]
  by_cases h : b = 0 ∨ b = 9223372036854775808
  · rw [decide_eq_true h] at o1
    obtain rfl : z = 0 := by rw [← hz.out]; rcases h with rfl | rfl <;> rfl
    clear h
    go_enter Try.func28, Try.ntmps28
    go_wp2_with fail
    go_ret
    exact ⟨rfl, rfl⟩
  · rw [decide_eq_false h] at o1
    obtain rfl : z = b := by rw [← hz.out]; unfold plusB; rw [if_neg (by omega)]
    clear h
    go_enter Try.func28, Try.ntmps28
    go_wp2_with fail
    go_ret
    exact ⟨rfl, rfl⟩
end Go.Proofs.Ytjplkffghfikgaa.Ck

/-
  Sums of times; New, Now, Next of the clock.
-/
namespace Go.Proofs.Ytjplkffghfikgaa.Ck
open Go.RowKit Rl
set_option linter.unusedVariables false
theorem round_le (V : Nat) : roundB V ≤ 9218868437227405312 := by
  unfold roundB
  split
  · omega
  · exact Nat.min_le_right _ _
/-- The sum of two numbers from 0 on is one. -/
theorem add_pos {a b : Nat} (ha : a ≤ 9218868437227405312) (hb : b ≤ 9218868437227405312) : ∃ r, Ieee.double.add a b = some r ∧ r ≤ 9218868437227405312 := by
  by_cases h1 : a = 9218868437227405312
  · subst h1
    by_cases h2 : b = 9218868437227405312
    · subst h2; exact ⟨9218868437227405312, by decide +kernel, by omega⟩
    · refine ⟨9218868437227405312, ?_, by omega⟩
      obtain ⟨n, k, eb, en⟩ := read_fin (b := b) (by omega)
      unfold Ieee.Format.add
      rw [read_inf (b := 9218868437227405312) (by omega), eb]
      rfl
  · by_cases h2 : b = 9218868437227405312
    · subst h2
      refine ⟨9218868437227405312, ?_, by omega⟩
      obtain ⟨n, k, eb, en⟩ := read_fin (b := a) (by omega)
      unfold Ieee.Format.add
      rw [read_inf (b := 9218868437227405312) (by omega), eb]
      rfl
    · rw [add_fin (by omega) (by omega) (by omega) (by omega), if_neg (by omega)]
      refine ⟨_, rfl, ?_⟩
      unfold signB
      rw [sg_pos ha, sg_pos hb, if_neg (by omega)]
      exact round_le _
def tsB (a b : Nat) : Nat := (Ieee.double.add a b).getD 0
theorem tsB_some {a b : Nat} (ha : a ≤ 9218868437227405312) (hb : b ≤ 9218868437227405312) : Ieee.double.add a b = some (tsB a b) ∧ tsB a b ≤ 9218868437227405312 := by
  obtain ⟨r, h, hr⟩ := add_pos ha hb
  have : tsB a b = r := by unfold tsB; rw [h]; rfl
  rw [this]
  exact ⟨h, hr⟩
theorem add_run {a b : Nat} (ha : a ≤ 9218868437227405312) (hb : b ≤ 9218868437227405312) (w : World) : (binOp .add 29 (.float .f64 a) (.float .f64 b)).run Try.prog w = .ok (.float .f64 (tsB a b)) w := by
  have h2 : FloatKind.f64.format.add a b = some (tsB a b) := (tsB_some ha hb).1
  simp [binOp, Op.floatArith, h2]
/-- A clock that was made. -/
theorem made_any (w : World) (b : Nat) (c : C) (v : Value) (l : List Tm) (h : At w b c v l) (hn : 1 ≤ c.nx) : Calls Try.prog 30 #[.pointer (some ⟨b, 0, none⟩)] w fun e w' => e = .returned (.bool true) ∧ w' = w := by
  obtain ⟨c0, c1, c2⟩ := h.cells
  have h1 : (0 : Int) < c.nx := by omega
  clear h
  go_enter Try.func30, Try.ntmps30
  go_wp2_with fail
  go_ret
  exact ⟨rfl, rfl⟩
theorem now_any (w : World) (b : Nat) (c : C) (v : Value) (l : List Tm) (h : At w b c v l) (hn : 1 ≤ c.nx) : Calls Try.prog 22 #[.pointer (some ⟨b, 0, none⟩)] w fun e w' => e = .returned (.float .f64 c.now) ∧ w' = w := by
  have hM := made_any w b c v l h hn
  obtain ⟨c0, c1, c2⟩ := h.cells
  clear h
  go_enter Try.func22, Try.ntmps22
  go_wp2_with (go_at_call 30; refine hM.mono ?_; rintro e w' ⟨rfl, hw⟩; rw [hw]; clear hw w')
  go_ret
  exact ⟨rfl, rfl⟩
theorem new_any (w : World) (s : Nat) (hs : s < 18446744073709551616) : Calls Try.prog 8 #[.float .f64 s] w fun e w' => Below w.heap.size w w' ∧ ((timeB s = false ∧ e = .returned (.tuple #[.pointer none, .int .i64 1])) ∨ (timeB s = true ∧ ∃ b, w.heap.size ≤ b ∧ e = .returned (.tuple #[.pointer (some ⟨b, 0, none⟩), .int .i64 0]) ∧ At w' b ⟨plusB s, 1⟩ (.slice none 0 0) [])) := by
  have hT := isTime_any w s hs
  have hP := plus_any w s hs
  cases ht : timeB s
  · rw [ht] at hT
    go_enter Try.func8, Try.ntmps8
    go_wp2_with (go_at_call 27; refine hT.mono ?_; rintro e w' ⟨rfl, hw⟩; rw [hw]; clear hw w')
    go_ret2
    exact ⟨Below.refl _ _, .inl ⟨trivial, rfl⟩⟩
  · rw [ht] at hT
    have B1 := hide (box_below w (.cells #[.float .f64 (plusB s), .int .i64 1, .slice none 0 0] 56))
    have N1 := hide (heap_alloc_new w (.cells #[.float .f64 (plusB s), .int .i64 1, .slice none 0 0] 56))
    go_enter Try.func8, Try.ntmps8
    go_wp2_with (first | (go_at_call 27; refine hT.mono ?_; rintro e w' ⟨rfl, hw⟩; rw [hw]; clear hw w') | (go_at_call 28; refine hP.mono ?_; rintro e w' ⟨rfl, hw⟩; rw [hw]; clear hw w'))
    go_ret2
    exact ⟨B1.out, .inr ⟨trivial, _, Nat.le_refl _, rfl, N1.out, Tms.nil _⟩⟩
end Go.Proofs.Ytjplkffghfikgaa.Ck

/-
  Next of the clock; how times compare.
-/
namespace Go.Proofs.Ytjplkffghfikgaa.Ck
open Go.RowKit Rl
set_option linter.unusedVariables false
theorem order_lss {a b : Nat} (ha : timeB a = true) (hb : b ≤ 9218868437227405312) : (FloatKind.f64.format.order a b == some Ordering.lt) = decide (plusB a < b) := by
  unfold timeB at ha
  simp at ha
  rcases ha with h | h
  · rw [ord_pos (by omega) hb, plusB, if_neg (by omega)]
    by_cases h2 : a < b
    · rw [Nat.compare_eq_lt.2 h2]; simp [h2]
    · rw [decide_eq_false h2]
      by_cases h3 : a = b
      · subst h3; simp
      · rw [Nat.compare_eq_gt.2 (by omega)]; rfl
  · subst h
    rw [ord_mz hb]
    unfold plusB
    simp only [↓reduceIte]
    by_cases h2 : 0 < b
    · rw [Nat.compare_eq_lt.2 h2]; simp [h2]
    · have : b = 0 := by omega
      subst this; rfl
/-- Times of timers: numbers from 0 on, +Inf too. -/
def Tt (l : List Tm) : Prop := ∀ t ∈ l, t.b ≤ 9218868437227405312
theorem Tt.bt {l : List Tm} (h : Tt l) : Bt l := fun t ht => by have := h t ht; omega
theorem Tt.perm {l l' : List Tm} (h : Tt l) (hp : l'.Perm l) : Tt l' := fun t ht => h t (hp.mem_iff.1 ht)
/-- What Next tells. -/
def nxS : List Tm → Nat × Bool
  | [] => (0, false)
  | x :: _ => if x.b < 9218868437227405312 then (x.b, true) else (0, false)
theorem timeB_le {b : Nat} (h : b ≤ 9218868437227405312) : timeB b = decide (b < 9218868437227405312) := by
  unfold timeB
  rw [decide_eq_decide]
  omega
/-- A clock whose timers, in order, are S. -/
structure Ck (w : World) (b : Nat) (c : C) (v : Value) (l S : List Tm) : Prop where
  at_ : At w b c v l
  hp : Hp l
  perm : l.Perm S
  srt : Srt S
  tt : Tt S
  nx : 1 ≤ c.nx
  len : S.length ≤ 256
  now : c.now < 9218868437227405312
theorem Ck.below {w w' : World} {b : Nat} {c : C} {v : Value} {l S : List Tm} (h : Ck w b c v l S) (hb : Below w.heap.size w w') : Ck w' b c v l S := { h with at_ := h.at_.below hb }
theorem Ck.but {X : Nat → Prop} {w w' : World} {b : Nat} {c : C} {v : Value} {l S : List Tm} (h : Ck w b c v l S) (hb : But X w w') (hx : ∀ k, Own b v k → ¬ X k) : Ck w' b c v l S := { h with at_ := h.at_.but hb hx }
set_option maxRecDepth 100000 in
set_option maxHeartbeats 2000000 in
theorem next_any (w : World) (b : Nat) (c : C) (v : Value) (l S : List Tm) (h : Ck w b c v l S) : Calls Try.prog 24 #[.pointer (some ⟨b, 0, none⟩)] w fun e w' => e = .returned (.tuple #[.float .f64 (nxS S).1, .bool (nxS S).2]) ∧ Qt w w' := by
  have hM := made_any w b c v l h.at_ h.nx
  obtain ⟨c0, c1, c2⟩ := h.at_.cells
  cases S with
  | nil =>
    have hl : l = [] := h.perm.eq_nil
    subst hl
    obtain ⟨ao, ca, rfl, q1, q2⟩ := h.at_.row.form
    clear h
    go_enter Try.func24, Try.ntmps24
    go_wp2_with (go_at_call 30; refine hM.mono ?_; rintro e w' ⟨rfl, hw⟩; rw [hw]; clear hw w')
    go_ret2
    exact ⟨rfl, ⟨0, rfl⟩⟩
  | cons x r =>
    have hl : 0 < l.length := by rw [h.perm.length_eq]; simp
    have hx := h.hp.head h.perm h.srt
    obtain ⟨tb, ca, rfl⟩ := h.at_.slice (fun e => by rw [e] at hl; simp at hl)
    obtain ⟨d0, d1⟩ := h.at_.row.read 0 hl
    rw [hx] at d0 d1
    have hxb : x.b ≤ 9218868437227405312 := h.tt x (List.mem_cons_self)
    have hT := isTime_any w x.b (by omega)
    have hl0 : ¬ ((l.length : Int) = 0) := by omega
    have hl1 : (0 : Int) < (l.length : Int) := by omega
    rw [timeB_le hxb] at hT
    have hlN : l.length ≤ 256 := by rw [h.perm.length_eq]; exact h.len
    generalize l.length = N at *
    simp only [Nat.zero_mul, Nat.zero_add] at d0 d1
    obtain ⟨z, hz⟩ : ∃ z, Hid (nxS (x :: r) = z) := ⟨_, rfl⟩
    rw [hz.out]
    clear h hx
    by_cases hi : x.b < 9218868437227405312
    · obtain rfl : z = (x.b, true) := by rw [← hz.out]; simp [nxS, hi]
      rw [decide_eq_true hi] at hT
      clear hi
      go_enter Try.func24, Try.ntmps24
      go_wp2_with (first | (go_at_call 30; refine hM.mono ?_; rintro e w' ⟨rfl, hw⟩; rw [hw]; clear hw w') | (go_at_call 27; refine hT.mono ?_; rintro e w' ⟨rfl, hw⟩; rw [hw]; clear hw w'))
      go_ret2
      exact ⟨rfl, ⟨0, rfl⟩⟩
    · obtain rfl : z = (0, false) := by rw [← hz.out]; simp [nxS, hi]
      rw [decide_eq_false hi] at hT
      clear hi
      go_enter Try.func24, Try.ntmps24
      go_wp2_with (first | (go_at_call 30; refine hM.mono ?_; rintro e w' ⟨rfl, hw⟩; rw [hw]; clear hw w') | (go_at_call 27; refine hT.mono ?_; rintro e w' ⟨rfl, hw⟩; rw [hw]; clear hw w'))
      go_ret2
      exact ⟨rfl, ⟨0, rfl⟩⟩
end Go.Proofs.Ytjplkffghfikgaa.Ck

/-
  ring: the timers whose time has come.
-/
namespace Go.Proofs.Ytjplkffghfikgaa.Ck
open Go.RowKit Rl
set_option linter.unusedVariables false
/-- Numbers as a list v of memory from block B on. -/
def Ids (B : Nat) (w : World) (v : Value) (l : List Int) : Prop := w.ownsRow B 3 1 v l.length (l.map (Value.int .i64))
theorem Ids.nil (B : Nat) (w : World) : Ids B w (.slice none 0 0) [] := World.ownsRow_nil _ _ _ _
theorem Ids.but {X : Nat → Prop} {B : Nat} {w w' : World} {v : Value} {l : List Int} (h : Ids B w v l) (hb : But X w w') (hx : ∀ k, v.ownBlock = some k → ¬ X k) : Ids B w' v l := by
  refine ⟨h.1, ?_⟩
  rcases h.2 with h | ⟨g, cap, cur, rfl, hg, hh, r⟩
  · exact .inl h
  · exact .inr ⟨g, cap, cur, rfl, hg, hb.at hh (hx g rfl), r⟩
theorem Ids.below {B : Nat} {w w' : World} {v : Value} {l : List Int} (h : Ids B w v l) (hb : Below w.heap.size w w') : Ids B w' v l := h.but (But.of_below hb fun _ => False) fun _ _ c => c
theorem Ids.lt {B : Nat} {w : World} {v : Value} {l : List Int} (h : Ids B w v l) : ∀ k, v.ownBlock = some k → B ≤ k ∧ k < w.heap.size := fun k hk => World.ownsRow.lt h k hk
theorem Ids.form {B : Nat} {w : World} {v : Value} {l : List Int} (h : Ids B w v l) : ∃ ao ca, v = .slice ao l.length ca := by
  rcases h.2 with ⟨rfl, e⟩ | ⟨g, cap, cur, rfl, _⟩
  · exact ⟨_, _, by rw [e]⟩
  · exact ⟨_, _, rfl⟩
theorem infoInt : (Try.prog.info? 3).map (fun i => (i.zero, i.size, i.bytes)) = some (some (.int .i64 0), 1, 8) := by kernel_rfl
theorem run_appI {B : Nat} {w : World} {v : Value} {l : List Int} (t : Int) (gg : Nat) (h : Ids B w v l) (h0 : w.cell? ⟨gg, 0, none⟩ = some (.int .i64 t)) (hl : l.length ≤ 1000000) (hB : B ≤ w.heap.size) (ty : TypeId) :
    ∃ v' w', (Builtin.append_ #[42, 42] ty #[v, .slice (some ⟨gg, 0, none⟩) 1 1]).run Try.prog w = .ok v' w' ∧ Ids B w' v' (l ++ [t]) ∧ w.grownBy w' v.ownBlock ∧ (v'.ownBlock = v.ownBlock ∨ v'.ownBlock = some w.heap.size) := by
  obtain ⟨i0, hi, hz0, hz1, hz2⟩ := info_parts infoInt
  have hcells : ∀ j u, ([.int .i64 t] : List Value)[j]? = some u → w.cell? ((⟨gg, 0, none⟩ : Addr).add j) = some u := by
    intro j u hu
    rw [addr_add]
    match j with
    | 0 => simp at hu; subst hu; exact h0
    | j + 1 => simp at hu
  obtain ⟨v', w', hr, ho, hg, _, hat⟩ := run_append_own_at (P := Try.prog) w B 42 ty 3 i0 (.int .i64 0) 1 8 Try.underlying42 hi hz0 hz1 hz2 rfl (by decide) v l.length (l.map (Value.int .i64)) h ⟨gg, 0, none⟩ 1 1 [.int .i64 t] rfl hcells (by
      intro u hu
      simp at hu
      rcases hu with rfl
      rfl) (by unfold maxLen; omega) (by omega) hB
  refine ⟨v', w', hr, ?_, hg, hat⟩
  unfold Ids
  rw [List.length_append, List.map_append]
  exact ho
/-- Behind k timers that went off. -/
def Rg (w wr : World) (b : Nat) (c : C) (v v' : Value) (S : List Tm) (ids : Value) (k : Nat) : Prop :=
  (∃ l, Ck wr b c v' l (S.drop k)) ∧ Ids w.heap.size wr ids ((S.take k).map Tm.id) ∧ Stp b v v' w wr ∧ (∀ t ∈ S.take k, t.b ≤ c.now) ∧ (∀ j, v'.ownBlock = some j → ids.ownBlock ≠ some j)
/-- Those whose time has come, and the rest. -/
def offS (now : Nat) (S : List Tm) : List Tm := S.takeWhile fun t => decide (t.b ≤ now)
def onS (now : Nat) (S : List Tm) : List Tm := S.dropWhile fun t => decide (t.b ≤ now)
theorem off_take {now : Nat} : ∀ {S : List Tm} {k : Nat}, (∀ t ∈ S.take k, t.b ≤ now) → (∀ x r, S.drop k = x :: r → ¬ x.b ≤ now) → k ≤ S.length → offS now S = S.take k ∧ onS now S = S.drop k
  | [], k, _, _, hk => by simp at hk; subst hk; simp [offS, onS]
  | x :: r, 0, _, h2, _ => by
    have := h2 x r rfl
    simp [offS, onS, this]
  | x :: r, k + 1, h1, h2, hk => by
    have hx : x.b ≤ now := h1 x (by simp)
    obtain ⟨e1, e2⟩ := off_take (S := r) (k := k) (now := now) (fun t ht => h1 t (by simp; exact .inr ht)) (fun y q e => h2 y q (by simpa using e)) (by simpa using hk)
    unfold offS onS at *
    rw [List.takeWhile_cons_of_pos (by simpa using hx), List.dropWhile_cons_of_pos (by simpa using hx), e1, e2]
    simp
end Go.Proofs.Ytjplkffghfikgaa.Ck

/-
  ring.
-/
namespace Go.Proofs.Ytjplkffghfikgaa.Ck
open Go.RowKit Rl
set_option linter.unusedVariables false
theorem cmp_le {a b : Nat} (h : a ≤ b) : compare a b = .lt ∨ compare a b = .eq := by
  rcases Nat.lt_or_eq_of_le h with h | h
  · exact .inl (Nat.compare_eq_lt.2 h)
  · subst h; exact .inr (by simp)
def lenV : Value → Nat
  | .slice _ n _ => n
  | _ => 0
theorem Ck.tail {w : World} {b : Nat} {c : C} {v : Value} {l S : List Tm} (h : Ck w b c v l S) : S.length = l.length := h.perm.length_eq.symm
theorem Srt.tail {x : Tm} {r : List Tm} (h : Srt (x :: r)) : Srt r := (List.pairwise_cons.1 h).2
/-- The first one popped: what is left is the clock of the others. -/
theorem Ck.pop {w w' : World} {b : Nat} {c : C} {v v' : Value} {l l' r : List Tm} {x : Tm} (h : Ck w b c v l (x :: r)) (ha : At w' b c v' l') (hp : Hp l') (hq : (g l 0 :: l').Perm l) : Ck w' b c v' l' r where
  at_ := ha
  hp := hp
  perm := by
    have := hq.trans h.perm
    rw [h.hp.head h.perm h.srt] at this
    exact (List.perm_cons x).1 this
  srt := h.srt.tail
  tt := fun t ht => h.tt t (List.mem_cons_of_mem _ ht)
  nx := h.nx
  len := by have := h.len; simp at this; omega
  now := h.now
theorem Rg.step {w wq w3 w4 : World} {b k : Nat} {c : C} {v v' ids v4 : Value} {S l' r : List Tm} {x : Tm} (hR : Rg w wq b c v v' S ids k) (hS : S.drop k = x :: r) (hx : x.b ≤ c.now) (hc : Ck wq b c v' l' (x :: r)) (hb : b < w.heap.size)
    (b3 : Below wq.heap.size wq w3) (i4 : Ids w.heap.size w4 v4 ((S.take k).map Tm.id ++ [x.id])) (g4 : w3.grownBy w4 ids.ownBlock) (hat : v4.ownBlock = ids.ownBlock ∨ v4.ownBlock = some w3.heap.size) :
    Ck w4 b c v' l' (x :: r) ∧ ∀ (w5 : World) (v5 : Value) (l5 : List Tm), At w5 b c v5 l5 → Hp l5 → (g l' 0 :: l5).Perm l' → Stp b v' v5 w4 w5 → Rg w w5 b c v v5 S v4 (k + 1) := by
  obtain ⟨⟨l0, h0⟩, hi, hst, hle, hne⟩ := hR
  have bu : But (fun j => ids.ownBlock = some j) wq w4 := (But.of_below b3 _).trans (But.of_grownBy g4 fun j e => e)
  have ib : ids.ownBlock ≠ some b := fun e => by have := hi.lt b e; omega
  have ov : ∀ j, Own b v' j → ¬ ids.ownBlock = some j := by
    rintro j (rfl | e)
    · exact ib
    · exact hne j e
  have c4 := hc.but bu ov
  refine ⟨c4, fun w5 v5 l5 a5 p5 q5 s5 => ?_⟩
  have hk : k < S.length := by
    rcases Nat.lt_or_ge k S.length with h | h
    · exact h
    · rw [List.drop_of_length_le h] at hS; cases hS
  have hxk : S[k] = x := by
    have := List.drop_eq_getElem_cons hk
    rw [hS] at this
    cases this
    rfl
  have hd : S.drop (k + 1) = r := by
    have := List.drop_eq_getElem_cons hk
    rw [hS] at this
    cases this
    rfl
  have ht : S.take (k + 1) = S.take k ++ [x] := by rw [List.take_succ_eq_append_getElem hk, hxk]
  have v4n : ∀ j, v4.ownBlock = some j → ¬ Own b v' j := by
    intro j hj ho
    rcases hat with e | e
    · exact ov j ho (by rw [← e]; exact hj)
    · rw [e] at hj
      cases hj
      have h1 := hc.at_.lt _ ho
      have h2 := b3.size
      omega
  have s4 : Stp b v v' w w4 := ⟨⟨bu.os.trans hst.1.os, bu.tape.trans hst.1.tape, bu.output.trans hst.1.output, Nat.le_trans hst.1.size bu.size, fun j hj hx => (bu.block j (Nat.lt_of_lt_of_le hj hst.1.size) (fun e => by have := (hi.lt j e).1; omega)).trans (hst.1.block j hj hx)⟩, hst.2⟩
  refine ⟨⟨l5, ?_⟩, ?_, s4.trans s5, ?_, ?_⟩
  · rw [hd]; exact c4.pop a5 p5 q5
  · rw [ht, List.map_append]
    exact i4.but s5.1 v4n
  · rw [ht]
    intro t ht
    rcases List.mem_append.1 ht with ht | ht
    · exact hle t ht
    · simp at ht; subst ht; exact hx
  · intro j hj e
    rcases s5.2 j hj with q | q
    · exact v4n j e (.inr q)
    · have := (i4.lt j e).2
      omega
set_option maxRecDepth 100000 in
set_option maxHeartbeats 4000000 in
theorem ring_any (w : World) (b : Nat) (c : C) (v : Value) (l S : List Tm) (h : Ck w b c v l S) : Calls Try.prog 36 #[.pointer (some ⟨b, 0, none⟩)] w fun e w' => ∃ ids v' l', e = .returned ids ∧ Ck w' b c v' l' (onS c.now S) ∧ Ids w.heap.size w' ids ((offS c.now S).map Tm.id) ∧ Stp b v v' w w' ∧ (∀ j, v'.ownBlock = some j → ids.ownBlock ≠ some j) := by
  have H0 : Hid (Rg w w b c v v S (.slice none 0 0) 0) := ⟨⟨l, h⟩, Ids.nil _ _, Stp.refl _ _ _, fun t ht => by simp at ht, fun j _ e => by simp [Value.ownBlock] at e⟩
  have fin : Hid (∀ (wr wq : World) (ids v' : Value) (k : Nat), k ≤ S.length → Rg w wr b c v v' S ids k → Qt wr wq → (∀ x r, S.drop k = x :: r → ¬ x.b ≤ c.now) → ∃ ids' v' l', Ending.returned ids = .returned ids' ∧ Ck wq b c v' l' (onS c.now S) ∧ Ids w.heap.size wq ids' ((offS c.now S).map Tm.id) ∧ Stp b v v' w wq ∧ (∀ j, v'.ownBlock = some j → ids'.ownBlock ≠ some j)) := by
    intro wr wq ids v' k hk hr hq hno
    obtain ⟨⟨l', hc⟩, hi, hs, hle, hne⟩ := hr
    obtain ⟨e1, e2⟩ := off_take hle hno hk
    have hb := hq.below wr.heap.size
    rw [e1, e2]
    exact ⟨ids, v', l', rfl, hc.below hb, hi.below hb, hs.trans (Stp.below hb), hne⟩
  have hSl := h.len
  have hbb : Hid (b < w.heap.size) := h.at_.lt b (.inl rfl)
  clear h
  go_enter Try.func36, Try.ntmps36
  go_wp2_with fail
  go_loopw [3] (fun iv wr => ∃ (k : Nat) (v' : Value), k ≤ S.length ∧ Hid (Rg w wr b c v v' S iv k)) (fun iv _ => S.length - lenV iv)
  case atStart => exact ⟨0, v, Nat.zero_le _, H0.out⟩
  case round =>
    obtain ⟨k, v', hk, hQ⟩ := hrel
    obtain ⟨l', hc⟩ := hQ.out.1
    obtain ⟨c0, c1, c2⟩ := hc.at_.cells
    cases hS : S.drop k with
    | nil =>
      have hl : l' = [] := by have := hc.perm; rw [hS] at this; exact this.eq_nil
      subst hl
      obtain ⟨ao, ca, rfl, q1, q2⟩ := hc.at_.row.form
      have hf := hide (fun wq hq => fin.out wr wq _ _ k hk hQ.out hq (fun x r e => by rw [hS] at e; cases e))
      clear hc
      go_upto_region 2 with fail
      go_quiet (fail)
      go_wp2_with fail
      go_ret
      exact hf.out _ ⟨_, rfl⟩
    | cons x r =>
      have hc' := hc
      rw [hS] at hc'
      have hl : 0 < l'.length := by rw [hc'.perm.length_eq]; simp
      have hx := hc'.hp.head hc'.perm hc'.srt
      obtain ⟨tb, ca, rfl⟩ := hc.at_.slice (fun e => by rw [e] at hl; simp at hl)
      obtain ⟨d0, d1⟩ := hc.at_.row.read 0 hl
      rw [hx] at d0 d1
      have hxb : x.b ≤ 9218868437227405312 := hc'.tt x (List.mem_cons_self)
      have hol := ord_pos hxb (Nat.le_of_lt hc.now)
      have hl1 : (0 : Int) < (l'.length : Int) := by omega
      obtain ⟨N, hN⟩ : ∃ N, Hid (l'.length = N) := ⟨_, rfl⟩
      simp only [Nat.zero_mul, Nat.zero_add] at d0 d1
      by_cases hle : x.b ≤ c.now
      · rcases cmp_le hle with e | e <;> rw [e] at hol
        all_goals
          have hle' := hide hle
          rw [hN.out] at hl hl1 c2
          have hbw : Hid (b < w.heap.size) := hbb.out
          clear hle
          go_upto_region 2 with fail
          go_quiet (fail)
          have BQ : Hid (Below wr.heap.size wr (wr.drewN nq)) := Qt.below ⟨_, rfl⟩ _
          generalize wr.drewN nq = wq at *
          have HQ : Hid (Rg w wq b c v (.slice (some ⟨tb, 0, none⟩) N ca) S u3 k ∧ Ck wq b c (.slice (some ⟨tb, 0, none⟩) N ca) l' (x :: r)) := by
            have h1 := hQ.out
            rw [hN.out] at h1 hc'
            obtain ⟨⟨l0, q0⟩, q1, q2, q3, q4⟩ := h1
            exact ⟨⟨⟨l0, q0.below BQ.out⟩, q1.below BQ.out, q2.trans (Stp.below BQ.out), q3, q4⟩, hc'.below BQ.out⟩
          clear c0 c1 c2 d0 d1 hc hc' hQ hol e
          obtain ⟨c0, c1, c2⟩ := HQ.out.2.at_.cells
          obtain ⟨d0, d1⟩ := HQ.out.2.at_.row.read 0 (by rw [hN.out]; exact hl)
          rw [hx] at d0 d1
          simp only [Nat.zero_mul, Nat.zero_add] at d0 d1
          have B3 := box_below wq (.cells #[.int .i64 x.id] 3)
          have o0 : (wq.alloc (.cells #[.int .i64 x.id] 3)).cell? ⟨wq.heap.size, 0, none⟩ = some (.int .i64 x.id) := by rw [cell_of (heap_alloc_new wq _)]; rfl
          obtain ⟨v4, w4, r4, i4, g4, a4⟩ := run_appI x.id wq.heap.size (HQ.out.1.2.1.below B3) o0 (by simp; omega) (Nat.le_trans HQ.out.1.2.2.1.1.size B3.size) 42
          obtain ⟨C4, F4⟩ := HQ.out.1.step hS hle'.out HQ.out.2 hbw.out B3 i4 g4 a4
          have hl4 : l'.length = (N - 1) + 1 := by rw [hN.out]; omega
          have hP := hpop_any w4 b (N - 1) c _ l' C4.at_ C4.hp (C4.tt.perm C4.perm).bt hl4 (by have := C4.len; rw [← C4.perm.length_eq, hN.out] at this; omega)
          have L4 : Hid (lenV v4 = k + 1) := by
            obtain ⟨ao4, ca4, e4⟩ := i4.form
            show _ = _
            rw [e4]
            simp [lenV]
            omega
          have L3 : Hid (lenV u3 = k) := by
            obtain ⟨ao4, ca4, e4⟩ := HQ.out.1.2.1.form
            show _ = _
            rw [e4]
            simp [lenV]
            omega
          replace F4 := hide F4
          replace r4 := hide r4
          have hkS : Hid (k < S.length) := by
            show _ < _
            rcases Nat.lt_or_ge k S.length with h | h
            · exact h
            · rw [List.drop_of_length_le h] at hS; cases hS
          clear o0 i4 g4 a4 B3 C4
          go_wp2_with (first
            | (at_builtin; refine Lib.wpList_append_run _ rfl (.tmp 24) (.tmp 32) 42 42 rfl _ _ rfl rfl _ _ r4.out ?_)
            | (go_at_call 46; refine hP.mono ?_; rintro e w5 ⟨rfl, v5, l5, A5, P5, Q5, S5⟩; have H5 := hide (F4.out w5 v5 l5 A5 P5 Q5 S5); clear A5 P5 Q5 S5)
            | fail)
          go_roundw
          case rel => exact ⟨k + 1, v5, hkS.out, H5.out⟩
          case measure => have := L4.out; have := L3.out; have := hkS.out; show S.length - lenV v4 < S.length - lenV u3; omega
      · rw [Nat.compare_eq_gt.2 (by omega)] at hol
        have hf := hide (fun wq hq => fin.out wr wq _ _ k hk hQ.out hq (fun x' r' e => by rw [hS] at e; cases e; exact hle))
        rw [hN.out] at hl hl1 c2
        clear hc hc' hx hle hQ
        go_upto_region 2 with fail
        go_quiet (fail)
        go_wp2_with fail
        go_ret
        exact hf.out _ ⟨_, rfl⟩
end Go.Proofs.Ytjplkffghfikgaa.Ck

/-
  Go and Jump of the clock.
-/
namespace Go.Proofs.Ytjplkffghfikgaa.Ck
open Go.RowKit Rl
set_option linter.unusedVariables false
/-- May the time go on to there? -/
def goOk (now to : Nat) : Bool := timeB to && !decide (plusB to < now)
/-- Go: what goes off, what stays, the time, the error's number. -/
def goF (now to : Nat) (S : List Tm) : List Int × List Tm × Nat × Int :=
  if goOk now to then ((offS (plusB to) S).map Tm.id, onS (plusB to) S, plusB to, 0) else ([], S, now, 1)
/-- What a call that answers numbers leaves. -/
def Gone (w w' : World) (b : Nat) (c : C) (v : Value) (ids : Value) (L : List Int) (S' : List Tm) (now' : Nat) : Prop :=
  ∃ v' l', Ck w' b ⟨now', c.nx⟩ v' l' S' ∧ Ids w.heap.size w' ids L ∧ Stp b v v' w w' ∧ (∀ j, v'.ownBlock = some j → ids.ownBlock ≠ some j)
theorem plus_time {t : Nat} (h : timeB t = true) : plusB t < 9218868437227405312 := by
  unfold timeB at h
  simp at h
  unfold plusB
  split <;> omega
theorem Ck.setNow {w : World} {b : Nat} {c : C} {v : Value} {l S : List Tm} (h : Ck w b c v l S) {n : Nat} (hn : n < 9218868437227405312) : Ck (w.setCell ⟨b, 0, none⟩ (.float .f64 n)) b ⟨n, c.nx⟩ v l S :=
  { at_ := h.at_.setNow n, hp := h.hp, perm := h.perm, srt := h.srt, tt := h.tt, nx := h.nx, len := h.len, now := hn }
set_option maxRecDepth 100000 in
set_option maxHeartbeats 4000000 in
theorem go_any (w : World) (b to : Nat) (c : C) (v : Value) (l S : List Tm) (h : Ck w b c v l S) (hto : to < 18446744073709551616) : Calls Try.prog 15 #[.pointer (some ⟨b, 0, none⟩), .float .f64 to] w fun e w' => ∃ ids, e = .returned (.tuple #[ids, .int .i64 (goF c.now to S).2.2.2]) ∧ Gone w w' b c v ids (goF c.now to S).1 (goF c.now to S).2.1 (goF c.now to S).2.2.1 := by
  have sf : ∀ (W : World) (a : Addr) (x : Nat), (store a (.float .f64 x)).run Try.prog W = stored Try.prog W a (.float .f64 x) .plain := fun W a x => run_store _ W a _ _ rfl
  have hM := made_any w b c v l h.at_ h.nx
  have hT := isTime_any w to hto
  have hP := plus_any w to hto
  obtain ⟨c0, c1, c2⟩ := h.at_.cells
  obtain ⟨f0, f1, f2⟩ := h.at_.frozen
  have hno : Hid (Gone w w b c v (.slice none 0 0) [] S c.now) := ⟨v, l, h, Ids.nil _ _, Stp.refl _ _ _, fun j _ e => by simp [Value.ownBlock] at e⟩
  obtain ⟨z, hz⟩ : ∃ z, Hid (goF c.now to S = z) := ⟨_, rfl⟩
  rw [hz.out]
  cases ht : timeB to
  · obtain rfl : z = ([], S, c.now, 1) := by rw [← hz.out]; simp [goF, goOk, ht]
    rw [ht] at hT
    clear h
    go_enter Try.func15, Try.ntmps15
    go_wp2_with (first | (go_at_call 30; refine hM.mono ?_; rintro e w' ⟨rfl, hw⟩; rw [hw]; clear hw w') | (go_at_call 27; refine hT.mono ?_; rintro e w' ⟨rfl, hw⟩; rw [hw]; clear hw w'))
    go_ret2
    exact ⟨_, rfl, hno.out⟩
  · rw [ht] at hT
    have hol := order_lss ht (Nat.le_of_lt h.now)
    by_cases hlt : plusB to < c.now
    · obtain rfl : z = ([], S, c.now, 1) := by rw [← hz.out]; simp [goF, goOk, ht, hlt]
      rw [decide_eq_true hlt] at hol
      clear h hlt
      go_enter Try.func15, Try.ntmps15
      go_wp2_with (first | (go_at_call 30; refine hM.mono ?_; rintro e w' ⟨rfl, hw⟩; rw [hw]; clear hw w') | (go_at_call 27; refine hT.mono ?_; rintro e w' ⟨rfl, hw⟩; rw [hw]; clear hw w'))
      go_ret2
      exact ⟨_, rfl, hno.out⟩
    · obtain rfl : z = ((offS (plusB to) S).map Tm.id, onS (plusB to) S, plusB to, 0) := by rw [← hz.out]; simp [goF, goOk, ht]; omega
      rw [decide_eq_false hlt] at hol
      have h2 := h.setNow (plus_time ht)
      have hR := ring_any _ b ⟨plusB to, c.nx⟩ v l S h2
      have bs := hide (but_set w b 0 (.float .f64 (plusB to)) v)
      have sz : Hid ((w.setCell ⟨b, 0, none⟩ (.float .f64 (plusB to))).heap.size = w.heap.size) := by show _ = _; simp
      clear h h2 hlt
      go_enter Try.func15, Try.ntmps15
      go_wp2_with (first | (go_at_call 30; refine hM.mono ?_; rintro e w' ⟨rfl, hw⟩; rw [hw]; clear hw w') | (go_at_call 27; refine hT.mono ?_; rintro e w' ⟨rfl, hw⟩; rw [hw]; clear hw w') | (go_at_call 28; refine hP.mono ?_; rintro e w' ⟨rfl, hw⟩; rw [hw]; clear hw w') | (go_at_call 36; refine hR.mono ?_; rintro e w5 ⟨ids, v5, l5, rfl, C5, I5, S5, D5⟩))
      go_ret2
      rw [sz.out] at I5
      exact ⟨_, rfl, v5, l5, C5, I5, (show Stp b v v w _ from ⟨bs.out, fun j hj => .inl hj⟩).trans S5, D5⟩
/-- Jump: as Go to where Next tells. -/
def jumpF (now : Nat) (S : List Tm) : List Int × List Tm × Nat × Int := if (nxS S).2 then goF now (nxS S).1 S else ([], S, now, 1)
theorem nxS_lt (S : List Tm) (h : Tt S) : (nxS S).1 < 18446744073709551616 := by
  cases S with
  | nil => simp [nxS]
  | cons x r =>
    by_cases hx : x.b < 9218868437227405312
    · rw [show nxS (x :: r) = (x.b, true) by simp [nxS, hx]]; show x.b < _; omega
    · rw [show nxS (x :: r) = (0, false) by simp [nxS, hx]]; show 0 < _; omega
set_option maxRecDepth 100000 in
set_option maxHeartbeats 4000000 in
theorem jump_any (w : World) (b : Nat) (c : C) (v : Value) (l S : List Tm) (h : Ck w b c v l S) : Calls Try.prog 18 #[.pointer (some ⟨b, 0, none⟩)] w fun e w' => ∃ ids, e = .returned ids ∧ Gone w w' b c v ids (jumpF c.now S).1 (jumpF c.now S).2.1 (jumpF c.now S).2.2.1 := by
  have hN := next_any w b c v l S h
  have hn1 := nxS_lt S h.tt
  obtain ⟨z, hz⟩ : ∃ z, Hid (jumpF c.now S = z) := ⟨_, rfl⟩
  rw [hz.out]
  have hG : Hid (∀ wq, Qt w wq → Ck wq b c v l S) := fun wq hq => h.below (hq.below _)
  clear h
  unfold jumpF at hz
  generalize nxS S = y at *
  obtain ⟨t, ok⟩ := y
  cases ok
  · obtain rfl : z = ([], S, c.now, 1) := by rw [← hz.out]; rfl
    go_enter Try.func18, Try.ntmps18
    go_wp2_with (go_at_call 24; refine hN.mono ?_; rintro e w2 ⟨rfl, hq⟩)
    go_ret
    exact ⟨_, rfl, v, l, hG.out _ hq, Ids.nil _ _, Stp.below (hq.below _), fun j _ e => by simp [Value.ownBlock] at e⟩
  · obtain rfl : z = goF c.now t S := by rw [← hz.out]; rfl
    go_enter Try.func18, Try.ntmps18
    go_wp2_with (first | (go_at_call 24; refine hN.mono ?_; rintro e w2 ⟨rfl, hq⟩) | (go_at_call 15; refine (go_any w2 b t c v l S (hG.out _ hq) hn1).mono ?_; rintro e w3 ⟨ids, rfl, v5, l5, C5, I5, S5, D5⟩))
    go_ret
    have sz : w2.heap.size = w.heap.size := by obtain ⟨n, rfl⟩ := hq; rfl
    rw [sz] at I5
    exact ⟨_, rfl, v5, l5, C5, I5, (Stp.below (hq.below _)).trans S5, D5⟩
end Go.Proofs.Ytjplkffghfikgaa.Ck

/-
  Cancel of the clock.
-/
namespace Go.Proofs.Ytjplkffghfikgaa.Ck
open Go.RowKit Rl
set_option linter.unusedVariables false
/-- Where the timer of that number stands. -/
def ixOf (l : List Tm) (id : Int) : Nat := l.findIdx fun t => decide (t.id = id)
theorem ix_at {l : List Tm} {id : Int} {k : Nat} (h : k < l.length) (he : (g l k).id = id) (hn : ∀ j, j < k → (g l j).id ≠ id) : ixOf l id = k := by
  unfold ixOf
  rw [List.findIdx_eq h]
  refine ⟨by rw [g_get h] at he; simpa using he, fun j hj => ?_⟩
  have := hn j hj
  rw [g_get (by omega)] at this
  simpa using this
theorem ix_none {l : List Tm} {id : Int} (hn : ∀ j, j < l.length → (g l j).id ≠ id) : ixOf l id = l.length := by
  unfold ixOf
  rw [List.findIdx_eq_length]
  intro x hx
  obtain ⟨k, hk, e⟩ := mem_g hx
  have := hn k hk
  rw [e] at this
  simpa using this
theorem isId_any (w : World) (gb : Nat) (id : Int) (t : Tm) (h : w.cell? ⟨gb, 0, none⟩ = some (.int .i64 id)) : Calls Try.prog 34 #[.agg #[.int .i64 t.id, .float .f64 t.b], .pointer (some ⟨gb, 0, none⟩)] w fun e w' => e = .returned (.bool (decide (t.id = id))) ∧ Below w.heap.size w w' := by
  have hg := lt_of_cell h
  have B1 := hide (box_below w (.cells #[.int .i64 t.id, .float .f64 t.b] 70))
  simp only at hg
  have hne : ¬ (gb = w.heap.size) := by omega
  go_enter Try.func34, Try.ntmps34
  go_wp2_with fail
  go_ret
  exact ⟨by first | rfl | simp, B1.out⟩
set_option maxRecDepth 100000 in
set_option maxHeartbeats 4000000 in
theorem indexFunc_any (w : World) (v : Value) (l : List Tm) (gb : Nat) (id : Int) (h : Tms w v l) (hg : w.cell? ⟨gb, 0, none⟩ = some (.int .i64 id)) (hlen : l.length ≤ 1000000) : Calls Try.prog 33 #[v, .func (.func 34) #[] #[.pointer (some ⟨gb, 0, none⟩)]] w fun e w' => e = .returned (.int .i64 (if ixOf l id < l.length then (ixOf l id : Int) else -1)) ∧ Below w.heap.size w w' := by
  obtain ⟨ao, ca, rfl, q1, q2⟩ := h.form
  obtain ⟨N, hN⟩ : ∃ N, Hid (l.length = N) := ⟨_, rfl⟩
  have H := hide h
  rw [hN.out] at H hlen ⊢
  have hgl := lt_of_cell hg
  clear h
  obtain ⟨z, hz⟩ : ∃ z, Hid ((if ixOf l id < N then (ixOf l id : Int) else -1) = z) := ⟨_, rfl⟩
  rw [hz.out]
  go_enter Try.func33, Try.ntmps33
  go_wp2_with fail
  go_loopw [8] (fun iv wr => ∃ k : Nat, iv = .int .i64 k ∧ k ≤ N ∧ Hid (Below w.heap.size w wr ∧ ∀ j, j < k → (g l j).id ≠ id)) (fun iv _ => N - (intOf iv).toNat)
  case atStart => exact ⟨0, rfl, Nat.zero_le _, Below.refl _ _, fun j hj => by omega⟩
  case round =>
    obtain ⟨k, rfl, hk, hQ⟩ := hrel
    by_cases hlt : k < N
    · have i1 : (k : Int) < (N : Int) := by omega
      have i0 : (0 : Int) ≤ (k : Int) := by omega
      obtain ⟨tb, ca', cs, e, _⟩ := H.out.at (fun e => by rw [e] at hN; have := hN.out; simp at this; omega)
      simp at e
      obtain ⟨rfl, eN, rfl⟩ := e
      clear eN
      have H2 := H.out.below hQ.out.1
      obtain ⟨d0, d1⟩ := H2.read k (by rw [hN.out]; exact hlt)
      have hg2 : wr.cell? ⟨gb, 0, none⟩ = some (.int .i64 id) := by rw [hQ.out.1.cell (p := ⟨gb, 0, none⟩) hgl]; exact hg
      have hI := isId_any wr gb id (g l k) hg2
      clear H2
      by_cases he : (g l k).id = id
      · rw [decide_eq_true he] at hI
        have FIN : Hid (z = (k : Int)) := by
          show _ = _
          rw [← hz.out, ix_at (by rw [hN.out]; exact hlt) he hQ.out.2, if_pos hlt]
        have hQ1 := hide hQ.out.1
        clear he hQ
        go_wp2_with (go_at_call 34; refine hI.mono ?_; rintro e w2 ⟨rfl, b2⟩)
        go_ret
        exact ⟨by rw [FIN.out]; rfl, keepF hQ1.out b2⟩
      · rw [decide_eq_false he] at hI
        have he' := hide he
        clear he
        go_wp2_with (go_at_call 34; refine hI.mono ?_; rintro e w2 ⟨rfl, b2⟩)
        have hQ2 : Hid (Below w.heap.size w w2 ∧ ∀ j, j < k + 1 → (g l j).id ≠ id) := ⟨keepF hQ.out.1 b2, fun j hj => by
          by_cases e : j = k
          · subst e; exact he'.out
          · exact hQ.out.2 j (by omega)⟩
        go_roundw
        case rel => exact ⟨k + 1, by go_num, by omega, hQ2.out⟩
        case measure => simp [intOf]; omega
    · obtain rfl : k = N := by omega
      have FIN : Hid (z = -1) := by
        show _ = _
        rw [← hz.out, if_neg]
        rw [ix_none (fun j hj => hQ.out.2 j (by rw [hN.out] at hj; exact hj)), hN.out]
        omega
      go_wp2_with fail
      go_ret
      exact ⟨by rw [FIN.out]; rfl, hQ.out.1⟩
end Go.Proofs.Ytjplkffghfikgaa.Ck

/-
  Cancel of the clock: the whole.
-/
namespace Go.Proofs.Ytjplkffghfikgaa.Ck
open Go.RowKit Rl
set_option linter.unusedVariables false
/-- Cancel: what stays, the error's number. -/
def canF (id : Int) (S : List Tm) : List Tm × Int := if S.any (fun t => decide (t.id = id)) then (S.filter (fun t => !decide (t.id = id)), 0) else (S, 6)
/-- No two timers have one number. -/
def Un (S : List Tm) : Prop := S.Pairwise fun a b => a.id ≠ b.id
theorem Un.perm {S l : List Tm} (h : Un S) (hp : S.Perm l) : Un l := hp.pairwise h (fun hxy e => hxy e.symm)
theorem filter_cons {x : Tm} {l : List Tm} (h : Un (x :: l)) : (x :: l).filter (fun t => !decide (t.id = x.id)) = l := by
  obtain ⟨h1, h2⟩ := List.pairwise_cons.1 h
  rw [List.filter_cons_of_neg (by simp)]
  exact List.filter_eq_self.2 fun t ht => by have := h1 t ht; simp; exact fun e => this e.symm
theorem Ck.cancel {w w' : World} {b : Nat} {c : C} {v v' : Value} {l l' S : List Tm} {x : Tm} (h : Ck w b c v l S) (hu : Un S) (ha : At w' b c v' l') (hp : Hp l') (hq : (x :: l').Perm l) : Ck w' b c v' l' (S.filter fun t => !decide (t.id = x.id)) where
  at_ := ha
  hp := hp
  perm := by
    have h1 := (hq.trans h.perm).filter (fun t => !decide (t.id = x.id))
    rwa [filter_cons (hu.perm (hq.trans h.perm).symm)] at h1
  srt := h.srt.filter _
  tt := fun t ht => h.tt t (List.mem_filter.1 ht).1
  nx := h.nx
  len := Nat.le_trans (List.length_filter_le _ _) h.len
  now := h.now
theorem ix_any {l S : List Tm} {id : Int} (hp : l.Perm S) : (ixOf l id < l.length) ↔ (S.any (fun t => decide (t.id = id)) = true) := by
  unfold ixOf
  rw [List.findIdx_lt_length, List.any_eq_true]
  constructor
  · rintro ⟨x, hx, e⟩; exact ⟨x, hp.mem_iff.1 hx, e⟩
  · rintro ⟨x, hx, e⟩; exact ⟨x, hp.mem_iff.2 hx, e⟩
theorem ix_id {l : List Tm} {id : Int} (h : ixOf l id < l.length) : (g l (ixOf l id)).id = id := by
  rw [g_get h]
  have := List.findIdx_getElem (xs := l) (p := fun t : Tm => decide (t.id = id)) (w := h)
  exact of_decide_eq_true this
set_option maxRecDepth 100000 in
set_option maxHeartbeats 4000000 in
theorem cancel_any (w : World) (b : Nat) (c : C) (v : Value) (l S : List Tm) (id : Int) (h : Ck w b c v l S) (hu : Un S) : Calls Try.prog 13 #[.pointer (some ⟨b, 0, none⟩), .int .i64 id] w fun e w' => e = .returned (.int .i64 (canF id S).2) ∧ ∃ v' l', Ck w' b c v' l' (canF id S).1 ∧ Stp b v v' w w' := by
  obtain ⟨z, hz⟩ : ∃ z, Hid (canF id S = z) := ⟨_, rfl⟩
  rw [hz.out]
  have B1 := box_below w (.cells #[.int .i64 id] 3)
  have h1 := h.below B1
  have hg1 : (w.alloc (.cells #[.int .i64 id] 3)).cell? ⟨w.heap.size, 0, none⟩ = some (.int .i64 id) := by rw [cell_of (heap_alloc_new w _)]; rfl
  have hM := made_any _ b c v l h1.at_ h1.nx
  obtain ⟨c0, c1, c2⟩ := h1.at_.cells
  have hlen : l.length ≤ 256 := by rw [h.perm.length_eq]; exact h.len
  have hI := indexFunc_any _ v l w.heap.size id h1.at_.row hg1 (by omega)
  have H1 := hide h1
  have BB := hide B1
  have hu' := hide hu
  have hia := hide (ix_any (id := id) h.perm)
  have hii := hide (fun (q : ixOf l id < l.length) => ix_id q)
  clear h h1 B1 hg1
  obtain ⟨w1, hw1⟩ : ∃ w1, Hid (w.alloc (.cells #[.int .i64 id] 3) = w1) := ⟨_, rfl⟩
  rw [hw1.out] at hM c0 c1 c2 hI H1 BB
  by_cases hix : ixOf l id < l.length
  · rw [if_pos hix] at hI
    obtain rfl : z = (S.filter (fun t => !decide (t.id = id)), 0) := by rw [← hz.out]; unfold canF; rw [if_pos (hia.out.1 hix)]
    have hid := hide (hii.out hix)
    obtain ⟨n, hn⟩ : ∃ n, Hid (l.length = n + 1) := ⟨l.length - 1, by show _ = _; omega⟩
    obtain ⟨i, hi⟩ : ∃ i, Hid (ixOf l id = i) := ⟨_, rfl⟩
    have hin : Hid (i ≤ n) := by have := hn.out; have := hi.out; show _ ≤ _; omega
    rw [hi.out] at hI hid
    have i0 : ¬ ((i : Int) < 0) := by omega
    clear hix
    go_enter Try.func13, Try.ntmps13
    go_upto_region 1 with fail
    rw [hw1.out]
    go_wp2_with (first
      | (go_at_call 30; refine hM.mono ?_; rintro e w' ⟨rfl, hw⟩; rw [hw]; clear hw w')
      | (go_at_call 33; refine hI.mono ?_; rintro e w2 ⟨rfl, b2⟩; have H2 := hide (H1.out.below b2); have B2 := hide (keepF BB.out b2); clear b2)
      | (go_at_call 35; refine (hrem_any w2 b n i c v l H2.out.at_ H2.out.hp (H2.out.tt.perm H2.out.perm).bt hn.out hin.out (by have := hn.out; omega)).mono ?_; rintro e w3 ⟨rfl, v3, l3, A3, P3, Q3, S3⟩)
      | fail)
    go_ret
    refine ⟨rfl, v3, l3, ?_, (Stp.below B2.out).trans S3⟩
    have := H2.out.cancel hu'.out A3 P3 Q3
    rwa [hid.out] at this
  · rw [if_neg hix] at hI
    obtain rfl : z = (S, 6) := by rw [← hz.out]; unfold canF; rw [if_neg (fun q => hix (hia.out.2 q))]
    clear hix
    go_enter Try.func13, Try.ntmps13
    go_upto_region 1 with fail
    rw [hw1.out]
    go_wp2_with (first
      | (go_at_call 30; refine hM.mono ?_; rintro e w' ⟨rfl, hw⟩; rw [hw]; clear hw w')
      | (go_at_call 33; refine hI.mono ?_; rintro e w2 ⟨rfl, b2⟩; have H2 := hide (H1.out.below b2); have B2 := hide (keepF BB.out b2); clear b2)
      | fail)
    go_ret
    exact ⟨rfl, v, l, H2.out, Stp.below B2.out⟩
end Go.Proofs.Ytjplkffghfikgaa.Ck

