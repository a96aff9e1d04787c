/-
  cut of a file.
-/
import Derived.Test.YtpbiopmlipchdaaGreatK13
namespace Go.Proofs.YtpbiopmlipchdaaGreat.Dk
open Go.RowKit Go.Maps Go.Sort Go.Shelf Go.Proofs.YtpbiopmlipchdaaGreat.Nm
open Ix (wp_region_T wpAnyT wpAnyT_take wpAnyT_one wpAnyT_done vac)
theorem Ob.take {B : Nat} {w : World} {ao : Option Addr} {n ca k : Nat} {L : List UInt8} (h : Ob B w (.slice ao n ca) L) (hk : k ≤ L.length) : Ob B w (.slice ao k ca) (L.take k) := by
  have hl : (L.take k).length = k := by rw [List.length_take]; omega
  rcases h.2 with ⟨e, e2⟩ | ⟨g, cap, cur, e, hg, hh, h1, h2, h3, h4⟩
  · simp only [Value.slice.injEq] at e
    obtain ⟨rfl, rfl, rfl⟩ := e
    have : L = [] := List.length_eq_zero_iff.1 (by omega)
    subst this
    obtain rfl : k = 0 := by simpa using hk
    exact h
  · simp only [Value.slice.injEq] at e
    obtain ⟨rfl, rfl, rfl⟩ := e
    refine ⟨by unfold bvals; rw [List.length_map, hl]; omega, .inr ⟨g, ca, cur, by rw [hl], hg, hh, by rw [hl]; omega, h2, h3, ?_⟩⟩
    rw [hl]
    have e : bvals (L.take k) = (bvals L).take k := by unfold bvals; rw [List.map_take]
    rw [e, ← h4, List.take_take]
    congr 1
    omega
set_option maxRecDepth 100000 in
theorem tail_raw (w : World) (p n m : Nat) (ao ao2 : Option Addr) (ca ca2 : Nat) (x : Value) (hb : w.heap[p]? = some (.cells #[.slice ao n ca, .slice ao2 m ca2, x] TFl (0, 0))) (hle : m ≤ n) (hsz : n ≤ 1099511627776) : Calls Tryz.prog 85 #[.pointer (some ⟨p, 0, none⟩)] w fun e w' => e = .returned (.int .i64 ((n - m : Nat) : Int)) ∧ ∃ n, w' = w.drewN n := by
  obtain ⟨x0, x1, _⟩ := cells3 hb
  clear hb
  have e1 : ((n - m : Nat) : Int) = (n : Int) - (m : Int) := by omega
  have e2 : IntKind.i64.wrap ((n : Int) - (m : Int)) = (n : Int) - (m : Int) := by rw [IntKind.wrap_i64]; omega
  rw [e1]
  clear e1
  go_enter Tryz.func85, Tryz.ntmps85
  go_upto_region 1 with fail
  go_quiet (fail)
  go_wp2_with fail
  go_ret
  exact ⟨rfl, _, rfl⟩
/-- A file behind a Cut. -/
def cuF (f : Fl) (k : Nat) : Fl := ⟨f.by_.take k, f.la.take k, min f.sp (k - min f.la.length k)⟩
set_option maxRecDepth 100000 in
theorem cut_any (w : World) (p k : Nat) (f : Fl) (vb vl : Value) (h : FlAt w p f vb vl) (hk : k ≤ f.by_.length) :
    Calls Tryz.prog 101 #[.pointer (some ⟨p, 0, none⟩), .int .i64 (k : Int)] w fun e w' => e = .returned (.tuple #[]) ∧ ∃ vb' vl', FlAt w' p (cuF f k) vb' vl' ∧ But (fun k => k = p) w w' ∧ vb'.ownBlock = vb.ownBlock ∧ vl'.ownBlock = vl.ownBlock := by
  obtain ⟨ab, cb, rfl, z1, z2⟩ := h.b.form
  obtain ⟨al, cl, rfl, z3, z4⟩ := h.l.form
  have H := hide h
  obtain ⟨m, hm⟩ : ∃ m, Hid (min f.la.length k = m) := ⟨_, rfl⟩
  obtain ⟨s, hs⟩ : ∃ s, Hid (min f.sp (k - m) = s) := ⟨_, rfl⟩
  have hmin : min (f.la.length : Int) (k : Int) = (m : Int) := by have := hm.out; omega
  have hmin2 : min (f.sp : Int) ((k - m : Nat) : Int) = (s : Int) := by have := hs.out; omega
  have i2 : (k : Int) ≤ (cb : Int) := by omega
  have i3 : (m : Int) ≤ (cl : Int) := by have := hm.out; omega
  have hmk : Hid (m ≤ k ∧ m ≤ f.la.length ∧ k ≤ 1099511627776 ∧ k ≤ f.by_.length ∧ s ≤ k - m) := by have := hm.out; have := h.sz; have := hs.out; show _ ∧ _; omega
  obtain ⟨x0, x1, x2⟩ := cells3 h.box
  have fr := (frozen3 h.box).1
  have b1 : Hid ((w.setCell ⟨p, 0, none⟩ (.slice ab k cb)).heap[p]? = some (.cells #[.slice ab k cb, .slice al f.la.length cl, .int .i64 (f.sp : Int)] TFl (0, 0))) := by show _ = _; rw [heap_setCell_same _ _ _ _ _ _ h.box]; simp
  have g1 := hide (But.of_grownBy (X := fun k => k = p) (grown_setCell w p 0 (.slice ab k cb)) fun k e => by cases e; rfl)
  have KC : Hid (∀ q : World, q.heap[p]? = some (.cells #[.slice ab k cb, .slice al f.la.length cl, .int .i64 (f.sp : Int)] TFl (0, 0)) → q.cell? ⟨p, 1, none⟩ = some (.slice al f.la.length cl)) := fun q hq => (cells3 hq).2.1
  clear h hk z1 z2 z3 z4
  go_enter Tryz.func101, Tryz.ntmps101
  go_upto_region 1 with fail
  clear x0 x1 x2 fr
  generalize (w.setCell ⟨p, 0, none⟩ (.slice ab k cb)) = w1 at *
  refine wp_region_T (fun q => q.heap[p]? = some (.cells #[.slice ab k cb, .slice al f.la.length cl, .int .i64 (f.sp : Int)] TFl (0, 0))) 15 (by kernel_rfl) ?_
  have D1 : Hid (Below w1.heap.size w1 w1.drew) := (Below.refl _ _).drew
  have KP : Hid (w1.drew.heap[p]? = some (.cells #[.slice ab k cb, .slice al f.la.length cl, .int .i64 (f.sp : Int)] TFl (0, 0))) := (D1.out.block p (heap_lt b1.out)).trans b1.out
  have g2 : Hid (But (fun k => k = p) w w1.drew) := g1.out.trans (But.of_below D1.out _)
  clear D1 b1 g1
  generalize w1.drew = q at *
  refine wpAnyT_take (i := 0) (oi := { dst := some 13, op := Op.move (Operand.tmp 0), type := 114, pos := "file.go:44", after := #[], guard := none }) (v := .pointer (some ⟨p, 0, none⟩)) [15] rfl (by kernel_rfl) (by kernel_rfl) (by kernel_rfl) (by kernel_rfl) (fun _ _ _ h => h) (Or.inl ⟨by rfl, ?_⟩) KP.out ?_
  · intro wq hSw
    have y2 := KC.out wq hSw
    go_simp
  (try simp only [Act.put, List.setIfInBounds_toArray, List.set_cons_zero, List.set_cons_succ])
  refine wpAnyT_take (i := 1) (oi := { dst := some 14, op := Op.move (Operand.tmp 0), type := 114, pos := "file.go:44", after := #[], guard := none }) (v := .pointer (some ⟨p, 0, none⟩)) [15] rfl (by kernel_rfl) (by kernel_rfl) (by kernel_rfl) (by kernel_rfl) (fun _ _ _ h => h) (Or.inl ⟨by rfl, ?_⟩) KP.out ?_
  · intro wq hSw
    have y2 := KC.out wq hSw
    go_simp
  (try simp only [Act.put, List.setIfInBounds_toArray, List.set_cons_zero, List.set_cons_succ])
  refine wpAnyT_take (i := 2) (oi := { dst := some 15, op := Op.nilCheck (Operand.tmp 14), type := 0, pos := "file.go:44", after := #[{ on := 1, ground := Ground.data }], guard := none }) (v := .pointer (some ⟨p, 0, none⟩)) [15] rfl (by kernel_rfl) (by kernel_rfl) (by kernel_rfl) (by kernel_rfl) (fun _ _ _ h => h) (Or.inl ⟨by rfl, ?_⟩) KP.out ?_
  · intro wq hSw
    have y2 := KC.out wq hSw
    go_simp
  (try simp only [Act.put, List.setIfInBounds_toArray, List.set_cons_zero, List.set_cons_succ])
  refine wpAnyT_take (i := 3) (oi := { dst := some 16, op := Op.fieldAddr 124 (Operand.tmp 15) 1, type := 0, pos := "file.go:44", after := #[{ on := 2, ground := Ground.data }], guard := none }) (v := .pointer (some ⟨p, 1, none⟩)) [15] rfl (by kernel_rfl) (by kernel_rfl) (by kernel_rfl) (by kernel_rfl) (fun _ _ _ h => h) (Or.inl ⟨by rfl, ?_⟩) KP.out ?_
  · intro wq hSw
    have y2 := KC.out wq hSw
    go_simp
  (try simp only [Act.put, List.setIfInBounds_toArray, List.set_cons_zero, List.set_cons_succ])
  refine wpAnyT_take (i := 4) (oi := { dst := some 17, op := Op.load 30 (Operand.tmp 16), type := 30, pos := "file.go:44", after := #[{ on := 3, ground := Ground.data }], guard := none }) (v := .slice al f.la.length cl) [15] rfl (by kernel_rfl) (by kernel_rfl) (by kernel_rfl) (by kernel_rfl) (fun _ _ _ h => h) (Or.inl ⟨by rfl, ?_⟩) KP.out ?_
  · intro wq hSw
    have y2 := KC.out wq hSw
    go_simp
  (try simp only [Act.put, List.setIfInBounds_toArray, List.set_cons_zero, List.set_cons_succ])
  refine wpAnyT_take (i := 5) (oi := { dst := some 18, op := Op.move (Operand.tmp 0), type := 114, pos := "file.go:44", after := #[], guard := none }) (v := .pointer (some ⟨p, 0, none⟩)) [15] rfl (by kernel_rfl) (by kernel_rfl) (by kernel_rfl) (by kernel_rfl) (fun _ _ _ h => h) (Or.inl ⟨by rfl, ?_⟩) KP.out ?_
  · intro wq hSw
    have y2 := KC.out wq hSw
    go_simp
  (try simp only [Act.put, List.setIfInBounds_toArray, List.set_cons_zero, List.set_cons_succ])
  refine wpAnyT_take (i := 6) (oi := { dst := some 19, op := Op.nilCheck (Operand.tmp 18), type := 0, pos := "file.go:44", after := #[{ on := 5, ground := Ground.data }], guard := none }) (v := .pointer (some ⟨p, 0, none⟩)) [15] rfl (by kernel_rfl) (by kernel_rfl) (by kernel_rfl) (by kernel_rfl) (fun _ _ _ h => h) (Or.inl ⟨by rfl, ?_⟩) KP.out ?_
  · intro wq hSw
    have y2 := KC.out wq hSw
    go_simp
  (try simp only [Act.put, List.setIfInBounds_toArray, List.set_cons_zero, List.set_cons_succ])
  refine wpAnyT_take (i := 7) (oi := { dst := some 20, op := Op.fieldAddr 124 (Operand.tmp 19) 1, type := 0, pos := "file.go:44", after := #[{ on := 6, ground := Ground.data }], guard := none }) (v := .pointer (some ⟨p, 1, none⟩)) [15] rfl (by kernel_rfl) (by kernel_rfl) (by kernel_rfl) (by kernel_rfl) (fun _ _ _ h => h) (Or.inl ⟨by rfl, ?_⟩) KP.out ?_
  · intro wq hSw
    have y2 := KC.out wq hSw
    go_simp
  (try simp only [Act.put, List.setIfInBounds_toArray, List.set_cons_zero, List.set_cons_succ])
  refine wpAnyT_take (i := 8) (oi := { dst := some 21, op := Op.load 30 (Operand.tmp 20), type := 30, pos := "file.go:44", after := #[{ on := 7, ground := Ground.data }], guard := none }) (v := .slice al f.la.length cl) [15] rfl (by kernel_rfl) (by kernel_rfl) (by kernel_rfl) (by kernel_rfl) (fun _ _ _ h => h) (Or.inl ⟨by rfl, ?_⟩) KP.out ?_
  · intro wq hSw
    have y2 := KC.out wq hSw
    go_simp
  (try simp only [Act.put, List.setIfInBounds_toArray, List.set_cons_zero, List.set_cons_succ])
  refine wpAnyT_take (i := 9) (oi := { dst := some 22, op := Op.call { callee := Callee.builtin Builtin.len, args := #[Operand.tmp 21], argTypes := #[30] }, type := 3, pos := "file.go:44", after := #[{ on := 8, ground := Ground.data }], guard := none }) (v := .int .i64 (f.la.length : Int)) [15] rfl (by kernel_rfl) (by kernel_rfl) (by kernel_rfl) (by kernel_rfl) (fun _ _ _ h => h) (Or.inl ⟨by rfl, ?_⟩) KP.out ?_
  · intro wq hSw
    have y2 := KC.out wq hSw
    go_simp
  (try simp only [Act.put, List.setIfInBounds_toArray, List.set_cons_zero, List.set_cons_succ])
  refine wpAnyT_take (i := 10) (oi := { dst := some 23, op := Op.move (Operand.tmp 1), type := 3, pos := "file.go:44", after := #[], guard := none }) (v := .int .i64 (k : Int)) [15] rfl (by kernel_rfl) (by kernel_rfl) (by kernel_rfl) (by kernel_rfl) (fun _ _ _ h => h) (Or.inl ⟨by rfl, ?_⟩) KP.out ?_
  · intro wq hSw
    have y2 := KC.out wq hSw
    go_simp
  (try simp only [Act.put, List.setIfInBounds_toArray, List.set_cons_zero, List.set_cons_succ])
  refine wpAnyT_take (i := 11) (oi := { dst := some 24, op := Op.call { callee := Callee.builtin Builtin.min, args := #[Operand.tmp 22, Operand.tmp 23], argTypes := #[3, 3] }, type := 3, pos := "file.go:44", after := #[{ on := 9, ground := Ground.data }, { on := 10, ground := Ground.data }], guard := none }) (v := .int .i64 (m : Int)) [15] rfl (by kernel_rfl) (by kernel_rfl) (by kernel_rfl) (by kernel_rfl) (fun _ _ _ h => h) (Or.inl ⟨by rfl, ?_⟩) KP.out ?_
  · intro wq hSw
    have y2 := KC.out wq hSw
    go_simp
  (try simp only [Act.put, List.setIfInBounds_toArray, List.set_cons_zero, List.set_cons_succ])
  refine wpAnyT_take (i := 12) (oi := { dst := some 25, op := Op.slice 30 (Operand.tmp 17) none (some (Operand.tmp 24)) none, type := 30, pos := "file.go:44", after := #[{ on := 4, ground := Ground.data }, { on := 11, ground := Ground.data }], guard := none }) (v := .slice al m cl) [15] rfl (by kernel_rfl) (by kernel_rfl) (by kernel_rfl) (by kernel_rfl) (fun _ _ _ h => h) (Or.inl ⟨by rfl, ?_⟩) KP.out ?_
  · intro wq hSw
    have y2 := KC.out wq hSw
    go_simp
  (try simp only [Act.put, List.setIfInBounds_toArray, List.set_cons_zero, List.set_cons_succ])
  refine wpAnyT_take (i := 13) (oi := { dst := some 26, op := Op.nilCheck (Operand.tmp 13), type := 0, pos := "file.go:44", after := #[{ on := 0, ground := Ground.data }, { on := 0, ground := Ground.phase }, { on := 1, ground := Ground.phase }, { on := 2, ground := Ground.phase }, { on := 3, ground := Ground.phase }, { on := 4, ground := Ground.phase }, { on := 5, ground := Ground.phase }, { on := 6, ground := Ground.phase }, { on := 7, ground := Ground.phase }, { on := 8, ground := Ground.phase }, { on := 9, ground := Ground.phase }, { on := 10, ground := Ground.phase }, { on := 11, ground := Ground.phase }, { on := 12, ground := Ground.phase }], guard := none }) (v := .pointer (some ⟨p, 0, none⟩)) [14, 15] rfl (by kernel_rfl) (by kernel_rfl) (by kernel_rfl) (by kernel_rfl) (fun _ _ _ h => h) (Or.inl ⟨by rfl, ?_⟩) KP.out ?_
  · intro wq hSw
    have y2 := KC.out wq hSw
    go_simp
  (try simp only [Act.put, List.setIfInBounds_toArray, List.set_cons_zero, List.set_cons_succ])
  refine wpAnyT_take (i := 14) (oi := { dst := some 27, op := Op.fieldAddr 124 (Operand.tmp 26) 1, type := 0, pos := "file.go:44", after := #[{ on := 13, ground := Ground.data }, { on := 0, ground := Ground.phase }, { on := 1, ground := Ground.phase }, { on := 2, ground := Ground.phase }, { on := 3, ground := Ground.phase }, { on := 4, ground := Ground.phase }, { on := 5, ground := Ground.phase }, { on := 6, ground := Ground.phase }, { on := 7, ground := Ground.phase }, { on := 8, ground := Ground.phase }, { on := 9, ground := Ground.phase }, { on := 10, ground := Ground.phase }, { on := 11, ground := Ground.phase }, { on := 12, ground := Ground.phase }], guard := none }) (v := .pointer (some ⟨p, 1, none⟩)) [15] rfl (by kernel_rfl) (by kernel_rfl) (by kernel_rfl) (by kernel_rfl) (fun _ _ _ h => h) (Or.inl ⟨by rfl, ?_⟩) KP.out ?_
  · intro wq hSw
    have y2 := KC.out wq hSw
    go_simp
  (try simp only [Act.put, List.setIfInBounds_toArray, List.set_cons_zero, List.set_cons_succ])
  have d1 := (cells3 KP.out).2.1
  have d2 := (frozen3 KP.out).2.1
  refine wpAnyT_one (i := 15) (o := { dst := none, op := Op.store 30 (Operand.tmp 27) (Operand.tmp 25), type := 0, pos := "file.go:44", after := #[{ on := 14, ground := Ground.data }, { on := 12, ground := Ground.data }, { on := 0, ground := Ground.phase }, { on := 1, ground := Ground.phase }, { on := 2, ground := Ground.phase }, { on := 3, ground := Ground.phase }, { on := 4, ground := Ground.phase }, { on := 5, ground := Ground.phase }, { on := 6, ground := Ground.phase }, { on := 7, ground := Ground.phase }, { on := 8, ground := Ground.phase }, { on := 9, ground := Ground.phase }, { on := 10, ground := Ground.phase }, { on := 11, ground := Ground.phase }, { on := 12, ground := Ground.phase }], guard := none }) (by kernel_rfl) rfl (fun K hK => ?_)
  go_simp
  refine hK.out _ _ (vac (by kernel_rfl)) ?_
  clear hK K d1 d2 KC
  refine wpAnyT_done (by kernel_rfl) ?_ _
  have b3 : Hid ((q.setCell ⟨p, 1, none⟩ (.slice al m cl)).heap[p]? = some (.cells #[.slice ab k cb, .slice al m cl, .int .i64 (f.sp : Int)] TFl (0, 0))) := by show _ = _; rw [heap_setCell_same _ _ _ _ _ _ KP.out]; simp
  have g3 : Hid (But (fun k => k = p) w (q.setCell ⟨p, 1, none⟩ (.slice al m cl))) := g2.out.trans (But.of_grownBy (X := fun k => k = p) (grown_setCell q p 1 (.slice al m cl)) fun k e => by cases e; rfl)
  clear KP g2
  generalize (q.setCell ⟨p, 1, none⟩ (.slice al m cl)) = w3 at *
  have KC : Hid (∀ q : World, q.heap[p]? = some (.cells #[.slice ab k cb, .slice al m cl, .int .i64 (f.sp : Int)] TFl (0, 0)) → q.cell? ⟨p, 2, none⟩ = some (.int .i64 (f.sp : Int))) := fun q hq => (cells3 hq).2.2
  go_upto_region 2 with fail
  refine wp_region_T (fun q => q.heap[p]? = some (.cells #[.slice ab k cb, .slice al m cl, .int .i64 (f.sp : Int)] TFl (0, 0))) 10 (by kernel_rfl) ?_
  have D3 : Hid (Below w3.heap.size w3 w3.drew) := (Below.refl _ _).drew
  have KP : Hid (w3.drew.heap[p]? = some (.cells #[.slice ab k cb, .slice al m cl, .int .i64 (f.sp : Int)] TFl (0, 0))) := (D3.out.block p (heap_lt b3.out)).trans b3.out
  have g4 : Hid (But (fun k => k = p) w w3.drew) := g3.out.trans (But.of_below D3.out _)
  clear D3 b3 g3
  generalize w3.drew = q3 at *
  have hT := tail_raw q3 p k m ab al cb cl (.int .i64 (f.sp : Int)) KP.out hmk.out.1 hmk.out.2.2.1
  refine wpAnyT_take (i := 0) (oi := { dst := some 28, op := Op.move (Operand.tmp 0), type := 114, pos := "file.go:45", after := #[], guard := none }) (v := .pointer (some ⟨p, 0, none⟩)) [10] rfl (by kernel_rfl) (by kernel_rfl) (by kernel_rfl) (by kernel_rfl) (fun _ _ _ h => h) (Or.inl ⟨by rfl, ?_⟩) KP.out ?_
  · intro wq hSw
    have y2 := KC.out wq hSw
    go_simp
  (try simp only [Act.put, List.setIfInBounds_toArray, List.set_cons_zero, List.set_cons_succ])
  refine wpAnyT_take (i := 1) (oi := { dst := some 29, op := Op.move (Operand.tmp 0), type := 114, pos := "file.go:45", after := #[], guard := none }) (v := .pointer (some ⟨p, 0, none⟩)) [10] rfl (by kernel_rfl) (by kernel_rfl) (by kernel_rfl) (by kernel_rfl) (fun _ _ _ h => h) (Or.inl ⟨by rfl, ?_⟩) KP.out ?_
  · intro wq hSw
    have y2 := KC.out wq hSw
    go_simp
  (try simp only [Act.put, List.setIfInBounds_toArray, List.set_cons_zero, List.set_cons_succ])
  refine wpAnyT_take (i := 2) (oi := { dst := some 30, op := Op.nilCheck (Operand.tmp 29), type := 0, pos := "file.go:45", after := #[{ on := 1, ground := Ground.data }], guard := none }) (v := .pointer (some ⟨p, 0, none⟩)) [10] rfl (by kernel_rfl) (by kernel_rfl) (by kernel_rfl) (by kernel_rfl) (fun _ _ _ h => h) (Or.inl ⟨by rfl, ?_⟩) KP.out ?_
  · intro wq hSw
    have y2 := KC.out wq hSw
    go_simp
  (try simp only [Act.put, List.setIfInBounds_toArray, List.set_cons_zero, List.set_cons_succ])
  refine wpAnyT_take (i := 3) (oi := { dst := some 31, op := Op.fieldAddr 124 (Operand.tmp 30) 2, type := 0, pos := "file.go:45", after := #[{ on := 2, ground := Ground.data }], guard := none }) (v := .pointer (some ⟨p, 2, none⟩)) [10] rfl (by kernel_rfl) (by kernel_rfl) (by kernel_rfl) (by kernel_rfl) (fun _ _ _ h => h) (Or.inl ⟨by rfl, ?_⟩) KP.out ?_
  · intro wq hSw
    have y2 := KC.out wq hSw
    go_simp
  (try simp only [Act.put, List.setIfInBounds_toArray, List.set_cons_zero, List.set_cons_succ])
  refine wpAnyT_take (i := 4) (oi := { dst := some 32, op := Op.load 3 (Operand.tmp 31), type := 3, pos := "file.go:45", after := #[{ on := 3, ground := Ground.data }], guard := none }) (v := .int .i64 (f.sp : Int)) [10] rfl (by kernel_rfl) (by kernel_rfl) (by kernel_rfl) (by kernel_rfl) (fun _ _ _ h => h) (Or.inl ⟨by rfl, ?_⟩) KP.out ?_
  · intro wq hSw
    have y2 := KC.out wq hSw
    go_simp
  (try simp only [Act.put, List.setIfInBounds_toArray, List.set_cons_zero, List.set_cons_succ])
  refine wpAnyT_take (i := 5) (oi := { dst := some 33, op := Op.move (Operand.tmp 0), type := 114, pos := "file.go:45", after := #[], guard := none }) (v := .pointer (some ⟨p, 0, none⟩)) [10] rfl (by kernel_rfl) (by kernel_rfl) (by kernel_rfl) (by kernel_rfl) (fun _ _ _ h => h) (Or.inl ⟨by rfl, ?_⟩) KP.out ?_
  · intro wq hSw
    have y2 := KC.out wq hSw
    go_simp
  (try simp only [Act.put, List.setIfInBounds_toArray, List.set_cons_zero, List.set_cons_succ])
  refine wpAnyT_one (i := 6) (o := { dst := some 34, op := Op.call { callee := Callee.value (Operand.func 85), args := #[Operand.tmp 33], argTypes := #[114] }, type := 3, pos := "file.go:45", after := #[{ on := 5, ground := Ground.data }], guard := none }) (by kernel_rfl) rfl (fun K hK => ?_)
  go_simp
  go_at_call 85
  refine hT.mono ?_
  rintro e w5 ⟨rfl, nq, rfl⟩
  have B5 : Hid (Below q3.heap.size q3 (q3.drewN nq)) := Qt.below ⟨nq, rfl⟩ _
  have K5 : Hid ((q3.drewN nq).heap[p]? = some (.cells #[.slice ab k cb, .slice al m cl, .int .i64 (f.sp : Int)] TFl (0, 0))) := (B5.out.block p (heap_lt KP.out)).trans KP.out
  have g5 : Hid (But (fun k => k = p) w (q3.drewN nq)) := g4.out.trans (But.of_below B5.out _)
  (try go_simp)
  refine hK.out _ _ (fun _ => K5.out) ?_
  clear hK K hT B5 KP g4
  (try simp only [Act.put, List.setIfInBounds_toArray, List.set_cons_zero, List.set_cons_succ])
  generalize q3.drewN nq = q5 at *
  refine wpAnyT_take (i := 7) (oi := { dst := some 35, op := Op.call { callee := Callee.builtin Builtin.min, args := #[Operand.tmp 32, Operand.tmp 34], argTypes := #[3, 3] }, type := 3, pos := "file.go:45", after := #[{ on := 4, ground := Ground.data }, { on := 6, ground := Ground.data }], guard := none }) (v := .int .i64 (s : Int)) [10] rfl (by kernel_rfl) (by kernel_rfl) (by kernel_rfl) (by kernel_rfl) (fun _ _ _ h => h) (Or.inl ⟨by rfl, ?_⟩) K5.out ?_
  · intro wq hSw
    have y2 := KC.out wq hSw
    go_simp
  (try simp only [Act.put, List.setIfInBounds_toArray, List.set_cons_zero, List.set_cons_succ])
  refine wpAnyT_take (i := 8) (oi := { dst := some 36, op := Op.nilCheck (Operand.tmp 28), type := 0, pos := "file.go:45", after := #[{ on := 0, ground := Ground.data }, { on := 0, ground := Ground.phase }, { on := 1, ground := Ground.phase }, { on := 2, ground := Ground.phase }, { on := 3, ground := Ground.phase }, { on := 4, ground := Ground.phase }, { on := 5, ground := Ground.phase }, { on := 6, ground := Ground.phase }, { on := 7, ground := Ground.phase }], guard := none }) (v := .pointer (some ⟨p, 0, none⟩)) [9, 10] rfl (by kernel_rfl) (by kernel_rfl) (by kernel_rfl) (by kernel_rfl) (fun _ _ _ h => h) (Or.inl ⟨by rfl, ?_⟩) K5.out ?_
  · intro wq hSw
    have y2 := KC.out wq hSw
    go_simp
  (try simp only [Act.put, List.setIfInBounds_toArray, List.set_cons_zero, List.set_cons_succ])
  refine wpAnyT_take (i := 9) (oi := { dst := some 37, op := Op.fieldAddr 124 (Operand.tmp 36) 2, type := 0, pos := "file.go:45", after := #[{ on := 8, ground := Ground.data }, { on := 0, ground := Ground.phase }, { on := 1, ground := Ground.phase }, { on := 2, ground := Ground.phase }, { on := 3, ground := Ground.phase }, { on := 4, ground := Ground.phase }, { on := 5, ground := Ground.phase }, { on := 6, ground := Ground.phase }, { on := 7, ground := Ground.phase }], guard := none }) (v := .pointer (some ⟨p, 2, none⟩)) [10] rfl (by kernel_rfl) (by kernel_rfl) (by kernel_rfl) (by kernel_rfl) (fun _ _ _ h => h) (Or.inl ⟨by rfl, ?_⟩) K5.out ?_
  · intro wq hSw
    have y2 := KC.out wq hSw
    go_simp
  (try simp only [Act.put, List.setIfInBounds_toArray, List.set_cons_zero, List.set_cons_succ])
  have d1 := (cells3 K5.out).2.2
  have d2 := (frozen3 K5.out).2.2
  refine wpAnyT_one (i := 10) (o := { dst := none, op := Op.store 3 (Operand.tmp 37) (Operand.tmp 35), type := 0, pos := "file.go:45", after := #[{ on := 9, ground := Ground.data }, { on := 7, ground := Ground.data }, { on := 6, ground := Ground.chain }, { on := 0, ground := Ground.phase }, { on := 1, ground := Ground.phase }, { on := 2, ground := Ground.phase }, { on := 3, ground := Ground.phase }, { on := 4, ground := Ground.phase }, { on := 5, ground := Ground.phase }, { on := 6, ground := Ground.phase }, { on := 7, ground := Ground.phase }], guard := none }) (by kernel_rfl) rfl (fun K hK => ?_)
  go_simp
  refine hK.out _ _ (vac (by kernel_rfl)) ?_
  clear hK K d1 d2 KC
  refine wpAnyT_done (by kernel_rfl) ?_ _
  have b6 : (q5.setCell ⟨p, 2, none⟩ (.int .i64 (s : Int))).heap[p]? = some (.cells #[.slice ab k cb, .slice al m cl, .int .i64 (s : Int)] TFl (0, 0)) := by rw [heap_setCell_same _ _ _ _ _ _ K5.out]; simp
  have g6 : But (fun k => k = p) w (q5.setCell ⟨p, 2, none⟩ (.int .i64 (s : Int))) := g5.out.trans (But.of_grownBy (X := fun k => k = p) (grown_setCell q5 p 2 (.int .i64 (s : Int))) fun k e => by cases e; rfl)
  replace b6 := hide b6
  replace g6 := hide g6
  clear K5 g5
  generalize (q5.setCell ⟨p, 2, none⟩ (.int .i64 (s : Int))) = w6 at *
  go_wp2_with fail
  go_end0
  have hq := hmk.out
  have ob := (H.out.b.but g6.out (fun j hj e => H.out.b.no H.out.box (by decide) (by rw [← e]; exact hj))).take (k := k) hq.2.2.2.1
  have ol := (H.out.l.but g6.out (fun j hj e => H.out.l.no H.out.box (by decide) (by rw [← e]; exact hj))).take (k := m) hq.2.1
  have e1 : f.la.take m = f.la.take k := by rw [← hm.out, Nat.min_comm, ← List.take_eq_take_min]
  refine ⟨rfl, .slice ab k cb, .slice al m cl, ?_, g6.out, ?_, ?_⟩
  · refine ⟨?_, ob, ?_, fun j hj => (by cases ab <;> cases al <;> first | exact H.out.ne j hj | (intro c; cases c) | (cases hj)), ?_, ?_, ?_⟩
    · have : ((cuF f k).sp : Int) = (s : Int) := by unfold cuF; rw [hm.out, hs.out]
      rw [this]; exact b6.out
    · show Ob 0 w6 _ (f.la.take k)
      rw [← e1]; exact ol
    · show (f.la.take k).length ≤ (f.by_.take k).length
      rw [List.length_take, List.length_take]; have := H.out.le; omega
    · show min f.sp (k - min f.la.length k) ≤ (f.by_.take k).length - (f.la.take k).length
      rw [List.length_take, List.length_take]; omega
    · show (f.by_.take k).length ≤ _
      rw [List.length_take]; omega
  · cases ab <;> rfl
  · cases al <;> rfl
end Go.Proofs.YtpbiopmlipchdaaGreat.Dk

/-
  Cut.
-/
namespace Go.Proofs.YtpbiopmlipchdaaGreat.Dk
open Go.RowKit Go.Maps Go.Sort Go.Shelf Go.Proofs.YtpbiopmlipchdaaGreat.Nm
/-- Cut, by data. -/
def DS.cut (S : DS) (s : ByteArray) (n : Int) : DS × Int :=
  match S.find s with
  | (none, e) => (S, e)
  | (some p, _) =>
    if n < 0 ∨ ((S.F p).by_.length : Int) < n then (S, 8)
    else if strR S.flt.2.1 ≠ 0 then ((S.beg 3).str S.flt.2.1, strR S.flt.2.1)
    else ({ S.beg 3 with F := upd S.F p (cuF (S.F p) n.toNat) }, 0)
theorem strR_zero {k : Int} (h : strR k = 0) : k ≠ 3 := fun e => by subst e; revert h; decide
set_option maxRecDepth 100000 in
set_option maxHeartbeats 1000000 in
theorem cutD_any {w : World} {b : Nat} {S : DS} {O : Nat → Prop} {f g : Nat} {pd : Value} {am : Option Nat} {VB VL : Nat → Value} (h : Dsk w b S O f g pd am VB VL) (s : ByteArray) (hs : s.size ≤ maxLen) (n : Int) (n0 : -9223372036854775808 ≤ n) (n1 : n ≤ 9223372036854775807) (hc : S.c7 < 900000000) :
    Calls Tryz.prog 49 #[.pointer (some ⟨b, 0, none⟩), .string s, .int .i64 n] w (Does w b O (S.cut s n)) := by
  have hF := dsk_find h s hs
  by_cases h0 : (S.find s).2 = 0
  · obtain ⟨p, e, hg, hr, hp⟩ := find_ok h0
    rw [e] at hF
    simp only [Option.map_some] at hF
    have hR : Hid (S.cut s n = if n < 0 ∨ ((S.F p).by_.length : Int) < n then (S, 8) else if strR S.flt.2.1 ≠ 0 then ((S.beg 3).str S.flt.2.1, strR S.flt.2.1) else ({ S.beg 3 with F := upd S.F p (cuF (S.F p) n.toNat) }, 0)) := by show _ = _; unfold DS.cut; rw [e]
    have hsz := hide (h.ok.sz p hp)
    have H := hide h
    have hlen : Hid (∀ u, Dsk u b S O f g pd am VB VL → ∃ ao ca, u.cell? ⟨p, 0, none⟩ = some (.slice ao (S.F p).by_.length ca)) := fun u hu => by
      have hf := hu.fs.at_ p hp
      obtain ⟨ao, ca, e, _, _⟩ := hf.b.form
      have := (cells3 hf.box).1
      rw [e] at this
      exact ⟨ao, ca, this⟩
    by_cases q1 : n < 0
    · have hR2 : Hid (S.cut s n = (S, 8)) := by show _ = _; rw [hR.out, if_pos (.inl q1)]
      rw [hR2.out]
      clear h e hr h0 hg hR hR2
      go_enter Tryz.func49, Tryz.ntmps49
      go_wp2_with (go_at_call 75; refine hF.mono ?_; rintro e w1 ⟨rfl, B1⟩; replace B1 := hide B1)
      go_ret
      exact ⟨rfl, O, (H.out.below B1.out).e, Sgo.of_below B1.out⟩
    · have q1' : 0 ≤ n := by omega
      by_cases q2 : ((S.F p).by_.length : Int) < n
      · have hR2 : Hid (S.cut s n = (S, 8)) := by show _ = _; rw [hR.out, if_pos (.inr q2)]
        rw [hR2.out]
        clear h e hr h0 hg hR hR2
        go_enter Tryz.func49, Tryz.ntmps49
        go_wp2_with (go_at_call 75; refine hF.mono ?_; rintro e w1 ⟨rfl, B1⟩; replace B1 := hide B1; obtain ⟨ao, ca, x0⟩ := hlen.out _ (H.out.below B1.out))
        go_ret
        exact ⟨rfl, O, (H.out.below B1.out).e, Sgo.of_below B1.out⟩
      · have q2' : n ≤ ((S.F p).by_.length : Int) := by omega
        obtain ⟨k, rfl⟩ : ∃ k : Nat, n = k := ⟨n.toNat, by omega⟩
        have hb : Hid (∀ u, Dsk u b S O f g pd am VB VL → _) := fun u hu => dsk_begin hu 3 (by omega) (by omega)
        have hft := h.ok.flt
        obtain ⟨t, ht⟩ : ∃ t, Hid (S.flt = t) := ⟨_, rfl⟩
        rw [ht.out] at hb hft hR
        have hst : Hid (∀ u, Dsk u b (S.beg 3) O f g pd am VB VL → _) := fun u hu => dsk_strikeR hu t (by omega)
        unfold fv at hb hst
        obtain ⟨ta, tk, tp⟩ := t
        dsimp only at hb hft hR hst
        have hcu : Hid (∀ u, Dsk u b (S.beg 3) O f g pd am VB VL → Calls Tryz.prog 101 #[.pointer (some ⟨p, 0, none⟩), .int .i64 (k : Int)] u fun e w' => e = .returned (.tuple #[]) ∧ ∃ O', DskE w' b { S.beg 3 with F := upd S.F p (cuF (S.F p) k) } O' ∧ Sgo u w' O O') := fun u hu => by
          refine (cut_any u p k (S.F p) (VB p) (VL p) (hu.fs.at_ p hp) (by omega)).mono ?_
          rintro e w' ⟨rfl, vb', vl', hf, hB, ob, ol⟩
          obtain ⟨O', k1, k2⟩ := hu.one (t := cuF (S.F p) k) hp hf (hB.mono fun k _ e => .inl e) (fun j hj => .inl (by unfold FOwn at hj ⊢; rw [ob, ol] at hj; exact hj)) (by have := hsz.out; show (List.take _ _).length ≤ _; rw [List.length_take]; omega)
          exact ⟨rfl, O', k1.e, k2⟩
        obtain ⟨r, hr0⟩ : ∃ r, strR tk = r := ⟨_, rfl⟩
        by_cases k1 : r = 0
        · have hR2 : Hid (S.cut s k = ({ S.beg 3 with F := upd S.F p (cuF (S.F p) k) }, 0)) := by show _ = _; rw [hR.out, if_neg (by omega), if_neg (by rw [hr0]; simpa using k1)]; rfl
          rw [hR2.out]
          have e2 : (S.beg 3).str tk = S.beg 3 := by unfold DS.str; rw [if_neg (strR_zero (by rw [hr0]; exact k1))]
          rw [hr0, k1, e2] at hst
          clear h e hr h0 hg hR hR2 hft hr0 k1 e2
          go_enter Tryz.func49, Tryz.ntmps49
          go_wp2_with (first
            | (go_at_call 75; refine hF.mono ?_; rintro e w1 ⟨rfl, B1⟩; replace B1 := hide B1; have D1 := hide (H.out.below B1.out); obtain ⟨ao, ca, x0⟩ := hlen.out _ D1.out)
            | (go_at_call 70; refine (hb.out _ D1.out).mono ?_; rintro e w2 ⟨rfl, D2, G2⟩; replace D2 := hide D2; replace G2 := hide G2)
            | (go_at_call 73; refine (hst.out _ D2.out).mono ?_; rintro e w3 ⟨rfl, D3, G3⟩; replace D3 := hide D3; replace G3 := hide G3)
            | (go_at_call 101; refine (hcu.out _ D3.out).mono ?_; rintro e w4 ⟨rfl, O4, D4, G4⟩; replace D4 := hide D4; replace G4 := hide G4))
          go_ret
          exact ⟨rfl, O4, D4.out, (Sgo.of_below (O := O) B1.out).trans (G2.out.trans (G3.out.trans G4.out))⟩
        · have hR2 : Hid (S.cut s k = ((S.beg 3).str tk, r)) := by show _ = _; rw [hR.out, if_neg (by omega), if_pos (by rw [hr0]; exact k1), hr0]
          rw [hR2.out]
          rw [hr0] at hst
          have h0' : (r != 0) = true := by simpa using k1
          clear h e hr h0 hg hR hR2 hft hr0 k1 hcu
          go_enter Tryz.func49, Tryz.ntmps49
          go_wp2_with (first
            | (go_at_call 75; refine hF.mono ?_; rintro e w1 ⟨rfl, B1⟩; replace B1 := hide B1; have D1 := hide (H.out.below B1.out); obtain ⟨ao, ca, x0⟩ := hlen.out _ D1.out)
            | (go_at_call 70; refine (hb.out _ D1.out).mono ?_; rintro e w2 ⟨rfl, D2, G2⟩; replace D2 := hide D2; replace G2 := hide G2)
            | (go_at_call 73; refine (hst.out _ D2.out).mono ?_; rintro e w3 ⟨rfl, D3, G3⟩; replace D3 := hide D3; replace G3 := hide G3))
          go_ret
          exact ⟨rfl, O, D3.out.e, (Sgo.of_below (O := O) B1.out).trans (G2.out.trans G3.out)⟩
  · have hR : Hid (S.cut s n = (S, (S.find s).2)) := by
      show _ = _
      have q := find_no h0
      unfold DS.cut
      cases hq : S.find s with
      | mk a c => rw [hq] at q; dsimp only at q; subst q; rfl
    rw [hR.out]
    have q := find_no h0
    rw [q] at hF
    simp only [Option.map_none] at hF
    generalize (S.find s).2 = r at *
    have h0' : (r != 0) = true := by simpa using h0
    have H := hide h
    clear h h0 q hR
    go_enter Tryz.func49, Tryz.ntmps49
    go_wp2_with (go_at_call 75; refine hF.mono ?_; rintro e w1 ⟨rfl, B1⟩; replace B1 := hide B1)
    go_ret
    exact ⟨rfl, O, (H.out.below B1.out).e, Sgo.of_below B1.out⟩
end Go.Proofs.YtpbiopmlipchdaaGreat.Dk

/-
  copy of a file.
-/
namespace Go.Proofs.YtpbiopmlipchdaaGreat.Dk
open Go.RowKit Go.Maps Go.Sort Go.Shelf Go.Proofs.YtpbiopmlipchdaaGreat.Nm
open Ix (wp_region_T wpAnyT wpAnyT_take wpAnyT_one wpAnyT_done vac)
/-- A file in memory that is new since B. -/
structure FNew (B : Nat) (w : World) (p : Nat) (f : Fl) (vb vl : Value) : Prop where
  at_ : FlAt w p f vb vl
  lo : ∀ k, FOwn p vb vl k → B ≤ k
end Go.Proofs.YtpbiopmlipchdaaGreat.Dk

/-
  Copies of changes.
-/
namespace Go.Proofs.YtpbiopmlipchdaaGreat.Dk
open Go.RowKit Go.Maps Go.Sort Go.Shelf Go.Proofs.YtpbiopmlipchdaaGreat.Nm
open Ix (wp_region_T wpAnyT wpAnyT_take wpAnyT_one wpAnyT_done vac)
/-- A change's copy, by its own type. -/
def Ch.cf : Ch → Nat
  | .cr _ _ => 161
  | .rn _ _ => 163
  | .rm _ => 165
/-- The change c' is like c; its file, if it brings one, is a new one like c's. -/
def Ch.like (B : Nat) (w : World) (F : Nat → Fl) (c c' : Ch) : Prop := match c with
  | .cr n p => ∃ p' vb' vl', c' = .cr n p' ∧ FNew B w p' (F p) vb' vl'
  | c => c' = c
end Go.Proofs.YtpbiopmlipchdaaGreat.Dk

/-
  A file comes to a disk once; two operations that may come in either order.
-/
namespace Go.Proofs.YtpbiopmlipchdaaGreat.Dk
open Go.RowKit Go.Maps Go.Sort Go.Shelf Go.Proofs.YtpbiopmlipchdaaGreat.Nm
open Ix (wp_region_T wpAnyT wpAnyT_take wpAnyT_one wpAnyT_done vac)
def ptrs (P : List Ch) : List Nat := P.filterMap Ch.ptr
/-- Each file stands in l under one name, or one of P brings it. -/
structure Uqs (l : Dr) (P : List Ch) : Prop where
  inj : ∀ e ∈ l, ∀ e' ∈ l, e.2 = e'.2 → e.1 = e'.1
  ap : ∀ e ∈ l, e.2 ∉ ptrs P
  nd : (ptrs P).Nodup
theorem mem_ddel {l : Dr} {n : List UInt8} {e : List UInt8 × Nat} (h : e ∈ ddel l n) : e ∈ l ∧ e.1 ≠ n := by
  have := List.mem_filter.1 h
  exact ⟨this.1, by simpa using this.2⟩
theorem mem_dput {l : Dr} {n : List UInt8} {p : Nat} {e : List UInt8 × Nat} (h : e ∈ dput l n p) : e = (n, p) ∨ (e ∈ l ∧ e.1 ≠ n) := (dins_mem h).imp id mem_ddel
theorem mem_run {l : Dr} {c : Ch} {e : List UInt8 × Nat} (h : e ∈ c.run l) : (∃ n p, c = .cr n p ∧ e = (n.data.toList, p)) ∨ (∃ f t p, c = .rn f t ∧ (f.data.toList, p) ∈ l ∧ e = (t.data.toList, p)) ∨ (e ∈ l ∧ (∀ f t, c = .rn f t → (get l f.data.toList).isSome → e.1 ≠ f.data.toList)) := by
  cases c with
  | cr n p => rcases mem_dput h with rfl | ⟨h1, _⟩
              · exact .inl ⟨n, p, rfl, rfl⟩
              · exact .inr (.inr ⟨h1, fun f t c => by cases c⟩)
  | rm n => exact .inr (.inr ⟨(mem_ddel h).1, fun f t c => by cases c⟩)
  | rn f t =>
    simp only [Ch.run] at h
    cases hg : get l f.data.toList with
    | none => rw [hg] at h; exact .inr (.inr ⟨h, fun f' t' c hs => by cases c; rw [hg] at hs; cases hs⟩)
    | some p =>
      rw [hg] at h
      obtain ⟨h1, h2⟩ := mem_ddel h
      rcases mem_dput h1 with rfl | ⟨h3, _⟩
      · exact .inr (.inl ⟨f, t, p, rfl, get_mem hg, rfl⟩)
      · exact .inr (.inr ⟨h3, fun f' t' c _ => by cases c; exact h2⟩)
theorem ptrs_cons (c : Ch) (P : List Ch) : ptrs (c :: P) = c.ptr.toList ++ ptrs P := by
  unfold ptrs
  rw [List.filterMap_cons]
  cases c.ptr <;> rfl
theorem get_isSome {l : Dr} {n : List UInt8} {p : Nat} (h : (n, p) ∈ l) : (get l n).isSome = true := by
  unfold get
  rw [Option.isSome_map, List.find?_isSome]
  exact ⟨_, h, by simp⟩
theorem Uqs.step {l : Dr} {c : Ch} {P : List Ch} (h : Uqs l (c :: P)) : Uqs (c.run l) P := by
  have hn := h.nd
  rw [ptrs_cons] at hn
  have hap := h.ap
  simp only [ptrs_cons, List.mem_append, not_or] at hap
  have nd2 : (ptrs P).Nodup := (List.nodup_append.1 hn).2.1
  have hc : ∀ n p, c = .cr n p → p ∉ ptrs P := fun n p e hp => by
    subst e
    exact (List.nodup_append.1 hn).2.2 p (by simp [Ch.ptr]) p hp rfl
  refine ⟨?_, ?_, nd2⟩
  · intro e he e' he' hq
    rcases mem_run he with ⟨n, p, rfl, rfl⟩ | ⟨f, t, p, rfl, hm, rfl⟩ | ⟨h1, h2⟩
    · rcases mem_run he' with ⟨n', p', e, rfl⟩ | ⟨f, t, p', e, _, rfl⟩ | ⟨h1', _⟩
      · cases e; rfl
      · cases e
      · exact ((hap e' h1').1 (by rw [← hq]; simp [Ch.ptr])).elim
    · rcases mem_run he' with ⟨n', p', e, rfl⟩ | ⟨f', t', p', e, hm', rfl⟩ | ⟨h1', h2'⟩
      · cases e
      · cases e; rfl
      · have := h.inj _ hm _ h1' hq
        exact (h2' f t rfl (get_isSome hm) this.symm).elim
    · rcases mem_run he' with ⟨n', p', e, rfl⟩ | ⟨f', t', p', e, hm', rfl⟩ | ⟨h1', h2'⟩
      · subst e
        exact ((hap _ h1).1 (by rw [hq]; simp [Ch.ptr])).elim
      · subst e
        have := h.inj _ h1 _ hm' hq
        exact (h2 f' t' rfl (get_isSome hm') this).elim
      · exact h.inj _ h1 _ h1' hq
  · intro e he
    rcases mem_run he with ⟨n, p, rfl, rfl⟩ | ⟨f, t, p, rfl, hm, rfl⟩ | ⟨h1, _⟩
    · exact hc n p rfl
    · exact (hap _ hm).2
    · exact (hap _ h1).2
theorem Uqs.runs {P : List Ch} : ∀ {l : Dr} (k : Nat), Uqs l P → Uqs (Dk.runs l (P.take k)) (P.drop k) := by
  induction P with
  | nil => intro l k h; simpa [Dk.runs] using h
  | cons c r ih =>
    intro l k h
    cases k with
    | zero => simpa [Dk.runs] using h
    | succ k => exact ih k h.step
theorem Uqs.all {l : Dr} {P : List Ch} (h : Uqs l P) : Uqs (Dk.runs l P) [] := by
  have := h.runs P.length
  rw [List.take_length, List.drop_length] at this
  exact this
theorem Uqs.only {l : Dr} {P : List Ch} (h : Uqs l P) : Uqs l [] := ⟨h.inj, fun _ _ => by simp [ptrs], by simp [ptrs]⟩
theorem Uqs.snoc {l : Dr} {P : List Ch} {c : Ch} (h : Uqs l P) (hc : ∀ p, c.ptr = some p → p ∉ l.map (·.2) ++ ptrs P) : Uqs l (P ++ [c]) := by
  have e : ptrs (P ++ [c]) = ptrs P ++ c.ptr.toList := by
    unfold ptrs
    rw [List.filterMap_append]
    cases hp : c.ptr <;> simp [hp]
  refine ⟨h.inj, fun x hx c' => ?_, ?_⟩
  · rw [e] at c'
    rcases List.mem_append.1 c' with q | q
    · exact h.ap x hx q
    · simp at q
      exact hc _ q (List.mem_append.2 (.inl (List.mem_map.2 ⟨x, hx, rfl⟩)))
  · rw [e, List.nodup_append]
    refine ⟨h.nd, by cases c.ptr <;> simp, fun a ha b hb e => ?_⟩
    simp at hb
    subst e
    exact hc _ hb (List.mem_append.2 (.inr ha))
def DS.uq (S : DS) : Prop := Uqs S.l2 S.P
theorem Uqs.of {S T : DS} (h : S.uq) (e1 : T.l2 = S.l2) (e2 : T.P = S.P) : T.uq := by unfold DS.uq; rw [e1, e2]; exact h
theorem uq_create {S : DS} (h : S.uq) (s : ByteArray) (p : Nat) (hp : p ∉ S.ps) : (S.create s p).1.uq := by
  obtain ⟨e1, e3, e4, _⟩ := hit_rest S 0
  unfold DS.create
  split
  · exact h
  split
  · exact h
  split
  · exact h
  split
  · exact Uqs.of h e3 e4
  · show Uqs (S.hit 0).l2 (S.P ++ [.cr s p])
    rw [e3]
    exact Uqs.snoc h (fun q e => by cases e; exact hp)
theorem uq_remove {S : DS} (h : S.uq) (s : ByteArray) : (S.remove s).1.uq := by
  obtain ⟨e1, e3, e4, _⟩ := hit_rest S 5
  unfold DS.remove
  split
  · exact h
  split
  · exact Uqs.of h e3 e4
  · show Uqs (S.hit 5).l2 (S.P ++ [.rm s])
    rw [e3]
    exact Uqs.snoc h (fun q e => by cases e)
theorem uq_rename {S : DS} (h : S.uq) (s t : ByteArray) : (S.rename s t).1.uq := by
  obtain ⟨e1, e3, e4, _⟩ := hit_rest S 4
  unfold DS.rename
  split
  · exact h
  split
  · exact h
  split
  · exact Uqs.of h e3 e4
  split
  · exact Uqs.of h e3 e4
  · show Uqs (S.hit 4).l2 (S.P ++ [.rn s t])
    rw [e3]
    exact Uqs.snoc h (fun q e => by cases e)
theorem uq_syncDir {S : DS} (h : S.uq) : S.syncDir.1.uq := by
  obtain ⟨e1, e3, e4, _⟩ := hit_rest S 6
  unfold DS.syncDir
  split
  · exact h
  split
  · exact Uqs.of h e3 e4
  · exact Uqs.all h
theorem uq_crash {S : DS} (h : S.uq) (d : Int) (ks : List Kep) : (S.crash d ks).uq := (Uqs.runs (wthn d S.P.length) h).only
theorem uq_append {S : DS} (h : S.uq) (s : ByteArray) (b : List UInt8) : (S.append s b).1.uq := by
  obtain ⟨e1, e3, e4, _⟩ := hit_rest S 1
  unfold DS.append
  split
  · exact h
  · exact Uqs.of h e3 e4
theorem uq_sync {S : DS} (h : S.uq) (s : ByteArray) : (S.sync s).1.uq := by
  obtain ⟨b1, b2, b3, b4, _⟩ := beg_rest S 2
  obtain ⟨e1, e3, e4, _⟩ := str_rest (S.beg 2) 3
  unfold DS.sync
  split
  · exact h
  split
  · exact Uqs.of h b3 b4
  split
  · exact Uqs.of h (e3.trans b3) (e4.trans b4)
  · exact Uqs.of h b3 b4
theorem uq_cut {S : DS} (h : S.uq) (s : ByteArray) (n : Int) : (S.cut s n).1.uq := by
  obtain ⟨b1, b2, b3, b4, _⟩ := beg_rest S 3
  obtain ⟨e1, e3, e4, _⟩ := hit_rest S 3
  unfold DS.cut
  split
  · exact h
  split
  · exact h
  split
  · exact Uqs.of h e3 e4
  · exact Uqs.of h b3 b4
end Go.Proofs.YtpbiopmlipchdaaGreat.Dk

