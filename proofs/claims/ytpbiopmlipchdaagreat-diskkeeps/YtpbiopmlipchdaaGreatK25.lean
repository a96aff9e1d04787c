/-
  The document's disk: List, Tails.
-/
import Derived.Test.YtpbiopmlipchdaaGreatK24
import Derived.Test.YtpbiopmlipchdaaGreatK13
import Derived.Test.YtpbiopmlipchdaaGreatK16
import Derived.Test.YtpbiopmlipchdaaGreatK10
namespace Go.Proofs.YtpbiopmlipchdaaGreat.Re
open Go.RowKit Go.Maps Go.Sort Go.Shelf Go.Proofs.YtpbiopmlipchdaaGreat.Nm Go.Proofs.YtpbiopmlipchdaaGreat.Dk
open Ix (wp_region_T wpAnyT wpAnyT_take wpAnyT_one wpAnyT_done vac)
set_option linter.unusedVariables false
def RB.list (R : RB) : List (List UInt8) × Int := if R.down then ([], 22) else (R.dir.map (·.1), 0)
theorem below_new {w q q' : World} {g : Nat} (hb : Below w.heap.size w q) (h : But (fun k => k = g) q q') (hg : w.heap.size ≤ g) : Below w.heap.size w q' :=
  ⟨h.os.trans hb.os, h.tape.trans hb.tape, h.output.trans hb.output, Nat.le_trans hb.size h.size, fun k hk => (h.block k (Nat.lt_of_lt_of_le hk hb.size) (by omega)).trans (hb.block k hk)⟩
/-- Three stores into one box. -/
theorem three_store {q : World} {g : Nat} {a b c : Value} {T : TypeId} (x y z : Value) (h : q.heap[g]? = some (.cells #[a, b, c] T (0, 0))) :
    (q.cell? ⟨g, 0, none⟩ = some a ∧ q.frozen? ⟨g, 0, none⟩ = false) ∧ ((q.setCell ⟨g, 0, none⟩ x).cell? ⟨g, 1, none⟩ = some b ∧ (q.setCell ⟨g, 0, none⟩ x).frozen? ⟨g, 1, none⟩ = false) ∧
    (((q.setCell ⟨g, 0, none⟩ x).setCell ⟨g, 1, none⟩ y).cell? ⟨g, 2, none⟩ = some c ∧ ((q.setCell ⟨g, 0, none⟩ x).setCell ⟨g, 1, none⟩ y).frozen? ⟨g, 2, none⟩ = false) ∧
    (((q.setCell ⟨g, 0, none⟩ x).setCell ⟨g, 1, none⟩ y).setCell ⟨g, 2, none⟩ z).heap[g]? = some (.cells #[x, y, z] T (0, 0)) ∧ But (fun k => k = g) q (((q.setCell ⟨g, 0, none⟩ x).setCell ⟨g, 1, none⟩ y).setCell ⟨g, 2, none⟩ z) := by
  have h1 := heap_setCell_same q g 0 _ _ x h
  have h2 := heap_setCell_same _ g 1 _ _ y h1
  have h3 := heap_setCell_same _ g 2 _ _ z h2
  have b1 := But.of_grownBy (X := fun k => k = g) (grown_setCell q g 0 x) fun k e => by cases e; rfl
  have b2 := But.of_grownBy (X := fun k => k = g) (grown_setCell (q.setCell ⟨g, 0, none⟩ x) g 1 y) fun k e => by cases e; rfl
  have b3 := But.of_grownBy (X := fun k => k = g) (grown_setCell ((q.setCell ⟨g, 0, none⟩ x).setCell ⟨g, 1, none⟩ y) g 2 z) fun k e => by cases e; rfl
  refine ⟨⟨by simp [World.cell?, h], by simp [World.frozen?, h]⟩, ⟨by simp [World.cell?, h1], by simp [World.frozen?, h1]⟩, ⟨by simp [World.cell?, h2], by simp [World.frozen?, h2]⟩, ?_, (b1.trans b2).trans b3⟩
  rw [h3]
  rfl
def RB.front (R : RB) (n : Int) : Dr := runR R.old (R.pe.take n.toNat)
theorem dir_rm {w : World} {b : Nat} {R : RB} {V : RV} (h : RM w b R V) (hl : ((R.old.length + R.pe.length : Nat) : Int) ≤ 1000000000) (hf : ∀ c ∈ R.pe, -9223372036854775808 ≤ c.fi ∧ c.fi ≤ 9223372036854775807) (n : Int) :
    Calls Tryz.prog 89 #[.pointer (some ⟨b, 0, none⟩), .int .i64 n] w fun e w' => ∃ v', e = .returned v' ∧ En w.heap.size w' v' (R.front n) ∧ Below w.heap.size w w' :=
  dir_ref w b V.vO V.vP R.old R.pe n ((h.cell 3).trans rfl) ((h.cell 4).trans rfl) h.oo.er h.pp.pr hl hf
theorem front_len (R : RB) (n : Int) : (R.front n).length ≤ R.old.length + R.pe.length := by
  have := runR_len R.old (R.pe.take n.toNat)
  rw [List.length_take] at this
  unfold RB.front
  omega
def RB.tlOf (R : RB) (p : Nat) : Nat := match R.F[p]? with | some f => f.1.length - f.2.1.length | none => 0
def RB.tails (R : RB) (n : Int) : Tls := (R.front n).map fun e => (e.1, R.tlOf e.2)
theorem owns_lowerT {w : World} {B C : Nat} {v : Value} {L : Tls} (h : Tl B w v L) (hb : C ≤ B) : Tl C w v L := ⟨h.1, h.2.imp id fun ⟨g, cap, cur, e, hg, r⟩ => ⟨g, cap, cur, e, Nat.le_trans hb hg, r⟩⟩
theorem rtails_def (R : RB) (n : Int) : R.tails n = (R.front n).map fun e => (e.1, R.tlOf e.2) := rfl
set_option maxRecDepth 100000 in
set_option maxHeartbeats 1000000 in
theorem tails_rm {w : World} {b : Nat} {R : RB} {V : RV} (h : RM w b R V) (hl : ((R.old.length + R.pe.length : Nat) : Int) ≤ 1000000000) (hf : ∀ c ∈ R.pe, -9223372036854775808 ≤ c.fi ∧ c.fi ≤ 9223372036854775807) (n : Int) (hgL : ∀ e ∈ R.front n, e.2 < R.F.length) (hla : ∀ f ∈ R.F, f.2.1.length ≤ f.1.length ∧ (f.1.length : Int) ≤ 100000000) :
    Calls Tryz.prog 63 #[.pointer (some ⟨b, 0, none⟩), .int .i64 n] w fun e w' => ∃ v, e = .returned v ∧ Tl w.heap.size w' v (R.tails n) ∧ Below w.heap.size w w' := by
  have hD := dir_rm h hl hf n
  have hLn := front_len R n
  rw [rtails_def R n]
  obtain ⟨L, hL⟩ : ∃ L, Hid (R.front n = L) := ⟨_, rfl⟩
  rw [hL.out] at hD hgL hLn ⊢
  have HM := hide h
  replace hgL := hide hgL
  replace hla := hide hla
  obtain ⟨i0, hi, hz0, hz1, hz2⟩ := info_parts infoTl
  replace hi := hide hi
  obtain ⟨N, hN⟩ : ∃ N, Hid (L.length = N) := ⟨_, rfl⟩
  have hN3 : Hid ((N : Int) ≤ 1000000000) := by show _ ≤ _; rw [← hN.out]; omega
  clear h hf hl hLn
  go_enter Tryz.func63, Tryz.ntmps63
  go_wp2_with (go_at_call 89; refine hD.mono ?_; rintro e w1 ⟨v1, rfl, E1, b1⟩; obtain ⟨da, dc, rfl, dl1, dl2, q3⟩ := E1.tr; replace b1 := hide b1)
  rw [hN.out] at dl1 ⊢
  have M1 := hide (HM.out.below b1.out)
  replace q3 := hide q3
  clear E1 hD
  go_loopw [5, 7] (fun v5 i wr => ∃ k : Nat, i = .int .i64 k ∧ k ≤ N ∧ Hid (Tl w1.heap.size wr v5 ((L.take k).map fun e => (e.1, R.tlOf e.2))) ∧ Hid (Below w1.heap.size w1 wr)) (fun _ i _ => N - (intOf i).toNat)
  case atStart => exact ⟨0, rfl, Nat.zero_le _, Tl.nil _ _, Below.refl _ _⟩
  case round =>
    obtain ⟨k, rfl, hk, hO, hB⟩ := hrel
    by_cases hlt : k < N
    · have i1 : (k : Int) < (N : Int) := by omega
      have hkl : k < L.length := by rw [hN.out]; exact hlt
      obtain ⟨gb, off, rfl, y0, y1⟩ := q3.out k hkl
      rw [← hB.out.cell (p := ⟨gb, off + k * 2, none⟩) (lt_of_cell y0)] at y0
      rw [← hB.out.cell (p := ⟨gb, off + k * 2 + 1, none⟩) (lt_of_cell y1)] at y1
      have hp := hgL.out L[k] (List.getElem_mem hkl)
      have MR := hide (M1.out.below hB.out)
      obtain ⟨g, cap, evf, fl1, fl2, hl, z0, z1, z2⟩ := MR.out.at hp
      have c1 : wr.cell? ⟨b, 1, none⟩ = some V.vF := (MR.out.cell 1).trans rfl
      rw [evf] at c1
      obtain ⟨ta, tc, et, tl1, tl2⟩ := (MR.out.nn _ hp).1.form
      obtain ⟨la, lc, eL, ll1, ll2⟩ := (MR.out.nn _ hp).2.form
      have hlap := hla.out _ (List.getElem_mem hp)
      have hto : R.tlOf L[k].2 = R.F[L[k].2].1.length - R.F[L[k].2].2.1.length := by unfold RB.tlOf; rw [List.getElem?_eq_getElem hp]
      have hsn : Hid ((L.take (k + 1)).map (fun e => (e.1, R.tlOf e.2)) = (L.take k).map (fun e => (e.1, R.tlOf e.2)) ++ [(L[k].1, R.F[L[k].2].1.length - R.F[L[k].2].2.1.length)]) := by show _ = _; rw [List.take_succ_eq_append_getElem hkl, List.map_append, ← hto]; rfl
      have hll : Hid (((L.take k).map (fun e => (e.1, R.tlOf e.2))).length = k) := by show _ = _; rw [List.length_map, List.length_take]; omega
      rw [et] at z0
      rw [eL] at z1
      have ip : (L[k].2 : Int) < (R.F.length : Int) := by omega
      have en : Hid (((R.F[L[k].2].1.length - R.F[L[k].2].2.1.length : Nat) : Int) = (R.F[L[k].2].1.length : Int) - (R.F[L[k].2].2.1.length : Int)) := by show _ = _; have := hlap.1; omega
      have hwr : IntKind.i64.wrap ((R.F[L[k].2].1.length : Int) - (R.F[L[k].2].2.1.length : Int)) = (R.F[L[k].2].1.length : Int) - (R.F[L[k].2].2.1.length : Int) := by rw [IntKind.wrap_i64]; omega
      generalize R.F[L[k].2].1.length = bl at *
      generalize R.F[L[k].2].2.1.length = ll at *
      generalize R.F[L[k].2].2.2 = sp at *
      clear et eL hto hlap
      generalize hpp : L[k].2 = p at *
      generalize hss : L[k].1 = s at *
      generalize (L.take k).map (fun e => (e.1, R.tlOf e.2)) = D at *
      have hes : Hid (encStr s = .string (bsOf s)) := rfl
      generalize bsOf s = t at *
      generalize hFl : R.F.length = fl at *
      clear hpp hss MR hp
      replace hsn := hide hsn
      have KC : Hid (∀ q : World, Below wr.heap.size wr q → q.cell? ⟨b, 1, none⟩ = some (.slice (some ⟨g, 0, none⟩) fl cap) ∧ q.cell? ⟨gb, off + k * 2 + 1, none⟩ = some (.int .i64 (p : Int)) ∧ q.cell? ⟨g, p * 3, none⟩ = some (.slice ta bl tc) ∧ q.cell? ⟨g, p * 3 + 1, none⟩ = some (.slice la ll lc) ∧ q.cell? ⟨g, p * 3 + 2, none⟩ = some (.int .i64 sp) ∧ q.cell? ⟨gb, off + k * 2, none⟩ = some (.string t)) := fun q hq => ⟨by rw [hq.cell (lt_of_cell c1)]; exact c1, by rw [hq.cell (lt_of_cell y1)]; exact y1, by rw [hq.cell (lt_of_cell z0)]; exact z0, by rw [hq.cell (lt_of_cell z1)]; exact z1, by rw [hq.cell (lt_of_cell z2)]; exact z2, by rw [hq.cell (lt_of_cell y0)]; exact y0⟩
      clear c1 y0 y1 z0 z1 z2
      go_upto_region 6 with fail
      have KP : Hid (Below wr.heap.size wr wr.drew) := (Below.refl _ _).drew
      refine wp_region_T (fun q => Below wr.heap.size wr q) 12 (by kernel_rfl) ?_
      generalize wr.drew = q at *
      refine wpAnyT_take (i := 0) (oi := { dst := some 18, op := Op.move (Operand.tmp 0), type := 26, pos := "ref.go:403", after := #[], guard := none }) (v := .pointer (some ⟨b, 0, none⟩)) [1, 2, 3, 9, 10, 12] rfl (by kernel_rfl) (by kernel_rfl) (by kernel_rfl) (by kernel_rfl) (fun _ _ _ h => h) (Or.inl ⟨by rfl, ?_⟩) KP.out ?_
      · intro wq hSw
        obtain ⟨x1, x2, x3, x4, x5, x6⟩ := KC.out wq hSw
        go_simp
      (try simp only [Act.put, List.setIfInBounds_toArray, List.set_cons_zero, List.set_cons_succ])
      refine wpAnyT_take (i := 1) (oi := { dst := some 19, op := Op.nilCheck (Operand.tmp 18), type := 0, pos := "ref.go:403", after := #[{ on := 0, ground := Ground.data }], guard := none }) (v := .pointer (some ⟨b, 0, none⟩)) [2, 3, 9, 10, 12] rfl (by kernel_rfl) (by kernel_rfl) (by kernel_rfl) (by kernel_rfl) (fun _ _ _ h => h) (Or.inl ⟨by rfl, ?_⟩) KP.out ?_
      · intro wq hSw
        obtain ⟨x1, x2, x3, x4, x5, x6⟩ := KC.out wq hSw
        go_simp
      (try simp only [Act.put, List.setIfInBounds_toArray, List.set_cons_zero, List.set_cons_succ])
      refine wpAnyT_take (i := 2) (oi := { dst := some 20, op := Op.fieldAddr 103 (Operand.tmp 19) 1, type := 0, pos := "ref.go:403", after := #[{ on := 1, ground := Ground.data }], guard := none }) (v := .pointer (some ⟨b, 1, none⟩)) [3, 9, 10, 12] rfl (by kernel_rfl) (by kernel_rfl) (by kernel_rfl) (by kernel_rfl) (fun _ _ _ h => h) (Or.inl ⟨by rfl, ?_⟩) KP.out ?_
      · intro wq hSw
        obtain ⟨x1, x2, x3, x4, x5, x6⟩ := KC.out wq hSw
        go_simp
      (try simp only [Act.put, List.setIfInBounds_toArray, List.set_cons_zero, List.set_cons_succ])
      refine wpAnyT_take (i := 3) (oi := { dst := some 21, op := Op.load 99 (Operand.tmp 20), type := 99, pos := "ref.go:403", after := #[{ on := 2, ground := Ground.data }], guard := none }) (v := .slice (some ⟨g, 0, none⟩) fl cap) [9, 10, 12] rfl (by kernel_rfl) (by kernel_rfl) (by kernel_rfl) (by kernel_rfl) (fun _ _ _ h => h) (Or.inl ⟨by rfl, ?_⟩) KP.out ?_
      · intro wq hSw
        obtain ⟨x1, x2, x3, x4, x5, x6⟩ := KC.out wq hSw
        go_simp
      (try simp only [Act.put, List.setIfInBounds_toArray, List.set_cons_zero, List.set_cons_succ])
      refine wpAnyT_take (i := 4) (oi := { dst := some 22, op := Op.move (Operand.tmp 6), type := 100, pos := "ref.go:403", after := #[], guard := none }) (v := .slice (some ⟨gb, off, none⟩) N dc) [6, 7, 8, 9, 10, 12] rfl (by kernel_rfl) (by kernel_rfl) (by kernel_rfl) (by kernel_rfl) (fun _ _ _ h => h) (Or.inl ⟨by rfl, ?_⟩) KP.out ?_
      · intro wq hSw
        obtain ⟨x1, x2, x3, x4, x5, x6⟩ := KC.out wq hSw
        go_simp
      (try simp only [Act.put, List.setIfInBounds_toArray, List.set_cons_zero, List.set_cons_succ])
      refine wpAnyT_take (i := 5) (oi := { dst := some 23, op := Op.move (Operand.tmp 7), type := 3, pos := "ref.go:403", after := #[], guard := none }) (v := .int .i64 (k : Int)) [6, 7, 8, 9, 10, 12] rfl (by kernel_rfl) (by kernel_rfl) (by kernel_rfl) (by kernel_rfl) (fun _ _ _ h => h) (Or.inl ⟨by rfl, ?_⟩) KP.out ?_
      · intro wq hSw
        obtain ⟨x1, x2, x3, x4, x5, x6⟩ := KC.out wq hSw
        go_simp
      (try simp only [Act.put, List.setIfInBounds_toArray, List.set_cons_zero, List.set_cons_succ])
      refine wpAnyT_take (i := 6) (oi := { dst := some 24, op := Op.indexAddr 100 (Operand.tmp 22) (Operand.tmp 23), type := 0, pos := "ref.go:403", after := #[{ on := 4, ground := Ground.data }, { on := 5, ground := Ground.data }], guard := none }) (v := .pointer (some ⟨gb, off + k * 2, none⟩)) [7, 8, 9, 10, 12] rfl (by kernel_rfl) (by kernel_rfl) (by kernel_rfl) (by kernel_rfl) (fun _ _ _ h => h) (Or.inl ⟨by rfl, ?_⟩) KP.out ?_
      · intro wq hSw
        obtain ⟨x1, x2, x3, x4, x5, x6⟩ := KC.out wq hSw
        go_simp
      (try simp only [Act.put, List.setIfInBounds_toArray, List.set_cons_zero, List.set_cons_succ])
      refine wpAnyT_take (i := 7) (oi := { dst := some 25, op := Op.fieldAddr 142 (Operand.tmp 24) 1, type := 0, pos := "ref.go:403", after := #[{ on := 6, ground := Ground.data }], guard := none }) (v := .pointer (some ⟨gb, off + k * 2 + 1, none⟩)) [8, 9, 10, 12] rfl (by kernel_rfl) (by kernel_rfl) (by kernel_rfl) (by kernel_rfl) (fun _ _ _ h => h) (Or.inl ⟨by rfl, ?_⟩) KP.out ?_
      · intro wq hSw
        obtain ⟨x1, x2, x3, x4, x5, x6⟩ := KC.out wq hSw
        go_simp
      (try simp only [Act.put, List.setIfInBounds_toArray, List.set_cons_zero, List.set_cons_succ])
      refine wpAnyT_take (i := 8) (oi := { dst := some 26, op := Op.load 3 (Operand.tmp 25), type := 3, pos := "ref.go:403", after := #[{ on := 7, ground := Ground.data }], guard := none }) (v := .int .i64 (p : Int)) [9, 10, 12] rfl (by kernel_rfl) (by kernel_rfl) (by kernel_rfl) (by kernel_rfl) (fun _ _ _ h => h) (Or.inl ⟨by rfl, ?_⟩) KP.out ?_
      · intro wq hSw
        obtain ⟨x1, x2, x3, x4, x5, x6⟩ := KC.out wq hSw
        go_simp
      (try simp only [Act.put, List.setIfInBounds_toArray, List.set_cons_zero, List.set_cons_succ])
      refine wpAnyT_take (i := 9) (oi := { dst := some 27, op := Op.indexAddr 99 (Operand.tmp 21) (Operand.tmp 26), type := 0, pos := "ref.go:403", after := #[{ on := 3, ground := Ground.data }, { on := 8, ground := Ground.data }], guard := none }) (v := .pointer (some ⟨g, p * 3, none⟩)) [10, 12] rfl (by kernel_rfl) (by kernel_rfl) (by kernel_rfl) (by kernel_rfl) (fun _ _ _ h => h) (Or.inl ⟨by rfl, ?_⟩) KP.out ?_
      · intro wq hSw
        obtain ⟨x1, x2, x3, x4, x5, x6⟩ := KC.out wq hSw
        go_simp
      (try simp only [Act.put, List.setIfInBounds_toArray, List.set_cons_zero, List.set_cons_succ])
      refine wpAnyT_take (i := 10) (oi := { dst := some 28, op := Op.load 138 (Operand.tmp 27), type := 138, pos := "ref.go:403", after := #[{ on := 9, ground := Ground.data }], guard := none }) (v := .agg #[.slice ta bl tc, .slice la ll lc, .int .i64 sp]) [12] rfl (by kernel_rfl) (by kernel_rfl) (by kernel_rfl) (by kernel_rfl) (fun _ _ _ h => h) (Or.inl ⟨by rfl, ?_⟩) KP.out ?_
      · intro wq hSw
        obtain ⟨x1, x2, x3, x4, x5, x6⟩ := KC.out wq hSw
        go_simp
      (try simp only [Act.put, List.setIfInBounds_toArray, List.set_cons_zero, List.set_cons_succ])
      refine wpAnyT_one (i := 11) (o := { dst := some 8, op := Op.alloc 138, type := 0, pos := "ref.go:403", after := #[], guard := none }) (by kernel_rfl) rfl (fun K hK => ?_)
      go_simp
      have B1 : Hid (Below wr.heap.size wr (q.alloc (.cells #[.slice none 0 0, .slice none 0 0, .int .i64 0] 138))) := KP.out.trans ((box_below q _).mono KP.out.size)
      refine hK.out _ _ (fun _ => B1.out) ?_
      clear hK K
      (try simp only [Act.put, List.setIfInBounds_toArray, List.set_cons_zero, List.set_cons_succ])
      have N1 := heap_alloc_new q (.cells #[.slice none 0 0, .slice none 0 0, .int .i64 0] 138)
      have qz : Hid (wr.heap.size ≤ q.heap.size) := KP.out.size
      generalize hnb : q.heap.size = nb at *
      generalize (q.alloc (.cells #[.slice none 0 0, .slice none 0 0, .int .i64 0] 138)) = w2 at *
      obtain ⟨⟨d1, d2⟩, ⟨d3, d4⟩, ⟨d5, d6⟩, N3, U3⟩ := three_store (.slice ta bl tc) (.slice la ll lc) (.int .i64 sp) N1
      have B3 : Hid (Below wr.heap.size wr (((w2.setCell ⟨nb, 0, none⟩ (.slice ta bl tc)).setCell ⟨nb, 1, none⟩ (.slice la ll lc)).setCell ⟨nb, 2, none⟩ (.int .i64 sp))) := below_new B1.out U3 qz.out
      replace N3 := hide N3
      refine wpAnyT_one (i := 12) (o := { dst := none, op := Op.store 138 (Operand.tmp 8) (Operand.tmp 28), type := 0, pos := "ref.go:403", after := #[{ on := 11, ground := Ground.data }, { on := 10, ground := Ground.data }, { on := 0, ground := Ground.phase }, { on := 1, ground := Ground.phase }, { on := 2, ground := Ground.phase }, { on := 3, ground := Ground.phase }, { on := 4, ground := Ground.phase }, { on := 5, ground := Ground.phase }, { on := 6, ground := Ground.phase }, { on := 7, ground := Ground.phase }, { on := 8, ground := Ground.phase }, { on := 9, ground := Ground.phase }, { on := 10, ground := Ground.phase }, { on := 11, ground := Ground.phase }], guard := none }) (by kernel_rfl) rfl (fun K hK => ?_)
      go_simp
      refine hK.out _ _ (vac (by kernel_rfl)) ?_
      clear hK K d1 d2 d3 d4 d5 d6 U3
      (try simp only [Act.put, List.setIfInBounds_toArray, List.set_cons_zero, List.set_cons_succ])
      refine wpAnyT_done (by kernel_rfl) ?_ _
      generalize (((w2.setCell ⟨nb, 0, none⟩ (.slice ta bl tc)).setCell ⟨nb, 1, none⟩ (.slice la ll lc)).setCell ⟨nb, 2, none⟩ (.int .i64 sp)) = w3 at *
      go_upto_region 7 with fail
      have KD : Hid (∀ q : World, Below w3.heap.size w3 q → q.cell? ⟨gb, off + k * 2, none⟩ = some (.string t) ∧ q.cell? ⟨nb, 0, none⟩ = some (.slice ta bl tc) ∧ q.cell? ⟨nb, 1, none⟩ = some (.slice la ll lc)) := fun q hq => by
        have x := (KC.out w3 B3.out).2.2.2.2.2
        obtain ⟨v0, v1, _⟩ := cells3 N3.out
        exact ⟨by rw [hq.cell (lt_of_cell x)]; exact x, by rw [hq.cell (lt_of_cell v0)]; exact v0, by rw [hq.cell (lt_of_cell v1)]; exact v1⟩
      clear KC KP B1 N1 N3
      have KP : Hid (Below w3.heap.size w3 w3.drew) := (Below.refl _ _).drew
      refine wp_region_T (fun q => Below w3.heap.size w3 q) 15 (by kernel_rfl) ?_
      generalize w3.drew = q3w at *
      refine wpAnyT_take (i := 0) (oi := { dst := some 29, op := Op.move (Operand.tmp 5), type := 65, pos := "ref.go:404", after := #[], guard := none }) (v := u5) [15] rfl (by kernel_rfl) (by kernel_rfl) (by kernel_rfl) (by kernel_rfl) (fun _ _ _ h => h) (Or.inl ⟨by rfl, ?_⟩) KP.out ?_
      · intro wq hSw
        obtain ⟨x1, x2, x3⟩ := KD.out wq hSw
        go_simp
      (try simp only [Act.put, List.setIfInBounds_toArray, List.set_cons_zero, List.set_cons_succ])
      refine wpAnyT_take (i := 1) (oi := { dst := some 30, op := Op.move (Operand.tmp 6), type := 100, pos := "ref.go:404", after := #[], guard := none }) (v := .slice (some ⟨gb, off, none⟩) N dc) [3, 4, 5, 13, 14, 15] rfl (by kernel_rfl) (by kernel_rfl) (by kernel_rfl) (by kernel_rfl) (fun _ _ _ h => h) (Or.inl ⟨by rfl, ?_⟩) KP.out ?_
      · intro wq hSw
        obtain ⟨x1, x2, x3⟩ := KD.out wq hSw
        go_simp
      (try simp only [Act.put, List.setIfInBounds_toArray, List.set_cons_zero, List.set_cons_succ])
      refine wpAnyT_take (i := 2) (oi := { dst := some 31, op := Op.move (Operand.tmp 7), type := 3, pos := "ref.go:404", after := #[], guard := none }) (v := .int .i64 (k : Int)) [3, 4, 5, 13, 14, 15] rfl (by kernel_rfl) (by kernel_rfl) (by kernel_rfl) (by kernel_rfl) (fun _ _ _ h => h) (Or.inl ⟨by rfl, ?_⟩) KP.out ?_
      · intro wq hSw
        obtain ⟨x1, x2, x3⟩ := KD.out wq hSw
        go_simp
      (try simp only [Act.put, List.setIfInBounds_toArray, List.set_cons_zero, List.set_cons_succ])
      refine wpAnyT_take (i := 3) (oi := { dst := some 32, op := Op.indexAddr 100 (Operand.tmp 30) (Operand.tmp 31), type := 0, pos := "ref.go:404", after := #[{ on := 1, ground := Ground.data }, { on := 2, ground := Ground.data }], guard := none }) (v := .pointer (some ⟨gb, off + k * 2, none⟩)) [4, 5, 13, 14, 15] rfl (by kernel_rfl) (by kernel_rfl) (by kernel_rfl) (by kernel_rfl) (fun _ _ _ h => h) (Or.inl ⟨by rfl, ?_⟩) KP.out ?_
      · intro wq hSw
        obtain ⟨x1, x2, x3⟩ := KD.out wq hSw
        go_simp
      (try simp only [Act.put, List.setIfInBounds_toArray, List.set_cons_zero, List.set_cons_succ])
      refine wpAnyT_take (i := 4) (oi := { dst := some 33, op := Op.fieldAddr 142 (Operand.tmp 32) 0, type := 0, pos := "ref.go:404", after := #[{ on := 3, ground := Ground.data }], guard := none }) (v := .pointer (some ⟨gb, off + k * 2, none⟩)) [5, 13, 14, 15] rfl (by kernel_rfl) (by kernel_rfl) (by kernel_rfl) (by kernel_rfl) (fun _ _ _ h => h) (Or.inl ⟨by rfl, ?_⟩) KP.out ?_
      · intro wq hSw
        obtain ⟨x1, x2, x3⟩ := KD.out wq hSw
        go_simp
      (try simp only [Act.put, List.setIfInBounds_toArray, List.set_cons_zero, List.set_cons_succ])
      refine wpAnyT_take (i := 5) (oi := { dst := some 34, op := Op.load 9 (Operand.tmp 33), type := 9, pos := "ref.go:404", after := #[{ on := 4, ground := Ground.data }], guard := none }) (v := .string t) [13, 14, 15] rfl (by kernel_rfl) (by kernel_rfl) (by kernel_rfl) (by kernel_rfl) (fun _ _ _ h => h) (Or.inl ⟨by rfl, ?_⟩) KP.out ?_
      · intro wq hSw
        obtain ⟨x1, x2, x3⟩ := KD.out wq hSw
        go_simp
      (try simp only [Act.put, List.setIfInBounds_toArray, List.set_cons_zero, List.set_cons_succ])
      refine wpAnyT_take (i := 6) (oi := { dst := some 35, op := Op.fieldAddr 138 (Operand.tmp 8) 0, type := 0, pos := "ref.go:404", after := #[], guard := none }) (v := .pointer (some ⟨nb, 0, none⟩)) [7, 8, 12, 13, 14, 15] rfl (by kernel_rfl) (by kernel_rfl) (by kernel_rfl) (by kernel_rfl) (fun _ _ _ h => h) (Or.inl ⟨by rfl, ?_⟩) KP.out ?_
      · intro wq hSw
        obtain ⟨x1, x2, x3⟩ := KD.out wq hSw
        go_simp
      (try simp only [Act.put, List.setIfInBounds_toArray, List.set_cons_zero, List.set_cons_succ])
      refine wpAnyT_take (i := 7) (oi := { dst := some 36, op := Op.load 30 (Operand.tmp 35), type := 30, pos := "ref.go:404", after := #[{ on := 6, ground := Ground.data }], guard := none }) (v := .slice ta bl tc) [8, 12, 13, 14, 15] rfl (by kernel_rfl) (by kernel_rfl) (by kernel_rfl) (by kernel_rfl) (fun _ _ _ h => h) (Or.inl ⟨by rfl, ?_⟩) KP.out ?_
      · intro wq hSw
        obtain ⟨x1, x2, x3⟩ := KD.out wq hSw
        go_simp
      (try simp only [Act.put, List.setIfInBounds_toArray, List.set_cons_zero, List.set_cons_succ])
      refine wpAnyT_take (i := 8) (oi := { dst := some 37, op := Op.call { callee := Callee.builtin Builtin.len, args := #[Operand.tmp 36], argTypes := #[30] }, type := 3, pos := "ref.go:404", after := #[{ on := 7, ground := Ground.data }], guard := none }) (v := .int .i64 (bl : Int)) [12, 13, 14, 15] rfl (by kernel_rfl) (by kernel_rfl) (by kernel_rfl) (by kernel_rfl) (fun _ _ _ h => h) (Or.inl ⟨by rfl, ?_⟩) KP.out ?_
      · intro wq hSw
        obtain ⟨x1, x2, x3⟩ := KD.out wq hSw
        go_simp
      (try simp only [Act.put, List.setIfInBounds_toArray, List.set_cons_zero, List.set_cons_succ])
      refine wpAnyT_take (i := 9) (oi := { dst := some 38, op := Op.fieldAddr 138 (Operand.tmp 8) 1, type := 0, pos := "ref.go:404", after := #[], guard := none }) (v := .pointer (some ⟨nb, 1, none⟩)) [10, 11, 12, 13, 14, 15] rfl (by kernel_rfl) (by kernel_rfl) (by kernel_rfl) (by kernel_rfl) (fun _ _ _ h => h) (Or.inl ⟨by rfl, ?_⟩) KP.out ?_
      · intro wq hSw
        obtain ⟨x1, x2, x3⟩ := KD.out wq hSw
        go_simp
      (try simp only [Act.put, List.setIfInBounds_toArray, List.set_cons_zero, List.set_cons_succ])
      refine wpAnyT_take (i := 10) (oi := { dst := some 39, op := Op.load 30 (Operand.tmp 38), type := 30, pos := "ref.go:404", after := #[{ on := 9, ground := Ground.data }], guard := none }) (v := .slice la ll lc) [11, 12, 13, 14, 15] rfl (by kernel_rfl) (by kernel_rfl) (by kernel_rfl) (by kernel_rfl) (fun _ _ _ h => h) (Or.inl ⟨by rfl, ?_⟩) KP.out ?_
      · intro wq hSw
        obtain ⟨x1, x2, x3⟩ := KD.out wq hSw
        go_simp
      (try simp only [Act.put, List.setIfInBounds_toArray, List.set_cons_zero, List.set_cons_succ])
      refine wpAnyT_take (i := 11) (oi := { dst := some 40, op := Op.call { callee := Callee.builtin Builtin.len, args := #[Operand.tmp 39], argTypes := #[30] }, type := 3, pos := "ref.go:404", after := #[{ on := 10, ground := Ground.data }], guard := none }) (v := .int .i64 (ll : Int)) [12, 13, 14, 15] rfl (by kernel_rfl) (by kernel_rfl) (by kernel_rfl) (by kernel_rfl) (fun _ _ _ h => h) (Or.inl ⟨by rfl, ?_⟩) KP.out ?_
      · intro wq hSw
        obtain ⟨x1, x2, x3⟩ := KD.out wq hSw
        go_simp
      (try simp only [Act.put, List.setIfInBounds_toArray, List.set_cons_zero, List.set_cons_succ])
      refine wpAnyT_take (i := 12) (oi := { dst := some 41, op := Op.binOp BinOp.sub 3 (Operand.tmp 37) (Operand.tmp 40) 3, type := 3, pos := "ref.go:404", after := #[{ on := 8, ground := Ground.data }, { on := 11, ground := Ground.data }], guard := none }) (v := .int .i64 ((bl : Int) - (ll : Int))) [13, 14, 15] rfl (by kernel_rfl) (by kernel_rfl) (by kernel_rfl) (by kernel_rfl) (fun _ _ _ h => h) (Or.inl ⟨by rfl, ?_⟩) KP.out ?_
      · intro wq hSw
        obtain ⟨x1, x2, x3⟩ := KD.out wq hSw
        go_simp
      (try simp only [Act.put, List.setIfInBounds_toArray, List.set_cons_zero, List.set_cons_succ])
      refine wpAnyT_take (i := 13) (oi := { dst := some 42, op := Op.build 68 #[(0, Operand.tmp 34), (1, Operand.tmp 41)], type := 68, pos := "ref.go:404", after := #[{ on := 5, ground := Ground.data }, { on := 12, ground := Ground.data }], guard := none }) (v := .agg #[.string t, .int .i64 ((bl : Int) - (ll : Int))]) [14, 15] rfl (by kernel_rfl) (by kernel_rfl) (by kernel_rfl) (by kernel_rfl) (fun _ _ _ h => h) (Or.inl ⟨by rfl, ?_⟩) KP.out ?_
      · intro wq hSw
        obtain ⟨x1, x2, x3⟩ := KD.out wq hSw
        go_simp
      (try simp only [Act.put, List.setIfInBounds_toArray, List.set_cons_zero, List.set_cons_succ])
      have B4 : Hid (Below w3.heap.size w3 (q3w.alloc (.cells #[.string t, .int .i64 ((bl : Int) - (ll : Int))] 68))) := KP.out.trans ((box_below q3w _).mono KP.out.size)
      have N4 := hide (heap_alloc_new q3w (.cells #[.string t, .int .i64 ((bl : Int) - (ll : Int))] 68))
      refine wpAnyT_one (i := 14) (o := { dst := some 43, op := Op.buildSlice 65 1 #[(0, Operand.tmp 42)], type := 65, pos := "ref.go:404", after := #[{ on := 13, ground := Ground.data }], guard := none }) (by kernel_rfl) rfl (fun K hK => ?_)
      go_simp
      refine hK.out _ _ (fun _ => B4.out) ?_
      clear hK K
      (try simp only [Act.put, List.setIfInBounds_toArray, List.set_cons_zero, List.set_cons_succ])
      have W4 : Hid (Below w1.heap.size w1 (q3w.alloc (.cells #[.string t, .int .i64 ((bl : Int) - (ll : Int))] 68))) := hB.out.trans ((B3.out.trans (B4.out.mono B3.out.size)).mono hB.out.size)
      have O4 : Hid (Tl w1.heap.size (q3w.alloc (.cells #[.string t, .int .i64 ((bl : Int) - (ll : Int))] 68)) u5 D) := owns_belowN hO.out (B3.out.trans (B4.out.mono B3.out.size))
      have hz4 := hide W4.out.size
      generalize hne : q3w.heap.size = ne at *
      generalize (q3w.alloc (.cells #[.string t, .int .i64 ((bl : Int) - (ll : Int))] 68)) = w4 at *
      refine wpAnyT_one (i := 15) (o := { dst := some 44, op := Op.call { callee := Callee.builtin Builtin.append, args := #[Operand.tmp 29, Operand.tmp 43], argTypes := #[65, 65] }, type := 65, pos := "ref.go:404", after := #[{ on := 0, ground := Ground.data }, { on := 14, ground := Ground.data }], guard := none }) (by kernel_rfl) rfl (fun K hK => ?_)
      refine step_append_lies _ rfl (.tmp 29) (.tmp 43) 65 rfl w1.heap.size 68 i0 (.agg #[.string ⟨#[]⟩, .int .i64 0]) 2 24 Tryz.underlying65 hi.out hz0 hz1 hz2 rfl (by decide) u5 D.length (tcells D) (by simp [Act.eval]) O4.out ⟨ne, 0, none⟩ 1 1 [.string t, .int .i64 ((bl : Int) - (ll : Int))] (by simp [Act.eval]) rfl (two_new N4.out) (by simp [Value.oneCell']) (by decide) (by have := hll.out; have := hN3.out; unfold maxLen; omega) (by have := hll.out; have := hN3.out; omega) hz4.out w4.heap.size rfl ?_
      intro g2 cap2 w5 ho5 hg5 hat hlt5
      have W5 : Hid (Below w1.heap.size w1 w5) := Below.grown W4.out hg5 hz4.out (fun j hj => (World.ownsRow.lt O4.out j hj).1)
      replace ho5 := hide ho5
      refine hK.out _ _ (vac (by kernel_rfl)) ?_
      clear hK K
      (try simp only [Act.put, List.setIfInBounds_toArray, List.set_cons_zero, List.set_cons_succ])
      refine wpAnyT_one (i := 16) (o := { dst := some 5, op := Op.assign (Operand.tmp 44), type := 65, pos := "ref.go:404", after := #[{ on := 15, ground := Ground.data }, { on := 15, ground := Ground.chain }, { on := 0, ground := Ground.phase }, { on := 1, ground := Ground.phase }, { on := 2, ground := Ground.phase }, { on := 3, ground := Ground.phase }, { on := 4, ground := Ground.phase }, { on := 5, ground := Ground.phase }, { on := 6, ground := Ground.phase }, { on := 7, ground := Ground.phase }, { on := 8, ground := Ground.phase }, { on := 9, ground := Ground.phase }, { on := 10, ground := Ground.phase }, { on := 11, ground := Ground.phase }, { on := 12, ground := Ground.phase }, { on := 13, ground := Ground.phase }, { on := 14, ground := Ground.phase }, { on := 15, ground := Ground.phase }], guard := none }) (by kernel_rfl) rfl (fun K hK => ?_)
      go_simp
      refine hK.out _ _ (vac (by kernel_rfl)) ?_
      clear hK K
      (try simp only [Act.put, List.setIfInBounds_toArray, List.set_cons_zero, List.set_cons_succ])
      refine wpAnyT_done (by kernel_rfl) ?_ _
      go_wp2_with fail
      go_roundw
      case rel =>
        refine ⟨k + 1, by go_num, by omega, ?_, W5⟩
        show Tl _ _ _ _
        unfold Tl
        rw [hsn.out.out, List.length_append, tcells_snoc, hes.out, en.out]
        exact ho5.out
      case measure => simp [intOf]; omega
    · have i1 : ¬ ((k : Int) < (N : Int)) := by omega
      obtain rfl : k = N := by omega
      rw [List.take_of_length_le (by rw [hN.out]; omega)] at hO
      go_wp2_with fail
      go_ret
      exact ⟨_, rfl, owns_lowerT hO.out b1.out.size, b1.out.trans (hB.out.mono b1.out.size)⟩
end Go.Proofs.YtpbiopmlipchdaaGreat.Re

/-
  The document's disk: All, Lasting.
-/
namespace Go.Proofs.YtpbiopmlipchdaaGreat.Re
open Go.RowKit Go.Maps Go.Sort Go.Shelf Go.Proofs.YtpbiopmlipchdaaGreat.Nm Go.Proofs.YtpbiopmlipchdaaGreat.Dk
open Ix (wp_region_T wpAnyT wpAnyT_take wpAnyT_one wpAnyT_done vac)
set_option linter.unusedVariables false
def RB.all (R : RB) : Fil2 := R.dir.map fun e => (e.1, (R.fOf e.2).1)
def RB.lasts (R : RB) : Fil2 := R.old.map fun e => (e.1, (R.fOf e.2).2.1)
end Go.Proofs.YtpbiopmlipchdaaGreat.Re

/-
  Package crash: count, Ways.
-/
namespace Go.Proofs.YtpbiopmlipchdaaGreat.Dk
open Go.RowKit Go.Maps Go.Sort Go.Shelf Go.Proofs.YtpbiopmlipchdaaGreat.Nm
set_option linter.unusedVariables false
def nvals (l : List Nat) : List Value := l.map fun (n : Nat) => Value.int .i64 (n : Int)
/-- Numbers, in memory from B on. -/
def Ns (B : Nat) (w : World) (v : Value) (l : List Nat) : Prop := w.ownsRow B 2 1 v l.length (nvals l)
theorem Ns.nil (B : Nat) (w : World) : Ns B w (.slice none 0 0) [] := World.ownsRow_nil _ _ _ _
theorem Ns.form {B : Nat} {w : World} {v : Value} {l : List Nat} (h : Ns B w v l) : ∃ ao ca, v = .slice ao l.length ca ∧ l.length ≤ ca ∧ ca ≤ 9223372036854775807 := by
  rcases h.2 with ⟨rfl, e⟩ | ⟨g, cap, cur, rfl, _, _, a, b, _⟩
  · exact ⟨_, _, by rw [e], by omega, by omega⟩
  · exact ⟨_, _, rfl, a, by unfold maxLen at b; omega⟩
theorem Ns.at {B : Nat} {w : World} {v : Value} {l : List Nat} (h : Ns B w v l) {i n : Nat} (hi : l[i]? = some n) : ∃ g cap, v = .slice (some ⟨g, 0, none⟩) l.length cap ∧ w.cell? ⟨g, i, none⟩ = some (.int .i64 (n : Int)) := by
  have h0 := h
  have hl := List.getElem?_eq_some_iff.1 hi
  rcases h.2 with ⟨_, e⟩ | ⟨g, cap, cur, rfl, _, hh, a, b, _⟩
  · have := hl.1; omega
  · refine ⟨g, cap, rfl, ?_⟩
    have := World.ownsRow.cells h0 (g := g) rfl i (.int .i64 (n : Int)) (by unfold nvals; rw [List.getElem?_map, hi]; rfl)
    rw [addr_add] at this
    simpa using this
theorem Ns.below {B : Nat} {w w' : World} {v : Value} {l : List Nat} (h : Ns B w v l) (hb : Below w.heap.size w w') : Ns B w' v l := owns_belowN h hb
/-- count, by data. -/
def DS.cnt (S : DS) : List Nat × Int × Int := if S.ways ≤ M40 then (S.cnts (S.P.length + 1), (S.ways : Int), 0) else ([], 0, 9)
end Go.Proofs.YtpbiopmlipchdaaGreat.Dk

/-
  Package crash: Ways, At, After.
-/
namespace Go.Proofs.YtpbiopmlipchdaaGreat.Dk
open Go.RowKit Go.Maps Go.Sort Go.Shelf Go.Proofs.YtpbiopmlipchdaaGreat.Nm
set_option linter.unusedVariables false
theorem Ks.form {B : Nat} {w : World} {v : Value} {ds : List Nat} (h : Ks B w v ds) : ∃ ao n ca, v = .slice ao n ca := by
  rcases h.2 with ⟨rfl, e⟩ | ⟨g, cap, cur, rfl, _⟩
  · exact ⟨_, _, _, rfl⟩
  · exact ⟨_, _, _, rfl⟩
end Go.Proofs.YtpbiopmlipchdaaGreat.Dk

/-
  The document's disk: what a loss of power leaves.
-/
namespace Go.Proofs.YtpbiopmlipchdaaGreat.Re
open Go.RowKit Go.Maps Go.Sort Go.Shelf Go.Proofs.YtpbiopmlipchdaaGreat.Nm Go.Proofs.YtpbiopmlipchdaaGreat.Dk
set_option linter.unusedVariables false
/-- What is left of a file. -/
def crD (f : FD) (k : Kep) : FD := (crF (flD f) k.1 k.2, crF (flD f) k.1 k.2, 0)
/-- The first k files of L behind the loss. -/
def crR (L : Dr) (ks : List Kep) : Nat → RB → RB
  | 0, R => R
  | k + 1, R => (crR L ks k R).one ((L[k]?.map (·.2)).getD 0) (crD ((crR L ks k R).fOf ((L[k]?.map (·.2)).getD 0)) (ks.getD k (0, [])))
def RB.reset (R : RB) (L : Dr) : RB := { R with dir := L, old := L, pe := [], fs := [], down := false }
def RB.crash (R : RB) (d : Int) (ks : List Kep) : RB := (crR (R.front d) ks (R.front d).length R).reset (R.front d)
theorem crR_len (L : Dr) (ks : List Kep) (R : RB) : ∀ k, (crR L ks k R).F.length = R.F.length
  | 0 => rfl
  | k + 1 => by
    show ((crR L ks k R).F.set _ _).length = _
    rw [List.length_set]
    exact crR_len L ks R k
/-- Blocks behind the end of Crash. -/
def RV.reset (V : RV) (vd vo : Value) : RV := { V with vD := vd, vO := vo, vP := .slice none 0 0, vA := .slice none 0 0 }
theorem reset_cs (R : RB) (V : RV) (L : Dr) (vd vo : Value) : (((((R.cs V).setIfInBounds 2 vd).setIfInBounds 3 vo).setIfInBounds 4 (.slice none 0 0)).setIfInBounds 5 (.slice none 0 0)).setIfInBounds 16 (.bool false) = (R.reset L).cs (V.reset vd vo) := by simp [RB.cs, RB.reset, RV.reset]
theorem blk_reset (b : Nat) (V : RV) (vd vo : Value) (x : Nat) (h2 : x ≠ 2) (h3 : x ≠ 3) (h4 : x ≠ 4) (h5 : x ≠ 5) : blk b (V.reset vd vo) x = blk b V x := by
  match x with
  | 0 => rfl
  | 1 => rfl
  | 2 => exact absurd rfl h2
  | 3 => exact absurd rfl h3
  | 4 => exact absurd rfl h4
  | 5 => exact absurd rfl h5
  | n + 6 => rfl
theorem RM.reset {wr w' : World} {b : Nat} {R : RB} {V : RV} {vd vo : Value} {L : Dr} (h : RM wr b R V) (hd : En 0 w' vd L) (hdn : ∀ k, vd.ownBlock = some k → (∀ x, blk b V x ≠ some k) ∧ k < wr.heap.size) (ho : En wr.heap.size w' vo L) (hb : But (fun k => k = b) wr w')
    (hbox : w'.heap[b]? = some (.cells ((((((R.cs V).setIfInBounds 2 vd).setIfInBounds 3 vo).setIfInBounds 4 (.slice none 0 0)).setIfInBounds 5 (.slice none 0 0)).setIfInBounds 16 (.bool false)) TRD (0, 0))) : RM w' b (R.reset L) (V.reset vd vo) := by
  have nx : ∀ x, x ≠ 0 → ∀ k, blk b V x = some k → ¬ k = b := fun x hx k hk c => h.ds 0 x (Ne.symm hx) b rfl (by rw [hk, c])
  have hsz := hb.size
  have no4 : ∀ k, blk b (V.reset vd vo) 4 ≠ some k := fun k c => by simp [blk, RV.reset, Value.ownBlock] at c
  have no5 : ∀ k, blk b (V.reset vd vo) 5 ≠ some k := fun k c => by simp [blk, RV.reset, Value.ownBlock] at c
  have key : ∀ x y, x ≠ y → (x = 2 ∨ x = 3) → ∀ k, blk b (V.reset vd vo) x = some k → blk b (V.reset vd vo) y ≠ some k := fun x y hxy hx k h1 h2 => by
    by_cases y4 : y = 4
    · subst y4; exact no4 k h2
    · by_cases y5 : y = 5
      · subst y5; exact no5 k h2
      · rcases hx with rfl | rfl
        · by_cases y3 : y = 3
          · subst y3
            have q1 := (ho.lt k h2).1
            have q2 := (hdn k h1).2
            omega
          · rw [blk_reset b V vd vo y (Ne.symm hxy) y3 y4 y5] at h2
            exact (hdn k h1).1 y h2
        · by_cases y2 : y = 2
          · subst y2
            have q1 := (ho.lt k h1).1
            have q2 := (hdn k h2).2
            omega
          · rw [blk_reset b V vd vo y y2 (Ne.symm hxy) y4 y5] at h2
            have q1 := (ho.lt k h1).1
            have q2 := h.lt y k h2
            omega
  refine ⟨by rw [← reset_cs]; exact hbox, hd, owns_lower2 ho (Nat.zero_le _), World.ownsRow_nil _ _ _ _, World.ownsRow_nil _ _ _ _, ownsRow_but h.ff hb (nx 1 (by omega)), h.ln, fun i hi => ?_, ?_, ?_⟩
  · have hi' : i < R.F.length := hi
    have hl' : i < V.T.length := by rw [h.ln]; exact hi'
    obtain ⟨a, q⟩ := h.nn i hi'
    exact ⟨Oc.but a hb (fun k hk => nx (2 * i + 6) (by omega) k (by rw [blk_N b V hl']; exact hk)), Oc.but q hb (fun k hk => nx (2 * i + 7) (by omega) k (by rw [blk_L b V hl']; exact hk))⟩
  · intro x y hxy k h1 h2
    by_cases x2 : x = 2 ∨ x = 3
    · exact key x y hxy x2 k h1 h2
    · by_cases y2 : y = 2 ∨ y = 3
      · exact key y x (Ne.symm hxy) y2 k h2 h1
      · by_cases x4 : x = 4
        · subst x4; exact no4 k h1
        · by_cases x5 : x = 5
          · subst x5; exact no5 k h1
          · by_cases y4 : y = 4
            · subst y4; exact no4 k h2
            · by_cases y5 : y = 5
              · subst y5; exact no5 k h2
              · rw [blk_reset b V vd vo x (fun e => x2 (.inl e)) (fun e => x2 (.inr e)) x4 x5] at h1
                rw [blk_reset b V vd vo y (fun e => y2 (.inl e)) (fun e => y2 (.inr e)) y4 y5] at h2
                exact h.ds x y hxy k h1 h2
  · intro x k hk
    by_cases x2 : x = 2
    · subst x2; have := (hdn k hk).2; omega
    · by_cases x3 : x = 3
      · subst x3; exact (ho.lt k hk).2
      · by_cases x4 : x = 4
        · subst x4; exact absurd hk (no4 k)
        · by_cases x5 : x = 5
          · subst x5; exact absurd hk (no5 k)
          · rw [blk_reset b V vd vo x x2 x3 x4 x5] at hk
            have := h.lt x k hk
            omega
end Go.Proofs.YtpbiopmlipchdaaGreat.Re

/-
  The document's disk: Crash.
-/
namespace Go.Proofs.YtpbiopmlipchdaaGreat.Re
open Go.RowKit Go.Maps Go.Sort Go.Shelf Go.Proofs.YtpbiopmlipchdaaGreat.Nm Go.Proofs.YtpbiopmlipchdaaGreat.Dk
set_option linter.unusedVariables false
end Go.Proofs.YtpbiopmlipchdaaGreat.Re

