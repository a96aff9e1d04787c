/-
  The document's disk: its files, as they are read; room.
-/
import Derived.Test.YtjehpijjneghpaaGreatK22
namespace Go.Proofs.YtjehpijjneghpaaGreat.Re
open Go.RowKit Go.Maps Go.Sort Go.Shelf Go.Proofs.YtjehpijjneghpaaGreat.Nm Go.Proofs.YtjehpijjneghpaaGreat.Dk
set_option linter.unusedVariables false
theorem fcells_at : ∀ (F : List (List UInt8 × List UInt8 × Int)) (T : List (Value × Value)), T.length = F.length → ∀ i (h : i < F.length) (h' : i < T.length), (fcells F T)[i * 3]? = some T[i].1 ∧ (fcells F T)[i * 3 + 1]? = some T[i].2 ∧ (fcells F T)[i * 3 + 2]? = some (.int .i64 F[i].2.2) := by
  intro F
  induction F with
  | nil => intro T _ i h; simp at h
  | cons e r ih =>
    intro T hT i h h'
    cases T with
    | nil => simp at h'
    | cons t q =>
      have : fcells (e :: r) (t :: q) = [t.1, t.2, .int .i64 e.2.2] ++ fcells r q := by simp [fcells]
      rw [this]
      cases i with
      | zero => exact ⟨rfl, rfl, rfl⟩
      | succ i =>
        obtain ⟨a, b, c⟩ := ih q (by simpa using hT) i (by simpa using h) (by simpa using h')
        rw [show (i + 1) * 3 = i * 3 + 1 + 1 + 1 by omega]
        simp only [List.cons_append, List.nil_append, List.getElem?_cons_succ, List.getElem_cons_succ]
        exact ⟨a, b, c⟩
theorem RM.at {w : World} {b : Nat} {R : RB} {V : RV} (h : RM w b R V) {i : Nat} (hi : i < R.F.length) : ∃ g cap, V.vF = .slice (some ⟨g, 0, none⟩) R.F.length cap ∧ R.F.length ≤ cap ∧ cap ≤ 9223372036854775807 ∧ ∃ hl : i < V.T.length, w.cell? ⟨g, i * 3, none⟩ = some V.T[i].1 ∧ w.cell? ⟨g, i * 3 + 1, none⟩ = some V.T[i].2 ∧ w.cell? ⟨g, i * 3 + 2, none⟩ = some (.int .i64 R.F[i].2.2) := by
  have hl : i < V.T.length := by rw [h.ln]; exact hi
  obtain ⟨t0, t1, t2⟩ := fcells_at R.F V.T h.ln i hi hl
  have hff := h.ff
  rcases hff.2 with ⟨e, e2⟩ | ⟨g, cap, cur, e, _, _, a, q, _⟩
  · omega
  · have h0 := hff
    rw [e] at h0
    have q0 := World.ownsRow.cells h0 (g := g) rfl (i * 3) _ t0
    have q1 := World.ownsRow.cells h0 (g := g) rfl (i * 3 + 1) _ t1
    have q2 := World.ownsRow.cells h0 (g := g) rfl (i * 3 + 2) _ t2
    rw [addr_add, Nat.zero_add] at q0 q1 q2
    exact ⟨g, cap, e, a, by unfold maxLen at q; omega, hl, q0, q1, q2⟩
def RB.lenOf (R : RB) (p : Nat) : Nat := match R.F[p]? with | some f => f.1.length | none => 0
def RB.sum (R : RB) (k : Nat) : Nat := ((R.dir.take k).map fun e => R.lenOf e.2).sum
def RB.room (R : RB) : Int := max (R.most - (R.sum R.dir.length : Int)) 0
set_option maxRecDepth 100000 in
set_option maxHeartbeats 1000000 in
theorem room_rm {w : World} {b : Nat} {R : RB} {V : RV} (h : RM w b R V) (hg : ∀ e ∈ R.dir, e.2 < R.F.length) (m0 : 0 ≤ R.most) (m1 : R.most ≤ 16777216) (hz : ((R.sum R.dir.length : Nat) : Int) ≤ 9000000000000000) :
    Calls Tryz.prog 100 #[.pointer (some ⟨b, 0, none⟩)] w fun e w' => e = .returned (.int .i64 R.room) ∧ Below w.heap.size w w' := by
  have c0 : w.cell? ⟨b, 0, none⟩ = some (.int .i64 R.most) := (h.cell 0).trans rfl
  have c1 : w.cell? ⟨b, 1, none⟩ = some V.vF := (h.cell 1).trans rfl
  have c2 : w.cell? ⟨b, 2, none⟩ = some V.vD := (h.cell 2).trans rfl
  obtain ⟨da, dc, hvd, dl1, dl2, q3⟩ := h.dd.tr
  rw [hvd] at c2
  obtain ⟨N, hN⟩ : ∃ N, Hid (R.dir.length = N) := ⟨_, rfl⟩
  rw [hN.out] at c2 dl1
  replace q3 := hide q3
  obtain ⟨X, hX⟩ : ∃ X, Hid (R.room = X) := ⟨_, rfl⟩
  rw [hX.out]
  have HM := hide h
  replace hg := hide hg
  replace hz := hide hz
  have hmono : Hid (∀ k, k ≤ N → (R.sum k : Int) ≤ 9000000000000000) := fun k hk => by
    have h1 := hz.out
    have : R.sum k ≤ R.sum R.dir.length := by
      unfold RB.sum
      rw [List.take_length]
      conv => rhs; rw [← List.take_append_drop k R.dir, List.map_append, List.sum_append]
      omega
    omega
  have hvf : ∃ fa fn fc, V.vF = .slice fa fn fc := by rcases h.ff.2 with ⟨e, _⟩ | ⟨g, cap, cur, e, _⟩ <;> exact ⟨_, _, _, e⟩
  obtain ⟨fa, fn, fc, hvf⟩ := hvf
  rw [hvf] at c1
  have KC : Hid (∀ q, Below w.heap.size w q → q.cell? ⟨b, 1, none⟩ = some (.slice fa fn fc) ∧ q.cell? ⟨b, 2, none⟩ = some (.slice da N dc)) := fun q hq => ⟨by rw [hq.cell (lt_of_cell c1)]; exact c1, by rw [hq.cell (lt_of_cell c2)]; exact c2⟩
  clear h
  go_enter Tryz.func100, Tryz.ntmps100
  go_wp2_with fail
  go_loopw [3, 4] (fun v3 v4 wr => ∃ (k : Nat) (x : Int), v4 = .int .i64 k ∧ k ≤ N ∧ v3 = .int .i64 x ∧ Hid (x = R.most - (R.sum k : Int)) ∧ Hid (Below w.heap.size w wr)) (fun _ v4 _ => N - (intOf v4).toNat)
  case atStart => exact ⟨0, R.most, rfl, Nat.zero_le _, rfl, by show _ = _; simp [RB.sum], Below.refl _ _⟩
  case round =>
    obtain ⟨k, x, rfl, hk, rfl, ex, hW⟩ := hrel
    clear c1 c2
    obtain ⟨c1, c2⟩ := KC.out wr hW.out
    by_cases hlt : k < N
    · have i1 : (k : Int) < (N : Int) := by omega
      have hkl : k < R.dir.length := by rw [hN.out]; exact hlt
      obtain ⟨gb, off, rfl, y0, y1⟩ := q3.out k hkl
      rw [← hW.out.cell (p := ⟨gb, off + k * 2 + 1, none⟩) (lt_of_cell y1)] at y1
      have hp := hg.out R.dir[k] (List.getElem_mem hkl)
      have MR := HM.out.below hW.out
      obtain ⟨g, cap, evf, fl1, fl2, hl, z0, _, _⟩ := MR.at hp
      rw [hvf] at evf
      simp only [Value.slice.injEq] at evf
      obtain ⟨rfl, rfl, rfl⟩ := evf
      have hs1 : Hid (R.sum (k + 1) = R.sum k + R.lenOf R.dir[k].2) := by show _ = _; unfold RB.sum; rw [List.take_succ_eq_append_getElem hkl, List.map_append, List.sum_append]; simp
      have hlo : R.lenOf R.dir[k].2 = R.F[R.dir[k].2].1.length := by unfold RB.lenOf; rw [List.getElem?_eq_getElem hp]
      obtain ⟨ta, tc, et, tl1, tl2⟩ := (MR.nn _ hp).1.form
      have hm1 := hmono.out (k + 1) hlt
      rw [et, ← hlo] at z0
      rw [← hlo] at tl1
      clear y0
      generalize hpp : R.dir[k].2 = p at *
      have ip : (p : Int) < (R.F.length : Int) := by omega
      obtain ⟨tl, htl⟩ : ∃ tl, Hid (R.lenOf p = tl) := ⟨_, rfl⟩
      rw [htl.out] at z0 tl1 hs1
      have hxb : -9000000000000000 ≤ x - (tl : Int) ∧ x - (tl : Int) ≤ 16777216 := by have h1 := ex.out; have h2 := hs1.out; omega
      obtain ⟨hx1, hx2⟩ := hxb
      have hnx : Hid (x - (tl : Int) = R.most - (R.sum (k + 1) : Int)) := by show _ = _; have h1 := ex.out; have h2 := hs1.out; omega
      clear MR et hlo hm1 hpp
      go_wp2_with fail
      go_quiet (fail)
      have B3 : Hid (Below w.heap.size w (wr.drewN nq)) := hW.out.trans ((Qt.below ⟨nq, rfl⟩ _).mono hW.out.size)
      generalize wr.drewN nq = wy at *
      go_wp2_with fail
      go_roundw
      case rel => exact ⟨k + 1, x - (tl : Int), by go_num, by omega, by go_num, hnx, B3⟩
      case measure => simp [intOf]; omega
    · have i1 : ¬ ((k : Int) < (N : Int)) := by omega
      obtain rfl : k = N := by omega
      have hfin : Hid (X = max x 0) := by show _ = _; rw [← hX.out, RB.room, hN.out, ex.out]
      go_wp2_with fail
      all_goals
        go_ret
        refine ⟨?_, hW.out⟩
        rw [hfin.out]
        show Ending.returned (Value.int .i64 _) = _
        first | rfl | (congr 2; omega)
end Go.Proofs.YtjehpijjneghpaaGreat.Re
namespace Go.Proofs.YtjehpijjneghpaaGreat.Re
open Go.RowKit Go.Maps Go.Sort Go.Shelf Go.Proofs.YtjehpijjneghpaaGreat.Nm Go.Proofs.YtjehpijjneghpaaGreat.Dk
set_option linter.unusedVariables false
def RB.pOf (R : RB) (s : ByteArray) : Nat := (findN R.dir s.data.toList).toNat
def RB.size (R : RB) (s : ByteArray) : Int × Int := if refN R.down R.dir s true ≠ 0 then (0, refN R.down R.dir s true) else ((R.lenOf (R.pOf s) : Int), 0)
theorem refN_there {R : RB} {s : ByteArray} (hg : ∀ e ∈ R.dir, e.2 < R.F.length) (h : refN R.down R.dir s true = 0) : findN R.dir s.data.toList = (R.pOf s : Int) ∧ R.pOf s < R.F.length ∧ Dk.get R.dir s.data.toList = some (R.pOf s) := by
  unfold refN at h
  split at h
  · cases h
  · split at h
    · split at h
      · cases h
      · rename_i q
        simp only [Bool.true_and] at q
        cases hp : Dk.get R.dir s.data.toList with
        | none => rw [hp] at q; simp at q
        | some p =>
          have e : findN R.dir s.data.toList = (p : Int) := by unfold findN; rw [hp]
          have e2 : R.pOf s = p := by unfold RB.pOf; rw [e]; exact Int.toNat_natCast p
          rw [e2]
          exact ⟨e, hg _ (get_mem hp), rfl⟩
    · cases h
set_option maxRecDepth 100000 in
set_option maxHeartbeats 1000000 in
theorem size_rm {w : World} {b : Nat} {R : RB} {V : RV} (h : RM w b R V) (hg : ∀ e ∈ R.dir, e.2 < R.F.length) (s : ByteArray) (hs : s.size ≤ maxLen) :
    Calls Tryz.prog 57 #[.pointer (some ⟨b, 0, none⟩), .string s] w fun e w' => e = .returned (.tuple #[.int .i64 (R.size s).1, .int .i64 (R.size s).2]) ∧ Below w.heap.size w w' := by
  have hR := refused_rm h s hs true
  obtain ⟨X, hX⟩ : ∃ X, Hid (R.size s = X) := ⟨_, rfl⟩
  rw [hX.out]
  by_cases h0 : refN R.down R.dir s true = 0
  · rw [h0] at hR
    obtain ⟨hf, hp, _⟩ := refN_there hg h0
    have hFi : Hid (∀ q, RM q b R V → Calls Tryz.prog 96 #[V.vD, .string s] q fun e w' => e = .returned (.int .i64 (R.pOf s : Int)) ∧ w' = q) := fun q hq => by
      have := find_ref q V.vD R.dir s hq.dd.tr
      rw [hf] at this
      exact this
    have c1 : w.cell? ⟨b, 1, none⟩ = some V.vF := (h.cell 1).trans rfl
    have c2 : w.cell? ⟨b, 2, none⟩ = some V.vD := (h.cell 2).trans rfl
    have hvd : ∃ da dn dc, V.vD = .slice da dn dc := by rcases h.dd.form with ⟨e, _⟩ | ⟨g, cap, e, _⟩ <;> exact ⟨_, _, _, e⟩
    obtain ⟨da, dn, dc, hvd⟩ := hvd
    obtain ⟨g, cap, hvf, fl1, fl2, hl, z0, _, _⟩ := h.at hp
    obtain ⟨ta, tc, et, tl1, tl2⟩ := (h.nn _ hp).1.form
    have hlo : R.lenOf (R.pOf s) = R.F[R.pOf s].1.length := by unfold RB.lenOf; rw [List.getElem?_eq_getElem hp]
    rw [et, ← hlo] at z0
    rw [← hlo] at tl1
    rw [hvf] at c1
    rw [hvd] at c2 hFi
    have e1 : Hid (X = ((R.lenOf (R.pOf s) : Int), 0)) := by show _ = _; rw [← hX.out]; unfold RB.size; rw [if_neg (by rw [h0]; simp)]
    obtain ⟨p, hpp⟩ : ∃ p, Hid (R.pOf s = p) := ⟨_, rfl⟩
    obtain ⟨tl, htl⟩ : ∃ tl, Hid (R.lenOf p = tl) := ⟨_, rfl⟩
    rw [hpp.out] at z0 tl1 e1 hFi hp
    rw [htl.out] at z0 tl1 e1
    have ip : (p : Int) < (R.F.length : Int) := by omega
    have HM := hide h
    clear h hg et hlo hf
    go_enter Tryz.func57, Tryz.ntmps57
    go_wp2_with (go_at_call 95; refine hR.mono ?_; rintro e w1 ⟨rfl, e1'⟩; subst w1)
    go_quiet ((go_at_call 96; exact Calls.quiet_of_same (hFi.out _ (HM.out.below (Qt.below ⟨_, rfl⟩ _)))))
    go_wp2_with fail
    go_ret2
    rw [e1.out]
    exact ⟨rfl, Qt.below ⟨nq, rfl⟩ _⟩
  · have e1 : Hid (X = (0, refN R.down R.dir s true)) := by show _ = _; rw [← hX.out]; unfold RB.size; rw [if_pos h0]
    clear h hg
    generalize refN R.down R.dir s true = rn at *
    go_enter Tryz.func57, Tryz.ntmps57
    go_wp2_with (go_at_call 95; refine hR.mono ?_; rintro e w1 ⟨rfl, e1'⟩; subst w1)
    go_ret2
    rw [e1.out]
    exact ⟨rfl, Below.refl _ _⟩
end Go.Proofs.YtjehpijjneghpaaGreat.Re
namespace Go.Proofs.YtjehpijjneghpaaGreat.Re
open Go.RowKit Go.Maps Go.Sort Go.Shelf Go.Proofs.YtjehpijjneghpaaGreat.Nm Go.Proofs.YtjehpijjneghpaaGreat.Dk
set_option linter.unusedVariables false
def RB.byOf (R : RB) (p : Nat) : List UInt8 := match R.F[p]? with | some f => f.1 | none => []
theorem byOf_len (R : RB) (p : Nat) : (R.byOf p).length = R.lenOf p := by unfold RB.byOf RB.lenOf; cases R.F[p]? <;> rfl
set_option maxRecDepth 100000 in
set_option maxHeartbeats 1000000 in
theorem read_rm_ok {w : World} {b : Nat} {R : RB} {V : RV} (h : RM w b R V) (hg : ∀ e ∈ R.dir, e.2 < R.F.length) (s : ByteArray) (hs : s.size ≤ maxLen) (o n : Nat) (h0 : refN R.down R.dir s true = 0) (hon : o + n ≤ R.lenOf (R.pOf s)) (hz : (R.lenOf (R.pOf s) : Int) ≤ 1000000000) :
    Calls Tryz.prog 56 #[.pointer (some ⟨b, 0, none⟩), .string s, .int .i64 (o : Int), .int .i64 (n : Int)] w fun e w' => ∃ v, e = .returned (.tuple #[v, .int .i64 0]) ∧ Ob w.heap.size w' v (((R.byOf (R.pOf s)).drop o).take n) ∧ Below w.heap.size w w' := by
  have hR := refused_rm h s hs true
  rw [h0] at hR
  obtain ⟨hf, hp, _⟩ := refN_there hg h0
  have hFi : Hid (∀ q, RM q b R V → Calls Tryz.prog 96 #[V.vD, .string s] q fun e w' => e = .returned (.int .i64 (R.pOf s : Int)) ∧ w' = q) := fun q hq => by
    have := find_ref q V.vD R.dir s hq.dd.tr
    rw [hf] at this
    exact this
  have c1 : w.cell? ⟨b, 1, none⟩ = some V.vF := (h.cell 1).trans rfl
  have c2 : w.cell? ⟨b, 2, none⟩ = some V.vD := (h.cell 2).trans rfl
  have hvd : ∃ da dn dc, V.vD = .slice da dn dc := by rcases h.dd.form with ⟨e, _⟩ | ⟨g, cap, e, _⟩ <;> exact ⟨_, _, _, e⟩
  obtain ⟨da, dn, dc, hvd⟩ := hvd
  obtain ⟨g, cap, hvf, fl1, fl2, hl, z0, _, _⟩ := h.at hp
  have hby : R.byOf (R.pOf s) = R.F[R.pOf s].1 := by unfold RB.byOf; rw [List.getElem?_eq_getElem hp]
  have hOb := (h.nn _ hp).1
  rw [← hby] at hOb
  obtain ⟨ta, tc, et, tl1, tl2⟩ := hOb.form
  rw [et] at z0 hOb
  obtain ⟨vs, hS, VS⟩ := run_sub hOb.sl o n (by rw [byOf_len]; exact hon)
  have KR : Hid (∀ q, Below w.heap.size w q → ∃ v' w', (Builtin.append_ #[30, 30] 30 #[.slice none 0 0, vs]).run Tryz.prog q = .ok v' w' ∧ Ob q.heap.size w' v' (((R.byOf (R.pOf s)).drop o).take n) ∧ Below q.heap.size q w') := fun q hq => by
    obtain ⟨v1, w1, r1, Q1, G1, _⟩ := run_app (Ob.nil q.heap.size q) (Below.sl hq VS) (by have := byOf_len R (R.pOf s); simp; omega) (Nat.le_refl _) 30
    rw [List.nil_append] at Q1
    exact ⟨v1, w1, r1, Q1, (Below.refl _ _).grown G1 (Nat.le_refl _) (fun k hk => by simp [Value.ownBlock] at hk)⟩
  generalize ((R.byOf (R.pOf s)).drop o).take n = L at *
  rw [byOf_len] at z0 tl1 hS
  rw [hvf] at c1
  rw [hvd] at c2 hFi
  obtain ⟨p, hpp⟩ : ∃ p, Hid (R.pOf s = p) := ⟨_, rfl⟩
  obtain ⟨N, htl⟩ : ∃ N, Hid (R.lenOf p = N) := ⟨_, rfl⟩
  rw [hpp.out] at z0 tl1 hFi hp hS hon hz
  rw [htl.out] at z0 tl1 hS hon hz
  have ip : (p : Int) < (R.F.length : Int) := by omega
  have HM := hide h
  have i1 : ¬ ((o : Int) < 0) := by omega
  have i2 : ¬ ((o : Int) > (N : Int)) := by omega
  have i3 : ¬ ((n : Int) < 0) := by omega
  have i4 : ¬ ((n : Int) > (N : Int) - (o : Int)) := by omega
  have e1 : IntKind.i64.wrap ((N : Int) - (o : Int)) = (N : Int) - (o : Int) := by rw [IntKind.wrap_i64]; omega
  have e2 : IntKind.i64.wrap ((o : Int) + (n : Int)) = (o : Int) + (n : Int) := by rw [IntKind.wrap_i64]; omega
  replace hon := hide hon
  clear h hg et hby hf hOb VS
  go_enter Tryz.func56, Tryz.ntmps56
  go_wp2_with (go_at_call 95; refine hR.mono ?_; rintro e w1 ⟨rfl, e1'⟩; subst w1)
  go_quiet ((go_at_call 96; exact Calls.quiet_of_same (hFi.out _ (HM.out.below (Qt.below ⟨_, rfl⟩ _)))))
  have B3 : Hid (Below w.heap.size w (w.drewN nq)) := Qt.below ⟨nq, rfl⟩ _
  obtain ⟨v4, w4, r4, Q4, b4⟩ := KR.out _ B3.out
  replace r4 := hide r4
  replace Q4 := hide Q4
  replace b4 := hide b4
  generalize w.drewN nq = wy at *
  go_wp2_with (at_builtin; refine Lib.wpList_append_run _ rfl (.const (.slice none 0 0)) (.tmp 56) 30 30 rfl _ _ rfl rfl _ _ r4.out ?_)
  go_ret2
  exact ⟨v4, rfl, Q4.out.low B3.out.size, B3.out.trans (b4.out.mono B3.out.size)⟩
theorem read_rm_no {w : World} {b : Nat} {R : RB} {V : RV} (h : RM w b R V) (s : ByteArray) (hs : s.size ≤ maxLen) (o n : Int) (h0 : refN R.down R.dir s true ≠ 0) :
    Calls Tryz.prog 56 #[.pointer (some ⟨b, 0, none⟩), .string s, .int .i64 o, .int .i64 n] w fun e w' => e = .returned (.tuple #[.slice none 0 0, .int .i64 (refN R.down R.dir s true)]) ∧ w' = w := by
  have hR := refused_rm h s hs true
  clear h
  generalize refN R.down R.dir s true = rn at *
  go_enter Tryz.func56, Tryz.ntmps56
  go_wp2_with (go_at_call 95; refine hR.mono ?_; rintro e w1 ⟨rfl, e1'⟩; subst w1)
  go_ret2
  exact ⟨rfl, rfl⟩
set_option maxRecDepth 100000 in
set_option maxHeartbeats 1000000 in
theorem read_rm_out {w : World} {b : Nat} {R : RB} {V : RV} (h : RM w b R V) (hg : ∀ e ∈ R.dir, e.2 < R.F.length) (s : ByteArray) (hs : s.size ≤ maxLen) (o n : Int) (g0 : -9223372036854775808 ≤ n) (g1 : n ≤ 9223372036854775807) (h0 : refN R.down R.dir s true = 0) (hon : ¬ (0 ≤ o ∧ 0 ≤ n ∧ o + n ≤ (R.lenOf (R.pOf s) : Int))) (hz : (R.lenOf (R.pOf s) : Int) ≤ 1000000000) :
    Calls Tryz.prog 56 #[.pointer (some ⟨b, 0, none⟩), .string s, .int .i64 o, .int .i64 n] w fun e w' => e = .returned (.tuple #[.slice none 0 0, .int .i64 8]) ∧ Below w.heap.size w w' := by
  have hR := refused_rm h s hs true
  rw [h0] at hR
  obtain ⟨hf, hp, _⟩ := refN_there hg h0
  have hFi : Hid (∀ q, RM q b R V → Calls Tryz.prog 96 #[V.vD, .string s] q fun e w' => e = .returned (.int .i64 (R.pOf s : Int)) ∧ w' = q) := fun q hq => by
    have := find_ref q V.vD R.dir s hq.dd.tr
    rw [hf] at this
    exact this
  have c1 : w.cell? ⟨b, 1, none⟩ = some V.vF := (h.cell 1).trans rfl
  have c2 : w.cell? ⟨b, 2, none⟩ = some V.vD := (h.cell 2).trans rfl
  have hvd : ∃ da dn dc, V.vD = .slice da dn dc := by rcases h.dd.form with ⟨e, _⟩ | ⟨g, cap, e, _⟩ <;> exact ⟨_, _, _, e⟩
  obtain ⟨da, dn, dc, hvd⟩ := hvd
  obtain ⟨g, cap, hvf, fl1, fl2, hl, z0, _, _⟩ := h.at hp
  have hby : R.byOf (R.pOf s) = R.F[R.pOf s].1 := by unfold RB.byOf; rw [List.getElem?_eq_getElem hp]
  have hOb := (h.nn _ hp).1
  rw [← hby] at hOb
  obtain ⟨ta, tc, et, tl1, tl2⟩ := hOb.form
  rw [et] at z0
  rw [byOf_len] at z0 tl1
  rw [hvf] at c1
  rw [hvd] at c2 hFi
  obtain ⟨p, hpp⟩ : ∃ p, Hid (R.pOf s = p) := ⟨_, rfl⟩
  obtain ⟨N, htl⟩ : ∃ N, Hid (R.lenOf p = N) := ⟨_, rfl⟩
  rw [hpp.out] at z0 tl1 hFi hp hon hz
  rw [htl.out] at z0 tl1 hon hz
  have ip : (p : Int) < (R.F.length : Int) := by omega
  have HM := hide h
  clear h hg et hby hf hOb
  by_cases a1 : o < 0
  · clear hon
    go_enter Tryz.func56, Tryz.ntmps56
    go_wp2_with (go_at_call 95; refine hR.mono ?_; rintro e w1 ⟨rfl, e1'⟩; subst w1)
    go_quiet ((go_at_call 96; exact Calls.quiet_of_same (hFi.out _ (HM.out.below (Qt.below ⟨_, rfl⟩ _)))))
    go_wp2_with fail
    go_ret2
    exact ⟨rfl, Qt.below ⟨nq, rfl⟩ _⟩
  by_cases a2 : n < 0
  · clear hon
    go_enter Tryz.func56, Tryz.ntmps56
    go_wp2_with (go_at_call 95; refine hR.mono ?_; rintro e w1 ⟨rfl, e1'⟩; subst w1)
    go_quiet ((go_at_call 96; exact Calls.quiet_of_same (hFi.out _ (HM.out.below (Qt.below ⟨_, rfl⟩ _)))))
    go_wp2_with fail
    go_ret2
    exact ⟨rfl, Qt.below ⟨nq, rfl⟩ _⟩
  by_cases a3 : o > (N : Int)
  · clear hon
    go_enter Tryz.func56, Tryz.ntmps56
    go_wp2_with (go_at_call 95; refine hR.mono ?_; rintro e w1 ⟨rfl, e1'⟩; subst w1)
    go_quiet ((go_at_call 96; exact Calls.quiet_of_same (hFi.out _ (HM.out.below (Qt.below ⟨_, rfl⟩ _)))))
    go_wp2_with fail
    go_ret2
    exact ⟨rfl, Qt.below ⟨nq, rfl⟩ _⟩
  · have a4 : n > (N : Int) - o := by omega
    have e1 : IntKind.i64.wrap ((N : Int) - o) = (N : Int) - o := by rw [IntKind.wrap_i64]; omega
    clear hon
    go_enter Tryz.func56, Tryz.ntmps56
    go_wp2_with (go_at_call 95; refine hR.mono ?_; rintro e w1 ⟨rfl, e1'⟩; subst w1)
    go_quiet ((go_at_call 96; exact Calls.quiet_of_same (hFi.out _ (HM.out.below (Qt.below ⟨_, rfl⟩ _)))))
    go_wp2_with fail
    go_ret2
    exact ⟨rfl, Qt.below ⟨nq, rfl⟩ _⟩
end Go.Proofs.YtjehpijjneghpaaGreat.Re
namespace Go.Proofs.YtjehpijjneghpaaGreat.Re
open Go.RowKit Go.Maps Go.Sort Go.Shelf Go.Proofs.YtjehpijjneghpaaGreat.Nm Go.Proofs.YtjehpijjneghpaaGreat.Dk
set_option linter.unusedVariables false
abbrev FD := List UInt8 × List UInt8 × Int
def RB.one (R : RB) (i : Nat) (f : FD) : RB := { R with F := R.F.set i f }
def RV.one (V : RV) (i : Nat) (t : Value × Value) : RV := { V with T := V.T.set i t }
theorem fcells_cons (e : FD) (r : List FD) (t : Value × Value) (q : List (Value × Value)) : fcells (e :: r) (t :: q) = [t.1, t.2, .int .i64 e.2.2] ++ fcells r q := by simp [fcells]
theorem fcells_setN : ∀ (F : List FD) (T : List (Value × Value)) (i : Nat) (v : Value) (b : List UInt8), T.length = F.length → ∀ (h : i < F.length) (h' : i < T.length), (fcells F T).set (i * 3) v = fcells (F.set i (b, F[i].2)) (T.set i (v, T[i].2)) := by
  intro F
  induction F with
  | nil => intro T i v b _ h; simp at h
  | cons e r ih =>
    intro T i v b hT h h'
    cases T with
    | nil => simp at h'
    | cons t q =>
      cases i with
      | zero => simp [fcells_cons]
      | succ i =>
        rw [fcells_cons, List.set_cons_succ, List.set_cons_succ, fcells_cons, show (i + 1) * 3 = i * 3 + 1 + 1 + 1 by omega]
        simp only [List.getElem_cons_succ]
        rw [← ih q i v b (by simpa using hT) (by simpa using h) (by simpa using h')]
        simp
theorem fcells_setL : ∀ (F : List FD) (T : List (Value × Value)) (i : Nat) (v : Value) (b : List UInt8), T.length = F.length → ∀ (h : i < F.length) (h' : i < T.length), (fcells F T).set (i * 3 + 1) v = fcells (F.set i (F[i].1, b, F[i].2.2)) (T.set i (T[i].1, v)) := by
  intro F
  induction F with
  | nil => intro T i v b _ h; simp at h
  | cons e r ih =>
    intro T i v b hT h h'
    cases T with
    | nil => simp at h'
    | cons t q =>
      cases i with
      | zero => simp [fcells_cons]
      | succ i =>
        rw [fcells_cons, List.set_cons_succ, List.set_cons_succ, fcells_cons, show (i + 1) * 3 + 1 = i * 3 + 1 + 1 + 1 + 1 by omega]
        simp only [List.getElem_cons_succ]
        rw [← ih q i v b (by simpa using hT) (by simpa using h) (by simpa using h')]
        simp
theorem fcells_setS : ∀ (F : List FD) (T : List (Value × Value)) (i : Nat) (n : Int), T.length = F.length → ∀ (h : i < F.length) (h' : i < T.length), (fcells F T).set (i * 3 + 2) (.int .i64 n) = fcells (F.set i (F[i].1, F[i].2.1, n)) T := by
  intro F
  induction F with
  | nil => intro T i n _ h; simp at h
  | cons e r ih =>
    intro T i n hT h h'
    cases T with
    | nil => simp at h'
    | cons t q =>
      cases i with
      | zero => simp [fcells_cons]
      | succ i =>
        rw [fcells_cons, List.set_cons_succ, fcells_cons, show (i + 1) * 3 + 2 = i * 3 + 2 + 1 + 1 + 1 by omega]
        simp only [List.getElem_cons_succ]
        rw [← ih q i n (by simpa using hT) (by simpa using h) (by simpa using h')]
        simp
theorem blk_one (b : Nat) (V : RV) {i : Nat} (hi : i < V.T.length) (t : Value × Value) (x : Nat) (hN : x ≠ 2 * i + 6) (hL : x ≠ 2 * i + 7) : blk b (V.one i t) x = blk b V x := by
  match x with
  | 0 => rfl
  | 1 => rfl
  | 2 => rfl
  | 3 => rfl
  | 4 => rfl
  | 5 => rfl
  | n + 6 =>
    have hne : n / 2 ≠ i := fun e => by
      rcases Nat.mod_two_eq_zero_or_one n with q | q <;> omega
    show (if n % 2 = 0 then ((V.T.set i t)[n / 2]?).bind (fun t => t.1.ownBlock) else ((V.T.set i t)[n / 2]?).bind (fun t => t.2.ownBlock)) = (if n % 2 = 0 then (V.T[n / 2]?).bind (fun t => t.1.ownBlock) else (V.T[n / 2]?).bind (fun t => t.2.ownBlock))
    rw [List.getElem?_set_ne (Ne.symm hne)]
theorem blk_one_N (b : Nat) (V : RV) {i : Nat} (hi : i < V.T.length) (t : Value × Value) : blk b (V.one i t) (2 * i + 6) = t.1.ownBlock := by
  have hl : i < (V.one i t).T.length := by show i < (V.T.set i t).length; rw [List.length_set]; exact hi
  rw [blk_N b (V.one i t) hl]
  have : (V.one i t).T[i] = t := List.getElem_set_self _
  rw [this]
theorem blk_one_L (b : Nat) (V : RV) {i : Nat} (hi : i < V.T.length) (t : Value × Value) : blk b (V.one i t) (2 * i + 7) = t.2.ownBlock := by
  have hl : i < (V.one i t).T.length := by show i < (V.T.set i t).length; rw [List.length_set]; exact hi
  rw [blk_L b (V.one i t) hl]
  have : (V.one i t).T[i] = t := List.getElem_set_self _
  rw [this]
theorem RM.file {w0 w' : World} {b : Nat} {R : RB} {V : RV} {i : Nat} {f : FD} {t : Value × Value} (h : RM w0 b R V) (hi : i < R.F.length) (hl : i < V.T.length) (hff : w'.ownsRow 0 138 3 V.vF R.F.length (fcells (R.F.set i f) (V.T.set i t))) (o1 : Oc 0 w' t.1 f.1) (o2 : Oc 0 w' t.2 f.2.1)
    (hb : But (fun k => V.vF.ownBlock = some k ∨ V.T[i].1.ownBlock = some k) w0 w') (n1 : t.1.ownBlock = V.T[i].1.ownBlock ∨ ∀ k, t.1.ownBlock = some k → w0.heap.size ≤ k) (n2 : t.2.ownBlock = V.T[i].2.ownBlock ∨ ∀ k, t.2.ownBlock = some k → w0.heap.size ≤ k) (n3 : ∀ k, t.1.ownBlock = some k → t.2.ownBlock ≠ some k) : Rgo w0 w' b V (R.one i f) := by
  have nx : ∀ x, x ≠ 1 → x ≠ 2 * i + 6 → ∀ k, blk b V x = some k → ¬ (V.vF.ownBlock = some k ∨ V.T[i].1.ownBlock = some k) := fun x h1 h2 k hk c => by
    rcases c with c | c
    · exact h.ds x 1 h1 k hk c
    · exact h.ds x (2 * i + 6) h2 k hk (by rw [blk_N b V hl]; exact c)
  have hsz := hb.size
  refine ⟨⟨V.one i t, ?_, ?_⟩, ?_⟩
  · refine ⟨(hb.block b (heap_lt h.box) (nx 0 (by omega) (by omega) b rfl)).trans h.box, h.dd.but hb (nx 2 (by omega) (by omega)), h.oo.but hb (nx 3 (by omega) (by omega)), h.pp.but hb (nx 4 (by omega) (by omega)), ownsRow_but h.aa hb (nx 5 (by omega) (by omega)), ?_, ?_, fun j hj => ?_, ?_, ?_⟩
    · show w'.ownsRow 0 _ 3 V.vF (R.F.set i f).length (fcells (R.F.set i f) (V.T.set i t))
      rw [List.length_set]
      exact hff
    · show (V.T.set i t).length = (R.F.set i f).length
      rw [List.length_set, List.length_set]
      exact h.ln
    · have hj' : j < R.F.length := by have : j < (R.F.set i f).length := hj; rw [List.length_set] at this; exact this
      have hjl : j < V.T.length := by rw [h.ln]; exact hj'
      by_cases e : j = i
      · subst e
        have e1 : ((V.one j t).T[j]'(by show j < (V.T.set j t).length; rw [List.length_set]; exact hjl)) = t := List.getElem_set_self _
        have e2 : ((R.one j f).F[j]'hj) = f := List.getElem_set_self _
        rw [e1, e2]
        exact ⟨o1, o2⟩
      · have e1 : ((V.one i t).T[j]'(by show j < (V.T.set i t).length; rw [List.length_set]; exact hjl)) = V.T[j] := List.getElem_set_ne (Ne.symm e) _
        have e2 : ((R.one i f).F[j]'hj) = R.F[j] := List.getElem_set_ne (Ne.symm e) _
        rw [e1, e2]
        obtain ⟨a, q⟩ := h.nn j hj'
        exact ⟨Oc.but a hb (fun k hk => nx (2 * j + 6) (by omega) (by omega) k (by rw [blk_N b V hjl]; exact hk)), Oc.but q hb (fun k hk => nx (2 * j + 7) (by omega) (by omega) k (by rw [blk_L b V hjl]; exact hk))⟩
    · refine h.ds.step (H := w0.heap.size) h.lt (fun x => ?_) (fun x y hxy k hk h1 h2 => ?_)
      · by_cases xN : x = 2 * i + 6
        · rw [xN, blk_one_N b V hl t, blk_N b V hl]; exact n1
        · by_cases xL : x = 2 * i + 7
          · rw [xL, blk_one_L b V hl t, blk_L b V hl]; exact n2
          · exact .inl (blk_one b V hl t x xN xL)
      · have old : ∀ z, z ≠ 2 * i + 6 → z ≠ 2 * i + 7 → blk b (V.one i t) z ≠ some k := fun z zN zL hz => by
          rw [blk_one b V hl t z zN zL] at hz
          have := h.lt z k hz
          omega
        have isx : x = 2 * i + 6 ∨ x = 2 * i + 7 := by
          by_cases a : x = 2 * i + 6
          · exact .inl a
          · by_cases c : x = 2 * i + 7
            · exact .inr c
            · exact absurd h1 (old x a c)
        have isy : y = 2 * i + 6 ∨ y = 2 * i + 7 := by
          by_cases a : y = 2 * i + 6
          · exact .inl a
          · by_cases c : y = 2 * i + 7
            · exact .inr c
            · exact absurd h2 (old y a c)
        rcases isx with rfl | rfl
        · rcases isy with rfl | rfl
          · exact hxy rfl
          · rw [blk_one_N b V hl t] at h1; rw [blk_one_L b V hl t] at h2; exact n3 k h1 h2
        · rcases isy with rfl | rfl
          · rw [blk_one_L b V hl t] at h1; rw [blk_one_N b V hl t] at h2; exact n3 k h2 h1
          · exact hxy rfl
    · intro x k hk
      by_cases xN : x = 2 * i + 6
      · rw [xN, blk_one_N b V hl t] at hk; exact (o1.lt k hk).2
      · by_cases xL : x = 2 * i + 7
        · rw [xL, blk_one_L b V hl t] at hk; exact (o2.lt k hk).2
        · rw [blk_one b V hl t x xN xL] at hk
          have := h.lt x k hk
          omega
  · intro x k hk
    by_cases xN : x = 2 * i + 6
    · subst xN
      rw [blk_one_N b V hl t] at hk
      rcases n1 with e | e
      · exact .inl (by rw [blk_N b V hl]; exact e.symm.trans hk)
      · exact .inr (e k hk)
    · by_cases xL : x = 2 * i + 7
      · subst xL
        rw [blk_one_L b V hl t] at hk
        rcases n2 with e | e
        · exact .inl (by rw [blk_L b V hl]; exact e.symm.trans hk)
        · exact .inr (e k hk)
      · rw [blk_one b V hl t x xN xL] at hk
        exact .inl hk
  · exact hb.mono fun k _ c => by
      rcases c with c | c
      · exact ⟨1, c⟩
      · exact ⟨2 * i + 6, by rw [blk_N b V hl]; exact c⟩
end Go.Proofs.YtjehpijjneghpaaGreat.Re
namespace Go.Proofs.YtjehpijjneghpaaGreat.Re
open Go.RowKit Go.Maps Go.Sort Go.Shelf Go.Proofs.YtjehpijjneghpaaGreat.Nm Go.Proofs.YtjehpijjneghpaaGreat.Dk
set_option linter.unusedVariables false
def RB.fOf (R : RB) (p : Nat) : FD := (R.F[p]?).getD ([], [], 0)
def flD (f : FD) : Fl := ⟨f.1, f.2.1, (f.2.2 - (f.2.1.length : Int)).toNat⟩
def RB.sync (R : RB) (s : ByteArray) : RB × Int :=
  if refN R.down R.dir s true ≠ 0 then (R, refN R.down R.dir s true)
  else if R.flt.2.1 = 1 then ((R.beg 2).one (R.pOf s) ((R.fOf (R.pOf s)).1, (R.fOf (R.pOf s)).2.1, ((R.fOf (R.pOf s)).1.length : Int)), 20)
  else if R.flt.2.1 = 3 then (R.beg 2, 22)
  else ((R.beg 2).one (R.pOf s) ((R.fOf (R.pOf s)).1, (R.fOf (R.pOf s)).2.1 ++ svd (flD (R.fOf (R.pOf s))) ((R.fOf (R.pOf s)).1.length - (R.fOf (R.pOf s)).2.1.length), 0), 0)
set_option maxRecDepth 100000 in
set_option maxHeartbeats 1000000 in
theorem sync_rm_no {w : World} {b : Nat} {R : RB} {V : RV} (h : RM w b R V) (s : ByteArray) (hs : s.size ≤ maxLen) (h0 : refN R.down R.dir s true ≠ 0) :
    Calls Tryz.prog 48 #[.pointer (some ⟨b, 0, none⟩), .string s] w fun e w' => e = .returned (.int .i64 (refN R.down R.dir s true)) ∧ w' = w := by
  have hR := refused_rm h s hs true
  clear h
  generalize refN R.down R.dir s true = rn at *
  go_enter Tryz.func48, Tryz.ntmps48
  go_wp2_with (go_at_call 95; refine hR.mono ?_; rintro e w1 ⟨rfl, e1'⟩; subst w1)
  go_ret
  exact ⟨rfl, rfl⟩
set_option maxRecDepth 100000 in
set_option maxHeartbeats 1000000 in
theorem sync_rm_bad {w : World} {b : Nat} {R : RB} {V : RV} (h : RM w b R V) (ho : R.ok) (hc : R.c7 ≤ 1000000000) (hg : ∀ e ∈ R.dir, e.2 < R.F.length) (hla : ∀ f ∈ R.F, f.2.1.length ≤ f.1.length ∧ (f.1.length : Int) ≤ 100000000) (s : ByteArray) (hs : s.size ≤ maxLen) (h13 : R.flt.2.1 = 1 ∨ R.flt.2.1 = 3) :
    Calls Tryz.prog 48 #[.pointer (some ⟨b, 0, none⟩), .string s] w fun e w' => e = .returned (.int .i64 (R.sync s).2) ∧ Rgo w w' b V (R.sync s).1 := by
  obtain ⟨X, hX⟩ : ∃ X, Hid (R.sync s = X) := ⟨_, rfl⟩
  rw [hX.out]
  by_cases h0 : refN R.down R.dir s true = 0
  · have hR := refused_rm h s hs true
    rw [h0] at hR
    have hB := begins_rm h ho hc 2 (by omega)
    obtain ⟨hf, hp, _⟩ := refN_there hg h0
    obtain ⟨be1, be2, _⟩ := beg_same R 2
    have hFi : Hid (∀ q, RM q b (R.beg 2) V → Calls Tryz.prog 96 #[V.vD, .string s] q fun e w' => e = .returned (.int .i64 (R.pOf s : Int)) ∧ w' = q) := fun q hq => by
      have := find_ref q V.vD (R.beg 2).dir s hq.dd.tr
      rw [be2, hf] at this
      exact this
    have hvd : ∃ da dn dc, V.vD = .slice da dn dc := by rcases h.dd.form with ⟨e, _⟩ | ⟨g, cap, e, _⟩ <;> exact ⟨_, _, _, e⟩
    obtain ⟨da, dn, dc, hvd⟩ := hvd
    obtain ⟨F, hF⟩ : ∃ F : Ft, Hid (R.flt = F) := ⟨R.flt, rfl⟩
    rw [hF.out] at hB
    obtain ⟨fa, fk, fp⟩ := F
    unfold fv at hB
    dsimp only at hB
    by_cases k3 : fk = 3
    · have e1 : Hid (X = (R.beg 2, 22)) := by show _ = _; rw [← hX.out]; unfold RB.sync; rw [if_neg (by rw [h0]; simp), hF.out, if_neg (by show ¬ fk = 1; omega), if_pos k3]
      subst k3
      rw [hvd] at hFi
      clear h ho hc
      go_enter Tryz.func48, Tryz.ntmps48
      go_upto_region 5 with (first
        | (go_at_call 95; refine hR.mono ?_; rintro e w1 ⟨rfl, e1'⟩; subst w1)
        | (go_at_call 97; refine hB.mono ?_; rintro e w1 ⟨rfl, M1, b1⟩; replace M1 := hide M1; replace b1 := hide b1))
      have z1 := heap_alloc_new w1 (.cells #[.int .i64 fa, .int .i64 3, .int .i64 fp] 118)
      have BX := hide (box_below w1 (.cells #[.int .i64 fa, .int .i64 3, .int .i64 fp] 118))
      obtain ⟨Y, hY⟩ : ∃ Y, Hid (w1.alloc (.cells #[.int .i64 fa, .int .i64 3, .int .i64 fp] 118) = Y) := ⟨_, rfl⟩
      rw [hY.out] at z1 BX ⊢
      have y1 : Y.cell? ⟨w1.heap.size, 1, none⟩ = some (.int .i64 3) := by simp [World.cell?, z1]
      have MY := hide (M1.out.below BX.out)
      have bY : Hid (But (fun k => k = b) w Y) := b1.out.trans (But.of_below BX.out _)
      clear z1
      obtain ⟨g, cap, hvf, fl1, fl2, hl, z0, z1, z2⟩ := MY.out.at (i := R.pOf s) (by rw [be1]; exact hp)
      have c1 : Y.cell? ⟨b, 1, none⟩ = some V.vF := (MY.out.cell 1).trans rfl
      have c2 : Y.cell? ⟨b, 2, none⟩ = some V.vD := (MY.out.cell 2).trans rfl
      rw [hvf, be1] at c1
      rw [hvd] at c2
      rw [be1] at fl1
      generalize hpp : R.pOf s = p at *
      have ip : (p : Int) < (R.F.length : Int) := by omega
      clear hpp
      go_quiet ((go_at_call 96; exact Calls.quiet_of_same (hFi.out _ (MY.out.below (Qt.below ⟨_, rfl⟩ _)))))
      have B3 : Hid (Below Y.heap.size Y (Y.drewN nq)) := Qt.below ⟨nq, rfl⟩ _
      have MZ := hide (MY.out.below B3.out)
      have y2 : (Y.drewN nq).cell? ⟨w1.heap.size, 1, none⟩ = some (.int .i64 3) := by rw [B3.out.cell (lt_of_cell y1)]; exact y1
      have bZ : Hid (But (fun k => k = b) w (Y.drewN nq)) := bY.out.trans (But.of_below B3.out _)
      generalize Y.drewN nq = Z at *
      go_wp2_with fail
      go_ret
      rw [e1.out]
      exact ⟨rfl, Rgo.same MZ.out bZ.out⟩
    · by_cases k1 : fk = 1
      · have e1 : Hid (X = ((R.beg 2).one (R.pOf s) ((R.fOf (R.pOf s)).1, (R.fOf (R.pOf s)).2.1, ((R.fOf (R.pOf s)).1.length : Int)), 20)) := by show _ = _; rw [← hX.out]; unfold RB.sync; rw [if_neg (by rw [h0]; simp), hF.out, if_pos k1]
        subst k1
        rw [hvd] at hFi
        clear h ho hc
        go_enter Tryz.func48, Tryz.ntmps48
        go_upto_region 5 with (first
          | (go_at_call 95; refine hR.mono ?_; rintro e w1 ⟨rfl, e1'⟩; subst w1)
          | (go_at_call 97; refine hB.mono ?_; rintro e w1 ⟨rfl, M1, b1⟩; replace M1 := hide M1; replace b1 := hide b1))
        have z1 := heap_alloc_new w1 (.cells #[.int .i64 fa, .int .i64 1, .int .i64 fp] 118)
        have BX := hide (box_below w1 (.cells #[.int .i64 fa, .int .i64 1, .int .i64 fp] 118))
        obtain ⟨Y, hY⟩ : ∃ Y, Hid (w1.alloc (.cells #[.int .i64 fa, .int .i64 1, .int .i64 fp] 118) = Y) := ⟨_, rfl⟩
        rw [hY.out] at z1 BX ⊢
        have y1 : Y.cell? ⟨w1.heap.size, 1, none⟩ = some (.int .i64 1) := by simp [World.cell?, z1]
        have MY := hide (M1.out.below BX.out)
        have bY : Hid (But (fun k => k = b) w Y) := b1.out.trans (But.of_below BX.out _)
        clear z1
        obtain ⟨g, cap, hvf, fl1, fl2, hl, z0, z1, z2⟩ := MY.out.at (i := R.pOf s) (by rw [be1]; exact hp)
        have c1 : Y.cell? ⟨b, 1, none⟩ = some V.vF := (MY.out.cell 1).trans rfl
        have c2 : Y.cell? ⟨b, 2, none⟩ = some V.vD := (MY.out.cell 2).trans rfl
        rw [hvf, be1] at c1
        rw [hvd] at c2
        rw [be1] at fl1
        have hfo : R.fOf (R.pOf s) = R.F[R.pOf s] := by unfold RB.fOf; rw [List.getElem?_eq_getElem hp]; rfl
        have hlap := hla _ (List.getElem_mem hp)
        rw [hfo] at e1
        obtain ⟨ob1, ob2⟩ := MY.out.nn (R.pOf s) (by rw [be1]; exact hp)
        simp only [be1] at ob1 ob2 z2
        have hg1 : V.vF.ownBlock = some g := by rw [hvf]; exact own_some _ _ _
        have hff0 := MY.out.ff
        generalize hpp : R.pOf s = p at *
        have ip : (p : Int) < (R.F.length : Int) := by omega
        clear hpp
        go_quiet ((go_at_call 96; exact Calls.quiet_of_same (hFi.out _ (MY.out.below (Qt.below ⟨_, rfl⟩ _)))))
        have B3 : Hid (Below Y.heap.size Y (Y.drewN nq)) := Qt.below ⟨nq, rfl⟩ _
        have MZ := hide (MY.out.below B3.out)
        have y2 : (Y.drewN nq).cell? ⟨w1.heap.size, 1, none⟩ = some (.int .i64 1) := by rw [B3.out.cell (lt_of_cell y1)]; exact y1
        have bZ : Hid (But (fun k => k = b) w (Y.drewN nq)) := bY.out.trans (But.of_below B3.out _)
        generalize Y.drewN nq = Z at *
        obtain ⟨ta, tc, et, tl1, tl2⟩ := ob1.form
        have hTs : V.T.set p V.T[p] = V.T := List.set_getElem_self hl
        have fr2 : Z.frozen? ⟨g, p * 3 + 2, none⟩ = false := by have q := MZ.out.ff; rw [hvf] at q; exact q.frozenAt _
        have w0 : Z.cell? ⟨g, p * 3, none⟩ = some V.T[p].1 := by rw [B3.out.cell (lt_of_cell z0)]; exact z0
        have w2 : Z.cell? ⟨g, p * 3 + 2, none⟩ = some (.int .i64 R.F[p].2.2) := by rw [B3.out.cell (lt_of_cell z2)]; exact z2
        have gX := But.of_grownBy (X := fun k => k = g) (grown_setCell Z g (p * 3 + 2) (.int .i64 (R.F[p].1.length : Int))) fun k e => by cases e; rfl
        have fin : Hid (Rgo Z (Z.setCell ⟨g, p * 3 + 2, none⟩ (.int .i64 (R.F[p].1.length : Int))) b V ((R.beg 2).one p (R.F[p].1, R.F[p].2.1, (R.F[p].1.length : Int)))) := by
          refine RM.file MZ.out (i := p) (by rw [be1]; exact hp) hl (t := V.T[p]) ?_ ?_ ?_ (gX.mono fun k _ e => .inl (by rw [hg1, e])) (.inl rfl) (.inl rfl) ?_
          · have q := MZ.out.ff
            rw [hvf] at q ⊢
            have q2 := (q.stored (p * 3 + 2) (.int .i64 (R.F[p].1.length : Int))).1
            rw [fcells_setS _ _ p _ MZ.out.ln (by rw [be1]; exact hp) hl] at q2
            rw [hTs]
            simp only [be1] at q2 ⊢
            exact q2
          · exact Oc.but (ob1.below B3.out) gX (fun k hk e => MY.out.ds 1 (2 * p + 6) (by omega) g hg1 (by rw [blk_N b V hl, hk, e]))
          · exact Oc.but (ob2.below B3.out) gX (fun k hk e => MY.out.ds 1 (2 * p + 7) (by omega) g hg1 (by rw [blk_L b V hl, hk, e]))
          · intro k k1 k2
            exact MY.out.ds (2 * p + 6) (2 * p + 7) (by omega) k (by rw [blk_N b V hl]; exact k1) (by rw [blk_L b V hl]; exact k2)
        rw [et] at w0
        have fin2 := hide (fin.out.behind bZ.out)
        have hTo2 : Hid (∀ q, Calls Tryz.prog 98 #[.int .i64 1] q fun e w' => e = .returned (.int .i64 20) ∧ w' = q) := fun q => told_ref q 1
        have y3 : (Z.setCell ⟨g, p * 3 + 2, none⟩ (.int .i64 (R.F[p].1.length : Int))).cell? ⟨w1.heap.size, 1, none⟩ = some (.int .i64 1) := by
          have hne : ¬ w1.heap.size = g := fun e => by have := M1.out.lt 1 g hg1; omega
          exact cell_but y2 gX hne
        clear fin gX hff0
        generalize R.F[p].1.length = bl at *
        go_wp2_with (go_at_call 98; refine (hTo2.out _).mono ?_; rintro e w2 ⟨rfl, e2⟩; subst w2)
        go_ret
        rw [e1.out]
        exact ⟨rfl, fin2.out⟩
      · rw [hF.out] at h13
        rcases h13 with c | c
        · exact absurd c k1
        · exact absurd c k3
  · have e1 : X = (R, refN R.down R.dir s true) := by rw [← hX.out]; unfold RB.sync; rw [if_pos h0]
    rw [e1]
    refine (sync_rm_no h s hs h0).mono ?_
    rintro e w' ⟨rfl, rfl⟩
    exact ⟨rfl, Rgo.refl h⟩
end Go.Proofs.YtjehpijjneghpaaGreat.Re
