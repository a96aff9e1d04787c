/-
  The document's Leave. (gen_RqF.py)
-/
import Derived.Test.YtfoleeamhhodaaaA03
import Derived.Test.YtfoleeamhhodaaaA01
import Derived.Deep.Strs
import Derived.Deep.Slices
namespace Go.Proofs.Ytfoleeamhhodaaa.Qu
open Go.RowKit
open Ix (wp_region_T wpAnyT wpAnyT_take wpAnyT_one wpAnyT_done vac)
set_option linter.unusedVariables false
set_option maxRecDepth 100000
theorem Tr.front {w : World} {tb n ca : Nat} {S : List Itm} (h : Tr w (.slice (some ⟨tb, 0, none⟩) n ca) S) (hne : S ≠ []) (hl : S.length ≤ 1024) (i : Nat) (hi : i ≤ S.length) : Tf w (.slice (some ⟨tb, 0, none⟩) i i) (S.take i) := by
  obtain ⟨cur, hh, hc⟩ : ∃ cur, w.heap[tb]? = some (.cells cur 48 (0, 0)) ∧ cur.toList.take (S.length * 2) = icells S := by
    rcases h with h | ⟨g', cur, e, hh, hc, _⟩
    · obtain ⟨b', ca', cs, e, hh, _, hc, _⟩ := h.at hne
      simp at e
      obtain ⟨rfl, _, rfl⟩ := e
      exact ⟨cs, hh, hc⟩
    · simp at e
      obtain ⟨rfl, _, _⟩ := e
      exact ⟨cur, hh, hc⟩
  have hti : (S.take i).length = i := by simp; omega
  refine ⟨tb, cur, by rw [hti], hh, ?_, by rw [hti]; omega⟩
  rw [hti, ← icells_take, ← hc, List.take_take]
  congr 1
  omega
theorem run_noneT {w : World} {g n c k : Nat} {ad : Option Addr} (hn : n ≤ c) (ty : TypeId) :
    (Builtin.append_ #[35, 35] ty #[.slice (some ⟨g, 0, none⟩) n c, .slice ad 0 k]).run Try.prog w = .ok (.slice (some ⟨g, 0, none⟩) n c) w := by
  obtain ⟨i0, hi, hz0, hz1, hz2⟩ := info_parts infoIt
  cases ad with
  | none => simp [Builtin.append_, run_underlying Try.underlying35, sizeOf, typeInfo, hi, Builtin.lenOf, Builtin.firstCells, hn, storeCells]
  | some ad =>
    have hf := run_firstCells_some (P := Try.prog) (w := w) i0.size 0 ad 0 k [] (by simp) (fun j v hv => by simp at hv)
    simp [Builtin.append_, run_underlying Try.underlying35, sizeOf, typeInfo, hi, Builtin.lenOf, hf, hn, storeCells]
/-- append(l[:i:i], l[i+1:]...). -/
theorem run_leaT {w : World} {tb M n ca i : Nat} {S : List Itm} (h : Tr w (.slice (some ⟨tb, 0, none⟩) n ca) S) (hM : S.length = M) (hi : i < S.length) (hl : S.length ≤ 1024) (ty : TypeId) :
    ∃ v' w', (Builtin.append_ #[35, 35] ty #[.slice (some ⟨tb, 0, none⟩) i i, .slice (if ca = i + 1 then some ⟨tb, 0, none⟩ else some ⟨tb, (i + 1) * 2, none⟩) (M - (i + 1)) (ca - (i + 1))]).run Try.prog w = .ok v' w' ∧ Tr w' v' (S.take i ++ S.drop (i + 1)) ∧ Below w.heap.size w w' ∧ (∀ k, v'.ownBlock = some k → (Value.slice (some ⟨tb, 0, none⟩) n ca).ownBlock = some k ∨ w.heap.size ≤ k) := by
  have hne : S ≠ [] := fun e => by rw [e] at hi; simp at hi
  have hti : (S.take i).length = i := by simp; omega
  by_cases hd : S.drop (i + 1) = []
  · have h0 : M - (i + 1) = 0 := by have := congrArg List.length hd; simp at this; omega
    rw [h0, hd, List.append_nil]
    refine ⟨_, w, run_noneT (Nat.le_refl _) ty, .inr (h.front hne hl i (by omega)), Below.refl _ _, fun k hk => .inl (by simp [Value.ownBlock] at hk ⊢; exact hk)⟩
  · have hdl : (S.drop (i + 1)).length = M - (i + 1) := by simp; omega
    obtain ⟨_, _, e, q1, _⟩ := h.read hne
    simp at e
    obtain ⟨_, _, rfl⟩ := e
    have hca : ¬ (ca = i + 1) := fun q => by
      have := List.length_pos_iff.2 hd
      omega
    rw [if_neg hca, ← hdl]
    have hd2 : Lie w tb ((i + 1) * 2) (S.drop (i + 1)) := by have := h.lie.drop (i + 1); simpa using this
    obtain ⟨v', w', hr, ht, hb, hn⟩ := run_cutT (ca := ca - (i + 1)) (h.lie.take i) hd2 hd (by simp; omega) ty
    rw [hti] at hr
    exact ⟨v', w', hr, .inl ht, hb, fun k hk => .inr (hn k hk)⟩
set_option maxHeartbeats 8000000 in
theorem rleave_any (w : World) (b : Nat) (q : Q) (v vl : Value) (id : Int) (h : RA w b q v vl) (ok : Ok q) :
    Calls Try.prog 16 #[.pointer (some ⟨b, 0, none⟩), .int .i64 id] w fun e w' => ∃ idv v' vl', e = .returned (.tuple #[idv, .int .i64 (leaveQ q id).2.1]) ∧ RA w' b (leaveQ q id).2.2 v' vl' ∧ Stp b v vl v' vl' w w' ∧ Ids w.heap.size w' idv (leaveQ q id).1 := by
  obtain ⟨z, hz⟩ : ∃ z, Hid (leaveQ q id = z) := ⟨_, rfl⟩
  rw [hz.out]
  obtain ⟨M, hM⟩ : ∃ M, Hid (q.L.length = M) := ⟨_, rfl⟩
  obtain ⟨ao, ca, rfl, q1, q2⟩ := h.line.form
  rw [hM.out] at h q2 ⊢
  have hA := hide h
  have hl := ok.ln
  have HOK := hide ok
  have hMb : M ≤ 1024 := by rw [← hM.out]; exact hl
  clear h ok
  go_enter Try.func16, Try.ntmps16
  go_wp2_with fail
  go_loopw [6] (fun iv wr => ∃ i : Nat, iv = .int .i64 i ∧ i ≤ M ∧ Hid (wr = w ∧ i ≤ ixI q.L id)) (fun iv _ => M - (intOf iv).toNat)
  case atStart => exact ⟨0, rfl, Nat.zero_le _, rfl, Nat.zero_le _⟩
  case round =>
    obtain ⟨i, rfl, hi, hQ⟩ := hrel
    obtain ⟨hw, hne⟩ := hQ.out
    subst hw
    replace hne := hide hne
    clear hQ
    obtain ⟨c0, c1, c2, c3⟩ := hA.out.cells
    by_cases hlt2 : i < M
    · have hlt : i < q.L.length := by rw [hM.out]; exact hlt2
      have j1 : (i : Int) < (M : Int) := by omega
      have j0 : (0 : Int) ≤ (i : Int) := by omega
      obtain ⟨tb, ca', e, q3, q4, hr⟩ := hA.out.line.read (fun e => by rw [e] at hlt; simp at hlt)
      simp at e
      obtain ⟨rfl, eN, rfl⟩ := e
      clear eN
      obtain ⟨d0, d1⟩ := hr i hlt
      have j3 : (i : Int) + 1 ≤ (M : Int) := by omega
      have j4 : (M : Int) ≤ (ca : Int) := by omega
      have j5 : (i : Int) ≤ (ca : Int) := by omega
      by_cases he : (g q.L i).1 = id
      · have ei : ixI q.L id = i := by
          rcases Nat.lt_or_ge i (ixI q.L id) with h | h
          · exact absurd he (ix_low q.L id i h)
          · exact Nat.le_antisymm h hne.out
        obtain rfl : z = ((comeQ (cutQ q i)).1, 0, (comeQ (cutQ q i)).2) := by
          rw [← hz.out]
          unfold leaveQ
          rw [ei, if_pos hlt]
        rw [he] at d0
        clear hr he hz ei
        go_upto_region 5 with fail
        clear d0 d1 c0 c1 c2 c3
        · skip
          obtain ⟨A2, hA2⟩ : ∃ z, Hid (((if ca = i + 1 then some ⟨tb, 0, none⟩ else some ⟨tb, (i + 1) * 2, none⟩ : Option Addr)) = z) := ⟨_, rfl⟩
          have j6 : IntKind.i64.wrap ((i : Int) + 1) = (i : Int) + 1 := by simp [IntKind.wrap, IntKind.bits, IntKind.signed]; omega
          have j7 : ¬ ((i : Int) + 1 < 0) := by omega
          have KP : Hid (Rx wr.drew b q v (.slice (some ⟨tb, 0, none⟩) M ca)) := hA.out.box
          have KB : Hid (Below wr.heap.size wr wr.drew) := (Below.refl _ _).drew
          have KA : Hid (RA wr.drew b q v (.slice (some ⟨tb, 0, none⟩) M ca)) := hA.out.below KB.out
          refine wp_region_T (fun x => Rx x b q v (.slice (some ⟨tb, 0, none⟩) M ca)) 18 (by kernel_rfl) ?_
          generalize wr.drew = x at *
          refine wpAnyT_take (i := 0) (oi := { dst := some 26, op := Op.move (Operand.tmp 0), type := 28, pos := "ref.go:93", after := #[], guard := none }) (v := .pointer (some ⟨b, 0, none⟩)) [16, 17, 18] rfl (by kernel_rfl) (by kernel_rfl) (by kernel_rfl) (by kernel_rfl) (fun _ _ _ h => h) (Or.inl ⟨by rfl, ?_⟩) KP.out ?_
          · intro wq hSw
            obtain ⟨y2, y3⟩ := hSw.cells
            go_simp
          (try simp only [Act.put, List.setIfInBounds_toArray, List.set_cons_zero, List.set_cons_succ])
          refine wpAnyT_take (i := 1) (oi := { dst := some 27, op := Op.move (Operand.tmp 0), type := 28, pos := "ref.go:93", after := #[], guard := none }) (v := .pointer (some ⟨b, 0, none⟩)) [2, 3, 4, 7, 15, 18] rfl (by kernel_rfl) (by kernel_rfl) (by kernel_rfl) (by kernel_rfl) (fun _ _ _ h => h) (Or.inl ⟨by rfl, ?_⟩) KP.out ?_
          · intro wq hSw
            obtain ⟨y2, y3⟩ := hSw.cells
            go_simp
          (try simp only [Act.put, List.setIfInBounds_toArray, List.set_cons_zero, List.set_cons_succ])
          refine wpAnyT_take (i := 2) (oi := { dst := some 28, op := Op.nilCheck (Operand.tmp 27), type := 0, pos := "ref.go:93", after := #[{ on := 1, ground := Ground.data }], guard := none }) (v := .pointer (some ⟨b, 0, none⟩)) [3, 4, 7, 15, 18] rfl (by kernel_rfl) (by kernel_rfl) (by kernel_rfl) (by kernel_rfl) (fun _ _ _ h => h) (Or.inl ⟨by rfl, ?_⟩) KP.out ?_
          · intro wq hSw
            obtain ⟨y2, y3⟩ := hSw.cells
            go_simp
          (try simp only [Act.put, List.setIfInBounds_toArray, List.set_cons_zero, List.set_cons_succ])
          refine wpAnyT_take (i := 3) (oi := { dst := some 29, op := Op.fieldAddr 61 (Operand.tmp 28) 3, type := 0, pos := "ref.go:93", after := #[{ on := 2, ground := Ground.data }], guard := none }) (v := .pointer (some ⟨b, 3, none⟩)) [4, 7, 15, 18] rfl (by kernel_rfl) (by kernel_rfl) (by kernel_rfl) (by kernel_rfl) (fun _ _ _ h => h) (Or.inl ⟨by rfl, ?_⟩) KP.out ?_
          · intro wq hSw
            obtain ⟨y2, y3⟩ := hSw.cells
            go_simp
          (try simp only [Act.put, List.setIfInBounds_toArray, List.set_cons_zero, List.set_cons_succ])
          refine wpAnyT_take (i := 4) (oi := { dst := some 30, op := Op.load 35 (Operand.tmp 29), type := 35, pos := "ref.go:93", after := #[{ on := 3, ground := Ground.data }], guard := none }) (v := .slice (some ⟨tb, 0, none⟩) M ca) [7, 15, 18] rfl (by kernel_rfl) (by kernel_rfl) (by kernel_rfl) (by kernel_rfl) (fun _ _ _ h => h) (Or.inl ⟨by rfl, ?_⟩) KP.out ?_
          · intro wq hSw
            obtain ⟨y2, y3⟩ := hSw.cells
            go_simp
          (try simp only [Act.put, List.setIfInBounds_toArray, List.set_cons_zero, List.set_cons_succ])
          refine wpAnyT_take (i := 5) (oi := { dst := some 31, op := Op.move (Operand.tmp 6), type := 3, pos := "ref.go:93", after := #[], guard := none }) (v := .int .i64 (i : Int)) [7, 15, 18] rfl (by kernel_rfl) (by kernel_rfl) (by kernel_rfl) (by kernel_rfl) (fun _ _ _ h => h) (Or.inl ⟨by rfl, ?_⟩) KP.out ?_
          · intro wq hSw
            obtain ⟨y2, y3⟩ := hSw.cells
            go_simp
          (try simp only [Act.put, List.setIfInBounds_toArray, List.set_cons_zero, List.set_cons_succ])
          refine wpAnyT_take (i := 6) (oi := { dst := some 32, op := Op.move (Operand.tmp 6), type := 3, pos := "ref.go:93", after := #[], guard := none }) (v := .int .i64 (i : Int)) [7, 15, 18] rfl (by kernel_rfl) (by kernel_rfl) (by kernel_rfl) (by kernel_rfl) (fun _ _ _ h => h) (Or.inl ⟨by rfl, ?_⟩) KP.out ?_
          · intro wq hSw
            obtain ⟨y2, y3⟩ := hSw.cells
            go_simp
          (try simp only [Act.put, List.setIfInBounds_toArray, List.set_cons_zero, List.set_cons_succ])
          refine wpAnyT_take (i := 7) (oi := { dst := some 33, op := Op.slice 35 (Operand.tmp 30) none (some (Operand.tmp 31)) (some (Operand.tmp 32)), type := 35, pos := "ref.go:93", after := #[{ on := 4, ground := Ground.data }, { on := 5, ground := Ground.data }, { on := 6, ground := Ground.data }], guard := none }) (v := .slice (some ⟨tb, 0, none⟩) i i) [15, 18] rfl (by kernel_rfl) (by kernel_rfl) (by kernel_rfl) (by kernel_rfl) (fun _ _ _ h => h) (Or.inl ⟨by rfl, ?_⟩) KP.out ?_
          · intro wq hSw
            obtain ⟨y2, y3⟩ := hSw.cells
            go_simp
          (try simp only [Act.put, List.setIfInBounds_toArray, List.set_cons_zero, List.set_cons_succ])
          refine wpAnyT_take (i := 8) (oi := { dst := some 34, op := Op.move (Operand.tmp 0), type := 28, pos := "ref.go:93", after := #[], guard := none }) (v := .pointer (some ⟨b, 0, none⟩)) [9, 10, 11, 14, 15, 18] rfl (by kernel_rfl) (by kernel_rfl) (by kernel_rfl) (by kernel_rfl) (fun _ _ _ h => h) (Or.inl ⟨by rfl, ?_⟩) KP.out ?_
          · intro wq hSw
            obtain ⟨y2, y3⟩ := hSw.cells
            go_simp
          (try simp only [Act.put, List.setIfInBounds_toArray, List.set_cons_zero, List.set_cons_succ])
          refine wpAnyT_take (i := 9) (oi := { dst := some 35, op := Op.nilCheck (Operand.tmp 34), type := 0, pos := "ref.go:93", after := #[{ on := 8, ground := Ground.data }], guard := none }) (v := .pointer (some ⟨b, 0, none⟩)) [10, 11, 14, 15, 18] rfl (by kernel_rfl) (by kernel_rfl) (by kernel_rfl) (by kernel_rfl) (fun _ _ _ h => h) (Or.inl ⟨by rfl, ?_⟩) KP.out ?_
          · intro wq hSw
            obtain ⟨y2, y3⟩ := hSw.cells
            go_simp
          (try simp only [Act.put, List.setIfInBounds_toArray, List.set_cons_zero, List.set_cons_succ])
          refine wpAnyT_take (i := 10) (oi := { dst := some 36, op := Op.fieldAddr 61 (Operand.tmp 35) 3, type := 0, pos := "ref.go:93", after := #[{ on := 9, ground := Ground.data }], guard := none }) (v := .pointer (some ⟨b, 3, none⟩)) [11, 14, 15, 18] rfl (by kernel_rfl) (by kernel_rfl) (by kernel_rfl) (by kernel_rfl) (fun _ _ _ h => h) (Or.inl ⟨by rfl, ?_⟩) KP.out ?_
          · intro wq hSw
            obtain ⟨y2, y3⟩ := hSw.cells
            go_simp
          (try simp only [Act.put, List.setIfInBounds_toArray, List.set_cons_zero, List.set_cons_succ])
          refine wpAnyT_take (i := 11) (oi := { dst := some 37, op := Op.load 35 (Operand.tmp 36), type := 35, pos := "ref.go:93", after := #[{ on := 10, ground := Ground.data }], guard := none }) (v := .slice (some ⟨tb, 0, none⟩) M ca) [14, 15, 18] rfl (by kernel_rfl) (by kernel_rfl) (by kernel_rfl) (by kernel_rfl) (fun _ _ _ h => h) (Or.inl ⟨by rfl, ?_⟩) KP.out ?_
          · intro wq hSw
            obtain ⟨y2, y3⟩ := hSw.cells
            go_simp
          (try simp only [Act.put, List.setIfInBounds_toArray, List.set_cons_zero, List.set_cons_succ])
          refine wpAnyT_take (i := 12) (oi := { dst := some 38, op := Op.move (Operand.tmp 6), type := 3, pos := "ref.go:93", after := #[], guard := none }) (v := .int .i64 (i : Int)) [13, 14, 15, 18] rfl (by kernel_rfl) (by kernel_rfl) (by kernel_rfl) (by kernel_rfl) (fun _ _ _ h => h) (Or.inl ⟨by rfl, ?_⟩) KP.out ?_
          · intro wq hSw
            obtain ⟨y2, y3⟩ := hSw.cells
            go_simp
          (try simp only [Act.put, List.setIfInBounds_toArray, List.set_cons_zero, List.set_cons_succ])
          refine wpAnyT_take (i := 13) (oi := { dst := some 39, op := Op.binOp BinOp.add 3 (Operand.tmp 38) (Operand.const (Value.int IntKind.i64 1)) 3, type := 3, pos := "ref.go:93", after := #[{ on := 12, ground := Ground.data }], guard := none }) (v := .int .i64 ((i : Int) + 1)) [14, 15, 18] rfl (by kernel_rfl) (by kernel_rfl) (by kernel_rfl) (by kernel_rfl) (fun _ _ _ h => h) (Or.inl ⟨by rfl, ?_⟩) KP.out ?_
          · intro wq hSw
            obtain ⟨y2, y3⟩ := hSw.cells
            go_simp
          (try simp only [Act.put, List.setIfInBounds_toArray, List.set_cons_zero, List.set_cons_succ])
          refine wpAnyT_take (i := 14) (oi := { dst := some 40, op := Op.slice 35 (Operand.tmp 37) (some (Operand.tmp 39)) none none, type := 35, pos := "ref.go:93", after := #[{ on := 11, ground := Ground.data }, { on := 13, ground := Ground.data }], guard := none }) (v := .slice A2 (M - (i + 1)) (ca - (i + 1))) [15, 18] rfl (by kernel_rfl) (by kernel_rfl) (by kernel_rfl) (by kernel_rfl) (fun _ _ _ h => h) (Or.inl ⟨by rfl, ?_⟩) KP.out ?_
          · intro wq hSw
            obtain ⟨y2, y3⟩ := hSw.cells; have y9 := hA2.out
            go_simp
          (try simp only [Act.put, List.setIfInBounds_toArray, List.set_cons_zero, List.set_cons_succ])
          obtain ⟨v5, w5, r5, t5, b5, n5⟩ := run_leaT (M := M) KA.out.line hM.out hlt hl 35
          rw [hA2.out] at r5
          obtain ⟨x1, x2, x3⟩ := KA.out.setL (But.of_below b5 _) t5 n5
          obtain ⟨z0, z1⟩ := x1.cells
          have z2 := x1.frozen 3
          have K5 : Hid (Rx w5 b q v (.slice (some ⟨tb, 0, none⟩) M ca)) := x1
          obtain ⟨a5, c5, hv5, _⟩ := t5.form
          generalize (q.L.take i ++ q.L.drop (i + 1)).length = m5 at hv5
          have CM : Hid (Calls Try.prog 33 #[.pointer (some ⟨b, 0, none⟩)] (w5.setCell ⟨b, 3, none⟩ v5) fun e w' => ∃ idv v' vl', e = .returned idv ∧ RA w' b (comeQ (cutQ q i)).2 v' vl' ∧ Stp b v (.slice (some ⟨tb, 0, none⟩) M ca) v' vl' wr w' ∧ Ids wr.heap.size w' idv (comeQ (cutQ q i)).1) := by
            refine (rcome_any _ b (cutQ q i) v v5 x2 (cut_ok HOK.out i)).mono ?_
            rintro e w' ⟨idv, v2, vl2, rfl, A2, S2, I2⟩
            have S1 := (Stp.below KB.out).trans x3
            exact ⟨idv, v2, vl2, rfl, A2, S1.trans S2, I2.raise S1.1.size⟩
          replace r5 := hide r5
          clear x1 x2 x3 t5 b5 n5
          subst hv5
          refine wpAnyT_one (i := 15) (o := { dst := some 41, op := Op.call { callee := Callee.builtin Builtin.append, args := #[Operand.tmp 33, Operand.tmp 40], argTypes := #[35, 35] }, type := 35, pos := "ref.go:93", after := #[{ on := 7, ground := Ground.data }, { on := 14, ground := Ground.data }], guard := none }) (by kernel_rfl) rfl (fun K hK => ?_)
          rw [if_pos (by simp [Region.wanted])]
          refine Lib.wp_append_run _ (.tmp 33) (.tmp 40) 35 35 rfl (.slice (some ⟨tb, 0, none⟩) i i) (.slice A2 (M - (i + 1)) (ca - (i + 1))) (by simp [Act.eval]) (by simp [Act.eval]) _ w5 r5.out ?_
          refine hK.out _ _ (fun _ => K5.out) ?_
          clear hK K
          (try simp only [Act.put, List.setIfInBounds_toArray, List.set_cons_zero, List.set_cons_succ])
          refine wpAnyT_one (i := 16) (o := { dst := some 42, op := Op.nilCheck (Operand.tmp 26), type := 0, pos := "ref.go:93", after := #[{ on := 0, ground := Ground.data }, { on := 0, ground := Ground.phase }, { on := 1, ground := Ground.phase }, { on := 2, ground := Ground.phase }, { on := 3, ground := Ground.phase }, { on := 4, ground := Ground.phase }, { on := 5, ground := Ground.phase }, { on := 6, ground := Ground.phase }, { on := 7, ground := Ground.phase }, { on := 8, ground := Ground.phase }, { on := 9, ground := Ground.phase }, { on := 10, ground := Ground.phase }, { on := 11, ground := Ground.phase }, { on := 12, ground := Ground.phase }, { on := 13, ground := Ground.phase }, { on := 14, ground := Ground.phase }, { on := 15, ground := Ground.phase }], guard := none }) (by kernel_rfl) rfl (fun K hK => ?_)
          go_simp
          refine hK.out _ _ (fun _ => K5.out) ?_
          clear hK K
          (try simp only [Act.put, List.setIfInBounds_toArray, List.set_cons_zero, List.set_cons_succ])
          refine wpAnyT_one (i := 17) (o := { dst := some 43, op := Op.fieldAddr 61 (Operand.tmp 42) 3, type := 0, pos := "ref.go:93", after := #[{ on := 16, ground := Ground.data }, { on := 0, ground := Ground.phase }, { on := 1, ground := Ground.phase }, { on := 2, ground := Ground.phase }, { on := 3, ground := Ground.phase }, { on := 4, ground := Ground.phase }, { on := 5, ground := Ground.phase }, { on := 6, ground := Ground.phase }, { on := 7, ground := Ground.phase }, { on := 8, ground := Ground.phase }, { on := 9, ground := Ground.phase }, { on := 10, ground := Ground.phase }, { on := 11, ground := Ground.phase }, { on := 12, ground := Ground.phase }, { on := 13, ground := Ground.phase }, { on := 14, ground := Ground.phase }, { on := 15, ground := Ground.phase }], guard := none }) (by kernel_rfl) rfl (fun K hK => ?_)
          go_simp
          refine hK.out _ _ (fun _ => K5.out) ?_
          clear hK K
          (try simp only [Act.put, List.setIfInBounds_toArray, List.set_cons_zero, List.set_cons_succ])
          refine wpAnyT_one (i := 18) (o := { dst := none, op := Op.store 35 (Operand.tmp 43) (Operand.tmp 41), type := 0, pos := "ref.go:93", after := #[{ on := 17, ground := Ground.data }, { on := 15, ground := Ground.data }, { on := 15, ground := Ground.chain }, { on := 0, ground := Ground.phase }, { on := 1, ground := Ground.phase }, { on := 2, ground := Ground.phase }, { on := 3, ground := Ground.phase }, { on := 4, ground := Ground.phase }, { on := 5, ground := Ground.phase }, { on := 6, ground := Ground.phase }, { on := 7, ground := Ground.phase }, { on := 8, ground := Ground.phase }, { on := 9, ground := Ground.phase }, { on := 10, ground := Ground.phase }, { on := 11, ground := Ground.phase }, { on := 12, ground := Ground.phase }, { on := 13, ground := Ground.phase }, { on := 14, ground := Ground.phase }, { on := 15, ground := Ground.phase }], guard := none }) (by kernel_rfl) rfl (fun K hK => ?_)
          go_simp
          refine hK.out _ _ (vac (by kernel_rfl)) ?_
          clear hK K
          (try simp only [Act.put, List.setIfInBounds_toArray, List.set_cons_zero, List.set_cons_succ])
          refine wpAnyT_done (by kernel_rfl) ?_ _
          generalize w5.setCell ⟨b, 3, none⟩ (.slice a5 m5 c5) = w6 at *
          go_wp2_with (go_at_call 33; refine CM.out.mono ?_; rintro e W ⟨idv, v2, vl2, rfl, fin⟩; replace fin := hide fin)
          go_ret2
          exact ⟨idv, rfl, v2, vl2, fin.out⟩
      · have hne2 : Hid (i + 1 ≤ ixI q.L id) := by
          show _ ≤ _
          rcases Nat.lt_or_ge i (ixI q.L id) with h | h
          · exact h
          · exfalso
            have ei : ixI q.L id = i := Nat.le_antisymm h hne.out
            have := ix_at q.L id (by rw [ei]; exact hlt)
            rw [ei] at this
            exact he this
        have he2 : ¬ ((g q.L i).1 = id) := he
        clear hr
        go_wp2_with fail
        go_roundw
        case rel => exact ⟨i + 1, by go_num, by omega, by trivial, hne2.out⟩
        case measure => simp [intOf]; omega
    · obtain rfl : i = M := by omega
      have j1 : ¬ ((i : Int) < (i : Int)) := by omega
      obtain rfl : z = ([], 6, q) := by
        rw [← hz.out]
        unfold leaveQ
        rw [if_neg]
        rw [hM.out]
        exact Nat.not_lt.2 hne.out
      go_wp2_with fail
      go_ret2
      exact ⟨_, rfl, _, _, hA.out, Stp.refl _ _ _ _, Ids.nil _ _⟩
end Go.Proofs.Ytfoleeamhhodaaa.Qu

/-
  The document's Clear. (gen_RqG.py)
-/
namespace Go.Proofs.Ytfoleeamhhodaaa.Qu
open Go.RowKit
open Ix (wp_region_T wpAnyT wpAnyT_take wpAnyT_one wpAnyT_done vac)
set_option linter.unusedVariables false
set_option maxRecDepth 100000
theorem run_noneV {w : World} {n c k : Nat} {ao ad : Option Addr} (hn : n ≤ c) (ty : TypeId) :
    (Builtin.append_ #[35, 35] ty #[.slice ao n c, .slice ad 0 k]).run Try.prog w = .ok (.slice ao n c) w := by
  obtain ⟨i0, hi, hz0, hz1, hz2⟩ := info_parts infoIt
  cases ad with
  | none => cases ao <;> simp [Builtin.append_, run_underlying Try.underlying35, sizeOf, typeInfo, hi, Builtin.lenOf, Builtin.firstCells, hn, storeCells]
  | some ad =>
    have hf := run_firstCells_some (P := Try.prog) (w := w) i0.size 0 ad 0 k [] (by simp) (fun j v hv => by simp at hv)
    cases ao <;> simp [Builtin.append_, run_underlying Try.underlying35, sizeOf, typeInfo, hi, Builtin.lenOf, hf, hn, storeCells]
/-- A list behind a list of one's own. -/
theorem run_catV {B : Nat} {w : World} {v u : Value} {l m : List Itm} (h : Itb B w v l) (h2 : Tr w u m) (hl : l.length + m.length ≤ 1000000) (hB : B ≤ w.heap.size) (ty : TypeId) :
    ∃ v' w', (Builtin.append_ #[35, 35] ty #[v, u]).run Try.prog w = .ok v' w' ∧ Itb B w' v' (l ++ m) ∧ w.grownBy w' v.ownBlock ∧ (v'.ownBlock = v.ownBlock ∨ v'.ownBlock = some w.heap.size) := by
  by_cases hm : m = []
  · obtain ⟨ao, ca, rfl, _, q2⟩ := h.its.form
    obtain ⟨uo, uc, rfl, _, _⟩ := h2.form
    subst hm
    refine ⟨_, w, run_noneV q2 ty, by rw [List.append_nil]; exact h, World.grownBy.refl _ _, .inl rfl⟩
  · obtain ⟨tb, ca, rfl, q1, q2, _⟩ := h2.read hm
    have hlie := h2.lie
    obtain ⟨i0, hi, hz0, hz1, hz2⟩ := info_parts infoIt
    obtain ⟨v', w', hr, ho, hg, _, hat⟩ := run_append_own_at (P := Try.prog) w B 35 ty 48 i0 (.agg #[.int .i64 0, .int .i64 0]) 2 16 Try.underlying35 hi hz0 hz1 hz2 rfl (by decide) v l.length (icells l) h ⟨tb, 0, none⟩ m.length ca (icells m) (by rw [icells_len]) (fun j u hu => by rw [addr_add]; exact hlie j u hu) (ione m) (by unfold maxLen; omega) (by omega) hB
    refine ⟨v', w', hr, ?_, hg, hat⟩
    unfold Itb
    rw [List.length_append, icells_append]
    exact ho
def clearQ (q : Q) : List Int × Q := ((q.H ++ q.L).map (·.1), ⟨q.cap, q.bytes, [], []⟩)
def Rz (w wr : World) (b : Nat) (q : Q) (v vl av iv : Value) (i : Nat) : Prop :=
  RA wr b q v vl ∧ Stp b v vl v vl w wr ∧ Its wr av (q.H ++ q.L) ∧ Ids w.heap.size wr iv (((q.H ++ q.L).take i).map (·.1))
set_option maxHeartbeats 8000000 in
theorem rclear_any (w : World) (b : Nat) (q : Q) (v vl : Value) (h : RA w b q v vl) (ok : Ok q) :
    Calls Try.prog 18 #[.pointer (some ⟨b, 0, none⟩)] w fun e w' => ∃ idv v' vl', e = .returned idv ∧ RA w' b (clearQ q).2 v' vl' ∧ Stp b v vl v' vl' w w' ∧ Ids w.heap.size w' idv (clearQ q).1 := by
  have hA := hide h
  have hn := ok.hn
  have hln := ok.ln
  have CAT : Hid (∀ x, Below w.heap.size w x → ∃ a1 n1 c1 w1, Hid ((Builtin.append_ #[35, 35] 35 #[.slice none 0 0, v]).run Try.prog x = .ok (.slice a1 n1 c1) w1) ∧ Hid (Rx w1 b q v vl) ∧ ∃ a2 n2 c2 w2, Hid ((Builtin.append_ #[35, 35] 35 #[.slice a1 n1 c1, vl]).run Try.prog w1 = .ok (.slice a2 n2 c2) w2) ∧ Hid (Rx w2 b q v vl) ∧ Hid (Rz w w2 b q v vl (.slice a2 n2 c2) (.slice none 0 0) 0 ∧ n2 = (q.H ++ q.L).length)) := by
    intro x bx
    obtain ⟨v1, w1, e1, e2, e3, e4⟩ := run_catV (B := w.heap.size) (v := .slice none 0 0) (l := []) (World.ownsRow_nil _ _ _ _) (.inl (h.below bx).row) (by simp; omega) bx.size 35
    have b1 : Below w.heap.size w w1 := bx.grown e3 bx.size (fun k hk => by simp [Value.ownBlock] at hk)
    rw [List.nil_append] at e2
    have A1 := h.below b1
    obtain ⟨v2, w2, f1, f2, f3, f4⟩ := run_catV e2 A1.line (by omega) b1.size 35
    have b2 : Below w.heap.size w w2 := b1.grown f3 b1.size (fun k hk => (e2.lt k hk).1)
    have A2 := h.below b2
    obtain ⟨a1, n1, c1, rfl⟩ := slice_of e2.its
    obtain ⟨a2, c2, hv2, _, _⟩ := f2.its.form
    subst hv2
    exact ⟨a1, n1, c1, w1, e1, A1.box, a2, _, c2, w2, f1, A2.box, ⟨A2, Stp.below b2, f2.its, Ids.nil _ _⟩, rfl⟩
  obtain ⟨N, hN⟩ : ∃ N, Hid ((q.H ++ q.L).length = N) := ⟨_, rfl⟩
  have hNb : N ≤ 2048 := by rw [← hN.out, List.length_append]; omega
  rw [hN.out] at CAT
  clear h ok
  go_enter Try.func18, Try.ntmps18
  go_upto_region 2 with fail
  have KP : Hid (Rx w.drew b q v vl) := hide (hA.out.below (Below.refl _ _).drew).box
  refine wp_region_T (fun x => Rx x b q v vl) 10 (by kernel_rfl) ?_
  obtain ⟨a1, n1, c1, w1, r1, K1, a2, n2, c2, w2, r2, K2, CC⟩ := CAT.out w.drew (Below.refl _ _).drew
  generalize w.drew = x at *
  refine wpAnyT_take (i := 0) (oi := { dst := some 6, op := Op.move (Operand.tmp 0), type := 28, pos := "ref.go:103", after := #[], guard := none }) (v := .pointer (some ⟨b, 0, none⟩)) [1, 2, 3, 4, 9, 10] rfl (by kernel_rfl) (by kernel_rfl) (by kernel_rfl) (by kernel_rfl) (fun _ _ _ h => h) (Or.inl ⟨by rfl, ?_⟩) KP.out ?_
  · intro wq hSw
    obtain ⟨y2, y3⟩ := hSw.cells
    go_simp
  (try simp only [Act.put, List.setIfInBounds_toArray, List.set_cons_zero, List.set_cons_succ])
  refine wpAnyT_take (i := 1) (oi := { dst := some 7, op := Op.nilCheck (Operand.tmp 6), type := 0, pos := "ref.go:103", after := #[{ on := 0, ground := Ground.data }], guard := none }) (v := .pointer (some ⟨b, 0, none⟩)) [2, 3, 4, 9, 10] rfl (by kernel_rfl) (by kernel_rfl) (by kernel_rfl) (by kernel_rfl) (fun _ _ _ h => h) (Or.inl ⟨by rfl, ?_⟩) KP.out ?_
  · intro wq hSw
    obtain ⟨y2, y3⟩ := hSw.cells
    go_simp
  (try simp only [Act.put, List.setIfInBounds_toArray, List.set_cons_zero, List.set_cons_succ])
  refine wpAnyT_take (i := 2) (oi := { dst := some 8, op := Op.fieldAddr 61 (Operand.tmp 7) 2, type := 0, pos := "ref.go:103", after := #[{ on := 1, ground := Ground.data }], guard := none }) (v := .pointer (some ⟨b, 2, none⟩)) [3, 4, 9, 10] rfl (by kernel_rfl) (by kernel_rfl) (by kernel_rfl) (by kernel_rfl) (fun _ _ _ h => h) (Or.inl ⟨by rfl, ?_⟩) KP.out ?_
  · intro wq hSw
    obtain ⟨y2, y3⟩ := hSw.cells
    go_simp
  (try simp only [Act.put, List.setIfInBounds_toArray, List.set_cons_zero, List.set_cons_succ])
  refine wpAnyT_take (i := 3) (oi := { dst := some 9, op := Op.load 35 (Operand.tmp 8), type := 35, pos := "ref.go:103", after := #[{ on := 2, ground := Ground.data }], guard := none }) (v := v) [4, 9, 10] rfl (by kernel_rfl) (by kernel_rfl) (by kernel_rfl) (by kernel_rfl) (fun _ _ _ h => h) (Or.inl ⟨by rfl, ?_⟩) KP.out ?_
  · intro wq hSw
    obtain ⟨y2, y3⟩ := hSw.cells
    go_simp
  (try simp only [Act.put, List.setIfInBounds_toArray, List.set_cons_zero, List.set_cons_succ])
  refine wpAnyT_take (i := 5) (oi := { dst := some 11, op := Op.move (Operand.tmp 0), type := 28, pos := "ref.go:103", after := #[], guard := none }) (v := .pointer (some ⟨b, 0, none⟩)) [6, 7, 8, 9, 10] rfl (by kernel_rfl) (by kernel_rfl) (by kernel_rfl) (by kernel_rfl) (fun _ _ _ h => h) (Or.inl ⟨by rfl, ?_⟩) KP.out ?_
  · intro wq hSw
    obtain ⟨y2, y3⟩ := hSw.cells
    go_simp
  (try simp only [Act.put, List.setIfInBounds_toArray, List.set_cons_zero, List.set_cons_succ])
  refine wpAnyT_take (i := 6) (oi := { dst := some 12, op := Op.nilCheck (Operand.tmp 11), type := 0, pos := "ref.go:103", after := #[{ on := 5, ground := Ground.data }], guard := none }) (v := .pointer (some ⟨b, 0, none⟩)) [7, 8, 9, 10] rfl (by kernel_rfl) (by kernel_rfl) (by kernel_rfl) (by kernel_rfl) (fun _ _ _ h => h) (Or.inl ⟨by rfl, ?_⟩) KP.out ?_
  · intro wq hSw
    obtain ⟨y2, y3⟩ := hSw.cells
    go_simp
  (try simp only [Act.put, List.setIfInBounds_toArray, List.set_cons_zero, List.set_cons_succ])
  refine wpAnyT_take (i := 7) (oi := { dst := some 13, op := Op.fieldAddr 61 (Operand.tmp 12) 3, type := 0, pos := "ref.go:103", after := #[{ on := 6, ground := Ground.data }], guard := none }) (v := .pointer (some ⟨b, 3, none⟩)) [8, 9, 10] rfl (by kernel_rfl) (by kernel_rfl) (by kernel_rfl) (by kernel_rfl) (fun _ _ _ h => h) (Or.inl ⟨by rfl, ?_⟩) KP.out ?_
  · intro wq hSw
    obtain ⟨y2, y3⟩ := hSw.cells
    go_simp
  (try simp only [Act.put, List.setIfInBounds_toArray, List.set_cons_zero, List.set_cons_succ])
  refine wpAnyT_take (i := 8) (oi := { dst := some 14, op := Op.load 35 (Operand.tmp 13), type := 35, pos := "ref.go:103", after := #[{ on := 7, ground := Ground.data }], guard := none }) (v := vl) [9, 10] rfl (by kernel_rfl) (by kernel_rfl) (by kernel_rfl) (by kernel_rfl) (fun _ _ _ h => h) (Or.inl ⟨by rfl, ?_⟩) KP.out ?_
  · intro wq hSw
    obtain ⟨y2, y3⟩ := hSw.cells
    go_simp
  (try simp only [Act.put, List.setIfInBounds_toArray, List.set_cons_zero, List.set_cons_succ])
  refine wpAnyT_one (i := 4) (o := { dst := some 10, op := Op.call { callee := Callee.builtin Builtin.append, args := #[Operand.const (Value.slice none 0 0), Operand.tmp 9], argTypes := #[35, 35] }, type := 35, pos := "ref.go:103", after := #[{ on := 3, ground := Ground.data }], guard := none }) (by kernel_rfl) rfl (fun K hK => ?_)
  rw [if_pos (by simp [Region.wanted])]
  refine Lib.wp_append_run _ (.const (.slice none 0 0)) (.tmp 9) 35 35 rfl (.slice none 0 0) v (by simp [Act.eval]) (by simp [Act.eval]) _ w1 r1.out ?_
  refine hK.out _ _ (fun _ => K1.out) ?_
  clear hK K
  (try simp only [Act.put, List.setIfInBounds_toArray, List.set_cons_zero, List.set_cons_succ])
  refine wpAnyT_one (i := 9) (o := { dst := some 15, op := Op.call { callee := Callee.builtin Builtin.append, args := #[Operand.tmp 10, Operand.tmp 14], argTypes := #[35, 35] }, type := 35, pos := "ref.go:103", after := #[{ on := 4, ground := Ground.data }, { on := 8, ground := Ground.data }, { on := 4, ground := Ground.chain }], guard := none }) (by kernel_rfl) rfl (fun K hK => ?_)
  rw [if_pos (by simp [Region.wanted])]
  refine Lib.wp_append_run _ (.tmp 10) (.tmp 14) 35 35 rfl (.slice a1 n1 c1) vl (by simp [Act.eval]) (by simp [Act.eval]) _ w2 r2.out ?_
  refine hK.out _ _ (fun _ => K2.out) ?_
  clear hK K
  (try simp only [Act.put, List.setIfInBounds_toArray, List.set_cons_zero, List.set_cons_succ])
  refine wpAnyT_one (i := 10) (o := { dst := some 4, op := Op.assign (Operand.tmp 15), type := 35, pos := "ref.go:103", after := #[{ on := 9, ground := Ground.data }, { on := 9, ground := Ground.chain }, { on := 0, ground := Ground.phase }, { on := 1, ground := Ground.phase }, { on := 2, ground := Ground.phase }, { on := 3, ground := Ground.phase }, { on := 4, ground := Ground.phase }, { on := 5, ground := Ground.phase }, { on := 6, ground := Ground.phase }, { on := 7, ground := Ground.phase }, { on := 8, ground := Ground.phase }, { on := 9, ground := Ground.phase }], guard := none }) (by kernel_rfl) rfl (fun K hK => ?_)
  go_simp
  refine hK.out _ _ (vac (by kernel_rfl)) ?_
  clear hK K
  (try simp only [Act.put, List.setIfInBounds_toArray, List.set_cons_zero, List.set_cons_succ])
  refine wpAnyT_done (by kernel_rfl) ?_ _
  clear KP K1 K2 r1 r2
  obtain ⟨CR, rfl⟩ := CC.out
  replace CR := hide CR
  clear CC CAT hA
  go_wp2_with fail
  go_loopw [3, 5] (fun s3 s5 wr => ∃ i : Nat, s5 = .int .i64 i ∧ i ≤ n2 ∧ Hid (Rz w wr b q v vl (.slice a2 n2 c2) s3 i)) (fun s3 s5 _ => n2 - (intOf s5).toNat)
  case atStart => exact ⟨0, rfl, Nat.zero_le _, CR.out⟩
  case round =>
    obtain ⟨i, rfl, hi, A1, S1, I1, D1⟩ := hrel
    have lik : (((q.H ++ q.L).take i).map (·.1)).length = i := by rw [List.length_map, List.length_take, hN.out]; omega
    obtain ⟨ai, ci, hiv⟩ := D1.form
    rw [lik] at hiv
    subst hiv
    by_cases hlt : i < n2
    · have hlt' : i < (q.H ++ q.L).length := by rw [hN.out]; exact hlt
      obtain ⟨tb, ca, cs, e, _, _, _, q1, q2, _⟩ := I1.at (fun e => by rw [e] at hlt'; simp at hlt')
      simp at e
      obtain ⟨rfl, -, rfl⟩ := e
      obtain ⟨r0, -⟩ := I1.read i hlt'
      obtain ⟨xi, hx⟩ : ∃ xi, Hid ((g (q.H ++ q.L) i).1 = xi) := ⟨_, rfl⟩
      rw [hx.out] at r0
      have j1 : (i : Int) < (n2 : Int) := by omega
      have j0 : (0 : Int) ≤ (i : Int) := by omega
      have AP : ∃ a6 n6 c6 w6, Hid ((Builtin.append_ #[36, 36] 36 #[.slice ai i ci, .slice (some ⟨wr.heap.size, 0, none⟩) 1 1]).run Try.prog (wr.alloc (.cells #[.int .i64 xi] 2)) = .ok (.slice a6 n6 c6) w6) ∧ Hid (Rz w w6 b q v vl (.slice (some ⟨tb, 0, none⟩) n2 c2) (.slice a6 n6 c6) (i + 1)) := by
        have B5 := box_below wr (.cells #[.int .i64 xi] 2)
        have A5 := A1.below B5
        have D5 := D1.below B5
        have I5 := I1.below B5
        have N5 := heap_alloc_new wr (.cells #[.int .i64 xi] 2)
        have N6 : (wr.alloc (.cells #[.int .i64 xi] 2)).cell? ⟨wr.heap.size, 0, none⟩ = some (.int .i64 xi) := by rw [cell_of N5]; simp
        obtain ⟨v6, w6, g1, g2, g3, g4⟩ := run_appN xi wr.heap.size D5 N6 (by rw [lik]; omega) (Nat.le_trans S1.1.size B5.size) 36
        have IA := D5.apartR A5
        have gb : But (fun k => (Value.slice ai i ci).ownBlock = some k) (wr.alloc (.cells #[.int .i64 xi] 2)) w6 := But.of_grownBy g3 fun k e => e
        obtain ⟨a6, c6, e6⟩ := g2.form
        subst e6
        refine ⟨a6, _, c6, w6, g1, A5.but gb fun k hk e => IA k e hk, ?_, I5.but gb fun k hk e => ?_, ?_⟩
        · have S5 := S1.trans (Stp.below B5)
          refine ⟨⟨gb.os.trans S5.1.os, gb.tape.trans S5.1.tape, gb.output.trans S5.1.output, Nat.le_trans S5.1.size gb.size, fun k hk hx => ?_⟩, S5.2⟩
          rw [gb.block k (Nat.lt_of_lt_of_le hk S5.1.size) (fun e => by have := (D1.lt k e).1; omega)]
          exact S5.1.block k hk hx
        · obtain ⟨cs, fz, e1⟩ := D5.type k e
          exact I5.no e1 (by decide) hk
        · rw [← list_take hlt', List.map_append, List.map_cons, List.map_nil, hx.out]
          exact g2
      obtain ⟨a6, n6, c6, w6, r6, K6⟩ := AP
      clear A1 S1 I1 D1
      go_wp2_with (at_builtin; refine wpList_append_runN rfl (.tmp 22) (.tmp 28) rfl rfl rfl r6.out ?_)
      go_roundw
      case rel => exact ⟨i + 1, by go_num, by omega, K6.out⟩
      case measure => simp [intOf]; omega
    · obtain rfl : i = n2 := by omega
      have j1 : ¬ ((i : Int) < (i : Int)) := by omega
      obtain ⟨x1, x2, x3⟩ := A1.setI (But.refl _ _) (v' := .slice none 0 0) (H' := []) (World.ownsRow_nil _ _ _ _) (fun k hk => by simp [Value.ownBlock] at hk)
      obtain ⟨y1, y2, y3⟩ := x2.setL (But.refl _ _) (vl' := .slice none 0 0) (L' := []) (.inl (World.ownsRow_nil _ _ _ _)) (fun k hk => by simp [Value.ownBlock] at hk)
      obtain ⟨u2, -⟩ := x1.cells
      have f2 := x1.frozen 2
      obtain ⟨-, u3⟩ := y1.cells
      have f3 := y1.frozen 3
      have S3 := x3.trans y3
      have FIN : Hid (RA ((wr.setCell ⟨b, 2, none⟩ (.slice none 0 0)).setCell ⟨b, 3, none⟩ (.slice none 0 0)) b (clearQ q).2 (.slice none 0 0) (.slice none 0 0) ∧ Stp b v vl (.slice none 0 0) (.slice none 0 0) w ((wr.setCell ⟨b, 2, none⟩ (.slice none 0 0)).setCell ⟨b, 3, none⟩ (.slice none 0 0)) ∧ Ids w.heap.size ((wr.setCell ⟨b, 2, none⟩ (.slice none 0 0)).setCell ⟨b, 3, none⟩ (.slice none 0 0)) (.slice ai i ci) (clearQ q).1) := by
        refine ⟨y2, S1.trans S3, ?_⟩
        have := D1.but S3.1 (D1.apartR A1)
        rw [List.take_of_length_le (by rw [hN.out]; exact Nat.le_refl _)] at this
        exact this
      clear A1 S1 I1 D1 x1 x2 x3 y1 y2 y3 S3
      go_wp2_with fail
      go_ret
      exact ⟨_, rfl, _, _, FIN.out⟩
end Go.Proofs.Ytfoleeamhhodaaa.Qu

/-
  The document's Look. (gen_RqH.py)
-/
namespace Go.Proofs.Ytfoleeamhhodaaa.Qu
open Go.RowKit
open Ix (wp_region_T wpAnyT wpAnyT_take wpAnyT_one wpAnyT_done vac)
set_option linter.unusedVariables false
set_option maxRecDepth 100000
theorem RA.rx {w : World} {b : Nat} {q : Q} {v vl : Value} (h : RA w b q v vl) : Rx w b q v vl := h.box
set_option maxHeartbeats 8000000 in
theorem rlook_any (w : World) (b : Nat) (q : Q) (v vl : Value) (h : RA w b q v vl) (ok : Ok q) : Calls Try.prog 37 #[.pointer (some ⟨b, 0, none⟩)] w fun e w' => e = .returned (lookV q.H.length (sumS q.H) q.L.length) ∧ Below w.heap.size w w' := by
  have B1 := box_below w (.cells #[.int .i64 0, .int .i64 0, .int .i64 0] 50)
  have X1 : Lx (w.alloc (.cells #[.int .i64 0, .int .i64 0, .int .i64 0] 50)) w.heap.size 0 0 0 := Lx.new w 0 0 0
  have h1 := h.below B1
  obtain ⟨va, vc, hv, _, _⟩ := h.row.form
  obtain ⟨la, lc, hvl, _, _⟩ := h.line.form
  have HS : Hid (∀ x, RA x b q v vl → Calls Try.prog 32 #[v] x fun e w' => e = .returned (.int .i64 (sumS q.H)) ∧ w' = x) := fun x hx => rsum_any x v q.H hx.row.rd (Nat.le_trans ok.hn (by decide)) ok.sums
  have KA := hide h1
  have KX := hide X1
  have FB0 := hide B1
  obtain ⟨w1, hw1⟩ : ∃ w1, Hid (w.alloc (.cells #[.int .i64 0, .int .i64 0, .int .i64 0] 50) = w1) := ⟨_, rfl⟩
  rw [hw1.out] at KA KX FB0
  obtain ⟨hl, hhl⟩ : ∃ hl, Hid (q.H.length = hl) := ⟨_, rfl⟩
  obtain ⟨us, hus⟩ : ∃ us, Hid (sumS q.H = us) := ⟨_, rfl⟩
  obtain ⟨n, hn⟩ : ∃ n, Hid (q.L.length = n) := ⟨_, rfl⟩
  rw [hhl.out] at hv ⊢
  rw [hn.out] at hvl ⊢
  rw [hus.out] at HS ⊢
  subst hv hvl
  clear h h1 ok B1 X1
  unfold lookV
  go_enter Try.func37, Try.ntmps37
  go_upto_region 1 with fail
  rw [hw1.out]
  refine wp_region_T (fun x => RA x b q (.slice (va) hl vc) (.slice (la) n lc) ∧ Lx x w.heap.size 0 0 0) 16 (by kernel_rfl) ?_
  have KP : Hid (RA w1.drew b q (.slice (va) hl vc) (.slice (la) n lc) ∧ Lx w1.drew w.heap.size 0 0 0) := hide ⟨KA.out.below (Below.refl _ _).drew, KX.out⟩
  have KB : Hid (Below w.heap.size w w1.drew) := hide FB0.out.drew
  clear KA KX FB0
  generalize w1.drew = x at *
  refine wpAnyT_take (i := 0) (oi := { dst := some 3, op := Op.move (Operand.tmp 0), type := 28, pos := "ref.go:114", after := #[], guard := none }) (v := .pointer (some ⟨b, 0, none⟩)) [1, 2, 3, 4, 15, 16] rfl (by kernel_rfl) (by kernel_rfl) (by kernel_rfl) (by kernel_rfl) (fun _ _ _ h => h) (Or.inl ⟨by rfl, ?_⟩) KP.out ?_
  · intro wq hSw
    obtain ⟨y2, y3⟩ := hSw.1.rx.cells
    go_simp
  (try simp only [Act.put, List.setIfInBounds_toArray, List.set_cons_zero, List.set_cons_succ])
  refine wpAnyT_take (i := 1) (oi := { dst := some 4, op := Op.nilCheck (Operand.tmp 3), type := 0, pos := "ref.go:114", after := #[{ on := 0, ground := Ground.data }], guard := none }) (v := .pointer (some ⟨b, 0, none⟩)) [2, 3, 4, 15, 16] rfl (by kernel_rfl) (by kernel_rfl) (by kernel_rfl) (by kernel_rfl) (fun _ _ _ h => h) (Or.inl ⟨by rfl, ?_⟩) KP.out ?_
  · intro wq hSw
    obtain ⟨y2, y3⟩ := hSw.1.rx.cells
    go_simp
  (try simp only [Act.put, List.setIfInBounds_toArray, List.set_cons_zero, List.set_cons_succ])
  refine wpAnyT_take (i := 2) (oi := { dst := some 5, op := Op.fieldAddr 61 (Operand.tmp 4) 2, type := 0, pos := "ref.go:114", after := #[{ on := 1, ground := Ground.data }], guard := none }) (v := .pointer (some ⟨b, 2, none⟩)) [3, 4, 15, 16] rfl (by kernel_rfl) (by kernel_rfl) (by kernel_rfl) (by kernel_rfl) (fun _ _ _ h => h) (Or.inl ⟨by rfl, ?_⟩) KP.out ?_
  · intro wq hSw
    obtain ⟨y2, y3⟩ := hSw.1.rx.cells
    go_simp
  (try simp only [Act.put, List.setIfInBounds_toArray, List.set_cons_zero, List.set_cons_succ])
  refine wpAnyT_take (i := 3) (oi := { dst := some 6, op := Op.load 35 (Operand.tmp 5), type := 35, pos := "ref.go:114", after := #[{ on := 2, ground := Ground.data }], guard := none }) (v := .slice (va) hl vc) [4, 15, 16] rfl (by kernel_rfl) (by kernel_rfl) (by kernel_rfl) (by kernel_rfl) (fun _ _ _ h => h) (Or.inl ⟨by rfl, ?_⟩) KP.out ?_
  · intro wq hSw
    obtain ⟨y2, y3⟩ := hSw.1.rx.cells
    go_simp
  (try simp only [Act.put, List.setIfInBounds_toArray, List.set_cons_zero, List.set_cons_succ])
  refine wpAnyT_take (i := 4) (oi := { dst := some 7, op := Op.call { callee := Callee.builtin Builtin.len, args := #[Operand.tmp 6], argTypes := #[35] }, type := 3, pos := "ref.go:114", after := #[{ on := 3, ground := Ground.data }], guard := none }) (v := .int .i64 (hl : Int)) [15, 16] rfl (by kernel_rfl) (by kernel_rfl) (by kernel_rfl) (by kernel_rfl) (fun _ _ _ h => h) (Or.inl ⟨by rfl, ?_⟩) KP.out ?_
  · intro wq hSw
    obtain ⟨y2, y3⟩ := hSw.1.rx.cells
    go_simp
  (try simp only [Act.put, List.setIfInBounds_toArray, List.set_cons_zero, List.set_cons_succ])
  refine wpAnyT_take (i := 5) (oi := { dst := some 8, op := Op.move (Operand.tmp 0), type := 28, pos := "ref.go:114", after := #[], guard := none }) (v := .pointer (some ⟨b, 0, none⟩)) [6, 7, 8, 9, 15, 16] rfl (by kernel_rfl) (by kernel_rfl) (by kernel_rfl) (by kernel_rfl) (fun _ _ _ h => h) (Or.inl ⟨by rfl, ?_⟩) KP.out ?_
  · intro wq hSw
    obtain ⟨y2, y3⟩ := hSw.1.rx.cells
    go_simp
  (try simp only [Act.put, List.setIfInBounds_toArray, List.set_cons_zero, List.set_cons_succ])
  refine wpAnyT_take (i := 6) (oi := { dst := some 9, op := Op.nilCheck (Operand.tmp 8), type := 0, pos := "ref.go:114", after := #[{ on := 5, ground := Ground.data }], guard := none }) (v := .pointer (some ⟨b, 0, none⟩)) [7, 8, 9, 15, 16] rfl (by kernel_rfl) (by kernel_rfl) (by kernel_rfl) (by kernel_rfl) (fun _ _ _ h => h) (Or.inl ⟨by rfl, ?_⟩) KP.out ?_
  · intro wq hSw
    obtain ⟨y2, y3⟩ := hSw.1.rx.cells
    go_simp
  (try simp only [Act.put, List.setIfInBounds_toArray, List.set_cons_zero, List.set_cons_succ])
  refine wpAnyT_take (i := 7) (oi := { dst := some 10, op := Op.fieldAddr 61 (Operand.tmp 9) 2, type := 0, pos := "ref.go:114", after := #[{ on := 6, ground := Ground.data }], guard := none }) (v := .pointer (some ⟨b, 2, none⟩)) [8, 9, 15, 16] rfl (by kernel_rfl) (by kernel_rfl) (by kernel_rfl) (by kernel_rfl) (fun _ _ _ h => h) (Or.inl ⟨by rfl, ?_⟩) KP.out ?_
  · intro wq hSw
    obtain ⟨y2, y3⟩ := hSw.1.rx.cells
    go_simp
  (try simp only [Act.put, List.setIfInBounds_toArray, List.set_cons_zero, List.set_cons_succ])
  refine wpAnyT_take (i := 8) (oi := { dst := some 11, op := Op.load 35 (Operand.tmp 10), type := 35, pos := "ref.go:114", after := #[{ on := 7, ground := Ground.data }], guard := none }) (v := .slice (va) hl vc) [9, 15, 16] rfl (by kernel_rfl) (by kernel_rfl) (by kernel_rfl) (by kernel_rfl) (fun _ _ _ h => h) (Or.inl ⟨by rfl, ?_⟩) KP.out ?_
  · intro wq hSw
    obtain ⟨y2, y3⟩ := hSw.1.rx.cells
    go_simp
  (try simp only [Act.put, List.setIfInBounds_toArray, List.set_cons_zero, List.set_cons_succ])
  refine wpAnyT_take (i := 10) (oi := { dst := some 13, op := Op.move (Operand.tmp 0), type := 28, pos := "ref.go:114", after := #[], guard := none }) (v := .pointer (some ⟨b, 0, none⟩)) [11, 12, 13, 14, 15, 16] rfl (by kernel_rfl) (by kernel_rfl) (by kernel_rfl) (by kernel_rfl) (fun _ _ _ h => h) (Or.inl ⟨by rfl, ?_⟩) KP.out ?_
  · intro wq hSw
    obtain ⟨y2, y3⟩ := hSw.1.rx.cells
    go_simp
  (try simp only [Act.put, List.setIfInBounds_toArray, List.set_cons_zero, List.set_cons_succ])
  refine wpAnyT_take (i := 11) (oi := { dst := some 14, op := Op.nilCheck (Operand.tmp 13), type := 0, pos := "ref.go:114", after := #[{ on := 10, ground := Ground.data }], guard := none }) (v := .pointer (some ⟨b, 0, none⟩)) [12, 13, 14, 15, 16] rfl (by kernel_rfl) (by kernel_rfl) (by kernel_rfl) (by kernel_rfl) (fun _ _ _ h => h) (Or.inl ⟨by rfl, ?_⟩) KP.out ?_
  · intro wq hSw
    obtain ⟨y2, y3⟩ := hSw.1.rx.cells
    go_simp
  (try simp only [Act.put, List.setIfInBounds_toArray, List.set_cons_zero, List.set_cons_succ])
  refine wpAnyT_take (i := 12) (oi := { dst := some 15, op := Op.fieldAddr 61 (Operand.tmp 14) 3, type := 0, pos := "ref.go:114", after := #[{ on := 11, ground := Ground.data }], guard := none }) (v := .pointer (some ⟨b, 3, none⟩)) [13, 14, 15, 16] rfl (by kernel_rfl) (by kernel_rfl) (by kernel_rfl) (by kernel_rfl) (fun _ _ _ h => h) (Or.inl ⟨by rfl, ?_⟩) KP.out ?_
  · intro wq hSw
    obtain ⟨y2, y3⟩ := hSw.1.rx.cells
    go_simp
  (try simp only [Act.put, List.setIfInBounds_toArray, List.set_cons_zero, List.set_cons_succ])
  refine wpAnyT_take (i := 13) (oi := { dst := some 16, op := Op.load 35 (Operand.tmp 15), type := 35, pos := "ref.go:114", after := #[{ on := 12, ground := Ground.data }], guard := none }) (v := .slice (la) n lc) [14, 15, 16] rfl (by kernel_rfl) (by kernel_rfl) (by kernel_rfl) (by kernel_rfl) (fun _ _ _ h => h) (Or.inl ⟨by rfl, ?_⟩) KP.out ?_
  · intro wq hSw
    obtain ⟨y2, y3⟩ := hSw.1.rx.cells
    go_simp
  (try simp only [Act.put, List.setIfInBounds_toArray, List.set_cons_zero, List.set_cons_succ])
  refine wpAnyT_take (i := 14) (oi := { dst := some 17, op := Op.call { callee := Callee.builtin Builtin.len, args := #[Operand.tmp 16], argTypes := #[35] }, type := 3, pos := "ref.go:114", after := #[{ on := 13, ground := Ground.data }], guard := none }) (v := .int .i64 (n : Int)) [15, 16] rfl (by kernel_rfl) (by kernel_rfl) (by kernel_rfl) (by kernel_rfl) (fun _ _ _ h => h) (Or.inl ⟨by rfl, ?_⟩) KP.out ?_
  · intro wq hSw
    obtain ⟨y2, y3⟩ := hSw.1.rx.cells
    go_simp
  (try simp only [Act.put, List.setIfInBounds_toArray, List.set_cons_zero, List.set_cons_succ])
  have SM := hide (HS.out x KP.out.1)
  refine wpAnyT_one (i := 9) (o := { dst := some 12, op := Op.call { callee := Callee.value (Operand.func 32), args := #[Operand.tmp 11], argTypes := #[35] }, type := 3, pos := "ref.go:114", after := #[{ on := 8, ground := Ground.data }], guard := none }) (by kernel_rfl) rfl (fun K hK => ?_)
  go_simp
  go_at_call 32
  refine SM.out.mono ?_
  rintro e w' ⟨rfl, hw⟩
  rw [hw]
  clear hw w'
  (try go_simp)
  refine hK.out _ _ (fun _ => KP.out) ?_
  clear hK K
  (try simp only [Act.put, List.setIfInBounds_toArray, List.set_cons_zero, List.set_cons_succ])
  refine wpAnyT_one (i := 15) (o := { dst := some 18, op := Op.build 50 #[(0, Operand.tmp 7), (1, Operand.tmp 12), (2, Operand.tmp 17)], type := 50, pos := "ref.go:114", after := #[{ on := 4, ground := Ground.data }, { on := 9, ground := Ground.data }, { on := 14, ground := Ground.data }], guard := none }) (by kernel_rfl) rfl (fun K hK => ?_)
  go_simp
  refine hK.out _ _ (fun _ => KP.out) ?_
  clear hK K
  (try simp only [Act.put, List.setIfInBounds_toArray, List.set_cons_zero, List.set_cons_succ])
  obtain ⟨s0, s1, s2⟩ := KP.out.2.cells
  have z0 := KP.out.2.frozen 0
  have z1 := KP.out.2.frozen 1
  have z2 := KP.out.2.frozen 2
  refine wpAnyT_one (i := 16) (o := { dst := none, op := Op.store 50 (Operand.tmp 2) (Operand.tmp 18), type := 0, pos := "ref.go:114", after := #[{ on := 15, ground := Ground.data }, { on := 9, ground := Ground.chain }, { on := 0, ground := Ground.phase }, { on := 1, ground := Ground.phase }, { on := 2, ground := Ground.phase }, { on := 3, ground := Ground.phase }, { on := 4, ground := Ground.phase }, { on := 5, ground := Ground.phase }, { on := 6, ground := Ground.phase }, { on := 7, ground := Ground.phase }, { on := 8, ground := Ground.phase }, { on := 9, ground := Ground.phase }, { on := 10, ground := Ground.phase }, { on := 11, ground := Ground.phase }, { on := 12, ground := Ground.phase }, { on := 13, ground := Ground.phase }, { on := 14, ground := Ground.phase }, { on := 15, ground := Ground.phase }], guard := none }) (by kernel_rfl) rfl (fun K hK => ?_)
  go_simp
  refine hK.out _ _ (vac (by kernel_rfl)) ?_
  clear hK K
  (try simp only [Act.put, List.setIfInBounds_toArray, List.set_cons_zero, List.set_cons_succ])
  refine wpAnyT_done (by kernel_rfl) ?_ _
  have FIN := hide (KP.out.2.all (hl : Int) us (n : Int))
  have FB := hide (below_three KB.out w.heap.size (Nat.le_refl _) (.int .i64 (hl : Int)) (.int .i64 us) (.int .i64 (n : Int)))
  clear KP SM HS
  go_wp2_with fail
  try simp only [Exit.inBlock, Exit.then]
  refine bodyPost_ret (v := .agg _) (results_cell_row rfl _ _ w.heap.size 50 _ (0, 0) _ rfl FIN.out Try.underlying50 rfl lookSize) rfl ?_
  exact ⟨rfl, FB.out⟩
end Go.Proofs.Ytfoleeamhhodaaa.Qu

/-
  The law's items, ids: lists that are the same.
-/
namespace Go.Proofs.Ytfoleeamhhodaaa.Qu
open Go.RowKit
set_option linter.unusedVariables false
set_option maxRecDepth 100000
def Rd1 (w : World) (v : Value) (l : List Int) : Prop := ∃ ao ca, v = .slice ao l.length ca ∧ (l ≠ [] → ∃ tb, ao = some ⟨tb, 0, none⟩ ∧ ∀ i, i < l.length → w.cell? ⟨tb, i, none⟩ = (l[i]?).map (Value.int .i64))
theorem Ids.rd {B : Nat} {w : World} {v : Value} {l : List Int} (h : Ids B w v l) : Rd1 w v l := by
  rcases h.2 with ⟨rfl, e⟩ | ⟨gb, cap, cur, rfl, hg, hh, q1, q2, q3, q4⟩
  · have : l = [] := List.length_eq_zero_iff.1 (by simpa using e)
    subst this
    exact ⟨none, 0, rfl, fun c => absurd rfl c⟩
  · refine ⟨_, _, rfl, fun _ => ⟨gb, rfl, fun i hi => ?_⟩⟩
    have h0 : (cur.toList.take (l.length * 1))[i]? = cur.toList[i]? := List.getElem?_take_of_lt (by omega)
    rw [cell_of hh, ← Array.getElem?_toList, ← h0, q4, List.getElem?_map]
set_option maxHeartbeats 4000000 in
theorem litems_any (w : World) (v u : Value) (l : List Itm) (h : Rd2 w v l) (h2 : Rd2 w u l) (hl : l.length ≤ 1000000) : Calls Try.prog 13 #[v, u] w fun e w' => e = .returned (.bool true) ∧ Qt w w' := by
  obtain ⟨ao, ca, rfl, hr⟩ := h
  obtain ⟨bo, cb, rfl, hr2⟩ := h2
  obtain ⟨N, hN⟩ : ∃ N, Hid (l.length = N) := ⟨_, rfl⟩
  replace hr := hide hr
  replace hr2 := hide hr2
  rw [hN.out] at hl ⊢
  go_enter Try.func13, Try.ntmps13
  go_wp2_with fail
  go_loopw [5] (fun s5 wr => ∃ i : Nat, s5 = .int .i64 i ∧ i ≤ N ∧ Hid (Qt w wr)) (fun s5 _ => N - (intOf s5).toNat)
  case atStart => exact ⟨0, rfl, Nat.zero_le _, Qt.refl _⟩
  case round =>
    obtain ⟨i, rfl, hi, hq⟩ := hrel
    by_cases hiN : i < N
    · have h1 : (i : Int) < (N : Int) := Int.ofNat_lt.2 hiN
      have h0 : (0 : Int) ≤ (i : Int) := by omega
      have hil : i < l.length := by rw [hN.out]; exact hiN
      obtain ⟨tb, rfl, hc⟩ := hr.out (fun c => by rw [c] at hil; simp at hil)
      obtain ⟨tb2, rfl, hc2⟩ := hr2.out (fun c => by rw [c] at hil; simp at hil)
      obtain ⟨r0, r1⟩ := hc i hil
      obtain ⟨s0, s1⟩ := hc2 i hil
      rw [← hq.out.cell] at r0 r1 s0 s1
      obtain ⟨x, hx⟩ : ∃ x, Hid ((g l i).1 = x) := ⟨_, rfl⟩
      obtain ⟨y, hy⟩ : ∃ y, Hid ((g l i).2 = y) := ⟨_, rfl⟩
      rw [hx.out] at r0 s0
      rw [hy.out] at r1 s1
      have ew1 : wrap64 ((i : Int) + 1) = (i : Int) + 1 := by unfold wrap64; omega
      clear hc hc2
      go_upto_region 6 with fail
      go_quiet (fail)
      have Q2 : Hid (Qt w (wr.drewN nq)) := hq.out.trans ⟨nq, rfl⟩
      generalize wr.drewN nq = wz at *
      go_wp2_with fail
      go_roundw
      case measure => simp only [intOf]; omega
      case rel => exact ⟨i + 1, by go_num, hiN, Q2.out⟩
    · have h1 : ¬ (i : Int) < (N : Int) := fun c => hiN (Int.ofNat_lt.1 c)
      go_wp2_with fail
      go_ret
      exact ⟨rfl, hq.out⟩
set_option maxHeartbeats 4000000 in
theorem lids_any (w : World) (v u : Value) (l : List Int) (h : Rd1 w v l) (h2 : Rd1 w u l) (hl : l.length ≤ 1000000) : Calls Try.prog 14 #[v, u] w fun e w' => e = .returned (.bool true) ∧ Qt w w' := by
  obtain ⟨ao, ca, rfl, hr⟩ := h
  obtain ⟨bo, cb, rfl, hr2⟩ := h2
  obtain ⟨N, hN⟩ : ∃ N, Hid (l.length = N) := ⟨_, rfl⟩
  replace hr := hide hr
  replace hr2 := hide hr2
  rw [hN.out] at hl ⊢
  go_enter Try.func14, Try.ntmps14
  go_wp2_with fail
  go_loopw [5] (fun s5 wr => ∃ i : Nat, s5 = .int .i64 i ∧ i ≤ N ∧ Hid (Qt w wr)) (fun s5 _ => N - (intOf s5).toNat)
  case atStart => exact ⟨0, rfl, Nat.zero_le _, Qt.refl _⟩
  case round =>
    obtain ⟨i, rfl, hi, hq⟩ := hrel
    by_cases hiN : i < N
    · have h1 : (i : Int) < (N : Int) := Int.ofNat_lt.2 hiN
      have h0 : (0 : Int) ≤ (i : Int) := by omega
      have hil : i < l.length := by rw [hN.out]; exact hiN
      obtain ⟨tb, rfl, hc⟩ := hr.out (fun c => by rw [c] at hil; simp at hil)
      obtain ⟨tb2, rfl, hc2⟩ := hr2.out (fun c => by rw [c] at hil; simp at hil)
      have r0 := hc i hil
      have s0 := hc2 i hil
      rw [← hq.out.cell, List.getElem?_eq_getElem hil, Option.map_some] at r0 s0
      obtain ⟨x, hx⟩ : ∃ x, Hid (l[i]'hil = x) := ⟨l[i]'hil, hide rfl⟩
      rw [hx.out] at r0 s0
      have ew1 : wrap64 ((i : Int) + 1) = (i : Int) + 1 := by unfold wrap64; omega
      clear hc hc2
      go_upto_region 6 with fail
      go_quiet (fail)
      have Q2 : Hid (Qt w (wr.drewN nq)) := hq.out.trans ⟨nq, rfl⟩
      generalize wr.drewN nq = wz at *
      go_wp2_with fail
      go_roundw
      case measure => simp only [intOf]; omega
      case rel => exact ⟨i + 1, by go_num, hiN, Q2.out⟩
    · have h1 : ¬ (i : Int) < (N : Int) := fun c => hiN (Int.ofNat_lt.1 c)
      go_wp2_with fail
      go_ret
      exact ⟨rfl, hq.out⟩
end Go.Proofs.Ytfoleeamhhodaaa.Qu

/-
  Both queues side by side: Two.
-/
namespace Go.Proofs.Ytfoleeamhhodaaa.Qu
open Go.RowKit
set_option linter.unusedVariables false
set_option maxRecDepth 100000
/-- At block b lies the program's queue p, at block r the document's queue q, both made since w. -/
def Two (w u : World) (b r : Nat) (p q : Q) : Prop :=
  ∃ v vl v2 vl2, QA u b p v vl ∧ RA u r q v2 vl2 ∧ Ok p ∧ Ok q ∧ Below w.heap.size w u ∧ (∀ k, Own b v vl k → w.heap.size ≤ k) ∧ (∀ k, Own r v2 vl2 k → w.heap.size ≤ k) ∧ ∀ k, Own b v vl k → ¬ Own r v2 vl2 k
theorem Two.below {w u u' : World} {b r : Nat} {p q : Q} (h : Two w u b r p q) (hb : Below u.heap.size u u') : Two w u' b r p q := by
  obtain ⟨v, vl, v2, vl2, h1, h2, h3, h4, h5, h6, h7, h8⟩ := h
  exact ⟨v, vl, v2, vl2, h1.below hb, h2.below hb, h3, h4, h5.trans (hb.mono h5.size), h6, h7, h8⟩
theorem Two.bel {w u : World} {b r : Nat} {p q : Q} (h : Two w u b r p q) : Below w.heap.size w u := by
  obtain ⟨v, vl, v2, vl2, h1, h2, h3, h4, h5, h6, h7, h8⟩ := h
  exact h5
theorem Two.new (w u : World) (b : Nat) (q : Q) (h : Mine w u b q) (cap bytes : Int) (hm : mayB cap bytes) : Calls Try.prog 8 #[.int .i64 cap, .int .i64 bytes] u fun e u' => e = .returned (.tuple #[.pointer (some ⟨u.heap.size, 0, none⟩), .int .i64 0]) ∧ Two w u' b u.heap.size q (q0 cap bytes) := by
  obtain ⟨v, vl, h1, h2, h3, h4⟩ := h
  refine (rnew_any u cap bytes hm).mono ?_
  rintro e u' ⟨rfl, k1, k2⟩
  refine ⟨rfl, v, vl, _, _, h1.below k2, k1, h2, q0_ok hm, h3.trans (k2.mono h3.size), h4, ?_, ?_⟩
  · rintro k (rfl | e | e)
    · exact h3.size
    · simp [Value.ownBlock] at e
    · simp [Value.ownBlock] at e
  · intro k hk ho
    have := h1.lt k hk
    rcases ho with rfl | e | e
    · omega
    · simp [Value.ownBlock] at e
    · simp [Value.ownBlock] at e
/-- What lies in new memory since u stays where the document's queue is turned. -/
theorem Two.stepP {w u u' : World} {b r : Nat} {p q p' : Q} {v vl v2 vl2 v' vl' : Value} (h1 : QA u b p v vl) (h2 : RA u r q v2 vl2) (h4 : Ok q) (h5 : Below w.heap.size w u) (h6 : ∀ k, Own b v vl k → w.heap.size ≤ k) (h7 : ∀ k, Own r v2 vl2 k → w.heap.size ≤ k) (h8 : ∀ k, Own b v vl k → ¬ Own r v2 vl2 k)
    (k1 : QA u' b p' v' vl') (ok : Ok p') (k2 : Stp b v vl v' vl' u u') : Two w u' b r p' q := by
  refine ⟨v', vl', v2, vl2, k1, h2.but k2.1 fun k ho hk => h8 k hk ho, ok, h4, h5.trans (k2.1.below h5.size h6), fun k hk => (k2.2 k hk).elim (h6 k) fun e => Nat.le_trans h5.size e, h7, fun k hk ho => ?_⟩
  rcases k2.2 k hk with e | e
  · exact h8 k e ho
  · have := h2.lt k ho
    omega
theorem Two.stepR {w u u' : World} {b r : Nat} {p q' : Q} {v vl v2 vl2 v' vl' : Value} (h1 : QA u b p v vl) (h3 : Ok p) (h5 : Below w.heap.size w u) (h6 : ∀ k, Own b v vl k → w.heap.size ≤ k) (h7 : ∀ k, Own r v2 vl2 k → w.heap.size ≤ k) (h8 : ∀ k, Own b v vl k → ¬ Own r v2 vl2 k)
    (k1 : RA u' r q' v' vl') (ok : Ok q') (k2 : Stp r v2 vl2 v' vl' u u') : Two w u' b r p q' := by
  refine ⟨v, vl, v', vl', h1.but k2.1 fun k ho hk => h8 k ho hk, k1, h3, ok, h5.trans (k2.1.below h5.size h7), h6, fun k hk => (k2.2 k hk).elim (h7 k) fun e => Nat.le_trans h5.size e, fun k hk ho => ?_⟩
  rcases k2.2 k ho with e | e
  · exact h8 k hk e
  · have := h1.lt k hk
    omega
theorem Two.put {w u : World} {b r : Nat} {p q : Q} (h : Two w u b r p q) (id s : Int) : Calls Try.prog 9 #[.pointer (some ⟨b, 0, none⟩), .int .i64 id, .int .i64 s] u fun e u' => e = .returned (.tuple #[.bool (putQ p id s).1, .int .i64 (putQ p id s).2.1]) ∧ Two w u' b r (putQ p id s).2.2 q := by
  obtain ⟨v, vl, v2, vl2, h1, h2, h3, h4, h5, h6, h7, h8⟩ := h
  refine (put_any u b p v vl id s h1 h3).mono ?_
  rintro e u' ⟨rfl, v', vl', k1, k2⟩
  exact ⟨rfl, Two.stepP h1 h2 h4 h5 h6 h7 h8 k1 (put_ok h3 id s) k2⟩
theorem Two.take {w u : World} {b r : Nat} {p q : Q} (h : Two w u b r p q) (most bytes : Int) : Calls Try.prog 11 #[.pointer (some ⟨b, 0, none⟩), .int .i64 most, .int .i64 bytes] u fun e u' => ∃ ov idv, e = .returned (.tuple #[ov, idv]) ∧ Two w u' b r (takeQ p most bytes).2.2 q ∧ Itb u.heap.size u' ov (takeQ p most bytes).1 ∧ Ids u.heap.size u' idv (takeQ p most bytes).2.1 := by
  obtain ⟨v, vl, v2, vl2, h1, h2, h3, h4, h5, h6, h7, h8⟩ := h
  refine (take_any u b p v vl most bytes h1 h3).mono ?_
  rintro e u' ⟨ov, idv, v', vl', rfl, k1, k2, k3, k4⟩
  exact ⟨ov, idv, rfl, Two.stepP h1 h2 h4 h5 h6 h7 h8 k1 (take_ok h3 most bytes) k2, k3, k4⟩
theorem Two.leave {w u : World} {b r : Nat} {p q : Q} (h : Two w u b r p q) (id : Int) : Calls Try.prog 15 #[.pointer (some ⟨b, 0, none⟩), .int .i64 id] u fun e u' => ∃ idv, e = .returned (.tuple #[idv, .int .i64 (leaveQ p id).2.1]) ∧ Two w u' b r (leaveQ p id).2.2 q ∧ Ids u.heap.size u' idv (leaveQ p id).1 := by
  obtain ⟨v, vl, v2, vl2, h1, h2, h3, h4, h5, h6, h7, h8⟩ := h
  refine (leave_any u b p v vl id h1 h3).mono ?_
  rintro e u' ⟨idv, v', vl', rfl, k1, k2, k3⟩
  exact ⟨idv, rfl, Two.stepP h1 h2 h4 h5 h6 h7 h8 k1 (leave_ok h3 id) k2, k3⟩
theorem clear_ok {q : Q} (h : Ok q) : Ok (clearQ q).2 := ⟨h.c1, h.c2, h.b1, h.b2, by show ((0 : Nat) : Int) ≤ q.cap; have := h.c1; omega, by show (0 : Int) ≤ q.bytes; have := h.b1; omega, by simp [clearQ], by simp [clearQ], by simp [clearQ]⟩
theorem Two.look {w u : World} {b r : Nat} {p q : Q} (h : Two w u b r p q) : Calls Try.prog 20 #[.pointer (some ⟨b, 0, none⟩)] u fun e u' => e = .returned (lookV p.H.length (sumS p.H) p.L.length) ∧ Below u.heap.size u u' := by
  obtain ⟨v, vl, v2, vl2, h1, h2, h3, h4, h5, h6, h7, h8⟩ := h
  exact look_any u b p v vl h1 h3
end Go.Proofs.Ytfoleeamhhodaaa.Qu

/-
  The law's same.
-/
namespace Go.Proofs.Ytfoleeamhhodaaa.Qu
open Go.RowKit
set_option linter.unusedVariables false
set_option maxRecDepth 100000
/-- Between the writes over what was answered. -/
def Wo (u wr : World) (a c : Value) (n m : Nat) : Prop := Below u.heap.size u wr ∧ ∃ l k, Itb u.heap.size wr a l ∧ l.length = n ∧ Itb u.heap.size wr c k ∧ k.length = m ∧ ∀ j, a.ownBlock = some j → c.ownBlock ≠ some j
theorem Wo.write {u wr : World} {fo : Option Addr} {fc n m : Nat} {c : Value} (h : Wo u wr (.slice fo n fc) c n m) {j : Nat} (hj : j < n) : ∃ tb a a', fo = some ⟨tb, 0, none⟩ ∧ n ≤ fc ∧ wr.cell? ⟨tb, j * 2, none⟩ = some (.int .i64 a) ∧ wr.cell? ⟨tb, j * 2 + 1, none⟩ = some (.int .i64 a') ∧ wr.frozen? ⟨tb, j * 2, none⟩ = false ∧ wr.frozen? ⟨tb, j * 2 + 1, none⟩ = false ∧ Hid (Wo u ((wr.setCell ⟨tb, j * 2, none⟩ (.int .i64 (-5))).setCell ⟨tb, j * 2 + 1, none⟩ (.int .i64 0)) (.slice fo n fc) c n m) := by
  obtain ⟨hb, l, k, h1, rfl, h2, h3, h4⟩ := h
  obtain ⟨tb, ca, cs, e, hh, x1, x2, q1, q2, _⟩ := h1.its.at (fun e => by rw [e] at hj; simp at hj)
  simp only [Value.slice.injEq] at e
  obtain ⟨rfl, -, rfl⟩ := e
  obtain ⟨r0, r1⟩ := h1.its.read j hj
  have US : But (fun k => k = tb) wr ((wr.setCell ⟨tb, j * 2, none⟩ (.int .i64 (-5))).setCell ⟨tb, j * 2 + 1, none⟩ (.int .i64 0)) := But.of_grownBy (grown_two _ _ _ _ _ _) fun k e => by cases e; rfl
  have hlo := (h1.lt tb rfl).1
  refine ⟨tb, _, _, rfl, q1, r0, r1, h1.its.frz (j * 2), h1.its.frz (j * 2 + 1), hb.trans (US.below hb.size fun k e => by rw [e]; exact hlo), l.set j (-5, 0), k, Itb.of ?_ ?_, by rw [List.length_set], h2.but US fun x hx e => h4 tb rfl (by rw [← e]; exact hx), h3, h4⟩
  · have := h1.its.set j (-5, 0)
    unfold Its at this ⊢
    rw [List.length_set] at this ⊢
    exact this
  · intro x hx
    exact (h1.lt x hx).1
theorem Wo.swap {u wr : World} {a c : Value} {n m : Nat} (h : Wo u wr a c n m) : Wo u wr c a m n := by
  obtain ⟨hb, l, k, h1, h2, h3, h4, h5⟩ := h
  exact ⟨hb, k, l, h3, h4, h1, h2, fun j hj e => h5 j e hj⟩
set_option maxHeartbeats 8000000 in
theorem lsame_any (w u : World) (b r : Nat) (q : Q) (h : Two w u b r q q) : Calls Try.prog 19 #[.pointer (some ⟨b, 0, none⟩), .pointer (some ⟨r, 0, none⟩)] u fun e u' => e = .returned (.bool true) ∧ Below u.heap.size u u' := by
  have HT : Hid (∀ x, Below u.heap.size u x → Two w x b r q q) := fun x hx => h.below hx
  obtain ⟨v, vl, v2, vl2, h1, h2, h3, h4, h5, h6, h7, h8⟩ := h
  obtain ⟨hn, hhn⟩ : ∃ hn, Hid (q.H.length = hn) := ⟨_, rfl⟩
  obtain ⟨ln, hln⟩ : ∃ ln, Hid (q.L.length = ln) := ⟨_, rfl⟩
  have hnb : hn ≤ 1024 := by rw [← hhn.out]; exact h4.hn
  have lnb : ln ≤ 1024 := by rw [← hln.out]; exact h4.ln
  have HH : Hid (∀ x, Below u.heap.size u x → Calls Try.prog 22 #[.pointer (some ⟨b, 0, none⟩)] x fun e x' => ∃ fo fc, e = .returned (.slice fo hn fc) ∧ Hid (Itb x.heap.size x' (.slice fo hn fc) q.H) ∧ Hid (Below x.heap.size x x')) := by
    intro x hx
    obtain ⟨R, f, h⟩ := h1.below hx
    refine (held_any x b _ v vl h h3.c1).mono ?_
    rintro e x' ⟨vf, rfl, f1, f2⟩
    obtain ⟨fo, fc, hv, _, _⟩ := f1.its.form
    simp only [hhn.out] at hv
    subst hv
    exact ⟨fo, fc, rfl, f1, f2⟩
  have HL : Hid (∀ x, Below u.heap.size u x → Calls Try.prog 21 #[.pointer (some ⟨b, 0, none⟩)] x fun e x' => ∃ fo fc, e = .returned (.slice fo ln fc) ∧ Hid (Itb x.heap.size x' (.slice fo ln fc) q.L) ∧ Hid (Below x.heap.size x x')) := by
    intro x hx
    refine (line_any x b q v vl (h1.below hx) h3).mono ?_
    rintro e x' ⟨vf, rfl, f1, f2⟩
    obtain ⟨fo, fc, hv, _, _⟩ := f1.its.form
    rw [hln.out] at hv
    subst hv
    exact ⟨fo, fc, rfl, f1, f2⟩
  have LP : Hid (∀ x, Below u.heap.size u x → Calls Try.prog 20 #[.pointer (some ⟨b, 0, none⟩)] x fun e x' => e = .returned (.agg #[.int .i64 (hn : Int), .int .i64 (sumS q.H), .int .i64 (ln : Int)]) ∧ Below x.heap.size x x') := by
    intro x hx
    have := look_any x b q v vl (h1.below hx) h3
    unfold lookV at this
    rwa [hhn.out, hln.out] at this
  have LR : Hid (∀ x, Below u.heap.size u x → Calls Try.prog 37 #[.pointer (some ⟨r, 0, none⟩)] x fun e x' => e = .returned (.agg #[.int .i64 (hn : Int), .int .i64 (sumS q.H), .int .i64 (ln : Int)]) ∧ Below x.heap.size x x') := by
    intro x hx
    have := rlook_any x r q v2 vl2 (h2.below hx) h4
    unfold lookV at this
    rwa [hhn.out, hln.out] at this
  have CE : Hid (∀ x, Below u.heap.size u x → x.cell? ⟨r, 2, none⟩ = some v2 ∧ x.cell? ⟨r, 3, none⟩ = some vl2) := fun x hx => (h2.below hx).rx.cells
  have I1 : Hid (∀ x a, Below u.heap.size u x → Its x a q.H → Calls Try.prog 13 #[a, v2] x fun e x' => e = .returned (.bool true) ∧ Qt x x') := fun x a hx ha => litems_any x a v2 q.H ha.rd (h2.below hx).row.rd (by rw [hhn.out]; omega)
  have I2 : Hid (∀ x a, Below u.heap.size u x → Its x a q.L → Calls Try.prog 13 #[a, vl2] x fun e x' => e = .returned (.bool true) ∧ Qt x x') := fun x a hx ha => litems_any x a vl2 q.L ha.rd (h2.below hx).line.rd (by rw [hln.out]; omega)
  generalize sumS q.H = us at LP LR
  clear h1 h2 h3 h4 h5 h6 h7 h8
  go_enter Try.func19, Try.ntmps19
  go_wp2_with fail
  go_loopw [5] (fun s5 wr => ∃ i : Nat, s5 = .int .i64 i ∧ i ≤ 2 ∧ Hid (Below u.heap.size u wr)) (fun s5 _ => 2 - (intOf s5).toNat)
  case atStart => exact ⟨0, rfl, Nat.zero_le _, Below.refl _ _⟩
  case round =>
    obtain ⟨i, rfl, hi, hb⟩ := hrel
    by_cases hi2 : i < 2
    · have t1 : (i : Int) < 2 := by omega
      go_upto_region 5 with (first | (go_at_call 22; refine (HH.out wr hb.out).mono ?_; rintro e w1 ⟨fo, fc, rfl, F1, B1⟩) | (go_at_call 21; refine (HL.out w1 (hb.out.trans (B1.out.mono hb.out.size))).mono ?_; rintro e w2 ⟨go, gc, rfl, F2, B2⟩))
      have BB : Hid (Below u.heap.size u w2) := (hb.out.trans (B1.out.mono hb.out.size)).trans (B2.out.mono (Nat.le_trans hb.out.size B1.out.size))
      have W0 : Hid (Its w2 (.slice fo hn fc) q.H ∧ Its w2 (.slice go ln gc) q.L ∧ (∀ k, (Value.slice fo hn fc).ownBlock = some k → u.heap.size ≤ k) ∧ (∀ k, (Value.slice go ln gc).ownBlock = some k → u.heap.size ≤ k) ∧ ∀ j, (Value.slice fo hn fc).ownBlock = some j → (Value.slice go ln gc).ownBlock ≠ some j) := by
        refine ⟨(F1.out.below B2.out).its, F2.out.its, fun k hk => Nat.le_trans hb.out.size (F1.out.lt k hk).1, fun k hk => Nat.le_trans (Nat.le_trans hb.out.size B1.out.size) (F2.out.lt k hk).1, fun j hj e => ?_⟩
        have a1 := (F1.out.lt j hj).2
        have a2 := (F2.out.lt j e).1
        omega
      clear F1 F2 B1 B2 hb HH HL HT
      go_upto_region 7 with (first | (go_at_call 20; refine (LP.out w2 BB.out).mono ?_; rintro e w3 ⟨rfl, b3⟩; have B3 := hide b3; clear b3) | (go_at_call 37; refine (LR.out w3 (BB.out.trans (B3.out.mono BB.out.size))).mono ?_; rintro e w4 ⟨rfl, b4⟩; have B4 := hide ((BB.out.trans (B3.out.mono BB.out.size)).trans (b4.mono (Nat.le_trans BB.out.size B3.out.size))); have C4 := hide (B3.out.trans (b4.mono B3.out.size)); obtain ⟨e2, e3⟩ := CE.out w4 B4.out; clear b4) | (have d2 := d1; go_at_call 13; refine (I2.out w5 _ (B4.out.trans ((Q5.out.below w4.heap.size).mono B4.out.size)) ((W0.out.2.1.below C4.out).below (Q5.out.below _))).mono ?_; rintro e w6 ⟨rfl, q6⟩; have Q6 := hide q6; clear q6) | (go_at_call 13; refine (I1.out w4 _ B4.out (W0.out.1.below C4.out)).mono ?_; rintro e w5 ⟨rfl, q5⟩; have Q5 := hide q5; clear q5; rw [← Q5.out.cell] at e2 e3; have d1 : True := trivial))
      have W6 : Hid (Wo u w6 (.slice fo hn fc) (.slice go ln gc) hn ln) := by
        have b6 : Below w2.heap.size w2 w6 := C4.out.trans (((Q5.out.trans Q6.out).below w4.heap.size).mono C4.out.size)
        exact ⟨BB.out.trans (b6.mono BB.out.size), q.H, q.L, Itb.of (W0.out.1.below b6) W0.out.2.2.1, hhn.out, Itb.of (W0.out.2.1.below b6) W0.out.2.2.2.1, hln.out, W0.out.2.2.2.2⟩
      clear W0 BB B3 B4 C4 Q5 Q6 e2 e3 d1 CE I1 I2 LP LR
      go_wp2_with fail
      go_loopw [8] (fun s8 wx => ∃ j : Nat, s8 = .int .i64 j ∧ j ≤ hn ∧ Hid (Wo u wx (.slice fo hn fc) (.slice go ln gc) hn ln)) (fun s8 _ => hn - (intOf s8).toNat)
      case atStart => exact ⟨0, rfl, Nat.zero_le _, W6.out⟩
      case round =>
        clear W6
        obtain ⟨j, rfl, hj, hw⟩ := hrel
        by_cases hjn : j < hn
        · obtain ⟨tb, xa, xb, rfl, qn, r0, r1, z0, z1, NX⟩ := hw.out.write hjn
          have j1 : (j : Int) < (hn : Int) := by omega
          have j0 : (0 : Int) ≤ (j : Int) := by omega
          clear hw
          go_wp2_with fail
          go_roundw
          case rel => exact ⟨j + 1, by go_num, hjn, NX.out⟩
          case measure => simp only [intOf]; omega
        · have j1 : ¬ (j : Int) < (hn : Int) := by omega
          have W7 := hide hw.out.swap
          clear hw
          go_wp2_with fail
          go_loopw [9] (fun s9 wx => ∃ j : Nat, s9 = .int .i64 j ∧ j ≤ ln ∧ Hid (Wo u wx (.slice go ln gc) (.slice fo hn fc) ln hn)) (fun s9 _ => ln - (intOf s9).toNat)
          case atStart => exact ⟨0, rfl, Nat.zero_le _, W7.out⟩
          case round =>
            clear W7
            obtain ⟨j2, rfl, hj2, hw⟩ := hrel
            by_cases hjn2 : j2 < ln
            · obtain ⟨tb, xa, xb, rfl, qn, r0, r1, z0, z1, NX⟩ := hw.out.write hjn2
              have j12 : (j2 : Int) < (ln : Int) := by omega
              have j02 : (0 : Int) ≤ (j2 : Int) := by omega
              clear hw
              go_wp2_with fail
              go_roundw
              case rel => exact ⟨j2 + 1, by go_num, hjn2, NX.out⟩
              case measure => simp only [intOf]; omega
            · have j12 : ¬ (j2 : Int) < (ln : Int) := by omega
              have FB := hide hw.out.1
              clear hw
              go_wp2_with fail
              go_roundw
              case rel => exact ⟨i + 1, by go_num, hi2, FB.out⟩
              case measure => simp only [intOf]; omega
    · have t1 : ¬ (i : Int) < 2 := by omega
      go_wp2_with fail
      go_ret
      exact ⟨rfl, hb.out⟩
end Go.Proofs.Ytfoleeamhhodaaa.Qu

/-
  The program's Clear: what is gathered.
-/
namespace Go.Proofs.Ytfoleeamhhodaaa.Qu
open Go.RowKit
set_option linter.unusedVariables false
set_option maxRecDepth 100000
/-- What has been gathered: the variable's block fb holds the numbers vf. -/
structure Fj (w0 : World) (fb : Nat) (W : World) (C : Nat → Prop) (l : List Int) (vf : Value) : Prop where
  box : W.heap[fb]? = some (.cells #[vf] 36 (0, 0))
  row : Ids w0.heap.size W vf l
  own : ∀ k, C k ↔ k = fb ∨ vf.ownBlock = some k
  below : Below w0.heap.size w0 W
theorem Ids.no {B : Nat} {w : World} {v : Value} {l : List Int} {b : Nat} {cs : Array Value} {T : TypeId} {fz : Nat × Nat} (h : Ids B w v l) (hb : w.heap[b]? = some (.cells cs T fz)) (hT : T ≠ 2) : v.ownBlock ≠ some b := by
  intro e
  obtain ⟨cs', fz', e1⟩ := h.type b e
  rw [hb] at e1
  simp at e1
  exact hT e1.2.1
theorem Fj.lt {w0 : World} {fb : Nat} {W : World} {C : Nat → Prop} {l : List Int} {vf : Value} (h : Fj w0 fb W C l vf) : ∀ k, C k → k < W.heap.size := by
  intro k hk
  rcases (h.own k).1 hk with rfl | hk
  · exact heap_lt h.box
  · exact (h.row.lt k hk).2
theorem Fj.but {w0 : World} {fb : Nat} {W W' : World} {C : Nat → Prop} {l : List Int} {vf : Value} {X : Nat → Prop} (h : Fj w0 fb W C l vf) (hb : But X W W') (hX : ∀ k, X k → w0.heap.size ≤ k ∧ ¬ C k) : Fj w0 fb W' C l vf where
  box := hb.at h.box fun hx => (hX _ hx).2 ((h.own _).2 (.inl rfl))
  row := h.row.but hb fun k hk hx => (hX _ hx).2 ((h.own _).2 (.inr hk))
  own := h.own
  below := h.below.trans (hb.below h.below.size fun k hx => (hX k hx).1)
theorem Fj.more {w0 : World} {fb : Nat} {W w1 : World} {C : Nat → Prop} {l : List Int} {vf vf' : Value} {x : Int} {o : Obj} (h : Fj w0 fb W C l vf) (hfb : w0.heap.size ≤ fb)
    (hg : (W.alloc o).grownBy w1 vf.ownBlock) (hrow : Ids w0.heap.size w1 vf' (l ++ [x])) (hat : vf'.ownBlock = vf.ownBlock ∨ vf'.ownBlock = some (W.alloc o).heap.size) :
    Fj w0 fb (w1.setCell ⟨fb, 0, none⟩ vf') (fun k => k = fb ∨ vf'.ownBlock = some k) (l ++ [x]) vf' ∧ w1.heap[fb]? = some (.cells #[vf] 36 (0, 0)) ∧ But C W (w1.setCell ⟨fb, 0, none⟩ vf') ∧ (∀ k, (k = fb ∨ vf'.ownBlock = some k) → C k ∨ W.heap.size ≤ k) := by
  have hbx : w1.heap[fb]? = some (.cells #[vf] 36 (0, 0)) := by
    rw [hg.block fb (by have := heap_lt h.box; simp; omega) (fun e => h.row.no h.box (by decide) e.symm), Below.heap_alloc _ _ _ (heap_lt h.box)]
    exact h.box
  have b0 : But (fun k => vf.ownBlock = some k) W w1 := ((But.alloc W o _).trans (But.of_grownBy hg fun k e => e))
  have b1 : But (fun k => k = fb) w1 (w1.setCell ⟨fb, 0, none⟩ vf') := But.of_grownBy (grown_setCell _ _ _ _) fun k e => by cases e; rfl
  refine ⟨⟨?_, ?_, fun k => Iff.rfl, ?_⟩, hbx, ?_, ?_⟩
  · exact Boxed.set vf' hbx
  · exact hrow.but b1 (fun k hk e => hrow.no hbx (by decide) (by rw [← e]; exact hk))
  · refine (h.below.trans (b0.below h.below.size fun k hk => (h.row.lt k hk).1)).trans (b1.below ?_ fun k e => by rw [e]; exact hfb)
    exact Nat.le_trans h.below.size b0.size
  · exact (b0.mono fun k _ hk => (h.own k).2 (.inr hk)).trans (b1.mono fun k _ e => (h.own k).2 (.inl e))
  · rintro k (rfl | hk)
    · exact .inl ((h.own _).2 (.inl rfl))
    · rcases hat with e | e
      · exact .inl ((h.own _).2 (.inr (by rw [← e]; exact hk)))
      · rw [e] at hk
        simp at hk
        exact .inr (by omega)
end Go.Proofs.Ytfoleeamhhodaaa.Qu

/-
  The program's Clear (under way).
-/
namespace Go.Proofs.Ytfoleeamhhodaaa.Qu
open Go.RowKit Go.Shelf
set_option linter.unusedVariables false
set_option linter.unusedSimpArgs false
set_option maxRecDepth 100000
attribute [local go_sem] Oper.semAt_some
open Ix (wp_region_T wpAnyT wpAnyT_take wpAnyT_one wpAnyT_done vac)
theorem wp_noPanic {P : Program} {c : Code} {K : Act → World → Prop} {Q : Exit → Act → World → Prop} {a : Act} {w : World} (h : c.wp P (Exit.then K fun _ _ _ => False) a w) : c.wp P (Exit.then K Q) a w :=
  Code.wp_mono (fun e a w he => by cases e <;> first | exact he | exact he.elim) h
theorem tqSize : (Try.prog.info? 58).map (·.size) = some 7 := by kernel_rfl
theorem one_new (w : World) (a : Value) (T : TypeId) : ∀ (j : Nat) (u : Value), [a][j]? = some u → (w.alloc (.cells #[a] T)).cell? ((⟨w.heap.size, 0, none⟩ : Addr).add j) = some u := by
  intro j u h
  rw [addr_add]
  match j with
  | 0 => simp at h; subst h; unfold World.cell?; rw [show (w.alloc (.cells #[a] T)).heap[(⟨w.heap.size, 0 + 0, none⟩ : Addr).block]? = _ from heap_alloc_new _ _]; rfl
  | j + 1 => simp at h
set_option maxHeartbeats 4000000 in
theorem clear_any (w : World) (b : Nat) (q : Q) (v vl : Value) (hq : QA w b q v vl) (ok : Ok q) :
    Calls Try.prog 17 #[.pointer (some ⟨b, 0, none⟩)] w fun e w' => ∃ idv v' vl', e = .returned idv ∧ QA w' b (clearQ q).2 v' vl' ∧ Stp b v vl v' vl' w w' ∧ Ids w.heap.size w' idv (clearQ q).1 := by
  obtain ⟨R, f, h⟩ := hq
  have hbl := h.lt
  have HM := hide (made_any w b _ v vl h ok.c1)
  have aB := box_below w (.cells #[.slice none 0 0] 36)
  have a1 := heap_alloc_new w (.cells #[.slice none 0 0] 36)
  have hs1 : (w.alloc (.cells #[.slice none 0 0] 36)).heap.size = w.heap.size + 1 := by simp
  obtain ⟨W1, hW1⟩ : ∃ W1, Hid (w.alloc (.cells #[.slice none 0 0] 36) = W1) := ⟨_, rfl⟩
  rw [hW1.out] at aB a1 hs1
  have bB := box_below W1 (.cells #[.pointer (some ⟨b, 2, none⟩)] 79)
  have hP := heap_alloc_new W1 (.cells #[.pointer (some ⟨b, 2, none⟩)] 79)
  have hs2 : (W1.alloc (.cells #[.pointer (some ⟨b, 2, none⟩)] 79)).heap.size = W1.heap.size + 1 := by simp
  obtain ⟨W0, hW0⟩ : ∃ W0, Hid (W1.alloc (.cells #[.pointer (some ⟨b, 2, none⟩)] 79) = W0) := ⟨_, rfl⟩
  rw [hW0.out] at bB hP hs2
  rw [hs1] at hP hs2
  have cB := keepF aB bB
  have hA := h.below cB
  have a2 : W0.heap[w.heap.size]? = some (.cells #[.slice none 0 0] 36 (0, 0)) := (bB.block _ (by omega)).trans a1
  have rlt : ∀ k, Rd (w.heap.size + 1) b v vl k → k < W0.heap.size ∧ k ≠ w.heap.size := by
    rintro k (rfl | hk)
    · exact ⟨by omega, by omega⟩
    · have := hbl k hk
      exact ⟨by omega, by omega⟩
  have SEQ := hide (all_seq W0 (w.heap.size + 1) b _ v vl hP hA)
  refine calls_marks Try.func17 rfl ?_
  simp only [Try.ntmps17, List.size_toArray, List.length_cons, List.length_nil, Nat.reduceAdd, Nat.reduceSub, Array.replicate_succ, Array.replicate_zero, List.push_toArray, List.append_toArray, List.nil_append, List.cons_append]
  go_wp2_with (first | (go_at_call 29; refine HM.out.mono ?_; rintro e w' ⟨rfl, hw⟩; rw [hw]; clear hw w') | (go_at_call 36; rw [hW1.out]; refine (all_any _ _).mono ?_; rintro e w' ⟨rfl, hw⟩; rw [hw, hW0.out]; clear hw w'))
  obtain ⟨i0, hi, hz0, hz1, hz2⟩ := info_parts infoInt
  refine wp_range (gf := 46) rfl (enters_of Try.func46 (by kernel_rfl) rfl) SEQ.out (Nat.le_refl _) (fun k hk => ⟨rfl, (rlt k hk).1⟩)
    (fun x args W D h => by obtain ⟨rfl, _⟩ := h; rfl)
    (fun pre C W => ∃ vf, Fj w w.heap.size W C (pre.map (·.1)) vf)
    (fun c pre C W => False) ?hI ?hIx (fun k => k = w.heap.size) (fun k hk => ⟨fun h => (rlt k h).2 hk, by omega⟩)
    ⟨.slice none 0 0, ⟨a2, World.ownsRow_nil _ _ _ _, fun k => by simp [Value.ownBlock], cB⟩⟩ ?round ?done ?stop
  case hI =>
    rintro pre C A B ⟨vf, i3⟩ hb
    exact ⟨vf, i3.but hb fun k hk => ⟨by omega, hk.2⟩⟩
  case hIx =>
    rintro c pre C A B h hb
    exact h.elim
  case round =>
    rintro m pre x rest C1 D args W1' hxs ⟨vf, i3⟩ ⟨rfl, hDk⟩ hlt hD hl hlW nl nD
    have hpx : pre.length < q.H.length := by
      have := congrArg List.length hxs
      simp at this
      omega
    have hn := ok.hn
    replace i3 := hide i3
    replace hD := hide hD
    replace hDk := hide hDk
    replace hxs := hide hxs
    clear hA hP h a1 a2 SEQ HM
    simp only [List.zip_toArray, List.zip_cons_cons, List.zip_nil_right, List.foldl_toArray, List.foldl_cons, List.foldl_nil]
    gi_wp2
    refine ⟨But.alloc _ _ _, ?_⟩
    intro Wb hWb hsb
    have sb : Wb.heap.size = W1'.heap.size + 1 := by rw [hsb]; simp
    have n1 := hide (hWb.at (Ib.new W1' x) (by omega))
    have bW : Hid (But (fun k => k = m) W1' Wb) := (But.alloc _ _ _).trans hWb
    have n3 := hide (i3.out.but bW.out fun k e => ⟨by omega, by rw [e]; exact nl⟩)
    clear hWb hsb i3
    have n1' : Ib Wb W1'.heap.size x := n1.out
    obtain ⟨k0, k1⟩ := n1'.cells
    have k2 : Wb.cell? ⟨w.heap.size, 0, none⟩ = some vf := by rw [cell_of n3.out.box]; rfl
    have hB := n3.out.below.size
    obtain ⟨N, hN⟩ : ∃ N, Hid ((pre.map (·.1)).length = N) := ⟨_, rfl⟩
    obtain ⟨gv, gc, hvf⟩ := n3.out.row.form
    rw [hN.out] at hvf
    have hpx2 : N < q.H.length := by rw [← hN.out, List.length_map]; exact hpx
    subst hvf
    have AL : Hid (∀ (o : Obj) (w1 : World) (vf' : Value), (Wb.alloc o).grownBy w1 (Value.slice gv N gc).ownBlock → w1.ownsRow w.heap.size 2 1 vf' (N + 1) ((pre.map (·.1)).map (Value.int .i64) ++ [.int .i64 x.1]) → (vf'.ownBlock = (Value.slice gv N gc).ownBlock ∨ vf'.ownBlock = some (Wb.alloc o).heap.size) →
        Fj w w.heap.size (w1.setCell ⟨w.heap.size, 0, none⟩ vf') (fun k => k = w.heap.size ∨ vf'.ownBlock = some k) ((pre ++ [x]).map (·.1)) vf' ∧ w1.heap[w.heap.size]? = some (.cells #[.slice gv N gc] 36 (0, 0)) ∧ But C1 Wb (w1.setCell ⟨w.heap.size, 0, none⟩ vf') ∧ (∀ k, (k = w.heap.size ∨ vf'.ownBlock = some k) → C1 k ∨ Wb.heap.size ≤ k)) := by
      intro o w1 vf' h1 h2 h3
      rw [List.map_append, List.map_cons, List.map_nil]
      refine n3.out.more (Nat.le_refl _) h1 ?_ h3
      unfold Ids
      rw [List.length_append, List.map_append, hN.out]
      exact h2
    have ROW : Hid (Wb.ownsRow w.heap.size 2 1 (.slice gv N gc) N ((pre.map (·.1)).map (Value.int .i64))) := by
      have := n3.out.row
      unfold Ids at this
      rw [hN.out] at this
      exact this
    replace sb := hide sb
    clear n1' n1 n3 bW
    gi_wp2_with (gi_at_builtin; refine wpListIn_append_own_at _ rfl _ _ 36 rfl w.heap.size 2 i0 (.int .i64 0) 1 8 Try.underlying36 hi hz0 hz1 hz2 rfl (by decide) _ N ((pre.map (·.1)).map (Value.int .i64)) rfl (ROW.out.alloc _) ⟨Wb.heap.size, 0, none⟩ 1 1 [.int .i64 x.1] rfl rfl (one_new _ _ _) (by simp [Value.oneCell']) (by unfold maxLen; omega) (by omega) (by simp; omega) ?_; intro vf' w1 hown' hgrow _ hat; obtain ⟨g', cap', rfl⟩ := ownsRow_succ hown'; obtain ⟨F1, F2, F3, F4⟩ := AL.out _ _ _ hgrow hown' hat; have hc1 := Boxed.cell F2; have hf1 := Boxed.frozen F2; replace F1 := hide F1; replace F2 := hide F2; replace F3 := hide F3; replace F4 := hide F4)
    refine ⟨_, ⟨_, F1.out⟩, F3.out, fun k hk => ⟨?_, F1.out.lt k hk⟩⟩
    rcases F4.out k hk with h | h
    · exact .inl h
    · exact .inr (.inr (by have := sb.out; omega))
  case done =>
    rintro C2 W ⟨vf, i3⟩ hK nD
    have AW := h.below i3.below
    have hln := ok.ln
    obtain ⟨la, lc, hvl, lz1, lz2⟩ := AW.line.form
    obtain ⟨N, hN⟩ : ∃ N, Hid (q.L.length = N) := ⟨_, rfl⟩
    simp only [hN.out] at hvl lz2
    rw [hN.out] at hln
    obtain ⟨-, -, -, -, -, -, c6⟩ := AW.cells
    have P0 : Hid (∃ C vf, Fj w w.heap.size W C (q.H.map (·.1) ++ (q.L.take 0).map (·.1)) vf ∧ W.heap[W0.heap.size]? = some (.deferred (some []))) := ⟨C2, vf, by simpa using i3, hK⟩
    replace h := hide h
    subst hvl
    clear hA hP a1 a2 SEQ HM AW i3 hK nD C2 vf rlt
    dsimp only
    go_wp2_with fail
    go_loopw [25] (fun s wr => ∃ j : Nat, s = .int .i64 j ∧ j ≤ N ∧ Hid (∃ C vf, Fj w w.heap.size wr C (q.H.map (·.1) ++ (q.L.take j).map (·.1)) vf ∧ wr.heap[W0.heap.size]? = some (.deferred (some [])))) (fun s _ => N - (intOf s).toNat)
    case atStart => exact ⟨0, rfl, Nat.zero_le _, P0.out⟩
    case round =>
      obtain ⟨j, rfl, hj, C, vf, FJ, hK⟩ := hrel
      by_cases hjn : j < N
      · have hjl : j < q.L.length := by rw [hN.out]; exact hjn
        have AW := h.out.below FJ.below
        obtain ⟨tb, ca, cs, e, _, _, _, q1, q2, _⟩ := AW.line.at (fun e => by simp only at e; rw [e] at hjl; simp at hjl)
        simp only [Value.slice.injEq, hN.out] at e
        obtain ⟨rfl, -, rfl⟩ := e
        obtain ⟨r0, r1⟩ := AW.line.read j hjl
        simp only at r0 r1
        obtain ⟨xi, xs, hx⟩ : ∃ xi xs, Hid (g q.L j = (xi, xs)) := ⟨_, _, rfl⟩
        rw [hx.out] at r0 r1
        simp only at r0 r1
        have j1 : (j : Int) < (N : Int) := by omega
        have j0 : (0 : Int) ≤ (j : Int) := by omega
        -- the item's box, then the number behind the numbers
        have B5 := box_below wr (.cells #[.int .i64 xi, .int .i64 xs] 48)
        have N1 := Ib.new wr (xi, xs)
        have s5 : (wr.alloc (.cells #[.int .i64 xi, .int .i64 xs] 48)).heap.size = wr.heap.size + 1 := by simp
        have FJ5 : Fj w w.heap.size (wr.alloc (.cells #[.int .i64 xi, .int .i64 xs] 48)) C (q.H.map (·.1) ++ (q.L.take j).map (·.1)) vf := FJ.but (But.of_below B5 fun _ => False) fun _ c => c.elim
        have hK5 : (wr.alloc (.cells #[.int .i64 xi, .int .i64 xs] 48)).heap[W0.heap.size]? = some (.deferred (some [])) := (B5.block _ (heap_lt hK)).trans hK
        simp only at N1
        obtain ⟨W5, hW5⟩ : ∃ W5, Hid (wr.alloc (.cells #[.int .i64 xi, .int .i64 xs] 48) = W5) := ⟨_, rfl⟩
        rw [hW5.out] at B5 N1 s5 FJ5 hK5
        have STEP : ∃ g7 n7 c7 w7, Hid ((Builtin.append_ #[36, 36] 36 #[vf, .slice (some ⟨W5.heap.size, 0, none⟩) 1 1]).run Try.prog (W5.alloc (.cells #[.int .i64 xi] 2)) = .ok (.slice g7 n7 c7) w7) ∧ Hid (w7.heap[w.heap.size]? = some (.cells #[vf] 36 (0, 0))) ∧ Hid (∃ C vf', Fj w w.heap.size (w7.setCell ⟨w.heap.size, 0, none⟩ (.slice g7 n7 c7)) C (q.H.map (·.1) ++ (q.L.take (j + 1)).map (·.1)) vf' ∧ (w7.setCell ⟨w.heap.size, 0, none⟩ (.slice g7 n7 c7)).heap[W0.heap.size]? = some (.deferred (some []))) := by
          have B6 := box_below W5 (.cells #[.int .i64 xi] 2)
          have N5 := heap_alloc_new W5 (.cells #[.int .i64 xi] 2)
          have N6 : (W5.alloc (.cells #[.int .i64 xi] 2)).cell? ⟨W5.heap.size, 0, none⟩ = some (.int .i64 xi) := by rw [cell_of N5]; simp
          obtain ⟨v7, w7, g1, g2, g3, g4⟩ := run_appN xi W5.heap.size (FJ5.row.below B6) N6 (by have := ok.hn; have := ok.ln; simp; omega) (Nat.le_trans FJ5.below.size B6.size) 36
          obtain ⟨F1, F2, F3, F4⟩ := FJ5.more (Nat.le_refl _) g3 g2 g4
          obtain ⟨a7, c7, e7⟩ := g2.form
          have hne : w.heap.size ≠ W0.heap.size := by omega
          have d7 : w7.heap[W0.heap.size]? = some (.deferred (some [])) := by
            rw [g3.block _ (Nat.lt_of_lt_of_le (heap_lt hK5) B6.size) (fun e => ?_), B6.block _ (heap_lt hK5)]
            · exact hK5
            · obtain ⟨cs, fz, e1⟩ := FJ5.row.type _ e.symm
              rw [hK5] at e1
              simp at e1
          subst e7
          have el : q.H.map (·.1) ++ (q.L.take (j + 1)).map (·.1) = q.H.map (·.1) ++ (q.L.take j).map (·.1) ++ [xi] := by rw [← list_take hjl, List.map_append, List.map_cons, List.map_nil, hx.out, ← List.append_assoc]
          rw [el]
          exact ⟨a7, _, c7, w7, g1, F2, _, _, F1, by rw [(But.set (w := w7) w.heap.size 0 _).block _ (heap_lt d7) (fun e => hne e.symm)]; exact d7⟩
        obtain ⟨g7, n7, c7, w7, r7, F2, NX⟩ := STEP
        obtain ⟨k0, k1⟩ := N1.cells
        have k2 : W5.cell? ⟨w.heap.size, 0, none⟩ = some vf := by rw [cell_of FJ5.box]; rfl
        have hc1 := Boxed.cell F2.out
        have hf1 := Boxed.frozen F2.out
        obtain ⟨gv, gc, hvf⟩ := FJ5.row.form
        obtain ⟨M, hM⟩ : ∃ M, Hid ((q.H.map (·.1) ++ (q.L.take j).map (·.1)).length = M) := ⟨_, rfl⟩
        rw [hM.out] at hvf
        clear FJ FJ5 hK hK5 AW B5 N1 F2
        subst hvf
        replace NX := hide NX.out
        replace r7 := hide r7.out
        clear s5 h hN hx lz1 lz2 ok hbl aB bB cB hs1 hs2 hW1 hW0 P0 c6
        go_upto_region 10 with fail
        rw [hW5.out]
        go_wp2_with (at_builtin; refine wpList_append_runN rfl (.tmp 29) (.tmp 32) rfl rfl rfl r7.out ?_)
        go_roundw
        case rel => exact ⟨j + 1, by go_num, hjn, NX.out⟩
        case measure => simp only [intOf]; omega
      · obtain rfl : j = N := by omega
        have hj1 : ¬ (j : Int) < (j : Int) := by omega
        have el : q.H.map (·.1) ++ (q.L.take j).map (·.1) = (clearQ q).1 := by rw [List.take_of_length_le (by rw [hN.out]; omega)]; simp [clearQ]
        rw [el] at FJ
        have AW := h.out.below FJ.below
        have bq : Below wr.heap.size wr wr.drew := (Below.refl _ _).drew
        have KP : Hid (At wr.drew b ⟨q.cap, q.bytes, sumS q.H, R, f, q.H, q.L⟩ v (.slice la j lc)) := AW.below bq
        have FD : Hid (Fj w w.heap.size wr.drew C (clearQ q).1 vf) := FJ.but (But.of_below bq fun _ => False) fun _ c => c.elim
        have KD : Hid (wr.drew.heap[W0.heap.size]? = some (.deferred (some []))) := (bq.block _ (heap_lt hK)).trans hK
        have hbw : b < w.heap.size := hbl b (.inl rfl)
        clear FJ hK AW el P0 c6 hln lz1 lz2 aB bB cB hs1 hW1 hW0
        go_upto_region 12 with fail
        refine wp_noPanic ?_
        refine wp_region_T (fun q2 => At q2 b ⟨q.cap, q.bytes, sumS q.H, R, f, q.H, q.L⟩ v (.slice la j lc)) 11 (by kernel_rfl) ?_
        clear bq
        generalize wr.drew = q2 at *
        refine wpAnyT_take (i := 0) (oi := { dst := some 35, op := Op.move (Operand.tmp 0), type := 24, pos := "queue.go:159", after := #[], guard := none }) (v := .pointer (some ⟨b, 0, none⟩)) [10, 11] rfl (by kernel_rfl) (by kernel_rfl) (by kernel_rfl) (by kernel_rfl) (fun _ _ _ h => h) (Or.inl ⟨by rfl, ?_⟩) KP.out ?_
        · intro wq hSw
          obtain ⟨y0, y1, -⟩ := hSw.cells
          go_simp
        (try simp only [Act.put, List.setIfInBounds_toArray, List.set_cons_zero, List.set_cons_succ])
        refine wpAnyT_take (i := 1) (oi := { dst := some 36, op := Op.move (Operand.tmp 0), type := 24, pos := "queue.go:159", after := #[], guard := none }) (v := .pointer (some ⟨b, 0, none⟩)) [2, 3, 4, 9, 11] rfl (by kernel_rfl) (by kernel_rfl) (by kernel_rfl) (by kernel_rfl) (fun _ _ _ h => h) (Or.inl ⟨by rfl, ?_⟩) KP.out ?_
        · intro wq hSw
          obtain ⟨y0, y1, -⟩ := hSw.cells
          go_simp
        (try simp only [Act.put, List.setIfInBounds_toArray, List.set_cons_zero, List.set_cons_succ])
        refine wpAnyT_take (i := 2) (oi := { dst := some 37, op := Op.nilCheck (Operand.tmp 36), type := 0, pos := "queue.go:159", after := #[{ on := 1, ground := Ground.data }], guard := none }) (v := .pointer (some ⟨b, 0, none⟩)) [3, 4, 9, 11] rfl (by kernel_rfl) (by kernel_rfl) (by kernel_rfl) (by kernel_rfl) (fun _ _ _ h => h) (Or.inl ⟨by rfl, ?_⟩) KP.out ?_
        · intro wq hSw
          obtain ⟨y0, y1, -⟩ := hSw.cells
          go_simp
        (try simp only [Act.put, List.setIfInBounds_toArray, List.set_cons_zero, List.set_cons_succ])
        refine wpAnyT_take (i := 3) (oi := { dst := some 38, op := Op.fieldAddr 58 (Operand.tmp 37) 0, type := 0, pos := "queue.go:159", after := #[{ on := 2, ground := Ground.data }], guard := none }) (v := .pointer (some ⟨b, 0, none⟩)) [4, 9, 11] rfl (by kernel_rfl) (by kernel_rfl) (by kernel_rfl) (by kernel_rfl) (fun _ _ _ h => h) (Or.inl ⟨by rfl, ?_⟩) KP.out ?_
        · intro wq hSw
          obtain ⟨y0, y1, -⟩ := hSw.cells
          go_simp
        (try simp only [Act.put, List.setIfInBounds_toArray, List.set_cons_zero, List.set_cons_succ])
        refine wpAnyT_take (i := 4) (oi := { dst := some 39, op := Op.load 3 (Operand.tmp 38), type := 3, pos := "queue.go:159", after := #[{ on := 3, ground := Ground.data }], guard := none }) (v := .int .i64 q.cap) [9, 11] rfl (by kernel_rfl) (by kernel_rfl) (by kernel_rfl) (by kernel_rfl) (fun _ _ _ h => h) (Or.inl ⟨by rfl, ?_⟩) KP.out ?_
        · intro wq hSw
          obtain ⟨y0, y1, -⟩ := hSw.cells
          go_simp
        (try simp only [Act.put, List.setIfInBounds_toArray, List.set_cons_zero, List.set_cons_succ])
        refine wpAnyT_take (i := 5) (oi := { dst := some 40, op := Op.move (Operand.tmp 0), type := 24, pos := "queue.go:159", after := #[], guard := none }) (v := .pointer (some ⟨b, 0, none⟩)) [6, 7, 8, 9, 11] rfl (by kernel_rfl) (by kernel_rfl) (by kernel_rfl) (by kernel_rfl) (fun _ _ _ h => h) (Or.inl ⟨by rfl, ?_⟩) KP.out ?_
        · intro wq hSw
          obtain ⟨y0, y1, -⟩ := hSw.cells
          go_simp
        (try simp only [Act.put, List.setIfInBounds_toArray, List.set_cons_zero, List.set_cons_succ])
        refine wpAnyT_take (i := 6) (oi := { dst := some 41, op := Op.nilCheck (Operand.tmp 40), type := 0, pos := "queue.go:159", after := #[{ on := 5, ground := Ground.data }], guard := none }) (v := .pointer (some ⟨b, 0, none⟩)) [7, 8, 9, 11] rfl (by kernel_rfl) (by kernel_rfl) (by kernel_rfl) (by kernel_rfl) (fun _ _ _ h => h) (Or.inl ⟨by rfl, ?_⟩) KP.out ?_
        · intro wq hSw
          obtain ⟨y0, y1, -⟩ := hSw.cells
          go_simp
        (try simp only [Act.put, List.setIfInBounds_toArray, List.set_cons_zero, List.set_cons_succ])
        refine wpAnyT_take (i := 7) (oi := { dst := some 42, op := Op.fieldAddr 58 (Operand.tmp 41) 1, type := 0, pos := "queue.go:159", after := #[{ on := 6, ground := Ground.data }], guard := none }) (v := .pointer (some ⟨b, 1, none⟩)) [8, 9, 11] rfl (by kernel_rfl) (by kernel_rfl) (by kernel_rfl) (by kernel_rfl) (fun _ _ _ h => h) (Or.inl ⟨by rfl, ?_⟩) KP.out ?_
        · intro wq hSw
          obtain ⟨y0, y1, -⟩ := hSw.cells
          go_simp
        (try simp only [Act.put, List.setIfInBounds_toArray, List.set_cons_zero, List.set_cons_succ])
        refine wpAnyT_take (i := 8) (oi := { dst := some 43, op := Op.load 3 (Operand.tmp 42), type := 3, pos := "queue.go:159", after := #[{ on := 7, ground := Ground.data }], guard := none }) (v := .int .i64 q.bytes) [9, 11] rfl (by kernel_rfl) (by kernel_rfl) (by kernel_rfl) (by kernel_rfl) (fun _ _ _ h => h) (Or.inl ⟨by rfl, ?_⟩) KP.out ?_
        · intro wq hSw
          obtain ⟨y0, y1, -⟩ := hSw.cells
          go_simp
        (try simp only [Act.put, List.setIfInBounds_toArray, List.set_cons_zero, List.set_cons_succ])
        refine wpAnyT_take (i := 9) (oi := { dst := some 44, op := Op.build 58 #[(0, Operand.tmp 39), (1, Operand.tmp 43)], type := 58, pos := "queue.go:159", after := #[{ on := 4, ground := Ground.data }, { on := 8, ground := Ground.data }], guard := none }) (v := .agg #[.int .i64 q.cap, .int .i64 q.bytes, .slice none 0 0, .int .i64 0, .int .i64 0, .int .i64 0, .slice none 0 0]) [11] rfl (by kernel_rfl) (by kernel_rfl) (by kernel_rfl) (by kernel_rfl) (fun _ _ _ h => h) (Or.inl ⟨by rfl, ?_⟩) KP.out ?_
        · intro wq hSw
          obtain ⟨y0, y1, -⟩ := hSw.cells
          go_simp
        (try simp only [Act.put, List.setIfInBounds_toArray, List.set_cons_zero, List.set_cons_succ])
        refine wpAnyT_take (i := 10) (oi := { dst := some 45, op := Op.nilCheck (Operand.tmp 35), type := 0, pos := "queue.go:159", after := #[{ on := 0, ground := Ground.data }, { on := 0, ground := Ground.phase }, { on := 1, ground := Ground.phase }, { on := 2, ground := Ground.phase }, { on := 3, ground := Ground.phase }, { on := 4, ground := Ground.phase }, { on := 5, ground := Ground.phase }, { on := 6, ground := Ground.phase }, { on := 7, ground := Ground.phase }, { on := 8, ground := Ground.phase }, { on := 9, ground := Ground.phase }], guard := none }) (v := .pointer (some ⟨b, 0, none⟩)) [11] rfl (by kernel_rfl) (by kernel_rfl) (by kernel_rfl) (by kernel_rfl) (fun _ _ _ h => h) (Or.inl ⟨by rfl, ?_⟩) KP.out ?_
        · intro wq hSw
          obtain ⟨y0, y1, -⟩ := hSw.cells
          go_simp
        (try simp only [Act.put, List.setIfInBounds_toArray, List.set_cons_zero, List.set_cons_succ])
        refine wpAnyT_one (i := 11) (o := { dst := none, op := Op.store 58 (Operand.tmp 45) (Operand.tmp 44), type := 0, pos := "queue.go:159", after := #[{ on := 10, ground := Ground.data }, { on := 9, ground := Ground.data }, { on := 0, ground := Ground.phase }, { on := 1, ground := Ground.phase }, { on := 2, ground := Ground.phase }, { on := 3, ground := Ground.phase }, { on := 4, ground := Ground.phase }, { on := 5, ground := Ground.phase }, { on := 6, ground := Ground.phase }, { on := 7, ground := Ground.phase }, { on := 8, ground := Ground.phase }, { on := 9, ground := Ground.phase }], guard := none }) (by kernel_rfl) rfl (fun K hK => ?_)
        rw [if_pos (by simp [Region.wanted])]
        refine wp_store_row 58 (.tmp 45) (.tmp 44) rfl b #[.int .i64 q.cap, .int .i64 q.bytes, .slice none 0 0, .int .i64 0, .int .i64 0, .int .i64 0, .slice none 0 0] (by simp [Act.eval]) (by simp [Act.eval]) 58 _ KP.out.box tqSize rfl (by simp [Value.oneCell']) ?_
        refine hK.out _ _ (vac (by kernel_rfl)) ?_
        clear hK K
        (try simp only [Act.put, List.setIfInBounds_toArray, List.set_cons_zero, List.set_cons_succ])
        refine wpAnyT_done (by kernel_rfl) ?_ _
        have N9 := setRow_heap q2 b _ (#[.int .i64 q.cap, .int .i64 q.bytes, .slice none 0 0, .int .i64 0, .int .i64 0, .int .i64 0, .slice none 0 0] : Array Value) _ _ KP.out.box
        have B9 : But (fun k => k = b) q2 (q2.setRow b #[.int .i64 q.cap, .int .i64 q.bytes, .slice none 0 0, .int .i64 0, .int .i64 0, .int .i64 0, .slice none 0 0]) := ⟨rfl, rfl, rfl, by simp, fun k _ hk => setRow_other _ _ _ _ hk⟩
        have hs9 : (q2.setRow b #[.int .i64 q.cap, .int .i64 q.bytes, .slice none 0 0, .int .i64 0, .int .i64 0, .int .i64 0, .slice none 0 0]).heap.size = q2.heap.size := by simp
        generalize q2.setRow b #[.int .i64 q.cap, .int .i64 q.bytes, .slice none 0 0, .int .i64 0, .int .i64 0, .int .i64 0, .slice none 0 0] = w9 at *
        have x9 : w9.heap[w.heap.size]? = some (.cells #[vf] 36 (0, 0)) := (B9.at FD.out.box (by omega))
        have d9 : Hid (w9.heap[W0.heap.size]? = some (.deferred (some []))) := B9.at KD.out (by omega)
        have c9 : w9.cell? ⟨w.heap.size, 0, none⟩ = some vf := by rw [cell_of x9]; rfl
        obtain ⟨gv, gc, hvf⟩ := FD.out.row.form
        have bl2 : But (fun k => k = b ∨ w.heap.size ≤ k) w q2 := But.of_below FD.out.below _
        have bl9 : Hid (But (fun k => k = b ∨ w.heap.size ≤ k) w w9) := bl2.trans (B9.mono fun k _ e => .inl e)
        have I9 : Hid (Ids w.heap.size w9 vf (clearQ q).1) := FD.out.row.but B9 (fun k hk e => by have := (FD.out.row.lt k hk).1; omega)
        have W0n : vf.ownBlock ≠ some W0.heap.size := fun e => by
          obtain ⟨cs, fz, e1⟩ := FD.out.row.type _ e
          rw [KD.out] at e1
          simp at e1
        replace N9 := hide N9
        replace W0n := hide W0n
        clear FD KD KP B9 bl2 x9 hs9
        subst hvf
        rw [hs2] at d9 W0n
        go_wp2_with fail
        refine ⟨by simp, .inl ⟨_, _, rfl, run_takeDeferred d9.out, ?_⟩⟩
        have G := fun o => But.putObj (X := fun k => k = w.heap.size + 1 + 1) w9 (w.heap.size + 1 + 1) o rfl
        refine ⟨_, results_tmp rfl _ _ _, ?_⟩
        refine ⟨_, rfl, Value.slice none 0 0, Value.slice none 0 0, ⟨[], 0, ⟨(G _).at N9.out (by omega), Its.nil _, Rg.none, Its.nil _, by simp [Value.ownBlock], by simp, fun _ => rfl, fun h => absurd rfl h⟩⟩, ⟨?_, ?_⟩, ?_⟩
        · exact (bl9.out.trans ((G _).mono fun k _ e => .inr (by omega))).mono fun k hk e => .inl (e.resolve_right (by omega))
        · rintro k (rfl | hk | hk)
          · exact .inl (.inl rfl)
          · simp [Value.ownBlock] at hk
          · simp [Value.ownBlock] at hk
        · exact I9.out.but (G _) (fun k hk e => W0n.out (by rw [← e]; exact hk))
  case stop =>
    rintro c pre C2 W _ h
    exact h.elim
end Go.Proofs.Ytfoleeamhhodaaa.Qu

/-
  Both queues asked, one behind the other: what the first answered is there still.
-/
namespace Go.Proofs.Ytfoleeamhhodaaa.Qu
open Go.RowKit
set_option linter.unusedVariables false
set_option maxRecDepth 100000
/-- Both queues; K holds as long as nothing but them is turned. -/
def T1 (w u : World) (b r : Nat) (p q : Q) (K : World → Prop) : Prop :=
  ∃ v vl v2 vl2, QA u b p v vl ∧ RA u r q v2 vl2 ∧ Ok p ∧ Ok q ∧ Below w.heap.size w u ∧ (∀ k, Own b v vl k → w.heap.size ≤ k) ∧ (∀ k, Own r v2 vl2 k → w.heap.size ≤ k) ∧ (∀ k, Own b v vl k → ¬ Own r v2 vl2 k) ∧ ∀ u', But (fun k => Own b v vl k ∨ Own r v2 vl2 k) u u' → K u'
/-- The same; K holds as long as nothing but the document's queue is turned. -/
def T2 (w u : World) (b r : Nat) (p q : Q) (K : World → Prop) : Prop :=
  ∃ v vl v2 vl2, QA u b p v vl ∧ RA u r q v2 vl2 ∧ Ok p ∧ Ok q ∧ Below w.heap.size w u ∧ (∀ k, Own b v vl k → w.heap.size ≤ k) ∧ (∀ k, Own r v2 vl2 k → w.heap.size ≤ k) ∧ (∀ k, Own b v vl k → ¬ Own r v2 vl2 k) ∧ ∀ u', But (Own r v2 vl2) u u' → K u'
theorem T2.k {w u : World} {b r : Nat} {p q : Q} {K : World → Prop} (h : T2 w u b r p q K) : K u := by
  obtain ⟨v, vl, v2, vl2, h1, h2, h3, h4, h5, h6, h7, h8, h9⟩ := h
  exact h9 u (But.refl _ _)
theorem Two.box {w u : World} {b r : Nat} {p q : Q} (h : Two w u b r p q) (o : Obj) : T1 w (u.alloc o) b r p q fun x => x.heap[u.heap.size]? = some o := by
  obtain ⟨v, vl, v2, vl2, h1, h2, h3, h4, h5, h6, h7, h8⟩ := h
  have hb : Below u.heap.size u (u.alloc o) := (Below.refl _ u).alloc (Nat.le_refl _) o
  refine ⟨v, vl, v2, vl2, h1.below hb, h2.below hb, h3, h4, h5.trans (hb.mono h5.size), h6, h7, h8, fun u' hu => hu.at (heap_alloc_new u o) ?_⟩
  rintro (c | c)
  · have := h1.lt _ c; omega
  · have := h2.lt _ c; omega
/-- The program's queue is turned. -/
theorem T1.stepP {w u u' : World} {b r : Nat} {p q p' : Q} {K K' : World → Prop} {v vl v2 vl2 v' vl' : Value} (h1 : QA u b p v vl) (h2 : RA u r q v2 vl2) (h4 : Ok q) (h5 : Below w.heap.size w u) (h6 : ∀ k, Own b v vl k → w.heap.size ≤ k) (h7 : ∀ k, Own r v2 vl2 k → w.heap.size ≤ k) (h8 : ∀ k, Own b v vl k → ¬ Own r v2 vl2 k)
    (h9 : ∀ u', But (fun k => Own b v vl k ∨ Own r v2 vl2 k) u u' → K u') (k1 : QA u' b p' v' vl') (ok : Ok p') (k2 : Stp b v vl v' vl' u u') (hK : ∀ x, But (fun k => k < u.heap.size ∨ False) u' x → K x → K' x) : T2 w u' b r p' q K' := by
  refine ⟨v', vl', v2, vl2, k1, h2.but k2.1 fun k ho hk => h8 k hk ho, ok, h4, h5.trans (k2.1.below h5.size h6), fun k hk => (k2.2 k hk).elim (h6 k) fun e => Nat.le_trans h5.size e, h7, fun k hk ho => ?_, fun x hx => hK x (hx.mono fun k _ ho => .inl (h2.lt k ho)) (h9 x ?_)⟩
  · rcases k2.2 k hk with e | e
    · exact h8 k e ho
    · have := h2.lt k ho
      omega
  · exact (k2.1.mono fun k _ h => .inl h).trans (hx.mono fun k _ h => .inr h)
theorem T2.stepR {w u u' : World} {b r : Nat} {p q' : Q} {K : World → Prop} {v vl v2 vl2 v' vl' : Value} (h1 : QA u b p v vl) (h3 : Ok p) (h5 : Below w.heap.size w u) (h6 : ∀ k, Own b v vl k → w.heap.size ≤ k) (h7 : ∀ k, Own r v2 vl2 k → w.heap.size ≤ k) (h8 : ∀ k, Own b v vl k → ¬ Own r v2 vl2 k)
    (h9 : ∀ u', But (Own r v2 vl2) u u' → K u') (k1 : RA u' r q' v' vl') (ok : Ok q') (k2 : Stp r v2 vl2 v' vl' u u') : Two w u' b r p q' ∧ K u' :=
  ⟨Two.stepR h1 h3 h5 h6 h7 h8 k1 ok k2, h9 _ k2.1⟩
theorem len_take {q : Q} (ok : Ok q) (n b : Int) : (takeQ q n b).1.length ≤ 1000000 ∧ (takeQ q n b).2.1.length ≤ 1000000 := by
  have h1 := ok.hl
  have h2 := ok.c2
  have h3 := ok.ln
  refine ⟨?_, ?_⟩
  · show (q.H.take _).length ≤ _
    rw [List.length_take]; omega
  · show ((q.L.take _).map _).length ≤ _
    rw [List.length_map, List.length_take]; omega
theorem len_leave {q : Q} (ok : Ok q) (id : Int) : (leaveQ q id).1.length ≤ 1000000 := by
  have h3 := ok.ln
  unfold leaveQ
  split
  · have h4 := (cut_ok ok (ixI q.L id)).ln
    show (((cutQ q (ixI q.L id)).L.take _).map _).length ≤ _
    rw [List.length_map, List.length_take]; omega
  · simp
theorem len_clear {q : Q} (ok : Ok q) : (clearQ q).1.length ≤ 1000000 := by
  have h1 := ok.hl
  have h2 := ok.c2
  have h3 := ok.ln
  show ((q.H ++ q.L).map _).length ≤ _
  rw [List.length_map, List.length_append]; omega
theorem T1.ok {w u : World} {b r : Nat} {p q : Q} {K : World → Prop} (h : T1 w u b r p q K) : Ok p ∧ Ok q := by
  obtain ⟨v, vl, v2, vl2, h1, h2, h3, h4, h5, h6, h7, h8, h9⟩ := h
  exact ⟨h3, h4⟩
theorem T1.k {w u : World} {b r : Nat} {p q : Q} {K : World → Prop} (h : T1 w u b r p q K) : K u := by
  obtain ⟨v, vl, v2, vl2, h1, h2, h3, h4, h5, h6, h7, h8, h9⟩ := h
  exact h9 u (But.refl _ _)
theorem T1.two {w u : World} {b r : Nat} {p q : Q} {K : World → Prop} (h : T1 w u b r p q K) : Two w u b r p q := by
  obtain ⟨v, vl, v2, vl2, h1, h2, h3, h4, h5, h6, h7, h8, h9⟩ := h
  exact ⟨v, vl, v2, vl2, h1, h2, h3, h4, h5, h6, h7, h8⟩
theorem T1.put {w u : World} {b r : Nat} {p q : Q} {K : World → Prop} (h : T1 w u b r p q K) (id s : Int) : Calls Try.prog 9 #[.pointer (some ⟨b, 0, none⟩), .int .i64 id, .int .i64 s] u fun e u' => e = .returned (.tuple #[.bool (putQ p id s).1, .int .i64 (putQ p id s).2.1]) ∧ T2 w u' b r (putQ p id s).2.2 q K := by
  obtain ⟨v, vl, v2, vl2, h1, h2, h3, h4, h5, h6, h7, h8, h9⟩ := h
  refine (put_any u b p v vl id s h1 h3).mono ?_
  rintro e u' ⟨rfl, v', vl', k1, k2⟩
  exact ⟨rfl, T1.stepP h1 h2 h4 h5 h6 h7 h8 h9 k1 (put_ok h3 id s) k2 fun _ _ h => h⟩
theorem T2.put {w u : World} {b r : Nat} {p q : Q} {K : World → Prop} (h : T2 w u b r p q K) (id s : Int) : Calls Try.prog 10 #[.pointer (some ⟨r, 0, none⟩), .int .i64 id, .int .i64 s] u fun e u' => e = .returned (.tuple #[.bool (putQ q id s).1, .int .i64 (putQ q id s).2.1]) ∧ Two w u' b r p (putQ q id s).2.2 ∧ K u' := by
  obtain ⟨v, vl, v2, vl2, h1, h2, h3, h4, h5, h6, h7, h8, h9⟩ := h
  refine (rput_any u r q v2 vl2 id s h2 h4).mono ?_
  rintro e u' ⟨rfl, v', vl', k1, k2⟩
  exact ⟨rfl, T2.stepR h1 h3 h5 h6 h7 h8 h9 k1 (put_ok h4 id s) k2⟩
theorem T1.take {w u : World} {b r : Nat} {p q : Q} {K : World → Prop} (h : T1 w u b r p q K) (n y : Int) : Calls Try.prog 11 #[.pointer (some ⟨b, 0, none⟩), .int .i64 n, .int .i64 y] u fun e u' => ∃ ov idv, e = .returned (.tuple #[ov, idv]) ∧ T2 w u' b r (takeQ p n y).2.2 q fun x => K x ∧ Rd2 x ov (takeQ p n y).1 ∧ Rd1 x idv (takeQ p n y).2.1 := by
  obtain ⟨v, vl, v2, vl2, h1, h2, h3, h4, h5, h6, h7, h8, h9⟩ := h
  refine (take_any u b p v vl n y h1 h3).mono ?_
  rintro e u' ⟨ov, idv, v', vl', rfl, k1, k2, k3, k4⟩
  refine ⟨ov, idv, rfl, T1.stepP h1 h2 h4 h5 h6 h7 h8 h9 k1 (take_ok h3 n y) k2 fun x hx hk => ⟨hk, (k3.but hx fun k hk c => ?_).its.rd, (k4.but hx fun k hk c => ?_).rd⟩⟩
  · have := (k3.lt k hk).1; rcases c with c | c; omega; exact c
  · have := (k4.lt k hk).1; rcases c with c | c; omega; exact c
theorem T2.take {w u : World} {b r : Nat} {p q : Q} {K : World → Prop} (h : T2 w u b r p q K) (n y : Int) : Calls Try.prog 12 #[.pointer (some ⟨r, 0, none⟩), .int .i64 n, .int .i64 y] u fun e u' => ∃ ov idv, e = .returned (.tuple #[ov, idv]) ∧ (Two w u' b r p (takeQ q n y).2.2 ∧ K u') ∧ Rd2 u' ov (takeQ q n y).1 ∧ Rd1 u' idv (takeQ q n y).2.1 := by
  obtain ⟨v, vl, v2, vl2, h1, h2, h3, h4, h5, h6, h7, h8, h9⟩ := h
  refine (rtake_any u r q v2 vl2 n y h2 h4).mono ?_
  rintro e u' ⟨ov, idv, v', vl', rfl, k1, k2, k3, k4⟩
  exact ⟨ov, idv, rfl, T2.stepR h1 h3 h5 h6 h7 h8 h9 k1 (take_ok h4 n y) k2, k3.its.rd, k4.rd⟩
theorem T1.leave {w u : World} {b r : Nat} {p q : Q} {K : World → Prop} (h : T1 w u b r p q K) (id : Int) : Calls Try.prog 15 #[.pointer (some ⟨b, 0, none⟩), .int .i64 id] u fun e u' => ∃ idv, e = .returned (.tuple #[idv, .int .i64 (leaveQ p id).2.1]) ∧ T2 w u' b r (leaveQ p id).2.2 q fun x => K x ∧ Rd1 x idv (leaveQ p id).1 := by
  obtain ⟨v, vl, v2, vl2, h1, h2, h3, h4, h5, h6, h7, h8, h9⟩ := h
  refine (leave_any u b p v vl id h1 h3).mono ?_
  rintro e u' ⟨idv, v', vl', rfl, k1, k2, k3⟩
  refine ⟨idv, rfl, T1.stepP h1 h2 h4 h5 h6 h7 h8 h9 k1 (leave_ok h3 id) k2 fun x hx hk => ⟨hk, (k3.but hx fun k hk c => ?_).rd⟩⟩
  have := (k3.lt k hk).1; rcases c with c | c; omega; exact c
theorem T2.leave {w u : World} {b r : Nat} {p q : Q} {K : World → Prop} (h : T2 w u b r p q K) (id : Int) : Calls Try.prog 16 #[.pointer (some ⟨r, 0, none⟩), .int .i64 id] u fun e u' => ∃ idv, e = .returned (.tuple #[idv, .int .i64 (leaveQ q id).2.1]) ∧ (Two w u' b r p (leaveQ q id).2.2 ∧ K u') ∧ Rd1 u' idv (leaveQ q id).1 := by
  obtain ⟨v, vl, v2, vl2, h1, h2, h3, h4, h5, h6, h7, h8, h9⟩ := h
  refine (rleave_any u r q v2 vl2 id h2 h4).mono ?_
  rintro e u' ⟨idv, v', vl', rfl, k1, k2, k3⟩
  exact ⟨idv, rfl, T2.stepR h1 h3 h5 h6 h7 h8 h9 k1 (leave_ok h4 id) k2, k3.rd⟩
theorem T1.clear {w u : World} {b r : Nat} {p q : Q} {K : World → Prop} (h : T1 w u b r p q K) : Calls Try.prog 17 #[.pointer (some ⟨b, 0, none⟩)] u fun e u' => ∃ idv, e = .returned idv ∧ T2 w u' b r (clearQ p).2 q fun x => K x ∧ Rd1 x idv (clearQ p).1 := by
  obtain ⟨v, vl, v2, vl2, h1, h2, h3, h4, h5, h6, h7, h8, h9⟩ := h
  refine (clear_any u b p v vl h1 h3).mono ?_
  rintro e u' ⟨idv, v', vl', rfl, k1, k2, k3⟩
  refine ⟨idv, rfl, T1.stepP h1 h2 h4 h5 h6 h7 h8 h9 k1 (clear_ok h3) k2 fun x hx hk => ⟨hk, (k3.but hx fun k hk c => ?_).rd⟩⟩
  have := (k3.lt k hk).1; rcases c with c | c; omega; exact c
theorem T2.clear {w u : World} {b r : Nat} {p q : Q} {K : World → Prop} (h : T2 w u b r p q K) : Calls Try.prog 18 #[.pointer (some ⟨r, 0, none⟩)] u fun e u' => ∃ idv, e = .returned idv ∧ (Two w u' b r p (clearQ q).2 ∧ K u') ∧ Rd1 u' idv (clearQ q).1 := by
  obtain ⟨v, vl, v2, vl2, h1, h2, h3, h4, h5, h6, h7, h8, h9⟩ := h
  refine (rclear_any u r q v2 vl2 h2 h4).mono ?_
  rintro e u' ⟨idv, v', vl', rfl, k1, k2, k3⟩
  exact ⟨idv, rfl, T2.stepR h1 h3 h5 h6 h7 h8 h9 k1 (clear_ok h4) k2, k3.rd⟩
end Go.Proofs.Ytfoleeamhhodaaa.Qu

/-
  Who came first goes out first, by data.
-/
namespace Go.Proofs.Ytfoleeamhhodaaa.Qu
open Go.RowKit
set_option linter.unusedVariables false
/-- The numbers from o on, so many. -/
def rng (o n : Nat) : List Int := (List.range n).map fun j => ((o + j : Nat) : Int)
theorem rng_len (o n : Nat) : (rng o n).length = n := by simp [rng]
theorem rng_snoc (o n : Nat) : rng o (n + 1) = rng o n ++ [((o + n : Nat) : Int)] := by simp [rng, List.range_succ]
theorem rng_drop (o n k : Nat) : (rng o n).drop k = rng (o + k) (n - k) := by
  apply List.ext_getElem
  · simp [rng]
  · intro i h1 h2
    simp [rng]
    omega
theorem rng_take (o n k : Nat) (h : k ≤ n) : (rng o n).take k = rng o k := by
  apply List.ext_getElem
  · simp [rng]; omega
  · intro i h1 h2
    simp [rng]
theorem rng_mem {o n : Nat} {x : Int} (h : x ∈ rng o n) : x < ((o + n : Nat) : Int) := by
  simp [rng] at h
  obtain ⟨a, ha, rfl⟩ := h
  omega
/-- No room for the first of the line. -/
def Wt (q : Q) : Prop := q.L ≠ [] → room q (g q.L 0).2 = false
/-- The numbers in the order in which they came: p put, o gone. -/
structure Fr (q : Q) (p o : Nat) : Prop where
  ids : (q.H ++ q.L).map (·.1) = rng o (p - o)
  le : o ≤ p
  wt : Wt q
theorem Fr.len {q : Q} {p o : Nat} (h : Fr q p o) : q.H.length + q.L.length = p - o := by
  have := congrArg List.length h.ids
  rw [rng_len] at this
  simpa using this
theorem Fr.new (cap bytes : Int) : Fr (q0 cap bytes) 0 0 := ⟨rfl, Nat.le_refl _, fun h => absurd rfl h⟩
theorem Fr.no {q : Q} {p o : Nat} (h : Fr q p o) : (hasI q.H p || hasI q.L p) = false := by
  have hn : (p : Int) ∉ (q.H ++ q.L).map (·.1) := by
    intro hm
    rw [h.ids] at hm
    have := rng_mem hm
    have := h.le
    omega
  rw [List.map_append, List.mem_append] at hn
  unfold hasI
  rw [decide_eq_false (fun c => hn (.inl c)), decide_eq_false (fun c => hn (.inr c))]
  rfl
theorem Fr.put {q : Q} {p o : Nat} (h : Fr q p o) (s : Int) : ((putQ q p s).2.1 = 0 ∧ Fr (putQ q p s).2.2 (p + 1) o) ∨ ((putQ q p s).2.1 ≠ 0 ∧ (putQ q p s).2.2 = q) := by
  have hle := h.le
  unfold putQ
  by_cases h0 : refQ q p s ≠ 0
  · rw [if_pos h0]
    exact .inr ⟨h0, rfl⟩
  · rw [if_neg h0]
    left
    have e1 : rng o (p + 1 - o) = rng o (p - o) ++ [(p : Int)] := by
      rw [show p + 1 - o = (p - o) + 1 by omega, rng_snoc, show o + (p - o) = p by omega]
    split
    · rename_i hr
      refine ⟨rfl, ?_, by omega, fun c => absurd hr.1 c⟩
      have := h.ids
      rw [hr.1] at this ⊢
      simp only [List.append_nil] at this ⊢
      rw [List.map_append, this, e1]
      rfl
    · rename_i hr
      refine ⟨rfl, ?_, by omega, ?_⟩
      · show (q.H ++ (q.L ++ [((p : Int), s)])).map (·.1) = _
        rw [← List.append_assoc, List.map_append, h.ids, e1]
        rfl
      · intro _
        by_cases hL : q.L = []
        · have hf : room q s = false := by
            have := fun c => hr ⟨hL, c⟩
            simpa using this
          show room _ (g (q.L ++ [((p : Int), s)]) 0).2 = false
          rw [hL]
          exact hf
        · have := h.wt hL
          show room _ (g (q.L ++ [((p : Int), s)]) 0).2 = false
          rw [g_app_left (List.length_pos_iff.2 hL)]
          exact this
theorem Fr.take {q : Q} {p o : Nat} (h : Fr q p o) (n b : Int) : Fr (takeQ q n b).2.2 p (o + (takeQ q n b).1.length) ∧ (takeQ q n b).1.map (·.1) = rng o (takeQ q n b).1.length ∧ (takeQ q n b).1.length ≤ p - o ∧ (((takeQ q n b).1.length : Int) ≤ max n 0) ∧ (1 < (takeQ q n b).1.length → sumS (takeQ q n b).1 ≤ b) := by
  have hKn := out_le n b q.H 0 0
  have hlow := out_low n b q.H 0 0
  have hlen := h.len
  have hle := h.le
  unfold takeQ comeQ outQ comeN
  simp only
  obtain ⟨K, hK⟩ : ∃ K, outN q n b = K := ⟨_, rfl⟩
  have hK' : outC n b 0 0 q.H = K := hK
  rw [hK'] at hKn hlow
  rw [hK]
  have hkl := cnt_le q.cap q.bytes q.L (q.H.drop K)
  have hat := cnt_at q.cap q.bytes q.L (q.H.drop K)
  obtain ⟨c, hc⟩ : ∃ c, cnt q.cap q.bytes (q.H.drop K) q.L = c := ⟨_, rfl⟩
  rw [hc] at hkl hat ⊢
  have e0 : (q.H.take K).length = K := by rw [List.length_take]; omega
  rw [e0]
  refine ⟨⟨?_, by omega, ?_⟩, ?_, by omega, ?_, ?_⟩
  · show ((q.H.drop K ++ q.L.take c) ++ q.L.drop c).map (·.1) = rng (o + K) (p - (o + K))
    rw [List.append_assoc, List.take_append_drop, show p - (o + K) = (p - o) - K by omega, ← rng_drop, ← h.ids, ← List.map_drop, List.drop_append_of_le_length hKn]
  · intro hne
    have hcl : c < q.L.length := by
      rcases Nat.lt_or_ge c q.L.length with q' | q'
      · exact q'
      · exact absurd (List.drop_of_length_le q') hne
    have := hat hcl
    have eg : g (q.L.drop c) 0 = g q.L c := by simp [g]
    show room _ (g (q.L.drop c) 0).2 = false
    rw [eg]
    exact this
  · rw [← rng_take o (p - o) K (by omega), ← h.ids, ← List.map_take, List.take_append_of_le_length hKn]
  · rcases Nat.eq_zero_or_pos K with e | e
    · omega
    · have := (hlow (K - 1) (by omega)).1
      omega
  · intro h1
    have := (hlow (K - 1) (by omega)).2
    rcases this with e | e
    · omega
    · have hlt : K - 1 < q.H.length := by omega
      rw [show q.H.take K = q.H.take (K - 1) ++ [g q.H (K - 1)] by rw [list_take hlt]; congr 1; omega, sumS_snoc]
      omega
theorem Fr.held {q : Q} {p o : Nat} (h : Fr q p o) (ok : Ok q) (hL : q.L ≠ []) : q.H ≠ [] ∧ ((q.H.length : Int) < q.cap → ¬ sumS q.H + (g q.L 0).2 ≤ q.bytes) := by
  have hw := h.wt hL
  unfold room at hw
  simp only [decide_eq_false_iff_not] at hw
  have hx : (g q.L 0).2 ≤ q.bytes := by
    have hlt : 0 < q.L.length := List.length_pos_iff.2 hL
    exact (ok.szL _ (by rw [← g_get hlt]; exact List.getElem_mem hlt)).2
  refine ⟨fun e => hw ?_, fun h1 h2 => hw ⟨h1, by omega⟩⟩
  rw [e]
  have := ok.c1
  exact ⟨by show ((0 : Nat) : Int) < q.cap; omega, by show _ ≤ q.bytes - 0; omega⟩
end Go.Proofs.Ytfoleeamhhodaaa.Qu

/-
  Arguments that are calls of a queue, opened.
-/
namespace Go.Proofs.Ytfoleeamhhodaaa.Qu
open Go.ChangeShapes Go.WideShapes Go.ChangeAt Go.RowKit Go.Deep
set_option maxRecDepth 100000
theorem cellsQop : Try.prog.cellsOf 32 = 4 := by kernel_rfl
theorem cellsI64 : Try.prog.cellsOf 2 = 1 := by kernel_rfl
theorem cellsInt : Try.prog.cellsOf 3 = 1 := by kernel_rfl
/-- A call. -/
structure Qop where
  k : Int
  id : Int
  n : Int
  b : Int
def QpAt (w : World) (b off : Nat) (o : Qop) : Prop := w.cell? ⟨b, off, none⟩ = some (.int .i64 o.k) ∧ w.cell? ⟨b, off + 1, none⟩ = some (.int .i64 o.id) ∧ w.cell? ⟨b, off + 2, none⟩ = some (.int .i64 o.n) ∧ w.cell? ⟨b, off + 3, none⟩ = some (.int .i64 o.b)
/-- They lie from address ao on. -/
def AtQops (w : World) (ao : Option Addr) (hs : List Qop) : Prop :=
  ∀ i (h : i < hs.length), ∃ b off, ao = some ⟨b, off, none⟩ ∧ QpAt w b (off + i * 4) hs[i]
structure QopOk (o : Qop) : Prop where
  a1 : -9223372036854775808 ≤ o.k
  a2 : o.k ≤ 9223372036854775807
  b1 : -9223372036854775808 ≤ o.id
  b2 : o.id ≤ 9223372036854775807
  c1 : -9223372036854775808 ≤ o.n
  c2 : o.n ≤ 9223372036854775807
  d1 : -9223372036854775808 ≤ o.b
  d2 : o.b ≤ 9223372036854775807
theorem open_qop {H : Type} {enc : TypeId × Value → H} {w : World} {base : Nat} {spare : Nat → Bool} {held : Bool} {fuel : Nat} {cs : List Value} {y : DataW H × List MemPlace}
    (h : DataW.trod enc Try.prog w base spare held fuel 32 cs = some y) :
    ∃ o : Qop, cs = [.int .i64 o.k, .int .i64 o.id, .int .i64 o.n, .int .i64 o.b] ∧ QopOk o := by
  obtain ⟨xs, n, _, rfl, hlen, hxl, hf⟩ := DataW.trod_struct Try.underlying32 h
  rw [cellsQop] at hlen
  obtain ⟨c0, c1, c2, c3, rfl⟩ : ∃ c0 c1 c2 c3, cs = [c0, c1, c2, c3] := by
    match cs, hlen with
    | [c0, c1, c2, c3], _ => exact ⟨c0, c1, c2, c3, rfl⟩
  match xs, hxl with
  | [y0, y1, y2, y3], _ =>
    have h0 := hf 0 _ rfl
    have h1 := hf 1 _ rfl
    have h2 := hf 2 _ rfl
    have h3 := hf 3 _ rfl
    simp [cellsI64, cellsInt] at h0 h1 h2 h3
    obtain ⟨a0, e0, _, w0⟩ := DataW.trod_int Try.underlying3 h0
    obtain ⟨a1, e1, _, w1⟩ := DataW.trod_int Try.underlying2 h1
    obtain ⟨a2, e2, _, w2⟩ := DataW.trod_int Try.underlying3 h2
    obtain ⟨a3, e3, _, w3⟩ := DataW.trod_int Try.underlying3 h3
    simp at e0 e1 e2 e3
    subst e0 e1 e2 e3
    exact ⟨⟨a0, a1, a2, a3⟩, rfl, (i64_bounds w0).1, (i64_bounds w0).2, (i64_bounds w1).1, (i64_bounds w1).2, (i64_bounds w2).1, (i64_bounds w2).2, (i64_bounds w3).1, (i64_bounds w3).2⟩
theorem open_qops {H : Type} {enc : TypeId × Value → H} {w : World} {base : Nat} {spare : Nat → Bool} {held : Bool} {fuel : Nat} {v : Value} {x : DataW H × List MemPlace}
    (h : DataW.trod enc Try.prog w base spare held fuel 22 [v] = some x) :
    ∃ (os : List Qop) (ao : Option Addr) (cap : Nat), v = .slice ao os.length cap ∧ os.length ≤ 9223372036854775807 ∧ AtQops w ao os ∧ (∀ o ∈ os, QopOk o) := by
  rcases open_slice Try.underlying22 h with ⟨hcs, hx⟩ | ⟨a, len, cap, m, n, D, Pl, hcs, hb, hl, hm, hmm, hx, hel⟩
  · simp at hcs
    subst hcs hx
    exact ⟨[], none, 0, rfl, by simp, fun i hi => by simp at hi, fun o ho => by simp at ho⟩
  · simp at hcs
    subst hcs hx
    have hlm : len ≤ m := by split at hmm <;> omega
    have each : ∀ i, ∃ o : Qop, i < m → QopOk o ∧ ∃ b off, a = ⟨b, off, none⟩ ∧ QpAt w b (off + i * 4) o := by
      intro i
      by_cases hi : i < m
      · obtain ⟨cs', h1, h2⟩ := hel i hi
        obtain ⟨o, rfl, hok⟩ := open_qop h2
        rw [cellsQop] at h1
        obtain ⟨b, off, sp⟩ := a
        have hsp : sp = none := by
          obtain ⟨cs0, g1, g2⟩ := hel 0 (by omega)
          obtain ⟨_, rfl, _⟩ := open_qop g2
          rw [cellsQop] at g1
          have g3 := (World.cells?_some g1).2.2 0 (by omega)
          simp [Addr.add] at g3
          exact World.cell?_spot g3
        subst hsp
        have hcell := (World.cells?_some h1).2.2
        rw [addr_add] at hcell
        have k0 := hcell 0 (by omega)
        have k1 := hcell 1 (by omega)
        have k2 := hcell 2 (by omega)
        have k3 := hcell 3 (by omega)
        rw [addr_add] at k0 k1 k2 k3
        exact ⟨o, fun _ => ⟨hok, b, off, rfl, by simpa using k0, by simpa using k1, by simpa using k2, by simpa using k3⟩⟩
      · exact ⟨⟨0, 0, 0, 0⟩, fun h => absurd h hi⟩
    obtain ⟨O, hO⟩ : ∃ O : Nat → Qop, ∀ i, i < m → QopOk (O i) ∧ ∃ b off, a = ⟨b, off, none⟩ ∧ QpAt w b (off + i * 4) (O i) := ⟨fun i => Classical.choose (each i), fun i => Classical.choose_spec (each i)⟩
    refine ⟨(List.range len).map O, some a, cap, by simp, by simp; unfold maxLen at hm; omega, ?_, ?_⟩
    · intro i hi
      simp at hi
      obtain ⟨_, b, off, rfl, q⟩ := hO i (by omega)
      exact ⟨b, off, rfl, by simpa using q⟩
    · intro o ho
      simp only [List.mem_map, List.mem_range] at ho
      obtain ⟨i, hi, rfl⟩ := ho
      exact (hO i (by omega)).1
end Go.Proofs.Ytfoleeamhhodaaa.Qu

