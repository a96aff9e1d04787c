/-
  The document's Cancel. (gen_Cn4.py)
-/
import Derived.Test.YtjplkffghfikgaaN03
namespace Go.Proofs.Ytjplkffghfikgaa.Ck
open Go.RowKit Rl
open Ix (wp_region_T wpAnyT wpAnyT_take wpAnyT_one wpAnyT_done vac)
set_option linter.unusedVariables false
def Bxr (w : World) (b now : Nat) (N : Int) (v : Value) : Prop := w.heap[b]? = some (.cells #[.float .f64 now, v, .int .i64 N] 41 (0, 0))
theorem rtc {w : World} {b now : Nat} {N : Int} {v : Value} (h : Bxr w b now N v) : w.cell? ⟨b, 0, none⟩ = some (.float .f64 now) ∧ w.cell? ⟨b, 1, none⟩ = some v ∧ w.cell? ⟨b, 2, none⟩ = some (.int .i64 N) := by
  unfold Bxr at h
  exact ⟨by simp [World.cell?, h], by simp [World.cell?, h], by simp [World.cell?, h]⟩
theorem Tr.front {w : World} {tb n ca : Nat} {S : List Tm} (h : Tr w (.slice (some ⟨tb, 0, none⟩) n ca) S) (hne : S ≠ []) (hl : S.length ≤ 256) (i : Nat) (hi : i ≤ S.length) : Tf w (.slice (some ⟨tb, 0, none⟩) i i) (S.take i) := by
  obtain ⟨cur, hh, hc⟩ : ∃ cur, w.heap[tb]? = some (.cells cur 70 (0, 0)) ∧ cur.toList.take (S.length * 2) = tcells S := by
    rcases h with h | ⟨g', cur, e, hh, hc, _⟩
    · obtain ⟨b', ca', cs, e, hh, _, hc, _⟩ := h.at hne
      simp at e
      obtain ⟨rfl, _, rfl⟩ := e
      exact ⟨cs, hh, hc⟩
    · simp at e
      obtain ⟨rfl, _, _⟩ := e
      exact ⟨cur, hh, hc⟩
  have hti : (S.take i).length = i := by simp; omega
  refine ⟨tb, cur, by rw [hti], hh, ?_, by rw [hti]; omega⟩
  rw [hti, ← tcells_take, ← hc, List.take_take]
  congr 1
  omega
theorem run_noneT {w : World} {g n c k : Nat} {ad : Option Addr} (hn : n ≤ c) (ty : TypeId) :
    (Builtin.append_ #[39, 39] ty #[.slice (some ⟨g, 0, none⟩) n c, .slice ad 0 k]).run Try.prog w = .ok (.slice (some ⟨g, 0, none⟩) n c) w := by
  obtain ⟨i0, hi, hz0, hz1, hz2⟩ := info_parts infoTm
  cases ad with
  | none => simp [Builtin.append_, run_underlying Try.underlying39, sizeOf, typeInfo, hi, Builtin.lenOf, Builtin.firstCells, hn, storeCells]
  | some ad =>
    have hf := run_firstCells_some (P := Try.prog) (w := w) i0.size 0 ad 0 k [] (by simp) (fun j v hv => by simp at hv)
    simp [Builtin.append_, run_underlying Try.underlying39, sizeOf, typeInfo, hi, Builtin.lenOf, hf, hn, storeCells]
/-- append(l[:i:i], l[i+1:]...). -/
theorem run_canT {w : World} {tb M n ca i : Nat} {S : List Tm} (h : Tr w (.slice (some ⟨tb, 0, none⟩) n ca) S) (hM : S.length = M) (hi : i < S.length) (hl : S.length ≤ 256) (ty : TypeId) :
    ∃ v' w', (Builtin.append_ #[39, 39] ty #[.slice (some ⟨tb, 0, none⟩) i i, .slice (if ca = i + 1 then some ⟨tb, 0, none⟩ else some ⟨tb, (i + 1) * 2, none⟩) (M - (i + 1)) (ca - (i + 1))]).run Try.prog w = .ok v' w' ∧ Tr w' v' (S.take i ++ S.drop (i + 1)) ∧ Below w.heap.size w w' ∧ (∀ k, v'.ownBlock = some k → (Value.slice (some ⟨tb, 0, none⟩) n ca).ownBlock = some k ∨ w.heap.size ≤ k) := by
  have hne : S ≠ [] := fun e => by rw [e] at hi; simp at hi
  have hti : (S.take i).length = i := by simp; omega
  by_cases hd : S.drop (i + 1) = []
  · have h0 : M - (i + 1) = 0 := by have := congrArg List.length hd; simp at this; omega
    rw [h0, hd, List.append_nil]
    refine ⟨_, w, run_noneT (Nat.le_refl _) ty, .inr (h.front hne hl i (by omega)), Below.refl _ _, fun k hk => .inl (by simp [Value.ownBlock] at hk ⊢; exact hk)⟩
  · have hdl : (S.drop (i + 1)).length = M - (i + 1) := by simp; omega
    obtain ⟨_, _, e, q1, _⟩ := h.read hne
    simp at e
    obtain ⟨_, _, rfl⟩ := e
    have hca : ¬ (ca = i + 1) := fun q => by
      have := List.length_pos_iff.2 hd
      omega
    rw [if_neg hca, ← hdl]
    obtain ⟨v', w', hr, ht, hb, hn⟩ := run_cutT (ca := ca - (i + 1)) (h.lie.take i) (h.lie.drop (i + 1)) hd (by simp; omega) ty
    rw [hti] at hr
    exact ⟨v', w', hr, .inl ht, hb, fun k hk => .inr (hn k hk)⟩
theorem filter_at {S : List Tm} {i : Nat} {id : Int} (hu : Un S) (hi : i < S.length) (he : (g S i).id = id) : S.filter (fun t => !decide (t.id = id)) = S.take i ++ S.drop (i + 1) := by
  have hs := take_at hi
  have hu' : Un (S.take i ++ g S i :: S.drop (i + 1)) := by rw [← hs]; exact hu
  conv => lhs; rw [hs]
  unfold Un at hu'
  rw [List.pairwise_append] at hu'
  obtain ⟨_, h2, h3⟩ := hu'
  obtain ⟨h4, _⟩ := List.pairwise_cons.1 h2
  rw [List.filter_append, List.filter_cons_of_neg (by simp [he])]
  congr 1
  · exact List.filter_eq_self.2 fun t ht => by have := h3 t ht (g S i) (by simp); simp; rw [← he]; exact this
  · exact List.filter_eq_self.2 fun t ht => by have := h4 t ht; simp; rw [← he]; exact fun e => this e.symm
set_option maxRecDepth 100000 in
set_option maxHeartbeats 8000000 in
theorem rcancel_any (w : World) (b now : Nat) (N id : Int) (v : Value) (S : List Tm) (h : RA w b now N v S) (hu : Un S) (hl : S.length ≤ 256) : Calls Try.prog 14 #[.pointer (some ⟨b, 0, none⟩), .int .i64 id] w fun e w' => e = .returned (.int .i64 (canF id S).2) ∧ ∃ v', RA w' b now N v' (canF id S).1 ∧ Stp b v v' w w' := by
  obtain ⟨z, hz⟩ : ∃ z, Hid (canF id S = z) := ⟨_, rfl⟩
  rw [hz.out]
  obtain ⟨M, hM⟩ : ∃ M, Hid (S.length = M) := ⟨_, rfl⟩
  obtain ⟨ao, ca, rfl, q1, q2⟩ := h.row.form
  rw [hM.out] at h q2 ⊢
  have hA := hide h
  have hMb : M ≤ 256 := by rw [← hM.out]; exact hl
  have hu' := hide hu
  clear h hu
  go_enter Try.func14, Try.ntmps14
  go_wp2_with fail
  go_loopw [5] (fun iv wr => ∃ i : Nat, iv = .int .i64 i ∧ i ≤ M ∧ Hid (wr = w ∧ ∀ j, j < i → (g S j).id ≠ id)) (fun iv _ => M - (intOf iv).toNat)
  case atStart => exact ⟨0, rfl, Nat.zero_le _, rfl, fun j hj => by omega⟩
  case round =>
    obtain ⟨i, rfl, hi, hQ⟩ := hrel
    obtain ⟨hw, hne⟩ := hQ.out
    subst hw
    replace hne := hide hne
    clear hQ
    obtain ⟨c0, c1, c2⟩ := hA.out.cells
    by_cases hlt2 : i < M
    · have hlt : i < S.length := by rw [hM.out]; exact hlt2
      have j1 : (i : Int) < (M : Int) := by omega
      have j0 : (0 : Int) ≤ (i : Int) := by omega
      obtain ⟨tb, ca', e, q3, q4, hr⟩ := hA.out.row.read (fun e => by rw [e] at hlt; simp at hlt)
      simp at e
      obtain ⟨rfl, eN, rfl⟩ := e
      clear eN
      obtain ⟨d0, d1⟩ := hr i hlt
      have j3 : (i : Int) + 1 ≤ (M : Int) := by omega
      have j4 : (M : Int) ≤ (ca : Int) := by omega
      have j5 : (i : Int) ≤ (ca : Int) := by omega
      by_cases he : (g S i).id = id
      · obtain rfl : z = (S.take i ++ S.drop (i + 1), 0) := by
          rw [← hz.out]
          unfold canF
          rw [if_pos (List.any_eq_true.2 ⟨g S i, g_mem hlt, by simp [he]⟩), filter_at hu'.out hlt he]
        rw [he] at d0
        clear hr he hz
        go_upto_region 5 with fail
        clear d0 d1 c0 c1 c2
        · skip
          obtain ⟨A2, hA2⟩ : ∃ z, Hid (((if ca = i + 1 then some ⟨tb, 0, none⟩ else some ⟨tb, (i + 1) * 2, none⟩ : Option Addr)) = z) := ⟨_, rfl⟩
          have j6 : IntKind.i64.wrap ((i : Int) + 1) = (i : Int) + 1 := by simp [IntKind.wrap, IntKind.bits, IntKind.signed]; omega
          have j7 : ¬ ((i : Int) + 1 < 0) := by omega
          have KP : Hid (Bxr wr.drew b now N (.slice (some ⟨tb, 0, none⟩) M ca)) := hA.out.box
          have KB : Hid (Below wr.heap.size wr wr.drew) := (Below.refl _ _).drew
          have KA : Hid (RA wr.drew b now N (.slice (some ⟨tb, 0, none⟩) M ca) S) := hA.out.below KB.out
          refine wp_region_T (fun q => Bxr q b now N (.slice (some ⟨tb, 0, none⟩) M ca)) 18 (by kernel_rfl) ?_
          generalize wr.drew = q at *
          refine wpAnyT_take (i := 0) (oi := { dst := some 25, op := Op.move (Operand.tmp 0), type := 31, pos := "ref.go:63", after := #[], guard := none }) (v := .pointer (some ⟨b, 0, none⟩)) [16, 17, 18] rfl (by kernel_rfl) (by kernel_rfl) (by kernel_rfl) (by kernel_rfl) (fun _ _ _ h => h) (Or.inl ⟨by rfl, ?_⟩) KP.out ?_
          · intro wq hSw
            obtain ⟨y0, y1, y2⟩ := rtc hSw
            go_simp
          (try simp only [Act.put, List.setIfInBounds_toArray, List.set_cons_zero, List.set_cons_succ])
          refine wpAnyT_take (i := 1) (oi := { dst := some 26, op := Op.move (Operand.tmp 0), type := 31, pos := "ref.go:63", after := #[], guard := none }) (v := .pointer (some ⟨b, 0, none⟩)) [2, 3, 4, 7, 15, 18] rfl (by kernel_rfl) (by kernel_rfl) (by kernel_rfl) (by kernel_rfl) (fun _ _ _ h => h) (Or.inl ⟨by rfl, ?_⟩) KP.out ?_
          · intro wq hSw
            obtain ⟨y0, y1, y2⟩ := rtc hSw
            go_simp
          (try simp only [Act.put, List.setIfInBounds_toArray, List.set_cons_zero, List.set_cons_succ])
          refine wpAnyT_take (i := 2) (oi := { dst := some 27, op := Op.nilCheck (Operand.tmp 26), type := 0, pos := "ref.go:63", after := #[{ on := 1, ground := Ground.data }], guard := none }) (v := .pointer (some ⟨b, 0, none⟩)) [3, 4, 7, 15, 18] rfl (by kernel_rfl) (by kernel_rfl) (by kernel_rfl) (by kernel_rfl) (fun _ _ _ h => h) (Or.inl ⟨by rfl, ?_⟩) KP.out ?_
          · intro wq hSw
            obtain ⟨y0, y1, y2⟩ := rtc hSw
            go_simp
          (try simp only [Act.put, List.setIfInBounds_toArray, List.set_cons_zero, List.set_cons_succ])
          refine wpAnyT_take (i := 3) (oi := { dst := some 28, op := Op.fieldAddr 41 (Operand.tmp 27) 1, type := 0, pos := "ref.go:63", after := #[{ on := 2, ground := Ground.data }], guard := none }) (v := .pointer (some ⟨b, 1, none⟩)) [4, 7, 15, 18] rfl (by kernel_rfl) (by kernel_rfl) (by kernel_rfl) (by kernel_rfl) (fun _ _ _ h => h) (Or.inl ⟨by rfl, ?_⟩) KP.out ?_
          · intro wq hSw
            obtain ⟨y0, y1, y2⟩ := rtc hSw
            go_simp
          (try simp only [Act.put, List.setIfInBounds_toArray, List.set_cons_zero, List.set_cons_succ])
          refine wpAnyT_take (i := 4) (oi := { dst := some 29, op := Op.load 39 (Operand.tmp 28), type := 39, pos := "ref.go:63", after := #[{ on := 3, ground := Ground.data }], guard := none }) (v := .slice (some ⟨tb, 0, none⟩) M ca) [7, 15, 18] rfl (by kernel_rfl) (by kernel_rfl) (by kernel_rfl) (by kernel_rfl) (fun _ _ _ h => h) (Or.inl ⟨by rfl, ?_⟩) KP.out ?_
          · intro wq hSw
            obtain ⟨y0, y1, y2⟩ := rtc hSw
            go_simp
          (try simp only [Act.put, List.setIfInBounds_toArray, List.set_cons_zero, List.set_cons_succ])
          refine wpAnyT_take (i := 5) (oi := { dst := some 30, op := Op.move (Operand.tmp 5), type := 3, pos := "ref.go:63", after := #[], guard := none }) (v := .int .i64 (i : Int)) [7, 15, 18] rfl (by kernel_rfl) (by kernel_rfl) (by kernel_rfl) (by kernel_rfl) (fun _ _ _ h => h) (Or.inl ⟨by rfl, ?_⟩) KP.out ?_
          · intro wq hSw
            obtain ⟨y0, y1, y2⟩ := rtc hSw
            go_simp
          (try simp only [Act.put, List.setIfInBounds_toArray, List.set_cons_zero, List.set_cons_succ])
          refine wpAnyT_take (i := 6) (oi := { dst := some 31, op := Op.move (Operand.tmp 5), type := 3, pos := "ref.go:63", after := #[], guard := none }) (v := .int .i64 (i : Int)) [7, 15, 18] rfl (by kernel_rfl) (by kernel_rfl) (by kernel_rfl) (by kernel_rfl) (fun _ _ _ h => h) (Or.inl ⟨by rfl, ?_⟩) KP.out ?_
          · intro wq hSw
            obtain ⟨y0, y1, y2⟩ := rtc hSw
            go_simp
          (try simp only [Act.put, List.setIfInBounds_toArray, List.set_cons_zero, List.set_cons_succ])
          refine wpAnyT_take (i := 7) (oi := { dst := some 32, op := Op.slice 39 (Operand.tmp 29) none (some (Operand.tmp 30)) (some (Operand.tmp 31)), type := 39, pos := "ref.go:63", after := #[{ on := 4, ground := Ground.data }, { on := 5, ground := Ground.data }, { on := 6, ground := Ground.data }], guard := none }) (v := .slice (some ⟨tb, 0, none⟩) i i) [15, 18] rfl (by kernel_rfl) (by kernel_rfl) (by kernel_rfl) (by kernel_rfl) (fun _ _ _ h => h) (Or.inl ⟨by rfl, ?_⟩) KP.out ?_
          · intro wq hSw
            obtain ⟨y0, y1, y2⟩ := rtc hSw
            go_simp
          (try simp only [Act.put, List.setIfInBounds_toArray, List.set_cons_zero, List.set_cons_succ])
          refine wpAnyT_take (i := 8) (oi := { dst := some 33, op := Op.move (Operand.tmp 0), type := 31, pos := "ref.go:63", after := #[], guard := none }) (v := .pointer (some ⟨b, 0, none⟩)) [9, 10, 11, 14, 15, 18] rfl (by kernel_rfl) (by kernel_rfl) (by kernel_rfl) (by kernel_rfl) (fun _ _ _ h => h) (Or.inl ⟨by rfl, ?_⟩) KP.out ?_
          · intro wq hSw
            obtain ⟨y0, y1, y2⟩ := rtc hSw
            go_simp
          (try simp only [Act.put, List.setIfInBounds_toArray, List.set_cons_zero, List.set_cons_succ])
          refine wpAnyT_take (i := 9) (oi := { dst := some 34, op := Op.nilCheck (Operand.tmp 33), type := 0, pos := "ref.go:63", after := #[{ on := 8, ground := Ground.data }], guard := none }) (v := .pointer (some ⟨b, 0, none⟩)) [10, 11, 14, 15, 18] rfl (by kernel_rfl) (by kernel_rfl) (by kernel_rfl) (by kernel_rfl) (fun _ _ _ h => h) (Or.inl ⟨by rfl, ?_⟩) KP.out ?_
          · intro wq hSw
            obtain ⟨y0, y1, y2⟩ := rtc hSw
            go_simp
          (try simp only [Act.put, List.setIfInBounds_toArray, List.set_cons_zero, List.set_cons_succ])
          refine wpAnyT_take (i := 10) (oi := { dst := some 35, op := Op.fieldAddr 41 (Operand.tmp 34) 1, type := 0, pos := "ref.go:63", after := #[{ on := 9, ground := Ground.data }], guard := none }) (v := .pointer (some ⟨b, 1, none⟩)) [11, 14, 15, 18] rfl (by kernel_rfl) (by kernel_rfl) (by kernel_rfl) (by kernel_rfl) (fun _ _ _ h => h) (Or.inl ⟨by rfl, ?_⟩) KP.out ?_
          · intro wq hSw
            obtain ⟨y0, y1, y2⟩ := rtc hSw
            go_simp
          (try simp only [Act.put, List.setIfInBounds_toArray, List.set_cons_zero, List.set_cons_succ])
          refine wpAnyT_take (i := 11) (oi := { dst := some 36, op := Op.load 39 (Operand.tmp 35), type := 39, pos := "ref.go:63", after := #[{ on := 10, ground := Ground.data }], guard := none }) (v := .slice (some ⟨tb, 0, none⟩) M ca) [14, 15, 18] rfl (by kernel_rfl) (by kernel_rfl) (by kernel_rfl) (by kernel_rfl) (fun _ _ _ h => h) (Or.inl ⟨by rfl, ?_⟩) KP.out ?_
          · intro wq hSw
            obtain ⟨y0, y1, y2⟩ := rtc hSw
            go_simp
          (try simp only [Act.put, List.setIfInBounds_toArray, List.set_cons_zero, List.set_cons_succ])
          refine wpAnyT_take (i := 12) (oi := { dst := some 37, op := Op.move (Operand.tmp 5), type := 3, pos := "ref.go:63", after := #[], guard := none }) (v := .int .i64 (i : Int)) [13, 14, 15, 18] rfl (by kernel_rfl) (by kernel_rfl) (by kernel_rfl) (by kernel_rfl) (fun _ _ _ h => h) (Or.inl ⟨by rfl, ?_⟩) KP.out ?_
          · intro wq hSw
            obtain ⟨y0, y1, y2⟩ := rtc hSw
            go_simp
          (try simp only [Act.put, List.setIfInBounds_toArray, List.set_cons_zero, List.set_cons_succ])
          refine wpAnyT_take (i := 13) (oi := { dst := some 38, op := Op.binOp BinOp.add 3 (Operand.tmp 37) (Operand.const (Value.int IntKind.i64 1)) 3, type := 3, pos := "ref.go:63", after := #[{ on := 12, ground := Ground.data }], guard := none }) (v := .int .i64 ((i : Int) + 1)) [14, 15, 18] rfl (by kernel_rfl) (by kernel_rfl) (by kernel_rfl) (by kernel_rfl) (fun _ _ _ h => h) (Or.inl ⟨by rfl, ?_⟩) KP.out ?_
          · intro wq hSw
            obtain ⟨y0, y1, y2⟩ := rtc hSw
            go_simp
          (try simp only [Act.put, List.setIfInBounds_toArray, List.set_cons_zero, List.set_cons_succ])
          refine wpAnyT_take (i := 14) (oi := { dst := some 39, op := Op.slice 39 (Operand.tmp 36) (some (Operand.tmp 38)) none none, type := 39, pos := "ref.go:63", after := #[{ on := 11, ground := Ground.data }, { on := 13, ground := Ground.data }], guard := none }) (v := .slice A2 (M - (i + 1)) (ca - (i + 1))) [15, 18] rfl (by kernel_rfl) (by kernel_rfl) (by kernel_rfl) (by kernel_rfl) (fun _ _ _ h => h) (Or.inl ⟨by rfl, ?_⟩) KP.out ?_
          · intro wq hSw
            obtain ⟨y0, y1, y2⟩ := rtc hSw; have y9 := hA2.out
            go_simp
          (try simp only [Act.put, List.setIfInBounds_toArray, List.set_cons_zero, List.set_cons_succ])
          obtain ⟨v5, w5, r5, t5, b5, n5⟩ := run_canT (M := M) KA.out.row hM.out hlt hl 39
          rw [hA2.out] at r5
          have A5 := KA.out.below b5
          have A6 := A5.setV t5
          have z1 : w5.cell? ⟨b, 1, none⟩ = some (.slice (some ⟨tb, 0, none⟩) M ca) := A5.cells.2.1
          have z2 : w5.frozen? ⟨b, 1, none⟩ = false := A5.frozen.2.1
          have K5 : Hid (Bxr w5 b now N (.slice (some ⟨tb, 0, none⟩) M ca)) := A5.box
          obtain ⟨a5, c5, hv5, _⟩ := t5.form
          generalize (S.take i ++ S.drop (i + 1)).length = m5 at hv5
          have FIN : Hid (RA (w5.setCell ⟨b, 1, none⟩ v5) b now N v5 (S.take i ++ S.drop (i + 1)) ∧ Stp b (.slice (some ⟨tb, 0, none⟩) M ca) v5 wr (w5.setCell ⟨b, 1, none⟩ v5)) := by
            refine ⟨A6, (But.of_below (keepF KB.out b5) _).trans (but_set _ _ _ _ _), fun j hj => ?_⟩
            rcases n5 j hj with e | e
            · exact .inl e
            · exact .inr (Nat.le_trans KB.out.size e)
          replace r5 := hide r5
          clear A5 A6 t5 b5 n5
          subst hv5
          refine wpAnyT_one (i := 15) (o := { dst := some 40, op := Op.call { callee := Callee.builtin Builtin.append, args := #[Operand.tmp 32, Operand.tmp 39], argTypes := #[39, 39] }, type := 39, pos := "ref.go:63", after := #[{ on := 7, ground := Ground.data }, { on := 14, ground := Ground.data }], guard := none }) (by kernel_rfl) rfl (fun K hK => ?_)
          rw [if_pos (by simp [Region.wanted])]
          refine Lib.wp_append_run _ (.tmp 32) (.tmp 39) 39 39 rfl (.slice (some ⟨tb, 0, none⟩) i i) (.slice A2 (M - (i + 1)) (ca - (i + 1))) (by simp [Act.eval]) (by simp [Act.eval]) _ w5 r5.out ?_
          refine hK.out _ _ (fun _ => K5.out) ?_
          clear hK K
          (try simp only [Act.put, List.setIfInBounds_toArray, List.set_cons_zero, List.set_cons_succ])
          refine wpAnyT_one (i := 16) (o := { dst := some 41, op := Op.nilCheck (Operand.tmp 25), type := 0, pos := "ref.go:63", after := #[{ on := 0, ground := Ground.data }, { on := 0, ground := Ground.phase }, { on := 1, ground := Ground.phase }, { on := 2, ground := Ground.phase }, { on := 3, ground := Ground.phase }, { on := 4, ground := Ground.phase }, { on := 5, ground := Ground.phase }, { on := 6, ground := Ground.phase }, { on := 7, ground := Ground.phase }, { on := 8, ground := Ground.phase }, { on := 9, ground := Ground.phase }, { on := 10, ground := Ground.phase }, { on := 11, ground := Ground.phase }, { on := 12, ground := Ground.phase }, { on := 13, ground := Ground.phase }, { on := 14, ground := Ground.phase }, { on := 15, ground := Ground.phase }], guard := none }) (by kernel_rfl) rfl (fun K hK => ?_)
          go_simp
          refine hK.out _ _ (fun _ => K5.out) ?_
          clear hK K
          (try simp only [Act.put, List.setIfInBounds_toArray, List.set_cons_zero, List.set_cons_succ])
          refine wpAnyT_one (i := 17) (o := { dst := some 42, op := Op.fieldAddr 41 (Operand.tmp 41) 1, type := 0, pos := "ref.go:63", after := #[{ on := 16, ground := Ground.data }, { on := 0, ground := Ground.phase }, { on := 1, ground := Ground.phase }, { on := 2, ground := Ground.phase }, { on := 3, ground := Ground.phase }, { on := 4, ground := Ground.phase }, { on := 5, ground := Ground.phase }, { on := 6, ground := Ground.phase }, { on := 7, ground := Ground.phase }, { on := 8, ground := Ground.phase }, { on := 9, ground := Ground.phase }, { on := 10, ground := Ground.phase }, { on := 11, ground := Ground.phase }, { on := 12, ground := Ground.phase }, { on := 13, ground := Ground.phase }, { on := 14, ground := Ground.phase }, { on := 15, ground := Ground.phase }], guard := none }) (by kernel_rfl) rfl (fun K hK => ?_)
          go_simp
          refine hK.out _ _ (fun _ => K5.out) ?_
          clear hK K
          (try simp only [Act.put, List.setIfInBounds_toArray, List.set_cons_zero, List.set_cons_succ])
          refine wpAnyT_one (i := 18) (o := { dst := none, op := Op.store 39 (Operand.tmp 42) (Operand.tmp 40), type := 0, pos := "ref.go:63", after := #[{ on := 17, ground := Ground.data }, { on := 15, ground := Ground.data }, { on := 15, ground := Ground.chain }, { on := 0, ground := Ground.phase }, { on := 1, ground := Ground.phase }, { on := 2, ground := Ground.phase }, { on := 3, ground := Ground.phase }, { on := 4, ground := Ground.phase }, { on := 5, ground := Ground.phase }, { on := 6, ground := Ground.phase }, { on := 7, ground := Ground.phase }, { on := 8, ground := Ground.phase }, { on := 9, ground := Ground.phase }, { on := 10, ground := Ground.phase }, { on := 11, ground := Ground.phase }, { on := 12, ground := Ground.phase }, { on := 13, ground := Ground.phase }, { on := 14, ground := Ground.phase }, { on := 15, ground := Ground.phase }], guard := none }) (by kernel_rfl) rfl (fun K hK => ?_)
          go_simp
          refine hK.out _ _ (vac (by kernel_rfl)) ?_
          clear hK K
          (try simp only [Act.put, List.setIfInBounds_toArray, List.set_cons_zero, List.set_cons_succ])
          refine wpAnyT_done (by kernel_rfl) ?_ _
          go_wp2_with fail
          go_ret
          exact ⟨rfl, _, FIN.out⟩
      · have hne2 : Hid (∀ j, j < i + 1 → (g S j).id ≠ id) := fun j hj => by
          by_cases e : j = i
          · rw [e]; exact he
          · exact hne.out j (by omega)
        have he2 : ¬ ((g S i).id = id) := he
        clear hr
        go_wp2_with fail
        go_roundw
        case rel => exact ⟨i + 1, by go_num, by omega, by trivial, hne2.out⟩
        case measure => simp [intOf]; omega
    · obtain rfl : i = M := by omega
      have j1 : ¬ ((i : Int) < (i : Int)) := by omega
      obtain rfl : z = (S, 6) := by
        rw [← hz.out]
        unfold canF
        rw [if_neg]
        intro q
        obtain ⟨t, ht, e⟩ := List.any_eq_true.1 q
        obtain ⟨k, hk, e2⟩ := mem_g ht
        refine hne.out k (by rw [hM.out] at hk; exact hk) ?_
        rw [e2]
        simpa using e
      go_wp2_with fail
      go_ret
      exact ⟨rfl, _, hA.out, Stp.refl _ _ _⟩
end Go.Proofs.Ytjplkffghfikgaa.Ck

/-
  The document's Jump; one more timer at the end of its row.
-/
namespace Go.Proofs.Ytjplkffghfikgaa.Ck
open Go.RowKit Rl
set_option linter.unusedVariables false
set_option maxRecDepth 100000 in
set_option maxHeartbeats 4000000 in
theorem rjump_any (w : World) (b now : Nat) (N : Int) (v : Value) (S : List Tm) (h : RA w b now N v S) (ht : Tt S) (hl : S.length ≤ 256) (hn : now < 9218868437227405312) : Calls Try.prog 19 #[.pointer (some ⟨b, 0, none⟩)] w fun e w' => ∃ ids v', e = .returned ids ∧ RA w' b (jumpF now S).2.2.1 N v' (jumpF now S).2.1 ∧ Ids w.heap.size w' ids (jumpF now S).1 ∧ Stp b v v' w w' := by
  have hN := rnext_any w b now N v S h ht hl
  have hn1 := nxS_lt S ht
  have hG := hide (fun x hx => rgo_any w b now x N v S h ht hl hn hx)
  have hno : Hid (RA w b now N v S ∧ Ids w.heap.size w (.slice none 0 0) [] ∧ Stp b v v w w) := ⟨h, Ids.nil _ _, Stp.refl _ _ _⟩
  obtain ⟨z, hz⟩ : ∃ z, Hid (jumpF now S = z) := ⟨_, rfl⟩
  rw [hz.out]
  clear h
  unfold jumpF at hz
  generalize nxS S = y at *
  obtain ⟨t, ok⟩ := y
  cases ok
  · obtain rfl : z = ([], S, now, 1) := by rw [← hz.out]; rfl
    go_enter Try.func19, Try.ntmps19
    go_wp2_with (go_at_call 37; refine hN.mono ?_; rintro e w2 ⟨rfl, hw⟩; rw [hw]; clear hw w2)
    go_ret
    exact ⟨_, v, rfl, hno.out.1, hno.out.2⟩
  · obtain rfl : z = goF now t S := by rw [← hz.out]; rfl
    go_enter Try.func19, Try.ntmps19
    go_wp2_with (first | (go_at_call 37; refine hN.mono ?_; rintro e w2 ⟨rfl, hw⟩; rw [hw]; clear hw w2) | (go_at_call 16; refine (hG.out t hn1).mono ?_; rintro e w3 ⟨ids, v5, rfl, C5, I5, S5⟩))
    go_ret
    exact ⟨_, v5, rfl, C5, I5, S5⟩
end Go.Proofs.Ytjplkffghfikgaa.Ck

/-
  What the document's After does to its list.
-/
namespace Go.Proofs.Ytjplkffghfikgaa.Ck
open Go.RowKit Rl
set_option linter.unusedVariables false
/-- One more timer, appended to the document's list. -/
theorem run_appR {w : World} {v : Value} {S : List Tm} (t : Tm) (gg : Nat) (h : Tr w v S) (h0 : w.cell? ⟨gg, 0, none⟩ = some (.int .i64 t.id)) (h1 : w.cell? ⟨gg, 1, none⟩ = some (.float .f64 t.b)) (hl : S.length ≤ 256) (ty : TypeId) :
    ∃ v' w', (Builtin.append_ #[39, 39] ty #[v, .slice (some ⟨gg, 0, none⟩) 1 1]).run Try.prog w = .ok v' w' ∧ Tms w' v' (S ++ [t]) ∧ But (fun k => v.ownBlock = some k) w w' ∧ (∀ k, v'.ownBlock = some k → v.ownBlock = some k ∨ w.heap.size ≤ k) := by
  have hcells : ∀ j u, ([.int .i64 t.id, .float .f64 t.b] : List Value)[j]? = some u → w.cell? ⟨gg, j, none⟩ = some u := by
    intro j u hu
    match j with
    | 0 => simp at hu; subst hu; exact h0
    | 1 => simp at hu; subst hu; exact h1
    | j + 2 => simp at hu
  rcases h with h | ⟨g', cur, rfl, hh, hc, hq⟩
  · obtain ⟨i0, hi, hz0, hz1, hz2⟩ := info_parts infoTm
    obtain ⟨v', w', hr, ho, hg, _, hat⟩ := run_append_own_at (P := Try.prog) w 0 39 ty 70 i0 (.agg #[.int .i64 0, .float .f64 0]) 2 16 Try.underlying39 hi hz0 hz1 hz2 rfl (by decide) v S.length (tcells S) h ⟨gg, 0, none⟩ 1 1 [.int .i64 t.id, .float .f64 t.b] rfl (fun j u hu => by rw [addr_add]; simpa using hcells j u hu) (by
        intro u hu
        simp at hu
        rcases hu with rfl | rfl <;> rfl) (by unfold maxLen; omega) (by omega) (Nat.zero_le _)
    refine ⟨v', w', hr, ?_, But.of_grownBy hg fun k e => e, fun k hk => ?_⟩
    · unfold Tms
      rw [List.length_append, tcells_snoc]
      exact ho
    · rcases hat with e | e
      · exact .inl (by rw [← e]; exact hk)
      · rw [e] at hk; cases hk; exact .inr (Nat.le_refl _)
  · have hS : Tr w (.slice (some ⟨g', 0, none⟩) S.length S.length) S := .inr ⟨g', cur, rfl, hh, hc, hq⟩
    have hT : Lie w gg 0 [t] := fun j u hu => by rw [Nat.zero_add]; exact hcells j u hu
    obtain ⟨v', w', hr, ht, hb, hn⟩ := run_cutT (ca := 1) hS.lie hT (by simp) (by simp; omega) ty
    exact ⟨v', w', hr, ht, But.of_below hb _, fun k hk => .inr (hn k hk)⟩
/-- The list behind the shift down to k. -/
def shS (S : List Tm) (x : Tm) (k : Nat) : List Tm := (S ++ [x]).take (k + 1) ++ S.drop k
theorem shS_top (S : List Tm) (x : Tm) : shS S x S.length = S ++ [x] := by
  unfold shS
  rw [List.take_of_length_le (by simp), List.drop_length, List.append_nil]
theorem shS_len (S : List Tm) (x : Tm) (k : Nat) (hk : k ≤ S.length) : (shS S x k).length = S.length + 1 := by
  unfold shS
  simp
  omega
theorem shS_at (S : List Tm) (x : Tm) (k : Nat) (hk : k < S.length) : g (shS S x (k + 1)) k = g S k := by
  have e : (shS S x (k + 1))[k]? = S[k]? := by
    unfold shS
    rw [List.getElem?_append_left (by simp; omega), List.getElem?_take_of_lt (by omega), List.getElem?_append_left hk]
  simp [g, List.getD, e]
theorem shS_step (S : List Tm) (x : Tm) (k : Nat) (hk : k < S.length) : (shS S x (k + 1)).set (k + 1) (g S k) = shS S x k := by
  have h1 : (S ++ [x]).take (k + 1 + 1) = (S ++ [x]).take (k + 1) ++ [(S ++ [x])[k + 1]'(by simp; omega)] := List.take_succ_eq_append_getElem (by simp; omega)
  have h2 : S.drop k = g S k :: S.drop (k + 1) := by
    rw [List.drop_eq_getElem_cons hk]
    simp [g, List.getD, hk]
  unfold shS
  rw [h1, h2, List.append_assoc, List.set_append_right _ _ (by simp; omega)]
  simp
  have : k - min k S.length = 0 := by omega
  rw [this]
  rfl
theorem shS_end (S : List Tm) (x : Tm) (k : Nat) (hk : k ≤ S.length) : (shS S x k).set k x = S.take k ++ x :: S.drop k := by
  have h1 : (S ++ [x]).take (k + 1) = (S ++ [x]).take k ++ [(S ++ [x])[k]'(by simp; omega)] := List.take_succ_eq_append_getElem (by simp; omega)
  unfold shS
  rw [h1, List.append_assoc, List.set_append_right _ _ (by simp; omega), List.take_append_of_le_length hk]
  simp
  have : k - min k S.length = 0 := by omega
  rw [this]
  rfl
theorem ins_at {S : List Tm} {x : Tm} {k : Nat} (hk : k ≤ S.length) (h1 : ∀ j, j < k → Lt (g S j) x) (h2 : k < S.length → ¬ Lt (g S k) x) : ins x S = S.take k ++ x :: S.drop k := by
  induction S generalizing k with
  | nil => simp at hk; subst hk; rfl
  | cons y r ih =>
    match k with
    | 0 =>
      have := h2 (by simp)
      rw [show g (y :: r) 0 = y from rfl] at this
      unfold ins
      rw [if_neg this]
      rfl
    | k + 1 =>
      have h0 := h1 0 (by omega)
      rw [show g (y :: r) 0 = y from rfl] at h0
      unfold ins
      rw [if_pos h0, ih (k := k) (by simpa using hk) (fun j hj => h1 (j + 1) (by omega)) (fun q => h2 (by simpa using q))]
      rfl
/-- Of two timers, by the document's look at their times. -/
theorem cmp_lt {y x : Tm} (h : y.id < x.id) : cmpB y.b x.b ≤ 0 ↔ Lt y x := by
  unfold cmpB cmpZ Lt
  split <;> (try split) <;> omega
/-- The document's clock, its list its own. -/
structure RT (w : World) (b now : Nat) (N : Int) (v : Value) (L : List Tm) : Prop where
  box : w.heap[b]? = some (.cells #[.float .f64 now, v, .int .i64 N] 41 (0, 0))
  row : Tms w v L
theorem RT.ra {w : World} {b now : Nat} {N : Int} {v : Value} {L : List Tm} (h : RT w b now N v L) : RA w b now N v L := ⟨h.box, .inl h.row⟩
theorem RT.below {A B : World} {b now : Nat} {N : Int} {v : Value} {S : List Tm} (h : RT A b now N v S) (hb : Below A.heap.size A B) : RT B b now N v S := ⟨(hb.block b (heap_lt h.box)).trans h.box, h.row.below hb⟩
theorem RT.set {w : World} {b now tb n ca : Nat} {N : Int} {L : List Tm} (h : RT w b now N (.slice (some ⟨tb, 0, none⟩) n ca) L) (k : Nat) (t : Tm) : RT ((w.setCell ⟨tb, k * 2, none⟩ (.int .i64 t.id)).setCell ⟨tb, k * 2 + 1, none⟩ (.float .f64 t.b)) b now N (.slice (some ⟨tb, 0, none⟩) n ca) (L.set k t) ∧ But (fun j => j = tb) w ((w.setCell ⟨tb, k * 2, none⟩ (.int .i64 t.id)).setCell ⟨tb, k * 2 + 1, none⟩ (.float .f64 t.b)) := by
  have bu : But (fun j => j = tb) w ((w.setCell ⟨tb, k * 2, none⟩ (.int .i64 t.id)).setCell ⟨tb, k * 2 + 1, none⟩ (.float .f64 t.b)) := (But.of_grownBy (grown_setCell w tb (k * 2) (.int .i64 t.id)) fun j e => by cases e; rfl).trans (But.of_grownBy (grown_setCell _ tb (k * 2 + 1) (.float .f64 t.b)) fun j e => by cases e; rfl)
  refine ⟨⟨bu.at h.box (fun e => h.ra.ap (by rw [e]; rfl)), h.row.set k t⟩, bu⟩
theorem RT.app {w : World} {b now : Nat} {N : Int} {v v' : Value} {L : List Tm} (h : w.heap[b]? = some (.cells #[.float .f64 now, v, .int .i64 N] 41 (0, 0))) (hv : Tms w v' L) : RT (w.setCell ⟨b, 1, none⟩ v') b now N v' L := by
  refine ⟨?_, ?_⟩
  · rw [heap_setCell_same w b 1 _ _ _ h]; simp
  · have g1 : But (fun k => k = b) w (w.setCell ⟨b, 1, none⟩ v') := But.of_grownBy (grown_setCell _ _ _ _) fun k e => by cases e; rfl
    exact hv.but g1 fun k hk e => hv.no h (by decide) (by rw [← e]; exact hk)
theorem RT.shift {w w8 : World} {b now tb n ca i j g4 : Nat} {N : Int} {S : List Tm} {x : Tm} (h : RT w b now N (.slice (some ⟨tb, 0, none⟩) n ca) (shS S x j)) (hX : Tw w g4 x) (hB : But (fun i => i = tb) w8 w) (hj : j = i + 1) (hi : i < S.length) (hg : g4 ≠ tb) : RT ((w.setCell ⟨tb, j * 2, none⟩ (.int .i64 (g S i).id)).setCell ⟨tb, j * 2 + 1, none⟩ (.float .f64 (g S i).b)) b now N (.slice (some ⟨tb, 0, none⟩) n ca) (shS S x i) ∧ Tw ((w.setCell ⟨tb, j * 2, none⟩ (.int .i64 (g S i).id)).setCell ⟨tb, j * 2 + 1, none⟩ (.float .f64 (g S i).b)) g4 x ∧ But (fun i => i = tb) w8 ((w.setCell ⟨tb, j * 2, none⟩ (.int .i64 (g S i).id)).setCell ⟨tb, j * 2 + 1, none⟩ (.float .f64 (g S i).b)) := by
  obtain ⟨h1, h2⟩ := h.set j (g S i)
  rw [show (shS S x j).set j (g S i) = shS S x i by rw [hj]; exact shS_step S x i hi] at h1
  exact ⟨h1, h2.at hX hg, hB.trans h2⟩
theorem RT.last {w w8 : World} {b now tb n ca k : Nat} {N : Int} {S : List Tm} {x : Tm} (h : RT w b now N (.slice (some ⟨tb, 0, none⟩) n ca) (shS S x k)) (hB : But (fun i => i = tb) w8 w) (hk : k ≤ S.length) : RT ((w.setCell ⟨tb, k * 2, none⟩ (.int .i64 x.id)).setCell ⟨tb, k * 2 + 1, none⟩ (.float .f64 x.b)) b now N (.slice (some ⟨tb, 0, none⟩) n ca) (S.take k ++ x :: S.drop k) ∧ But (fun i => i = tb) w8 ((w.setCell ⟨tb, k * 2, none⟩ (.int .i64 x.id)).setCell ⟨tb, k * 2 + 1, none⟩ (.float .f64 x.b)) := by
  obtain ⟨h1, h2⟩ := h.set k x
  rw [shS_end S x k hk] at h1
  exact ⟨h1, hB.trans h2⟩
end Go.Proofs.Ytjplkffghfikgaa.Ck

/-
  The document's After. (gen_Cn7.py)
-/
namespace Go.Proofs.Ytjplkffghfikgaa.Ck
open Go.RowKit Rl
open Ix (wp_region_T wpAnyT wpAnyT_take wpAnyT_one wpAnyT_done vac)
set_option linter.unusedVariables false
set_option maxRecDepth 100000 in
set_option maxHeartbeats 8000000 in
theorem rafter_any (w : World) (b now d : Nat) (N : Int) (v : Value) (S : List Tm) (h : RA w b now N v S) (hnb : Nb (N + 1) S) (hd : d < 18446744073709551616) (hl : S.length ≤ 256) (ht : Tt S) (hn : now < 9218868437227405312) (hN0 : 0 ≤ N) (hN1 : N ≤ 1000000) : Calls Try.prog 12 #[.pointer (some ⟨b, 0, none⟩), .float .f64 d] w fun e w' => e = .returned (.tuple #[.int .i64 (aftF now (N + 1) d S).1, .int .i64 (aftF now (N + 1) d S).2.1]) ∧ ∃ v', RA w' b now ((aftF now (N + 1) d S).2.2.2 - 1) v' (aftF now (N + 1) d S).2.2.1 ∧ Stp b v v' w w' := by
  have sf : ∀ (W : World) (a : Addr) (x : Nat), (store a (.float .f64 x)).run Try.prog W = stored Try.prog W a (.float .f64 x) .plain := fun W a x => run_store _ W a _ _ rfl
  have hT := rtime_any w d hd
  obtain ⟨c0, c1, c2⟩ := h.cells
  obtain ⟨f0, f1, f2⟩ := h.frozen
  obtain ⟨z, hz⟩ : ∃ z, Hid (aftF now (N + 1) d S = z) := ⟨_, rfl⟩
  rw [hz.out]
  have hno : Hid (RA w b now (N + 1 - 1) v S ∧ Stp b v v w w) := ⟨by rw [Int.add_sub_cancel]; exact h, Stp.refl _ _ _⟩
  cases hok : okD d
  · rw [hok] at hT
    obtain rfl : z = (0, 1, S, N + 1) := by rw [← hz.out]; simp [aftF, hok]
    clear h
    go_enter Try.func12, Try.ntmps12
    go_wp2_with (go_at_call 29; refine hT.mono ?_; rintro e w' ⟨rfl, hw⟩; rw [hw]; clear hw w')
    go_ret2
    exact ⟨rfl, v, hno.out⟩
  · have hpo := plus_ok hok
    rw [hok] at hT
    obtain ⟨ao, ca, rfl, q1, q2⟩ := h.row.form
    by_cases hs : S.length = 256
    · obtain rfl : z = (0, 9, S, N + 1) := by rw [← hz.out]; simp [aftF, hok, hs]
      clear h hpo
      rw [hs] at c1 hno ⊢
      go_enter Try.func12, Try.ntmps12
      go_wp2_with (go_at_call 29; refine hT.mono ?_; rintro e w' ⟨rfl, hw⟩; rw [hw]; clear hw w')
      go_ret2
      exact ⟨rfl, _, hno.out⟩
    · obtain ⟨T, hTT⟩ : ∃ T, Hid (tsB now (plusB d) = T) := ⟨_, rfl⟩
      obtain rfl : z = (N + 1, 0, ins ⟨N + 1, T⟩ S, N + 1 + 1) := by rw [← hz.out, ← hTT.out]; simp [aftF, hok, show ¬ (256 ≤ S.length) by omega]
      have hTle : Hid (T ≤ 9218868437227405312) := by rw [← hTT.out]; exact (tsB_some (Nat.le_of_lt hn) hpo).2
      have hA : ∀ W : World, (binOp .add 29 (.float .f64 now) (.float .f64 (plusB d))).run Try.prog W = .ok (.float .f64 T) W := by rw [← hTT.out]; exact fun W => add_run (Nat.le_of_lt hn) hpo W
      have hlt : Hid (S.length < 256) := by show _ < _; omega
      obtain ⟨M, hM⟩ : ∃ M, Hid (S.length = M) := ⟨_, rfl⟩
      have hs' : ¬ ((M : Int) = 256) := by rw [← hM.out]; omega
      rw [hM.out] at c1 h ⊢
      rw [hM.out] at q2
      have hM1 : M < 256 := by rw [← hM.out]; exact hlt.out
      have hH := hide h
      have A1 := hide (h.setN (N + 1))
      have K0 : Hid (b < w.heap.size ∧ ∀ k, (Value.slice ao M ca).ownBlock = some k → k < w.heap.size) := ⟨heap_lt h.box, h.row.lt⟩
      have hnb' := hide hnb
      have ht' := hide ht
      have P1 : Hid (But (Own b (.slice ao M ca)) w (w.setCell ⟨b, 2, none⟩ (.int .i64 (N + 1)))) := but_set _ _ _ _ _
      obtain ⟨w1, hw1⟩ : ∃ w1, Hid (w.setCell ⟨b, 2, none⟩ (.int .i64 (N + 1)) = w1) := ⟨_, rfl⟩
      rw [hw1.out] at A1 P1
      have sz1 : Hid (w.heap.size ≤ w1.heap.size) := P1.out.size
      generalize plusB d = pd at *
      clear h hnb ht hs hno hz hok hl hpo
      go_enter Try.func12, Try.ntmps12
      go_upto_region 7 with (first | (go_at_call 29; refine hT.mono ?_; rintro e w' ⟨rfl, hw⟩; rw [hw]; clear hw w') | fail)
      rw [hw1.out]
      clear c0 c1 c2 f0 f1 f2 hT
      have KP : Hid (Bxr w1.drew b now (N + 1) (.slice ao M ca)) := A1.out.box
      have KB : Hid (Below w1.heap.size w1 w1.drew) := (Below.refl _ _).drew
      have KA : Hid (RA w1.drew b now (N + 1) (.slice ao M ca) S) := A1.out.below KB.out
      have hgs : Hid (w1.drew.heap.size = w1.heap.size) := rfl
      refine wp_region_T (fun q => Bxr q b now (N + 1) (.slice ao M ca)) 12 (by kernel_rfl) ?_
      generalize w1.drew = q at *
      refine wpAnyT_take (i := 0) (oi := { dst := some 31, op := Op.move (Operand.tmp 0), type := 31, pos := "ref.go:46", after := #[], guard := none }) (v := .pointer (some ⟨b, 0, none⟩)) [1, 2, 3, 10, 12] rfl (by kernel_rfl) (by kernel_rfl) (by kernel_rfl) (by kernel_rfl) (fun _ _ _ h => h) (Or.inl ⟨by rfl, ?_⟩) KP.out ?_
      · intro wq hSw
        obtain ⟨y0, y1, y2⟩ := rtc hSw
        go_simp
      (try simp only [Act.put, List.setIfInBounds_toArray, List.set_cons_zero, List.set_cons_succ])
      refine wpAnyT_take (i := 1) (oi := { dst := some 32, op := Op.nilCheck (Operand.tmp 31), type := 0, pos := "ref.go:46", after := #[{ on := 0, ground := Ground.data }], guard := none }) (v := .pointer (some ⟨b, 0, none⟩)) [2, 3, 10, 12] rfl (by kernel_rfl) (by kernel_rfl) (by kernel_rfl) (by kernel_rfl) (fun _ _ _ h => h) (Or.inl ⟨by rfl, ?_⟩) KP.out ?_
      · intro wq hSw
        obtain ⟨y0, y1, y2⟩ := rtc hSw
        go_simp
      (try simp only [Act.put, List.setIfInBounds_toArray, List.set_cons_zero, List.set_cons_succ])
      refine wpAnyT_take (i := 2) (oi := { dst := some 33, op := Op.fieldAddr 41 (Operand.tmp 32) 2, type := 0, pos := "ref.go:46", after := #[{ on := 1, ground := Ground.data }], guard := none }) (v := .pointer (some ⟨b, 2, none⟩)) [3, 10, 12] rfl (by kernel_rfl) (by kernel_rfl) (by kernel_rfl) (by kernel_rfl) (fun _ _ _ h => h) (Or.inl ⟨by rfl, ?_⟩) KP.out ?_
      · intro wq hSw
        obtain ⟨y0, y1, y2⟩ := rtc hSw
        go_simp
      (try simp only [Act.put, List.setIfInBounds_toArray, List.set_cons_zero, List.set_cons_succ])
      refine wpAnyT_take (i := 3) (oi := { dst := some 34, op := Op.load 3 (Operand.tmp 33), type := 3, pos := "ref.go:46", after := #[{ on := 2, ground := Ground.data }], guard := none }) (v := .int .i64 (N + 1)) [10, 12] rfl (by kernel_rfl) (by kernel_rfl) (by kernel_rfl) (by kernel_rfl) (fun _ _ _ h => h) (Or.inl ⟨by rfl, ?_⟩) KP.out ?_
      · intro wq hSw
        obtain ⟨y0, y1, y2⟩ := rtc hSw
        go_simp
      (try simp only [Act.put, List.setIfInBounds_toArray, List.set_cons_zero, List.set_cons_succ])
      refine wpAnyT_take (i := 4) (oi := { dst := some 35, op := Op.move (Operand.tmp 0), type := 31, pos := "ref.go:46", after := #[], guard := none }) (v := .pointer (some ⟨b, 0, none⟩)) [5, 6, 7, 9, 10, 12] rfl (by kernel_rfl) (by kernel_rfl) (by kernel_rfl) (by kernel_rfl) (fun _ _ _ h => h) (Or.inl ⟨by rfl, ?_⟩) KP.out ?_
      · intro wq hSw
        obtain ⟨y0, y1, y2⟩ := rtc hSw
        go_simp
      (try simp only [Act.put, List.setIfInBounds_toArray, List.set_cons_zero, List.set_cons_succ])
      refine wpAnyT_take (i := 5) (oi := { dst := some 36, op := Op.nilCheck (Operand.tmp 35), type := 0, pos := "ref.go:46", after := #[{ on := 4, ground := Ground.data }], guard := none }) (v := .pointer (some ⟨b, 0, none⟩)) [6, 7, 9, 10, 12] rfl (by kernel_rfl) (by kernel_rfl) (by kernel_rfl) (by kernel_rfl) (fun _ _ _ h => h) (Or.inl ⟨by rfl, ?_⟩) KP.out ?_
      · intro wq hSw
        obtain ⟨y0, y1, y2⟩ := rtc hSw
        go_simp
      (try simp only [Act.put, List.setIfInBounds_toArray, List.set_cons_zero, List.set_cons_succ])
      refine wpAnyT_take (i := 6) (oi := { dst := some 37, op := Op.fieldAddr 41 (Operand.tmp 36) 0, type := 0, pos := "ref.go:46", after := #[{ on := 5, ground := Ground.data }], guard := none }) (v := .pointer (some ⟨b, 0, none⟩)) [7, 9, 10, 12] rfl (by kernel_rfl) (by kernel_rfl) (by kernel_rfl) (by kernel_rfl) (fun _ _ _ h => h) (Or.inl ⟨by rfl, ?_⟩) KP.out ?_
      · intro wq hSw
        obtain ⟨y0, y1, y2⟩ := rtc hSw
        go_simp
      (try simp only [Act.put, List.setIfInBounds_toArray, List.set_cons_zero, List.set_cons_succ])
      refine wpAnyT_take (i := 7) (oi := { dst := some 38, op := Op.load 29 (Operand.tmp 37), type := 29, pos := "ref.go:46", after := #[{ on := 6, ground := Ground.data }], guard := none }) (v := .float .f64 now) [9, 10, 12] rfl (by kernel_rfl) (by kernel_rfl) (by kernel_rfl) (by kernel_rfl) (fun _ _ _ h => h) (Or.inl ⟨by rfl, ?_⟩) KP.out ?_
      · intro wq hSw
        obtain ⟨y0, y1, y2⟩ := rtc hSw
        go_simp
      (try simp only [Act.put, List.setIfInBounds_toArray, List.set_cons_zero, List.set_cons_succ])
      refine wpAnyT_take (i := 8) (oi := { dst := some 39, op := Op.move (Operand.tmp 6), type := 29, pos := "ref.go:46", after := #[], guard := none }) (v := .float .f64 pd) [9, 10, 12] rfl (by kernel_rfl) (by kernel_rfl) (by kernel_rfl) (by kernel_rfl) (fun _ _ _ h => h) (Or.inl ⟨by rfl, ?_⟩) KP.out ?_
      · intro wq hSw
        obtain ⟨y0, y1, y2⟩ := rtc hSw
        go_simp
      (try simp only [Act.put, List.setIfInBounds_toArray, List.set_cons_zero, List.set_cons_succ])
      refine wpAnyT_take (i := 9) (oi := { dst := some 40, op := Op.binOp BinOp.add 29 (Operand.tmp 38) (Operand.tmp 39) 29, type := 29, pos := "ref.go:46", after := #[{ on := 7, ground := Ground.data }, { on := 8, ground := Ground.data }], guard := none }) (v := .float .f64 T) [10, 12] rfl (by kernel_rfl) (by kernel_rfl) (by kernel_rfl) (by kernel_rfl) (fun _ _ _ h => h) (Or.inl ⟨by rfl, ?_⟩) KP.out ?_
      · intro wq hSw
        obtain ⟨y0, y1, y2⟩ := rtc hSw
        go_simp
      (try simp only [Act.put, List.setIfInBounds_toArray, List.set_cons_zero, List.set_cons_succ])
      refine wpAnyT_take (i := 10) (oi := { dst := some 41, op := Op.build 70 #[(0, Operand.tmp 34), (1, Operand.tmp 40)], type := 70, pos := "ref.go:46", after := #[{ on := 3, ground := Ground.data }, { on := 9, ground := Ground.data }], guard := none }) (v := .agg #[.int .i64 (N + 1), .float .f64 T]) [12] rfl (by kernel_rfl) (by kernel_rfl) (by kernel_rfl) (by kernel_rfl) (fun _ _ _ h => h) (Or.inl ⟨by rfl, ?_⟩) KP.out ?_
      · intro wq hSw
        obtain ⟨y0, y1, y2⟩ := rtc hSw
        go_simp
      (try simp only [Act.put, List.setIfInBounds_toArray, List.set_cons_zero, List.set_cons_succ])
      have BK : Hid (Bxr (q.alloc (.cells #[.int .i64 0, .float .f64 0] 70)) b now (N + 1) (.slice ao M ca)) := ((box_below q (.cells #[.int .i64 0, .float .f64 0] 70)).block b (heap_lt KP.out)).trans KP.out
      have B2 := box_below q (.cells #[.int .i64 (N + 1), .float .f64 T] 70)
      have FIN : Hid (RA (q.alloc (.cells #[.int .i64 (N + 1), .float .f64 T] 70)) b now (N + 1) (.slice ao M ca) S ∧ Tw (q.alloc (.cells #[.int .i64 (N + 1), .float .f64 T] 70)) q.heap.size ⟨N + 1, T⟩ ∧ Stp b (.slice ao M ca) (.slice ao M ca) w (q.alloc (.cells #[.int .i64 (N + 1), .float .f64 T] 70))) := ⟨KA.out.below B2, heap_alloc_new q (.cells #[.int .i64 (N + 1), .float .f64 T] 70), P1.out.trans (But.of_below (keepF KB.out B2) _), fun j hj => .inl hj⟩
      have hgl : Hid (w.heap.size ≤ q.heap.size) := by show _ ≤ _; rw [hgs.out]; exact sz1.out
      refine wpAnyT_one (i := 11) (o := { dst := some 8, op := Op.alloc 70, type := 0, pos := "ref.go:46", after := #[], guard := none }) (by kernel_rfl) rfl (fun K hK => ?_)
      go_simp
      refine hK.out _ _ (fun _ => BK.out) ?_
      clear hK K
      (try simp only [Act.put, List.setIfInBounds_toArray, List.set_cons_zero, List.set_cons_succ])
      refine wpAnyT_one (i := 12) (o := { dst := none, op := Op.store 70 (Operand.tmp 8) (Operand.tmp 41), type := 0, pos := "ref.go:46", after := #[{ on := 11, ground := Ground.data }, { on := 10, ground := Ground.data }, { on := 0, ground := Ground.phase }, { on := 1, ground := Ground.phase }, { on := 2, ground := Ground.phase }, { on := 3, ground := Ground.phase }, { on := 4, ground := Ground.phase }, { on := 5, ground := Ground.phase }, { on := 6, ground := Ground.phase }, { on := 7, ground := Ground.phase }, { on := 8, ground := Ground.phase }, { on := 9, ground := Ground.phase }, { on := 10, ground := Ground.phase }, { on := 11, ground := Ground.phase }], guard := none }) (by kernel_rfl) rfl (fun K hK => ?_)
      go_simp
      refine hK.out _ _ (vac (by kernel_rfl)) ?_
      clear hK K
      (try simp only [Act.put, List.setIfInBounds_toArray, List.set_cons_zero, List.set_cons_succ])
      refine wpAnyT_done (by kernel_rfl) ?_ _
      clear BK B2 KP KA KB hgs
      generalize q.alloc (.cells #[.int .i64 (N + 1), .float .f64 T] 70) = w2 at *
      generalize q.heap.size = g4 at *
      obtain ⟨A2, X2, P2⟩ := FIN.out
      have A2' := hide A2
      have X2' := hide X2
      have P2' := hide P2
      clear A2 X2 P2 FIN
      go_upto_region 9 with fail
      go_loopw [9] (fun iv wr => ∃ k : Nat, iv = .int .i64 k ∧ k ≤ M ∧ Hid (Qt w2 wr ∧ ∀ j, j < k → Lt (g S j) ⟨N + 1, T⟩)) (fun iv _ => M - (intOf iv).toNat)
      case atStart => exact ⟨0, rfl, Nat.zero_le _, ⟨0, rfl⟩, fun j hj => by omega⟩
      case round =>
        obtain ⟨k, rfl, hk, hQ⟩ := hrel
        have A3 : Hid (RA wr b now (N + 1) (.slice ao M ca) S) := A2'.out.below (hQ.out.1.below _)
        have X3 : Hid (Tw wr g4 ⟨N + 1, T⟩) := X2'.out.below (hQ.out.1.below _)
        have P3 : Hid (Stp b (.slice ao M ca) (.slice ao M ca) w wr) := P2'.out.trans (Stp.below (hQ.out.1.below _))
        obtain ⟨c0, c1, c2⟩ := A3.out.cells
        obtain ⟨c3, c4⟩ := prc X3.out
        have Z3 : Hid (∀ q, Qt wr q → RA q b now (N + 1) (.slice ao M ca) S ∧ Tw q g4 ⟨N + 1, T⟩ ∧ Stp b (.slice ao M ca) (.slice ao M ca) w q) := fun q hq => ⟨A3.out.below (hq.below _), X3.out.below (hq.below _), P3.out.trans (Stp.below (hq.below _))⟩
        have k0 : (0 : Int) ≤ (k : Int) := by omega
        by_cases hgo : k < M ∧ Lt (g S k) ⟨N + 1, T⟩
        · obtain ⟨hkM, hL⟩ := hgo
          have hkS : k < S.length := by rw [hM.out]; exact hkM
          have k1 : (k : Int) < (M : Int) := by omega
          obtain ⟨tb, ca', e, _, _, hr⟩ := A3.out.row.read (fun e => by rw [e] at hkS; simp at hkS)
          simp at e
          rw [e.1] at c1
          obtain ⟨d0, d1⟩ := hr k hkS
          have hle := (cmp_lt (x := ⟨N + 1, T⟩) (hnb'.out _ (g_mem hkS))).2 hL
          have hb1 : Hid ((g S k).b < 18446744073709551616 ∧ T < 18446744073709551616) := by have a := ht'.out _ (g_mem hkS); have c := hTle.out; exact ⟨by omega, by omega⟩
          have hQ2 : Hid (∀ q, Qt wr q → Qt w2 q ∧ ∀ j, j < k + 1 → Lt (g S j) ⟨N + 1, T⟩) := fun q hq => ⟨hQ.out.1.trans hq, fun j hj => by
            by_cases e : j = k
            · rw [e]; exact hL
            · exact hQ.out.2 j (by omega)⟩
          generalize (g S k).b = yb at *
          generalize (g S k).id = yi at *
          clear hr hL e
          go_upto_region 9 with fail
          go_quiet (first | (go_at_call 32; exact Calls.quiet_of_same (refCompare_any _ yb T hb1.out.1 hb1.out.2)))
          go_wp2_with fail
          go_roundw
          case rel => exact ⟨k + 1, by go_num, by omega, hQ2.out _ ⟨_, rfl⟩⟩
          case measure => simp [intOf]; omega
        · have hst : k < M → ¬ Lt (g S k) ⟨N + 1, T⟩ := fun q p => hgo ⟨q, p⟩
          have FINS : Hid (ins ⟨N + 1, T⟩ S = S.take k ++ ⟨N + 1, T⟩ :: S.drop k) := ins_at (by rw [hM.out]; exact hk) hQ.out.2 (fun q => hst (by rw [← hM.out]; exact q))
          have hcs : (∃ tb yb : Nat, k < M ∧ ao = some ⟨tb, 0, none⟩ ∧ wr.cell? ⟨tb, k * 2 + 1, none⟩ = some (.float .f64 yb) ∧ ¬ (cmpB yb T ≤ 0) ∧ yb < 18446744073709551616) ∨ k = M := by
            by_cases hkM : k < M
            · have hkS : k < S.length := by rw [hM.out]; exact hkM
              obtain ⟨tb, ca', e, _, _, hr⟩ := A3.out.row.read (fun e => by rw [e] at hkS; simp at hkS)
              simp at e
              have := ht'.out _ (g_mem hkS)
              exact .inl ⟨tb, (g S k).b, hkM, e.1, (hr k hkS).2, fun q => hst hkM ((cmp_lt (x := ⟨N + 1, T⟩) (hnb'.out _ (g_mem hkS))).1 q), by omega⟩
            · exact .inr (by omega)
          have hTl : Hid (T < 18446744073709551616) := by have := hTle.out; show _ < _; omega
          clear hgo hst hQ
          rcases hcs with ⟨tb0, yb, hkM, hao, d1, hle, hyl⟩ | hkM
          · have k1 : (k : Int) < (M : Int) := by omega
            have hyl' := hide hyl
            clear hyl
            rw [hao] at c1
            clear hao
            go_upto_region 9 with fail
            go_quiet (first | (go_at_call 32; exact Calls.quiet_of_same (refCompare_any _ yb T hyl'.out hTl.out)))
            clear k1 hle hyl' d1 c1
            obtain ⟨A4, X4, P4⟩ := Z3.out (wr.drewN nq) ⟨nq, rfl⟩
            generalize wr.drewN nq = w3 at *
            clear c0 c2 c3 c4 hkM
            go_upto_region 11 with fail
            have KP : Hid (Bxr w3.drew b now (N + 1) (.slice ao M ca) ∧ Tw w3.drew g4 (⟨N + 1, T⟩ : Tm)) := ⟨A4.box, X4⟩
            have KB : Hid (Below w3.heap.size w3 w3.drew) := (Below.refl _ _).drew
            have KA : Hid (RA w3.drew b now (N + 1) (.slice ao M ca) S) := A4.below KB.out
            have P5 : Hid (Stp b (.slice ao M ca) (.slice ao M ca) w w3.drew) := P4.trans (Stp.below KB.out)
            have hvg : Hid (¬ Own b (.slice ao M ca) g4) := fun q => by
              have a := hgl.out
              rcases q with q | q
              · have c := K0.out.1; omega
              · have c := K0.out.2 _ q; omega
            refine wp_region_T (fun q => Bxr q b now (N + 1) (.slice ao M ca) ∧ Tw q g4 (⟨N + 1, T⟩ : Tm)) 10 (by kernel_rfl) ?_
            clear A4 X4 P4 KB
            generalize w3.drew = q at *
            refine wpAnyT_take (i := 0) (oi := { dst := some 65, op := Op.move (Operand.tmp 0), type := 31, pos := "ref.go:51", after := #[], guard := none }) (v := .pointer (some ⟨b, 0, none⟩)) [8, 9, 10] rfl (by kernel_rfl) (by kernel_rfl) (by kernel_rfl) (by kernel_rfl) (fun _ _ _ h => h) (Or.inl ⟨by rfl, ?_⟩) KP.out ?_
            · intro wq hSw
              obtain ⟨y0, y1, y2⟩ := rtc hSw.1
              obtain ⟨y3, y4⟩ := prc hSw.2
              go_simp
            (try simp only [Act.put, List.setIfInBounds_toArray, List.set_cons_zero, List.set_cons_succ])
            refine wpAnyT_take (i := 1) (oi := { dst := some 66, op := Op.move (Operand.tmp 0), type := 31, pos := "ref.go:51", after := #[], guard := none }) (v := .pointer (some ⟨b, 0, none⟩)) [2, 3, 4, 7, 10] rfl (by kernel_rfl) (by kernel_rfl) (by kernel_rfl) (by kernel_rfl) (fun _ _ _ h => h) (Or.inl ⟨by rfl, ?_⟩) KP.out ?_
            · intro wq hSw
              obtain ⟨y0, y1, y2⟩ := rtc hSw.1
              obtain ⟨y3, y4⟩ := prc hSw.2
              go_simp
            (try simp only [Act.put, List.setIfInBounds_toArray, List.set_cons_zero, List.set_cons_succ])
            refine wpAnyT_take (i := 2) (oi := { dst := some 67, op := Op.nilCheck (Operand.tmp 66), type := 0, pos := "ref.go:51", after := #[{ on := 1, ground := Ground.data }], guard := none }) (v := .pointer (some ⟨b, 0, none⟩)) [3, 4, 7, 10] rfl (by kernel_rfl) (by kernel_rfl) (by kernel_rfl) (by kernel_rfl) (fun _ _ _ h => h) (Or.inl ⟨by rfl, ?_⟩) KP.out ?_
            · intro wq hSw
              obtain ⟨y0, y1, y2⟩ := rtc hSw.1
              obtain ⟨y3, y4⟩ := prc hSw.2
              go_simp
            (try simp only [Act.put, List.setIfInBounds_toArray, List.set_cons_zero, List.set_cons_succ])
            refine wpAnyT_take (i := 3) (oi := { dst := some 68, op := Op.fieldAddr 41 (Operand.tmp 67) 1, type := 0, pos := "ref.go:51", after := #[{ on := 2, ground := Ground.data }], guard := none }) (v := .pointer (some ⟨b, 1, none⟩)) [4, 7, 10] rfl (by kernel_rfl) (by kernel_rfl) (by kernel_rfl) (by kernel_rfl) (fun _ _ _ h => h) (Or.inl ⟨by rfl, ?_⟩) KP.out ?_
            · intro wq hSw
              obtain ⟨y0, y1, y2⟩ := rtc hSw.1
              obtain ⟨y3, y4⟩ := prc hSw.2
              go_simp
            (try simp only [Act.put, List.setIfInBounds_toArray, List.set_cons_zero, List.set_cons_succ])
            refine wpAnyT_take (i := 4) (oi := { dst := some 69, op := Op.load 39 (Operand.tmp 68), type := 39, pos := "ref.go:51", after := #[{ on := 3, ground := Ground.data }], guard := none }) (v := .slice ao M ca) [7, 10] rfl (by kernel_rfl) (by kernel_rfl) (by kernel_rfl) (by kernel_rfl) (fun _ _ _ h => h) (Or.inl ⟨by rfl, ?_⟩) KP.out ?_
            · intro wq hSw
              obtain ⟨y0, y1, y2⟩ := rtc hSw.1
              obtain ⟨y3, y4⟩ := prc hSw.2
              go_simp
            (try simp only [Act.put, List.setIfInBounds_toArray, List.set_cons_zero, List.set_cons_succ])
            refine wpAnyT_take (i := 5) (oi := { dst := some 70, op := Op.load 70 (Operand.tmp 8), type := 70, pos := "ref.go:51", after := #[], guard := none }) (v := .agg #[.int .i64 (N + 1), .float .f64 T]) [6, 7, 10] rfl (by kernel_rfl) (by kernel_rfl) (by kernel_rfl) (by kernel_rfl) (fun _ _ _ h => h) (Or.inl ⟨by rfl, ?_⟩) KP.out ?_
            · intro wq hSw
              obtain ⟨y0, y1, y2⟩ := rtc hSw.1
              obtain ⟨y3, y4⟩ := prc hSw.2
              go_simp
            (try simp only [Act.put, List.setIfInBounds_toArray, List.set_cons_zero, List.set_cons_succ])
            refine wpAnyT_one (i := 6) (o := { dst := some 71, op := Op.buildSlice 39 1 #[(0, Operand.tmp 70)], type := 39, pos := "ref.go:51", after := #[{ on := 5, ground := Ground.data }], guard := none }) (by kernel_rfl) rfl (fun K hK => ?_)
            go_simp
            refine hK.out _ _ (fun _ => ⟨(KA.out.below (box_below _ _)).box, KP.out.2.below (box_below _ _)⟩) ?_
            clear hK K
            (try simp only [Act.put, List.setIfInBounds_toArray, List.set_cons_zero, List.set_cons_succ])
            have B6 := box_below q (.cells #[.int .i64 (N + 1), .float .f64 T] 70)
            obtain ⟨o0, o1⟩ := prc (heap_alloc_new q (.cells #[.int .i64 (N + 1), .float .f64 T] 70))
            have A6 := KA.out.below B6
            have X6 := KP.out.2.below B6
            have P6 := P5.out.trans (Stp.below B6)
            have hg6 := heap_lt X6
            clear KP KA P5 B6
            generalize q.alloc (.cells #[.int .i64 (N + 1), .float .f64 T] 70) = w6 at *
            generalize q.heap.size = g6 at *
            obtain ⟨v7, w7, r7, M7, G7, N7⟩ := run_appR (⟨N + 1, T⟩ : Tm) g6 A6.row o0 o1 (Nat.le_of_lt hlt.out) 39
            have B7 : w7.heap[b]? = some (.cells #[.float .f64 now, .slice ao M ca, .int .i64 (N + 1)] 41 (0, 0)) := G7.at A6.box (fun e => A6.ap e)
            have X7 : Tw w7 g4 (⟨N + 1, T⟩ : Tm) := G7.at X6 (fun e => hvg.out (.inr e))
            obtain ⟨tb, ca7, cs7, e7, hh7, hs7, hc7, hle7, hmx7⟩ := M7.at (by simp)
            have htg : Hid (g4 ≠ tb) := fun e => by
              rcases N7 tb (by rw [e7]; rfl) with a | a
              · exact hvg.out (.inr (by rw [e]; exact a))
              · omega
            have R8 := RT.app B7 M7
            have X8 : Tw (w7.setCell ⟨b, 1, none⟩ v7) g4 (⟨N + 1, T⟩ : Tm) := (But.of_grownBy (X := fun j => j = b) (grown_setCell w7 b 1 v7) fun k e => by cases e; rfl).at X7 (fun e => hvg.out (.inl e))
            have P8 : Stp b (.slice ao M ca) v7 w (w7.setCell ⟨b, 1, none⟩ v7) := P6.trans ⟨(G7.mono fun k _ e => .inr e).trans (but_set _ _ _ _ _), N7⟩
            obtain ⟨m5, hm5⟩ : ∃ m, Hid ((S ++ [(⟨N + 1, T⟩ : Tm)]).length = m) := ⟨_, rfl⟩
            rw [hm5.out] at e7 hle7
            have hmM : Hid (m5 = M + 1) := by show _ = _; rw [← hm5.out, ← hM.out]; simp
            subst e7
            have K7 : Hid (Bxr w7 b now (N + 1) (.slice ao M ca) ∧ Tw w7 g4 (⟨N + 1, T⟩ : Tm)) := ⟨B7, X7⟩
            have z1 : w7.cell? ⟨b, 1, none⟩ = some (.slice ao M ca) := by rw [cell_of B7]; rfl
            have z2 : w7.frozen? ⟨b, 1, none⟩ = false := by simp [World.frozen?, B7]
            have FN8 := hide (And.intro R8 (And.intro X8 P8))
            replace r7 := hide r7
            clear R8 X8 P8 M7 G7 N7 B7 X7 A6 X6 P6 o0 o1 hg6 hh7 hs7 hc7
            refine wpAnyT_one (i := 7) (o := { dst := some 72, op := Op.call { callee := Callee.builtin Builtin.append, args := #[Operand.tmp 69, Operand.tmp 71], argTypes := #[39, 39] }, type := 39, pos := "ref.go:51", after := #[{ on := 4, ground := Ground.data }, { on := 6, ground := Ground.data }], guard := none }) (by kernel_rfl) rfl (fun K hK => ?_)
            rw [if_pos (by simp [Region.wanted])]
            refine Lib.wp_append_run _ (.tmp 69) (.tmp 71) 39 39 rfl (.slice ao M ca) (.slice (some ⟨g6, 0, none⟩) 1 1) (by simp [Act.eval]) (by simp [Act.eval]) _ w7 r7.out ?_
            refine hK.out _ _ (fun _ => K7.out) ?_
            clear hK K
            (try simp only [Act.put, List.setIfInBounds_toArray, List.set_cons_zero, List.set_cons_succ])
            refine wpAnyT_one (i := 8) (o := { dst := some 73, op := Op.nilCheck (Operand.tmp 65), type := 0, pos := "ref.go:51", after := #[{ on := 0, ground := Ground.data }, { on := 0, ground := Ground.phase }, { on := 1, ground := Ground.phase }, { on := 2, ground := Ground.phase }, { on := 3, ground := Ground.phase }, { on := 4, ground := Ground.phase }, { on := 5, ground := Ground.phase }, { on := 6, ground := Ground.phase }, { on := 7, ground := Ground.phase }], guard := none }) (by kernel_rfl) rfl (fun K hK => ?_)
            go_simp
            refine hK.out _ _ (fun _ => K7.out) ?_
            clear hK K
            (try simp only [Act.put, List.setIfInBounds_toArray, List.set_cons_zero, List.set_cons_succ])
            refine wpAnyT_one (i := 9) (o := { dst := some 74, op := Op.fieldAddr 41 (Operand.tmp 73) 1, type := 0, pos := "ref.go:51", after := #[{ on := 8, ground := Ground.data }, { on := 0, ground := Ground.phase }, { on := 1, ground := Ground.phase }, { on := 2, ground := Ground.phase }, { on := 3, ground := Ground.phase }, { on := 4, ground := Ground.phase }, { on := 5, ground := Ground.phase }, { on := 6, ground := Ground.phase }, { on := 7, ground := Ground.phase }], guard := none }) (by kernel_rfl) rfl (fun K hK => ?_)
            go_simp
            refine hK.out _ _ (fun _ => K7.out) ?_
            clear hK K
            (try simp only [Act.put, List.setIfInBounds_toArray, List.set_cons_zero, List.set_cons_succ])
            refine wpAnyT_one (i := 10) (o := { dst := none, op := Op.store 39 (Operand.tmp 74) (Operand.tmp 72), type := 0, pos := "ref.go:51", after := #[{ on := 9, ground := Ground.data }, { on := 7, ground := Ground.data }, { on := 7, ground := Ground.chain }, { on := 0, ground := Ground.phase }, { on := 1, ground := Ground.phase }, { on := 2, ground := Ground.phase }, { on := 3, ground := Ground.phase }, { on := 4, ground := Ground.phase }, { on := 5, ground := Ground.phase }, { on := 6, ground := Ground.phase }, { on := 7, ground := Ground.phase }], guard := none }) (by kernel_rfl) rfl (fun K hK => ?_)
            go_simp
            refine hK.out _ _ (vac (by kernel_rfl)) ?_
            clear hK K
            (try simp only [Act.put, List.setIfInBounds_toArray, List.set_cons_zero, List.set_cons_succ])
            refine wpAnyT_done (by kernel_rfl) ?_ _
            clear z1 z2 K7 r7
            generalize w7.setCell ⟨b, 1, none⟩ (.slice (some ⟨tb, 0, none⟩) m5 ca7) = w8 at *
            have F8 : Hid (RT w8 b now (N + 1) (.slice (some ⟨tb, 0, none⟩) m5 ca7) (shS S (⟨N + 1, T⟩ : Tm) M) ∧ Tw w8 g4 (⟨N + 1, T⟩ : Tm) ∧ But (fun i => i = tb) w8 w8) := ⟨by rw [← hM.out, shS_top]; exact FN8.out.1, FN8.out.2.1, But.refl _ _⟩
            obtain ⟨c0, c1, c2⟩ := FN8.out.1.ra.cells
            have hm1 : (1 : Int) ≤ (m5 : Int) := by have := hmM.out; omega
            have hm2 : (m5 : Int) ≤ 1000 := by have := hmM.out; omega
            go_upto_region 13 with fail
            clear c0 c1 c2
            go_loopw [10] (fun iv wr => ∃ j : Nat, iv = .int .i64 j ∧ k ≤ j ∧ j ≤ M ∧ Hid (RT wr b now (N + 1) (.slice (some ⟨tb, 0, none⟩) m5 ca7) (shS S (⟨N + 1, T⟩ : Tm) j) ∧ Tw wr g4 (⟨N + 1, T⟩ : Tm) ∧ But (fun i => i = tb) w8 wr)) (fun iv _ => (intOf iv).toNat)
            case atStart => exact ⟨M, by first | rfl | (have := hmM.out; congr 1; omega) | (rw [hmM.out]; go_num), hk, Nat.le_refl _, F8.out⟩
            case round =>
              obtain ⟨j, rfl, hkj, hjM, hQ⟩ := hrel
              by_cases hgt : k < j
              · obtain ⟨i, hji⟩ : ∃ i, j = i + 1 := ⟨j - 1, by omega⟩
                have j1 : (k : Int) < (j : Int) := by omega
                have i0 : (0 : Int) ≤ (i : Int) := by omega
                have i1 : (i : Int) < (m5 : Int) := by have := hmM.out; omega
                have j0 : (0 : Int) ≤ (j : Int) := by omega
                have j2 : (j : Int) < (m5 : Int) := by have := hmM.out; omega
                have j3 : IntKind.i64.wrap ((j : Int) - 1) = (i : Int) := by simp [IntKind.wrap, IntKind.bits, IntKind.signed]; omega
                have hiS : i < S.length := by rw [hM.out]; omega
                have hji' : Hid (j = i + 1) := hji
                have hjS : j ≤ S.length := by rw [hM.out]; exact hjM
                clear hji
                go_upto_region 15 with fail
                have KR : Hid (RT wr.drew b now (N + 1) (.slice (some ⟨tb, 0, none⟩) m5 ca7) (shS S (⟨N + 1, T⟩ : Tm) j) ∧ Tw wr.drew g4 (⟨N + 1, T⟩ : Tm) ∧ But (fun i => i = tb) w8 wr.drew) := ⟨hQ.out.1.below (Below.refl _ _).drew, hQ.out.2.1, hQ.out.2.2.drewB⟩
                have NEW := hide (KR.out.1.shift KR.out.2.1 KR.out.2.2 hji'.out hiS htg.out)
                obtain ⟨W0, hca7⟩ := KR.out.1.row.wr (fun e => by have := shS_len S (⟨N + 1, T⟩ : Tm) j hjS; rw [e] at this; simp at this)
                rw [shS_len S (⟨N + 1, T⟩ : Tm) j hjS] at hca7
                have hgi : g (shS S (⟨N + 1, T⟩ : Tm) j) i = g S i := by rw [hji'.out]; exact shS_at S (⟨N + 1, T⟩ : Tm) i hiS
                obtain ⟨e0, e1⟩ := KR.out.1.row.read i (by rw [shS_len S (⟨N + 1, T⟩ : Tm) j hjS]; omega)
                rw [hgi] at e0 e1
                have KP : Hid (Bxr wr.drew b now (N + 1) (.slice (some ⟨tb, 0, none⟩) m5 ca7) ∧ (wr.drew.cell? ⟨tb, i * 2, none⟩ = some (.int .i64 (g S i).id) ∧ wr.drew.cell? ⟨tb, i * 2 + 1, none⟩ = some (.float .f64 (g S i).b))) := ⟨KR.out.1.box, e0, e1⟩
                generalize (g S i).id = yi at *
                generalize (g S i).b = yb at *
                have W1 := W0.put (j * 2) (.int .i64 yi)
                obtain ⟨x0, p0⟩ := W0.cell (j * 2) (by omega)
                obtain ⟨x1, p1⟩ := W1.cell (j * 2 + 1) (by omega)
                have f0 := W0.frozen (j * 2)
                have f1 := W1.frozen (j * 2 + 1)
                refine wp_region_T (fun q => Bxr q b now (N + 1) (.slice (some ⟨tb, 0, none⟩) m5 ca7) ∧ (q.cell? ⟨tb, i * 2, none⟩ = some (.int .i64 yi) ∧ q.cell? ⟨tb, i * 2 + 1, none⟩ = some (.float .f64 yb))) 14 (by kernel_rfl) ?_
                clear W0 W1 hca7 hgi e0 e1 KR hQ F8 FN8 hiS hjS
                generalize wr.drew = q at *
                refine wpAnyT_take (i := 0) (oi := { dst := some 86, op := Op.move (Operand.tmp 0), type := 31, pos := "ref.go:53", after := #[], guard := none }) (v := .pointer (some ⟨b, 0, none⟩)) [1, 2, 3, 13, 14] rfl (by kernel_rfl) (by kernel_rfl) (by kernel_rfl) (by kernel_rfl) (fun _ _ _ h => h) (Or.inl ⟨by rfl, ?_⟩) KP.out ?_
                · intro wq hSw
                  obtain ⟨y0, y1, y2⟩ := rtc hSw.1
                  obtain ⟨y3, y4⟩ := hSw.2
                  go_simp
                (try simp only [Act.put, List.setIfInBounds_toArray, List.set_cons_zero, List.set_cons_succ])
                refine wpAnyT_take (i := 1) (oi := { dst := some 87, op := Op.nilCheck (Operand.tmp 86), type := 0, pos := "ref.go:53", after := #[{ on := 0, ground := Ground.data }], guard := none }) (v := .pointer (some ⟨b, 0, none⟩)) [2, 3, 13, 14] rfl (by kernel_rfl) (by kernel_rfl) (by kernel_rfl) (by kernel_rfl) (fun _ _ _ h => h) (Or.inl ⟨by rfl, ?_⟩) KP.out ?_
                · intro wq hSw
                  obtain ⟨y0, y1, y2⟩ := rtc hSw.1
                  obtain ⟨y3, y4⟩ := hSw.2
                  go_simp
                (try simp only [Act.put, List.setIfInBounds_toArray, List.set_cons_zero, List.set_cons_succ])
                refine wpAnyT_take (i := 2) (oi := { dst := some 88, op := Op.fieldAddr 41 (Operand.tmp 87) 1, type := 0, pos := "ref.go:53", after := #[{ on := 1, ground := Ground.data }], guard := none }) (v := .pointer (some ⟨b, 1, none⟩)) [3, 13, 14] rfl (by kernel_rfl) (by kernel_rfl) (by kernel_rfl) (by kernel_rfl) (fun _ _ _ h => h) (Or.inl ⟨by rfl, ?_⟩) KP.out ?_
                · intro wq hSw
                  obtain ⟨y0, y1, y2⟩ := rtc hSw.1
                  obtain ⟨y3, y4⟩ := hSw.2
                  go_simp
                (try simp only [Act.put, List.setIfInBounds_toArray, List.set_cons_zero, List.set_cons_succ])
                refine wpAnyT_take (i := 3) (oi := { dst := some 89, op := Op.load 39 (Operand.tmp 88), type := 39, pos := "ref.go:53", after := #[{ on := 2, ground := Ground.data }], guard := none }) (v := .slice (some ⟨tb, 0, none⟩) m5 ca7) [13, 14] rfl (by kernel_rfl) (by kernel_rfl) (by kernel_rfl) (by kernel_rfl) (fun _ _ _ h => h) (Or.inl ⟨by rfl, ?_⟩) KP.out ?_
                · intro wq hSw
                  obtain ⟨y0, y1, y2⟩ := rtc hSw.1
                  obtain ⟨y3, y4⟩ := hSw.2
                  go_simp
                (try simp only [Act.put, List.setIfInBounds_toArray, List.set_cons_zero, List.set_cons_succ])
                refine wpAnyT_take (i := 4) (oi := { dst := some 90, op := Op.move (Operand.tmp 10), type := 3, pos := "ref.go:53", after := #[], guard := none }) (v := .int .i64 (j : Int)) [13, 14] rfl (by kernel_rfl) (by kernel_rfl) (by kernel_rfl) (by kernel_rfl) (fun _ _ _ h => h) (Or.inl ⟨by rfl, ?_⟩) KP.out ?_
                · intro wq hSw
                  obtain ⟨y0, y1, y2⟩ := rtc hSw.1
                  obtain ⟨y3, y4⟩ := hSw.2
                  go_simp
                (try simp only [Act.put, List.setIfInBounds_toArray, List.set_cons_zero, List.set_cons_succ])
                refine wpAnyT_take (i := 5) (oi := { dst := some 91, op := Op.move (Operand.tmp 0), type := 31, pos := "ref.go:53", after := #[], guard := none }) (v := .pointer (some ⟨b, 0, none⟩)) [6, 7, 8, 11, 12, 14] rfl (by kernel_rfl) (by kernel_rfl) (by kernel_rfl) (by kernel_rfl) (fun _ _ _ h => h) (Or.inl ⟨by rfl, ?_⟩) KP.out ?_
                · intro wq hSw
                  obtain ⟨y0, y1, y2⟩ := rtc hSw.1
                  obtain ⟨y3, y4⟩ := hSw.2
                  go_simp
                (try simp only [Act.put, List.setIfInBounds_toArray, List.set_cons_zero, List.set_cons_succ])
                refine wpAnyT_take (i := 6) (oi := { dst := some 92, op := Op.nilCheck (Operand.tmp 91), type := 0, pos := "ref.go:53", after := #[{ on := 5, ground := Ground.data }], guard := none }) (v := .pointer (some ⟨b, 0, none⟩)) [7, 8, 11, 12, 14] rfl (by kernel_rfl) (by kernel_rfl) (by kernel_rfl) (by kernel_rfl) (fun _ _ _ h => h) (Or.inl ⟨by rfl, ?_⟩) KP.out ?_
                · intro wq hSw
                  obtain ⟨y0, y1, y2⟩ := rtc hSw.1
                  obtain ⟨y3, y4⟩ := hSw.2
                  go_simp
                (try simp only [Act.put, List.setIfInBounds_toArray, List.set_cons_zero, List.set_cons_succ])
                refine wpAnyT_take (i := 7) (oi := { dst := some 93, op := Op.fieldAddr 41 (Operand.tmp 92) 1, type := 0, pos := "ref.go:53", after := #[{ on := 6, ground := Ground.data }], guard := none }) (v := .pointer (some ⟨b, 1, none⟩)) [8, 11, 12, 14] rfl (by kernel_rfl) (by kernel_rfl) (by kernel_rfl) (by kernel_rfl) (fun _ _ _ h => h) (Or.inl ⟨by rfl, ?_⟩) KP.out ?_
                · intro wq hSw
                  obtain ⟨y0, y1, y2⟩ := rtc hSw.1
                  obtain ⟨y3, y4⟩ := hSw.2
                  go_simp
                (try simp only [Act.put, List.setIfInBounds_toArray, List.set_cons_zero, List.set_cons_succ])
                refine wpAnyT_take (i := 8) (oi := { dst := some 94, op := Op.load 39 (Operand.tmp 93), type := 39, pos := "ref.go:53", after := #[{ on := 7, ground := Ground.data }], guard := none }) (v := .slice (some ⟨tb, 0, none⟩) m5 ca7) [11, 12, 14] rfl (by kernel_rfl) (by kernel_rfl) (by kernel_rfl) (by kernel_rfl) (fun _ _ _ h => h) (Or.inl ⟨by rfl, ?_⟩) KP.out ?_
                · intro wq hSw
                  obtain ⟨y0, y1, y2⟩ := rtc hSw.1
                  obtain ⟨y3, y4⟩ := hSw.2
                  go_simp
                (try simp only [Act.put, List.setIfInBounds_toArray, List.set_cons_zero, List.set_cons_succ])
                refine wpAnyT_take (i := 9) (oi := { dst := some 95, op := Op.move (Operand.tmp 10), type := 3, pos := "ref.go:53", after := #[], guard := none }) (v := .int .i64 (j : Int)) [10, 11, 12, 14] rfl (by kernel_rfl) (by kernel_rfl) (by kernel_rfl) (by kernel_rfl) (fun _ _ _ h => h) (Or.inl ⟨by rfl, ?_⟩) KP.out ?_
                · intro wq hSw
                  obtain ⟨y0, y1, y2⟩ := rtc hSw.1
                  obtain ⟨y3, y4⟩ := hSw.2
                  go_simp
                (try simp only [Act.put, List.setIfInBounds_toArray, List.set_cons_zero, List.set_cons_succ])
                refine wpAnyT_take (i := 10) (oi := { dst := some 96, op := Op.binOp BinOp.sub 3 (Operand.tmp 95) (Operand.const (Value.int IntKind.i64 1)) 3, type := 3, pos := "ref.go:53", after := #[{ on := 9, ground := Ground.data }], guard := none }) (v := .int .i64 (i : Int)) [11, 12, 14] rfl (by kernel_rfl) (by kernel_rfl) (by kernel_rfl) (by kernel_rfl) (fun _ _ _ h => h) (Or.inl ⟨by rfl, ?_⟩) KP.out ?_
                · intro wq hSw
                  obtain ⟨y0, y1, y2⟩ := rtc hSw.1
                  obtain ⟨y3, y4⟩ := hSw.2
                  go_simp
                (try simp only [Act.put, List.setIfInBounds_toArray, List.set_cons_zero, List.set_cons_succ])
                refine wpAnyT_take (i := 11) (oi := { dst := some 97, op := Op.indexAddr 39 (Operand.tmp 94) (Operand.tmp 96), type := 0, pos := "ref.go:53", after := #[{ on := 8, ground := Ground.data }, { on := 10, ground := Ground.data }], guard := none }) (v := .pointer (some ⟨tb, i * 2, none⟩)) [12, 14] rfl (by kernel_rfl) (by kernel_rfl) (by kernel_rfl) (by kernel_rfl) (fun _ _ _ h => h) (Or.inl ⟨by rfl, ?_⟩) KP.out ?_
                · intro wq hSw
                  obtain ⟨y0, y1, y2⟩ := rtc hSw.1
                  obtain ⟨y3, y4⟩ := hSw.2
                  go_simp
                (try simp only [Act.put, List.setIfInBounds_toArray, List.set_cons_zero, List.set_cons_succ])
                refine wpAnyT_take (i := 12) (oi := { dst := some 98, op := Op.load 70 (Operand.tmp 97), type := 70, pos := "ref.go:53", after := #[{ on := 11, ground := Ground.data }], guard := none }) (v := .agg #[.int .i64 yi, .float .f64 yb]) [14] rfl (by kernel_rfl) (by kernel_rfl) (by kernel_rfl) (by kernel_rfl) (fun _ _ _ h => h) (Or.inl ⟨by rfl, ?_⟩) KP.out ?_
                · intro wq hSw
                  obtain ⟨y0, y1, y2⟩ := rtc hSw.1
                  obtain ⟨y3, y4⟩ := hSw.2
                  go_simp
                (try simp only [Act.put, List.setIfInBounds_toArray, List.set_cons_zero, List.set_cons_succ])
                refine wpAnyT_take (i := 13) (oi := { dst := some 99, op := Op.indexAddr 39 (Operand.tmp 89) (Operand.tmp 90), type := 0, pos := "ref.go:53", after := #[{ on := 3, ground := Ground.data }, { on := 4, ground := Ground.data }, { on := 0, ground := Ground.phase }, { on := 1, ground := Ground.phase }, { on := 2, ground := Ground.phase }, { on := 3, ground := Ground.phase }, { on := 4, ground := Ground.phase }, { on := 5, ground := Ground.phase }, { on := 6, ground := Ground.phase }, { on := 7, ground := Ground.phase }, { on := 8, ground := Ground.phase }, { on := 9, ground := Ground.phase }, { on := 10, ground := Ground.phase }, { on := 11, ground := Ground.phase }, { on := 12, ground := Ground.phase }], guard := none }) (v := .pointer (some ⟨tb, j * 2, none⟩)) [14] rfl (by kernel_rfl) (by kernel_rfl) (by kernel_rfl) (by kernel_rfl) (fun _ _ _ h => h) (Or.inl ⟨by rfl, ?_⟩) KP.out ?_
                · intro wq hSw
                  obtain ⟨y0, y1, y2⟩ := rtc hSw.1
                  obtain ⟨y3, y4⟩ := hSw.2
                  go_simp
                (try simp only [Act.put, List.setIfInBounds_toArray, List.set_cons_zero, List.set_cons_succ])
                refine wpAnyT_one (i := 14) (o := { dst := none, op := Op.store 70 (Operand.tmp 99) (Operand.tmp 98), type := 0, pos := "ref.go:53", after := #[{ on := 13, ground := Ground.data }, { on := 12, ground := Ground.data }, { on := 0, ground := Ground.phase }, { on := 1, ground := Ground.phase }, { on := 2, ground := Ground.phase }, { on := 3, ground := Ground.phase }, { on := 4, ground := Ground.phase }, { on := 5, ground := Ground.phase }, { on := 6, ground := Ground.phase }, { on := 7, ground := Ground.phase }, { on := 8, ground := Ground.phase }, { on := 9, ground := Ground.phase }, { on := 10, ground := Ground.phase }, { on := 11, ground := Ground.phase }, { on := 12, ground := Ground.phase }], guard := none }) (by kernel_rfl) rfl (fun K hK => ?_)
                go_simp
                refine hK.out _ _ (vac (by kernel_rfl)) ?_
                clear hK K
                (try simp only [Act.put, List.setIfInBounds_toArray, List.set_cons_zero, List.set_cons_succ])
                refine wpAnyT_done (by kernel_rfl) ?_ _
                clear p0 p1 f0 f1 KP
                go_wp2_with fail
                go_roundw
                case rel => exact ⟨i, by have := hji'.out; first | rfl | (congr 1; omega) | go_num, by have := hji'.out; omega, by have := hji'.out; omega, NEW.out⟩
                case measure => have := hji'.out; simp [intOf]; omega
              · obtain rfl : j = k := by omega
                have j1 : ¬ ((j : Int) < (j : Int)) := by omega
                have j0 : (0 : Int) ≤ (j : Int) := by omega
                have j2 : (j : Int) < (m5 : Int) := by have := hmM.out; omega
                have hjS : j ≤ S.length := by rw [hM.out]; exact hjM
                go_upto_region 16 with fail
                have KR : Hid (RT wr.drew b now (N + 1) (.slice (some ⟨tb, 0, none⟩) m5 ca7) (shS S (⟨N + 1, T⟩ : Tm) j) ∧ Tw wr.drew g4 (⟨N + 1, T⟩ : Tm) ∧ But (fun i => i = tb) w8 wr.drew) := ⟨hQ.out.1.below (Below.refl _ _).drew, hQ.out.2.1, hQ.out.2.2.drewB⟩
                have NEW := hide (KR.out.1.last KR.out.2.2 (by rw [hM.out]; exact hk))
                obtain ⟨W0, hca7⟩ := KR.out.1.row.wr (fun e => by have := shS_len S (⟨N + 1, T⟩ : Tm) j hjS; rw [e] at this; simp at this)
                rw [shS_len S (⟨N + 1, T⟩ : Tm) j hjS] at hca7
                have KP : Hid (Bxr wr.drew b now (N + 1) (.slice (some ⟨tb, 0, none⟩) m5 ca7) ∧ Tw wr.drew g4 (⟨N + 1, T⟩ : Tm)) := ⟨KR.out.1.box, KR.out.2.1⟩
                have W1 := W0.put (j * 2) (.int .i64 (N + 1))
                obtain ⟨x0, p0⟩ := W0.cell (j * 2) (by omega)
                obtain ⟨x1, p1⟩ := W1.cell (j * 2 + 1) (by omega)
                have f0 := W0.frozen (j * 2)
                have f1 := W1.frozen (j * 2 + 1)
                have P9 := FN8.out.2.2
                refine wp_region_T (fun q => Bxr q b now (N + 1) (.slice (some ⟨tb, 0, none⟩) m5 ca7) ∧ Tw q g4 (⟨N + 1, T⟩ : Tm)) 7 (by kernel_rfl) ?_
                clear W0 W1 hca7 KR hQ F8 hjS
                generalize wr.drew = q at *
                refine wpAnyT_take (i := 0) (oi := { dst := some 100, op := Op.move (Operand.tmp 0), type := 31, pos := "ref.go:55", after := #[], guard := none }) (v := .pointer (some ⟨b, 0, none⟩)) [1, 2, 3, 6, 7] rfl (by kernel_rfl) (by kernel_rfl) (by kernel_rfl) (by kernel_rfl) (fun _ _ _ h => h) (Or.inl ⟨by rfl, ?_⟩) KP.out ?_
                · intro wq hSw
                  obtain ⟨y0, y1, y2⟩ := rtc hSw.1
                  obtain ⟨y3, y4⟩ := prc hSw.2
                  go_simp
                (try simp only [Act.put, List.setIfInBounds_toArray, List.set_cons_zero, List.set_cons_succ])
                refine wpAnyT_take (i := 1) (oi := { dst := some 101, op := Op.nilCheck (Operand.tmp 100), type := 0, pos := "ref.go:55", after := #[{ on := 0, ground := Ground.data }], guard := none }) (v := .pointer (some ⟨b, 0, none⟩)) [2, 3, 6, 7] rfl (by kernel_rfl) (by kernel_rfl) (by kernel_rfl) (by kernel_rfl) (fun _ _ _ h => h) (Or.inl ⟨by rfl, ?_⟩) KP.out ?_
                · intro wq hSw
                  obtain ⟨y0, y1, y2⟩ := rtc hSw.1
                  obtain ⟨y3, y4⟩ := prc hSw.2
                  go_simp
                (try simp only [Act.put, List.setIfInBounds_toArray, List.set_cons_zero, List.set_cons_succ])
                refine wpAnyT_take (i := 2) (oi := { dst := some 102, op := Op.fieldAddr 41 (Operand.tmp 101) 1, type := 0, pos := "ref.go:55", after := #[{ on := 1, ground := Ground.data }], guard := none }) (v := .pointer (some ⟨b, 1, none⟩)) [3, 6, 7] rfl (by kernel_rfl) (by kernel_rfl) (by kernel_rfl) (by kernel_rfl) (fun _ _ _ h => h) (Or.inl ⟨by rfl, ?_⟩) KP.out ?_
                · intro wq hSw
                  obtain ⟨y0, y1, y2⟩ := rtc hSw.1
                  obtain ⟨y3, y4⟩ := prc hSw.2
                  go_simp
                (try simp only [Act.put, List.setIfInBounds_toArray, List.set_cons_zero, List.set_cons_succ])
                refine wpAnyT_take (i := 3) (oi := { dst := some 103, op := Op.load 39 (Operand.tmp 102), type := 39, pos := "ref.go:55", after := #[{ on := 2, ground := Ground.data }], guard := none }) (v := .slice (some ⟨tb, 0, none⟩) m5 ca7) [6, 7] rfl (by kernel_rfl) (by kernel_rfl) (by kernel_rfl) (by kernel_rfl) (fun _ _ _ h => h) (Or.inl ⟨by rfl, ?_⟩) KP.out ?_
                · intro wq hSw
                  obtain ⟨y0, y1, y2⟩ := rtc hSw.1
                  obtain ⟨y3, y4⟩ := prc hSw.2
                  go_simp
                (try simp only [Act.put, List.setIfInBounds_toArray, List.set_cons_zero, List.set_cons_succ])
                refine wpAnyT_take (i := 4) (oi := { dst := some 104, op := Op.move (Operand.tmp 9), type := 3, pos := "ref.go:55", after := #[], guard := none }) (v := .int .i64 (j : Int)) [6, 7] rfl (by kernel_rfl) (by kernel_rfl) (by kernel_rfl) (by kernel_rfl) (fun _ _ _ h => h) (Or.inl ⟨by rfl, ?_⟩) KP.out ?_
                · intro wq hSw
                  obtain ⟨y0, y1, y2⟩ := rtc hSw.1
                  obtain ⟨y3, y4⟩ := prc hSw.2
                  go_simp
                (try simp only [Act.put, List.setIfInBounds_toArray, List.set_cons_zero, List.set_cons_succ])
                refine wpAnyT_take (i := 5) (oi := { dst := some 105, op := Op.load 70 (Operand.tmp 8), type := 70, pos := "ref.go:55", after := #[], guard := none }) (v := .agg #[.int .i64 (N + 1), .float .f64 T]) [7] rfl (by kernel_rfl) (by kernel_rfl) (by kernel_rfl) (by kernel_rfl) (fun _ _ _ h => h) (Or.inl ⟨by rfl, ?_⟩) KP.out ?_
                · intro wq hSw
                  obtain ⟨y0, y1, y2⟩ := rtc hSw.1
                  obtain ⟨y3, y4⟩ := prc hSw.2
                  go_simp
                (try simp only [Act.put, List.setIfInBounds_toArray, List.set_cons_zero, List.set_cons_succ])
                refine wpAnyT_take (i := 6) (oi := { dst := some 106, op := Op.indexAddr 39 (Operand.tmp 103) (Operand.tmp 104), type := 0, pos := "ref.go:55", after := #[{ on := 3, ground := Ground.data }, { on := 4, ground := Ground.data }, { on := 0, ground := Ground.phase }, { on := 1, ground := Ground.phase }, { on := 2, ground := Ground.phase }, { on := 3, ground := Ground.phase }, { on := 4, ground := Ground.phase }, { on := 5, ground := Ground.phase }], guard := none }) (v := .pointer (some ⟨tb, j * 2, none⟩)) [7] rfl (by kernel_rfl) (by kernel_rfl) (by kernel_rfl) (by kernel_rfl) (fun _ _ _ h => h) (Or.inl ⟨by rfl, ?_⟩) KP.out ?_
                · intro wq hSw
                  obtain ⟨y0, y1, y2⟩ := rtc hSw.1
                  obtain ⟨y3, y4⟩ := prc hSw.2
                  go_simp
                (try simp only [Act.put, List.setIfInBounds_toArray, List.set_cons_zero, List.set_cons_succ])
                refine wpAnyT_one (i := 7) (o := { dst := none, op := Op.store 70 (Operand.tmp 106) (Operand.tmp 105), type := 0, pos := "ref.go:55", after := #[{ on := 6, ground := Ground.data }, { on := 5, ground := Ground.data }, { on := 0, ground := Ground.phase }, { on := 1, ground := Ground.phase }, { on := 2, ground := Ground.phase }, { on := 3, ground := Ground.phase }, { on := 4, ground := Ground.phase }, { on := 5, ground := Ground.phase }], guard := none }) (by kernel_rfl) rfl (fun K hK => ?_)
                go_simp
                refine hK.out _ _ (vac (by kernel_rfl)) ?_
                clear hK K
                (try simp only [Act.put, List.setIfInBounds_toArray, List.set_cons_zero, List.set_cons_succ])
                refine wpAnyT_done (by kernel_rfl) ?_ _
                clear p0 p1 f0 f1 KP
                have FE : Hid (RT ((q.setCell ⟨tb, j * 2, none⟩ (.int .i64 (N + 1))).setCell ⟨tb, j * 2 + 1, none⟩ (.float .f64 T)) b now (N + 1) (.slice (some ⟨tb, 0, none⟩) m5 ca7) (ins (⟨N + 1, T⟩ : Tm) S) ∧ Stp b (.slice ao M ca) (.slice (some ⟨tb, 0, none⟩) m5 ca7) w ((q.setCell ⟨tb, j * 2, none⟩ (.int .i64 (N + 1))).setCell ⟨tb, j * 2 + 1, none⟩ (.float .f64 T))) := ⟨by rw [FINS.out]; exact NEW.out.1, P9.trans ⟨NEW.out.2.mono fun i _ e => .inr (by rw [e]; rfl), fun i hi => .inl hi⟩⟩
                obtain ⟨c0, c1, c2⟩ := FE.out.1.ra.cells
                clear NEW P9
                generalize ((q.setCell ⟨tb, j * 2, none⟩ (.int .i64 (N + 1))).setCell ⟨tb, j * 2 + 1, none⟩ (.float .f64 T)) = w9 at *
                go_wp2_with fail
                go_ret2
                exact ⟨rfl, _, FE.out.1.ra, FE.out.2⟩
          · have k1 : ¬ ((k : Int) < (M : Int)) := by omega
            go_upto_region 9 with fail
            go_quiet (fail)
            clear k1 c1
            obtain ⟨A4, X4, P4⟩ := Z3.out (wr.drewN nq) ⟨nq, rfl⟩
            generalize wr.drewN nq = w3 at *
            clear c0 c2 c3 c4 hkM
            go_upto_region 11 with fail
            have KP : Hid (Bxr w3.drew b now (N + 1) (.slice ao M ca) ∧ Tw w3.drew g4 (⟨N + 1, T⟩ : Tm)) := ⟨A4.box, X4⟩
            have KB : Hid (Below w3.heap.size w3 w3.drew) := (Below.refl _ _).drew
            have KA : Hid (RA w3.drew b now (N + 1) (.slice ao M ca) S) := A4.below KB.out
            have P5 : Hid (Stp b (.slice ao M ca) (.slice ao M ca) w w3.drew) := P4.trans (Stp.below KB.out)
            have hvg : Hid (¬ Own b (.slice ao M ca) g4) := fun q => by
              have a := hgl.out
              rcases q with q | q
              · have c := K0.out.1; omega
              · have c := K0.out.2 _ q; omega
            refine wp_region_T (fun q => Bxr q b now (N + 1) (.slice ao M ca) ∧ Tw q g4 (⟨N + 1, T⟩ : Tm)) 10 (by kernel_rfl) ?_
            clear A4 X4 P4 KB
            generalize w3.drew = q at *
            refine wpAnyT_take (i := 0) (oi := { dst := some 65, op := Op.move (Operand.tmp 0), type := 31, pos := "ref.go:51", after := #[], guard := none }) (v := .pointer (some ⟨b, 0, none⟩)) [8, 9, 10] rfl (by kernel_rfl) (by kernel_rfl) (by kernel_rfl) (by kernel_rfl) (fun _ _ _ h => h) (Or.inl ⟨by rfl, ?_⟩) KP.out ?_
            · intro wq hSw
              obtain ⟨y0, y1, y2⟩ := rtc hSw.1
              obtain ⟨y3, y4⟩ := prc hSw.2
              go_simp
            (try simp only [Act.put, List.setIfInBounds_toArray, List.set_cons_zero, List.set_cons_succ])
            refine wpAnyT_take (i := 1) (oi := { dst := some 66, op := Op.move (Operand.tmp 0), type := 31, pos := "ref.go:51", after := #[], guard := none }) (v := .pointer (some ⟨b, 0, none⟩)) [2, 3, 4, 7, 10] rfl (by kernel_rfl) (by kernel_rfl) (by kernel_rfl) (by kernel_rfl) (fun _ _ _ h => h) (Or.inl ⟨by rfl, ?_⟩) KP.out ?_
            · intro wq hSw
              obtain ⟨y0, y1, y2⟩ := rtc hSw.1
              obtain ⟨y3, y4⟩ := prc hSw.2
              go_simp
            (try simp only [Act.put, List.setIfInBounds_toArray, List.set_cons_zero, List.set_cons_succ])
            refine wpAnyT_take (i := 2) (oi := { dst := some 67, op := Op.nilCheck (Operand.tmp 66), type := 0, pos := "ref.go:51", after := #[{ on := 1, ground := Ground.data }], guard := none }) (v := .pointer (some ⟨b, 0, none⟩)) [3, 4, 7, 10] rfl (by kernel_rfl) (by kernel_rfl) (by kernel_rfl) (by kernel_rfl) (fun _ _ _ h => h) (Or.inl ⟨by rfl, ?_⟩) KP.out ?_
            · intro wq hSw
              obtain ⟨y0, y1, y2⟩ := rtc hSw.1
              obtain ⟨y3, y4⟩ := prc hSw.2
              go_simp
            (try simp only [Act.put, List.setIfInBounds_toArray, List.set_cons_zero, List.set_cons_succ])
            refine wpAnyT_take (i := 3) (oi := { dst := some 68, op := Op.fieldAddr 41 (Operand.tmp 67) 1, type := 0, pos := "ref.go:51", after := #[{ on := 2, ground := Ground.data }], guard := none }) (v := .pointer (some ⟨b, 1, none⟩)) [4, 7, 10] rfl (by kernel_rfl) (by kernel_rfl) (by kernel_rfl) (by kernel_rfl) (fun _ _ _ h => h) (Or.inl ⟨by rfl, ?_⟩) KP.out ?_
            · intro wq hSw
              obtain ⟨y0, y1, y2⟩ := rtc hSw.1
              obtain ⟨y3, y4⟩ := prc hSw.2
              go_simp
            (try simp only [Act.put, List.setIfInBounds_toArray, List.set_cons_zero, List.set_cons_succ])
            refine wpAnyT_take (i := 4) (oi := { dst := some 69, op := Op.load 39 (Operand.tmp 68), type := 39, pos := "ref.go:51", after := #[{ on := 3, ground := Ground.data }], guard := none }) (v := .slice ao M ca) [7, 10] rfl (by kernel_rfl) (by kernel_rfl) (by kernel_rfl) (by kernel_rfl) (fun _ _ _ h => h) (Or.inl ⟨by rfl, ?_⟩) KP.out ?_
            · intro wq hSw
              obtain ⟨y0, y1, y2⟩ := rtc hSw.1
              obtain ⟨y3, y4⟩ := prc hSw.2
              go_simp
            (try simp only [Act.put, List.setIfInBounds_toArray, List.set_cons_zero, List.set_cons_succ])
            refine wpAnyT_take (i := 5) (oi := { dst := some 70, op := Op.load 70 (Operand.tmp 8), type := 70, pos := "ref.go:51", after := #[], guard := none }) (v := .agg #[.int .i64 (N + 1), .float .f64 T]) [6, 7, 10] rfl (by kernel_rfl) (by kernel_rfl) (by kernel_rfl) (by kernel_rfl) (fun _ _ _ h => h) (Or.inl ⟨by rfl, ?_⟩) KP.out ?_
            · intro wq hSw
              obtain ⟨y0, y1, y2⟩ := rtc hSw.1
              obtain ⟨y3, y4⟩ := prc hSw.2
              go_simp
            (try simp only [Act.put, List.setIfInBounds_toArray, List.set_cons_zero, List.set_cons_succ])
            refine wpAnyT_one (i := 6) (o := { dst := some 71, op := Op.buildSlice 39 1 #[(0, Operand.tmp 70)], type := 39, pos := "ref.go:51", after := #[{ on := 5, ground := Ground.data }], guard := none }) (by kernel_rfl) rfl (fun K hK => ?_)
            go_simp
            refine hK.out _ _ (fun _ => ⟨(KA.out.below (box_below _ _)).box, KP.out.2.below (box_below _ _)⟩) ?_
            clear hK K
            (try simp only [Act.put, List.setIfInBounds_toArray, List.set_cons_zero, List.set_cons_succ])
            have B6 := box_below q (.cells #[.int .i64 (N + 1), .float .f64 T] 70)
            obtain ⟨o0, o1⟩ := prc (heap_alloc_new q (.cells #[.int .i64 (N + 1), .float .f64 T] 70))
            have A6 := KA.out.below B6
            have X6 := KP.out.2.below B6
            have P6 := P5.out.trans (Stp.below B6)
            have hg6 := heap_lt X6
            clear KP KA P5 B6
            generalize q.alloc (.cells #[.int .i64 (N + 1), .float .f64 T] 70) = w6 at *
            generalize q.heap.size = g6 at *
            obtain ⟨v7, w7, r7, M7, G7, N7⟩ := run_appR (⟨N + 1, T⟩ : Tm) g6 A6.row o0 o1 (Nat.le_of_lt hlt.out) 39
            have B7 : w7.heap[b]? = some (.cells #[.float .f64 now, .slice ao M ca, .int .i64 (N + 1)] 41 (0, 0)) := G7.at A6.box (fun e => A6.ap e)
            have X7 : Tw w7 g4 (⟨N + 1, T⟩ : Tm) := G7.at X6 (fun e => hvg.out (.inr e))
            obtain ⟨tb, ca7, cs7, e7, hh7, hs7, hc7, hle7, hmx7⟩ := M7.at (by simp)
            have htg : Hid (g4 ≠ tb) := fun e => by
              rcases N7 tb (by rw [e7]; rfl) with a | a
              · exact hvg.out (.inr (by rw [e]; exact a))
              · omega
            have R8 := RT.app B7 M7
            have X8 : Tw (w7.setCell ⟨b, 1, none⟩ v7) g4 (⟨N + 1, T⟩ : Tm) := (But.of_grownBy (X := fun j => j = b) (grown_setCell w7 b 1 v7) fun k e => by cases e; rfl).at X7 (fun e => hvg.out (.inl e))
            have P8 : Stp b (.slice ao M ca) v7 w (w7.setCell ⟨b, 1, none⟩ v7) := P6.trans ⟨(G7.mono fun k _ e => .inr e).trans (but_set _ _ _ _ _), N7⟩
            obtain ⟨m5, hm5⟩ : ∃ m, Hid ((S ++ [(⟨N + 1, T⟩ : Tm)]).length = m) := ⟨_, rfl⟩
            rw [hm5.out] at e7 hle7
            have hmM : Hid (m5 = M + 1) := by show _ = _; rw [← hm5.out, ← hM.out]; simp
            subst e7
            have K7 : Hid (Bxr w7 b now (N + 1) (.slice ao M ca) ∧ Tw w7 g4 (⟨N + 1, T⟩ : Tm)) := ⟨B7, X7⟩
            have z1 : w7.cell? ⟨b, 1, none⟩ = some (.slice ao M ca) := by rw [cell_of B7]; rfl
            have z2 : w7.frozen? ⟨b, 1, none⟩ = false := by simp [World.frozen?, B7]
            have FN8 := hide (And.intro R8 (And.intro X8 P8))
            replace r7 := hide r7
            clear R8 X8 P8 M7 G7 N7 B7 X7 A6 X6 P6 o0 o1 hg6 hh7 hs7 hc7
            refine wpAnyT_one (i := 7) (o := { dst := some 72, op := Op.call { callee := Callee.builtin Builtin.append, args := #[Operand.tmp 69, Operand.tmp 71], argTypes := #[39, 39] }, type := 39, pos := "ref.go:51", after := #[{ on := 4, ground := Ground.data }, { on := 6, ground := Ground.data }], guard := none }) (by kernel_rfl) rfl (fun K hK => ?_)
            rw [if_pos (by simp [Region.wanted])]
            refine Lib.wp_append_run _ (.tmp 69) (.tmp 71) 39 39 rfl (.slice ao M ca) (.slice (some ⟨g6, 0, none⟩) 1 1) (by simp [Act.eval]) (by simp [Act.eval]) _ w7 r7.out ?_
            refine hK.out _ _ (fun _ => K7.out) ?_
            clear hK K
            (try simp only [Act.put, List.setIfInBounds_toArray, List.set_cons_zero, List.set_cons_succ])
            refine wpAnyT_one (i := 8) (o := { dst := some 73, op := Op.nilCheck (Operand.tmp 65), type := 0, pos := "ref.go:51", after := #[{ on := 0, ground := Ground.data }, { on := 0, ground := Ground.phase }, { on := 1, ground := Ground.phase }, { on := 2, ground := Ground.phase }, { on := 3, ground := Ground.phase }, { on := 4, ground := Ground.phase }, { on := 5, ground := Ground.phase }, { on := 6, ground := Ground.phase }, { on := 7, ground := Ground.phase }], guard := none }) (by kernel_rfl) rfl (fun K hK => ?_)
            go_simp
            refine hK.out _ _ (fun _ => K7.out) ?_
            clear hK K
            (try simp only [Act.put, List.setIfInBounds_toArray, List.set_cons_zero, List.set_cons_succ])
            refine wpAnyT_one (i := 9) (o := { dst := some 74, op := Op.fieldAddr 41 (Operand.tmp 73) 1, type := 0, pos := "ref.go:51", after := #[{ on := 8, ground := Ground.data }, { on := 0, ground := Ground.phase }, { on := 1, ground := Ground.phase }, { on := 2, ground := Ground.phase }, { on := 3, ground := Ground.phase }, { on := 4, ground := Ground.phase }, { on := 5, ground := Ground.phase }, { on := 6, ground := Ground.phase }, { on := 7, ground := Ground.phase }], guard := none }) (by kernel_rfl) rfl (fun K hK => ?_)
            go_simp
            refine hK.out _ _ (fun _ => K7.out) ?_
            clear hK K
            (try simp only [Act.put, List.setIfInBounds_toArray, List.set_cons_zero, List.set_cons_succ])
            refine wpAnyT_one (i := 10) (o := { dst := none, op := Op.store 39 (Operand.tmp 74) (Operand.tmp 72), type := 0, pos := "ref.go:51", after := #[{ on := 9, ground := Ground.data }, { on := 7, ground := Ground.data }, { on := 7, ground := Ground.chain }, { on := 0, ground := Ground.phase }, { on := 1, ground := Ground.phase }, { on := 2, ground := Ground.phase }, { on := 3, ground := Ground.phase }, { on := 4, ground := Ground.phase }, { on := 5, ground := Ground.phase }, { on := 6, ground := Ground.phase }, { on := 7, ground := Ground.phase }], guard := none }) (by kernel_rfl) rfl (fun K hK => ?_)
            go_simp
            refine hK.out _ _ (vac (by kernel_rfl)) ?_
            clear hK K
            (try simp only [Act.put, List.setIfInBounds_toArray, List.set_cons_zero, List.set_cons_succ])
            refine wpAnyT_done (by kernel_rfl) ?_ _
            clear z1 z2 K7 r7
            generalize w7.setCell ⟨b, 1, none⟩ (.slice (some ⟨tb, 0, none⟩) m5 ca7) = w8 at *
            have F8 : Hid (RT w8 b now (N + 1) (.slice (some ⟨tb, 0, none⟩) m5 ca7) (shS S (⟨N + 1, T⟩ : Tm) M) ∧ Tw w8 g4 (⟨N + 1, T⟩ : Tm) ∧ But (fun i => i = tb) w8 w8) := ⟨by rw [← hM.out, shS_top]; exact FN8.out.1, FN8.out.2.1, But.refl _ _⟩
            obtain ⟨c0, c1, c2⟩ := FN8.out.1.ra.cells
            have hm1 : (1 : Int) ≤ (m5 : Int) := by have := hmM.out; omega
            have hm2 : (m5 : Int) ≤ 1000 := by have := hmM.out; omega
            go_upto_region 13 with fail
            clear c0 c1 c2
            go_loopw [10] (fun iv wr => ∃ j : Nat, iv = .int .i64 j ∧ k ≤ j ∧ j ≤ M ∧ Hid (RT wr b now (N + 1) (.slice (some ⟨tb, 0, none⟩) m5 ca7) (shS S (⟨N + 1, T⟩ : Tm) j) ∧ Tw wr g4 (⟨N + 1, T⟩ : Tm) ∧ But (fun i => i = tb) w8 wr)) (fun iv _ => (intOf iv).toNat)
            case atStart => exact ⟨M, by first | rfl | (have := hmM.out; congr 1; omega) | (rw [hmM.out]; go_num), hk, Nat.le_refl _, F8.out⟩
            case round =>
              obtain ⟨j, rfl, hkj, hjM, hQ⟩ := hrel
              by_cases hgt : k < j
              · obtain ⟨i, hji⟩ : ∃ i, j = i + 1 := ⟨j - 1, by omega⟩
                have j1 : (k : Int) < (j : Int) := by omega
                have i0 : (0 : Int) ≤ (i : Int) := by omega
                have i1 : (i : Int) < (m5 : Int) := by have := hmM.out; omega
                have j0 : (0 : Int) ≤ (j : Int) := by omega
                have j2 : (j : Int) < (m5 : Int) := by have := hmM.out; omega
                have j3 : IntKind.i64.wrap ((j : Int) - 1) = (i : Int) := by simp [IntKind.wrap, IntKind.bits, IntKind.signed]; omega
                have hiS : i < S.length := by rw [hM.out]; omega
                have hji' : Hid (j = i + 1) := hji
                have hjS : j ≤ S.length := by rw [hM.out]; exact hjM
                clear hji
                go_upto_region 15 with fail
                have KR : Hid (RT wr.drew b now (N + 1) (.slice (some ⟨tb, 0, none⟩) m5 ca7) (shS S (⟨N + 1, T⟩ : Tm) j) ∧ Tw wr.drew g4 (⟨N + 1, T⟩ : Tm) ∧ But (fun i => i = tb) w8 wr.drew) := ⟨hQ.out.1.below (Below.refl _ _).drew, hQ.out.2.1, hQ.out.2.2.drewB⟩
                have NEW := hide (KR.out.1.shift KR.out.2.1 KR.out.2.2 hji'.out hiS htg.out)
                obtain ⟨W0, hca7⟩ := KR.out.1.row.wr (fun e => by have := shS_len S (⟨N + 1, T⟩ : Tm) j hjS; rw [e] at this; simp at this)
                rw [shS_len S (⟨N + 1, T⟩ : Tm) j hjS] at hca7
                have hgi : g (shS S (⟨N + 1, T⟩ : Tm) j) i = g S i := by rw [hji'.out]; exact shS_at S (⟨N + 1, T⟩ : Tm) i hiS
                obtain ⟨e0, e1⟩ := KR.out.1.row.read i (by rw [shS_len S (⟨N + 1, T⟩ : Tm) j hjS]; omega)
                rw [hgi] at e0 e1
                have KP : Hid (Bxr wr.drew b now (N + 1) (.slice (some ⟨tb, 0, none⟩) m5 ca7) ∧ (wr.drew.cell? ⟨tb, i * 2, none⟩ = some (.int .i64 (g S i).id) ∧ wr.drew.cell? ⟨tb, i * 2 + 1, none⟩ = some (.float .f64 (g S i).b))) := ⟨KR.out.1.box, e0, e1⟩
                generalize (g S i).id = yi at *
                generalize (g S i).b = yb at *
                have W1 := W0.put (j * 2) (.int .i64 yi)
                obtain ⟨x0, p0⟩ := W0.cell (j * 2) (by omega)
                obtain ⟨x1, p1⟩ := W1.cell (j * 2 + 1) (by omega)
                have f0 := W0.frozen (j * 2)
                have f1 := W1.frozen (j * 2 + 1)
                refine wp_region_T (fun q => Bxr q b now (N + 1) (.slice (some ⟨tb, 0, none⟩) m5 ca7) ∧ (q.cell? ⟨tb, i * 2, none⟩ = some (.int .i64 yi) ∧ q.cell? ⟨tb, i * 2 + 1, none⟩ = some (.float .f64 yb))) 14 (by kernel_rfl) ?_
                clear W0 W1 hca7 hgi e0 e1 KR hQ F8 FN8 hiS hjS
                generalize wr.drew = q at *
                refine wpAnyT_take (i := 0) (oi := { dst := some 86, op := Op.move (Operand.tmp 0), type := 31, pos := "ref.go:53", after := #[], guard := none }) (v := .pointer (some ⟨b, 0, none⟩)) [1, 2, 3, 13, 14] rfl (by kernel_rfl) (by kernel_rfl) (by kernel_rfl) (by kernel_rfl) (fun _ _ _ h => h) (Or.inl ⟨by rfl, ?_⟩) KP.out ?_
                · intro wq hSw
                  obtain ⟨y0, y1, y2⟩ := rtc hSw.1
                  obtain ⟨y3, y4⟩ := hSw.2
                  go_simp
                (try simp only [Act.put, List.setIfInBounds_toArray, List.set_cons_zero, List.set_cons_succ])
                refine wpAnyT_take (i := 1) (oi := { dst := some 87, op := Op.nilCheck (Operand.tmp 86), type := 0, pos := "ref.go:53", after := #[{ on := 0, ground := Ground.data }], guard := none }) (v := .pointer (some ⟨b, 0, none⟩)) [2, 3, 13, 14] rfl (by kernel_rfl) (by kernel_rfl) (by kernel_rfl) (by kernel_rfl) (fun _ _ _ h => h) (Or.inl ⟨by rfl, ?_⟩) KP.out ?_
                · intro wq hSw
                  obtain ⟨y0, y1, y2⟩ := rtc hSw.1
                  obtain ⟨y3, y4⟩ := hSw.2
                  go_simp
                (try simp only [Act.put, List.setIfInBounds_toArray, List.set_cons_zero, List.set_cons_succ])
                refine wpAnyT_take (i := 2) (oi := { dst := some 88, op := Op.fieldAddr 41 (Operand.tmp 87) 1, type := 0, pos := "ref.go:53", after := #[{ on := 1, ground := Ground.data }], guard := none }) (v := .pointer (some ⟨b, 1, none⟩)) [3, 13, 14] rfl (by kernel_rfl) (by kernel_rfl) (by kernel_rfl) (by kernel_rfl) (fun _ _ _ h => h) (Or.inl ⟨by rfl, ?_⟩) KP.out ?_
                · intro wq hSw
                  obtain ⟨y0, y1, y2⟩ := rtc hSw.1
                  obtain ⟨y3, y4⟩ := hSw.2
                  go_simp
                (try simp only [Act.put, List.setIfInBounds_toArray, List.set_cons_zero, List.set_cons_succ])
                refine wpAnyT_take (i := 3) (oi := { dst := some 89, op := Op.load 39 (Operand.tmp 88), type := 39, pos := "ref.go:53", after := #[{ on := 2, ground := Ground.data }], guard := none }) (v := .slice (some ⟨tb, 0, none⟩) m5 ca7) [13, 14] rfl (by kernel_rfl) (by kernel_rfl) (by kernel_rfl) (by kernel_rfl) (fun _ _ _ h => h) (Or.inl ⟨by rfl, ?_⟩) KP.out ?_
                · intro wq hSw
                  obtain ⟨y0, y1, y2⟩ := rtc hSw.1
                  obtain ⟨y3, y4⟩ := hSw.2
                  go_simp
                (try simp only [Act.put, List.setIfInBounds_toArray, List.set_cons_zero, List.set_cons_succ])
                refine wpAnyT_take (i := 4) (oi := { dst := some 90, op := Op.move (Operand.tmp 10), type := 3, pos := "ref.go:53", after := #[], guard := none }) (v := .int .i64 (j : Int)) [13, 14] rfl (by kernel_rfl) (by kernel_rfl) (by kernel_rfl) (by kernel_rfl) (fun _ _ _ h => h) (Or.inl ⟨by rfl, ?_⟩) KP.out ?_
                · intro wq hSw
                  obtain ⟨y0, y1, y2⟩ := rtc hSw.1
                  obtain ⟨y3, y4⟩ := hSw.2
                  go_simp
                (try simp only [Act.put, List.setIfInBounds_toArray, List.set_cons_zero, List.set_cons_succ])
                refine wpAnyT_take (i := 5) (oi := { dst := some 91, op := Op.move (Operand.tmp 0), type := 31, pos := "ref.go:53", after := #[], guard := none }) (v := .pointer (some ⟨b, 0, none⟩)) [6, 7, 8, 11, 12, 14] rfl (by kernel_rfl) (by kernel_rfl) (by kernel_rfl) (by kernel_rfl) (fun _ _ _ h => h) (Or.inl ⟨by rfl, ?_⟩) KP.out ?_
                · intro wq hSw
                  obtain ⟨y0, y1, y2⟩ := rtc hSw.1
                  obtain ⟨y3, y4⟩ := hSw.2
                  go_simp
                (try simp only [Act.put, List.setIfInBounds_toArray, List.set_cons_zero, List.set_cons_succ])
                refine wpAnyT_take (i := 6) (oi := { dst := some 92, op := Op.nilCheck (Operand.tmp 91), type := 0, pos := "ref.go:53", after := #[{ on := 5, ground := Ground.data }], guard := none }) (v := .pointer (some ⟨b, 0, none⟩)) [7, 8, 11, 12, 14] rfl (by kernel_rfl) (by kernel_rfl) (by kernel_rfl) (by kernel_rfl) (fun _ _ _ h => h) (Or.inl ⟨by rfl, ?_⟩) KP.out ?_
                · intro wq hSw
                  obtain ⟨y0, y1, y2⟩ := rtc hSw.1
                  obtain ⟨y3, y4⟩ := hSw.2
                  go_simp
                (try simp only [Act.put, List.setIfInBounds_toArray, List.set_cons_zero, List.set_cons_succ])
                refine wpAnyT_take (i := 7) (oi := { dst := some 93, op := Op.fieldAddr 41 (Operand.tmp 92) 1, type := 0, pos := "ref.go:53", after := #[{ on := 6, ground := Ground.data }], guard := none }) (v := .pointer (some ⟨b, 1, none⟩)) [8, 11, 12, 14] rfl (by kernel_rfl) (by kernel_rfl) (by kernel_rfl) (by kernel_rfl) (fun _ _ _ h => h) (Or.inl ⟨by rfl, ?_⟩) KP.out ?_
                · intro wq hSw
                  obtain ⟨y0, y1, y2⟩ := rtc hSw.1
                  obtain ⟨y3, y4⟩ := hSw.2
                  go_simp
                (try simp only [Act.put, List.setIfInBounds_toArray, List.set_cons_zero, List.set_cons_succ])
                refine wpAnyT_take (i := 8) (oi := { dst := some 94, op := Op.load 39 (Operand.tmp 93), type := 39, pos := "ref.go:53", after := #[{ on := 7, ground := Ground.data }], guard := none }) (v := .slice (some ⟨tb, 0, none⟩) m5 ca7) [11, 12, 14] rfl (by kernel_rfl) (by kernel_rfl) (by kernel_rfl) (by kernel_rfl) (fun _ _ _ h => h) (Or.inl ⟨by rfl, ?_⟩) KP.out ?_
                · intro wq hSw
                  obtain ⟨y0, y1, y2⟩ := rtc hSw.1
                  obtain ⟨y3, y4⟩ := hSw.2
                  go_simp
                (try simp only [Act.put, List.setIfInBounds_toArray, List.set_cons_zero, List.set_cons_succ])
                refine wpAnyT_take (i := 9) (oi := { dst := some 95, op := Op.move (Operand.tmp 10), type := 3, pos := "ref.go:53", after := #[], guard := none }) (v := .int .i64 (j : Int)) [10, 11, 12, 14] rfl (by kernel_rfl) (by kernel_rfl) (by kernel_rfl) (by kernel_rfl) (fun _ _ _ h => h) (Or.inl ⟨by rfl, ?_⟩) KP.out ?_
                · intro wq hSw
                  obtain ⟨y0, y1, y2⟩ := rtc hSw.1
                  obtain ⟨y3, y4⟩ := hSw.2
                  go_simp
                (try simp only [Act.put, List.setIfInBounds_toArray, List.set_cons_zero, List.set_cons_succ])
                refine wpAnyT_take (i := 10) (oi := { dst := some 96, op := Op.binOp BinOp.sub 3 (Operand.tmp 95) (Operand.const (Value.int IntKind.i64 1)) 3, type := 3, pos := "ref.go:53", after := #[{ on := 9, ground := Ground.data }], guard := none }) (v := .int .i64 (i : Int)) [11, 12, 14] rfl (by kernel_rfl) (by kernel_rfl) (by kernel_rfl) (by kernel_rfl) (fun _ _ _ h => h) (Or.inl ⟨by rfl, ?_⟩) KP.out ?_
                · intro wq hSw
                  obtain ⟨y0, y1, y2⟩ := rtc hSw.1
                  obtain ⟨y3, y4⟩ := hSw.2
                  go_simp
                (try simp only [Act.put, List.setIfInBounds_toArray, List.set_cons_zero, List.set_cons_succ])
                refine wpAnyT_take (i := 11) (oi := { dst := some 97, op := Op.indexAddr 39 (Operand.tmp 94) (Operand.tmp 96), type := 0, pos := "ref.go:53", after := #[{ on := 8, ground := Ground.data }, { on := 10, ground := Ground.data }], guard := none }) (v := .pointer (some ⟨tb, i * 2, none⟩)) [12, 14] rfl (by kernel_rfl) (by kernel_rfl) (by kernel_rfl) (by kernel_rfl) (fun _ _ _ h => h) (Or.inl ⟨by rfl, ?_⟩) KP.out ?_
                · intro wq hSw
                  obtain ⟨y0, y1, y2⟩ := rtc hSw.1
                  obtain ⟨y3, y4⟩ := hSw.2
                  go_simp
                (try simp only [Act.put, List.setIfInBounds_toArray, List.set_cons_zero, List.set_cons_succ])
                refine wpAnyT_take (i := 12) (oi := { dst := some 98, op := Op.load 70 (Operand.tmp 97), type := 70, pos := "ref.go:53", after := #[{ on := 11, ground := Ground.data }], guard := none }) (v := .agg #[.int .i64 yi, .float .f64 yb]) [14] rfl (by kernel_rfl) (by kernel_rfl) (by kernel_rfl) (by kernel_rfl) (fun _ _ _ h => h) (Or.inl ⟨by rfl, ?_⟩) KP.out ?_
                · intro wq hSw
                  obtain ⟨y0, y1, y2⟩ := rtc hSw.1
                  obtain ⟨y3, y4⟩ := hSw.2
                  go_simp
                (try simp only [Act.put, List.setIfInBounds_toArray, List.set_cons_zero, List.set_cons_succ])
                refine wpAnyT_take (i := 13) (oi := { dst := some 99, op := Op.indexAddr 39 (Operand.tmp 89) (Operand.tmp 90), type := 0, pos := "ref.go:53", after := #[{ on := 3, ground := Ground.data }, { on := 4, ground := Ground.data }, { on := 0, ground := Ground.phase }, { on := 1, ground := Ground.phase }, { on := 2, ground := Ground.phase }, { on := 3, ground := Ground.phase }, { on := 4, ground := Ground.phase }, { on := 5, ground := Ground.phase }, { on := 6, ground := Ground.phase }, { on := 7, ground := Ground.phase }, { on := 8, ground := Ground.phase }, { on := 9, ground := Ground.phase }, { on := 10, ground := Ground.phase }, { on := 11, ground := Ground.phase }, { on := 12, ground := Ground.phase }], guard := none }) (v := .pointer (some ⟨tb, j * 2, none⟩)) [14] rfl (by kernel_rfl) (by kernel_rfl) (by kernel_rfl) (by kernel_rfl) (fun _ _ _ h => h) (Or.inl ⟨by rfl, ?_⟩) KP.out ?_
                · intro wq hSw
                  obtain ⟨y0, y1, y2⟩ := rtc hSw.1
                  obtain ⟨y3, y4⟩ := hSw.2
                  go_simp
                (try simp only [Act.put, List.setIfInBounds_toArray, List.set_cons_zero, List.set_cons_succ])
                refine wpAnyT_one (i := 14) (o := { dst := none, op := Op.store 70 (Operand.tmp 99) (Operand.tmp 98), type := 0, pos := "ref.go:53", after := #[{ on := 13, ground := Ground.data }, { on := 12, ground := Ground.data }, { on := 0, ground := Ground.phase }, { on := 1, ground := Ground.phase }, { on := 2, ground := Ground.phase }, { on := 3, ground := Ground.phase }, { on := 4, ground := Ground.phase }, { on := 5, ground := Ground.phase }, { on := 6, ground := Ground.phase }, { on := 7, ground := Ground.phase }, { on := 8, ground := Ground.phase }, { on := 9, ground := Ground.phase }, { on := 10, ground := Ground.phase }, { on := 11, ground := Ground.phase }, { on := 12, ground := Ground.phase }], guard := none }) (by kernel_rfl) rfl (fun K hK => ?_)
                go_simp
                refine hK.out _ _ (vac (by kernel_rfl)) ?_
                clear hK K
                (try simp only [Act.put, List.setIfInBounds_toArray, List.set_cons_zero, List.set_cons_succ])
                refine wpAnyT_done (by kernel_rfl) ?_ _
                clear p0 p1 f0 f1 KP
                go_wp2_with fail
                go_roundw
                case rel => exact ⟨i, by have := hji'.out; first | rfl | (congr 1; omega) | go_num, by have := hji'.out; omega, by have := hji'.out; omega, NEW.out⟩
                case measure => have := hji'.out; simp [intOf]; omega
              · obtain rfl : j = k := by omega
                have j1 : ¬ ((j : Int) < (j : Int)) := by omega
                have j0 : (0 : Int) ≤ (j : Int) := by omega
                have j2 : (j : Int) < (m5 : Int) := by have := hmM.out; omega
                have hjS : j ≤ S.length := by rw [hM.out]; exact hjM
                go_upto_region 16 with fail
                have KR : Hid (RT wr.drew b now (N + 1) (.slice (some ⟨tb, 0, none⟩) m5 ca7) (shS S (⟨N + 1, T⟩ : Tm) j) ∧ Tw wr.drew g4 (⟨N + 1, T⟩ : Tm) ∧ But (fun i => i = tb) w8 wr.drew) := ⟨hQ.out.1.below (Below.refl _ _).drew, hQ.out.2.1, hQ.out.2.2.drewB⟩
                have NEW := hide (KR.out.1.last KR.out.2.2 (by rw [hM.out]; exact hk))
                obtain ⟨W0, hca7⟩ := KR.out.1.row.wr (fun e => by have := shS_len S (⟨N + 1, T⟩ : Tm) j hjS; rw [e] at this; simp at this)
                rw [shS_len S (⟨N + 1, T⟩ : Tm) j hjS] at hca7
                have KP : Hid (Bxr wr.drew b now (N + 1) (.slice (some ⟨tb, 0, none⟩) m5 ca7) ∧ Tw wr.drew g4 (⟨N + 1, T⟩ : Tm)) := ⟨KR.out.1.box, KR.out.2.1⟩
                have W1 := W0.put (j * 2) (.int .i64 (N + 1))
                obtain ⟨x0, p0⟩ := W0.cell (j * 2) (by omega)
                obtain ⟨x1, p1⟩ := W1.cell (j * 2 + 1) (by omega)
                have f0 := W0.frozen (j * 2)
                have f1 := W1.frozen (j * 2 + 1)
                have P9 := FN8.out.2.2
                refine wp_region_T (fun q => Bxr q b now (N + 1) (.slice (some ⟨tb, 0, none⟩) m5 ca7) ∧ Tw q g4 (⟨N + 1, T⟩ : Tm)) 7 (by kernel_rfl) ?_
                clear W0 W1 hca7 KR hQ F8 hjS
                generalize wr.drew = q at *
                refine wpAnyT_take (i := 0) (oi := { dst := some 100, op := Op.move (Operand.tmp 0), type := 31, pos := "ref.go:55", after := #[], guard := none }) (v := .pointer (some ⟨b, 0, none⟩)) [1, 2, 3, 6, 7] rfl (by kernel_rfl) (by kernel_rfl) (by kernel_rfl) (by kernel_rfl) (fun _ _ _ h => h) (Or.inl ⟨by rfl, ?_⟩) KP.out ?_
                · intro wq hSw
                  obtain ⟨y0, y1, y2⟩ := rtc hSw.1
                  obtain ⟨y3, y4⟩ := prc hSw.2
                  go_simp
                (try simp only [Act.put, List.setIfInBounds_toArray, List.set_cons_zero, List.set_cons_succ])
                refine wpAnyT_take (i := 1) (oi := { dst := some 101, op := Op.nilCheck (Operand.tmp 100), type := 0, pos := "ref.go:55", after := #[{ on := 0, ground := Ground.data }], guard := none }) (v := .pointer (some ⟨b, 0, none⟩)) [2, 3, 6, 7] rfl (by kernel_rfl) (by kernel_rfl) (by kernel_rfl) (by kernel_rfl) (fun _ _ _ h => h) (Or.inl ⟨by rfl, ?_⟩) KP.out ?_
                · intro wq hSw
                  obtain ⟨y0, y1, y2⟩ := rtc hSw.1
                  obtain ⟨y3, y4⟩ := prc hSw.2
                  go_simp
                (try simp only [Act.put, List.setIfInBounds_toArray, List.set_cons_zero, List.set_cons_succ])
                refine wpAnyT_take (i := 2) (oi := { dst := some 102, op := Op.fieldAddr 41 (Operand.tmp 101) 1, type := 0, pos := "ref.go:55", after := #[{ on := 1, ground := Ground.data }], guard := none }) (v := .pointer (some ⟨b, 1, none⟩)) [3, 6, 7] rfl (by kernel_rfl) (by kernel_rfl) (by kernel_rfl) (by kernel_rfl) (fun _ _ _ h => h) (Or.inl ⟨by rfl, ?_⟩) KP.out ?_
                · intro wq hSw
                  obtain ⟨y0, y1, y2⟩ := rtc hSw.1
                  obtain ⟨y3, y4⟩ := prc hSw.2
                  go_simp
                (try simp only [Act.put, List.setIfInBounds_toArray, List.set_cons_zero, List.set_cons_succ])
                refine wpAnyT_take (i := 3) (oi := { dst := some 103, op := Op.load 39 (Operand.tmp 102), type := 39, pos := "ref.go:55", after := #[{ on := 2, ground := Ground.data }], guard := none }) (v := .slice (some ⟨tb, 0, none⟩) m5 ca7) [6, 7] rfl (by kernel_rfl) (by kernel_rfl) (by kernel_rfl) (by kernel_rfl) (fun _ _ _ h => h) (Or.inl ⟨by rfl, ?_⟩) KP.out ?_
                · intro wq hSw
                  obtain ⟨y0, y1, y2⟩ := rtc hSw.1
                  obtain ⟨y3, y4⟩ := prc hSw.2
                  go_simp
                (try simp only [Act.put, List.setIfInBounds_toArray, List.set_cons_zero, List.set_cons_succ])
                refine wpAnyT_take (i := 4) (oi := { dst := some 104, op := Op.move (Operand.tmp 9), type := 3, pos := "ref.go:55", after := #[], guard := none }) (v := .int .i64 (j : Int)) [6, 7] rfl (by kernel_rfl) (by kernel_rfl) (by kernel_rfl) (by kernel_rfl) (fun _ _ _ h => h) (Or.inl ⟨by rfl, ?_⟩) KP.out ?_
                · intro wq hSw
                  obtain ⟨y0, y1, y2⟩ := rtc hSw.1
                  obtain ⟨y3, y4⟩ := prc hSw.2
                  go_simp
                (try simp only [Act.put, List.setIfInBounds_toArray, List.set_cons_zero, List.set_cons_succ])
                refine wpAnyT_take (i := 5) (oi := { dst := some 105, op := Op.load 70 (Operand.tmp 8), type := 70, pos := "ref.go:55", after := #[], guard := none }) (v := .agg #[.int .i64 (N + 1), .float .f64 T]) [7] rfl (by kernel_rfl) (by kernel_rfl) (by kernel_rfl) (by kernel_rfl) (fun _ _ _ h => h) (Or.inl ⟨by rfl, ?_⟩) KP.out ?_
                · intro wq hSw
                  obtain ⟨y0, y1, y2⟩ := rtc hSw.1
                  obtain ⟨y3, y4⟩ := prc hSw.2
                  go_simp
                (try simp only [Act.put, List.setIfInBounds_toArray, List.set_cons_zero, List.set_cons_succ])
                refine wpAnyT_take (i := 6) (oi := { dst := some 106, op := Op.indexAddr 39 (Operand.tmp 103) (Operand.tmp 104), type := 0, pos := "ref.go:55", after := #[{ on := 3, ground := Ground.data }, { on := 4, ground := Ground.data }, { on := 0, ground := Ground.phase }, { on := 1, ground := Ground.phase }, { on := 2, ground := Ground.phase }, { on := 3, ground := Ground.phase }, { on := 4, ground := Ground.phase }, { on := 5, ground := Ground.phase }], guard := none }) (v := .pointer (some ⟨tb, j * 2, none⟩)) [7] rfl (by kernel_rfl) (by kernel_rfl) (by kernel_rfl) (by kernel_rfl) (fun _ _ _ h => h) (Or.inl ⟨by rfl, ?_⟩) KP.out ?_
                · intro wq hSw
                  obtain ⟨y0, y1, y2⟩ := rtc hSw.1
                  obtain ⟨y3, y4⟩ := prc hSw.2
                  go_simp
                (try simp only [Act.put, List.setIfInBounds_toArray, List.set_cons_zero, List.set_cons_succ])
                refine wpAnyT_one (i := 7) (o := { dst := none, op := Op.store 70 (Operand.tmp 106) (Operand.tmp 105), type := 0, pos := "ref.go:55", after := #[{ on := 6, ground := Ground.data }, { on := 5, ground := Ground.data }, { on := 0, ground := Ground.phase }, { on := 1, ground := Ground.phase }, { on := 2, ground := Ground.phase }, { on := 3, ground := Ground.phase }, { on := 4, ground := Ground.phase }, { on := 5, ground := Ground.phase }], guard := none }) (by kernel_rfl) rfl (fun K hK => ?_)
                go_simp
                refine hK.out _ _ (vac (by kernel_rfl)) ?_
                clear hK K
                (try simp only [Act.put, List.setIfInBounds_toArray, List.set_cons_zero, List.set_cons_succ])
                refine wpAnyT_done (by kernel_rfl) ?_ _
                clear p0 p1 f0 f1 KP
                have FE : Hid (RT ((q.setCell ⟨tb, j * 2, none⟩ (.int .i64 (N + 1))).setCell ⟨tb, j * 2 + 1, none⟩ (.float .f64 T)) b now (N + 1) (.slice (some ⟨tb, 0, none⟩) m5 ca7) (ins (⟨N + 1, T⟩ : Tm) S) ∧ Stp b (.slice ao M ca) (.slice (some ⟨tb, 0, none⟩) m5 ca7) w ((q.setCell ⟨tb, j * 2, none⟩ (.int .i64 (N + 1))).setCell ⟨tb, j * 2 + 1, none⟩ (.float .f64 T))) := ⟨by rw [FINS.out]; exact NEW.out.1, P9.trans ⟨NEW.out.2.mono fun i _ e => .inr (by rw [e]; rfl), fun i hi => .inl hi⟩⟩
                obtain ⟨c0, c1, c2⟩ := FE.out.1.ra.cells
                clear NEW P9
                generalize ((q.setCell ⟨tb, j * 2, none⟩ (.int .i64 (N + 1))).setCell ⟨tb, j * 2 + 1, none⟩ (.float .f64 T)) = w9 at *
                go_wp2_with fail
                go_ret2
                exact ⟨rfl, _, FE.out.1.ra, FE.out.2⟩
end Go.Proofs.Ytjplkffghfikgaa.Ck

