/-
  append(s, x...) of bytes where both together may pass 2^47 by some: growing by quarters stays below 2^48. No program is named here.
-/
import Derived.Test.YtdhjlongdfgejaaGen
namespace Go.Proofs.Ytdhjlongdfgejaa
open Go.RowKit

theorem cap_fits {need old : Nat} (h : old < need) (hb : need ≤ 140737488355328 + 1048576) : Builtin.nextslicecap need old * 1 ≤ 281474976710656 := by
  unfold Builtin.nextslicecap
  split
  · omega
  · split
    · omega
    · rw [growBy_four]
      repeat' split
      all_goals omega
theorem run_append_big {P : Program} (w : World) (base : Nat) (t ty e : TypeId) (i : TypeInfo) (ht : P.underlying t = some (.slice e)) (hi : P.info? e = some i) (hz : i.zero = some (.int .u8 0)) (hs : i.size = 1) (hy : i.bytes = 1)
    (v : Value) (l m : List UInt8) (hown : w.ownsRow base e 1 v l.length (bvals l)) (a : Addr) (c : Nat) (hnews : ∀ j u, (bvals m)[j]? = some u → w.cell? (a.add j) = some u)
    (hb : l.length + m.length ≤ 140737488355328 + 1048576) (hbase : base ≤ w.heap.size) :
    ∃ v' w', (Builtin.append_ #[t, t] ty #[v, .slice (some a) m.length c]).run P w = .ok v' w' ∧ w'.ownsRow base e 1 v' (l ++ m).length (bvals (l ++ m)) ∧ Below base w w' := by
  have h1 : ∀ u ∈ bvals m, u.oneCell' = true := by
    intro u hu
    simp only [bvals, List.mem_map] at hu
    obtain ⟨c, _, rfl⟩ := hu
    rfl
  have hml : (bvals m).length = m.length * 1 := by simp [bvals]
  by_cases hsm : (l.length + m.length) * 1 ≤ 140737488355328
  · obtain ⟨v', w', hr, ho, hg, _⟩ := run_append_own (P := P) w base t ty e i (.int .u8 0) 1 1 ht hi hz hs hy rfl (by decide) v l.length (bvals l) hown a m.length c (bvals m) hml hnews h1 (by unfold maxLen; omega) hsm hbase
    refine ⟨v', w', hr, by rw [List.length_append, bvals_append]; exact ho, (Below.refl _ _).grown hg hbase fun k hk => (hown.lt k hk).1⟩
  · have hm0 : 0 < m.length ∨ 0 < l.length := by omega
    have key : ∀ old, (w.drew.alloc (.cells ((bvals l).toArray ++ (bvals m).toArray ++ Builtin.zeroCells (Value.int .u8 0).cells (grownCap w (l.length + m.length) old e - (l.length + m.length))) e)).ownsRow base e 1
        (.slice (some ⟨w.heap.size, 0, none⟩) (l.length + m.length) (grownCap w (l.length + m.length) old e)) (l ++ m).length (bvals (l ++ m)) := by
      intro old
      have hge := grownCap_ge w (l.length + m.length) old e
      have hle := grownCap_le_maxLen w (l.length + m.length) old e (by unfold maxLen; omega)
      rw [List.length_append]
      refine ⟨by simp [bvals], Or.inr ⟨w.heap.size, _, _, rfl, hbase, heap_alloc_new w.drew _, hge, hle, ?_, ?_⟩⟩
      · simp only [Array.size_append, List.size_toArray, size_zeroCells, bvals_length]
        simp [Value.cells]
        omega
      · rw [bvals_append]
        simp only [Array.toList_append, Nat.mul_one]
        exact List.take_left' (by simp [bvals])
    have kb : ∀ cs : Array Value, Below base w (w.drew.alloc (.cells cs e)) := fun cs => (Below.refl base w).drew.alloc (by simpa using hbase) _
    obtain ⟨_, p⟩ := id hown
    rcases p with ⟨rfl, h0⟩ | ⟨g, cap, cur, rfl, hbg, hg, hnc, hcm, hcs, htake⟩
    · obtain rfl := List.length_eq_zero_iff.1 h0
      have hr := run_append_nil (P := P) w t ty e i (.int .u8 0) ht hi hz a m.length c (bvals m) (by rw [hs]; exact hml) hnews (by simpa using hm0) (by simp at hb; omega) (by rw [hy]; simp at hb; omega)
      have hk := key 0
      simp only [List.length_nil, Nat.zero_add, List.nil_append] at hk
      exact ⟨_, _, hr, by simpa [bvals] using hk, kb _⟩
    · by_cases hroom : l.length + m.length ≤ cap
      · have hfit : l.length * i.size + (bvals m).length ≤ cur.size := by rw [hs, hml, hcs]; omega
        have hr := run_append_room (P := P) w t ty e i ht hi g l.length cap cur hg a m.length c (bvals m) (by rw [hs]; exact hml) hnews h1 hroom hfit
        refine ⟨_, _, hr, ?_, ?_⟩
        · rw [List.length_append]
          refine ⟨by simp [bvals], Or.inr ⟨g, cap, _, rfl, hbg, setRow_heap w g cur _ e _ hg, hroom, hcm, ?_, ?_⟩⟩
          · simp only [List.size_toArray, List.length_append, List.length_take, List.length_drop, Array.length_toList, hs]
            omega
          · have hl' : cur.toList.take (l.length * i.size) = bvals l := by rw [hs]; exact htake
            simp only [hl', bvals_append, Nat.mul_one]
            exact List.take_left' (by simp [bvals])
        · exact (Below.refl base w).grown (w' := w.setRow g _) (row := some g) ⟨rfl, rfl, rfl, by simp, fun k _ hk => setRow_other w g k _ (fun e => hk (by simp [e]))⟩ hbase (fun k hk => by simp at hk; omega)
      · have holds : ∀ j u, (bvals l)[j]? = some u → w.cell? ((⟨g, 0, none⟩ : Addr).add j) = some u := hown.cells (g := g) rfl
        have hr := run_append_grow (P := P) w t ty e i (.int .u8 0) ht hi hz ⟨g, 0, none⟩ l.length cap (bvals l) (by rw [hs]; simp [bvals]) holds a m.length c (bvals m) (by rw [hs]; exact hml) hnews (by omega) (by omega) (by rw [hy]; exact cap_fits (by omega) hb)
        exact ⟨_, _, hr, key cap, kb _⟩
#print axioms run_append_big
/-- append(s, x...), s the call's own bytes l, x a slice of bytes m, both together at most 2^47 + 2^20. -/
theorem wpList_append_big {P : Program} {w : World} {ops : Array Oper} {rest : List Oper} {o : Oper} {a : Act} {Q : Exit → Act → World → Prop} (hgd : o.guard = none) (s x : Operand) (t : TypeId)
    (ho : o.op = .call { callee := .builtin .append, args := #[s, x], argTypes := #[t, t] })
    (base : Nat) (e : TypeId) (hinf : (P.info? e).map (fun i => (i.zero, i.size, i.bytes)) = some (some (.int .u8 0), 1, 1)) (ht : P.underlying t = some (.slice e))
    (v vx : Value) (l m : List UInt8) (hs : a.eval s = v) (hown : w.ownsRow base e 1 v l.length (bvals l)) (hx : a.eval x = vx) (hsl : Sl w vx m)
    (hbytes : l.length + m.length ≤ 140737488355328 + 1048576) (hbase : base ≤ w.heap.size)
    (h : ∀ v' w', w'.ownsRow base e 1 v' (l ++ m).length (bvals (l ++ m)) → Below base w w' → wpList P ops Q rest (a.put o.dst v') w') : wpList P ops Q (o :: rest) a w := by
  obtain ⟨i0, hi, hz0, hz1, hz2⟩ := info_parts hinf
  obtain ⟨ao, cap, rfl, h2, h3, h4, h5⟩ := hsl
  cases ao with
  | none =>
    obtain ⟨rfl, rfl⟩ := h2 rfl
    refine wpList_append_own_none hgd s x t ho base e i0 1 ht hi v l.length (bvals l) hs hown hx ?_
    exact h v w (by simpa using hown) (Below.refl _ _)
  | some ad =>
    have hcells : ∀ j u, (bvals m)[j]? = some u → w.cell? (ad.add j) = some u := by
      intro j u hu
      have hj : j < m.length := by
        have := (List.getElem?_eq_some_iff.1 hu).1
        simpa [bvals] using this
      obtain ⟨b, off, e1, hc⟩ := h5 j hj
      simp only [Option.some.injEq] at e1
      subst e1
      rw [bvals_get hj] at hu
      simp only [Option.some.injEq] at hu
      subst hu
      rw [addr_add]; exact hc
    refine wpList_plain hgd fun K hK => ?_
    obtain ⟨v', w', hr, h6, h7⟩ := run_append_big (P := P) w base t o.type e i0 ht hi hz0 hz1 hz2 v l m hown ad cap hcells hbytes hbase
    unfold Oper.wp
    simp [execOp, ho, resolve, invoke, builtin, hs, hx, hr, Result.andThen]
    exact hK _ _ (h v' w' h6 h7)
#print axioms wpList_append_big
end Go.Proofs.Ytdhjlongdfgejaa
