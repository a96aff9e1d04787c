/-
  append(s, x...) of floats. (Out of RwL, for seats that have not its walk.)
-/
import Derived.Test.YtojohcckaklmpaaDoorRlOf
import Derived.Deep.QuietTactic
import Derived.BigQuiet
namespace Go.Proofs.YtojohcckaklmpaaDoor.Rl
open Go.RowKit
set_option maxRecDepth 100000

/-- append(s, x...), s the call's own floats l, x a slice of floats m. -/
theorem wpList_append_floats {w : World} {ops : Array Oper} {rest : List Oper} {o : Oper} {a : Act} {Q : Exit → Act → World → Prop} (hgd : o.guard = none) (s x : Operand)
    (ho : o.op = .call { callee := .builtin .append, args := #[s, x], argTypes := #[24, 24] })
    (base : Nat) (v vx : Value) (l m : List Nat) (hs : a.eval s = v) (hown : w.ownsRow base 26 1 v l.length (fvals l)) (hx : a.eval x = vx) (hsl : Row w vx (fvals m))
    (hbytes : (l.length + m.length) * 8 ≤ 140737488355328) (hbase : base ≤ w.heap.size)
    (h : ∀ v' w', w'.ownsRow base 26 1 v' (l ++ m).length (fvals (l ++ m)) → Below base w w' → wpList Tryd.prog ops Q rest (a.put o.dst v') w') : wpList Tryd.prog ops Q (o :: rest) a w := by
  obtain ⟨i0, hi, hz0, hz1, hz2⟩ := infoF_parts Tryd.infoF64
  obtain ⟨ao, cap, rfl, h2, h3, h4, h5⟩ := hsl
  have hlm : (fvals m).length = m.length := by simp [fvals]
  cases ao with
  | none =>
    obtain ⟨e0, rfl⟩ := h2 rfl
    have e1 : m = [] := by simpa [fvals] using e0
    subst e1
    refine wpList_append_own_none hgd s x 24 ho base 26 i0 1 Tryd.underlying24 hi v l.length (fvals l) hs hown hx ?_
    exact h v w (by simpa using hown) (Below.refl _ _)
  | some ad =>
    have hcells : ∀ j u, (fvals m)[j]? = some u → w.cell? (ad.add j) = some u := by
      intro j u hu
      have hj : j < (fvals m).length := (List.getElem?_eq_some_iff.1 hu).1
      obtain ⟨b, off, e1, hc⟩ := h5 j hj
      simp only [Option.some.injEq] at e1
      subst e1
      have e2 : (fvals m)[j] = u := (List.getElem?_eq_some_iff.1 hu).2
      have ea : (⟨b, off, none⟩ : Addr).add j = ⟨b, off + j, none⟩ := by
        unfold Addr.add; split <;> simp_all
      rw [ea, hc, e2]
    refine wpList_append_own w hgd s x 24 ho base 26 i0 (.float .f64 0) 1 8 Tryd.underlying24 hi hz0 hz1 hz2 rfl (by decide) v l.length (fvals l) hs hown ad (fvals m).length cap (fvals m) hx (by simp) hcells ?_ (by rw [hlm]; unfold maxLen; omega) (by rw [hlm]; omega) hbase ?_
    · intro u hu
      simp only [fvals, List.mem_map] at hu
      obtain ⟨c, _, rfl⟩ := hu
      rfl
    · intro v' w' ho' hg _
      refine h v' w' ?_ ((Below.refl _ _).grown hg hbase fun k hk => (hown.lt k hk).1)
      have e1 : fvals (l ++ m) = fvals l ++ fvals m := by simp [fvals]
      rw [List.length_append, e1, ← hlm]
      exact ho'
end Go.Proofs.YtojohcckaklmpaaDoor.Rl
