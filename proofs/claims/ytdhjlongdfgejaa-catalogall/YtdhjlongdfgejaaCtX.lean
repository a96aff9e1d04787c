/-
  append onto bytes that have no room.
-/
import Derived.Test.YtdhjlongdfgejaaFe
import Derived.Test.YtdhjlongdfgejaaSbig

namespace Go.Proofs.Ytdhjlongdfgejaa
open Go.RowKit

/-- append(s, x...) where s has no room: new memory. -/
theorem wpList_append_full {P : Program} {w : World} {ops : Array Oper} {rest : List Oper} {o : Oper} {a : Act} {Q : Exit → Act → World → Prop} (hgd : o.guard = none) (s x : Operand) (t : TypeId)
    (ho : o.op = .call { callee := .builtin .append, args := #[s, x], argTypes := #[t, t] })
    (e : TypeId) (hinf : (P.info? e).map (fun i => (i.zero, i.size, i.bytes)) = some (some (.int .u8 0), 1, 1)) (ht : P.underlying t = some (.slice e))
    (ad : Addr) (n : Nat) (vx : Value) (l m : List UInt8) (hl : l.length = n) (hs : a.eval s = .slice (some ad) n n) (hvs : Sl w (.slice (some ad) n n) l) (hx : a.eval x = vx) (hsl : Sl w vx m) (hm : 0 < m.length) (hlen : l.length + m.length ≤ 4096)
    (h : ∀ v' w', w'.ownsRow w.heap.size e 1 v' (l ++ m).length (bvals (l ++ m)) → Below w.heap.size w w' → wpList P ops Q rest (a.put o.dst v') w') : wpList P ops Q (o :: rest) a w := by
  obtain ⟨i, hi, hz, hs1, hy⟩ := info_parts hinf
  have rd : ∀ {ao : Option Addr} {k c : Nat} {u : List UInt8}, Sl w (.slice ao k c) u → 0 < u.length → ∃ b off, ao = some ⟨b, off, none⟩ ∧ ∀ j v, (bvals u)[j]? = some v → w.cell? ((⟨b, off, none⟩ : Addr).add j) = some v := by
    intro ao k c u hu h0
    obtain ⟨ao', c', e1, _, _, _, h5⟩ := hu
    simp only [Value.slice.injEq] at e1
    obtain ⟨rfl, _, _⟩ := e1
    obtain ⟨b, off, rfl, hc⟩ := h5.at h0
    refine ⟨b, off, rfl, fun j v hv => ?_⟩
    have hj : j < u.length := by
      have := (List.getElem?_eq_some_iff.1 hv).1
      simpa [bvals] using this
    rw [addr_add, hc j hj, ← hv, bvals_get hj]
  obtain ⟨ao, k, c, rfl, hk⟩ : ∃ ao k c, vx = .slice ao k c ∧ k = m.length := by
    obtain ⟨ao, c, e1, _⟩ := id hsl
    exact ⟨ao, _, c, e1, rfl⟩
  subst hk
  obtain ⟨b2, o2, rfl, c2⟩ := rd hsl hm
  have c1 : ∀ j v, (bvals l)[j]? = some v → w.cell? (ad.add j) = some v := by
    intro j v hv
    have h0 : 0 < l.length := by
      have := (List.getElem?_eq_some_iff.1 hv).1
      simp [bvals] at this
      omega
    obtain ⟨b, off, e1, hc⟩ := rd hvs h0
    simp only [Option.some.injEq] at e1
    subst e1
    exact hc j v hv
  have hr := run_append_grow (P := P) w t o.type e i (.int .u8 0) ht hi hz ad n n (bvals l) (by rw [hs1, bvals_length, hl]; omega) c1 ⟨b2, o2, none⟩ m.length c (bvals m) (by rw [hs1, bvals_length]; omega) c2 (by omega) (by omega) (by rw [hy]; exact cap_fits (by omega) (by omega))
  refine Lib.wpList_append_run w hgd s x t t ho _ _ hs hx _ _ hr (h _ _ ?_ ((Below.refl _ w).drew.alloc (by simp) _))
  have hge := grownCap_ge w (n + m.length) n e
  have hle := grownCap_le_maxLen w (n + m.length) n e (by unfold maxLen; omega)
  rw [List.length_append, hl]
  refine ⟨by simp [bvals, hl], Or.inr ⟨w.heap.size, _, _, rfl, Nat.le_refl _, heap_alloc_new w.drew _, hge, hle, ?_, ?_⟩⟩
  · simp only [Array.size_append, List.size_toArray, size_zeroCells, bvals_length]
    simp [Value.cells]
    omega
  · rw [bvals_append]
    simp only [Array.toList_append, Nat.mul_one]
    exact List.take_left' (by simp [bvals, hl])

end Go.Proofs.Ytdhjlongdfgejaa
