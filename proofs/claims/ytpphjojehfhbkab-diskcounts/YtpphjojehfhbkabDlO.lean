/-
  Arm.
-/
import Derived.Test.YtpphjojehfhbkabDlO0
namespace Go.Proofs.Ytpphjojehfhbkab.Dk
open Go.RowKit Go.Maps Go.Sort Go.Shelf Go.Proofs.Ytpphjojehfhbkab.Nm

/-- Other faults are armed. -/
theorem Dsk.armed {w w1 : World} {b m : Nat} {S : DS} {O : Nat → Prop} {f g : Nat} {pd : Value} {am : Option Nat} {VB VL : Nat → Value} {l : Ar} (h : Dsk w b S O f g pd am VB VL) (hB : Below w.heap.size w w1) (hm : Am w1 m l) (hn : w.heap.size ≤ m) (hcl : ∀ e ∈ l, (1 ≤ e.2.2.1 ∧ e.2.2.1 ≤ 3) ∧ 0 ≤ e.2.2.2) :
    ∃ O', Dsk (w1.setCell ⟨b, 5, none⟩ (.map (some m))) b { S with al := l } O' f g pd (some m) VB VL ∧ Sgo w (w1.setCell ⟨b, 5, none⟩ (.map (some m))) O O' := by
  have h1 := h.below hB
  obtain ⟨n1, n2, n3, n4⟩ := h1.dk.noB
  have hG := But.of_grownBy (X := fun k => k = b) (grown_setCell w1 b 5 (.map (some m))) fun k e => by cases e; rfl
  have hbm : m ≠ b := fun e => hm.ne h1.dk.cells e.symm
  have hx := heap_setCell_same w1 b 5 _ _ (.map (some m)) h1.dk.cells
  have hOl : ∀ k, Own b (S.dc f g pd am) k → k < w.heap.size := fun k hk => h.lt k (h.ow k hk)
  refine ⟨fun k => O k ∨ (w.heap.size ≤ k ∧ k < (w1.setCell ⟨b, 5, none⟩ (.map (some m))).heap.size), ⟨⟨hx, rfl, rfl, h1.dk.mf.but hG n1, h1.dk.mg.but hG n2, h1.dk.fg, h1.dk.pd.but hG n4, ?_, (fun e => by cases e), h1.dk.run, h1.dk.can, h1.dk.ok, h1.dk.c0, h1.dk.c1⟩, ?_, ?_, ?_, ?_, ?_⟩, ?_⟩
  · intro m' e
    simp only [DS.dc, Option.some.injEq] at e
    subst e
    refine ⟨hm.but hG hbm, fun e => ?_, fun e => ?_⟩
    · have := hOl f (.inr (.inl rfl)); omega
    · have := hOl g (.inr (.inr (.inl rfl))); omega
  · have k1 := h1.fs.but hG (fun p hp k hk e => h1.fs.no p hp k hk (.inl e))
    refine ⟨k1.at_, k1.ap, fun p hp k hk c => ?_⟩
    have hk2 := h.fs.lt hp k hk
    rcases c with c | c | c | c | c
    · exact k1.no p hp k hk (.inl c)
    · exact k1.no p hp k hk (.inr (.inl c))
    · exact k1.no p hp k hk (.inr (.inr (.inl c)))
    · exact k1.no p hp k hk (.inr (.inr (.inr (.inl c))))
    · simp only [DS.dc, Option.some.injEq] at c; omega
  · intro k hk
    rcases hk with c | c | c | c | c
    · exact .inl (h.ow k (.inl c))
    · exact .inl (h.ow k (.inr (.inl c)))
    · exact .inl (h.ow k (.inr (.inr (.inl c))))
    · exact .inl (h.ow k (.inr (.inr (.inr (.inl c)))))
    · simp only [DS.dc, Option.some.injEq] at c; subst c; exact .inr ⟨hn, Nat.lt_of_lt_of_le hm.lt hG.size⟩
  · exact fun p hp k hk => .inl (h.of p hp k hk)
  · rintro k (q | q)
    · exact Nat.lt_of_lt_of_le (h1.lt k q) hG.size
    · exact q.2
  · exact ⟨h.ok.most, h.ok.sz, h.ok.cnt, hcl, h.ok.by8⟩
  · refine ⟨(But.of_below hB _).trans (hG.mono fun k _ e => by rw [e]; exact h.ow b (.inl rfl)), ?_⟩
    rintro k (q | q)
    · exact .inl q
    · exact .inr q.1
end Go.Proofs.Ytpphjojehfhbkab.Dk
