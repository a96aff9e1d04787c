/-
  Keep, where the lists that are kept lie apart from each other and from those that were kept before.
-/
import Derived.Test.YtgccfpmjcpoddaaOneA
namespace Go.Proofs.Ytgccfpmjcpoddaa
open Go.RowKit

theorem keep_core (U : World) (kb : Nat) (its : List (Nat × Nat × Nat)) (size : Nat) (ts : List (Option (Nat × Nat × Nat))) (hK : Kept U kb kb its size) (hI : Items U kb (its ++ somes ts)) (hlen : ts.length ≤ 1000)
    (cs : Array Value) (hcs : cs = (ts.map slx).toArray) (n cc : Nat) (hn : n = ts.length) :
    Calls Try.prog 35 #[.pointer (some ⟨kb, 0, none⟩), .slice (some ⟨U.heap.size, 0, none⟩) n cc] (U.alloc (.cells cs 28)) fun e w' => e = .returned (.tuple #[]) ∧ KeptSt w' kb ∧ FrK kb kb (U.alloc (.cells cs 28)) w' := by
  rw [slx_eq] at hcs
  subst hn hcs
  have hb0 := box_below U (.cells (ts.map slv).toArray 28)
  have hKU : Kept (U.alloc (.cells (ts.map slv).toArray 28)) kb kb its size := hK.below hb0
  have hkl : kb < U.heap.size := by obtain ⟨vl, h1, _⟩ := hK; exact heap_lt h1
  have hIU : Items (U.alloc (.cells (ts.map slv).toArray 28)) kb (its ++ somes ts) := ⟨fun t ht => (hI.1 t ht).below hb0, hI.2⟩
  refine (keep_any _ kb kb U.heap.size cc its size ts hKU (Nat.le_refl _) (fun i hi => ?_) (fun t ht => ?_) (by omega) hlen (fun vl hv => ?_)).mono ?_
  · have : (U.alloc (.cells (ts.map slv).toArray 28)).heap[U.heap.size]? = some (.cells (ts.map slv).toArray 28 (0, 0)) := heap_alloc_new _ _
    simp only [World.cell?, this]
    simp [hi]
  · obtain ⟨_, _, _, _, h4, h5, _⟩ := hI.1 t (List.mem_append.2 (.inr (mem_somes ht)))
    exact ⟨h5, h4⟩
  · obtain ⟨vl', hv1, ho, _⟩ := hK
    have : (U.alloc (.cells (ts.map slv).toArray 28)).cell? ⟨kb, 0, none⟩ = some vl' := by
      rw [hb0.cell (p := ⟨kb, 0, none⟩) hkl]; simp [World.cell?, hv1]
    rw [this] at hv
    simp only [Option.some.injEq] at hv
    subst hv
    intro e
    have := (ho.lt U.heap.size e).2
    omega
  · rintro e w' ⟨rfl, its', size', hk', hs', hf'⟩
    exact ⟨rfl, ⟨its', size', hk', Items.sub ⟨fun t ht => (hIU.1 t ht).frK (hKU.ne (hIU.1 t ht)) hf', hIU.2⟩ hs'⟩, hf'⟩

theorem RdrAt.frK {w w' : World} {rb kb : Nat} {l : List UInt8} {k : Nat} {er : Int} (h : RdrAt w rb l k er) (hk : ∃ cs, w.heap[kb]? = some (.cells cs 53 (0, 0))) (hf : FrK kb kb w w') : RdrAt w' rb l k er := by
  obtain ⟨cs, hk⟩ := hk
  obtain ⟨v, hr, ho, r⟩ := h
  have hne : rb ≠ kb := by rintro rfl; rw [hr] at hk; simp at hk
  refine ⟨v, by rw [hf.block rb (heap_lt hr) hne (.inr fun c fr e => by rw [hr] at e; simp at e)]; exact hr, ?_, r⟩
  obtain ⟨h1, p⟩ := ho
  refine ⟨h1, ?_⟩
  rcases p with h | ⟨g, cap, cur, rfl, hg, hh, r⟩
  · exact .inl h
  · have hgk : g ≠ kb := by rintro rfl; rw [hh] at hk; simp at hk
    exact .inr ⟨g, cap, cur, rfl, hg, by rw [hf.block g (heap_lt hh) hgk (.inr fun c fr e => by rw [hh] at e; simp at e)]; exact hh, r⟩
theorem RefAt.frK {w w' : World} {qb kb : Nat} {l : List UInt8} {k : Nat} {er : Int} (h : RefAt w qb l k er) (hq : qb < kb) (hk : kb ≤ w.heap.size) (hf : FrK kb kb w w') : RefAt w' qb l k er := by
  obtain ⟨v, hr, hs, h1, h2, hv⟩ := h
  have hB : Below kb w w' := hf.below hk (Nat.le_refl _) (Nat.le_refl _)
  refine ⟨v, by rw [hB.block qb hq]; exact hr, ?_, h1, h2, hv⟩
  obtain ⟨ao, cap, rfl, g2, g3, g4, g5⟩ := hs
  refine ⟨ao, cap, rfl, g2, g3, g4, fun i hi => ?_⟩
  obtain ⟨b, off, rfl, hc⟩ := g5 i hi
  have hb := hv _ _ _ rfl (by omega)
  exact ⟨b, off, rfl, by rw [hB.cell (p := ⟨b, off + i, none⟩) (Nat.lt_trans hb hq)]; exact hc⟩
theorem KeptSt.cells {w : World} {kb : Nat} (h : KeptSt w kb) : ∃ cs, w.heap[kb]? = some (.cells cs 53 (0, 0)) := by
  obtain ⟨its, size, ⟨vl, h1, _⟩, _⟩ := h; exact ⟨_, h1⟩
theorem KeptSt.lt {w : World} {kb : Nat} (h : KeptSt w kb) : kb < w.heap.size := by
  obtain ⟨cs, h⟩ := h.cells; exact heap_lt h
/-- A list that a reader answered beside those that are kept. -/
theorem KeptSt.add {w w' : World} {kb rb : Nat} {l : List UInt8} {k : Nat} {er : Int} {t : Option (Nat × Nat × Nat)} (h : KeptSt w kb) (hr : RdrAt w rb l k er) (hg : w.grownBy w' (some rb)) (ht : ∀ t', t = some t' → Own8 w' w.heap.size t') :
    ∃ its size, Kept w' kb kb its size ∧ Items w' kb (its ++ somes [t]) := by
  have hkl := h.lt
  obtain ⟨its, size, hk, hi⟩ := h
  obtain ⟨v, hx, _⟩ := hr
  have hsz : ∀ x ∈ its, x.1 < w.heap.size := fun x hx => (hi.1 x hx).lt
  obtain ⟨its2, size2, hk2, hi2⟩ := KeptSt.grown (kb := kb) ⟨its, size, hk, hi⟩ hx (by decide) hg
  have hk' : Kept w' kb kb its size ∧ Items w' kb its := by
    obtain ⟨vl, h1, h2, h3⟩ := hk
    have hne : kb ≠ rb := by rintro rfl; rw [h1] at hx; simp at hx
    refine ⟨⟨vl, by rw [hg.block kb (heap_lt h1) (by simpa using hne)]; exact h1, h2.kept hg (.inr ?_), h3⟩, fun t ht => ?_, hi.2⟩
    · intro e
      obtain ⟨_, p⟩ := h2
      rcases p with ⟨rfl, _⟩ | ⟨g, cap, cur, rfl, _, hh, _⟩
      · simp [Value.ownBlock] at e
      · simp [Value.ownBlock] at e
        subst e
        rw [hx] at hh; simp at hh
    · obtain ⟨cur, k1, k2⟩ := hi.1 t ht
      have hn : t.1 ≠ rb := by rintro e; rw [e, hx] at k1; simp at k1
      exact ⟨cur, by rw [hg.block t.1 (heap_lt k1) (by simpa using hn)]; exact k1, k2⟩
  refine ⟨its, size, hk'.1, ?_, ?_⟩
  · intro x hx'
    rcases List.mem_append.1 hx' with h | h
    · exact hk'.2.1 x h
    · cases t with
      | none => simp [somes] at h
      | some t => simp [somes] at h; subst h; exact (ht x rfl).lower (Nat.le_of_lt hkl)
  · rw [List.map_append, List.nodup_append]
    refine ⟨hi.2, by cases t <;> simp [somes], fun a ha b hb' => ?_⟩
    obtain ⟨x, hx', rfl⟩ := List.mem_map.1 ha
    have l1 := hsz x hx'
    cases t with
    | none => simp [somes] at hb'
    | some t =>
      simp [somes] at hb'
      subst hb'
      obtain ⟨_, _, _, _, _, _, l2⟩ := ht t rfl
      omega
#print axioms keep_core
end Go.Proofs.Ytgccfpmjcpoddaa
