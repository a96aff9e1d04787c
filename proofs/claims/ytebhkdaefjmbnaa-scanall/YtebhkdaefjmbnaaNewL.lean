/-
  Lists that a call answers lie in blocks of their own, made by that call: New; several calls behind each other: NewL; kept: keep_new.
-/
import Derived.Test.YtebhkdaefjmbnaaApartK
namespace Go.Proofs.Ytebhkdaefjmbnaa
open Go.RowKit

/-- t is a list that was made between u and u'; all that was there in u is as it was. -/
def New (u u' : World) (t : Option (Nat × Nat × Nat)) : Prop := Below u.heap.size u u' ∧ ∀ t', t = some t' → Own8 u' u.heap.size t'
def NewL (u u' : World) (ts : List (Option (Nat × Nat × Nat))) : Prop := Below u.heap.size u u' ∧ (∀ t ∈ somes ts, Own8 u' u.heap.size t) ∧ ((somes ts).map (·.1)).Nodup

theorem Own8.lower {w : World} {b b' : Nat} {t : Nat × Nat × Nat} (h : Own8 w b t) (hb : b' ≤ b) : Own8 w b' t := by
  obtain ⟨cur, h1, h2, h3, h4, h5, h6⟩ := h
  exact ⟨cur, h1, h2, h3, h4, h5, Nat.le_trans hb h6⟩
theorem Own8.lt {w : World} {b : Nat} {t : Nat × Nat × Nat} (h : Own8 w b t) : t.1 < w.heap.size := by
  obtain ⟨cur, h1, _⟩ := h; exact heap_lt h1
theorem own_slv {w : World} {lo : Nat} {v : Value} {l : List UInt8} (h : w.ownsRow lo 5 1 v l.length (bvals l)) (hl : l.length ≤ 281474976710656) : ∃ t, v = slv t ∧ ∀ t', t = some t' → Own8 w lo t' := by
  have h0 := h
  obtain ⟨_, p⟩ := h
  rcases p with ⟨rfl, _⟩ | ⟨g, cap, cur, rfl, hg, hh, h1, h2, h3, _⟩
  · exact ⟨none, rfl, fun t' e => by simp at e⟩
  · exact ⟨some (g, l.length, cap), rfl, fun t' e => by simp at e; subst e; exact Own8.of_owns h0 hl⟩
theorem New.of_own {u u' : World} {v : Value} {l : List UInt8} (h : u'.ownsRow u.heap.size 5 1 v l.length (bvals l)) (hl : l.length ≤ 281474976710656) (hb : Below u.heap.size u u') : ∃ t, v = slv t ∧ New u u' t := by
  obtain ⟨t, h1, h2⟩ := own_slv h hl
  exact ⟨t, h1, hb, h2⟩
theorem Below.of_drew {u v : World} (h : Below u.drew.heap.size u.drew v) : Below u.heap.size u v := ⟨h.os, h.tape, h.output, h.size, h.block⟩
theorem New.of_drew {u v : World} {t : Option (Nat × Nat × Nat)} (h : New u.drew v t) : New u v t := ⟨Below.of_drew h.1, h.2⟩
theorem NewL.nil (u : World) : NewL u u [] := ⟨Below.refl _ _, fun t ht => by simp [somes] at ht, by simp [somes]⟩
theorem NewL.snoc {u u' u'' : World} {ts : List (Option (Nat × Nat × Nat))} {t : Option (Nat × Nat × Nat)} (h : NewL u u' ts) (hn : New u' u'' t) : NewL u u'' (ts ++ [t]) := by
  obtain ⟨h1, h2, h3⟩ := h
  obtain ⟨n1, n2⟩ := hn
  refine ⟨h1.trans (n1.mono h1.size), ?_, ?_⟩
  · intro x hx
    rw [somes_append, List.mem_append] at hx
    rcases hx with hx | hx
    · exact (h2 x hx).below n1
    · cases t with
      | none => simp [somes] at hx
      | some t => simp [somes] at hx; subst hx; exact (n2 x rfl).lower h1.size
  · rw [somes_append, List.map_append]
    cases t with
    | none => simpa [somes] using h3
    | some t =>
      rw [List.nodup_append]
      refine ⟨h3, by simp [somes], fun a ha b hb => ?_⟩
      simp only [somes, List.map_cons, List.map_nil, List.mem_singleton] at hb
      obtain ⟨x, hx, rfl⟩ := List.mem_map.1 ha
      have l1 := (h2 x hx).lt
      obtain ⟨_, _, _, _, _, _, l2⟩ := n2 t rfl
      omega
theorem NewL.swap {u u' : World} {a b : List (Option (Nat × Nat × Nat))} (h : NewL u u' (a ++ b)) : NewL u u' (b ++ a) := by
  obtain ⟨h1, h2, h3⟩ := h
  rw [somes_append] at h2 h3
  refine ⟨h1, ?_, ?_⟩
  · intro t ht
    rw [somes_append, List.mem_append] at ht
    exact h2 t (List.mem_append.2 ht.symm)
  · rw [somes_append]
    exact (List.Perm.map _ List.perm_append_comm).nodup_iff.1 h3
theorem NewL.drew {u u' : World} {ts : List (Option (Nat × Nat × Nat))} (h : NewL u u' ts) : NewL u u'.drew ts := ⟨h.1.drew, h.2.1, h.2.2⟩
theorem NewL.drewN {u u' : World} {ts : List (Option (Nat × Nat × Nat))} (h : NewL u u' ts) (k : Nat) : NewL u (u'.drewN k) ts := ⟨below_drewN h.1 k, h.2.1, h.2.2⟩

theorem Kept.below {w w' : World} {base kb : Nat} {its : List (Nat × Nat × Nat)} {size : Nat} (h : Kept w base kb its size) (hb : Below w.heap.size w w') : Kept w' base kb its size := by
  obtain ⟨vl, h1, h2, h3⟩ := h
  exact ⟨vl, by rw [hb.block kb (heap_lt h1)]; exact h1, ownsRow_below h2 hb, h3⟩
theorem Kept.ne {w : World} {base b kb : Nat} {its : List (Nat × Nat × Nat)} {size : Nat} {t : Nat × Nat × Nat} (h : Kept w base kb its size) (ho : Own8 w b t) : t.1 ≠ kb := by
  obtain ⟨vl, h1, _⟩ := h
  obtain ⟨cur, h2, _⟩ := ho
  intro e
  rw [e, h1] at h2
  simp at h2
theorem FrK.below {base kb B : Nat} {w w' : World} (h : FrK base kb w w') (hb : base ≤ w.heap.size) (hk : base ≤ kb) (hB : B ≤ base) : Below B w w' :=
  ⟨h.os, h.tape, h.output, h.size, fun k hk' => h.block k (by omega) (by omega) (.inl (by omega))⟩

/-- The parts of a list's value. -/
def sAo : Option (Nat × Nat × Nat) → Option Addr
  | none => none
  | some t => some ⟨t.1, 0, none⟩
def sN : Option (Nat × Nat × Nat) → Nat
  | none => 0
  | some t => t.2.1
def sC : Option (Nat × Nat × Nat) → Nat
  | none => 0
  | some t => t.2.2
def slx (t : Option (Nat × Nat × Nat)) : Value := .slice (sAo t) (sN t) (sC t)
theorem slv_slx (t : Option (Nat × Nat × Nat)) : slv t = slx t := by cases t <;> rfl
theorem slx_eq : slx = slv := funext fun t => (slv_slx t).symm
theorem mem_somes {ts : List (Option (Nat × Nat × Nat))} {t : Nat × Nat × Nat} (h : some t ∈ ts) : t ∈ somes ts := by
  induction ts with
  | nil => simp at h
  | cons x r ih =>
    rcases List.mem_cons.1 h with e | e
    · subst e; simp [somes]
    · cases x <;> simp [somes, ih e]

theorem keep_new (u0 U : World) (base kb : Nat) (its : List (Nat × Nat × Nat)) (size : Nat) (ts : List (Option (Nat × Nat × Nat))) (hK : Kept u0 base kb its size) (hI : Items u0 base its) (hb : base ≤ kb) (hN : NewL u0 U ts) (hlen : ts.length ≤ 1000)
    (cs : Array Value) (hcs : cs = (ts.map slv).toArray) (n cc : Nat) (hn : n = ts.length) :
    Calls Try.prog 10 #[.pointer (some ⟨kb, 0, none⟩), .slice (some ⟨U.heap.size, 0, none⟩) n cc] (U.alloc (.cells cs 22)) fun e w' => e = .returned (.tuple #[]) ∧ (∃ its' size', Kept w' base kb its' size' ∧ Items w' base its') ∧ Below base u0 w' := by
  subst hn hcs
  have hb0 := box_below U (.cells (ts.map slv).toArray 22)
  have hKU : Kept (U.alloc (.cells (ts.map slv).toArray 22)) base kb its size := (hK.below hN.1).below hb0
  have hkl : kb < u0.heap.size := by obtain ⟨vl, h1, _⟩ := hK; exact heap_lt h1
  have hbu : base ≤ u0.heap.size := by omega
  have hIU : Items (U.alloc (.cells (ts.map slv).toArray 22)) base (its ++ somes ts) := by
    refine ⟨fun t ht => ?_, ?_⟩
    · rcases List.mem_append.1 ht with h | h
      · exact ((hI.1 t h).below hN.1).below hb0
      · exact ((hN.2.1 t h).lower hbu).below hb0
    · rw [List.map_append, List.nodup_append]
      refine ⟨hI.2, hN.2.2, fun a ha b hb' => ?_⟩
      obtain ⟨x, hx, rfl⟩ := List.mem_map.1 ha
      obtain ⟨y, hy, rfl⟩ := List.mem_map.1 hb'
      have l1 := (hI.1 x hx).lt
      obtain ⟨_, _, _, _, _, _, l2⟩ := hN.2.1 y hy
      omega
  refine (keep_any _ base kb U.heap.size cc its size ts hKU hb (fun i hi => ?_) (fun t ht => ?_) ?_ hlen (fun vl hv => ?_)).mono ?_
  · have : (U.alloc (.cells (ts.map slv).toArray 22)).heap[U.heap.size]? = some (.cells (ts.map slv).toArray 22 (0, 0)) := heap_alloc_new _ _
    simp only [World.cell?, this]
    simp [hi]
  · have hm : t ∈ somes ts := mem_somes ht
    obtain ⟨_, _, _, _, h4, h5, _⟩ := hN.2.1 t hm
    exact ⟨h5, h4⟩
  · have := hN.1.size; omega
  · obtain ⟨vl', hv1, ho, _⟩ := hK.below hN.1
    have hkU : kb < U.heap.size := heap_lt hv1
    have : (U.alloc (.cells (ts.map slv).toArray 22)).cell? ⟨kb, 0, none⟩ = some vl' := by
      rw [hb0.cell (p := ⟨kb, 0, none⟩) hkU]; simp [World.cell?, hv1]
    rw [this] at hv
    simp only [Option.some.injEq] at hv
    subst hv
    intro e
    have := (ho.lt U.heap.size e).2
    omega
  · rintro e w' ⟨rfl, its', size', hk', hs', hf'⟩
    have hb1 := hf'.below (B := base) (by have := hN.1.size; simp; omega) hb (Nat.le_refl _)
    have hb2 : Below base u0 (U.alloc (.cells (ts.map slv).toArray 22)) := (hN.1.mono hbu).trans (hb0.mono (by have := hN.1.size; omega))
    refine ⟨rfl, ⟨its', size', hk', Items.sub ⟨fun t ht => (hIU.1 t ht).frK (hKU.ne (hIU.1 t ht)) hf', hIU.2⟩ hs'⟩, hb2.trans hb1⟩
theorem keep_new2 (u0 U : World) (base kb : Nat) (its : List (Nat × Nat × Nat)) (size : Nat) (ts : List (Option (Nat × Nat × Nat))) (hK : Kept u0 base kb its size) (hI : Items u0 base its) (hb : base ≤ kb) (hN : NewL u0 U ts) (hlen : ts.length ≤ 1000)
    (cs : Array Value) (hcs : cs = (ts.map slx).toArray) (n cc : Nat) (hn : n = ts.length) :
    Calls Try.prog 10 #[.pointer (some ⟨kb, 0, none⟩), .slice (some ⟨U.heap.size, 0, none⟩) n cc] (U.alloc (.cells cs 22)) fun e w' => e = .returned (.tuple #[]) ∧ (∃ its' size', Kept w' base kb its' size' ∧ Items w' base its') ∧ Below base u0 w' :=
  keep_new u0 U base kb its size ts hK hI hb hN hlen cs (by rw [hcs, slx_eq]) n cc hn
theorem keep_new3 (u0 U : World) (base kb : Nat) (its : List (Nat × Nat × Nat)) (size : Nat) (ts : List (Option (Nat × Nat × Nat))) (hK : Kept u0 base kb its size) (hI : Items u0 base its) (hb : base ≤ kb) (hN : NewL u0 U ts) (hlen : ts.length ≤ 1000)
    (cs : Array Value) (hcs : cs = (ts.map slv).toArray) (n cc : Nat) (hn : n = ts.length) :
    Calls Try.prog 10 #[.pointer (some ⟨kb, 0, none⟩), .slice (some ⟨U.heap.size, 0, none⟩) n cc] (U.alloc (.cells cs 22)) fun e w' => e = .returned (.tuple #[]) ∧ (∃ its' size', Kept w' base kb its' size' ∧ Items w' base its') ∧ Below base u0 w' ∧ FrK base kb (U.alloc (.cells cs 22)) w' := by
  subst hn hcs
  have hb0 := box_below U (.cells (ts.map slv).toArray 22)
  have hKU : Kept (U.alloc (.cells (ts.map slv).toArray 22)) base kb its size := (hK.below hN.1).below hb0
  have hkl : kb < u0.heap.size := by obtain ⟨vl, h1, _⟩ := hK; exact heap_lt h1
  have hbu : base ≤ u0.heap.size := by omega
  have hIU : Items (U.alloc (.cells (ts.map slv).toArray 22)) base (its ++ somes ts) := by
    refine ⟨fun t ht => ?_, ?_⟩
    · rcases List.mem_append.1 ht with h | h
      · exact ((hI.1 t h).below hN.1).below hb0
      · exact ((hN.2.1 t h).lower hbu).below hb0
    · rw [List.map_append, List.nodup_append]
      refine ⟨hI.2, hN.2.2, fun a ha b hb' => ?_⟩
      obtain ⟨x, hx, rfl⟩ := List.mem_map.1 ha
      obtain ⟨y, hy, rfl⟩ := List.mem_map.1 hb'
      have l1 := (hI.1 x hx).lt
      obtain ⟨_, _, _, _, _, _, l2⟩ := hN.2.1 y hy
      omega
  refine (keep_any _ base kb U.heap.size cc its size ts hKU hb (fun i hi => ?_) (fun t ht => ?_) ?_ hlen (fun vl hv => ?_)).mono ?_
  · have : (U.alloc (.cells (ts.map slv).toArray 22)).heap[U.heap.size]? = some (.cells (ts.map slv).toArray 22 (0, 0)) := heap_alloc_new _ _
    simp only [World.cell?, this]
    simp [hi]
  · have hm : t ∈ somes ts := mem_somes ht
    obtain ⟨_, _, _, _, h4, h5, _⟩ := hN.2.1 t hm
    exact ⟨h5, h4⟩
  · have := hN.1.size; omega
  · obtain ⟨vl', hv1, ho, _⟩ := hK.below hN.1
    have hkU : kb < U.heap.size := heap_lt hv1
    have : (U.alloc (.cells (ts.map slv).toArray 22)).cell? ⟨kb, 0, none⟩ = some vl' := by
      rw [hb0.cell (p := ⟨kb, 0, none⟩) hkU]; simp [World.cell?, hv1]
    rw [this] at hv
    simp only [Option.some.injEq] at hv
    subst hv
    intro e
    have := (ho.lt U.heap.size e).2
    omega
  · rintro e w' ⟨rfl, its', size', hk', hs', hf'⟩
    have hb1 := hf'.below (B := base) (by have := hN.1.size; simp; omega) hb (Nat.le_refl _)
    have hb2 : Below base u0 (U.alloc (.cells (ts.map slv).toArray 22)) := (hN.1.mono hbu).trans (hb0.mono (by have := hN.1.size; omega))
    refine ⟨rfl, ⟨its', size', hk', Items.sub ⟨fun t ht => (hIU.1 t ht).frK (hKU.ne (hIU.1 t ht)) hf', hIU.2⟩ hs'⟩, hb2.trans hb1, hf'⟩
#print axioms keep_new
end Go.Proofs.Ytebhkdaefjmbnaa
