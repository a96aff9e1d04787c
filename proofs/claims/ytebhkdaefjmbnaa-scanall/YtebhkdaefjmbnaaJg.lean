/-
  What scan.Find answers.
-/
import Derived.Test.YtebhkdaefjmbnaaJf
namespace Go.Proofs.Ytebhkdaefjmbnaa
open Go.RowKit Go.Shelf
set_option maxRecDepth 100000
set_option linter.unusedVariables false
attribute [local go_sem] Oper.semAt_some

theorem heap7 (w : World) (o0 o1 o2 o3 o4 o5 o6 : Obj) : ∃ W, ((((((w.alloc o0).alloc o1).alloc o2).alloc o3).alloc o4).alloc o5).alloc o6 = W ∧ W.heap.size = w.heap.size + 7 ∧ W.heap[w.heap.size]? = some o0 ∧ W.heap[w.heap.size + 1]? = some o1 ∧ W.heap[w.heap.size + 1 + 1]? = some o2 ∧ W.heap[w.heap.size + 1 + 1 + 1]? = some o3 ∧ W.heap[w.heap.size + 1 + 1 + 1 + 1]? = some o4 ∧ W.heap[w.heap.size + 1 + 1 + 1 + 1 + 1]? = some o5 ∧ W.heap[w.heap.size + 1 + 1 + 1 + 1 + 1 + 1]? = some o6 ∧ Below w.heap.size w W := by
  obtain ⟨u, hu, hs, a, b, c, d, hB⟩ := heap4 w o0 o1 o2 o3
  rw [hu]
  obtain ⟨e, f, g⟩ := heap3 u o4 o5 o6
  have hB2 := (((Below.refl _ u).alloc (Nat.le_refl _) o4).alloc (by simp) o5).alloc (by simp; omega) o6
  have hs2 : (((u.alloc o4).alloc o5).alloc o6).heap.size = u.heap.size + 3 := by simp
  rw [show u.heap.size = w.heap.size + 1 + 1 + 1 + 1 by omega] at e f g
  refine ⟨_, rfl, by omega, ?_, ?_, ?_, ?_, e, f, g, hB.trans (hB2.mono (by omega))⟩
  · rw [hB2.block _ (by omega)]; exact a
  · rw [hB2.block _ (by omega)]; exact b
  · rw [hB2.block _ (by omega)]; exact c
  · rw [hB2.block _ (by omega)]; exact d

/-- What Find answers: LSN, Data, the place, the error's number. -/
def fndF (L : List UInt8) (xs : List Sc) (lsn : Int) : Int × List UInt8 × Int × Int := match xs.find? (fun x => decide ((x.n : Int) = lsn)) with
  | some x => (lsn, dat L x, (x.e : Int), 0)
  | none => (0, [], 0, 6)
theorem fndF_none {L : List UInt8} {xs : List Sc} {lsn : Int} (h : ∀ x ∈ xs, (x.n : Int) ≠ lsn) : fndF L xs lsn = (0, [], 0, 6) := by
  unfold fndF
  rw [List.find?_eq_none.2 (fun x hx => by simpa using h x hx)]
theorem fndF_some {L : List UInt8} {xs p : List Sc} {x : Sc} {lsn : Int} (hp : p ++ [x] <+: xs) (h : ∀ x ∈ p, (x.n : Int) ≠ lsn) (hx : (x.n : Int) = lsn) : fndF L xs lsn = (lsn, dat L x, (x.e : Int), 0) := by
  obtain ⟨t, rfl⟩ := hp
  unfold fndF
  rw [List.append_assoc, List.find?_append, List.find?_eq_none.2 (fun x hx => by simpa using h x hx)]
  simp [hx]
/-- What a function that finds records owes. -/
def DoesFind (f : Nat) : Prop := ∀ (w : World) (v : Value) (L : List UInt8) (base : Int) (seed : Crc.R) (lsn : Int) (xs : List Sc), EvP L base seed xs → -9223372036854775808 ≤ base → base ≤ 9223372036854775807 → Sl w v L → L.length ≤ 1099511627776 →
  Calls Try.prog f #[v, .int .i64 base, .int .u32 (seed.toNat : Int), .int .i64 lsn] w fun e w' => ∃ u, e = .returned (.tuple #[.agg #[.int .i64 (fndF L xs lsn).1, u], .int .i64 (fndF L xs lsn).2.2.1, .int .i64 (fndF L xs lsn).2.2.2]) ∧ w'.ownsRow w.heap.size 5 1 u (fndF L xs lsn).2.1.length (bvals (fndF L xs lsn).2.1) ∧ Below w.heap.size w w'

/-- Find's variables. -/
structure FV (w W : World) (C : Nat → Prop) (r u a e : Value) : Prop where
  b1 : W.heap[w.heap.size + 1]? = some (.cells #[r, u] 41 (0, 0))
  b2 : W.heap[w.heap.size + 1 + 1]? = some (.cells #[a] 3 (0, 0))
  b3 : W.heap[w.heap.size + 1 + 1 + 1]? = some (.cells #[e] 45 (0, 0))
  own : ∀ k, C k ↔ k = w.heap.size + 1 ∨ k = w.heap.size + 1 + 1 ∨ k = w.heap.size + 1 + 1 + 1 ∨ u.ownBlock = some k
  below : Below w.heap.size w W
theorem FV.but {w W W' : World} {C X : Nat → Prop} {r u a e : Value} (h : FV w W C r u a e) (hb : But X W W') (hX : ∀ k, X k → w.heap.size ≤ k ∧ ¬ C k) : FV w W' C r u a e where
  b1 := hb.at h.b1 fun hx => (hX _ hx).2 ((h.own _).2 (.inl rfl))
  b2 := hb.at h.b2 fun hx => (hX _ hx).2 ((h.own _).2 (.inr (.inl rfl)))
  b3 := hb.at h.b3 fun hx => (hX _ hx).2 ((h.own _).2 (.inr (.inr (.inl rfl))))
  own := h.own
  below := h.below.trans (hb.below h.below.size fun k hx => (hX k hx).1)
theorem FV.cells {w W : World} {C : Nat → Prop} {r u a e : Value} (h : FV w W C r u a e) : W.cell? ⟨w.heap.size + 1, 0, none⟩ = some r ∧ W.cell? ⟨w.heap.size + 1, 1, none⟩ = some u ∧ W.cell? ⟨w.heap.size + 1 + 1, 0, none⟩ = some a ∧ W.cell? ⟨w.heap.size + 1 + 1 + 1, 0, none⟩ = some e ∧
    W.frozen? ⟨w.heap.size + 1, 0, none⟩ = false ∧ W.frozen? ⟨w.heap.size + 1, 1, none⟩ = false ∧ W.frozen? ⟨w.heap.size + 1 + 1, 0, none⟩ = false ∧ W.frozen? ⟨w.heap.size + 1 + 1 + 1, 0, none⟩ = false := by
  simp [World.cell?, World.frozen?, h.b1, h.b2, h.b3]
/-- Find's variables, written. -/
theorem FV.put {w W : World} {C : Nat → Prop} {r u a e : Value} (h : FV w W C r u a e) (r' u' a' e' : Value) :
    ∃ U, (((W.setCell ⟨w.heap.size + 1, 0, none⟩ r').setCell ⟨w.heap.size + 1, 1, none⟩ u').setCell ⟨w.heap.size + 1 + 1, 0, none⟩ a').setCell ⟨w.heap.size + 1 + 1 + 1, 0, none⟩ e' = U ∧
      FV w U (fun k => k = w.heap.size + 1 ∨ k = w.heap.size + 1 + 1 ∨ k = w.heap.size + 1 + 1 + 1 ∨ u'.ownBlock = some k) r' u' a' e' ∧ But (fun k => k = w.heap.size + 1 ∨ k = w.heap.size + 1 + 1 ∨ k = w.heap.size + 1 + 1 + 1) W U := by
  have B : But (fun k => k = w.heap.size + 1 ∨ k = w.heap.size + 1 + 1 ∨ k = w.heap.size + 1 + 1 + 1) W ((((W.setCell ⟨w.heap.size + 1, 0, none⟩ r').setCell ⟨w.heap.size + 1, 1, none⟩ u').setCell ⟨w.heap.size + 1 + 1, 0, none⟩ a').setCell ⟨w.heap.size + 1 + 1 + 1, 0, none⟩ e') :=
    (((But.of_grownBy (grown_setCell _ _ _ _) (fun k e => by cases e; exact .inl rfl)).trans (But.of_grownBy (grown_setCell _ _ _ _) (fun k e => by cases e; exact .inl rfl))).trans (But.of_grownBy (grown_setCell _ _ _ _) (fun k e => by cases e; exact .inr (.inl rfl)))).trans (But.of_grownBy (grown_setCell _ _ _ _) (fun k e => by cases e; exact .inr (.inr rfl)))
  refine ⟨_, rfl, ⟨?_, ?_, ?_, fun k => Iff.rfl, h.below.trans (B.below h.below.size fun k hk => by omega)⟩, B⟩
  · rw [heap_setCell_other _ _ _ _ (show w.heap.size + 1 ≠ w.heap.size + 1 + 1 + 1 by omega), heap_setCell_other _ _ _ _ (show w.heap.size + 1 ≠ w.heap.size + 1 + 1 by omega)]
    exact put2_heap h.b1 r' u'
  · rw [heap_setCell_other _ _ _ _ (show w.heap.size + 1 + 1 ≠ w.heap.size + 1 + 1 + 1 by omega)]
    have h2 : ((W.setCell ⟨w.heap.size + 1, 0, none⟩ r').setCell ⟨w.heap.size + 1, 1, none⟩ u').heap[w.heap.size + 1 + 1]? = some (.cells #[a] 3 (0, 0)) := by
      rw [heap_setCell_other _ _ _ _ (show w.heap.size + 1 + 1 ≠ w.heap.size + 1 by omega), heap_setCell_other _ _ _ _ (show w.heap.size + 1 + 1 ≠ w.heap.size + 1 by omega)]; exact h.b2
    exact Boxed.set a' h2
  · have h3 : (((W.setCell ⟨w.heap.size + 1, 0, none⟩ r').setCell ⟨w.heap.size + 1, 1, none⟩ u').setCell ⟨w.heap.size + 1 + 1, 0, none⟩ a').heap[w.heap.size + 1 + 1 + 1]? = some (.cells #[e] 45 (0, 0)) := by
      rw [heap_setCell_other _ _ _ _ (show w.heap.size + 1 + 1 + 1 ≠ w.heap.size + 1 + 1 by omega), heap_setCell_other _ _ _ _ (show w.heap.size + 1 + 1 + 1 ≠ w.heap.size + 1 by omega), heap_setCell_other _ _ _ _ (show w.heap.size + 1 + 1 + 1 ≠ w.heap.size + 1 by omega)]; exact h.b3
    exact Boxed.set e' h3

set_option maxHeartbeats 2000000 in
theorem find_any : DoesFind 11 := by
  intro w v L base seed lsn xs hx g0 g1 hv hL
  have HV := hide hv
  obtain ⟨ao, ca, rfl, hrest⟩ := hv
  clear hrest
  obtain ⟨nn, hnn⟩ : ∃ nn, Hid (L.length = nn) := ⟨_, rfl⟩
  obtain ⟨F, hF⟩ : ∃ F, Hid (fndF L xs lsn = F) := ⟨_, rfl⟩
  rw [hnn.out] at HV hL ⊢
  rw [hF.out]
  refine calls_marks Try.func11 rfl ?_
  simp only [Try.ntmps11, List.size_toArray, List.length_cons, List.length_nil, Nat.reduceAdd, Nat.reduceSub, Array.replicate_succ, Array.replicate_zero, List.push_toArray, List.append_toArray, List.nil_append, List.cons_append]
  go_wp2_with (go_at_call 20; refine (places_any _ _ _ _ _ _).mono ?_; rintro e u ⟨rfl, rfl⟩)
  obtain ⟨W0, hW0, hs, a0, a1, a2, a3, a4, a5, a6, aB⟩ := heap7 w (.cells #[.int .i64 lsn] 2) (.cells #[.int .i64 0, .slice none 0 0] 41) (.cells #[.int .i64 0] 3) (.cells #[.int .i64 0] 45) (.cells #[.slice ao nn ca] 22) (.cells #[.int .i64 base] 2) (.cells #[.int .u32 (seed.toNat : Int)] 23)
  rw [hW0]
  have HV0 : Sl W0 (.slice ao nn ca) L := Below.sl aB HV.out
  have rlt : ∀ k, RdOf (w.heap.size + 1 + 1 + 1 + 1) (w.heap.size + 1 + 1 + 1 + 1 + 1) (w.heap.size + 1 + 1 + 1 + 1 + 1 + 1) (.slice ao nn ca) L k → k < W0.heap.size ∧ (k < w.heap.size ∨ w.heap.size + 4 ≤ k) := by
    rintro k (rfl | rfl | rfl | ⟨hl, hk⟩)
    · exact ⟨by omega, by omega⟩
    · exact ⟨by omega, by omega⟩
    · exact ⟨by omega, by omega⟩
    · have := HV.out.blk hl k hk
      exact ⟨by omega, by omega⟩
  refine wp_range (gf := 30) rfl (enters_of Try.func30 (by kernel_rfl) rfl) (places_seq W0 _ _ _ _ L base seed xs hx g0 g1 a4 a5 a6 HV0) (Nat.le_refl _) (fun k hk => ⟨rfl, (rlt k hk).1⟩)
    (fun x args W D h => by obtain ⟨v', rfl, _⟩ := h; rfl)
    (fun pre C W => (∀ x ∈ pre, (x.n : Int) ≠ lsn) ∧ FV w W C (.int .i64 0) (.slice none 0 0) (.int .i64 0) (.int .i64 0) ∧ W.heap[w.heap.size]? = some (.cells #[.int .i64 lsn] 2 (0, 0)))
    (fun c pre C W => c = .ret ∧ ∃ p x u, pre = p ++ [x] ∧ (∀ x ∈ p, (x.n : Int) ≠ lsn) ∧ (x.n : Int) = lsn ∧ FV w W C (.int .i64 lsn) u (.int .i64 (x.e : Int)) (.int .i64 0) ∧ W.ownsRow w.heap.size 5 1 u (dat L x).length (bvals (dat L x))) ?hI ?hIx
    (fun k => k = w.heap.size + 1 ∨ k = w.heap.size + 1 + 1 ∨ k = w.heap.size + 1 + 1 + 1) (fun k hk => ⟨fun h => by have := (rlt k h).2; omega, by omega⟩)
    ⟨by simp, ⟨a1, a2, a3, fun k => by simp [Value.ownBlock], aB⟩, a0⟩ ?round ?done ?stop
  case hI =>
    rintro pre C A B ⟨i1, i2, i3⟩ hb
    exact ⟨i1, i2.but hb fun k hk => ⟨by omega, hk.2⟩, hb.at i3 (by omega)⟩
  case hIx =>
    rintro c pre C A B ⟨i0, p, x, u, i1, i2, i3, i4, i5⟩ hb
    exact ⟨i0, p, x, u, i1, i2, i3, i4.but hb fun k hk => ⟨by omega, hk.2⟩, owns_but i5 hb fun k hk hX => hX.2 ((i4.own k).2 (.inr (.inr (.inr hk))))⟩
  case round =>
    rintro m pre x rest C1 D args W1 hxs ⟨i1, i2, i3⟩ ⟨u, rfl, ho, hDk⟩ hlt hD hl hlW nl nD
    replace i1 := hide i1
    replace i2 := hide i2
    replace i3 := hide i3
    replace hD := hide hD
    replace hDk := hide hDk
    have ho' := hide (owns_raise ho (b := w.heap.size) fun k hk => by have := (hD.out k ((hDk.out k).2 hk)).2.1; omega)
    replace hxs := hide hxs
    clear a0 a1 a2 a3 a4 a5 a6 HV0 ho
    obtain ⟨dn, hdn⟩ : ∃ dn, Hid ((dat L x).length = dn) := ⟨_, rfl⟩
    rw [hdn.out] at ho'
    obtain ⟨ao', ca', rfl⟩ := own_slice ho'.out
    simp only [List.zip_toArray, List.zip_cons_cons, List.zip_nil_right, List.foldl_toArray, List.foldl_cons, List.foldl_nil]
    gi_wp2
    refine ⟨But.alloc _ _ _, ?_⟩
    intro Wb hWb hsb
    have sb : Wb.heap.size = W1.heap.size + 1 := by rw [hsb]; simp
    have n1 := hide (hWb.at (heap_alloc_new _ _) (by omega))
    have bW : Hid (But (fun k => k = m) W1 Wb) := (But.alloc _ _ _).trans hWb
    have n2 := hide (i2.out.but bW.out fun k e => ⟨by omega, by rw [e]; exact nl⟩)
    have n3 := hide (bW.out.at i3.out (by omega))
    have nO := hide (owns_but ho'.out bW.out fun k hk e => nD (by rw [← e]; exact (hDk.out k).2 hk))
    clear hWb hsb i2 i3 ho'
    have k0 : Wb.cell? ⟨W1.heap.size, 0, none⟩ = some (.int .i64 (x.n : Int)) := by simp [World.cell?, n1.out]
    have k1 : Wb.cell? ⟨W1.heap.size, 1, none⟩ = some (.slice ao' dn ca') := by simp [World.cell?, n1.out]
    have k2 : Wb.cell? ⟨w.heap.size, 0, none⟩ = some (.int .i64 lsn) := by simp [World.cell?, n3.out]
    obtain ⟨c0, c1, c2, c3, f0, f1, f2, f3⟩ := n2.out.cells
    obtain ⟨U, hU, FU, BU⟩ := n2.out.put (.int .i64 (x.n : Int)) (.slice ao' dn ca') (.int .i64 (x.e : Int)) (.int .i64 0)
    replace hU := hide hU
    replace FU := hide FU
    replace BU := hide BU
    replace sb := hide sb
    have nne := hide (owns_ne nO.out n2.out.b1 (by decide))
    have nne2 := hide (owns_ne nO.out n2.out.b2 (by decide))
    have nne3 := hide (owns_ne nO.out n2.out.b3 (by decide))
    gi_wp2
    · have heq : (x.n : Int) = lsn := by rename_i h; simpa using h
      rw [hU.out]
      have UO := owns_but nO.out BU.out fun k hk e => by
        rcases e with e | e | e
        · exact nne.out (by rw [← e]; exact hk)
        · exact nne2.out (by rw [← e]; exact hk)
        · exact nne3.out (by rw [← e]; exact hk)
      refine ⟨_, ⟨rfl, pre, x, _, rfl, i1.out, heq, by rw [← heq]; exact FU.out, by rw [hdn.out]; exact UO⟩, BU.out.mono fun k _ e => (n2.out.own k).2 (by rcases e with e | e | e <;> simp [e]), fun k hk => ?_⟩
      rcases hk with e | e | e | e
      · exact ⟨.inl ((n2.out.own k).2 (.inl e)), by rw [e]; exact heap_lt FU.out.b1⟩
      · exact ⟨.inl ((n2.out.own k).2 (.inr (.inl e))), by rw [e]; exact heap_lt FU.out.b2⟩
      · exact ⟨.inl ((n2.out.own k).2 (.inr (.inr (.inl e)))), by rw [e]; exact heap_lt FU.out.b3⟩
      · exact ⟨.inr (.inl ((hDk.out k).2 e)), (UO.lt k e).2⟩
    · have hne : ¬ ((x.n : Int) = lsn) := by rename_i h; simpa using h
      refine ⟨C1, ⟨?_, n2.out, n3.out⟩, But.refl _ _, fun k hk => ⟨.inl hk, ?_⟩⟩
      · intro x' hx'
        rcases List.mem_append.1 hx' with h | h
        · exact i1.out x' h
        · rw [List.mem_singleton.1 h]; exact hne
      · rcases (n2.out.own k).1 hk with e | e | e | e
        · rw [e]; exact heap_lt n2.out.b1
        · rw [e]; exact heap_lt n2.out.b2
        · rw [e]; exact heap_lt n2.out.b3
        · simp [Value.ownBlock] at e
  case done =>
    rintro C2 W ⟨i1, i2, i3⟩ hK nD
    obtain rfl : F = (0, [], 0, 6) := by rw [← hF.out]; exact fndF_none i1
    obtain ⟨c0, c1, c2, c3, f0, f1, f2, f3⟩ := i2.cells
    obtain ⟨U, hU, FU, BU⟩ := i2.put (.int .i64 0) (.slice none 0 0) (.int .i64 0) (.int .i64 6)
    replace hU := hide hU
    replace FU := hide FU
    replace BU := hide BU
    replace hK := hide hK
    have hsz : w.heap.size + 7 ≤ W0.heap.size := by omega
    replace hs := hide hs
    clear i1 i2 i3 a0 a1 a2 a3 a4 a5 a6 HV0 hW0
    dsimp only
    go_wp2_with fail
    rw [hU.out]
    have hK2 := BU.out.at hK.out (by omega)
    refine ⟨by simp, .inl ⟨_, _, rfl, run_takeDeferred hK2, ?_⟩⟩
    have G := FU.out.but (But.putObj (X := fun k => k = W0.heap.size) U W0.heap.size (.deferred none) rfl) (fun k e => ⟨by omega, by rintro (h | h | h | h) <;> first | omega | simp [Value.ownBlock] at h⟩)
    clear c0 c1 c2 c3 f0 f1 f2 f3
    obtain ⟨k0, k1, k2, k3, -⟩ := G.cells
    exact ⟨_, by simp [results, Try.results11, go_sem, k0, k1, k2, k3], _, rfl, World.ownsRow_nil _ _ _ _, G.below⟩
  case stop =>
    rintro c pre C2 W hp ⟨rfl, p, x, u, rfl, i2, i3, i4, i5⟩ hK nD
    obtain rfl : F = (lsn, dat L x, (x.e : Int), 0) := by rw [← hF.out]; exact fndF_some hp i2 i3
    replace hK := hide hK
    have hsz : w.heap.size + 7 ≤ W0.heap.size := by omega
    replace hs := hide hs
    replace i4 := hide i4
    replace i5 := hide i5
    clear i2 i3 a0 a1 a2 a3 a4 a5 a6 HV0 hW0
    dsimp only
    go_wp2_with fail
    refine ⟨by simp, .inl ⟨_, _, rfl, run_takeDeferred hK.out, ?_⟩⟩
    have G := i4.out.but (But.putObj (X := fun k => k = W0.heap.size) W W0.heap.size (.deferred none) rfl) (fun k e => ⟨by omega, by rw [e]; exact nD⟩)
    have GO := owns_but i5.out (But.putObj (X := fun k => k = W0.heap.size) W W0.heap.size (.deferred none) rfl) (fun k hk e => nD (by rw [← e]; exact (i4.out.own k).2 (.inr (.inr (.inr hk)))))
    obtain ⟨k0, k1, k2, k3, -⟩ := G.cells
    exact ⟨_, by simp [results, Try.results11, go_sem, k0, k1, k2, k3], u, rfl, GO, G.below⟩

end Go.Proofs.Ytebhkdaefjmbnaa
