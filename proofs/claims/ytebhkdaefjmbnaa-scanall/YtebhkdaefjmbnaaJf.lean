/-
  What scan.Records answers.
-/
import Derived.Test.YtebhkdaefjmbnaaJe
import Derived.Maps.OwnIn
import Derived.Maps.AppendAt
namespace Go.Proofs.Ytebhkdaefjmbnaa
open Go.RowKit Go.Shelf
set_option maxRecDepth 100000
set_option linter.unusedVariables false
attribute [local go_sem] Oper.semAt_some

/-- Records as cells. -/
def rcells (ps : List (Sc × Value)) : List Value := ps.flatMap fun p => [.int .i64 (p.1.n : Int), p.2]
theorem rcells_snoc (ps : List (Sc × Value)) (x : Sc) (v : Value) : rcells (ps ++ [(x, v)]) = rcells ps ++ [.int .i64 (x.n : Int), v] := by simp [rcells]
theorem rcells_len (ps : List (Sc × Value)) : (rcells ps).length = ps.length * 2 := by
  induction ps with
  | nil => rfl
  | cons p r ih => rw [rcells, List.flatMap_cons, List.length_append, ← rcells, ih]; simp; omega
theorem owns_raise {w : World} {base b e size n : Nat} {v : Value} {xs : List Value} (h : w.ownsRow base e size v n xs) (hb : ∀ k, v.ownBlock = some k → b ≤ k) : w.ownsRow b e size v n xs := by
  refine ⟨h.1, ?_⟩
  rcases h.2 with h | ⟨g, cap, cur, rfl, hg, r⟩
  · exact .inl h
  · exact .inr ⟨g, cap, cur, rfl, hb g rfl, r⟩
theorem owns_but {X : Nat → Prop} {A B : World} {base e size n : Nat} {v : Value} {xs : List Value} (h : A.ownsRow base e size v n xs) (hb : But X A B) (hx : ∀ k, v.ownBlock = some k → ¬ X k) : B.ownsRow base e size v n xs := by
  refine ⟨h.1, ?_⟩
  rcases h.2 with h | ⟨g, cap, cur, rfl, hg, hh, r⟩
  · exact .inl h
  · exact .inr ⟨g, cap, cur, rfl, hg, hb.at hh (hx g rfl), r⟩
theorem owns_two {w : World} {b1 b2 e1 e2 s1 s2 n1 n2 : Nat} {v1 v2 : Value} {x1 x2 : List Value} (h1 : w.ownsRow b1 e1 s1 v1 n1 x1) (h2 : w.ownsRow b2 e2 s2 v2 n2 x2) (he : e1 ≠ e2) : ∀ k, v1.ownBlock = some k → v2.ownBlock ≠ some k := by
  rintro k k1 k2
  rcases h1.2 with ⟨rfl, _⟩ | ⟨g, cap, cur, rfl, hg, hh, r⟩
  · simp [Value.ownBlock] at k1
  rcases h2.2 with ⟨rfl, _⟩ | ⟨g', cap', cur', rfl, hg', hh', r'⟩
  · simp [Value.ownBlock] at k2
  simp [Value.ownBlock] at k1 k2
  subst k1 k2
  rw [hh] at hh'
  simp at hh'
  exact he hh'.2
theorem owns_no {w : World} {b base e size n : Nat} {v : Value} {xs : List Value} {cs : Array Value} {T : TypeId} {fz : Nat × Nat} (h : w.ownsRow base e size v n xs) (hb : w.heap[b]? = some (.cells cs T fz)) (hT : T ≠ e) : v.ownBlock ≠ some b := fun e1 => by
  rcases h.2 with ⟨rfl, _⟩ | ⟨g, cap, cur, rfl, hg, hh, r⟩
  · simp [Value.ownBlock] at e1
  · simp [Value.ownBlock] at e1
    subst e1
    rw [hb] at hh
    simp at hh
    exact hT hh.2.1
/-- What has been found: the variable's block fb holds the list vf of the records ps, each with data of its own. -/
structure Fnd (w0 : World) (L : List UInt8) (fb : Nat) (W : World) (C : Nat → Prop) (ps : List (Sc × Value)) (vf : Value) : Prop where
  box : W.heap[fb]? = some (.cells #[vf] 33 (0, 0))
  row : W.ownsRow w0.heap.size 41 2 vf ps.length (rcells ps)
  data : ∀ p ∈ ps, W.ownsRow w0.heap.size 5 1 p.2 (dat L p.1).length (bvals (dat L p.1))
  nodup : (ps.filterMap fun p => p.2.ownBlock).Nodup
  own : ∀ k, C k ↔ k = fb ∨ vf.ownBlock = some k ∨ ∃ p ∈ ps, p.2.ownBlock = some k
  below : Below w0.heap.size w0 W
theorem Fnd.lt {w0 : World} {L : List UInt8} {fb : Nat} {W : World} {C : Nat → Prop} {ps : List (Sc × Value)} {vf : Value} (h : Fnd w0 L fb W C ps vf) : ∀ k, C k → k < W.heap.size := by
  intro k hk
  rcases (h.own k).1 hk with rfl | hk | ⟨p, hp, hk⟩
  · exact heap_lt h.box
  · exact (h.row.lt k hk).2
  · exact ((h.data p hp).lt k hk).2
theorem Fnd.but {w0 : World} {L : List UInt8} {fb : Nat} {W W' : World} {C : Nat → Prop} {ps : List (Sc × Value)} {vf : Value} {X : Nat → Prop} (h : Fnd w0 L fb W C ps vf) (hb : But X W W') (hX : ∀ k, X k → w0.heap.size ≤ k ∧ ¬ C k) : Fnd w0 L fb W' C ps vf where
  box := hb.at h.box fun hx => (hX _ hx).2 ((h.own _).2 (.inl rfl))
  row := owns_but h.row hb fun k hk hx => (hX _ hx).2 ((h.own _).2 (.inr (.inl hk)))
  data := fun p hp => owns_but (h.data p hp) hb fun k hk hx => (hX _ hx).2 ((h.own _).2 (.inr (.inr ⟨p, hp, hk⟩)))
  nodup := h.nodup
  own := h.own
  below := h.below.trans (hb.below h.below.size fun k hx => (hX k hx).1)
theorem Try.infoRec : (Try.prog.info? 41).map (fun i => (i.zero, i.size, i.bytes)) = some (some (.agg #[.int .i64 0, .slice none 0 0]), 2, 32) := by kernel_rfl
/-- One more. -/
theorem Fnd.more {w0 : World} {L : List UInt8} {fb : Nat} {W w1 : World} {C : Nat → Prop} {ps : List (Sc × Value)} {vf vf' u : Value} {x : Sc} {o : Obj} (h : Fnd w0 L fb W C ps vf) (hfb : w0.heap.size ≤ fb)
    (hu : W.ownsRow w0.heap.size 5 1 u (dat L x).length (bvals (dat L x))) (hnu : ∀ k, u.ownBlock = some k → ¬ C k)
    (hg : (W.alloc o).grownBy w1 vf.ownBlock) (hrow : w1.ownsRow w0.heap.size 41 2 vf' (ps.length + 1) (rcells ps ++ [.int .i64 (x.n : Int), u])) (hat : vf'.ownBlock = vf.ownBlock ∨ vf'.ownBlock = some (W.alloc o).heap.size) :
    Fnd w0 L fb (w1.setCell ⟨fb, 0, none⟩ vf') (fun k => k = fb ∨ vf'.ownBlock = some k ∨ ∃ p ∈ ps ++ [(x, u)], p.2.ownBlock = some k) (ps ++ [(x, u)]) vf' ∧ w1.heap[fb]? = some (.cells #[vf] 33 (0, 0)) ∧ But C W (w1.setCell ⟨fb, 0, none⟩ vf') ∧ (∀ k, (k = fb ∨ vf'.ownBlock = some k ∨ ∃ p ∈ ps ++ [(x, u)], p.2.ownBlock = some k) → C k ∨ u.ownBlock = some k ∨ W.heap.size ≤ k) := by
  have hbx : w1.heap[fb]? = some (.cells #[vf] 33 (0, 0)) := by
    rw [hg.block fb (by have := heap_lt h.box; simp; omega) (fun e => owns_no h.row h.box (by decide) e.symm), Below.heap_alloc _ _ _ (heap_lt h.box)]
    exact h.box
  have b0 : But (fun k => vf.ownBlock = some k) W w1 := ((But.alloc W o _).trans (But.of_grownBy hg fun k e => e))
  have b1 : But (fun k => k = fb) w1 (w1.setCell ⟨fb, 0, none⟩ vf') := But.of_grownBy (grown_setCell _ _ _ _) fun k e => by cases e; rfl
  have data1 : ∀ (u' : Value) (n : Nat) (l : List Value), W.ownsRow w0.heap.size 5 1 u' n l → (w1.setCell ⟨fb, 0, none⟩ vf').ownsRow w0.heap.size 5 1 u' n l := fun u' n l ho =>
    owns_but (owns_but ho b0 (fun k hk => owns_two ho h.row (by decide) k hk)) b1 (fun k hk e => owns_no ho h.box (by decide) (by rw [← e]; exact hk))
  refine ⟨⟨?_, ?_, ?_, ?_, fun k => Iff.rfl, ?_⟩, hbx, ?_, ?_⟩
  · exact Boxed.set vf' hbx
  · rw [rcells_snoc, List.length_append]
    exact owns_but hrow b1 (fun k hk e => owns_no hrow hbx (by decide) (by rw [← e]; exact hk))
  · intro p hp
    rcases List.mem_append.1 hp with hp | hp
    · exact data1 _ _ _ (h.data p hp)
    · rw [List.mem_singleton.1 hp]; exact data1 _ _ _ hu
  · rw [List.filterMap_append, List.nodup_append]
    refine ⟨h.nodup, ?_, ?_⟩
    · cases hu' : u.ownBlock <;> simp [hu']
    · intro a ha b hb e
      subst e
      obtain ⟨p, hp, hpa⟩ := List.mem_filterMap.1 ha
      obtain ⟨q, hq, hqa⟩ := List.mem_filterMap.1 hb
      rw [List.mem_singleton.1 hq] at hqa
      exact hnu a hqa ((h.own a).2 (.inr (.inr ⟨p, hp, hpa⟩)))
  · refine (h.below.trans (b0.below h.below.size fun k hk => (h.row.lt k hk).1)).trans (b1.below ?_ fun k e => by rw [e]; exact hfb)
    exact Nat.le_trans h.below.size b0.size
  · exact (b0.mono fun k _ hk => (h.own k).2 (.inr (.inl hk))).trans (b1.mono fun k _ e => (h.own k).2 (.inl e))
  · rintro k (rfl | hk | ⟨p, hp, hk⟩)
    · exact .inl ((h.own _).2 (.inl rfl))
    · rcases hat with e | e
      · exact .inl ((h.own _).2 (.inr (.inl (by rw [← e]; exact hk))))
      · rw [e] at hk
        simp at hk
        exact .inr (.inr (by omega))
    · rcases List.mem_append.1 hp with hp | hp
      · exact .inl ((h.own _).2 (.inr (.inr ⟨p, hp, hk⟩)))
      · rw [List.mem_singleton.1 hp] at hk
        exact .inr (.inl hk)
theorem evP_len {L : List UInt8} {base : Int} {seed : Crc.R} {xs : List Sc} (h : EvP L base seed xs) : 16 * xs.length ≤ L.length := by
  rcases h with ⟨_, rfl⟩ | ⟨_, K, hK, rfl⟩
  · simp
  · have := good_e hK.1 (Nat.zero_le _)
    simp at this ⊢
    omega
theorem two_new (w : World) (a b : Value) (T : TypeId) : ∀ (j : Nat) (u : Value), [a, b][j]? = some u → (w.alloc (.cells #[a, b] T)).cell? ((⟨w.heap.size, 0, none⟩ : Addr).add j) = some u := by
  intro j u h
  rw [addr_add]
  match j with
  | 0 => simp at h; subst h; unfold World.cell?; rw [show (w.alloc (.cells #[a, b] T)).heap[(⟨w.heap.size, 0 + 0, none⟩ : Addr).block]? = _ from heap_alloc_new _ _]; rfl
  | 1 => simp at h; subst h; unfold World.cell?; rw [show (w.alloc (.cells #[a, b] T)).heap[(⟨w.heap.size, 0 + 1, none⟩ : Addr).block]? = _ from heap_alloc_new _ _]; rfl
  | j + 2 => simp at h
theorem owns_form {w : World} {base e size n : Nat} {v : Value} {xs : List Value} (h : w.ownsRow base e size v n xs) : ∃ ao ca, v = .slice ao n ca := by
  rcases h.2 with ⟨rfl, rfl⟩ | ⟨g, cap, cur, rfl, _⟩
  · exact ⟨_, _, rfl⟩
  · exact ⟨_, _, rfl⟩
theorem Fnd.not {w0 : World} {L : List UInt8} {fb : Nat} {W : World} {C : Nat → Prop} {ps : List (Sc × Value)} {vf : Value} (h : Fnd w0 L fb W C ps vf) {b : Nat} {cs : Array Value} {T : TypeId} {fz : Nat × Nat} (hb : W.heap[b]? = some (.cells cs T fz)) (h1 : b ≠ fb) (h2 : T ≠ 41) (h3 : T ≠ 5) : ¬ C b := fun hc => by
  rcases (h.own b).1 hc with e | e | ⟨p, hp, e⟩
  · exact h1 e
  · exact owns_no h.row hb h2 e
  · exact owns_no (h.data p hp) hb h3 e
/-- What Records answers: the list vf of the first records ps. -/
structure Recs (w0 : World) (L : List UInt8) (W : World) (ps : List (Sc × Value)) (vf : Value) : Prop where
  row : W.ownsRow w0.heap.size 41 2 vf ps.length (rcells ps)
  data : ∀ p ∈ ps, W.ownsRow w0.heap.size 5 1 p.2 (dat L p.1).length (bvals (dat L p.1))
  nodup : (ps.filterMap fun p => p.2.ownBlock).Nodup
  below : Below w0.heap.size w0 W
theorem Fnd.recs {w0 : World} {L : List UInt8} {fb : Nat} {W W' : World} {C : Nat → Prop} {ps : List (Sc × Value)} {vf : Value} (h : Fnd w0 L fb W C ps vf) {X : Nat → Prop} (hb : But X W W') (hX : ∀ k, X k → w0.heap.size ≤ k ∧ ¬ C k) : Recs w0 L W' ps vf :=
  let g := h.but hb hX
  ⟨g.row, g.data, g.nodup, g.below⟩

set_option maxHeartbeats 2000000 in
theorem records_any (w : World) (v : Value) (L : List UInt8) (base : Int) (seed : Crc.R) (most : Int) (xs : List Sc) (hx : EvP L base seed xs) (g0 : -9223372036854775808 ≤ base) (g1 : base ≤ 9223372036854775807) (hv : Sl w v L) (hL : L.length ≤ 1099511627776) :
    Calls Try.prog 8 #[v, .int .i64 base, .int .u32 (seed.toNat : Int), .int .i64 most] w fun e w' => ∃ ps vf, e = .returned vf ∧ ps.map (·.1) = xs.take most.toNat ∧ Recs w L w' ps vf := by
  have HV := hide hv
  obtain ⟨ao, ca, rfl, hrest⟩ := hv
  clear hrest
  have hxl := evP_len hx
  obtain ⟨nn, hnn⟩ : ∃ nn, Hid (L.length = nn) := ⟨_, rfl⟩
  rw [hnn.out] at HV hL hxl ⊢
  by_cases hm : most < 1
  · refine calls_marks Try.func8 rfl ?_
    simp only [Try.ntmps8, List.size_toArray, List.length_cons, List.length_nil, Nat.reduceAdd, Nat.reduceSub, Array.replicate_succ, Array.replicate_zero, List.push_toArray, List.append_toArray, List.nil_append, List.cons_append]
    go_wp2_with fail
    exact ⟨_, results_tmp rfl _ _ _, [], _, rfl, by rw [show most.toNat = 0 by omega]; rfl, ⟨World.ownsRow_nil _ _ _ _, by simp, by simp, (Below.refl _ w).alloc (Nat.le_refl _) _⟩⟩
  · obtain ⟨mo, rfl⟩ : ∃ mo : Nat, most = (mo : Int) := ⟨most.toNat, by omega⟩
    rw [Int.toNat_natCast]
    have hmo : 1 ≤ mo := by omega
    clear hm
    have hm : ¬ (mo : Int) < 1 := by omega
    refine calls_marks Try.func8 rfl ?_
    simp only [Try.ntmps8, List.size_toArray, List.length_cons, List.length_nil, Nat.reduceAdd, Nat.reduceSub, Array.replicate_succ, Array.replicate_zero, List.push_toArray, List.append_toArray, List.nil_append, List.cons_append]
    go_wp2_with (go_at_call 20; refine (places_any _ _ _ _ _ _).mono ?_; rintro e u ⟨rfl, rfl⟩)
    obtain ⟨W0, hW0, hs, a0, a1, a2, a3, a4, aB⟩ := heap5 w (.cells #[.int .i64 (mo : Int)] 3) (.cells #[.slice none 0 0] 33) (.cells #[.slice ao nn ca] 22) (.cells #[.int .i64 base] 2) (.cells #[.int .u32 (seed.toNat : Int)] 23)
    rw [hW0]
    have HV0 : Sl W0 (.slice ao nn ca) L := Below.sl aB HV.out
    have rlt : ∀ k, RdOf (w.heap.size + 1 + 1) (w.heap.size + 1 + 1 + 1) (w.heap.size + 1 + 1 + 1 + 1) (.slice ao nn ca) L k → k < W0.heap.size ∧ k ≠ w.heap.size + 1 := by
      rintro k (rfl | rfl | rfl | ⟨hl, hk⟩)
      · exact ⟨by omega, by omega⟩
      · exact ⟨by omega, by omega⟩
      · exact ⟨by omega, by omega⟩
      · have := HV.out.blk hl k hk
        exact ⟨by omega, by omega⟩
    refine wp_range (gf := 30) rfl (enters_of Try.func30 (by kernel_rfl) rfl) (places_seq W0 _ _ _ _ L base seed xs hx g0 g1 a2 a3 a4 HV0) (Nat.le_refl _) (fun k hk => ⟨rfl, (rlt k hk).1⟩)
      (fun x args W D h => by obtain ⟨v', rfl, _⟩ := h; rfl)
      (fun pre C W => ∃ ps vf, ps.map (·.1) = pre ∧ pre.length < mo ∧ Fnd w L (w.heap.size + 1) W C ps vf ∧ W.heap[w.heap.size]? = some (.cells #[.int .i64 (mo : Int)] 3 (0, 0)))
      (fun c pre C W => c = .exit 0 ∧ ∃ ps vf, ps.map (·.1) = pre ∧ pre.length = mo ∧ Fnd w L (w.heap.size + 1) W C ps vf) ?hI ?hIx (fun k => k = w.heap.size + 1) (fun k hk => ⟨fun h => (rlt k h).2 hk, by omega⟩)
      ⟨[], .slice none 0 0, rfl, by simp; omega, ⟨a1, World.ownsRow_nil _ _ _ _, by simp, by simp, fun k => by simp [Value.ownBlock], aB⟩, a0⟩ ?round ?done ?stop
    case hI =>
      rintro pre C A B ⟨ps, vf, i1, i2, i3, i4⟩ hb
      exact ⟨ps, vf, i1, i2, i3.but hb fun k hk => ⟨by omega, hk.2⟩, hb.at i4 (by omega)⟩
    case hIx =>
      rintro c pre C A B ⟨i0, ps, vf, i1, i2, i3⟩ hb
      exact ⟨i0, ps, vf, i1, i2, i3.but hb fun k hk => ⟨by omega, hk.2⟩⟩
    case round =>
      rintro m pre x rest C1 D args W1 hxs ⟨ps, vf, i1, i2, i3, i4⟩ ⟨u, rfl, ho, hDk⟩ hlt hD hl hlW nl nD
      have hpl : ps.length = pre.length := by rw [← i1, List.length_map]
      have hpx : pre.length < xs.length := by rw [hxs]; simp
      replace i1 := hide i1
      replace i3 := hide i3
      replace i4 := hide i4
      replace hD := hide hD
      replace hDk := hide hDk
      have ho' := hide (owns_raise ho (b := w.heap.size) fun k hk => by have := (hD.out k ((hDk.out k).2 hk)).2.1; omega)
      replace hxs := hide hxs
      clear a0 a1 a2 a3 a4 HV0 ho
      obtain ⟨dn, hdn⟩ : ∃ dn, Hid ((dat L x).length = dn) := ⟨_, rfl⟩
      rw [hdn.out] at ho'
      obtain ⟨ao', ca', rfl⟩ := own_slice ho'.out
      simp only [List.zip_toArray, List.zip_cons_cons, List.zip_nil_right, List.foldl_toArray, List.foldl_cons, List.foldl_nil]
      gi_wp2
      refine ⟨But.alloc _ _ _, ?_⟩
      intro Wb hWb hsb
      have sb : Wb.heap.size = W1.heap.size + 1 := by rw [hsb]; simp
      have n1 := hide (hWb.at (heap_alloc_new _ _) (by omega))
      have bW : Hid (But (fun k => k = m) W1 Wb) := (But.alloc _ _ _).trans hWb
      have n3 := hide (i3.out.but bW.out fun k e => ⟨by omega, by rw [e]; exact nl⟩)
      have n4 := hide (bW.out.at i4.out (by omega))
      have nO := hide (owns_but ho'.out bW.out fun k hk e => nD (by rw [← e]; exact (hDk.out k).2 hk))
      clear hWb hsb i3 i4 ho'
      obtain ⟨i0, hi, hz0, hz1, hz2⟩ := info_parts Try.infoRec
      have k0 : Wb.cell? ⟨W1.heap.size, 0, none⟩ = some (.int .i64 (x.n : Int)) := by simp [World.cell?, n1.out]
      have k1 : Wb.cell? ⟨W1.heap.size, 1, none⟩ = some (.slice ao' dn ca') := by simp [World.cell?, n1.out]
      have k2 : Wb.cell? ⟨w.heap.size + 1, 0, none⟩ = some vf := by simp [World.cell?, n3.out.box]
      obtain ⟨gv, cv, rfl⟩ := owns_form n3.out.row
      have nC := n3.out.not n4.out (by omega) (by decide) (by decide)
      have hnu : ∀ k, (Value.slice ao' dn ca').ownBlock = some k → ¬ C1 k := fun k hk => (hD.out k ((hDk.out k).2 hk)).1
      have nO' : Wb.ownsRow w.heap.size 5 1 (.slice ao' dn ca') (dat L x).length (bvals (dat L x)) := by rw [hdn.out]; exact nO.out
      have hsm : ps.length + 1 ≤ 1099511627776 := by omega
      obtain ⟨N, hN⟩ : ∃ N, Hid (ps.length = N) := ⟨_, rfl⟩
      have AL : Hid (∀ (o : Obj) (w1 : World) (vf' : Value), (Wb.alloc o).grownBy w1 (Value.slice gv N cv).ownBlock → w1.ownsRow w.heap.size 41 2 vf' (N + 1) (rcells ps ++ [.int .i64 (x.n : Int), .slice ao' dn ca']) → (vf'.ownBlock = (Value.slice gv N cv).ownBlock ∨ vf'.ownBlock = some (Wb.alloc o).heap.size) →
          Fnd w L (w.heap.size + 1) (w1.setCell ⟨w.heap.size + 1, 0, none⟩ vf') (fun k => k = w.heap.size + 1 ∨ vf'.ownBlock = some k ∨ ∃ p ∈ ps ++ [(x, .slice ao' dn ca')], p.2.ownBlock = some k) (ps ++ [(x, .slice ao' dn ca')]) vf' ∧ w1.heap[w.heap.size + 1]? = some (.cells #[.slice gv N cv] 33 (0, 0)) ∧ But C1 Wb (w1.setCell ⟨w.heap.size + 1, 0, none⟩ vf') ∧ (∀ k, (k = w.heap.size + 1 ∨ vf'.ownBlock = some k ∨ ∃ p ∈ ps ++ [(x, .slice ao' dn ca')], p.2.ownBlock = some k) → C1 k ∨ (Value.slice ao' dn ca').ownBlock = some k ∨ Wb.heap.size ≤ k)) := by
        rw [← hN.out]
        exact fun o w1 vf' h1 h2 h3 => n3.out.more (by omega) nO' hnu h1 h2 h3
      have ROW := hide n3.out.row
      rw [hN.out] at ROW k2 hsm hpl
      have hbw : w.heap.size ≤ Wb.heap.size := by omega
      replace nO' := hide nO'
      replace hnu := hide hnu
      replace nC := hide nC
      clear n3 nO n1 bW
      replace sb := hide sb
      replace hpl := hide hpl
      gi_wp2_with (gi_at_builtin; refine wpListIn_append_own_at _ rfl _ _ 33 rfl w.heap.size 41 i0 (.agg #[.int .i64 0, .slice none 0 0]) 2 32 Try.underlying33 hi hz0 hz1 hz2 rfl (by decide) _ N (rcells ps) rfl (ROW.out.alloc _) ⟨Wb.heap.size, 0, none⟩ 1 1 [.int .i64 (x.n : Int), .slice ao' dn ca'] rfl rfl (two_new _ _ _ _) (by simp [Value.oneCell']) (by unfold maxLen; omega) (by omega) (by simp; omega) ?_; intro vf' w1 hown' hgrow _ hat; obtain ⟨g', cap', rfl⟩ := ownsRow_succ hown'; obtain ⟨F1, F2, F3, F4⟩ := AL.out _ _ _ hgrow hown' hat; have hc1 := Boxed.cell F2; have hf1 := Boxed.frozen F2; have hc2 := Boxed.cell F1.box; have hc3 := Boxed.cell (F3.at n4.out nC.out); replace F1 := hide F1; replace F2 := hide F2; replace F3 := hide F3; replace F4 := hide F4)
      · have heq : (N : Int) + 1 = (mo : Int) := by rename_i h; simpa using h
        refine ⟨_, ⟨rfl, _, _, ?_, ?_, F1.out⟩, F3.out, fun k hk => ⟨?_, F1.out.lt k hk⟩⟩
        · rw [List.map_append, i1.out]; rfl
        · have := hpl.out; simp; omega
        · rcases F4.out k hk with h | h | h
          · exact .inl h
          · exact .inr (.inl ((hDk.out k).2 h))
          · have := sb.out; exact .inr (.inr (by omega))
      · have hne : ¬ ((N : Int) + 1 = (mo : Int)) := by rename_i h; simpa using h
        refine ⟨_, ⟨_, _, ?_, ?_, F1.out, F3.out.at n4.out nC.out⟩, F3.out, fun k hk => ⟨?_, F1.out.lt k hk⟩⟩
        · rw [List.map_append, i1.out]; rfl
        · have := hpl.out; simp; omega
        · rcases F4.out k hk with h | h | h
          · exact .inl h
          · exact .inr (.inl ((hDk.out k).2 h))
          · have := sb.out; exact .inr (.inr (by omega))
    case done =>
      rintro C2 W ⟨ps, vf, i1, i2, i3, i4⟩ hK nD
      have c0 := Boxed.cell i3.box
      obtain ⟨gv, cv, rfl⟩ := owns_form i3.row
      replace i1 := hide i1
      replace i3 := hide i3
      replace hK := hide hK
      have hs' := hide hs
      have hsz : w.heap.size ≤ W0.heap.size := by omega
      clear i4 a0 a1 a2 a3 a4 HV0 hW0 hs
      dsimp only
      go_wp2_with fail
      refine ⟨by simp, .inl ⟨_, _, rfl, run_takeDeferred hK.out, ?_⟩⟩
      exact ⟨_, results_tmp rfl _ _ _, ps, _, rfl, by rw [i1.out, List.take_of_length_le (by omega)], i3.out.recs (But.putObj (X := fun k => k = W0.heap.size) _ _ _ rfl) (fun k e => ⟨by rw [e]; exact hsz, by rw [e]; exact nD⟩)⟩
    case stop =>
      rintro c pre C2 W hp ⟨rfl, ps, vf, i1, i2, i3⟩ hK nD
      have c0 := Boxed.cell i3.box
      obtain ⟨gv, cv, rfl⟩ := owns_form i3.row
      replace i1 := hide i1
      replace i3 := hide i3
      replace hK := hide hK
      have hs' := hide hs
      have hsz : w.heap.size ≤ W0.heap.size := by omega
      have htk : Hid (pre = xs.take mo) := by
        obtain ⟨t, ht⟩ := hp
        show _ = _
        rw [← ht, ← i2, List.take_left']; rfl
      clear a0 a1 a2 a3 a4 HV0 hW0 hs hp i2
      dsimp only
      go_wp2_with fail
      refine ⟨by simp, .inl ⟨_, _, rfl, run_takeDeferred hK.out, ?_⟩⟩
      exact ⟨_, results_tmp rfl _ _ _, ps, _, rfl, by rw [i1.out, htk.out], i3.out.recs (But.putObj (X := fun k => k = W0.heap.size) _ _ _ rfl) (fun k e => ⟨by rw [e]; exact hsz, by rw [e]; exact nD⟩)⟩

end Go.Proofs.Ytebhkdaefjmbnaa
