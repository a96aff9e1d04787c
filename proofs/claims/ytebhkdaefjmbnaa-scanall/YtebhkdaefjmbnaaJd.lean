/-
  What scan.Over answers.
-/
import Derived.Test.YtebhkdaefjmbnaaJc
namespace Go.Proofs.Ytebhkdaefjmbnaa
open Go.RowKit Go.Shelf
set_option maxRecDepth 100000
attribute [local go_sem] Oper.semAt_some

theorem calls_marks {P : Program} {f : FuncId} {fn : Func} {c : Code} {args : Array Value} {w : World} {R : Ending → World → Prop} (hf : P.funcs[f]? = some fn) (hb : fn.body = some c)
    (h : c.wp P (bodyPostM Fence.wide 0 P fn R) { tmps := args ++ Array.replicate (fn.ntmps - args.size) undef, defers := [] } w) : Calls P f args w R :=
  callsIn_wide.1 (callsIn_of_wp_marks (n := 0) hf hb trivial ((wpIn_wide (n := 0)).2 h) rfl)

/-- The last one's cells. -/
def lastc (L : List UInt8) (xs : List Sc) : Array Value := match xs.getLast? with
  | none => #[.int .i64 0, .int .i64 0, .int .i64 0, .int .u32 0, .int .i64 0]
  | some x => scc x (whyS L x)
theorem lastc_nil (L : List UInt8) : lastc L [] = #[.int .i64 0, .int .i64 0, .int .i64 0, .int .u32 0, .int .i64 0] := rfl
theorem lastc_snoc (L : List UInt8) (xs : List Sc) (x : Sc) : lastc L (xs ++ [x]) = scc x (whyS L x) := by simp [lastc]

theorem lastc_form (L : List UInt8) (xs : List Sc) : ∃ z0 z1 z2 z3 z4 : Int, lastc L xs = #[.int .i64 z0, .int .i64 z1, .int .i64 z2, .int .u32 z3, .int .i64 z4] := by
  unfold lastc
  split
  · exact ⟨_, _, _, _, _, rfl⟩
  · exact ⟨_, _, _, _, _, rfl⟩
/-- What a block of five cells says. -/
theorem five {w : World} {b : Nat} {z0 z1 z2 z3 z4 : Value} {T : TypeId} (h : w.heap[b]? = some (.cells #[z0, z1, z2, z3, z4] T (0, 0))) :
    w.cell? ⟨b, 0, none⟩ = some z0 ∧ w.cell? ⟨b, 1, none⟩ = some z1 ∧ w.cell? ⟨b, 2, none⟩ = some z2 ∧ w.cell? ⟨b, 3, none⟩ = some z3 ∧ w.cell? ⟨b, 4, none⟩ = some z4 ∧ w.frozen? ⟨b, 0, none⟩ = false ∧ w.frozen? ⟨b, 1, none⟩ = false ∧ w.frozen? ⟨b, 2, none⟩ = false ∧ w.frozen? ⟨b, 3, none⟩ = false ∧ w.frozen? ⟨b, 4, none⟩ = false := by
  simp [World.cell?, World.frozen?, h]
theorem heap5 (w : World) (o0 o1 o2 o3 o4 : Obj) : ∃ W, ((((w.alloc o0).alloc o1).alloc o2).alloc o3).alloc o4 = W ∧ W.heap.size = w.heap.size + 5 ∧ W.heap[w.heap.size]? = some o0 ∧ W.heap[w.heap.size + 1]? = some o1 ∧ W.heap[w.heap.size + 1 + 1]? = some o2 ∧ W.heap[w.heap.size + 1 + 1 + 1]? = some o3 ∧ W.heap[w.heap.size + 1 + 1 + 1 + 1]? = some o4 ∧ Below w.heap.size w W := by
  obtain ⟨a, b, c⟩ := heap3 w o0 o1 o2
  have hs : (((w.alloc o0).alloc o1).alloc o2).heap.size = w.heap.size + 1 + 1 + 1 := by simp
  have hB := (((Below.refl _ w).alloc (Nat.le_refl _) o0).alloc (by simp) o1).alloc (by simp; omega) o2
  revert a b c hs hB
  generalize ((w.alloc o0).alloc o1).alloc o2 = u
  intro a b c hs hB
  refine ⟨_, rfl, by simp [hs], ?_, ?_, ?_, ?_, ?_, (hB.alloc (by omega) o3).alloc (by simp; omega) o4⟩
  · rw [Below.heap_alloc _ _ _ (by simp; omega), Below.heap_alloc _ _ _ (by omega)]; exact a
  · rw [Below.heap_alloc _ _ _ (by simp; omega), Below.heap_alloc _ _ _ (by omega)]; exact b
  · rw [Below.heap_alloc _ _ _ (by simp; omega), Below.heap_alloc _ _ _ (by omega)]; exact c
  · rw [Below.heap_alloc _ _ _ (by simp; omega), ← hs]; exact heap_alloc_new _ _
  · have := heap_alloc_new (u.alloc o3) o4; rwa [World.size_alloc, hs] at this

set_option maxHeartbeats 2000000 in
theorem over_any (w : World) (v : Value) (L : List UInt8) (base : Int) (seed : Crc.R) (xs : List Sc) (hx : EvS L base seed xs) (g0 : -9223372036854775808 ≤ base) (g1 : base ≤ 9223372036854775807) (hv : Sl w v L) :
    Calls Try.prog 7 #[v, .int .i64 base, .int .u32 (seed.toNat : Int)] w fun e w' => e = .returned (.agg (lastc L xs)) ∧ Below w.heap.size w w' := by
  have HV := hide hv
  obtain ⟨ao, ca, rfl, hrest⟩ := hv
  clear hrest
  obtain ⟨nn, hnn⟩ : ∃ nn, Hid (L.length = nn) := ⟨_, rfl⟩
  obtain ⟨LV, hLV⟩ : ∃ LV, Hid (lastc L xs = LV) := ⟨_, rfl⟩
  rw [hnn.out] at HV ⊢
  rw [hLV.out]
  refine calls_marks Try.func7 rfl ?_
  simp only [Try.ntmps7, List.size_toArray, List.length_cons, List.length_nil, Nat.reduceAdd, Nat.reduceSub, Array.replicate_succ, Array.replicate_zero, List.push_toArray, List.append_toArray, List.nil_append, List.cons_append]
  go_wp2_with (go_at_call 19; refine (steps_any _ _ _ _ _ _).mono ?_; rintro e u ⟨rfl, rfl⟩)
  obtain ⟨W0, hW0, hs, a0, a1, a2, a3, a4, aB⟩ := heap5 w (.cells #[.int .i64 0, .int .i64 0, .int .i64 0, .int .u32 0, .int .i64 0] 28) (.cells #[.int .i64 0, .int .i64 0, .int .i64 0, .int .u32 0, .int .i64 0] 28) (.cells #[.slice ao nn ca] 22) (.cells #[.int .i64 base] 2) (.cells #[.int .u32 (seed.toNat : Int)] 23)
  rw [hW0]
  have HV0 : Sl W0 (.slice ao nn ca) L := Below.sl aB HV.out
  have rlt : ∀ k, RdOf (w.heap.size + 1 + 1 + 1) (w.heap.size + 1 + 1 + 1 + 1) (w.heap.size + 1 + 1) (.slice ao nn ca) L k → k < W0.heap.size ∧ k ≠ w.heap.size + 1 := by
    rintro k (rfl | rfl | rfl | ⟨hl, hk⟩)
    · exact ⟨by omega, by omega⟩
    · exact ⟨by omega, by omega⟩
    · exact ⟨by omega, by omega⟩
    · have := HV.out.blk hl k hk
      exact ⟨by omega, by omega⟩
  refine wp_range (gf := 28) rfl (enters_of Try.func28 (by kernel_rfl) rfl) (steps_seq W0 _ _ _ _ L base seed xs hx g0 g1 a3 a4 a2 HV0) (Nat.le_refl _) (fun k hk => ⟨rfl, (rlt k hk).1⟩)
    (fun x args W D h => by obtain ⟨v', rfl, _⟩ := h; rfl)
    (fun pre C W => (∀ k, C k ↔ k = w.heap.size + 1) ∧ W.heap[w.heap.size + 1]? = some (.cells (lastc L pre) 28 (0, 0)) ∧ W.heap[w.heap.size]? = some (.cells #[.int .i64 0, .int .i64 0, .int .i64 0, .int .u32 0, .int .i64 0] 28 (0, 0)) ∧ Below w.heap.size w W)
    (fun _ _ _ _ => False) ?hI (fun _ _ _ _ _ h _ => h) (fun k => k = w.heap.size + 1) (fun k hk => ⟨fun h => (rlt k h).2 hk, by omega⟩) ⟨fun k => Iff.rfl, a1, a0, aB⟩ ?round ?done ?stop
  case hI =>
    rintro pre C A B ⟨h1, h2, h3, h4⟩ hb
    exact ⟨h1, hb.at h2 (by omega), hb.at h3 (by omega), h4.trans (hb.below (Nat.le_trans (by omega) h4.size) (fun k hk => by omega))⟩
  case round =>
    rintro l pre x rest C1 D args W1 hxs ⟨i1, i2, i3, i4⟩ ⟨v', rfl, ho, hDk⟩ hlt hD hl hlW nl nD
    have HI2 := hide i2
    have HI3 := hide i3
    have HI4 := hide i4
    have HI1 := hide i1
    clear i2 i3 i4 i1 HV a0 a1 a2 a3 a4 hD hDk ho
    obtain ⟨y1, hy1⟩ : ∃ y, Hid (whyS L x = y) := ⟨_, rfl⟩
    rw [hy1.out]
    unfold scv
    simp only [List.zip_toArray, List.zip_cons_cons, List.zip_nil_right, List.foldl_toArray, List.foldl_cons, List.foldl_nil]
    gi_wp2
    refine ⟨But.alloc _ _ _, ?_⟩
    intro Wb hWb hsb
    obtain ⟨z0, z1, z2, z3, z4, hz⟩ := lastc_form L pre
    have n1 := hide (hWb.at (heap_alloc_new _ _) (by omega))
    have n2 : Hid (Wb.heap[w.heap.size + 1]? = some (.cells #[.int .i64 z0, .int .i64 z1, .int .i64 z2, .int .u32 z3, .int .i64 z4] 28 (0, 0))) := by
      rw [← hz]
      exact hWb.at ((Below.heap_alloc _ _ _ (heap_lt HI2.out)).trans HI2.out) (by omega)
    have n3 := hide (hWb.at ((Below.heap_alloc _ _ _ (heap_lt HI3.out)).trans HI3.out) (by omega))
    have n4 : Hid (Below w.heap.size w Wb) := (HI4.out.alloc HI4.out.size _).trans (hWb.below (by have := HI4.out.size; simp; omega) (fun k e => by omega))
    clear HI2 HI3 HI4 hWb hz hW0 HV0
    obtain ⟨k0, k1, k2, k3, k4, -, -, -, -, -⟩ := five n1.out
    obtain ⟨m0, m1, m2, m3, m4, f0, f1, f2, f3, f4⟩ := five n2.out
    gi_wp2
    refine ⟨C1, ⟨HI1.out, ?_, ?_, ?_⟩, ?_, fun k hk => ⟨.inl hk, ?_⟩⟩
    · rw [lastc_snoc, hy1.out]; exact put5_heap n2.out _ _ _ _ _
    · exact (put5_other _ _ _ _ _ _ _ _ (by omega)).trans n3.out
    · exact n4.out.grown (put5_grown _ _ _ _ _ _ _) n4.out.size (fun k e => by cases e; omega)
    · exact But.of_grownBy (put5_grown _ _ _ _ _ _ _) (fun k e => by cases e; exact (HI1.out _).2 rfl)
    · have := heap_lt n2.out
      have e := (HI1.out k).1 hk
      refine Nat.lt_of_lt_of_le ?_ (put5_grown _ _ _ _ _ _ _).size
      omega
  case done =>
    rintro C2 W ⟨i1, i2, i3, i4⟩ hK nD
    obtain ⟨z0, z1, z2, z3, z4, hz⟩ := lastc_form L xs
    rw [hz] at i2
    obtain rfl : LV = #[.int .i64 z0, .int .i64 z1, .int .i64 z2, .int .u32 z3, .int .i64 z4] := by rw [← hLV.out, hz]
    dsimp only
    have HI2 := hide i2
    have HI3 := hide i3
    have HI4 := hide i4
    have HK := hide hK
    clear i1 i2 i3 i4 hK HV a0 a1 a2 a3 a4 hW0 HV0
    obtain ⟨m0, m1, m2, m3, m4, -, -, -, -, -⟩ := five HI2.out
    obtain ⟨k0, k1, k2, k3, k4, f0, f1, f2, f3, f4⟩ := five HI3.out
    go_wp2_with fail
    have h5 := put5_heap HI3.out (.int .i64 z0) (.int .i64 z1) (.int .i64 z2) (.int .u32 z3) (.int .i64 z4)
    have hB := HI4.out.grown (put5_grown W w.heap.size (.int .i64 z0) (.int .i64 z1) (.int .i64 z2) (.int .u32 z3) (.int .i64 z4)) HI4.out.size (fun k e => by cases e; omega)
    have hK5 := (put5_other W w.heap.size W0.heap.size (.int .i64 z0) (.int .i64 z1) (.int .i64 z2) (.int .u32 z3) (.int .i64 z4) (by omega)).trans HK.out
    unfold put5 put2 at h5 hB hK5
    refine ⟨by simp, .inl ⟨_, _, rfl, run_takeDeferred hK5, ?_⟩⟩
    clear k0 k1 k2 k3 k4 f0 f1 f2 f3 f4 m0 m1 m2 m3 m4
    have h6 := (World.putObj_heap_other (o := .deferred none) (show w.heap.size ≠ W0.heap.size by omega)).trans h5
    have hB6 := hB.trans (belowK_b (w := w) (Nat.le_refl _) _ W0.heap.size _ (.deferred none) (by omega) hK5 rfl rfl)
    obtain ⟨k0, k1, k2, k3, k4, -, -, -, -, -⟩ := five h6
    exact ⟨_, by simp [results, Try.results7, go_sem, k0, k1, k2, k3, k4], rfl, hB6⟩
  case stop => exact fun _ _ _ _ _ h => h.elim

end Go.Proofs.Ytebhkdaefjmbnaa
