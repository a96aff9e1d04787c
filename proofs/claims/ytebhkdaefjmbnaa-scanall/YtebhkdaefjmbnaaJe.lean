/-
  scan.places: its iterator's contract, out of that of scan.steps.
-/
import Derived.Test.YtebhkdaefjmbnaaJd
namespace Go.Proofs.Ytebhkdaefjmbnaa
open Go.RowKit Go.Shelf
set_option maxRecDepth 100000
attribute [local go_sem] Oper.semAt_some

theorem places_any (w : World) (ao : Option Addr) (nn ca : Nat) (base : Int) (seed : Crc.R) :
    Calls Try.prog 20 #[.slice ao nn ca, .int .i64 base, .int .u32 (seed.toNat : Int)] w fun e w' =>
      e = .returned (.func (.func 30) #[] #[.pointer (some ⟨w.heap.size, 0, none⟩), .pointer (some ⟨w.heap.size + 1, 0, none⟩), .pointer (some ⟨w.heap.size + 1 + 1, 0, none⟩)]) ∧
      w' = ((w.alloc (.cells #[.slice ao nn ca] 22)).alloc (.cells #[.int .i64 base] 2)).alloc (.cells #[.int .u32 (seed.toNat : Int)] 23) := by
  have hmf : ∀ (fn : Fn) (first cap : Array Value) (w : World), (Instr.makeFunc fn first cap).run Try.prog w = .ok (.func fn first cap) w := fun _ _ _ _ => rfl
  go_enter Try.func20, Try.ntmps20
  go_wp2_with fail
  go_ret
  exact ⟨rfl, rfl⟩

/-- How what places hands over lies in memory. -/
def RepP (L : List UInt8) (x : Sc) (args : Array Value) (W : World) (D : Nat → Prop) : Prop :=
  ∃ v, args = #[.int .i64 (x.e : Int), .agg #[.int .i64 (x.n : Int), v]] ∧ W.ownsRow 0 5 1 v (dat L x).length (bvals (dat L x)) ∧ (∀ k, D k ↔ v.ownBlock = some k)
theorem heap4 (w : World) (o0 o1 o2 o3 : Obj) : ∃ W, (((w.alloc o0).alloc o1).alloc o2).alloc o3 = W ∧ W.heap.size = w.heap.size + 4 ∧ W.heap[w.heap.size]? = some o0 ∧ W.heap[w.heap.size + 1]? = some o1 ∧ W.heap[w.heap.size + 1 + 1]? = some o2 ∧ W.heap[w.heap.size + 1 + 1 + 1]? = some o3 ∧ Below w.heap.size w W := by
  obtain ⟨a, b, c⟩ := heap3 w o0 o1 o2
  have hs : (((w.alloc o0).alloc o1).alloc o2).heap.size = w.heap.size + 1 + 1 + 1 := by simp
  have hB := (((Below.refl _ w).alloc (Nat.le_refl _) o0).alloc (by simp) o1).alloc (by simp; omega) o2
  revert a b c hs hB
  generalize ((w.alloc o0).alloc o1).alloc o2 = u
  intro a b c hs hB
  refine ⟨_, rfl, by simp [hs], ?_, ?_, ?_, ?_, hB.alloc (by omega) o3⟩
  · rw [Below.heap_alloc _ _ _ (by omega)]; exact a
  · rw [Below.heap_alloc _ _ _ (by omega)]; exact b
  · rw [Below.heap_alloc _ _ _ (by omega)]; exact c
  · rw [← hs]; exact heap_alloc_new _ _
/-- The lists that steps and places go over. -/
theorem evS_of {L : List UInt8} {base : Int} {seed : Crc.R} {xs : List Sc} (h : EvP L base seed xs) : ∃ ys, EvS L base seed ys ∧ ((∀ x ∈ ys, whyS L x = 0) → ys = xs) ∧
    (∀ pre x rest, ys = pre ++ x :: rest → (whyS L x = 0 → xs = pre ++ x :: xs.drop (pre.length + 1)) ∧ (whyS L x ≠ 0 → pre = xs)) := by
  rcases h with ⟨h, rfl⟩ | ⟨h, K, hK, rfl⟩
  · exact ⟨[], .inl ⟨h, rfl⟩, fun _ => rfl, fun pre x rest e => by simp at e⟩
  · refine ⟨_, .inr ⟨h, K, hK, rfl⟩, fun ha => absurd (ha _ (List.mem_map_of_mem (f := Sst L ⟨0, 0, base.toNat, seed⟩) (show K ∈ List.range (K + 1) by simp))) hK.2, ?_⟩
    intro pre x rest e
    have hl : pre.length < K + 1 := by
      have := congrArg List.length e
      simp at this; omega
    have e2 := list_at (Sst L ⟨0, 0, base.toNat, seed⟩) hl
    have e3 : pre = ((List.range (K + 1)).map (Sst L ⟨0, 0, base.toNat, seed⟩)).take pre.length ∧ x = Sst L ⟨0, 0, base.toNat, seed⟩ pre.length := by
      rw [e] at e2
      have h1 := List.append_inj e2 (by rw [← e]; simp; omega)
      refine ⟨?_, (List.cons.inj h1.2).1⟩
      rw [e]; simp
    have tk : ((List.range (K + 1)).map (Sst L ⟨0, 0, base.toNat, seed⟩)).take pre.length = ((List.range K).map (Sst L ⟨0, 0, base.toNat, seed⟩)).take pre.length := by
      rw [List.range_succ, List.map_append, List.take_append_of_le_length (by simp; omega)]
    constructor
    · intro hw
      have hlt : pre.length < K := by
        by_cases e4 : pre.length = K
        · exfalso; apply hK.2; rw [← e4, ← e3.2]; exact hw
        · omega
      have e5 := list_at (Sst L ⟨0, 0, base.toNat, seed⟩) hlt
      rw [← tk, ← e3.1, ← e3.2] at e5
      exact e5
    · intro hw
      have hlt : pre.length = K := by
        by_cases e4 : pre.length < K
        · exfalso; apply hw; rw [e3.2]; exact hK.1 _ e4
        · omega
      rw [e3.1, tk, List.take_of_length_le (by simp; omega)]

set_option maxHeartbeats 2000000 in
theorem places_seq (w : World) (b1 b2 b3 : Nat) (v : Value) (L : List UInt8) (base : Int) (seed : Crc.R) (xs : List Sc) (hx : EvP L base seed xs) (g0 : -9223372036854775808 ≤ base) (g1 : base ≤ 9223372036854775807)
    (h1 : w.heap[b1]? = some (.cells #[v] 22 (0, 0))) (h2 : w.heap[b2]? = some (.cells #[.int .i64 base] 2 (0, 0))) (h3 : w.heap[b3]? = some (.cells #[.int .u32 (seed.toNat : Int)] 23 (0, 0))) (hv : Sl w v L) :
    Seq Try.prog 30 #[.pointer (some ⟨b1, 0, none⟩), .pointer (some ⟨b2, 0, none⟩), .pointer (some ⟨b3, 0, none⟩)] xs (RepP L) (RdOf b1 b2 b3 v L) w := by
  intro l J Jx C W hsz hRd hC hJ hJx hY h0
  refine callsIn_wide.2 ?_
  have c1 : W.cell? ⟨b1, 0, none⟩ = some v := by rw [World.cell?_of_block (hRd b1 (.inl rfl))]; simp [World.cell?, h1]
  have c2 : W.cell? ⟨b2, 0, none⟩ = some (.int .i64 base) := by rw [World.cell?_of_block (hRd b2 (.inr (.inl rfl)))]; simp [World.cell?, h2]
  have c3 : W.cell? ⟨b3, 0, none⟩ = some (.int .u32 (seed.toNat : Int)) := by rw [World.cell?_of_block (hRd b3 (.inr (.inr (.inl rfl))))]; simp [World.cell?, h3]
  have lt1 : b1 ≠ W.heap.size := by have := lt_of_cell c1; simp at this; omega
  have lt2 : b2 ≠ W.heap.size := by have := lt_of_cell c2; simp at this; omega
  have lt3 : b3 ≠ W.heap.size := by have := lt_of_cell c3; simp at this; omega
  have HV : Hid (Sl W v L) := hv.keep fun k hl hk => hRd k (.inr (.inr (.inr ⟨hl, hk⟩)))
  replace c1 := (World.cell?_of_block (a := ⟨b1, 0, none⟩) (Below.heap_alloc W (.cells #[.func (.yield l) #[] #[]] 70) b1 (lt_of_cell c1))).trans c1
  replace c2 := (World.cell?_of_block (a := ⟨b2, 0, none⟩) (Below.heap_alloc W (.cells #[.func (.yield l) #[] #[]] 70) b2 (lt_of_cell c2))).trans c2
  replace c3 := (World.cell?_of_block (a := ⟨b3, 0, none⟩) (Below.heap_alloc W (.cells #[.func (.yield l) #[] #[]] 70) b3 (lt_of_cell c3))).trans c3
  replace hC := hide hC
  replace hJ := hide hJ
  replace hJx := hide hJx
  replace hY := hide hY
  obtain ⟨ys, hys, hall, hpre⟩ := evS_of hx
  obtain ⟨ao, ca, hvv, -⟩ := id HV.out
  obtain ⟨nn, hnn⟩ : ∃ nn, Hid (L.length = nn) := ⟨_, rfl⟩
  rw [hnn.out] at hvv
  subst hvv
  clear h1 h2 h3 hv hRd hsz lt1 lt2 lt3
  refine calls_marks Try.func30 rfl ?_
  simp only [Try.ntmps30, List.size_toArray, List.length_cons, List.length_nil, Nat.reduceAdd, Nat.reduceSub, Array.replicate_succ, Array.replicate_zero, List.push_toArray, List.append_toArray, List.nil_append, List.cons_append]
  go_wp2_with (go_at_call 19; refine (steps_any _ _ _ _ _ _).mono ?_; rintro e u ⟨rfl, rfl⟩)
  obtain ⟨W0, hW0, hs, a0, a1, a2, a3, aB⟩ := heap4 W (.cells #[.func (.yield l) #[] #[]] 70) (.cells #[.slice ao nn ca] 22) (.cells #[.int .i64 base] 2) (.cells #[.int .u32 (seed.toNat : Int)] 23)
  rw [hW0]
  have HV0 : Sl W0 (.slice ao nn ca) L := Below.sl aB HV.out
  have rlt : ∀ k, RdOf (W.heap.size + 1 + 1) (W.heap.size + 1 + 1 + 1) (W.heap.size + 1) (.slice ao nn ca) L k → k < W0.heap.size ∧ ¬ C k := by
    rintro k (rfl | rfl | rfl | ⟨hl, hk⟩)
    · exact ⟨by omega, fun h => by have := (hC.out _ h).2; omega⟩
    · exact ⟨by omega, fun h => by have := (hC.out _ h).2; omega⟩
    · exact ⟨by omega, fun h => by have := (hC.out _ h).2; omega⟩
    · have := HV.out.blk hl k hk
      exact ⟨by omega, fun h => (hC.out _ h).1 (.inr (.inr (.inr ⟨hl, hk⟩)))⟩
  refine wp_range (gf := 28) rfl (enters_of Try.func28 (by kernel_rfl) rfl) (steps_seq W0 _ _ _ _ L base seed ys hys g0 g1 a2 a3 a1 HV0) (Nat.le_refl _) (fun k hk => ⟨rfl, (rlt k hk).1⟩)
    (fun x args W D h => by obtain ⟨v', rfl, _⟩ := h; rfl)
    (fun pre C1 W1 => J pre C1 W1 ∧ (∀ x ∈ pre, whyS L x = 0) ∧ ¬ C1 W.heap.size ∧ W1.heap[W.heap.size]? = some (.cells #[.func (.yield l) #[] #[]] 70 (0, 0)) ∧ W0.heap.size ≤ W1.heap.size ∧ (∀ k, C1 k → k < W1.heap.size))
    (fun c pre C1 W1 => c = .ret ∧ ((∃ C2, J xs C2 W1 ∧ ∀ k, C2 k → C1 k) ∨ (∃ p C2, p <+: xs ∧ Jx p C2 W1 ∧ ∀ k, C2 k → C1 k))) ?hI ?hIx C (fun k hk => ⟨fun h => (rlt k h).2 hk, by have := (hC.out _ hk).2; omega⟩)
    ⟨hJ.out _ _ _ _ h0 (But.of_below aB _), by simp, fun h => absurd (hC.out _ h).2 (Nat.lt_irrefl _), a0, Nat.le_refl _, fun k hk => by have := (hC.out _ hk).2; omega⟩ ?round ?done ?stop
  case hI =>
    rintro pre C1 A B ⟨i1, i2, i3, i4, i5, i6⟩ hb
    exact ⟨hJ.out _ _ _ _ i1 (hb.mono fun k _ h => ⟨by omega, h.2⟩), i2, i3, hb.at i4 (by omega), Nat.le_trans i5 hb.size, fun k hk => Nat.lt_of_lt_of_le (i6 k hk) hb.size⟩
  case hIx =>
    rintro c pre C1 A B ⟨rfl, (⟨C2, i1, i2⟩ | ⟨p, C2, i0, i1, i2⟩)⟩ hb
    · exact ⟨rfl, .inl ⟨C2, hJ.out _ _ _ _ i1 (hb.mono fun k _ h => ⟨by omega, fun h' => h.2 (i2 k h')⟩), i2⟩⟩
    · exact ⟨rfl, .inr ⟨p, C2, i0, hJx.out _ _ _ _ i1 (hb.mono fun k _ h => ⟨by omega, fun h' => h.2 (i2 k h')⟩), i2⟩⟩
  case round =>
    rintro m pre x rest C1 D args W1 hxs ⟨i1, i2, i3, i4, i5, i6⟩ ⟨v', rfl, ho, hDk⟩ hlt hD hl hlW nl nD
    obtain ⟨p1, p2⟩ := hpre pre x rest hxs
    replace i1 := hide i1
    replace i2 := hide i2
    replace i3 := hide i3
    replace i4 := hide i4
    replace i5 := hide i5
    replace i6 := hide i6
    replace p1 := hide p1
    replace p2 := hide p2
    replace hD := hide hD
    replace hDk := hide hDk
    replace ho := hide ho
    replace hxs := hide hxs
    clear c1 c2 c3 a0 a1 a2 a3 HV0
    obtain ⟨y1, hy1⟩ : ∃ y, Hid (whyS L x = y) := ⟨_, rfl⟩
    obtain ⟨rl, rd, hR⟩ : ∃ rl rd, Hid (recS L x = (rl, rd)) := ⟨_, _, rfl⟩
    obtain ⟨rn, hrn⟩ : ∃ rn, Hid (rd.length = rn) := ⟨_, rfl⟩
    rw [hR.out] at ho ⊢
    simp only at ho ⊢
    rw [hrn.out] at ho
    obtain ⟨ao', ca', rfl⟩ := own_slice ho.out
    rw [hy1.out]
    unfold scv
    simp only [List.zip_toArray, List.zip_cons_cons, List.zip_nil_right, List.foldl_toArray, List.foldl_cons, List.foldl_nil]
    gi_wp2
    refine ⟨(But.alloc _ _ _).trans (But.alloc _ _ _), ?_⟩
    intro Wb hWb hsb
    have sb : Wb.heap.size = W1.heap.size + 2 := by rw [hsb]; simp
    have n1 := hide (hWb.at ((Below.heap_alloc _ _ _ (by simp)).trans (heap_alloc_new _ _)) (by omega))
    have n2 : Hid (Wb.heap[W1.heap.size + 1]? = some (.cells #[.int .i64 rl, .slice ao' rn ca'] 41 (0, 0))) := by
      refine hWb.at ?_ (by omega)
      have := heap_alloc_new (W1.alloc (.cells #[.int .i64 (x.c : Int), .int .i64 (x.e : Int), .int .i64 (x.n : Int), .int .u32 (x.s.toNat : Int), .int .i64 y1] 28)) (.cells #[.int .i64 rl, .slice ao' rn ca'] 41)
      rwa [World.size_alloc] at this
    have bW : Hid (But (fun k => k = m) W1 Wb) := ((But.alloc _ _ _).trans (But.alloc _ _ _)).trans hWb
    have n4 := hide (bW.out.at i4.out (by omega))
    have nJ := hide (hJ.out _ _ _ _ i1.out (bW.out.mono fun k _ e => ⟨by omega, by rw [e]; exact nl⟩))
    have nO : Hid (Wb.ownsRow 0 5 1 (.slice ao' rn ca') rn (bvals rd)) := by
      refine ho.out.kept (row := some m) ⟨bW.out.os, bW.out.tape, bW.out.output, bW.out.size, fun k hk e => bW.out.block k hk (fun e' => e (by rw [e']))⟩ (.inr fun e => nD ((hDk.out m).2 e))
    clear hWb hsb i1 i4 ho
    obtain ⟨k0, k1, k2, k3, k4, -, -, -, -, -⟩ := five n1.out
    have t0 : Wb.cell? ⟨W1.heap.size + 1, 0, none⟩ = some (.int .i64 rl) := by simp [World.cell?, n2.out]
    have t1 : Wb.cell? ⟨W1.heap.size + 1, 1, none⟩ = some (.slice ao' rn ca') := by simp [World.cell?, n2.out]
    have t2 : Wb.cell? ⟨W.heap.size, 0, none⟩ = some (.func (.yield l) #[] #[]) := by simp [World.cell?, n4.out]
    by_cases hy : y1 = 0
    · subst hy
      have er : (rl, rd) = ((x.n : Int), dat L x) := by rw [← hR.out, recS, if_pos hy1.out]
      obtain ⟨rfl, rfl⟩ := Prod.mk.inj er
      have hxp := p1.out hy1.out
      have hDb : ∀ k, D k → ¬ C1 k ∧ W.heap.size ≤ k ∧ k < Wb.heap.size := fun k hk => by
        obtain ⟨d1, d2, d3⟩ := hD.out k hk
        exact ⟨d1, by omega, by omega⟩
      obtain ⟨fn, tmps, assign, body, hyy, hRn⟩ := hY.out pre x _ C1 D #[.int .i64 (x.e : Int), .agg #[.int .i64 (x.n : Int), .slice ao' rn ca']] Wb hxp nJ.out
        ⟨_, rfl, by rw [hrn.out]; exact nO.out, hDk.out⟩ (by have := i5.out; omega) hDb
      replace hRn := hide hRn
      gi_wp2
      clear hyy k0 k1 k2 k3 k4 t0 t1 t2
      refine ⟨rfl, RoundIn.mono (F := Fence.wide) hRn.out ?_⟩
      clear hRn
      rintro e W3 (⟨rfl, C2, hJ2, hB2, hC2⟩ | ⟨rfl, C2, hJx2, hB2, hC2⟩)
      · have nb : ¬ C2 W.heap.size := fun h => by
          rcases (hC2 _ h).1 with h | h | h
          · exact i3.out h
          · have := (hD.out _ h).2.1; omega
          · omega
        have w4 := hB2.at n4.out i3.out
        replace hJ2 := hide hJ2
        replace hB2 := hide hB2
        replace hC2 := hide hC2
        replace w4 := hide w4
        gi_wp2
        refine ⟨C2, ⟨hJ2.out, ?_, nb, w4.out, Nat.le_trans i5.out (Nat.le_trans (by omega) hB2.out.size), fun k hk => (hC2.out k hk).2⟩, hB2.out, fun k hk => ?_⟩
        · intro x' hx'
          rcases List.mem_append.1 hx' with h | h
          · exact i2.out x' h
          · rw [List.mem_singleton.1 h]; exact hy1.out
        · obtain ⟨h1, h2⟩ := hC2.out k hk
          refine ⟨?_, h2⟩
          rcases h1 with h | h | h
          · exact .inl h
          · exact .inr (.inl h)
          · exact .inr (.inr (by omega))
      · replace hJx2 := hide hJx2
        replace hB2 := hide hB2
        replace hC2 := hide hC2
        gi_wp2
        refine ⟨C2, ⟨rfl, .inr ⟨pre ++ [x], C2, ?_, hJx2.out, fun _ h => h⟩⟩, hB2.out, fun k hk => ?_⟩
        · rw [hxp]; exact ⟨xs.drop (pre.length + 1), by simp⟩
        · obtain ⟨h1, h2⟩ := hC2.out k hk
          refine ⟨?_, h2⟩
          rcases h1 with h | h | h
          · exact .inl h
          · exact .inr (.inl h)
          · exact .inr (.inr (by omega))
    · have hyb : (y1 != 0) = true := by simpa using hy
      have hpx := p2.out (by rw [hy1.out]; exact hy)
      gi_wp2
      all_goals (refine ⟨fun _ h => (by cases h), ?_⟩)
      all_goals gi_wp2
      all_goals (exact ⟨C1, ⟨rfl, .inl ⟨C1, by rw [← hpx]; exact nJ.out, fun _ h => h⟩⟩, But.refl _ _, fun k hk => ⟨.inl hk, by have := i6.out k hk; omega⟩⟩)
  case done =>
    rintro C2 W2 ⟨i1, i2, i3, i4, i5, i6⟩ hK nD
    have e := hall i2
    have i1' := hide i1
    have HK := hide hK
    clear i1 i2 i3 i4 i5 i6 hK
    subst e
    have hs' := hs
    replace hs := hide hs
    have oo : W.heap.size ≤ W0.heap.size := by omega
    clear hs'
    dsimp only
    go_wp2_with fail
    refine ⟨by simp, .inl ⟨_, _, rfl, run_takeDeferred HK.out, ?_⟩⟩
    exact ⟨_, results_none rfl _ _ _, ⟨_, rfl⟩, .inl ⟨C2, hJ.out _ _ _ _ i1'.out (But.putObj _ _ _ ⟨oo, nD⟩)⟩⟩
  case stop =>
    rintro c pre C2 W2 hp ⟨rfl, hor⟩ hK nD
    have HK := hide hK
    have HO := hide hor
    clear hor hK
    have oo : W.heap.size ≤ W0.heap.size := by omega
    replace hs := hide hs
    dsimp only
    go_wp2_with fail
    refine ⟨by simp, .inl ⟨_, _, rfl, run_takeDeferred HK.out, ?_⟩⟩
    rcases HO.out with ⟨C3, i1, i2⟩ | ⟨p, C3, i0, i1, i2⟩
    · exact ⟨_, results_none rfl _ _ _, ⟨_, rfl⟩, .inl ⟨C3, hJ.out _ _ _ _ i1 (But.putObj _ _ _ ⟨oo, fun h => nD (i2 _ h)⟩)⟩⟩
    · exact ⟨_, results_none rfl _ _ _, ⟨_, rfl⟩, .inr ⟨p, C3, i0, hJx.out _ _ _ _ i1 (But.putObj _ _ _ ⟨oo, fun h => nD (i2 _ h)⟩)⟩⟩

end Go.Proofs.Ytebhkdaefjmbnaa
