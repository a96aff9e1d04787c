/-
  What scan.why and scan.step answer.
-/
import Derived.Test.YtebhkdaefjmbnaaJa
import Derived.Handy
import Derived.Deep.CutRange
import Derived.BigRegion
import Derived.BigQuiet
import Derived.Deep.RegionHeld3
namespace Go.Proofs.Ytebhkdaefjmbnaa
open Go.RowKit
set_option maxRecDepth 100000

def whyOf (er lsn wanted : Int) : Int := if er = 2 then 2 else if er = 3 then 3 else if er = 4 then 4 else if er = 5 then 5 else if lsn ≠ wanted then 6 else 0
theorem why_any (w : World) (er lsn wanted : Int) :
    Calls Try.prog 33 #[.int .i64 er, .int .i64 lsn, .int .i64 wanted] w fun e w' => e = .returned (.int .i64 (whyOf er lsn wanted)) ∧ w' = w := by
  unfold whyOf
  by_cases h2 : er = 2
  · subst h2
    go_enter Try.func33, Try.ntmps33
    go_wp2
    go_ret
    exact ⟨rfl, rfl⟩
  by_cases h3 : er = 3
  · subst h3
    go_enter Try.func33, Try.ntmps33
    go_wp2
    go_ret
    exact ⟨rfl, rfl⟩
  by_cases h4 : er = 4
  · subst h4
    go_enter Try.func33, Try.ntmps33
    go_wp2
    go_ret
    exact ⟨rfl, rfl⟩
  by_cases h5 : er = 5
  · subst h5
    go_enter Try.func33, Try.ntmps33
    go_wp2
    go_ret
    exact ⟨rfl, rfl⟩
  rw [if_neg h2, if_neg h3, if_neg h4, if_neg h5]
  by_cases h6 : lsn = wanted
  · subst h6
    go_enter Try.func33, Try.ntmps33
    go_wp2
    go_ret
    exact ⟨by simp, rfl⟩
  · rw [if_pos h6]
    go_enter Try.func33, Try.ntmps33
    go_wp2
    go_ret
    exact ⟨rfl, rfl⟩

theorem whyS_of {L : List UInt8} {x : Sc} (he : x.e < L.length) : whyS L x = whyOf (rdF x.s (L.drop x.e)).2.2.2.2 (rdF x.s (L.drop x.e)).1 (x.n : Int) := by
  have key : ∀ s l, (rdF s l).2.2.2.2 = 0 ∨ (rdF s l).2.2.2.2 = 2 ∨ (rdF s l).2.2.2.2 = 3 ∨ (rdF s l).2.2.2.2 = 4 ∨ (rdF s l).2.2.2.2 = 5 := by
    intro s l
    unfold rdF
    split
    · exact .inl rfl
    · show rdE s l = 0 ∨ rdE s l = 2 ∨ rdE s l = 3 ∨ rdE s l = 4 ∨ rdE s l = 5
      unfold rdE
      repeat' split
      all_goals simp
  rw [whyS, if_neg (by omega)]
  unfold whyOf
  rcases key x.s (L.drop x.e) with h | h | h | h | h <;> simp only [h] <;> simp
theorem set5 {w : World} {b : Nat} {z0 z1 z2 z3 z4 : Value} {T : TypeId} (h : w.heap[b]? = some (.cells #[z0, z1, z2, z3, z4] T (0, 0))) (y : Value) : (w.setCell ⟨b, 4, none⟩ y).heap[b]? = some (.cells #[z0, z1, z2, z3, y] T (0, 0)) := by
  simp [World.setCell, Array.getElem?_modify, h]
theorem owns_ne {w : World} {b base n : Nat} {v : Value} {xs : List Value} {cs : Array Value} {T : TypeId} {fz : Nat × Nat} (h : w.ownsRow base 5 1 v n xs) (hb : w.heap[b]? = some (.cells cs T fz)) (hT : T ≠ 5) : v.ownBlock ≠ some b := fun e => by
  obtain ⟨_, p⟩ := id h
  rcases p with ⟨rfl, _⟩ | ⟨g, cap, cur, rfl, _, hg, _⟩
  · simp [Value.ownBlock] at e
  · simp [Value.ownBlock] at e
    subst e
    rw [hb] at hg
    simp at hg
    exact hT hg.2.1
def put5 (w : World) (b : Nat) (y0 y1 y2 y3 y4 : Value) : World := (put2 w b y0 y1 |>.setCell ⟨b, 2, none⟩ y2 |>.setCell ⟨b, 3, none⟩ y3).setCell ⟨b, 4, none⟩ y4
theorem put5_heap {w : World} {b : Nat} {z0 z1 z2 z3 z4 : Value} {T : TypeId} (h : w.heap[b]? = some (.cells #[z0, z1, z2, z3, z4] T (0, 0))) (y0 y1 y2 y3 y4 : Value) : (put5 w b y0 y1 y2 y3 y4).heap[b]? = some (.cells #[y0, y1, y2, y3, y4] T (0, 0)) := by
  unfold put5 put2
  rw [heap_setCell_same _ _ _ _ _ _ (heap_setCell_same _ _ _ _ _ _ (heap_setCell_same _ _ _ _ _ _ (heap_setCell_same _ _ _ _ _ _ (heap_setCell_same _ _ _ _ _ _ h))))]
  rfl
theorem put5_other (w : World) (b k : Nat) (y0 y1 y2 y3 y4 : Value) (h : k ≠ b) : (put5 w b y0 y1 y2 y3 y4).heap[k]? = w.heap[k]? := by
  unfold put5
  rw [heap_setCell_other _ _ k _ h, heap_setCell_other _ _ k _ h, heap_setCell_other _ _ k _ h]; exact put2_other w b k y0 y1 h
theorem put5_grown (w : World) (b : Nat) (y0 y1 y2 y3 y4 : Value) : w.grownBy (put5 w b y0 y1 y2 y3 y4) (some b) := grown_trans (grown_trans (grown_trans (put2_grown _ _ _ _) (grown_setCell _ _ _ _)) (grown_setCell _ _ _ _)) (grown_setCell _ _ _ _)
theorem heap_drew (w : World) : w.drew.heap = w.heap := rfl
theorem put25 {q : World} {b1 b2 : Nat} {z0 z1 y0 y1 y2 y3 y4 : Value} {T1 T2 : TypeId} (h1 : q.heap[b1]? = some (.cells #[z0, z1] T1 (0, 0))) (h2 : q.heap[b2]? = some (.cells #[y0, y1, y2, y3, y4] T2 (0, 0))) (hne : b1 ≠ b2) (hT1 : T1 ≠ 5) (hT2 : T2 ≠ 5) (x0 x1 u0 u1 u2 u3 u4 : Value) :
    ∃ U, (put5 (put2 q b1 x0 x1) b2 u0 u1 u2 u3 u4).drew = U ∧
      U.heap[b1]? = some (.cells #[x0, x1] T1 (0, 0)) ∧ U.heap[b2]? = some (.cells #[u0, u1, u2, u3, u4] T2 (0, 0)) ∧ (∀ (B : Nat) (w0 : World), Below B w0 q → B ≤ w0.heap.size → B ≤ b1 → B ≤ b2 → Below B w0 U) ∧
      (∀ (base : Nat) (v : Value) (n : Nat) (xs : List Value), q.ownsRow base 5 1 v n xs → U.ownsRow base 5 1 v n xs) := by
  refine ⟨_, rfl, ?_, ?_, ?_, ?_⟩
  · rw [heap_drew, put5_other _ _ _ _ _ _ _ _ hne]
    exact put2_heap h1 x0 x1
  · rw [heap_drew]
    have h2' : (put2 q b1 x0 x1).heap[b2]? = some (.cells #[y0, y1, y2, y3, y4] T2 (0, 0)) := by rw [put2_other _ _ _ _ _ hne.symm]; exact h2
    exact put5_heap h2' u0 u1 u2 u3 u4
  · intro B w0 h hB k1 k2
    have hs : B ≤ q.heap.size := Nat.le_trans hB h.size
    exact ((h.grown (put2_grown q b1 x0 x1) hs (fun k e => by cases e; exact k1)).grown (put5_grown _ b2 u0 u1 u2 u3 u4) (by rw [put2_size]; exact hs) (fun k e => by cases e; exact k2)).drew
  · intro base v n xs h
    have n1 := owns_ne h h1 hT1
    have n2 := owns_ne h h2 hT2
    have h' := h.kept (put2_grown q b1 x0 x1) (.inr n1)
    exact (h'.kept (put5_grown _ b2 u0 u1 u2 u3 u4) (.inr n2)).drew
theorem heap3 (w : World) (o0 o1 o2 : Obj) : (((w.alloc o0).alloc o1).alloc o2).heap[w.heap.size]? = some o0 ∧ (((w.alloc o0).alloc o1).alloc o2).heap[w.heap.size + 1]? = some o1 ∧ (((w.alloc o0).alloc o1).alloc o2).heap[w.heap.size + 1 + 1]? = some o2 := by
  refine ⟨?_, ?_, ?_⟩
  · rw [Below.heap_alloc _ _ _ (by simp; omega), Below.heap_alloc _ _ _ (by simp)]; exact heap_alloc_new _ _
  · rw [Below.heap_alloc _ _ _ (by simp)]; have := heap_alloc_new (w.alloc o0) o1; rwa [World.size_alloc] at this
  · have := heap_alloc_new ((w.alloc o0).alloc o1) o2; rwa [World.size_alloc, World.size_alloc] at this

/-- What step answers: the record and how the scan stands behind it. -/
def stepR (L : List UInt8) (x : Sc) : Value := if whyS L x = 0 then scv (nxt L x) 0 else scv x (whyS L x)

set_option maxHeartbeats 1000000 in
theorem step_any (w : World) (v : Value) (L : List UInt8) (x : Sc) (hv : Sl w v L) (he : x.e ≤ L.length) (hc : x.c ≤ x.e) (hn : x.n ≤ 9223372036854775807) :
    Calls Try.prog 29 #[v, scv x 0] w fun e w' => ∃ v', e = .returned (.tuple #[.agg #[.int .i64 (recS L x).1, v'], stepR L x]) ∧ w'.ownsRow w.heap.size 5 1 v' (recS L x).2.length (bvals (recS L x).2) ∧ Below w.heap.size w w' := by
  unfold scv
  obtain ⟨ao, ca, rfl, g2, g3, g4, g5⟩ := hv
  have hm : ca ≤ 9223372036854775807 := by unfold maxLen at g4; omega
  obtain ⟨c, e, n, s⟩ := x
  have HS := hide (sl_drop e he g2 g3 g4 g5)
  simp only at he hc hn HS ⊢
  obtain ⟨M, hM⟩ : ∃ M, Hid (L.length = M) := ⟨_, rfl⟩
  rw [hM.out] at he g3 HS ⊢
  clear g2 g4 g5
  obtain ⟨R, hR⟩ : ∃ R, Hid (recS L ⟨c, e, n, s⟩ = R) := ⟨_, rfl⟩
  obtain ⟨Z, hZ⟩ : ∃ Z, Hid (stepR L ⟨c, e, n, s⟩ = Z) := ⟨_, rfl⟩
  rw [hR.out, hZ.out]
  generalize hz : (if ca = e then ao else Option.map (fun x : Addr => x.add e) ao) = zo at *
  have HB3 : Hid (Below w.heap.size w (((w.alloc (.cells #[.int .i64 (c : Int), .int .i64 (e : Int), .int .i64 (n : Int), .int .u32 (s.toNat : Int), .int .i64 0] 28)).alloc (.cells #[.int .i64 0, .slice none 0 0] 41)).alloc (.cells #[.int .i64 0, .int .i64 0, .int .i64 0, .int .u32 0, .int .i64 0] 28))) := (((Below.refl _ w).alloc (Nat.le_refl _) _).alloc (by simp) _).alloc (by simp; omega) _
  have HS3 := hide (Below.sl HB3.out HS.out)
  by_cases hend : e = M
  · have hw1 : whyS L ⟨c, e, n, s⟩ = 1 := by rw [whyS, if_pos (by rw [hM.out]; exact Nat.le_of_eq hend.symm)]
    have hw0 : ¬ whyS L ⟨c, e, n, s⟩ = 0 := by rw [hw1]; omega
    obtain rfl : R = (0, []) := by rw [← hR.out, recS, if_neg hw0]
    obtain rfl : Z = scv ⟨c, e, n, s⟩ 1 := by rw [← hZ.out, stepR, if_neg hw0, hw1]
    clear HS HS3 hM hw1 hw0 hR hZ
    subst hend
    have hz0 : ((e - e : Nat) : Int) = 0 := by omega
    go_enter Try.func29, Try.ntmps29
    go_wp2_with fail
    go_region
    go_wp2_with fail
    go_returns
    exact ⟨_, rfl, World.ownsRow_nil _ _ _ _, ((((Below.refl _ w).alloc (Nat.le_refl _) _).alloc (by simp) _).alloc (by simp; omega) _).drew⟩
  · have hz0 : (((M - e : Nat) : Int) == 0) = false := by simp; omega
    go_enter Try.func29, Try.ntmps29
    go_wp2_with fail
    refine (read_any _ _ _ _ HS3.out).mono ?_
    rintro e1 w1 ⟨v', rfl, ho, hb⟩
    have B1 := hide (keepF HB3.out hb)
    have b0 : Hid (w1.heap[w.heap.size]? = some (.cells #[.int .i64 (c : Int), .int .i64 (e : Int), .int .i64 (n : Int), .int .u32 (s.toNat : Int), .int .i64 0] 28 (0, 0))) := by
      show _ = _; rw [hb.block _ (by simp; omega)]; exact (heap3 _ _ _ _).1
    have b1 : Hid (w1.heap[w.heap.size + 1]? = some (.cells #[.int .i64 0, .slice none 0 0] 41 (0, 0))) := by
      show _ = _; rw [hb.block _ (by simp)]; exact (heap3 _ _ _ _).2.1
    have b2 : Hid (w1.heap[w.heap.size + 1 + 1]? = some (.cells #[.int .i64 0, .int .i64 0, .int .i64 0, .int .u32 0, .int .i64 0] 28 (0, 0))) := by
      show _ = _; rw [hb.block _ (by simp)]; exact (heap3 _ _ _ _).2.2
    have HO := hide (owns_lower ho (b' := w.heap.size) (by simp; omega))
    clear ho hb HB3 HS3 HS hz
    obtain ⟨F, hF⟩ : ∃ F, Hid (rdF s (L.drop e) = F) := ⟨_, rfl⟩
    rw [hF.out] at HO ⊢
    obtain ⟨l1, d1, z1, s1, r1⟩ := F
    simp only at HO ⊢
    obtain ⟨N1, hN1⟩ : ∃ N, Hid (d1.length = N) := ⟨_, rfl⟩
    obtain ⟨ao', ca', rfl⟩ := own_slice HO.out
    rw [hN1.out] at HO ⊢
    have a0 : Hid ((w1.alloc (.cells #[.int .i64 l1, .slice ao' N1 ca'] 41)).heap[w.heap.size]? = some (.cells #[.int .i64 (c : Int), .int .i64 (e : Int), .int .i64 (n : Int), .int .u32 (s.toNat : Int), .int .i64 0] 28 (0, 0))) := (Below.heap_alloc _ _ _ (heap_lt b0.out)).trans b0.out
    have a1 : Hid ((w1.alloc (.cells #[.int .i64 l1, .slice ao' N1 ca'] 41)).heap[w.heap.size + 1]? = some (.cells #[.int .i64 0, .slice none 0 0] 41 (0, 0))) := (Below.heap_alloc _ _ _ (heap_lt b1.out)).trans b1.out
    have a2 : Hid ((w1.alloc (.cells #[.int .i64 l1, .slice ao' N1 ca'] 41)).heap[w.heap.size + 1 + 1]? = some (.cells #[.int .i64 0, .int .i64 0, .int .i64 0, .int .u32 0, .int .i64 0] 28 (0, 0))) := (Below.heap_alloc _ _ _ (heap_lt b2.out)).trans b2.out
    have a3 : Hid ((w1.alloc (.cells #[.int .i64 l1, .slice ao' N1 ca'] 41)).heap[w1.heap.size]? = some (.cells #[.int .i64 l1, .slice ao' N1 ca'] 41 (0, 0))) := heap_alloc_new _ _
    have hlt1 := hide (heap_lt b2.out)
    have AO := hide (HO.out.alloc (.cells #[.int .i64 l1, .slice ao' N1 ca'] 41))
    have AB := hide (keepF B1.out (box_below w1 (.cells #[.int .i64 l1, .slice ao' N1 ca'] 41)))
    go_upto_region 6 with fail
    revert a0 a1 a2 a3 AO AB
    generalize w1.alloc (.cells #[.int .i64 l1, .slice ao' N1 ca'] 41) = q
    intro a0 a1 a2 a3 AO AB
    generalize w1.heap.size = rb at *
    clear B1 b0 b1 b2 HO
    have k0 : q.cell? ⟨w.heap.size, 0, none⟩ = some (.int .i64 (c : Int)) := by simp [World.cell?, a0.out]
    have k1 : q.cell? ⟨w.heap.size, 1, none⟩ = some (.int .i64 (e : Int)) := by simp [World.cell?, a0.out]
    have k2 : q.cell? ⟨w.heap.size, 2, none⟩ = some (.int .i64 (n : Int)) := by simp [World.cell?, a0.out]
    have k3 : q.cell? ⟨w.heap.size, 3, none⟩ = some (.int .u32 (s.toNat : Int)) := by simp [World.cell?, a0.out]
    have k4 : q.cell? ⟨w.heap.size, 4, none⟩ = some (.int .i64 0) := by simp [World.cell?, a0.out]
    have f4 : q.frozen? ⟨w.heap.size, 4, none⟩ = false := by simp [World.frozen?, a0.out]
    have r0 : q.cell? ⟨rb, 0, none⟩ = some (.int .i64 l1) := by simp [World.cell?, a3.out]
    have HY : Hid (whyS L ⟨c, e, n, s⟩ = whyOf r1 l1 (n : Int)) := by
      show _ = _
      rw [whyS_of (by rw [hM.out]; show e < M; omega)]
      simp only [hF.out]
    obtain ⟨y, hy⟩ : ∃ y, Hid (whyOf r1 l1 (n : Int) = y) := ⟨_, rfl⟩
    have HW : ∀ u : World, Calls Try.prog 33 #[.int .i64 r1, .int .i64 l1, .int .i64 (n : Int)] u fun e w' => e = .returned (.int .i64 y) ∧ w' = u := fun u => by rw [← hy.out]; exact why_any _ _ _ _
    replace HW := hide HW
    rw [hy.out] at HY
    clear hy
    go_upto_region 7 with (go_at_call 33; refine (HW.out _).mono ?_; rintro e2 w2 ⟨rfl, rfl⟩)
    clear k0 k1 k2 k3 k4 f4 r0
    have b0 := hide (set5 a0.out (.int .i64 y))
    have b1 := hide ((heap_setCell_other w2 ⟨w.heap.size, 4, none⟩ (w.heap.size + 1) (.int .i64 y) (by simp)).trans a1.out)
    have b2 := hide ((heap_setCell_other w2 ⟨w.heap.size, 4, none⟩ (w.heap.size + 1 + 1) (.int .i64 y) (by show w.heap.size + 1 + 1 ≠ w.heap.size; omega)).trans a2.out)
    have b3 := hide ((heap_setCell_other w2 ⟨w.heap.size, 4, none⟩ rb (.int .i64 y) (by have := hlt1.out; show rb ≠ w.heap.size; omega)).trans a3.out)
    have BO := hide (ownsRow_setCell_other AO.out (a := ⟨w.heap.size, 4, none⟩) (owns_ne AO.out a0.out (by decide)) (.int .i64 y))
    have BB := hide (AB.out.setCell (p := ⟨w.heap.size, 4, none⟩) (Nat.le_refl _) (.int .i64 y))
    revert b0 b1 b2 b3 BO BB
    generalize w2.setCell ⟨w.heap.size, 4, none⟩ (.int .i64 y) = q
    intro b0 b1 b2 b3 BO BB
    clear a0 a1 a2 a3 AO AB HW
    have k0 : q.cell? ⟨w.heap.size, 0, none⟩ = some (.int .i64 (c : Int)) := by simp [World.cell?, b0.out]
    have k1 : q.cell? ⟨w.heap.size, 1, none⟩ = some (.int .i64 (e : Int)) := by simp [World.cell?, b0.out]
    have k2 : q.cell? ⟨w.heap.size, 2, none⟩ = some (.int .i64 (n : Int)) := by simp [World.cell?, b0.out]
    have k3 : q.cell? ⟨w.heap.size, 3, none⟩ = some (.int .u32 (s.toNat : Int)) := by simp [World.cell?, b0.out]
    have k4 : q.cell? ⟨w.heap.size, 4, none⟩ = some (.int .i64 y) := by simp [World.cell?, b0.out]
    have r0 : q.cell? ⟨rb, 0, none⟩ = some (.int .i64 l1) := by simp [World.cell?, b3.out]
    have r1' : q.cell? ⟨rb, 1, none⟩ = some (.slice ao' N1 ca') := by simp [World.cell?, b3.out]
    have d0 : q.frozen? ⟨w.heap.size + 1, 0, none⟩ = false := by simp [World.frozen?, b1.out]
    have d1' : q.frozen? ⟨w.heap.size + 1, 1, none⟩ = false := by simp [World.frozen?, b1.out]
    have e0 : q.frozen? ⟨w.heap.size + 1 + 1, 0, none⟩ = false := by simp [World.frozen?, b2.out]
    have e1 : q.frozen? ⟨w.heap.size + 1 + 1, 1, none⟩ = false := by simp [World.frozen?, b2.out]
    have e2 : q.frozen? ⟨w.heap.size + 1 + 1, 2, none⟩ = false := by simp [World.frozen?, b2.out]
    have e3 : q.frozen? ⟨w.heap.size + 1 + 1, 3, none⟩ = false := by simp [World.frozen?, b2.out]
    have e4 : q.frozen? ⟨w.heap.size + 1 + 1, 4, none⟩ = false := by simp [World.frozen?, b2.out]
    have c0 : q.cell? ⟨w.heap.size + 1, 0, none⟩ = some (.int .i64 0) := by simp [World.cell?, b1.out]
    have c1 : q.cell? ⟨w.heap.size + 1, 1, none⟩ = some (.slice none 0 0) := by simp [World.cell?, b1.out]
    have g0 : q.cell? ⟨w.heap.size + 1 + 1, 0, none⟩ = some (.int .i64 0) := by simp [World.cell?, b2.out]
    have g1 : q.cell? ⟨w.heap.size + 1 + 1, 1, none⟩ = some (.int .i64 0) := by simp [World.cell?, b2.out]
    have g2 : q.cell? ⟨w.heap.size + 1 + 1, 2, none⟩ = some (.int .i64 0) := by simp [World.cell?, b2.out]
    have g3' : q.cell? ⟨w.heap.size + 1 + 1, 3, none⟩ = some (.int .u32 0) := by simp [World.cell?, b2.out]
    have g4 : q.cell? ⟨w.heap.size + 1 + 1, 4, none⟩ = some (.int .i64 0) := by simp [World.cell?, b2.out]
    by_cases hy : y = 0
    · subst hy
      obtain ⟨z1', z2, z3, z4, z5, z6, z7, z8, z9, z10⟩ := why_zero HY.out
      have EN : nxt L ⟨c, e, n, s⟩ = ⟨c + 1, e + z1.toNat, n + 1, s1⟩ := by simp only [nxt, hF.out]
      have ED : dat L ⟨c, e, n, s⟩ = d1 := by simp only [dat, hF.out]
      rw [EN] at z6 z7 z8
      rw [hF.out] at z3 z8
      simp only at z3 z4 z5 z6 z7 z8
      rw [hM.out] at z6
      obtain rfl : R = ((n : Int), d1) := by rw [← hR.out, recS, if_pos HY.out, ED]
      obtain ⟨zn, rfl⟩ : ∃ zn : Nat, z1 = (zn : Int) := ⟨z1.toNat, by omega⟩
      rw [Int.toNat_natCast] at EN z6
      obtain rfl : Z = scv ⟨c + 1, e + zn, n + 1, s1⟩ 0 := by rw [← hZ.out, stepR, if_pos HY.out, EN]
      subst z3
      clear z1' z2 z4 z7 z8 z9 z10 EN ED hF hR hZ HY
      have o1 : (c : Int) + 1 ≤ 9223372036854775807 := by omega
      have o2 : (e : Int) + (zn : Int) ≤ 9223372036854775807 := by omega
      have o3 : (n : Int) + 1 ≤ 9223372036854775807 := by omega
      go_wp2_with fail
      go_region
      obtain ⟨U, hU, U1, U2, UB, UO⟩ := put25 b1.out b2.out (by omega) (by decide) (by decide) (.int .i64 (n : Int)) (.slice ao' N1 ca') (.int .i64 ((c : Int) + 1)) (.int .i64 ((e : Int) + (zn : Int))) (.int .i64 ((n : Int) + 1)) (.int .u32 (s1.toNat : Int)) (.int .i64 0)
      have UB' := hide (UB _ _ BB.out (Nat.le_refl _) (by omega) (by omega))
      have UO' := hide (UO _ _ _ _ BO.out)
      unfold put5 put2 at hU
      rw [hU]
      clear hU UB UO k0 k1 k2 k3 k4 r0 r1' d0 d1' e0 e1 e2 e3 e4 c0 c1 g0 g1 g2 g3' g4
      have k0 : U.cell? ⟨w.heap.size + 1, 0, none⟩ = some (.int .i64 (n : Int)) := by simp [World.cell?, U1]
      have k1 : U.cell? ⟨w.heap.size + 1, 1, none⟩ = some (.slice ao' N1 ca') := by simp [World.cell?, U1]
      have k2 : U.cell? ⟨w.heap.size + 1 + 1, 0, none⟩ = some (.int .i64 ((c : Int) + 1)) := by simp [World.cell?, U2]
      have k3 : U.cell? ⟨w.heap.size + 1 + 1, 1, none⟩ = some (.int .i64 ((e : Int) + (zn : Int))) := by simp [World.cell?, U2]
      have k4 : U.cell? ⟨w.heap.size + 1 + 1, 2, none⟩ = some (.int .i64 ((n : Int) + 1)) := by simp [World.cell?, U2]
      have k5 : U.cell? ⟨w.heap.size + 1 + 1, 3, none⟩ = some (.int .u32 (s1.toNat : Int)) := by simp [World.cell?, U2]
      have k6 : U.cell? ⟨w.heap.size + 1 + 1, 4, none⟩ = some (.int .i64 0) := by simp [World.cell?, U2]
      go_wp2_with fail
      refine bodyPost_ret (by simp [results, Try.results29, go_sem, k0, k1, k2, k3, k4, k5, k6]; rfl) rfl ?_
      exact ⟨.slice ao' N1 ca', by simp [scv], by rw [hN1.out]; exact UO'.out, UB'.out⟩
    · have hw0 : ¬ whyS L ⟨c, e, n, s⟩ = 0 := by rw [HY.out]; exact hy
      obtain rfl : R = (0, []) := by rw [← hR.out, recS, if_neg hw0]
      obtain rfl : Z = scv ⟨c, e, n, s⟩ y := by rw [← hZ.out, stepR, if_neg hw0, HY.out]
      have hyb : (y != 0) = true := by simpa using hy
      go_wp2_with fail
      go_region
      obtain ⟨U, hU, U1, U2, UB, UO⟩ := put25 b1.out b2.out (by omega) (by decide) (by decide) (.int .i64 0) (.slice none 0 0) (.int .i64 (c : Int)) (.int .i64 (e : Int)) (.int .i64 (n : Int)) (.int .u32 (s.toNat : Int)) (.int .i64 y)
      have UB' := hide (UB _ _ BB.out (Nat.le_refl _) (by omega) (by omega))
      unfold put5 put2 at hU
      rw [hU]
      clear hU UB UO k0 k1 k2 k3 k4 r0 r1' d0 d1' e0 e1 e2 e3 e4 c0 c1 g0 g1 g2 g3' g4
      have k0 : U.cell? ⟨w.heap.size + 1, 0, none⟩ = some (.int .i64 0) := by simp [World.cell?, U1]
      have k1 : U.cell? ⟨w.heap.size + 1, 1, none⟩ = some (.slice none 0 0) := by simp [World.cell?, U1]
      have k2 : U.cell? ⟨w.heap.size + 1 + 1, 0, none⟩ = some (.int .i64 (c : Int)) := by simp [World.cell?, U2]
      have k3 : U.cell? ⟨w.heap.size + 1 + 1, 1, none⟩ = some (.int .i64 (e : Int)) := by simp [World.cell?, U2]
      have k4 : U.cell? ⟨w.heap.size + 1 + 1, 2, none⟩ = some (.int .i64 (n : Int)) := by simp [World.cell?, U2]
      have k5 : U.cell? ⟨w.heap.size + 1 + 1, 3, none⟩ = some (.int .u32 (s.toNat : Int)) := by simp [World.cell?, U2]
      have k6 : U.cell? ⟨w.heap.size + 1 + 1, 4, none⟩ = some (.int .i64 y) := by simp [World.cell?, U2]
      go_wp2_with fail
      refine bodyPost_ret (by simp [results, Try.results29, go_sem, k0, k1, k2, k3, k4, k5, k6]; rfl) rfl ?_
      exact ⟨_, rfl, World.ownsRow_nil _ _ _ _, UB'.out⟩

end Go.Proofs.Ytebhkdaefjmbnaa
