/-
  DiskNone: the walk.
-/
import Derived.Test.YtpphjojehfhbkaaDnG
namespace Go.Proofs.Ytpphjojehfhbkaa.Dk
open Go.RowKit Go.Maps Go.Sort Go.Shelf Go.Proofs.Ytpphjojehfhbkaa.Nm

theorem opcells {w : World} {g : Nat} {c0 c1 c2 c3 c4 c5 c6 c7 c8 c9 : Value} {T : TypeId} {z : Nat × Nat} (h : w.heap[g]? = some (.cells #[c0, c1, c2, c3, c4, c5, c6, c7, c8, c9] T z)) : w.cell? ⟨g, 2, none⟩ = some c2 ∧ w.cell? ⟨g, 3, none⟩ = some c3 ∧ w.cell? ⟨g, 4, none⟩ = some c4 ∧ w.cell? ⟨g, 5, none⟩ = some c5 ∧ w.cell? ⟨g, 6, none⟩ = some c6 ∧ w.cell? ⟨g, 8, none⟩ = some c8 ∧ w.cell? ⟨g, 9, none⟩ = some c9 := by
  simp [World.cell?, h]
set_option maxRecDepth 100000 in
theorem countsNeq (q : World) : (binOp .neq 49 (.agg #[.int .i64 0, .int .i64 0, .int .i64 0, .int .i64 0, .int .i64 0, .int .i64 0, .int .i64 0, .int .i64 0, .int .i64 0]) (.agg #[.int .i64 0, .int .i64 0, .int .i64 0, .int .i64 0, .int .i64 0, .int .i64 0, .int .i64 0, .int .i64 0, .int .i64 0])).run Try.prog q = .ok (.bool false) q := by kernel_rfl
set_option maxRecDepth 100000 in
set_option maxHeartbeats 8000000 in
theorem none_walk (w : World) (o : Dop) (hok : DopOk w o) :
    Calls Try.prog 4 #[.agg o.cells.toArray] w fun e w' => e = .returned (.bool true) ∧ Below w.heap.size w w' := by
  obtain ⟨vd, vdc, evd, hx1⟩ := hok.dat
  obtain ⟨vf, vfc, evf, hx2⟩ := hok.fs
  obtain ⟨vk, vkc, evk, hx3⟩ := hok.ks
  have s1 : o.nm.size ≤ maxLen := by have := hok.nm; unfold maxLen; omega
  have s2 : o.tn.size ≤ maxLen := by have := hok.tn; unfold maxLen; omega
  unfold Dop.cells
  rw [evd, evf, evk]
  clear hx1 hx2 hx3 evd evf evk hok
  generalize o.dat.length = Nd at *
  generalize o.fs.length = Nf at *
  generalize o.ks.length = Nk at *
  obtain ⟨ok, osec, nm, tn, _, _, oo, on, _, _, od, _, _⟩ := o
  dsimp only at s1 s2 ⊢
  have B0 := hide (box_below w (.cells #[.int .i64 ok, .bool osec, .string nm, .string tn, .slice vd Nd vdc, .int .i64 oo, .int .i64 on, .slice vf Nf vfc, .int .i64 od, .slice vk Nk vkc] 44))
  have N0 := hide (heap_alloc_new w (.cells #[.int .i64 ok, .bool osec, .string nm, .string tn, .slice vd Nd vdc, .int .i64 oo, .int .i64 on, .slice vf Nf vfc, .int .i64 od, .slice vk Nk vkc] 44))
  obtain ⟨u, hu⟩ : ∃ u, Hid (w.alloc (.cells #[.int .i64 ok, .bool osec, .string nm, .string tn, .slice vd Nd vdc, .int .i64 oo, .int .i64 on, .slice vf Nf vfc, .int .i64 od, .slice vk Nk vkc] 44) = u) := ⟨_, rfl⟩
  rw [hu.out] at B0 N0
  have hB := begun_any u
  go_enter Try.func4, Try.ntmps4
  go_upto_region 1 with fail
  rw [hu.out]
  go_upto_region 4 with (go_at_call 6; refine hB.mono ?_; rintro e w1 ⟨rfl, B1⟩; replace B1 := hide B1)
  have N1 : Hid (w1.heap[w.heap.size]? = some (.cells #[.int .i64 ok, .bool osec, .string nm, .string tn, .slice vd Nd vdc, .int .i64 oo, .int .i64 on, .slice vf Nf vfc, .int .i64 od, .slice vk Nk vkc] 44 (0, 0))) := (B1.out.block _ (heap_lt N0.out)).trans N0.out
  have E1 := hide (B0.out.trans (B1.out.mono B0.out.size))
  generalize hob : w.heap.size = ob at *
  clear hB B0 B1 N0
  have X2 := hide (box_below w1 (.cells (dcells zeroD) 51))
  have Z2 : Hid (Bx (w1.alloc (.cells (dcells zeroD) 51)) w1.heap.size zeroD) := heap_alloc_new w1 _
  have X3 := hide (box_below (w1.alloc (.cells (dcells zeroD) 51)) (.cells #[.pointer none, .pointer (some ⟨w1.heap.size, 0, none⟩)] 24))
  have L3 := hide (heap_alloc_new (w1.alloc (.cells (dcells zeroD) 51)) (.cells #[.pointer none, .pointer (some ⟨w1.heap.size, 0, none⟩)] 24))
  have Z3 := hide (Z2.out.below X3.out)
  unfold dcells zeroD at X2 X3 L3 Z3
  dsimp only at X2 X3 L3
  go_upto_region 6 with fail
  obtain ⟨w3, hw3⟩ : ∃ w3, Hid (((w1.alloc (.cells #[.int .i64 0, .bool false, .map none, .map none, .slice none 0 0, .map none, .int .i64 0, .int .i64 0, .int .i64 0, .int .i64 0, .int .i64 0, .int .i64 0, .int .i64 0, .int .i64 0, .int .i64 0] 51)).alloc (.cells #[.pointer none, .pointer (some ⟨w1.heap.size, 0, none⟩)] 24)) = w3) := ⟨_, rfl⟩
  have E3 : Hid (Below ob w w3) := by
    show Below ob w w3
    rw [← hw3.out]
    have hob2 := hob
    subst hob2
    exact E1.out.trans ((X2.out.trans (X3.out.mono X2.out.size)).mono E1.out.size)
  have N3 : Hid (w3.heap[ob]? = some (.cells #[.int .i64 ok, .bool osec, .string nm, .string tn, .slice vd Nd vdc, .int .i64 oo, .int .i64 on, .slice vf Nf vfc, .int .i64 od, .slice vk Nk vkc] 44 (0, 0))) := by
    show _ = _
    rw [← hw3.out, X3.out.block _ (Nat.lt_of_lt_of_le (heap_lt N1.out) X2.out.size), X2.out.block _ (heap_lt N1.out)]
    exact N1.out
  have Z4 : Hid (Bx w3 w1.heap.size zeroD) := by show Bx _ _ _; rw [← hw3.out]; exact Z3.out
  have L4 : Hid (w3.heap[w1.heap.size + 1]? = some (.cells #[.pointer none, .pointer (some ⟨w1.heap.size, 0, none⟩)] 24 (0, 0))) := by
    show _ = _
    have := L3.out
    rw [hw3.out] at this
    simpa using this
  rw [hw3.out]
  generalize w1.heap.size = zb at *
  replace hob := hide hob
  clear X2 X3 L3 Z2 Z3 N1 E1 hw3
  have KO : Hid (∀ q : World, Hid (Below w3.heap.size w3 q) → q.heap[ob]? = some (.cells #[.int .i64 ok, .bool osec, .string nm, .string tn, .slice vd Nd vdc, .int .i64 oo, .int .i64 on, .slice vf Nf vfc, .int .i64 od, .slice vk Nk vkc] 44 (0, 0))) := fun q hq => (hq.out.block _ (heap_lt N3.out)).trans N3.out
  have CN := countsNeq
  have FIN : Hid (∀ q : World, Hid (Below w3.heap.size w3 q) → Below ob w q) := fun q hq => E3.out.trans (hq.out.mono (by have := heap_lt N3.out; have := E3.out.size; have := hob.out; omega))
  go_loopw [5] (fun v wr => ∃ i : Nat, i ≤ 2 ∧ v = .int .i64 (i : Int) ∧ Hid (Below w3.heap.size w3 wr)) (fun i _ => 2 - (intOf i).toNat)
  case atStart => exact ⟨0, by omega, rfl, Below.refl _ _⟩
  case round =>
    obtain ⟨i, hi, rfl, hI⟩ := hrel
    by_cases h2 : i = 2
    · subst h2
      go_wp2_with fail
      go_ret
      exact ⟨rfl, by rw [hob.out]; exact FIN.out _ hI⟩
    have hD : ∃ v, Un w3 v ∧ wr.cell? ⟨zb + 1, i, none⟩ = some v := by
      have hL : wr.heap[zb + 1]? = _ := (hI.out.block _ (heap_lt L4.out)).trans L4.out
      have : i = 0 ∨ i = 1 := by omega
      rcases this with rfl | rfl
      · exact ⟨.pointer none, .inl rfl, by simp [World.cell?, hL]⟩
      · exact ⟨.pointer (some ⟨zb, 0, none⟩), .inr ⟨zb, rfl, Z4.out⟩, by simp [World.cell?, hL]⟩
    obtain ⟨v, hU, hcell⟩ := hD
    have i1 : (i : Int) < 2 := by omega
    have TR : Hid (∀ q q' : World, Hid (Below w3.heap.size w3 q) → Below q.heap.size q q' → Below w3.heap.size w3 q') := fun q q' h1 h2 => h1.out.trans (h2.mono h1.out.size)
    have h1 : Hid (∀ q, Hid (Below w3.heap.size w3 q) → Calls Try.prog 10 #[v, .string nm, .slice vd Nd vdc] q fun e w' => e = .returned (.tuple #[.int .i64 0, .int .i64 22]) ∧ Below w3.heap.size w3 w') := fun q hq => by
      refine ((hU.below hq.out).appendN nm s1 _).mono ?_
      rintro e w' ⟨rfl, hb⟩; exact ⟨rfl, TR.out _ _ hq hb⟩
    have h2 : Hid (∀ q, Hid (Below w3.heap.size w3 q) → Calls Try.prog 13 #[v, .string nm, .int .i64 oo, .int .i64 on] q fun e w' => e = .returned (.tuple #[.slice none 0 0, .int .i64 22]) ∧ Below w3.heap.size w3 w') := fun q hq => by
      refine ((hU.below hq.out).readN nm s1 oo on).mono ?_
      rintro e w' ⟨rfl, hb⟩; exact ⟨rfl, TR.out _ _ hq hb⟩
    have h3 : Hid (∀ q, Hid (Below w3.heap.size w3 q) → Calls Try.prog 16 #[v, .string nm] q fun e w' => e = .returned (.tuple #[.int .i64 0, .int .i64 22]) ∧ Below w3.heap.size w3 w') := fun q hq => by
      refine ((hU.below hq.out).sizeN nm s1).mono ?_
      rintro e w' ⟨rfl, hb⟩; exact ⟨rfl, TR.out _ _ hq hb⟩
    have h4 : Hid (∀ q, Hid (Below w3.heap.size w3 q) → Calls Try.prog 17 #[v] q fun e w' => e = .returned (.tuple #[.slice none 0 0, .int .i64 22]) ∧ Below w3.heap.size w3 w') := fun q hq => by
      refine ((hU.below hq.out).listN).mono ?_
      rintro e w' ⟨rfl, rfl⟩; exact ⟨rfl, hq.out⟩
    have h5 : Hid (∀ q, Hid (Below w3.heap.size w3 q) → Calls Try.prog 15 #[v, .agg #[.int .i64 od, .slice vk Nk vkc]] q fun e w' => e = .returned (.tuple #[]) ∧ Below w3.heap.size w3 w') := fun q hq => by
      refine ((hU.below hq.out).crashN od vk Nk vkc).mono ?_
      rintro e w' ⟨rfl, hb⟩; exact ⟨rfl, TR.out _ _ hq hb⟩
    have h6 : Hid (∀ q, Hid (Below w3.heap.size w3 q) → Calls Try.prog 8 #[v, .string nm] q fun e w' => e = .returned (.int .i64 22) ∧ Below w3.heap.size w3 w') := fun q hq => by
      refine ((hU.below hq.out).createN nm s1).mono ?_
      rintro e w' ⟨rfl, hb⟩; exact ⟨rfl, TR.out _ _ hq hb⟩
    have h7 : Hid (∀ q, Hid (Below w3.heap.size w3 q) → Calls Try.prog 11 #[v, .string nm] q fun e w' => e = .returned (.int .i64 22) ∧ Below w3.heap.size w3 w') := fun q hq => by
      refine ((hU.below hq.out).syncN nm s1).mono ?_
      rintro e w' ⟨rfl, hb⟩; exact ⟨rfl, TR.out _ _ hq hb⟩
    have h8 : Hid (∀ q, Hid (Below w3.heap.size w3 q) → Calls Try.prog 18 #[v, .string nm, .int .i64 on] q fun e w' => e = .returned (.int .i64 22) ∧ Below w3.heap.size w3 w') := fun q hq => by
      refine ((hU.below hq.out).cutN nm s1 on).mono ?_
      rintro e w' ⟨rfl, hb⟩; exact ⟨rfl, TR.out _ _ hq hb⟩
    have h9 : Hid (∀ q, Hid (Below w3.heap.size w3 q) → Calls Try.prog 19 #[v, .string nm, .string tn] q fun e w' => e = .returned (.int .i64 22) ∧ Below w3.heap.size w3 w') := fun q hq => by
      refine ((hU.below hq.out).renameN nm tn s1 s2).mono ?_
      rintro e w' ⟨rfl, hb⟩; exact ⟨rfl, TR.out _ _ hq hb⟩
    have h10 : Hid (∀ q, Hid (Below w3.heap.size w3 q) → Calls Try.prog 20 #[v, .string nm] q fun e w' => e = .returned (.int .i64 22) ∧ Below w3.heap.size w3 w') := fun q hq => by
      refine ((hU.below hq.out).removeN nm s1).mono ?_
      rintro e w' ⟨rfl, hb⟩; exact ⟨rfl, TR.out _ _ hq hb⟩
    have h11 : Hid (∀ q, Hid (Below w3.heap.size w3 q) → Calls Try.prog 9 #[v] q fun e w' => e = .returned (.int .i64 22) ∧ Below w3.heap.size w3 w') := fun q hq => by
      refine ((hU.below hq.out).syncdirN).mono ?_
      rintro e w' ⟨rfl, rfl⟩; exact ⟨rfl, hq.out⟩
    have h12 : Hid (∀ q, Hid (Below w3.heap.size w3 q) → Calls Try.prog 12 #[v, .slice none 0 0] q fun e w' => e = .returned (.int .i64 22) ∧ Below w3.heap.size w3 w') := fun q hq => by
      refine ((hU.below hq.out).armN _).mono ?_
      rintro e w' ⟨rfl, rfl⟩; exact ⟨rfl, hq.out⟩
    have h13 : Hid (∀ q, Hid (Below w3.heap.size w3 q) → Calls Try.prog 21 #[v] q fun e w' => e = .returned (.bool false) ∧ Below w3.heap.size w3 w') := fun q hq => by
      refine ((hU.below hq.out).upC).mono ?_
      rintro e w' ⟨rfl, rfl⟩; exact ⟨rfl, hq.out⟩
    have h14 : Hid (∀ q, Hid (Below w3.heap.size w3 q) → Calls Try.prog 22 #[v] q fun e w' => e = .returned (.pointer none) ∧ Below w3.heap.size w3 w') := fun q hq => by
      refine ((hU.below hq.out).copyN).mono ?_
      rintro e w' ⟨rfl, rfl⟩; exact ⟨rfl, hq.out⟩
    have h15 : Hid (∀ q, Hid (Below w3.heap.size w3 q) → Calls Try.prog 23 #[v] q fun e w' => e = .returned (.int .i64 0) ∧ Below w3.heap.size w3 w') := fun q hq => by
      refine ((hU.below hq.out).pendingN).mono ?_
      rintro e w' ⟨rfl, rfl⟩; exact ⟨rfl, hq.out⟩
    have h16 : Hid (∀ q, Hid (Below w3.heap.size w3 q) → Calls Try.prog 24 #[v] q fun e w' => e = .returned (.slice none 0 0) ∧ Below w3.heap.size w3 w') := fun q hq => by
      refine ((hU.below hq.out).filesN).mono ?_
      rintro e w' ⟨rfl, rfl⟩; exact ⟨rfl, hq.out⟩
    have h17 : Hid (∀ q, Hid (Below w3.heap.size w3 q) → Calls Try.prog 25 #[v] q fun e w' => e = .returned (.slice none 0 0) ∧ Below w3.heap.size w3 w') := fun q hq => by
      refine ((hU.below hq.out).lastingN).mono ?_
      rintro e w' ⟨rfl, rfl⟩; exact ⟨rfl, hq.out⟩
    have h18 : Hid (∀ q, Hid (Below w3.heap.size w3 q) → Calls Try.prog 26 #[v, .int .i64 on] q fun e w' => e = .returned (.slice none 0 0) ∧ Below w3.heap.size w3 w') := fun q hq => by
      refine ((hU.below hq.out).tailsN on).mono ?_
      rintro e w' ⟨rfl, rfl⟩; exact ⟨rfl, hq.out⟩
    have h19 : Hid (∀ q, Hid (Below w3.heap.size w3 q) → Calls Try.prog 27 #[v] q fun e w' => e = .returned (.agg #[.int .i64 0, .int .i64 0, .int .i64 0, .int .i64 0, .int .i64 0, .int .i64 0, .int .i64 0, .int .i64 0, .int .i64 0]) ∧ Below w3.heap.size w3 w') := fun q hq => by
      refine ((hU.below hq.out).countN).mono ?_
      rintro e w' ⟨rfl, hb⟩; exact ⟨rfl, TR.out _ _ hq hb⟩
    obtain ⟨z2, z3, z4, z5, z6, z8, z9⟩ := opcells (KO.out _ hI)
    clear hU TR
    go_wp2_with (first
      | (go_at_call 10; refine (h1.out _ (by assumption)).mono ?_; rintro e q ⟨rfl, Bq⟩; replace Bq := hide Bq; obtain ⟨z2, z3, z4, z5, z6, z8, z9⟩ := opcells (KO.out _ Bq))
      | (go_at_call 13; refine (h2.out _ (by assumption)).mono ?_; rintro e q ⟨rfl, Bq⟩; replace Bq := hide Bq; obtain ⟨z2, z3, z4, z5, z6, z8, z9⟩ := opcells (KO.out _ Bq))
      | (go_at_call 16; refine (h3.out _ (by assumption)).mono ?_; rintro e q ⟨rfl, Bq⟩; replace Bq := hide Bq; obtain ⟨z2, z3, z4, z5, z6, z8, z9⟩ := opcells (KO.out _ Bq))
      | (go_at_call 17; refine (h4.out _ (by assumption)).mono ?_; rintro e q ⟨rfl, Bq⟩; replace Bq := hide Bq; obtain ⟨z2, z3, z4, z5, z6, z8, z9⟩ := opcells (KO.out _ Bq))
      | (go_at_call 15; refine (h5.out _ (by assumption)).mono ?_; rintro e q ⟨rfl, Bq⟩; replace Bq := hide Bq; obtain ⟨z2, z3, z4, z5, z6, z8, z9⟩ := opcells (KO.out _ Bq))
      | (go_at_call 8; refine (h6.out _ (by assumption)).mono ?_; rintro e q ⟨rfl, Bq⟩; replace Bq := hide Bq; obtain ⟨z2, z3, z4, z5, z6, z8, z9⟩ := opcells (KO.out _ Bq))
      | (go_at_call 11; refine (h7.out _ (by assumption)).mono ?_; rintro e q ⟨rfl, Bq⟩; replace Bq := hide Bq; obtain ⟨z2, z3, z4, z5, z6, z8, z9⟩ := opcells (KO.out _ Bq))
      | (go_at_call 18; refine (h8.out _ (by assumption)).mono ?_; rintro e q ⟨rfl, Bq⟩; replace Bq := hide Bq; obtain ⟨z2, z3, z4, z5, z6, z8, z9⟩ := opcells (KO.out _ Bq))
      | (go_at_call 19; refine (h9.out _ (by assumption)).mono ?_; rintro e q ⟨rfl, Bq⟩; replace Bq := hide Bq; obtain ⟨z2, z3, z4, z5, z6, z8, z9⟩ := opcells (KO.out _ Bq))
      | (go_at_call 20; refine (h10.out _ (by assumption)).mono ?_; rintro e q ⟨rfl, Bq⟩; replace Bq := hide Bq; obtain ⟨z2, z3, z4, z5, z6, z8, z9⟩ := opcells (KO.out _ Bq))
      | (go_at_call 9; refine (h11.out _ (by assumption)).mono ?_; rintro e q ⟨rfl, Bq⟩; replace Bq := hide Bq; obtain ⟨z2, z3, z4, z5, z6, z8, z9⟩ := opcells (KO.out _ Bq))
      | (go_at_call 12; refine (h12.out _ (by assumption)).mono ?_; rintro e q ⟨rfl, Bq⟩; replace Bq := hide Bq; obtain ⟨z2, z3, z4, z5, z6, z8, z9⟩ := opcells (KO.out _ Bq))
      | (go_at_call 21; refine (h13.out _ (by assumption)).mono ?_; rintro e q ⟨rfl, Bq⟩; replace Bq := hide Bq; obtain ⟨z2, z3, z4, z5, z6, z8, z9⟩ := opcells (KO.out _ Bq))
      | (go_at_call 22; refine (h14.out _ (by assumption)).mono ?_; rintro e q ⟨rfl, Bq⟩; replace Bq := hide Bq; obtain ⟨z2, z3, z4, z5, z6, z8, z9⟩ := opcells (KO.out _ Bq))
      | (go_at_call 23; refine (h15.out _ (by assumption)).mono ?_; rintro e q ⟨rfl, Bq⟩; replace Bq := hide Bq; obtain ⟨z2, z3, z4, z5, z6, z8, z9⟩ := opcells (KO.out _ Bq))
      | (go_at_call 24; refine (h16.out _ (by assumption)).mono ?_; rintro e q ⟨rfl, Bq⟩; replace Bq := hide Bq; obtain ⟨z2, z3, z4, z5, z6, z8, z9⟩ := opcells (KO.out _ Bq))
      | (go_at_call 25; refine (h17.out _ (by assumption)).mono ?_; rintro e q ⟨rfl, Bq⟩; replace Bq := hide Bq; obtain ⟨z2, z3, z4, z5, z6, z8, z9⟩ := opcells (KO.out _ Bq))
      | (go_at_call 26; refine (h18.out _ (by assumption)).mono ?_; rintro e q ⟨rfl, Bq⟩; replace Bq := hide Bq; obtain ⟨z2, z3, z4, z5, z6, z8, z9⟩ := opcells (KO.out _ Bq))
      | (go_at_call 27; refine (h19.out _ (by assumption)).mono ?_; rintro e q ⟨rfl, Bq⟩; replace Bq := hide Bq; obtain ⟨z2, z3, z4, z5, z6, z8, z9⟩ := opcells (KO.out _ Bq)))
    go_roundw
    case rel => exact ⟨i + 1, by omega, by go_num, by first | assumption | exact Hid.out (by assumption)⟩
    case measure => simp [intOf]; omega
#print axioms none_walk
end Go.Proofs.Ytpphjojehfhbkaa.Dk
