/-
  Two pairs of disks, side by side.
-/
import Derived.Test.YtpbiopmlipchdaaGreatL40
import Derived.Test.YtpbiopmlipchdaaGreatL42
namespace Go.Proofs.YtpbiopmlipchdaaGreat.Re
open Go.RowKit Go.Maps Go.Sort Go.Shelf Go.Proofs.YtpbiopmlipchdaaGreat.Nm Go.Proofs.YtpbiopmlipchdaaGreat.Dk
open Ix (wp_region_T wpAnyT wpAnyT_take wpAnyT_one wpAnyT_done vac)
set_option linter.unusedVariables false
theorem wpAnyT_low {P : Program} {ops : Array Oper} {Q : Exit → Act → World → Prop} {md : Region.Mode} {S S' : World → Prop} {d : Nat} (hs : ∀ w, S' w → S w) : ∀ (fuel : Nat) (listed : Array Bool) (a : Act) (w : World), wpAnyT P md ops Q S' d fuel listed a w → wpAnyT P md ops Q S d fuel listed a w
  | 0, _, _, _, h => h
  | fuel + 1, _, _, _, h => ⟨h.1, fun i hi => wpOp_mono (fun a' w' h' => ⟨fun c => hs _ (h'.1 c), wpAnyT_low hs fuel _ a' w' h'.2⟩) (h.2 i hi)⟩
theorem bt {w q : World} (h : Below w.heap.size w q) (o : Obj) : Below w.heap.size w (q.alloc o) := h.trans ((box_below q o).mono h.size)
theorem bs2 {w q q' : World} (h : Below w.heap.size w q) (h2 : Below q.heap.size q q') : Below w.heap.size w q' := h.trans (h2.mono h.size)
theorem new_none (w : World) (most : Int) (h0 : -9223372036854775808 ≤ most) (h1 : most ≤ 9223372036854775807) (h : ¬ (0 ≤ most ∧ most ≤ 16777216)) : Calls Tryz.prog 9 #[.int .i64 most] w fun e w' => e = .returned (.pointer none) ∧ w' = w := by
  refine (new_any w most h0 h1).mono ?_
  rintro e w' ⟨_, ⟨_, h2⟩ | ⟨g1, g2, _⟩⟩
  · exact h2
  · exact absurd ⟨g1, g2⟩ h
structure DA (w q : World) (pb qb : Nat) (k : Nat) : Prop where
  out : ∃ b1 S1 R1 Q1 b2 S2 R2 Q2, PW q pb b1 S1 R1 Q1 ∧ PW q qb b2 S2 R2 Q2 ∧ (∀ j, Q1 j → ¬ Q2 j) ∧ Rel S1 R1 ∧ Rel S2 R2 ∧ S1.c7 ≤ (k : Int) ∧ S2.c7 ≤ (k : Int) ∧ (∀ j, Q1 j → w.heap.size ≤ j) ∧ (∀ j, Q2 j → w.heap.size ≤ j)
  bel : Below w.heap.size w q
theorem DA.swap {w q : World} {pb qb k : Nat} (h : DA w q pb qb k) : DA w q qb pb k := by
  obtain ⟨b1, S1, R1, Q1, b2, S2, R2, Q2, p1, p2, dj, r1, r2, c1, c2, l1, l2⟩ := h.out
  exact ⟨⟨b2, S2, R2, Q2, b1, S1, R1, Q1, p2, p1, fun j a c => dj j c a, r2, r1, c2, c1, l2, l1⟩, h.bel⟩
theorem DA.below {w q q' : World} {pb qb k : Nat} (h : DA w q pb qb k) (hb : Below q.heap.size q q') : DA w q' pb qb k := by
  obtain ⟨b1, S1, R1, Q1, b2, S2, R2, Q2, p1, p2, rest⟩ := h.out
  exact ⟨⟨b1, S1, R1, Q1, b2, S2, R2, Q2, p1.below hb, p2.below hb, rest⟩, bs2 h.bel hb⟩
theorem da_plays {w q : World} {pb qb k : Nat} (h : DA w q pb qb k) (hk : k ≤ 1000) (o : Dop) (ho : DopOk w o) : Calls Tryz.prog 11 #[.pointer (some ⟨pb, 0, none⟩), opV o] q fun e w' => e = .returned (.bool true) ∧ DA w w' pb qb (k + 1) := by
  obtain ⟨b1, S1, R1, Q1, b2, S2, R2, Q2, p1, p2, dj, r1, r2, c1, c2, l1, l2⟩ := h.out
  refine (pl_all (W0 := w) o ⟨p1, ho, h.bel, l1, r1.ri, r1.uq, by omega, by have := r1.cnts; omega⟩).mono ?_
  rintro e w' ⟨⟨r, S', Q', b', rfl, pw, g, pl, hr, hb⟩⟩
  obtain rfl := hr r1
  refine ⟨rfl, ⟨b', S', R1.play o, Q', b2, S2, R2, Q2, pw, p2.but g.but (fun j hj c => dj j c hj), fun j hj c => ?_, rel_play r1 pl, r2, by have := play_c7 pl; omega, by omega, g.low h.bel.size l1, l2⟩, g.under l1 (Nat.le_refl _) h.bel⟩
  rcases g.own j hj with c1 | c1
  · exact dj j c1 c
  · have := p2.lt j c; omega
theorem da_list {w q : World} {pb qb k : Nat} (h : DA w q pb qb k) (hk : k ≤ 1000) : Calls Tryz.prog 12 #[.pointer (some ⟨pb, 0, none⟩)] q fun e w' => e = .returned (.bool true) ∧ Below q.heap.size q w' := by
  obtain ⟨b1, S1, R1, Q1, b2, S2, R2, Q2, p1, p2, dj, r1, r2, c1, c2, l1, l2⟩ := h.out
  exact plist_any p1 r1 (by omega)
theorem da_is {w q : World} {pb qb k : Nat} (h : DA w q pb qb k) (hk : k ≤ 1000) : ∃ b rb, q.heap[pb]? = some (.cells #[.pointer (some ⟨b, 0, none⟩), .pointer (some ⟨rb, 0, none⟩)] 29 (0, 0)) ∧ ∀ u, Below q.heap.size q u → Calls Tryz.prog 13 #[.pointer (some ⟨b, 0, none⟩), .pointer (some ⟨rb, 0, none⟩)] u fun e w' => e = .returned (.bool true) ∧ Below u.heap.size u w' := by
  obtain ⟨b1, S1, R1, Q1, b2, S2, R2, Q2, p1, p2, dj, r1, r2, c1, c2, l1, l2⟩ := h.out
  obtain ⟨rb, O, V, px, _⟩ := p1
  exact ⟨b1, rb, px.box, fun u hu => is_any (px.below hu).d (px.below hu).r r1 (by omega)⟩
theorem pair_new {w u q : World} {b : Nat} {most : Int} {O : Nat → Prop} (hD : DskE u b (DS.new most) O) (hlo : ∀ k, O k → w.heap.size ≤ k) (hu : Below w.heap.size w u) (hq : Below u.heap.size u q) (hR : RM q u.heap.size (RB.new most) RV.nil) :
    PW (q.alloc (.cells #[.pointer (some ⟨b, 0, none⟩), .pointer (some ⟨u.heap.size, 0, none⟩)] 29)) q.heap.size b (DS.new most) (RB.new most) (own q.heap.size O u.heap.size RV.nil) ∧ ∀ k, own q.heap.size O u.heap.size RV.nil k → w.heap.size ≤ k := by
  refine ⟨(px_new hD hq hR).toPW, ?_⟩
  rintro k (e | c | ⟨x, c⟩)
  · have := hu.size; have := hq.size; omega
  · exact hlo k c
  · have := blk_nil c; have := hu.size; omega
theorem da_start {w q q' : World} {pb qb b1 b2 : Nat} {m1 m2 : Int} {Q1 Q2 : Nat → Prop} (h1 : 0 ≤ m1 ∧ m1 ≤ 16777216) (h2 : 0 ≤ m2 ∧ m2 ≤ 16777216) (hq : Below w.heap.size w q) (p1 : PW q pb b1 (DS.new m1) (RB.new m1) Q1) (l1 : ∀ k, Q1 k → w.heap.size ≤ k) (hq' : Below q.heap.size q q') (p2 : PW q' qb b2 (DS.new m2) (RB.new m2) Q2) (l2 : ∀ k, Q2 k → q.heap.size ≤ k) : DA w q' pb qb 0 := by
  refine ⟨⟨b1, _, _, Q1, b2, _, _, Q2, p1.below hq', p2, fun j a c => ?_, rel_new m1 h1, rel_new m2 h2, Int.le_refl _, Int.le_refl _, l1, fun k hk => Nat.le_trans hq.size (l2 k hk)⟩, bs2 hq hq'⟩
  have := p1.lt j a
  have := l2 j c
  omega
end Go.Proofs.YtpbiopmlipchdaaGreat.Re
