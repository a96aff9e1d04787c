/-
  What the document's scan answers: flumeref7.why, All, Find.
-/
import Derived.Test.YtebhkdaefjmbnaaJh
import Derived.Deep.CutRange
import Derived.Deep.RegionHeld3
namespace Go.Proofs.Ytebhkdaefjmbnaa
open Go.RowKit Go.Shelf
set_option maxRecDepth 100000
set_option linter.unusedVariables false

/-- A record that was read into a variable: its block, its data's own memory. -/
def Rdd (W wx : World) (bq : Nat) (vq : Value) (L : Int) (D : List UInt8) : Prop :=
  wx.heap[bq]? = some (.cells #[.int .i64 L, vq] 41 (0, 0)) ∧ wx.ownsRow W.heap.size 5 1 vq D.length (bvals D) ∧ Below W.heap.size W wx ∧ W.heap.size ≤ bq
def Rdz (W u : World) (v : Value) (D : List UInt8) : Prop :=
  u.heap[W.heap.size]? = some (.cells #[.int .i64 0, .slice none 0 0] 41 (0, 0)) ∧ u.ownsRow W.heap.size 5 1 v D.length (bvals D) ∧ Below W.heap.size W u
def Rdy (W u : World) (v : Value) (D : List UInt8) : Prop := u.ownsRow W.heap.size 5 1 v D.length (bvals D) ∧ Below W.heap.size W u
theorem Rdz.of {W u : World} {v : Value} {D : List UInt8} (h : Below (W.alloc (.cells #[.int .i64 0, .slice none 0 0] 41)).drew.heap.size (W.alloc (.cells #[.int .i64 0, .slice none 0 0] 41)).drew u) (o : u.ownsRow (W.alloc (.cells #[.int .i64 0, .slice none 0 0] 41)).drew.heap.size 5 1 v D.length (bvals D)) : Rdz W u v D :=
  ⟨by rw [h.block W.heap.size (by simp)]; exact heap_alloc_new _ _, owns_lower o (by simp), keepF (box_below W _).drew h⟩
theorem Rdy.of {W u : World} {v : Value} {D : List UInt8} (h : Below W.drew.heap.size W.drew u) (o : u.ownsRow W.drew.heap.size 5 1 v D.length (bvals D)) : Rdy W u v D :=
  ⟨o, keepF (Below.refl _ _).drew h⟩
theorem Rdz.low {w W u : World} {v a b : Value} {D : List UInt8} (h : Rdz W u v D) (hB : Below w.heap.size w W) : Below w.heap.size w (put2 u W.heap.size a b) := put2_below (keepF hB h.2.2) hB.size a b
theorem Rdz.below {w W u : World} {v : Value} {D : List UInt8} (h : Rdz W u v D) (hB : Below w.heap.size w W) : Below w.heap.size w u := keepF hB h.2.2
theorem Rdy.below {w W u : World} {v : Value} {D : List UInt8} (h : Rdy W u v D) (hB : Below w.heap.size w W) : Below w.heap.size w u := keepF hB h.2
theorem Rdy.al {w W u : World} {v : Value} {D : List UInt8} (h : Rdy W u v D) (hB : Below w.heap.size w W) (o : Obj) : Below w.heap.size w (u.alloc o) := keepF (keepF hB h.2) (box_below _ _)
theorem Rdz.fin {W u : World} {v : Value} {L : Int} {D : List UInt8} (h : Rdz W u v D) : Rdd W (put2 u W.heap.size (.int .i64 L) v) W.heap.size v L D :=
  ⟨put2_heap h.1 _ _, put2_owns h.2.1 h.1, put2_below h.2.2 (Nat.le_refl _) _ _, Nat.le_refl _⟩
theorem Rdy.fin {W u : World} {v : Value} {L : Int} {D : List UInt8} (h : Rdy W u v D) : Rdd W (u.alloc (.cells #[.int .i64 L, v] 41)) u.heap.size v L D :=
  ⟨heap_alloc_new _ _, h.1.alloc _, keepF h.2 (box_below _ _), h.2.size⟩
theorem Rdd.below {W u v : World} {bq : Nat} {vq : Value} {L : Int} {D : List UInt8} (h : Rdd W u bq vq L D) (hb : Below u.heap.size u v) : Rdd W v bq vq L D :=
  ⟨by rw [hb.block bq (heap_lt h.1)]; exact h.1, ownsRow_below h.2.1 hb, keepF h.2.2.1 hb, h.2.2.2⟩

theorem refWhy_any (w : World) (er : Int) (h : er = 2 ∨ er = 3 ∨ er = 4 ∨ er = 5) :
    Calls Try.prog 18 #[.int .i64 er] w fun e w' => e = .returned (.int .i64 er) ∧ w' = w := by
  rcases h with rfl | rfl | rfl | rfl
  all_goals
    go_enter Try.func18, Try.ntmps18
    go_wp2
    go_ret
    exact ⟨rfl, rfl⟩

/-- Placed records as cells. -/
def pcells (ps : List (Sc × Value)) : List Value := ps.flatMap fun p => [.int .i64 (p.1.e : Int), .int .i64 (p.1.n : Int), p.2]
theorem pcells_snoc (ps : List (Sc × Value)) (x : Sc) (v : Value) : pcells (ps ++ [(x, v)]) = pcells ps ++ [.int .i64 (x.e : Int), .int .i64 (x.n : Int), v] := by simp [pcells]
/-- What All answers beside the scan: the list vf of the records ps, each with its place. -/
structure Plc (base : Nat) (L : List UInt8) (W : World) (ps : List (Sc × Value)) (vf : Value) : Prop where
  row : W.ownsRow base 43 3 vf ps.length (pcells ps)
  data : ∀ p ∈ ps, W.ownsRow base 5 1 p.2 (dat L p.1).length (bvals (dat L p.1))
theorem Plc.below {base : Nat} {L : List UInt8} {W W' : World} {ps : List (Sc × Value)} {vf : Value} (h : Plc base L W ps vf) (hb : Below W.heap.size W W') : Plc base L W' ps vf :=
  ⟨owns_but h.row (But.of_below hb fun _ => False) (fun _ _ h => h), fun p hp => ownsRow_below (h.data p hp) hb⟩
theorem Try.infoPlc : (Try.prog.info? 43).map (fun i => (i.zero, i.size, i.bytes)) = some (some (.agg #[.int .i64 0, .int .i64 0, .slice none 0 0]), 3, 40) := by kernel_rfl

theorem Plc.put5 {base : Nat} {L : List UInt8} {W : World} {ps : List (Sc × Value)} {vf : Value} (h : Plc base L W ps vf) {b : Nat} {cs : Array Value} (hb : W.heap[b]? = some (.cells cs 28 (0, 0))) (y0 y1 y2 y3 y4 : Value) : Plc base L (put5 W b y0 y1 y2 y3 y4) ps vf :=
  ⟨h.row.kept (put5_grown _ _ _ _ _ _ _) (.inr (owns_no h.row hb (by decide))), fun p hp => (h.data p hp).kept (put5_grown _ _ _ _ _ _ _) (.inr (owns_no (h.data p hp) hb (by decide)))⟩
theorem Plc.set {base : Nat} {L : List UInt8} {W : World} {ps : List (Sc × Value)} {vf : Value} (h : Plc base L W ps vf) {b o : Nat} {cs : Array Value} (hb : W.heap[b]? = some (.cells cs 28 (0, 0))) (y : Value) : Plc base L (W.setCell ⟨b, o, none⟩ y) ps vf :=
  ⟨h.row.kept (grown_setCell _ _ _ _) (.inr (owns_no h.row hb (by decide))), fun p hp => (h.data p hp).kept (grown_setCell _ _ _ _) (.inr (owns_no (h.data p hp) hb (by decide)))⟩
theorem three_new (w : World) (a b c : Value) (T : TypeId) : ∀ (j : Nat) (u : Value), [a, b, c][j]? = some u → (w.alloc (.cells #[a, b, c] T)).cell? ((⟨w.heap.size, 0, none⟩ : Addr).add j) = some u := by
  intro j u h
  rw [addr_add]
  match j with
  | 0 => simp at h; subst h; unfold World.cell?; rw [show (w.alloc (.cells #[a, b, c] T)).heap[(⟨w.heap.size, 0 + 0, none⟩ : Addr).block]? = _ from heap_alloc_new _ _]; rfl
  | 1 => simp at h; subst h; unfold World.cell?; rw [show (w.alloc (.cells #[a, b, c] T)).heap[(⟨w.heap.size, 0 + 1, none⟩ : Addr).block]? = _ from heap_alloc_new _ _]; rfl
  | 2 => simp at h; subst h; unfold World.cell?; rw [show (w.alloc (.cells #[a, b, c] T)).heap[(⟨w.heap.size, 0 + 2, none⟩ : Addr).block]? = _ from heap_alloc_new _ _]; rfl
  | j + 3 => simp at h
theorem set4 {w : World} {b : Nat} {z0 z1 z2 z3 z4 : Value} {T : TypeId} (h : w.heap[b]? = some (.cells #[z0, z1, z2, z3, z4] T (0, 0))) (y0 y1 y2 y3 : Value) : ((((w.setCell ⟨b, 0, none⟩ y0).setCell ⟨b, 1, none⟩ y1).setCell ⟨b, 2, none⟩ y2).setCell ⟨b, 3, none⟩ y3).heap[b]? = some (.cells #[y0, y1, y2, y3, z4] T (0, 0)) := by
  rw [heap_setCell_same _ _ _ _ _ _ (heap_setCell_same _ _ _ _ _ _ (heap_setCell_same _ _ _ _ _ _ (heap_setCell_same _ _ _ _ _ _ h)))]
  rfl
theorem set4_grown (w : World) (b : Nat) (y0 y1 y2 y3 : Value) : w.grownBy ((((w.setCell ⟨b, 0, none⟩ y0).setCell ⟨b, 1, none⟩ y1).setCell ⟨b, 2, none⟩ y2).setCell ⟨b, 3, none⟩ y3) (some b) := grown_trans (grown_trans (grown_trans (grown_setCell _ _ _ _) (grown_setCell _ _ _ _)) (grown_setCell _ _ _ _)) (grown_setCell _ _ _ _)
theorem isK_here {L : List UInt8} {x0 : Sc} {K k : Nat} (hK : IsK L x0 K) (hk : k ≤ K) (hw : whyS L (Sst L x0 k) ≠ 0) : k = K := Nat.le_antisymm hk (Nat.le_of_not_lt fun hlt => hw (hK.1 k hlt))
/-- Where the loop of All stands. -/
def ALoop (w : World) (L : List UInt8) (x0 : Sc) (K : Nat) (vf : Value) (wr : World) : Prop :=
  ∃ (k : Nat) (x : Sc) (y : Int) (ps : List (Sc × Value)), wr.heap[w.heap.size + 1]? = some (.cells (scc x y) 28 (0, 0)) ∧ wr.heap[w.heap.size]? = some (.cells #[.int .i64 0, .int .i64 0, .int .i64 0, .int .u32 0, .int .i64 0] 28 (0, 0)) ∧ Plc w.heap.size L wr ps vf ∧ Below w.heap.size w wr ∧
    ps.map (·.1) = (List.range k).map (Sst L x0) ∧ k ≤ K ∧ ((y = 0 ∧ x = Sst L x0 k) ∨ (y ≠ 0 ∧ k = K ∧ x = Sst L x0 K ∧ y = whyS L (Sst L x0 K)))

set_option maxHeartbeats 4000000 in
theorem refAll_one (w : World) (v : Value) (L : List UInt8) (bn : Nat) (seed : Crc.R) (K : Nat) (h1 : 1 ≤ bn) (h2 : bn ≤ 9223372036854775807) (hK : IsK L ⟨0, 0, bn, seed⟩ K) (hv : Sl w v L) (hL : L.length ≤ 1099511627776) :
    Calls Try.prog 6 #[v, .int .i64 (bn : Int), .int .u32 (seed.toNat : Int), .int .i64 (-1)] w fun e w' => ∃ ps vf, e = .returned (.tuple #[.agg (scc (Sst L ⟨0, 0, bn, seed⟩ K) (whyS L (Sst L ⟨0, 0, bn, seed⟩ K))), vf]) ∧ ps.map (·.1) = (List.range K).map (Sst L ⟨0, 0, bn, seed⟩) ∧ Plc w.heap.size L w' ps vf ∧ Below w.heap.size w w' := by
  have HV := hide hv
  obtain ⟨ao, ca, rfl, g2, g3, g4, g5⟩ := hv
  have hm : ca ≤ 9223372036854775807 := by unfold maxLen at g4; omega
  have SD : Hid (∀ (e : Nat) (q : World), e ≤ L.length → Below w.heap.size w q → Sl q (.slice (if ca = e then ao else Option.map (fun x => x.add e) ao) (L.length - e) (ca - e)) (L.drop e)) := fun e q he hq => Below.sl hq (sl_drop e he g2 g3 g4 g5)
  obtain ⟨M, hM⟩ : ∃ M, Hid (L.length = M) := ⟨_, rfl⟩
  rw [hM.out] at HV g3 hL SD ⊢
  clear g2 g4 g5
  have hb1 : ¬ (bn : Int) < 1 := by omega
  obtain ⟨x0, hx0⟩ : ∃ x0 : Sc, (⟨0, 0, bn, seed⟩ : Sc) = x0 := ⟨_, rfl⟩
  rw [hx0] at hK ⊢
  have hx0' := hide hx0
  clear hx0
  obtain ⟨XK, hXK⟩ : ∃ XK, Hid (Sst L x0 K = XK) := ⟨_, rfl⟩
  obtain ⟨YK, hYK⟩ : ∃ YK, Hid (whyS L XK = YK) := ⟨_, rfl⟩
  rw [hXK.out, hYK.out]
  go_enter Try.func6, Try.ntmps6
  go_wp2_with fail
  go_loopw [11] (fun vf wr => Hid (ALoop w L x0 K vf wr)) (fun _ wr => msS wr (w.heap.size + 1) K)
  case atStart =>
    refine ⟨0, x0, 0, [], ?_, ?_, ⟨World.ownsRow_nil _ _ _ _, by simp⟩, ((Below.refl _ w).alloc (Nat.le_refl _) _).alloc (by simp) _, rfl, Nat.zero_le _, .inl ⟨rfl, rfl⟩⟩
    · have e : scc x0 0 = #[.int .i64 0, .int .i64 0, .int .i64 (bn : Int), .int .u32 (seed.toNat : Int), .int .i64 0] := by rw [← hx0'.out]; rfl
      rw [e]
      have := heap_alloc_new (w.alloc (.cells #[.int .i64 0, .int .i64 0, .int .i64 0, .int .u32 0, .int .i64 0] 28)) (.cells #[.int .i64 0, .int .i64 0, .int .i64 (bn : Int), .int .u32 (seed.toNat : Int), .int .i64 0] 28)
      rwa [World.size_alloc] at this
    · rw [Below.heap_alloc _ _ _ (by simp)]; exact heap_alloc_new _ _
  case round =>
    obtain ⟨k, x, y, ps, hh, hr, hP, hB, hps, hk, hcase⟩ := hrel.out
    clear hrel
    obtain ⟨gv, cv, rfl⟩ := owns_form hP.row
    obtain ⟨k0, k1, k2, k3, k4, f0, f1, f2, f3, f4⟩ := five (show wr.heap[w.heap.size + 1]? = some (.cells #[.int .i64 (x.c : Int), .int .i64 (x.e : Int), .int .i64 (x.n : Int), .int .u32 (x.s.toNat : Int), .int .i64 y] 28 (0, 0)) from hh)
    obtain ⟨r0, r1, r2, r3, r4, q0, q1, q2, q3, q4⟩ := five hr
    have hh' := hide hh
    have hr' := hide hr
    have hP' := hide hP
    have hB' := hide hB
    have hps' := hide hps
    clear hh hr hP hB hps
    rcases hcase with ⟨rfl, hxe⟩ | ⟨hy, hkK, hxe, hyy⟩
    · have hG : Good L x0 k := fun j hj => hK.1 j (by omega)
      obtain ⟨e1, e2, e3, e4⟩ := good_e hG (by rw [← hx0'.out]; exact Nat.zero_le _)
      have e5 := st_n hG (by rw [← hx0'.out]; exact h2)
      rw [← hxe] at e1 e2 e3 e4 e5
      have hxc : x.c = k := by rw [e3, ← hx0'.out]; simp
      rw [hM.out] at e1
      obtain ⟨c, e, n, sd⟩ := x
      simp only at e1 e2 e3 e4 e5 hxc k0 k1 k2 k3 hh'
      by_cases hend : e = M
      · subst hend
        have hw1 : whyS L ⟨c, e, n, sd⟩ = 1 := by rw [whyS, if_pos (by show L.length ≤ e; rw [hM.out]; omega)]
        have hkK : k = K := by
          refine Nat.le_antisymm hk (Nat.le_of_not_lt fun hlt => ?_)
          have := hK.1 k hlt
          rw [← hxe, hw1] at this; omega
        have hXK' : XK = ⟨c, e, n, sd⟩ := by rw [← hXK.out, hxe, hkK]
        have hYK' : YK = 1 := by rw [← hYK.out, hXK', hw1]
        subst hXK' hYK'
        have heb : ((e : Int) == (e : Int)) = true := by simp
        have s1 := hide (set5 hh'.out (.int .i64 1))
        have s2 := hide ((heap_setCell_other wr ⟨w.heap.size + 1, 4, none⟩ w.heap.size (.int .i64 1) (by simp)).trans hr'.out)
        have s3 := hide (hP'.out.set hh'.out (o := 4) (.int .i64 1))
        have s4 := hide (hB'.out.setCell (p := ⟨w.heap.size + 1, 4, none⟩) (by simp) (.int .i64 1))
        replace hxe := hide hxe
        replace hkK := hide hkK
        clear e1 e2 e3 e4 e5 hxc hw1
        go_upto_region 8 with fail
        clear k0 k1 k2 k3 k4 f0 f1 f2 f3 f4 r0 r1 r2 r3 r4 q0 q1 q2 q3 q4
        revert s1 s2 s3 s4
        generalize wr.setCell ⟨w.heap.size + 1, 4, none⟩ (.int .i64 1) = wq
        intro s1 s2 s3 s4
        obtain ⟨k0, k1, k2, k3, k4, -⟩ := five s1.out
        obtain ⟨r0, r1, r2, r3, r4, q0, q1, q2, q3, q4⟩ := five s2.out
        go_wp2_with fail
        have h5 := put5_heap s2.out (.int .i64 (c : Int)) (.int .i64 (e : Int)) (.int .i64 (n : Int)) (.int .u32 (sd.toNat : Int)) (.int .i64 1)
        have hP5 := s3.out.put5 s2.out (.int .i64 (c : Int)) (.int .i64 (e : Int)) (.int .i64 (n : Int)) (.int .u32 (sd.toNat : Int)) (.int .i64 1)
        have hB5 := s4.out.grown (put5_grown wq w.heap.size (.int .i64 (c : Int)) (.int .i64 (e : Int)) (.int .i64 (n : Int)) (.int .u32 (sd.toNat : Int)) (.int .i64 1)) s4.out.size (fun k e => by cases e; omega)
        unfold put5 put2 at h5 hP5 hB5
        clear k0 k1 k2 k3 k4 r0 r1 r2 r3 r4 q0 q1 q2 q3 q4
        obtain ⟨k0, k1, k2, k3, k4, -⟩ := five h5
        refine bodyPost_ret (by simp [results, Try.results6, go_sem, k0, k1, k2, k3, k4]; rfl) rfl ?_
        exact ⟨ps, _, rfl, by rw [hps'.out, hkK.out], hP5, hB5⟩
      · have heb : ((e : Int) == (M : Int)) = false := by simp; omega
        have hlt : e < M := by omega
        have HSD := hide (fun (q : World) (hq : Below w.heap.size w q) => SD.out e q (by omega) hq)
        generalize hzo : (if ca = e then ao else Option.map (fun x : Addr => x.add e) ao) = zo at *
        obtain ⟨LL, DD, NN, SS, EE, hF⟩ : ∃ LL DD NN SS EE, Hid (rdF sd (L.drop e) = (LL, DD, NN, SS, EE)) := ⟨_, _, _, _, _, rfl⟩
        obtain ⟨dn, hdn⟩ : ∃ dn, Hid (DD.length = dn) := ⟨_, rfl⟩
        have RR : Hid (∀ q : World, Below w.heap.size w q → Calls Try.prog 17 #[.int .u32 (sd.toNat : Int), .slice zo (M - e) (ca - e)] q fun e w' => ∃ v', e = .returned (.tuple #[.agg #[.int .i64 LL, v'], .int .i64 NN, .int .u32 (SS.toNat : Int), .int .i64 EE]) ∧ w'.ownsRow q.heap.size 5 1 v' DD.length (bvals DD) ∧ Below q.heap.size q w') := fun q hq => by
          have := refRead_any q sd _ (L.drop e) (HSD.out q hq)
          rw [hF.out] at this
          exact this
        replace hxe := hide hxe
        have E1 := hide (And.intro e1 (And.intro e2 (And.intro e5 hxc)))
        have e1' : (e : Int) ≤ (M : Int) := by omega
        clear e1 e2 e3 e4 e5 hxc
        go_upto_region 9 with fail
        go_cut [12, 13, 14, 15] from 33 to 44 (fun y0 y1 y2 y3 wx => ∃ bq vq, y0 = .pointer (some ⟨bq, 0, none⟩) ∧ y1 = .int .i64 NN ∧ y2 = .int .u32 (SS.toNat : Int) ∧ y3 = .int .i64 EE ∧ Hid (Rdd wr wx bq vq LL DD))
        case first =>
          have KS : Hid (∀ q : World, Below wr.heap.size wr q → Below w.heap.size w q ∧ q.cell? ⟨w.heap.size + 1, 1, none⟩ = some (.int .i64 (e : Int)) ∧ q.cell? ⟨w.heap.size + 1, 3, none⟩ = some (.int .u32 (sd.toNat : Int))) := fun q hq => by
            obtain ⟨-, a1, -, a3, -⟩ := five ((hq.block (w.heap.size + 1) (heap_lt hh'.out)).trans hh'.out)
            exact ⟨keepF hB'.out hq, a1, a3⟩
          have hS0 := KS.out wr.drew (Below.refl _ _).drew
          clear k0 k1 k2 k3 k4 f0 f1 f2 f3 f4 r0 r1 r2 r3 r4 q0 q1 q2 q3 q4
          go_region_held3 (fun q => Below w.heap.size w q ∧ q.cell? ⟨w.heap.size + 1, 1, none⟩ = some (.int .i64 (e : Int)) ∧ q.cell? ⟨w.heap.size + 1, 3, none⟩ = some (.int .u32 (sd.toNat : Int)))
            (first | exact hS0 | assumption | exact KS.out _ KP | exact KS.out _ (KQ _ _) | exact KS.out _ (KA _) | exact KS.out _ (Below.drew (Below.alloc (Below.refl _ _) (Nat.le_refl _) _)) | fail)
            (first
              | (go_at_call 17; refine (RR.out _ (And.left (by assumption))).mono ?_; rintro ee u1 ⟨v4, rfl, O4, B4⟩
                 first
                   | (have A4 : Hid (Rdz wr u1 v4 DD) := Rdz.of B4 O4
                      have KQ := fun a b => Rdz.low (a := a) (b := b) A4.out (Below.refl _ wr)
                      have KP := A4.out.2.2
                      obtain ⟨x0, xa, xb, xc⟩ := two_cells A4.out.1)
                   | (have A5 : Hid (Rdy wr u1 v4 DD) := Rdy.of B4 O4
                      have KP := A5.out.2
                      have KA := fun o => Below.alloc KP (Below.size KP) o)
                   | fail
                 obtain ⟨ao4, ca4, rfl⟩ := (Sl.of_owns O4).form hdn.out)
              | fail)
          all_goals
            go_wp2_with fail
            go_meet
            case rel => first | exact ⟨_, _, rfl, rfl, rfl, rfl, Rdy.fin A5.out⟩ | exact ⟨_, _, rfl, rfl, rfl, rfl, Rdz.fin A4.out⟩
        case rest =>
          obtain ⟨bq, vq, rfl, rfl, rfl, rfl, hd⟩ := hcut
          obtain ⟨d1, d2, d3, d4⟩ := hd.out
          clear hd
          rw [hdn.out] at d2
          obtain ⟨aq, cq, rfl⟩ := owns_form d2
          have hhc := hide ((d3.block _ (heap_lt hh'.out)).trans hh'.out)
          have hrc := hide ((d3.block _ (heap_lt hr'.out)).trans hr'.out)
          have hPc := hide (hP'.out.below d3)
          have hBc := hide (keepF hB'.out d3)
          have hdc := hide (owns_lower d2 hB'.out.size)
          obtain ⟨m0, m1, -, -⟩ := two_cells d1
          have hwy : Hid (whyS L ⟨c, e, n, sd⟩ = whyOf EE LL (n : Int)) := by
            show _ = _
            rw [whyS_of (by show e < L.length; rw [hM.out]; exact hlt)]
            simp only [hF.out]
          have hEE : EE = 0 ∨ EE = 2 ∨ EE = 3 ∨ EE = 4 ∨ EE = 5 := by
            have := whyS_of (L := L) (x := ⟨c, e, 0, sd⟩) (by show e < L.length; rw [hM.out]; exact hlt)
            have key : ∀ s l, (rdF s l).2.2.2.2 = 0 ∨ (rdF s l).2.2.2.2 = 2 ∨ (rdF s l).2.2.2.2 = 3 ∨ (rdF s l).2.2.2.2 = 4 ∨ (rdF s l).2.2.2.2 = 5 := by
              intro s l
              unfold rdF
              split
              · exact .inl rfl
              · show rdE s l = 0 ∨ rdE s l = 2 ∨ rdE s l = 3 ∨ rdE s l = 4 ∨ rdE s l = 5
                unfold rdE
                repeat' split
                all_goals simp
            have h := key sd (L.drop e)
            rw [hF.out] at h
            exact h
          clear k0 k1 k2 k3 k4 f0 f1 f2 f3 f4 r0 r1 r2 r3 r4 q0 q1 q2 q3 q4 d1 d2 d3 d4 RR
          obtain ⟨k0, k1, k2, k3, k4, f0, f1, f2, f3, f4⟩ := five hhc.out
          have stop : ∀ Y : Int, Y ≠ 0 → whyS L ⟨c, e, n, sd⟩ = Y → Hid (ALoop w L x0 K (.slice gv ps.length cv) (wc.setCell ⟨w.heap.size + 1, 4, none⟩ (.int .i64 Y))) ∧ msS (wc.setCell ⟨w.heap.size + 1, 4, none⟩ (.int .i64 Y)) (w.heap.size + 1) K < msS wr (w.heap.size + 1) K := fun Y hY0 hY => by
            have hkK := isK_here hK hk (by rw [← hxe.out, hY]; exact hY0)
            have s1 := set5 hhc.out (.int .i64 Y)
            refine ⟨⟨k, ⟨c, e, n, sd⟩, Y, ps, s1, (heap_setCell_other wc ⟨w.heap.size + 1, 4, none⟩ w.heap.size (.int .i64 Y) (by simp)).trans hrc.out, hPc.out.set hhc.out _, hBc.out.setCell (p := ⟨w.heap.size + 1, 4, none⟩) (by simp) _, hps'.out, hk, .inr ⟨hY0, hkK, by rw [hxe.out, hkK], by rw [← hkK, ← hxe.out, hY]⟩⟩, ?_⟩
            rw [msS_eq (x := ⟨c, e, n, sd⟩) s1, msS_eq (x := ⟨c, e, n, sd⟩) hh'.out, if_neg hY0, if_pos rfl]
            omega
          replace stop := hide stop
          by_cases hE0 : EE = 0
          · subst hE0
            by_cases hLn : LL = (n : Int)
            · subst hLn
              have hw0 : whyS L ⟨c, e, n, sd⟩ = 0 := by rw [hwy.out]; unfold whyOf; simp
              obtain ⟨z1', z2, z3, z4, z5, z6, z7, z8, z9, z10⟩ := why_zero hw0
              have EN : nxt L ⟨c, e, n, sd⟩ = ⟨c + 1, e + NN.toNat, n + 1, SS⟩ := by simp only [nxt, hF.out]
              have ED : dat L ⟨c, e, n, sd⟩ = DD := by simp only [dat, hF.out]
              rw [EN] at z6 z7 z8
              rw [hF.out] at z8
              simp only at z4 z5 z6 z7 z8
              rw [hM.out] at z6
              obtain ⟨zn, rfl⟩ : ∃ zn : Nat, NN = (zn : Int) := ⟨NN.toNat, by omega⟩
              rw [Int.toNat_natCast] at EN z6
              have hkK : k < K := by
                refine Nat.lt_of_le_of_ne hk fun h => hK.2 ?_
                rw [← h, ← hxe.out]; exact hw0
              obtain ⟨u1, u2, u3, u4⟩ := E1.out
              have o1 : (c : Int) + 1 ≤ 9223372036854775807 := by omega
              have o2 : (e : Int) + (zn : Int) ≤ 9223372036854775807 := by omega
              have o3 : (n : Int) + 1 ≤ 9223372036854775807 := by omega
              have hpl : ps.length = k := by have := congrArg List.length hps'.out; simpa using this
              obtain ⟨N, hN⟩ : ∃ N, Hid (ps.length = N) := ⟨_, rfl⟩
              have hNs : N ≤ 1099511627776 := by rw [← hN.out]; omega
              have ROW := hide hPc.out.row
              rw [hN.out] at ROW
              obtain ⟨i0, hi, hz0, hz1, hz2⟩ := info_parts Try.infoPlc
              have hszc := hide hBc.out.size
              have HZ := hide (And.intro z4 (And.intro z5 (And.intro z6 hkK)))
              have hpl' := hide hpl
              replace EN := hide EN
              replace ED := hide ED
              clear z1' z2 z3 z4 z5 z6 z7 z8 z9 z10 hw0 hEE hpl hkK stop u1 u2 u3 u4
              rw [hN.out]
              go_wp2_with (at_builtin; refine wpList_append_own _ rfl (.tmp 53) (.tmp 58) 29 rfl w.heap.size 43 i0 (.agg #[.int .i64 0, .int .i64 0, .slice none 0 0]) 3 40 Try.underlying29 hi hz0 hz1 hz2 rfl (by decide) _ N (pcells ps) rfl (ROW.out.alloc _) ⟨wc.heap.size, 0, none⟩ 1 1 [.int .i64 (e : Int), .int .i64 (n : Int), .slice aq dn cq] rfl rfl (three_new _ _ _ _ _) (by simp [Value.oneCell']) (by unfold maxLen; omega) (by omega) (by have := hszc.out; simp; omega) ?_)
              intro v7 w7 ho7 g7 _
              obtain ⟨g7', c7, rfl⟩ := owns_form ho7
              have hnb := owns_no hPc.out.row hhc.out (by decide)
              have hnr := owns_no hPc.out.row hrc.out (by decide)
              rw [hN.out] at hnb hnr
              have b7 : But (fun j => (Value.slice gv N cv).ownBlock = some j) wc w7 := (But.alloc _ _ _).trans (But.of_grownBy g7 fun j e => e)
              have hh7 := hide (b7.at hhc.out hnb)
              have hr7 := hide (b7.at hrc.out hnr)
              have hB7 := hide (hBc.out.trans (b7.below hszc.out fun j hj => (ROW.out.lt j hj).1))
              have hd7 : Hid (∀ (u : Value) (m : Nat) (l : List Value), wc.ownsRow w.heap.size 5 1 u m l → w7.ownsRow w.heap.size 5 1 u m l) := fun u m l ho => owns_but ho b7 (fun j hj => owns_two ho ROW.out (by decide) j hj)
              have hP7 : Hid (Plc w.heap.size L w7 (ps ++ [(⟨c, e, n, sd⟩, .slice aq dn cq)]) (.slice g7' (N + 1) c7)) := by
                refine ⟨?_, fun p hp => ?_⟩
                · rw [pcells_snoc, List.length_append, hN.out]; exact ho7
                · rcases List.mem_append.1 hp with hp | hp
                  · exact hd7.out _ _ _ (hPc.out.data p hp)
                  · rw [List.mem_singleton.1 hp]
                    show w7.ownsRow _ _ _ _ (dat L ⟨c, e, n, sd⟩).length (bvals (dat L ⟨c, e, n, sd⟩))
                    rw [ED.out, hdn.out]
                    exact hd7.out _ _ _ hdc.out
              clear k0 k1 k2 k3 k4 f0 f1 f2 f3 f4 m0 m1 g7 ho7 b7 hnb hnr ROW hd7 hPc hdc
              obtain ⟨k0, k1, k2, k3, k4, f0, f1, f2, f3, f4⟩ := five hh7.out
              go_wp2_with fail
              have h4 := set4 hh7.out (.int .i64 ((c : Int) + 1)) (.int .i64 ((e : Int) + (zn : Int))) (.int .i64 ((n : Int) + 1)) (.int .u32 (SS.toNat : Int))
              have gr := set4_grown w7 (w.heap.size + 1) (.int .i64 ((c : Int) + 1)) (.int .i64 ((e : Int) + (zn : Int))) (.int .i64 ((n : Int) + 1)) (.int .u32 (SS.toNat : Int))
              revert h4 gr
              generalize (((w7.setCell ⟨w.heap.size + 1, 0, none⟩ (.int .i64 ((c : Int) + 1))).setCell ⟨w.heap.size + 1, 1, none⟩ (.int .i64 ((e : Int) + (zn : Int)))).setCell ⟨w.heap.size + 1, 2, none⟩ (.int .i64 ((n : Int) + 1))).setCell ⟨w.heap.size + 1, 3, none⟩ (.int .u32 (SS.toNat : Int)) = U
              intro h4 gr
              have h4' : U.heap[w.heap.size + 1]? = some (.cells (scc ⟨c + 1, e + zn, n + 1, SS⟩ 0) 28 (0, 0)) := by
                rw [h4]; simp [scc]
              refine ⟨⟨k + 1, ⟨c + 1, e + zn, n + 1, SS⟩, 0, _, h4', ?_, ⟨hP7.out.row.kept gr (.inr (owns_no hP7.out.row hh7.out (by decide))), fun p hp => (hP7.out.data p hp).kept gr (.inr (owns_no (hP7.out.data p hp) hh7.out (by decide)))⟩, hB7.out.grown gr hB7.out.size (fun j e => by cases e; omega), ?_, HZ.out.2.2.2, .inl ⟨rfl, ?_⟩⟩, ?_⟩
              · rw [gr.block _ (heap_lt hr7.out) (by simp)]; exact hr7.out
              · rw [List.map_append, hps'.out, List.range_succ, List.map_append, hxe.out]; rfl
              · show _ = nxt L (Sst L x0 k)
                rw [← hxe.out, EN.out]
              · rw [msS_eq h4', msS_eq (x := ⟨c, e, n, sd⟩) hh'.out, if_pos rfl]
                have := HZ.out.2.2.2
                have := E1.out.2.2.2
                show 2 * (K - (c + 1)) + 1 < 2 * (K - c) + 1
                omega
            · have hne : (LL != (n : Int)) = true := by simpa using hLn
              have h6 := stop.out 6 (by omega) (by rw [hwy.out]; unfold whyOf; simp [hLn])
              clear hEE
              go_wp2_with fail
              exact h6
          · have hne : (EE != 0) = true := by simpa using hE0
            have hE' : EE = 2 ∨ EE = 3 ∨ EE = 4 ∨ EE = 5 := by omega
            have h6 := stop.out EE hE0 (by rw [hwy.out]; unfold whyOf; rcases hE' with h | h | h | h <;> simp [h])
            have hwr := hide (refWhy_any wc EE hE')
            clear hEE hE'
            go_wp2_with (go_at_call 18; refine hwr.out.mono ?_; rintro ee w9 ⟨rfl, rfl⟩)
            exact h6
    · have hXK' : XK = x := by rw [← hXK.out, hxe]
      have hYK' : YK = y := by rw [← hYK.out, hXK', hxe, hyy]
      subst hXK' hYK'
      have hyb : (YK == 0) = false := by simpa using hy
      replace hxe := hide hxe
      replace hyy := hide hyy
      subst hkK
      obtain ⟨c, e, n, sd⟩ := XK
      simp only at k0 k1 k2 k3 hh'
      go_wp2_with fail
      have h5 := put5_heap hr'.out (.int .i64 (c : Int)) (.int .i64 (e : Int)) (.int .i64 (n : Int)) (.int .u32 (sd.toNat : Int)) (.int .i64 YK)
      have hP5 := hP'.out.put5 hr'.out (.int .i64 (c : Int)) (.int .i64 (e : Int)) (.int .i64 (n : Int)) (.int .u32 (sd.toNat : Int)) (.int .i64 YK)
      have hB5 := hB'.out.grown (put5_grown wr w.heap.size (.int .i64 (c : Int)) (.int .i64 (e : Int)) (.int .i64 (n : Int)) (.int .u32 (sd.toNat : Int)) (.int .i64 YK)) hB'.out.size (fun k e => by cases e; omega)
      unfold put5 put2 at h5 hP5 hB5
      clear k0 k1 k2 k3 k4 f0 f1 f2 f3 f4 r0 r1 r2 r3 r4 q0 q1 q2 q3 q4
      obtain ⟨k0, k1, k2, k3, k4, -⟩ := five h5
      refine bodyPost_ret (by simp [results, Try.results6, go_sem, k0, k1, k2, k3, k4]; rfl) rfl ?_
      exact ⟨ps, _, rfl, hps'.out, hP5, hB5⟩

end Go.Proofs.Ytebhkdaefjmbnaa
