/-
  The walk of FrameReads.
-/
import Derived.Test.YtophaolgmpdimaaFr
import Derived.Test.YtophaolgmpdimaaLent
import Derived.Test.YtophaolgmpdimaaNewL
import Derived.Deep.CutRange
import Derived.Deep.RegionHeld3
namespace Go.Proofs.Ytophaolgmpdimaa
open Go.RowKit
set_option maxRecDepth 100000

/-- A record that was read into a variable: its block, its data's own memory. -/
def Rdd (W wx : World) (bq : Nat) (vq : Value) (L : Int) (D : List UInt8) : Prop :=
  wx.heap[bq]? = some (.cells #[.int .i64 L, vq] 34 (0, 0)) ∧ wx.ownsRow W.heap.size 5 1 vq D.length (bvals D) ∧ Below W.heap.size W wx ∧ W.heap.size ≤ bq
def Rdz (W u : World) (v : Value) (D : List UInt8) : Prop :=
  u.heap[W.heap.size]? = some (.cells #[.int .i64 0, .slice none 0 0] 34 (0, 0)) ∧ u.ownsRow W.heap.size 5 1 v D.length (bvals D) ∧ Below W.heap.size W u
def Rdy (W u : World) (v : Value) (D : List UInt8) : Prop := u.ownsRow W.heap.size 5 1 v D.length (bvals D) ∧ Below W.heap.size W u
theorem Rdz.of {W u : World} {v : Value} {D : List UInt8} (h : Below (W.alloc (.cells #[.int .i64 0, .slice none 0 0] 34)).drew.heap.size (W.alloc (.cells #[.int .i64 0, .slice none 0 0] 34)).drew u) (o : u.ownsRow (W.alloc (.cells #[.int .i64 0, .slice none 0 0] 34)).drew.heap.size 5 1 v D.length (bvals D)) : Rdz W u v D :=
  ⟨by rw [h.block W.heap.size (by simp)]; exact heap_alloc_new _ _, owns_lower o (by simp), keepF (box_below W _).drew h⟩
theorem Rdy.of {W u : World} {v : Value} {D : List UInt8} (h : Below W.drew.heap.size W.drew u) (o : u.ownsRow W.drew.heap.size 5 1 v D.length (bvals D)) : Rdy W u v D :=
  ⟨o, keepF (Below.refl _ _).drew h⟩
theorem Rdz.low {w W u : World} {v a b : Value} {D : List UInt8} (h : Rdz W u v D) (hB : Below w.heap.size w W) : Below w.heap.size w (put2 u W.heap.size a b) := put2_below (keepF hB h.2.2) hB.size a b
theorem Rdz.below {w W u : World} {v : Value} {D : List UInt8} (h : Rdz W u v D) (hB : Below w.heap.size w W) : Below w.heap.size w u := keepF hB h.2.2
theorem Rdy.below {w W u : World} {v : Value} {D : List UInt8} (h : Rdy W u v D) (hB : Below w.heap.size w W) : Below w.heap.size w u := keepF hB h.2
theorem Rdy.al {w W u : World} {v : Value} {D : List UInt8} (h : Rdy W u v D) (hB : Below w.heap.size w W) (o : Obj) : Below w.heap.size w (u.alloc o) := keepF (keepF hB h.2) (box_below _ _)
theorem Rdz.fin {W u : World} {v : Value} {L : Int} {D : List UInt8} (h : Rdz W u v D) : Rdd W (put2 u W.heap.size (.int .i64 L) v) W.heap.size v L D :=
  ⟨put2_heap h.1 _ _, put2_owns h.2.1 h.1, put2_below h.2.2 (Nat.le_refl _) _ _, Nat.le_refl _⟩
theorem Rdy.fin {W u : World} {v : Value} {L : Int} {D : List UInt8} (h : Rdy W u v D) : Rdd W (u.alloc (.cells #[.int .i64 L, v] 34)) u.heap.size v L D :=
  ⟨heap_alloc_new _ _, h.1.alloc _, keepF h.2 (box_below _ _), h.2.size⟩
theorem Rdd.below {W u v : World} {bq : Nat} {vq : Value} {L : Int} {D : List UInt8} (h : Rdd W u bq vq L D) (hb : Below u.heap.size u v) : Rdd W v bq vq L D :=
  ⟨by rw [hb.block bq (heap_lt h.1)]; exact h.1, ownsRow_below h.2.1 hb, keepF h.2.2.1 hb, h.2.2.2⟩
theorem Rdd.grown {W u v : World} {bq g : Nat} {vq : Value} {L : Int} {D : List UInt8} (h : Rdd W u bq vq L D) (hg : u.grownBy v (some g)) (hlt : g < W.heap.size) (w : World) (hw : w.heap.size ≤ g) (hB : Below w.heap.size w W) : v.heap[bq]? = some (.cells #[.int .i64 L, vq] 34 (0, 0)) ∧ v.ownsRow W.heap.size 5 1 vq D.length (bvals D) ∧ Below w.heap.size w v := by
  obtain ⟨h1, h2, h3, h4⟩ := h
  refine ⟨?_, ?_, ?_⟩
  · rw [hg.block bq (heap_lt h1) (by simp; omega)]; exact h1
  · refine h2.kept hg ?_
    cases hv : vq.ownBlock with
    | none => exact Or.inl rfl
    | some k => exact Or.inr (fun e => by have := (h2.lt k hv).1; simp at e; omega)
  · exact (keepF hB h3).grown hg (keepF hB h3).size (fun k hk => by simp at hk; omega)
/-- Two lists, each in memory of its own. -/
theorem newL2 {u U : World} {v1 v2 : Value} {l1 l2 : List UInt8} {b : Nat} (hB : Below u.heap.size u U) (h1 : U.ownsRow u.heap.size 5 1 v1 l1.length (bvals l1)) (hlt : ∀ k, v1.ownBlock = some k → k < b) (h2 : U.ownsRow b 5 1 v2 l2.length (bvals l2)) (hb : u.heap.size ≤ b) (n1 : l1.length ≤ 281474976710656) (n2 : l2.length ≤ 281474976710656) :
    ∃ t1 t2, v1 = slx t1 ∧ v2 = slx t2 ∧ NewL u U [t1, t2] := by
  obtain ⟨t1, e1, o1⟩ := own_slv h1 n1
  obtain ⟨t2, e2, o2⟩ := own_slv h2 n2
  refine ⟨t1, t2, by rw [e1, slv_slx], by rw [e2, slv_slx], hB, fun t ht => ?_, ?_⟩
  · cases t1 <;> cases t2 <;> simp [somes] at ht
    · subst ht; exact (o2 _ rfl).lower hb
    · subst ht; exact o1 _ rfl
    · rcases ht with rfl | rfl
      · exact o1 _ rfl
      · exact (o2 _ rfl).lower hb
  · cases t1 with
    | none => cases t2 <;> simp [somes]
    | some t1 =>
      cases t2 with
      | none => simp [somes]
      | some t2 =>
        have a := hlt t1.1 (by rw [e1]; rfl)
        obtain ⟨_, _, _, _, _, _, c⟩ := o2 t2 rfl
        simp [somes]
        omega
theorem own_lt {w : World} {base n : Nat} {v : Value} {xs : List Value} (h : w.ownsRow base 5 1 v n xs) : ∀ k, v.ownBlock = some k → k < w.heap.size := fun k hk => (h.lt k hk).2

set_option maxHeartbeats 8000000 in
theorem freads_walk (w : World) (x z : Value) (vs : List Value) (ls : List (List UInt8)) (us : List Int) (hx : Row w x vs) (hs : Sls w vs ls) (hl : ∀ l ∈ ls, l.length ≤ 140737488351232) (hz : Row w z (us.map (Value.int .u32))) (hu : ∀ n ∈ us, (Lit.int .u32 n).wf = true) :
    Calls Try.prog 4 #[x, z] w fun e w' => e = .returned (.bool true) ∧ Below w.heap.size w w' := by
  obtain ⟨a1, c1, rfl, _, m1, m2, g1⟩ := hx
  obtain ⟨a2, c2, rfl, _, n1, n2, g2⟩ := hz
  obtain ⟨n, hn⟩ : ∃ n, Hid (vs.length = n) := ⟨_, rfl⟩
  obtain ⟨m, hm⟩ : ∃ m, Hid ((us.map (Value.int .u32)).length = m) := ⟨_, rfl⟩
  have hv : n ≤ 9223372036854775807 := by rw [← hn.out]; unfold maxLen at m2; omega
  have hv2 : m ≤ 9223372036854775807 := by rw [← hm.out]; unfold maxLen at n2; omega
  rw [hn.out, hm.out]
  replace g1 : Hid (At w a1 vs) := g1
  replace g2 : Hid (At w a2 (us.map (Value.int .u32))) := g2
  replace hl : Hid (∀ l ∈ ls, l.length ≤ 140737488351232) := hl
  replace hs : Hid (Sls w vs ls) := hs
  replace hu : Hid (∀ n ∈ us, (Lit.int .u32 n).wf = true) := hu
  clear m1 m2 n1 n2
  go_enter Try.func4, Try.ntmps4
  go_wp2_with fail
  refine (begun6_any _).mono ?_
  rintro e w1 ⟨rfl, hb1⟩
  replace hb1 := hide hb1
  go_wp2_with fail
  have HB2 : Hid (Below w.heap.size w (w1.alloc (.cells #[.slice none 0 0, .int .i64 0] 30))) := keepF hb1.out (box_below _ _)
  have HK0 : Hid (Kept (w1.alloc (.cells #[.slice none 0 0, .int .i64 0] 30)) w1.heap.size w1.heap.size [] 0) := ⟨.slice none 0 0, heap_alloc_new _ _, World.ownsRow_nil _ _ _ _, by simp, by decide⟩
  have hwk : Hid (w.heap.size ≤ w1.heap.size) := hb1.out.size
  generalize w1.alloc (.cells #[.slice none 0 0, .int .i64 0] 30) = w2 at *
  generalize w1.heap.size = kb at *
  clear hb1
  go_loopw [6] (fun vi wr => ∃ (i : Nat), vi = .int .i64 (i : Int) ∧ i ≤ n ∧ Hid (∃ its size, Kept wr kb kb its size ∧ Items wr kb its) ∧ Hid (Below w.heap.size w wr)) (fun i _ => n - (intOf i).toNat)
  case atStart => exact ⟨0, rfl, Nat.zero_le _, ⟨[], 0, HK0.out, fun t ht => by simp at ht, by simp⟩, HB2.out⟩
  case round =>
    clear HK0 HB2
    obtain ⟨i, rfl, hin, hK, hB⟩ := hrel
    obtain ⟨its, size, hKK, hII⟩ := hK.out
    have HKK := hide hKK
    have HII := hide hII
    clear hKK hII hK
    by_cases hgo : i < n ∧ i < m ∧ i < 40
    · obtain ⟨gi, gj, gk⟩ := hgo
      have i1 : (i : Int) < (n : Int) := by omega
      have i2 : (i : Int) < (m : Int) := by omega
      have i3 : (i : Int) < 40 := by omega
      have i0 : (0 : Int) ≤ (i : Int) := by omega
      have hkv : i < vs.length := by rw [hn.out]; omega
      have hkl : i < ls.length := by have := hs.out.1; omega
      have hku : i < us.length := by have := hm.out; simp at this; omega
      have hSk := hs.out.2 i hkv hkl
      have hLk := hl.out ls[i] (List.getElem_mem hkl)
      obtain ⟨sd, hsd⟩ := u32_bv (hu.out us[i] (List.getElem_mem hku))
      obtain ⟨x1, o1, rfl, d1⟩ := g1.out i hkv
      obtain ⟨z1, o2, rfl, d2⟩ := g2.out i (by rw [hm.out]; omega)
      simp only [List.getElem_map] at d2
      rw [hsd] at d2
      have l1 := lt_of_cell d1
      have l2 := lt_of_cell d2
      generalize vs[i] = vv at *
      generalize ls[i] = ll at *
      have HSk := hide hSk
      obtain ⟨N, hN⟩ : ∃ N, Hid (ll.length = N) := ⟨_, rfl⟩
      obtain ⟨va, vc, rfl⟩ := hSk.form hN.out
      have KS : Hid (∀ v : World, Below w.heap.size w v → Below w.heap.size w v ∧ v.cell? ⟨x1, o1 + i, none⟩ = some (.slice va N vc) ∧ v.cell? ⟨z1, o2 + i, none⟩ = some (.int .u32 (sd.toNat : Int))) := fun v hv => ⟨hv, (hv.cell l1).trans d1, (hv.cell l2).trans d2⟩
      obtain ⟨LL, DD, NN, SS, EE, hF⟩ : ∃ LL DD NN SS EE, Hid (rdF sd ll = (LL, DD, NN, SS, EE)) := ⟨_, _, _, _, _, rfl⟩
      have hDb : Hid (DD.length ≤ 4096) := by
        show _ ≤ _
        have h := hF.out
        by_cases h0 : (rdF sd ll).2.2.2.2 = 0
        · obtain ⟨_, b, _, _, _, c, d, _⟩ := wr_back h0
          rw [h] at b
          simp only [Prod.mk.injEq] at b
          rw [b.2.1, c]; exact d
        · have b := rd_zero h0
          rw [h] at b
          simp only [Prod.mk.injEq] at b
          rw [b.2.1]; simp
      obtain ⟨M, DDl⟩ : ∃ M, Hid (DD.length = M) := ⟨_, rfl⟩
      clear d1 d2 l1 l2 hSk hsd
      obtain ⟨_, e1, e2⟩ := KS.out wr hB.out
      go_wp2_with fail
      refine (lent_any wr _ ll (Below.sl hB.out HSk.out) (by omega)).mono ?_
      rintro e w3 ⟨g, v3, rfl, t3, b3, hg3⟩
      have hgr := hide hg3
      have hg0 : Hid (w.heap.size ≤ g) := by have := hB.out.size; show _ ≤ _; omega
      have hgl := hide t3.lt
      have hB3 := hide (keepF hB.out b3)
      have hR3 := hide (read_any w3 sd v3 ll t3.sl)
      rw [hF.out] at hR3
      replace t3 := hide t3
      replace b3 := hide b3
      clear e1 e2 hg3
      obtain ⟨_, e1, e2⟩ := KS.out w3 hB3.out
      go_wp2_with fail
      refine hR3.out.mono ?_
      rintro e w4 ⟨v4, rfl, ho4, b4⟩
      have hd4 : Hid (Rdd w3 (w4.alloc (.cells #[.int .i64 LL, v4] 34)) w4.heap.size v4 LL DD) := Rdy.fin ⟨ho4, b4⟩
      have t4 := hide ((t3.out.below b4).below (box_below w4 (.cells #[.int .i64 LL, v4] 34)))
      obtain ⟨ao4, ca4, rfl⟩ := (Sl.of_owns ho4).form DDl.out
      clear ho4 b4 hR3 e1 e2 t3
      go_upto_region 9 with fail
      have hB4 := hide (keepF hB3.out hd4.out.2.2.1)
      have hb4s := hide hd4.out.2.2.1.size
      generalize hbq : w4.heap.size = b4 at *
      generalize w4.alloc (.cells #[.int .i64 LL, .slice ao4 M ca4] 34) = w5 at *
      clear hbq
      go_cut [12, 13, 14, 15] from 56 to 69 (fun y0 y1 y2 y3 wx => ∃ bq vq, y0 = .pointer (some ⟨bq, 0, none⟩) ∧ y1 = .int .i64 NN ∧ y2 = .int .u32 (SS.toNat : Int) ∧ y3 = .int .i64 EE ∧ Hid (Rdd w5 wx bq vq LL DD))
      case first =>
        have hS0 := KS.out w5.drew hB4.out.drew
        have RR : Hid (∀ q : World, Below w.heap.size w q → Calls Try.prog 19 #[.int .u32 (sd.toNat : Int), .slice va N vc] q fun e w' => ∃ v', e = .returned (.tuple #[.agg #[.int .i64 LL, v'], .int .i64 NN, .int .u32 (SS.toNat : Int), .int .i64 EE]) ∧ w'.ownsRow q.heap.size 5 1 v' DD.length (bvals DD) ∧ Below q.heap.size q w') := fun q hb => by
          have := refRead_any q sd _ ll (Below.sl hb HSk.out)
          rw [hF.out] at this
          exact this
        go_region_held3 (fun q => Below w.heap.size w q ∧ q.cell? ⟨x1, o1 + i, none⟩ = some (.slice va N vc) ∧ q.cell? ⟨z1, o2 + i, none⟩ = some (.int .u32 (sd.toNat : Int)))
          (first | exact hS0 | assumption | exact KS.out _ KP | exact KS.out _ (KQ _ _) | exact KS.out _ (KA _) | exact KS.out _ (Below.drew (Below.alloc hB4.out (Below.size hB4.out) _)) | fail)
          (first
            | (go_at_call 19; refine (RR.out _ (And.left (by assumption))).mono ?_; rintro e u1 ⟨v4, rfl, O4, B4⟩
               first
                 | (have A4 : Hid (Rdz w5 u1 v4 DD) := Rdz.of B4 O4
                    have KQ := fun a b => Rdz.low (a := a) (b := b) A4.out hB4.out
                    have KP := Rdz.below A4.out hB4.out
                    obtain ⟨x0, xa, xb, xc⟩ := two_cells A4.out.1)
                 | (have A5 : Hid (Rdy w5 u1 v4 DD) := Rdy.of B4 O4
                    have KP := Rdy.below A5.out hB4.out
                    have KA := fun o => Rdy.al A5.out hB4.out o)
                 | fail
               obtain ⟨ao4, ca4, rfl⟩ := (Sl.of_owns O4).form DDl.out)
            | fail)
        all_goals
          go_wp2_with fail
          go_meet
          case rel => first | exact ⟨_, _, rfl, rfl, rfl, rfl, Rdy.fin A5.out⟩ | exact ⟨_, _, rfl, rfl, rfl, rfl, Rdz.fin A4.out⟩
      case rest =>
        obtain ⟨b6, v6, rfl, rfl, rfl, rfl, hd6⟩ := hcut
        have hB6 := hide (keepF hB4.out hd6.out.2.2.1)
        have hd46 := hide (hd4.out.below hd6.out.2.2.1)
        have t6 := hide (t4.out.below hd6.out.2.2.1)
        obtain ⟨ao6, ca6, rfl⟩ := (Sl.of_owns hd6.out.2.1).form DDl.out
        obtain ⟨r0, r1, _, _⟩ := two_cells hd46.out.1
        obtain ⟨p0, p1, _, _⟩ := two_cells hd6.out.1
        obtain ⟨_, e1, e2⟩ := KS.out wc hB6.out
        have heq1 := hide (eq6_any wc LL LL _ _ DD DD (Sl.of_owns hd46.out.2.1) (Sl.of_owns hd6.out.2.1))
        rw [decide_eq_true rfl, decide_eq_true rfl, Bool.and_true] at heq1
        go_wp2_with fail
        refine heq1.out.mono ?_
        rintro e w7 ⟨rfl, b7⟩
        have hB7 := hide (keepF hB6.out b7)
        have hd47 := hide (hd46.out.below b7)
        have hd67 := hide (hd6.out.below b7)
        have t7 := hide (t6.out.below b7)
        clear heq1 b7 r0 r1 p0 p1 e1 e2 t6 hd46 hd6 t4 hd4
        obtain ⟨_, e1, e2⟩ := KS.out w7 hB7.out
        have hback := hide (back_any w w7 g v3 _ ll hB7.out HSk.out t7.out hg0.out (by omega))
        go_wp2_with fail
        refine hback.out.mono ?_
        rintro e w8 ⟨rfl, G8⟩
        have x4 := hide (hd47.out.grown G8 hgl.out w hg0.out hB3.out)
        have x6 := hide (hd67.out.grown G8 (by have := hgl.out; have := hb4s.out; omega) w hg0.out hB4.out)
        have hB8 := hide x4.out.2.2
        have hW8 := hide (hd47.out.grown G8 hgl.out wr hgr.out b3.out).2.2
        obtain ⟨r0, r1, _, _⟩ := two_cells x4.out.1
        obtain ⟨p0, p1, _, _⟩ := two_cells x6.out.1
        have heq2 := hide (eq6_any w8 LL LL _ _ DD DD (Sl.of_owns x4.out.2.1) (Sl.of_owns x6.out.2.1))
        rw [decide_eq_true rfl, decide_eq_true rfl, Bool.and_true] at heq2
        clear hback e1 e2 t7
        go_wp2_with fail
        refine heq2.out.mono ?_
        rintro e w9 ⟨rfl, b9⟩
        have hB9 := hide (keepF hB8.out b9)
        have hW9 := hide (keepF hW8.out b9)
        have y4 : Hid (w9.heap[b4]? = some (.cells #[.int .i64 LL, .slice ao4 M ca4] 34 (0, 0))) := by show _ = _; rw [b9.block b4 (heap_lt x4.out.1)]; exact x4.out.1
        have o9 := hide (ownsRow_below x4.out.2.1 b9)
        clear heq2 b9 r0 r1 p0 p1 G8 x4 x6 hd47 hd67 hB8
        go_upto_region 12 with fail
        go_cut [16, 17, 18, 19] from 104 to 117 (fun y0 y1 y2 y3 wx => ∃ bq vq, y0 = .pointer (some ⟨bq, 0, none⟩) ∧ y1 = .int .i64 NN ∧ y2 = .int .u32 (SS.toNat : Int) ∧ y3 = .int .i64 EE ∧ Hid (Rdd w9 wx bq vq LL DD))
        case first =>
          have hS0 := KS.out w9.drew hB9.out.drew
          have RR : Hid (∀ q : World, Below w.heap.size w q → Calls Try.prog 18 #[.int .u32 (sd.toNat : Int), .slice va N vc] q fun e w' => ∃ v', e = .returned (.tuple #[.agg #[.int .i64 LL, v'], .int .i64 NN, .int .u32 (SS.toNat : Int), .int .i64 EE]) ∧ w'.ownsRow q.heap.size 5 1 v' DD.length (bvals DD) ∧ Below q.heap.size q w') := fun q hb => by
            have := read_any q sd _ ll (Below.sl hb HSk.out)
            rw [hF.out] at this
            exact this
          go_region_held3 (fun q => Below w.heap.size w q ∧ q.cell? ⟨x1, o1 + i, none⟩ = some (.slice va N vc) ∧ q.cell? ⟨z1, o2 + i, none⟩ = some (.int .u32 (sd.toNat : Int)))
            (first | exact hS0 | assumption | exact KS.out _ KP | exact KS.out _ (KQ _ _) | exact KS.out _ (KA _) | exact KS.out _ (Below.drew (Below.alloc hB9.out (Below.size hB9.out) _)) | fail)
            (first
              | (go_at_call 18; refine (RR.out _ (And.left (by assumption))).mono ?_; rintro e u1 ⟨v4, rfl, O4, B4⟩
                 first
                   | (have A4 : Hid (Rdz w9 u1 v4 DD) := Rdz.of B4 O4
                      have KQ := fun a b => Rdz.low (a := a) (b := b) A4.out hB9.out
                      have KP := Rdz.below A4.out hB9.out
                      obtain ⟨x0, xa, xb, xc⟩ := two_cells A4.out.1)
                   | (have A5 : Hid (Rdy w9 u1 v4 DD) := Rdy.of B4 O4
                      have KP := Rdy.below A5.out hB9.out
                      have KA := fun o => Rdy.al A5.out hB9.out o)
                   | fail
                 obtain ⟨ao4, ca4, rfl⟩ := (Sl.of_owns O4).form DDl.out)
              | fail)
          all_goals
            go_wp2_with fail
            go_meet
            case rel => first | exact ⟨_, _, rfl, rfl, rfl, rfl, Rdy.fin A5.out⟩ | exact ⟨_, _, rfl, rfl, rfl, rfl, Rdz.fin A4.out⟩
        case rest =>
          obtain ⟨b10, v10, rfl, rfl, rfl, rfl, hd10⟩ := hcut
          have hB10 := hide (keepF hB9.out hd10.out.2.2.1)
          have y10 : Hid (wc.heap[b4]? = some (.cells #[.int .i64 LL, .slice ao4 M ca4] 34 (0, 0))) := by show _ = _; rw [hd10.out.2.2.1.block b4 (heap_lt y4.out)]; exact y4.out
          have o10 := hide (ownsRow_below o9.out hd10.out.2.2.1)
          have hBw : Hid (Below wr.heap.size wr wc) := keepF hW9.out hd10.out.2.2.1
          obtain ⟨t1, t2, q1, q2, hNL⟩ := newL2 (b := w9.heap.size) hBw.out (owns_lower o10.out b3.out.size) (own_lt o9.out) hd10.out.2.1 hW9.out.size (by have := hDb.out; omega) (by have := hDb.out; omega)
          obtain ⟨ao10, ca10, rfl⟩ := (Sl.of_owns hd10.out.2.1).form DDl.out
          obtain ⟨r0, r1, _, _⟩ := two_cells y10.out
          obtain ⟨p0, p1, _, _⟩ := two_cells hd10.out.1
          have hkeep := hide (keep_new2 wr wc kb kb its size [t1, t2] HKK.out HII.out (Nat.le_refl _) hNL (by simp) #[.slice ao4 M ca4, .slice ao10 M ca10] (by simp [q1, q2]) 2 2 rfl)
          clear q1 q2 hNL
          go_wp2_with fail
          refine hkeep.out.mono ?_
          rintro e w11 ⟨rfl, hKn, hBn⟩
          have HKn := hide hKn
          have HBn : Hid (Below w.heap.size w w11) := hB.out.trans (hBn.mono hwk.out)
          clear hkeep hKn hBn
          go_wp2_with fail
          go_roundw
          case rel => exact ⟨i + 1, by go_num, by omega, HKn.out, HBn.out⟩
          case measure => simp [intOf]; omega
    · have hend : Hid (Calls Try.prog 17 #[.pointer (some ⟨kb, 0, none⟩)] wr fun e w' => e = .returned (.bool true) ∧ Below kb wr w') := apart_any wr kb kb its size HKK.out HII.out
      by_cases q1 : (i : Int) < (n : Int)
      · by_cases q2 : (i : Int) < (m : Int)
        · have q3 : ¬ ((i : Int) < 40) := by omega
          go_wp2_with fail
          refine hend.out.mono ?_
          rintro e w5 ⟨rfl, q⟩
          have HB5 : Hid (Below w.heap.size w w5) := hB.out.trans (q.mono hwk.out)
          clear q
          go_wp2_with fail
          go_ret
          exact ⟨rfl, HB5.out⟩
        · go_wp2_with fail
          refine hend.out.mono ?_
          rintro e w5 ⟨rfl, q⟩
          have HB5 : Hid (Below w.heap.size w w5) := hB.out.trans (q.mono hwk.out)
          clear q
          go_wp2_with fail
          go_ret
          exact ⟨rfl, HB5.out⟩
      · go_wp2_with fail
        refine hend.out.mono ?_
        rintro e w5 ⟨rfl, q⟩
        have HB5 : Hid (Below w.heap.size w w5) := hB.out.trans (q.mono hwk.out)
        clear q
        go_wp2_with fail
        go_ret
        exact ⟨rfl, HB5.out⟩
#print axioms freads_walk
end Go.Proofs.Ytophaolgmpdimaa
