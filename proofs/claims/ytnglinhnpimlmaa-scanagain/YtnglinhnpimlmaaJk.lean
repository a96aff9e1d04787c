/-
  The walk of ScanAgain.
-/
import Derived.Test.YtnglinhnpimlmaaJh
import Derived.Laws.StructEq
import Derived.Deep.CutRange
import Derived.Deep.RegionHeld3
namespace Go.Proofs.Ytnglinhnpimlmaa
open Go.RowKit Go.Shelf
set_option maxRecDepth 100000
set_option linter.unusedVariables false

theorem scanFs : ∃ n0 n1 n2 n3 n4 : String, Try.prog.underlying 28 = some (.struct (Try.prog.fieldsOf 28)) ∧ (Try.prog.fieldsOf 28).toList.map (fun f => (f.name, f.type, f.offset)) = [(n0, 3, 0), (n1, 3, 1), (n2, 2, 2), (n3, 23, 3), (n4, 3, 4)] ∧ n0 ≠ "_" ∧ n1 ≠ "_" ∧ n2 ≠ "_" ∧ n3 ≠ "_" ∧ n4 ≠ "_" :=
  ⟨ "Count", "End", "Next", "Seed", "Why", by kernel_rfl, by kernel_rfl, by decide, by decide, by decide, by decide, by decide⟩
theorem scanHeld : Try.prog.stoodInHeld 28 = false := by kernel_rfl
theorem scanEq (w : World) (a b c d e : Int) : (Op.equalIn 10000 28 (.agg #[.int .i64 a, .int .i64 b, .int .i64 c, .int .u32 d, .int .i64 e]) (.agg #[.int .i64 a, .int .i64 b, .int .i64 c, .int .u32 d, .int .i64 e])).run Try.prog w = .ok true w := by
  obtain ⟨n0, n1, n2, n3, n4, h1, h2, h3, h4, h5, h6, h7⟩ := scanFs
  rw [run_equalIn_struct w 9999 28 _ _ h1 scanHeld]
  generalize (Try.prog.fieldsOf 28).toList = fs at h2
  have hl : fs.length = 5 := by have := congrArg List.length h2; simpa using this
  match fs, hl with
  | [f0, f1, f2, f3, f4], _ =>
    simp only [List.map_cons, List.map_nil, List.cons.injEq, Prod.mk.injEq, and_true] at h2
    obtain ⟨⟨a1, a2, a3⟩, ⟨b1, b2, b3⟩, ⟨c1, c2, c3⟩, ⟨d1, d2, d3⟩, ⟨e1, e2, e3⟩⟩ := h2
    have p0 : f0.name ≠ "_" := by rw [a1]; exact h3
    have p1 : f1.name ≠ "_" := by rw [b1]; exact h4
    have p2 : f2.name ≠ "_" := by rw [c1]; exact h5
    have p3 : f3.name ≠ "_" := by rw [d1]; exact h6
    have p4 : f4.name ≠ "_" := by rw [e1]; exact h7
    simp [Op.eqFields, p0, p1, p2, p3, p4, a2, a3, b2, b3, c2, c3, d2, d3, e2, e3, go_sem]
theorem scanEql (w : World) (a b c d e : Int) : (binOp .eql 28 (.agg #[.int .i64 a, .int .i64 b, .int .i64 c, .int .u32 d, .int .i64 e]) (.agg #[.int .i64 a, .int .i64 b, .int .i64 c, .int .u32 d, .int .i64 e])).run Try.prog w = .ok (.bool true) w := by
  rw [run_eql_struct, scanEq]
  rfl
theorem scanNeq (w : World) (a b c d e : Int) : (binOp .neq 28 (.agg #[.int .i64 a, .int .i64 b, .int .i64 c, .int .u32 d, .int .i64 e]) (.agg #[.int .i64 a, .int .i64 b, .int .i64 c, .int .u32 d, .int .i64 e])).run Try.prog w = .ok (.bool false) w := by
  rw [run_neq_struct, scanEq]
  rfl

/-- A Scan that was read into a variable. -/
def Sdd (W wx : World) (bq : Nat) (cs : Array Value) : Prop := wx.heap[bq]? = some (.cells cs 28 (0, 0)) ∧ Below W.heap.size W wx ∧ W.heap.size ≤ bq

def Sdz (W u : World) : Prop := u.heap[W.heap.size]? = some (.cells #[.int .i64 0, .int .i64 0, .int .i64 0, .int .u32 0, .int .i64 0] 28 (0, 0)) ∧ Below W.heap.size W u
def Sdy (W u : World) : Prop := Below W.heap.size W u
theorem Sdz.of {W u : World} (h : Below (W.alloc (.cells #[.int .i64 0, .int .i64 0, .int .i64 0, .int .u32 0, .int .i64 0] 28)).drew.heap.size (W.alloc (.cells #[.int .i64 0, .int .i64 0, .int .i64 0, .int .u32 0, .int .i64 0] 28)).drew u) : Sdz W u :=
  ⟨by rw [h.block W.heap.size (by simp)]; exact heap_alloc_new _ _, keepF (box_below W _).drew h⟩
theorem Sdy.of {W u : World} (h : Below W.drew.heap.size W.drew u) : Sdy W u := keepF (Below.refl _ _).drew h
theorem Sdz.low {W u : World} (h : Sdz W u) (y0 y1 y2 y3 y4 : Value) : Below W.heap.size W (put5 u W.heap.size y0 y1 y2 y3 y4) := h.2.grown (put5_grown _ _ _ _ _ _ _) h.2.size (fun k e => by cases e; exact Nat.le_refl _)
theorem Sdz.fin {W u : World} (h : Sdz W u) (y0 y1 y2 y3 y4 : Value) : Sdd W (put5 u W.heap.size y0 y1 y2 y3 y4) W.heap.size #[y0, y1, y2, y3, y4] := ⟨put5_heap h.1 _ _ _ _ _, h.low _ _ _ _ _, Nat.le_refl _⟩
theorem Sdy.fin {W u : World} (h : Sdy W u) (cs : Array Value) : Sdd W (u.alloc (.cells cs 28)) u.heap.size cs := ⟨heap_alloc_new _ _, Below.alloc h (Below.size h) _, Below.size h⟩

set_option maxHeartbeats 4000000 in
theorem sagain_walk (w : World) (v : Value) (L : List UInt8) (base : Int) (seed : Crc.R) (g0 : -9223372036854775808 ≤ base) (g1 : base ≤ 9223372036854775807) (hv : Sl w v L) :
    Calls Try.prog 5 #[v, .int .i64 base, .int .u32 (seed.toNat : Int)] w fun e w' => e = .returned (.bool true) ∧ Below w.heap.size w w' := by
  have HV := hide hv
  obtain ⟨ao, ca, rfl, g2, g3, g4, g5⟩ := hv
  have hm : ca ≤ 9223372036854775807 := by unfold maxLen at g4; omega
  obtain ⟨nn, hnn⟩ : ∃ nn, Hid (L.length = nn) := ⟨_, rfl⟩
  have hbg := hide (begun7_any w)
  by_cases hlen : L.length ≤ 131072
  · have HL := hide hlen
    by_cases hb1 : base < 1
    · have CO := hide (fun (q : World) (hq : Sl q (.slice ao L.length ca) L) => over_any q _ L base seed [] (.inl ⟨hb1, rfl⟩) g0 g1 hq)
      rw [lastc_nil, hnn.out] at CO
      rw [hnn.out] at HV hlen g3 ⊢
      clear g2 g4 g5
      have hse := scanEql
      go_enter Try.func5, Try.ntmps5
      go_wp2_with (go_at_call 6; refine hbg.out.mono ?_; rintro e w1 ⟨rfl, hb1'⟩)
      refine (CO.out _ (Below.sl hb1' HV.out)).mono ?_
      rintro e w2 ⟨rfl, hb2⟩
      have B2 := hide (keepF hb1' hb2)
      clear hb1' hb2
      go_wp2_with fail
      go_ret
      exact ⟨rfl, B2.out.alloc B2.out.size _⟩
    · have hb1' : 1 ≤ base := by omega
      obtain ⟨bn, rfl⟩ : ∃ bn : Nat, base = (bn : Int) := ⟨base.toNat, by omega⟩
      obtain ⟨K, hK⟩ := exK L ⟨0, 0, bn, seed⟩ (Nat.zero_le _)
      obtain ⟨e1, e2, e3, e4⟩ := good_e hK.1 (Nat.zero_le _)
      have e5 := st_n hK.1 (by show bn ≤ _; omega)
      obtain ⟨f1, f2, f3⟩ := front_isK hK (Nat.zero_le _)
      have r1 := rest_isK hK (Nat.zero_le _)
      have r2 := rest_why L (St L ⟨0, 0, bn, seed⟩ K) e1
      have tn : ((bn : Int)).toNat = bn := Int.toNat_natCast bn
      obtain ⟨X, hX⟩ : ∃ X, St L ⟨0, 0, bn, seed⟩ K = X := ⟨_, rfl⟩
      rw [hX] at e1 e2 e3 e4 e5 f1 f2 f3 r1 r2
      obtain ⟨c, e, n, s⟩ := X
      simp only at e1 e2 e3 e4 e5 f1 f2 f3 r1 r2
      have hcK : c = K := by omega
      subst hcK
      obtain ⟨Y, hY⟩ : ∃ Y, Hid (whyS L ⟨c, e, n, s⟩ = Y) := ⟨_, rfl⟩
      have CO : Hid (∀ (q : World), Sl q (.slice ao nn ca) L → Calls Try.prog 9 #[.slice ao nn ca, .int .i64 (bn : Int), .int .u32 (seed.toNat : Int)] q fun ee w' => ee = .returned (.agg #[.int .i64 (c : Int), .int .i64 (e : Int), .int .i64 (n : Int), .int .u32 (s.toNat : Int), .int .i64 Y]) ∧ Below q.heap.size q w') := fun q hq => by
        have := over_any q _ L bn seed _ (.inr ⟨hb1', c, by rw [tn]; exact hK, rfl⟩) g0 g1 hq
        rw [tn, lastc_map, hX, hY.out] at this
        exact this
      have CP : Hid (∀ (q : World), Sl q (.slice ao nn ca) L → Calls Try.prog 9 #[.slice ao e ca, .int .i64 (bn : Int), .int .u32 (seed.toNat : Int)] q fun ee w' => ee = .returned (.agg #[.int .i64 (c : Int), .int .i64 (e : Int), .int .i64 (n : Int), .int .u32 (s.toNat : Int), .int .i64 1]) ∧ Below q.heap.size q w') := fun q hq => by
        have := over_any q (.slice ao e ca) (L.take e) bn seed _ (.inr ⟨hb1', c, by rw [tn]; exact f1, rfl⟩) g0 g1 (sl_take e e1 hq hnn.out)
        rw [tn, lastc_map, f3, f2] at this
        exact this
      have e6 : 1 ≤ n := by omega
      have CQ : Hid (∀ (q : World) (zo : Option Addr), Sl q (.slice zo (nn - e) (ca - e)) (L.drop e) → Calls Try.prog 9 #[.slice zo (nn - e) (ca - e), .int .i64 (n : Int), .int .u32 (s.toNat : Int)] q fun ee w' => ee = .returned (.agg #[.int .i64 0, .int .i64 0, .int .i64 (n : Int), .int .u32 (s.toNat : Int), .int .i64 Y]) ∧ Below q.heap.size q w') := fun q zo hq => by
        have := over_any q _ (L.drop e) n s _ (.inr ⟨by omega, 0, by rw [Int.toNat_natCast]; exact r1, rfl⟩) (by omega) (by omega) hq
        rw [Int.toNat_natCast, lastc_map] at this
        have e8 : St (L.drop e) ⟨0, 0, n, s⟩ 0 = ⟨0, 0, n, s⟩ := rfl
        rw [e8, r2, hY.out] at this
        exact this
      have CR : Hid (∀ (q : World), Sl q (.slice ao nn ca) L → Calls Try.prog 10 #[.slice ao nn ca, .int .i64 (bn : Int), .int .u32 (seed.toNat : Int), .int .i64 1073741824] q fun ee w' => ∃ gv cv, ee = .returned (.slice gv c cv) ∧ Below q.heap.size q w') := fun q hq => by
        refine (records_any q _ L bn seed 1073741824 _ (.inr ⟨hb1', c, by rw [tn]; exact hK, rfl⟩) g0 g1 hq (by omega)).mono ?_
        rintro ee w' ⟨qs, vf, rfl, hq', hR⟩
        obtain ⟨gv, cv, rfl⟩ := hR.form hq' (n := c) (by rw [List.length_take, List.length_map, List.length_range]; exact Nat.min_eq_right (by show c ≤ 1073741824; omega))
        exact ⟨gv, cv, rfl, hR.below⟩
      have SD : Hid (∀ (q : World), Below w.heap.size w q → Sl q (.slice (if ca = e then ao else Option.map (fun x => x.add e) ao) (nn - e) (ca - e)) (L.drop e)) := fun q hq => by
        have := Below.sl hq (sl_drop e e1 g2 g3 g4 g5)
        rwa [hnn.out] at this
      rw [hnn.out] at HV hlen g3 e1 ⊢
      clear g2 g4 g5 hK f1 f2 f3 r1 r2 hX e2 e3 e4 hb1 tn
      have hnb : ¬ ((bn : Int) < 1) := by omega
      generalize hz : (if ca = e then ao else Option.map (fun x : Addr => x.add e) ao) = zo at *
      go_enter Try.func5, Try.ntmps5
      go_wp2_with (go_at_call 6; refine hbg.out.mono ?_; rintro e w1 ⟨rfl, hb1'⟩)
      refine (CO.out _ (Below.sl hb1' HV.out)).mono ?_
      rintro ee w2 ⟨rfl, hb2⟩
      have B2 := hide (keepF hb1' hb2)
      clear hb1' hb2
      go_upto_region 8 with fail
      have B3 := hide (B2.out.alloc B2.out.size (.cells #[.int .i64 (c : Int), .int .i64 (e : Int), .int .i64 (n : Int), .int .u32 (s.toNat : Int), .int .i64 Y] 28))
      have o3 : Hid ((w2.alloc (.cells #[.int .i64 (c : Int), .int .i64 (e : Int), .int .i64 (n : Int), .int .u32 (s.toNat : Int), .int .i64 Y] 28)).heap[w2.heap.size]? = some (.cells #[.int .i64 (c : Int), .int .i64 (e : Int), .int .i64 (n : Int), .int .u32 (s.toNat : Int), .int .i64 Y] 28 (0, 0))) := heap_alloc_new _ _
      have lo := hide B2.out.size
      revert B3 o3
      generalize w2.alloc (.cells #[.int .i64 (c : Int), .int .i64 (e : Int), .int .i64 (n : Int), .int .u32 (s.toNat : Int), .int .i64 Y] 28) = w3
      intro B3 o3
      generalize w2.heap.size = ob at *
      clear B2
      have k1 : w3.cell? ⟨ob, 1, none⟩ = some (.int .i64 (e : Int)) := (five o3.out).2.1
      go_upto_region 9 with (go_at_call 9; refine (CP.out _ (Below.sl B3.out HV.out)).mono ?_; rintro ee w4 ⟨rfl, hb4⟩)
      have B5 := hide ((keepF B3.out hb4).alloc (keepF B3.out hb4).size (.cells #[.int .i64 (c : Int), .int .i64 (e : Int), .int .i64 (n : Int), .int .u32 (s.toNat : Int), .int .i64 1] 28))
      have p5 : Hid ((w4.alloc (.cells #[.int .i64 (c : Int), .int .i64 (e : Int), .int .i64 (n : Int), .int .u32 (s.toNat : Int), .int .i64 1] 28)).heap[w4.heap.size]? = some (.cells #[.int .i64 (c : Int), .int .i64 (e : Int), .int .i64 (n : Int), .int .u32 (s.toNat : Int), .int .i64 1] 28 (0, 0))) := heap_alloc_new _ _
      have o5 := hide ((Below.heap_alloc w4 (.cells #[.int .i64 (c : Int), .int .i64 (e : Int), .int .i64 (n : Int), .int .u32 (s.toNat : Int), .int .i64 1] 28) ob (Nat.lt_of_lt_of_le (heap_lt o3.out) hb4.size)).trans ((hb4.block ob (heap_lt o3.out)).trans o3.out))
      revert B5 p5 o5
      generalize w4.alloc (.cells #[.int .i64 (c : Int), .int .i64 (e : Int), .int .i64 (n : Int), .int .u32 (s.toNat : Int), .int .i64 1] 28) = w5
      intro B5 p5 o5
      generalize w4.heap.size = pb at *
      clear k1 hb4 o3 B3
      go_cut [9] from 31 to 39 (fun y0 wx => ∃ bq, y0 = .pointer (some ⟨bq, 0, none⟩) ∧ Hid (Sdd w5 wx bq #[.int .i64 0, .int .i64 0, .int .i64 (n : Int), .int .u32 (s.toNat : Int), .int .i64 Y]))
      case first =>
        have KS : Hid (∀ q : World, Below w5.heap.size w5 q → Below w.heap.size w q ∧ q.cell? ⟨ob, 1, none⟩ = some (.int .i64 (e : Int)) ∧ q.cell? ⟨ob, 2, none⟩ = some (.int .i64 (n : Int)) ∧ q.cell? ⟨ob, 3, none⟩ = some (.int .u32 (s.toNat : Int))) := fun q hq => by
          obtain ⟨-, a1, a2, a3, -⟩ := five ((hq.block ob (heap_lt o5.out)).trans o5.out)
          exact ⟨keepF B5.out hq, a1, a2, a3⟩
        have hS0 := KS.out w5.drew (Below.refl _ _).drew
        go_region_held3 (fun q => Below w.heap.size w q ∧ q.cell? ⟨ob, 1, none⟩ = some (.int .i64 (e : Int)) ∧ q.cell? ⟨ob, 2, none⟩ = some (.int .i64 (n : Int)) ∧ q.cell? ⟨ob, 3, none⟩ = some (.int .u32 (s.toNat : Int)))
          (first | exact hS0 | assumption | exact KS.out _ KP | exact KS.out _ (KQ _ _ _ _ _) | exact KS.out _ (KA _) | exact KS.out _ (Below.drew (Below.alloc (Below.refl _ _) (Nat.le_refl _) _)) | fail)
          (first
            | (go_at_call 9; refine (CQ.out _ _ (SD.out _ (And.left (by assumption)))).mono ?_; rintro ee u1 ⟨rfl, B9⟩
               first
                 | (have A4 : Hid (Sdz w5 u1) := Sdz.of B9
                    have KQ := Sdz.low A4.out
                    have KP := A4.out.2
                    obtain ⟨x0, x1, x2, x3, x4, y0, y1, y2, y3, y4⟩ := five A4.out.1)
                 | (have A5 : Hid (Sdy w5 u1) := Sdy.of B9
                    have KP : Below w5.heap.size w5 u1 := A5.out
                    have KA := fun o => Below.alloc KP (Below.size KP) o)
                 | fail)
            | fail)
        all_goals
          go_wp2_with fail
          go_meet
          case rel => first | exact ⟨_, rfl, Sdy.fin A5.out _⟩ | exact ⟨_, rfl, Sdz.fin A4.out _ _ _ _ _⟩
      case rest =>
        obtain ⟨bq, rfl, hd⟩ := hcut
        have B6 := hide (keepF B5.out hd.out.2.1)
        have o6 := hide ((hd.out.2.1.block ob (heap_lt o5.out)).trans o5.out)
        have p6 := hide ((hd.out.2.1.block pb (heap_lt p5.out)).trans p5.out)
        have q6 := hide hd.out.1
        clear hd B5 o5 p5
        have KS : Hid (∀ q : World, Below wc.heap.size wc q → Below w.heap.size w q ∧ (q.cell? ⟨ob, 0, none⟩ = some (.int .i64 (c : Int)) ∧ q.cell? ⟨ob, 1, none⟩ = some (.int .i64 (e : Int)) ∧ q.cell? ⟨ob, 2, none⟩ = some (.int .i64 (n : Int)) ∧ q.cell? ⟨ob, 3, none⟩ = some (.int .u32 (s.toNat : Int)) ∧ q.cell? ⟨ob, 4, none⟩ = some (.int .i64 Y)) ∧
            (q.cell? ⟨pb, 0, none⟩ = some (.int .i64 (c : Int)) ∧ q.cell? ⟨pb, 1, none⟩ = some (.int .i64 (e : Int)) ∧ q.cell? ⟨pb, 2, none⟩ = some (.int .i64 (n : Int)) ∧ q.cell? ⟨pb, 3, none⟩ = some (.int .u32 (s.toNat : Int)) ∧ q.cell? ⟨pb, 4, none⟩ = some (.int .i64 1)) ∧
            q.cell? ⟨bq, 0, none⟩ = some (.int .i64 0) ∧ q.cell? ⟨bq, 4, none⟩ = some (.int .i64 Y)) := fun q hq => by
          obtain ⟨a0, a1, a2, a3, a4, -⟩ := five ((hq.block ob (heap_lt o6.out)).trans o6.out)
          obtain ⟨b0, b1, b2, b3, b4, -⟩ := five ((hq.block pb (heap_lt p6.out)).trans p6.out)
          obtain ⟨c0, -, -, -, c4, -⟩ := five ((hq.block bq (heap_lt q6.out)).trans q6.out)
          exact ⟨keepF B6.out hq, ⟨a0, a1, a2, a3, a4⟩, ⟨b0, b1, b2, b3, b4⟩, c0, c4⟩
        go_wp2_with fail
        have hS0 := KS.out wc.drew (Below.refl _ _).drew
        go_region_held3 (fun q => Below w.heap.size w q ∧ (q.cell? ⟨ob, 0, none⟩ = some (.int .i64 (c : Int)) ∧ q.cell? ⟨ob, 1, none⟩ = some (.int .i64 (e : Int)) ∧ q.cell? ⟨ob, 2, none⟩ = some (.int .i64 (n : Int)) ∧ q.cell? ⟨ob, 3, none⟩ = some (.int .u32 (s.toNat : Int)) ∧ q.cell? ⟨ob, 4, none⟩ = some (.int .i64 Y)) ∧
            (q.cell? ⟨pb, 0, none⟩ = some (.int .i64 (c : Int)) ∧ q.cell? ⟨pb, 1, none⟩ = some (.int .i64 (e : Int)) ∧ q.cell? ⟨pb, 2, none⟩ = some (.int .i64 (n : Int)) ∧ q.cell? ⟨pb, 3, none⟩ = some (.int .u32 (s.toNat : Int)) ∧ q.cell? ⟨pb, 4, none⟩ = some (.int .i64 1)) ∧
            q.cell? ⟨bq, 0, none⟩ = some (.int .i64 0) ∧ q.cell? ⟨bq, 4, none⟩ = some (.int .i64 Y))
          (first | exact hS0 | assumption | exact KS.out _ KP | fail)
          (first
            | (go_at_call 10; refine (CR.out _ (Below.sl (And.left (by assumption)) HV.out)).mono ?_; rintro ee u1 ⟨gv, cv, rfl, B9⟩
               have KP : Below wc.heap.size wc u1 := keepF (Below.refl _ _).drew B9)
            | fail)
        all_goals go_wp2_with fail
        all_goals
          go_ret
          exact ⟨rfl, keepF B6.out KP⟩
  · rw [hnn.out] at HV hlen ⊢
    have hgt : (131072 : Int) < (nn : Int) := by omega
    clear g2 g3 g4 g5 hlen
    go_enter Try.func5, Try.ntmps5
    go_wp2_with (go_at_call 6; refine hbg.out.mono ?_; rintro e w1 ⟨rfl, hb1'⟩)
    go_ret
    exact ⟨rfl, hb1'⟩

end Go.Proofs.Ytnglinhnpimlmaa
