/-
  The walk of FrameAll.
-/
import Derived.Test.YtophaolgmpdimaaFs
import Derived.Test.YtophaolgmpdimaaFx
import Derived.BigQuiet
namespace Go.Proofs.Ytophaolgmpdimaa
open Go.RowKit
set_option maxRecDepth 100000

theorem grown_own {u v : World} {g base : Nat} {vq : Value} {D : List UInt8} (h2 : u.ownsRow base 5 1 vq D.length (bvals D)) (hg : u.grownBy v (some g)) (hlt : g < base) : v.ownsRow base 5 1 vq D.length (bvals D) := by
  refine h2.kept hg ?_
  cases hv : vq.ownBlock with
  | none => exact Or.inl rfl
  | some k => exact Or.inr (fun e => by have := (h2.lt k hv).1; simp at e; omega)

set_option maxHeartbeats 8000000 in
theorem fall_walk (w : World) (x : Option Addr) (cx : Nat) (z y : Value) (rs : List (Int × Value × List UInt8)) (us ns : List Int) (hln : rs.length ≤ 9223372036854775807) (hat : AtRecs w x rs) (hok : ∀ o ∈ rs, RecOk o)
    (hz : Row w z (us.map (Value.int .u32))) (hu : ∀ n ∈ us, (Lit.int .u32 n).wf = true) (hy : Row w y (ns.map (Value.int .i64))) :
    Calls Try.prog 3 #[.slice x rs.length cx, z, y] w fun e w' => e = .returned (.bool true) ∧ Below w.heap.size w w' := by
  obtain ⟨a2, c2, rfl, _, n1, n2, g2⟩ := hz
  obtain ⟨a3, c3, rfl, _, q1, q2, g3⟩ := hy
  obtain ⟨n, hn⟩ : ∃ n, Hid (rs.length = n) := ⟨_, rfl⟩
  obtain ⟨m, hm⟩ : ∃ m, Hid ((us.map (Value.int .u32)).length = m) := ⟨_, rfl⟩
  obtain ⟨p, hp⟩ : ∃ m, Hid ((ns.map (Value.int .i64)).length = m) := ⟨_, rfl⟩
  have hv : n ≤ 9223372036854775807 := by rw [← hn.out]; exact hln
  have hv2 : m ≤ 9223372036854775807 := by rw [← hm.out]; unfold maxLen at n2; omega
  have hv3 : p ≤ 9223372036854775807 := by rw [← hp.out]; unfold maxLen at q2; omega
  rw [hn.out, hm.out, hp.out]
  replace hat := hide hat
  replace hok := hide hok
  replace g2 : Hid (At w a2 (us.map (Value.int .u32))) := g2
  replace g3 : Hid (At w a3 (ns.map (Value.int .i64))) := g3
  replace hu : Hid (∀ n ∈ us, (Lit.int .u32 n).wf = true) := hu
  clear n1 n2 hln q1 q2
  go_enter Try.func3, Try.ntmps3
  go_wp2_with fail
  refine (begun6_any _).mono ?_
  rintro e w1 ⟨rfl, hb1⟩
  replace hb1 := hide hb1
  go_wp2_with fail
  go_loopw [7] (fun vi wr => ∃ (i : Nat), vi = .int .i64 (i : Int) ∧ i ≤ p ∧ Hid (Below w.heap.size w wr)) (fun i _ => p - (intOf i).toNat)
  case atStart => exact ⟨0, rfl, Nat.zero_le _, hb1.out⟩
  case round =>
    clear hb1
    obtain ⟨i, rfl, hin, hB⟩ := hrel
    by_cases hlt : i < p
    · have i1 : (i : Int) < (p : Int) := by omega
      have i0 : (0 : Int) ≤ (i : Int) := by omega
      obtain ⟨x1, o1, rfl, d0⟩ := g3.out i (by rw [hp.out]; omega)
      simp only [List.getElem_map] at d0
      generalize ns[i]'(by have := hp.out; simp at this; omega) = k at *
      have e0 := (hB.out.cell (lt_of_cell d0)).trans d0
      obtain ⟨Z, hZ⟩ : ∃ Z, Hid (szF k = Z) := ⟨_, rfl⟩
      have hs1 : Hid (∀ q : World, Calls Try.prog 9 #[.int .i64 k] q fun e w' => e = .returned (.int .i64 Z) ∧ w' = q) := fun q => by have := size_any q k; rw [hZ.out] at this; exact this
      have hs2 : Hid (∀ q : World, Calls Try.prog 10 #[.int .i64 k] q fun e w' => e = .returned (.int .i64 Z) ∧ w' = q) := fun q => by have := refSize_any q k; rw [hZ.out] at this; exact this
      clear d0
      go_wp2_with fail
      go_quiet (first | (go_at_call 9; exact Calls.quiet_of_same (hs1.out _)) | (go_at_call 10; exact Calls.quiet_of_same (hs2.out _)))
      have hB8 : Hid (Below w.heap.size w (wr.drewN nq)) := keepF hB.out (Qt.below ⟨_, rfl⟩ _)
      go_wp2_with fail
      go_roundw
      case rel => exact ⟨i + 1, by go_num, by omega, hB8.out⟩
      case measure => simp [intOf]; omega
    · have i1 : ¬ ((i : Int) < (p : Int)) := by omega
      go_wp2_with fail
      have HB2 : Hid (Below w.heap.size w (wr.alloc (.cells #[.slice none 0 0, .int .i64 0] 30))) := keepF hB.out (box_below _ _)
      have HK0 : Hid (Kept (wr.alloc (.cells #[.slice none 0 0, .int .i64 0] 30)) wr.heap.size wr.heap.size [] 0) := ⟨.slice none 0 0, heap_alloc_new _ _, World.ownsRow_nil _ _ _ _, by simp, by decide⟩
      have hwk : Hid (w.heap.size ≤ wr.heap.size) := hB.out.size
      generalize wr.alloc (.cells #[.slice none 0 0, .int .i64 0] 30) = w2 at *
      generalize wr.heap.size = kb at *
      clear hB
      obtain ⟨wA, hwA⟩ : ∃ wA, wA = wr := ⟨_, rfl⟩
      subst hwA
      go_loopw [9] (fun vi wr => ∃ (i : Nat), vi = .int .i64 (i : Int) ∧ i ≤ n ∧ Hid (∃ its size, Kept wr kb kb its size ∧ Items wr kb its) ∧ Hid (Below w.heap.size w wr)) (fun i _ => n - (intOf i).toNat)
      case atStart => exact ⟨0, rfl, Nat.zero_le _, ⟨[], 0, HK0.out, fun t ht => by simp at ht, by simp⟩, HB2.out⟩
      case round =>
        clear HK0 HB2 i1 hlt hin
        obtain ⟨i, rfl, hin, hK, hB⟩ := hrel
        obtain ⟨its, size, hKK, hII⟩ := hK.out
        have HKK := hide hKK
        have HII := hide hII
        clear hKK hII hK
        by_cases hgo : i < n ∧ i < m ∧ i < 30
        · obtain ⟨gi, gj, gk⟩ := hgo
          have i1 : (i : Int) < (n : Int) := by omega
          have i2 : (i : Int) < (m : Int) := by omega
          have i3 : (i : Int) < 30 := by omega
          have i0 : (0 : Int) ≤ (i : Int) := by omega
          have hkv : i < rs.length := by rw [hn.out]; omega
          have hku : i < us.length := by have := hm.out; simp at this; omega
          have hOk := hide (hok.out rs[i] (List.getElem_mem hkv))
          obtain ⟨sd, hsd⟩ := u32_bv (hu.out us[i] (List.getElem_mem hku))
          obtain ⟨x1, o1, rfl, d0, d1, hSk⟩ := hat.out i hkv
          obtain ⟨z1, o2, rfl, d2⟩ := g2.out i (by rw [hm.out]; omega)
          simp only [List.getElem_map] at d2
          rw [hsd] at d2
          have l0 := lt_of_cell d0
          have l1 := lt_of_cell d1
          have l2 := lt_of_cell d2
          generalize rs[i] = oh at *
          obtain ⟨ln, vv, ll⟩ := oh
          simp only at d0 d1 hSk
          have hq1 : Hid (-9223372036854775808 ≤ ln) := hOk.out.1
          have hq2 : Hid (ln ≤ 9223372036854775807) := hOk.out.2.1
          have hq3 : ll.length ≤ 140737488351232 := hOk.out.2.2
          have HSk := hide hSk
          obtain ⟨N, hN⟩ : ∃ N, Hid (ll.length = N) := ⟨_, rfl⟩
          obtain ⟨va, vc, rfl⟩ := hSk.form hN.out
          have KS : Hid (∀ v : World, Below w.heap.size w v → Below w.heap.size w v ∧ v.cell? ⟨x1, o1 + i * 2, none⟩ = some (.int .i64 ln) ∧ v.cell? ⟨x1, o1 + i * 2 + 1, none⟩ = some (.slice va N vc) ∧ v.cell? ⟨z1, o2 + i, none⟩ = some (.int .u32 (sd.toNat : Int))) := fun v hv => ⟨hv, (hv.cell l0).trans d0, (hv.cell l1).trans d1, (hv.cell l2).trans d2⟩
          obtain ⟨B, S, E, hF⟩ : ∃ B S E, Hid (wrF sd ln ll = (B, S, E)) := ⟨_, _, _, rfl⟩
          have hBl : Hid (B.length ≤ 281474976710656) := by
            show _ ≤ _
            have h := hF.out
            by_cases h0 : (wrF sd ln ll).2.2 = 0
            · obtain ⟨a, b, c⟩ := wrF_inv h0
              have d := wrF_ok (seed := sd) a b c
              rw [h] at d
              simp only [Prod.mk.injEq] at d
              rw [d.1, frm_len]; omega
            · unfold wrF at h h0
              split at h
              · simp only [Prod.mk.injEq] at h; rw [← h.1]; simp
              · split at h
                · simp only [Prod.mk.injEq] at h; rw [← h.1]; simp
                · simp_all
          have hwr : Hid (∀ f, DoesWrite f → ∀ (q : World) (v : Value), Sl q v ll → Calls Try.prog f #[.int .u32 (sd.toNat : Int), .int .i64 ln, v] q fun e w' => ∃ v', e = .returned (.tuple #[v', .int .u32 (S.toNat : Int), .int .i64 E]) ∧ w'.ownsRow q.heap.size 5 1 v' B.length (bvals B) ∧ Below q.heap.size q w') := fun f hf q v hv => by
            have := hf q sd ln v ll hq1.out hq2.out hv
            rw [hF.out] at this
            exact this
          clear d0 d1 d2 l0 l1 l2 hSk hsd
          obtain ⟨_, e0, e1, e2⟩ := KS.out wr hB.out
          go_wp2_with fail
          refine (lent_any wr _ ll (Below.sl hB.out HSk.out) (by omega)).mono ?_
          rintro e w3 ⟨g, v3, rfl, t3, b3, hg3⟩
          have hgr := hide hg3
          have hg0 : Hid (w.heap.size ≤ g) := by have := hB.out.size; show _ ≤ _; omega
          have hgl := hide t3.lt
          have hB3 := hide (keepF hB.out b3)
          replace t3 := hide t3
          replace b3 := hide b3
          clear e0 e1 e2 hg3
          go_wp2_with fail
          have hS0 := KS.out w3.drew hB3.out.drew
          go_region_held3 (fun q => Below w.heap.size w q ∧ q.cell? ⟨x1, o1 + i * 2, none⟩ = some (.int .i64 ln) ∧ q.cell? ⟨x1, o1 + i * 2 + 1, none⟩ = some (.slice va N vc) ∧ q.cell? ⟨z1, o2 + i, none⟩ = some (.int .u32 (sd.toNat : Int)))
            (first | exact hS0 | assumption | exact KS.out _ KN | fail)
            (first
              | (go_at_call 12; refine (hwr.out _ write_any w3.drew _ (Below.sl (Below.refl _ _).drew t3.out.sl)).mono ?_; rintro e u1 ⟨v4, rfl, O4, B4⟩
                 have KN : Below w.heap.size w u1 := keepF hB3.out.drew B4)
              | fail)
          have hB4 := hide (keepF hB3.out.drew B4)
          have o4 := hide O4
          have t4 := hide (t3.out.below (keepF (Below.refl _ _).drew B4))
          have b34 := hide (keepF (Below.refl w3.heap.size w3).drew B4)
          obtain ⟨w4, hw4⟩ : ∃ w4, w4 = u1 := ⟨_, rfl⟩
          subst hw4
          obtain ⟨M, hM⟩ : ∃ M, Hid (B.length = M) := ⟨_, rfl⟩
          obtain ⟨ao4, ca4, rfl⟩ := (Sl.of_owns o4.out).form hM.out
          have b34z := hide b34.out.size
          clear O4 B4 KN hS0 t3
          rename_i hold4
          clear hold4
          go_wp2_with fail
          have hS0 := KS.out w4.drew hB4.out.drew
          go_region_held3 (fun q => Below w.heap.size w q ∧ q.cell? ⟨x1, o1 + i * 2, none⟩ = some (.int .i64 ln) ∧ q.cell? ⟨x1, o1 + i * 2 + 1, none⟩ = some (.slice va N vc) ∧ q.cell? ⟨z1, o2 + i, none⟩ = some (.int .u32 (sd.toNat : Int)))
            (first | exact hS0 | assumption | exact KS.out _ KN | fail)
            (first
              | (go_at_call 13; refine (hwr.out _ refWrite_any w4.drew _ (Below.sl hB4.out.drew HSk.out)).mono ?_; rintro e u1 ⟨v4, rfl, O4, B4⟩
                 have KN : Below w.heap.size w u1 := keepF hB4.out.drew B4)
              | fail)
          have hB5 := hide (keepF hB4.out.drew B4)
          have o45 := hide (ownsRow_below o4.out (keepF (Below.refl _ _).drew B4))
          have o5 := hide O4
          have t5 := hide (t4.out.below (keepF (Below.refl _ _).drew B4))
          have b35 := hide (keepF b34.out (keepF (Below.refl _ _).drew B4))
          obtain ⟨w5, hw5⟩ : ∃ w5, w5 = u1 := ⟨_, rfl⟩
          subst hw5
          rename_i v5 _
          obtain ⟨ao5, ca5, e5⟩ := (Sl.of_owns o5.out).form hM.out
          subst e5
          clear O4 B4 KN hS0 t4 o4 b34
          rename_i hold5
          clear hold5
          go_wp2_with fail
          have hS0 := KS.out w5.drew hB5.out.drew
          go_region_held3 (fun q => Below w.heap.size w q ∧ q.cell? ⟨x1, o1 + i * 2, none⟩ = some (.int .i64 ln) ∧ q.cell? ⟨x1, o1 + i * 2 + 1, none⟩ = some (.slice va N vc) ∧ q.cell? ⟨z1, o2 + i, none⟩ = some (.int .u32 (sd.toNat : Int)))
            (first | exact hS0 | assumption | exact KS.out _ KN | fail)
            (first
              | (go_at_call 12; refine (hwr.out _ write_any w5.drew _ (Below.sl hB5.out.drew HSk.out)).mono ?_; rintro e u1 ⟨v4, rfl, O4, B4⟩
                 have KN : Below w.heap.size w u1 := keepF hB5.out.drew B4)
              | fail)
          have hB6 := hide (keepF hB5.out.drew B4)
          have o46 := hide (ownsRow_below o45.out (keepF (Below.refl _ _).drew B4))
          have o56 := hide (ownsRow_below o5.out (keepF (Below.refl _ _).drew B4))
          have o6 := hide O4
          have t6 := hide (t5.out.below (keepF (Below.refl _ _).drew B4))
          have b36 := hide (keepF b35.out (keepF (Below.refl _ _).drew B4))
          have z5 := hide (own_lt o45.out)
          have z35 := hide b35.out.size
          have z34 := hide hgl.out
          obtain ⟨w6, hw6⟩ : ∃ w6, w6 = u1 := ⟨_, rfl⟩
          subst hw6
          obtain ⟨ao6, ca6, e6⟩ := (Sl.of_owns o6.out).form hM.out
          subst e6
          clear O4 B4 KN hS0 t5 o45 o5
          rename_i hold6
          clear hold6
          have heq1 := hide (eqS_any w6 _ _ B B (Sl.of_owns o46.out) (Sl.of_owns o56.out))
          rw [decide_eq_true rfl] at heq1
          go_wp2_with fail
          refine heq1.out.mono ?_
          rintro e w7 ⟨rfl, q7⟩
          have hB7 := hide (keepF hB6.out (q7.below _))
          have o47 := hide (ownsRow_below o46.out (q7.below _))
          have o57 := hide (ownsRow_below o56.out (q7.below _))
          have o67 := hide (ownsRow_below o6.out (q7.below _))
          have t7 := hide (t6.out.below (q7.below _))
          have b37 := hide (keepF b36.out (q7.below _))
          clear heq1 q7 o46 o56 o6 t6 b36
          obtain ⟨_, e0, e1, e2⟩ := KS.out w7 hB7.out
          have hback := hide (back_any w w7 g v3 _ ll hB7.out HSk.out t7.out hg0.out (by omega))
          go_wp2_with fail
          refine hback.out.mono ?_
          rintro e w8 ⟨rfl, G8⟩
          have hB8 : Hid (Below w.heap.size w w8) := hB7.out.grown G8 hB7.out.size (fun k hk => by have := hg0.out; simp at hk; omega)
          have o48 := hide (grown_own o47.out G8 hgl.out)
          have o58 := hide (grown_own o57.out G8 (by show g < w4.heap.size; have := hgl.out; have := b34z.out; omega))
          have o68 := hide (grown_own o67.out G8 (by show g < w5.heap.size; have := hgl.out; have := z35.out; omega))
          have hW8 : Hid (Below wr.heap.size wr w8) := (keepF b3.out b37.out).grown G8 (keepF b3.out b37.out).size (fun k hk => by have := hgr.out; simp at hk; omega)
          have heq2 := hide (eqS_any w8 _ _ B B (Sl.of_owns o48.out) (Sl.of_owns o58.out))
          rw [decide_eq_true rfl] at heq2
          clear hback e0 e1 e2 t7 o47 o57 o67 G8
          go_wp2_with fail
          refine heq2.out.mono ?_
          rintro e w9 ⟨rfl, q9⟩
          have hB9 := hide (keepF hB8.out (q9.below _))
          have hW9 := hide (keepF hW8.out (q9.below _))
          have o49 := hide (ownsRow_below o48.out (q9.below _))
          have o69 := hide (ownsRow_below o68.out (q9.below _))
          clear heq2 q9 o48 o58 o68 hW8 hB8
          obtain ⟨t1, t2, k1, k2, hNL⟩ := newL2 (b := w5.heap.size) hW9.out (owns_lower o49.out b3.out.size) z5.out o69.out (Nat.le_trans b3.out.size z35.out) hBl.out hBl.out
          have hkeep := hide (keep_new2 wr w9 kb kb its size [t1, t2] HKK.out HII.out (Nat.le_refl _) hNL (by simp) #[.slice ao4 M ca4, .slice ao6 M ca6] (by simp [k1, k2]) 2 2 rfl)
          clear k1 k2 hNL
          go_wp2_with fail
          refine hkeep.out.mono ?_
          rintro e w11 ⟨rfl, hKn, hBn⟩
          have HKn := hide hKn
          have HBn : Hid (Below w.heap.size w w11) := hB.out.trans (hBn.mono hwk.out)
          clear hkeep hKn hBn
          go_wp2_with fail
          go_roundw
          case rel => exact ⟨i + 1, by go_num, by omega, HKn.out, HBn.out⟩
          case measure => simp [intOf]; omega
        · have hend : Hid (Calls Try.prog 17 #[.pointer (some ⟨kb, 0, none⟩)] wr fun e w' => e = .returned (.bool true) ∧ Below kb wr w') := apart_any wr kb kb its size HKK.out HII.out
          by_cases q1 : (i : Int) < (n : Int)
          · by_cases q2 : (i : Int) < (m : Int)
            · have q3 : ¬ ((i : Int) < 30) := by omega
              go_wp2_with fail
              refine hend.out.mono ?_
              rintro e w5 ⟨rfl, q⟩
              have HB5 : Hid (Below w.heap.size w w5) := hB.out.trans (q.mono hwk.out)
              clear q
              go_wp2_with fail
              go_ret
              exact ⟨rfl, HB5.out⟩
            · skip
              go_wp2_with fail
              refine hend.out.mono ?_
              rintro e w5 ⟨rfl, q⟩
              have HB5 : Hid (Below w.heap.size w w5) := hB.out.trans (q.mono hwk.out)
              clear q
              go_wp2_with fail
              go_ret
              exact ⟨rfl, HB5.out⟩
          · skip
            go_wp2_with fail
            refine hend.out.mono ?_
            rintro e w5 ⟨rfl, q⟩
            have HB5 : Hid (Below w.heap.size w w5) := hB.out.trans (q.mono hwk.out)
            clear q
            go_wp2_with fail
            go_ret
            exact ⟨rfl, HB5.out⟩
#print axioms fall_walk
end Go.Proofs.Ytophaolgmpdimaa
