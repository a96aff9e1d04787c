/-
  The walk of CrcAll: true.
-/
import Derived.Test.YtmhbcpbppcihfaaCrcV
import Derived.Test.YtmhbcpbppcihfaaRws
import Derived.Test.YtmhbcpbppcihfaaLent
import Derived.Deep.CutBlock
namespace Go.Proofs.Ytmhbcpbppcihfaa.Crc
open Go.RowKit

theorem keepB {w u v : World} (q : Below u.heap.size u v) (h : Below w.heap.size w u) : Below w.heap.size w v := h.trans (q.mono h.size)

set_option maxRecDepth 100000 in
set_option maxHeartbeats 4000000 in
theorem all_walk (x y z : Value) (vs : List Value) (ls : List (List UInt8)) (cs : List R) (ns : List Int) (w : World) (hx : Row w x vs) (hs : Sls w vs ls) (hy : Row w y (cs.map fun c => Value.int .u32 (c.toNat : Int))) (hz : Row w z (ns.map (Value.int .i64)))
    (hl : ∀ l ∈ ls, l.length ≤ 140737488351232) (hn : ∀ n ∈ ns, (Lit.int .i64 n).wf = true) :
    Calls Try.prog 3 #[x, y, z] w fun e w' => e = .returned (.bool true) ∧ Below w.heap.size w w' := by
  obtain ⟨a1, c1, rfl, -, m1, m2, g1⟩ := hx
  obtain ⟨a2, c2, rfl, -, k1, k2, g2⟩ := hy
  obtain ⟨a3, c3, rfl, -, l1, l2, g3⟩ := hz
  simp only [List.length_map] at k1 l1
  have hv1 : vs.length ≤ 9223372036854775807 := by unfold maxLen at m2; omega
  have hv2 : cs.length ≤ 9223372036854775807 := by unfold maxLen at k2; omega
  have hv3 : ns.length ≤ 9223372036854775807 := by unfold maxLen at l2; omega
  rw [List.length_map, List.length_map]
  have HN : Hid (∀ n ∈ ns, (Lit.int .i64 n).wf = true) := hn
  have HL : Hid (∀ l ∈ ls, l.length ≤ 140737488351232) := hl
  have HG1 : Hid (At w a1 vs) := g1
  have HG2 : Hid (At w a2 (cs.map fun c => Value.int .u32 (c.toNat : Int))) := g2
  have HG3 : Hid (At w a3 (ns.map (Value.int .i64))) := g3
  have HS : Hid (Sls w vs ls) := hs
  clear hn hl m1 m2 k1 k2 l1 l2 g1 g2 g3 hs
  go_enter Try.func3, Try.ntmps3
  go_wp2_with fail
  refine (begun2_any w).mono ?_
  rintro e w1 ⟨rfl, b1⟩
  have HB1 : Hid (Below w.heap.size w w1) := b1
  clear b1
  go_upto_block 0 with fail
  go_cut [6] from 14 to 78 (fun _ wx => Hid (Below w.heap.size w wx))
  case first =>
    go_wp2_with fail
    go_loopw [7, 8] (fun vz vi wr => ∃ (sz k : Nat), k ≤ vs.length ∧ sz ≤ 65536 ∧ vz = .int .i64 (sz : Int) ∧ vi = .int .i64 (k : Int) ∧ Hid (Below w.heap.size w wr)) (fun _ i _ => vs.length - (intOf i).toNat)
    case atStart => exact ⟨0, 0, Nat.zero_le _, by omega, rfl, rfl, HB1.out⟩
    case round =>
      obtain ⟨sz, k, hk, hsz, rfl, rfl, hB⟩ := hrel
      by_cases hlt : k < vs.length
      · obtain ⟨x1, o1, rfl, d1⟩ := HG1.out k hlt
        have hlt2 : k < ls.length := by rw [← HS.out.1]; exact hlt
        have hSk := HS.out.2 k hlt hlt2
        have hll := HL.out ls[k] (List.getElem_mem hlt2)
        have q1 := lt_of_cell d1
        generalize vs[k] = vv at *
        generalize ls[k] = ll at *
        have HSk : Hid (Sl w vv ll) := hSk
        obtain ⟨vo, vc, rfl, -, hvc, hvm, -⟩ := hSk
        have hvm2 : vc ≤ 9223372036854775807 := by unfold maxLen at hvm; omega
        have e1 := (hB.out.cell q1).trans d1
        have D1 : Hid (w.cell? ⟨x1, o1 + k, none⟩ = some (.slice vo ll.length vc)) := d1
        clear d1 hvm
        by_cases hbig : 65536 < sz + ll.length
        · have hbig' : 65536 < (sz : Int) + (ll.length : Int) := by omega
          go_wp2_with fail
          go_meet
          case rel => exact hB.out
        · have hbig' : ¬ (65536 < (sz : Int) + (ll.length : Int)) := by omega
          go_wp2_with fail
          refine (lent_any wr _ ll (Below.sl hB.out HSk.out) (by omega)).mono ?_
          rintro e w2 ⟨g, v2, rfl, t2, b2, hg2⟩
          have HB2 : Hid (Below w.heap.size w w2) := keepB b2 hB.out
          have T2 : Hid (LentAt w2 g v2 ll) := t2
          have hg0 : Hid (w.heap.size ≤ g) := Nat.le_trans hB.out.size hg2
          clear b2 hg2 e1 t2
          go_wp2_with fail
          refine (sum_any w2 v2 ll T2.out.sl).mono ?_
          rintro e w3 ⟨rfl, b3⟩
          have HB3 : Hid (Below w.heap.size w w3) := keepB b3 HB2.out
          have T3 : Hid (LentAt w3 g v2 ll) := T2.out.below b3
          have e3 := (HB3.out.cell q1).trans D1.out
          clear b3
          go_wp2_with fail
          refine (refSum_any w3 _ ll (Below.sl HB3.out HSk.out)).mono ?_
          rintro e _ ⟨rfl, rfl⟩
          go_wp2_with fail
          refine (back_any w _ g v2 _ ll HB3.out HSk.out T3.out hg0.out (by omega)).mono ?_
          rintro e w4 ⟨rfl, b4⟩
          have HB4 : Hid (Below w.heap.size w w4) := below_block HB3.out b4 hg0.out
          have e4 := (HB4.out.cell q1).trans D1.out
          clear b4 e3
          by_cases hcs : k < cs.length
          · have hcs' : (k : Int) < (cs.length : Int) := by omega
            obtain ⟨x2, o2, rfl, d2⟩ := HG2.out k (by simpa using hcs)
            simp only [List.getElem_map] at d2
            have q2 := lt_of_cell d2
            generalize cs[k] = sm at *
            have D2 : Hid (w.cell? ⟨x2, o2 + k, none⟩ = some (.int .u32 (sm.toNat : Int))) := d2
            have hS0 : Below w.heap.size w w4.drew ∧ w4.drew.cell? ⟨x1, o1 + k, none⟩ = some (.slice vo ll.length vc) ∧ w4.drew.cell? ⟨x2, o2 + k, none⟩ = some (.int .u32 (sm.toNat : Int)) := ⟨HB4.out.drew, e4, (HB4.out.cell q2).trans d2⟩
            have KS : Hid (∀ v : World, Below w.heap.size w v → Below w.heap.size w v ∧ v.cell? ⟨x1, o1 + k, none⟩ = some (.slice vo ll.length vc) ∧ v.cell? ⟨x2, o2 + k, none⟩ = some (.int .u32 (sm.toNat : Int))) := fun v hv => ⟨hv, (hv.cell q1).trans D1.out, (hv.cell q2).trans D2.out⟩
            have e42 := (HB4.out.cell q2).trans d2
            clear d2
            go_wp2_with fail
            go_region_held3 (fun q => Below w.heap.size w q ∧ q.cell? ⟨x1, o1 + k, none⟩ = some (.slice vo ll.length vc) ∧ q.cell? ⟨x2, o2 + k, none⟩ = some (.int .u32 (sm.toNat : Int)))
              (first | exact hS0 | assumption | exact KS.out _ (keepB (by assumption) (And.left (by assumption))))
              (first
                | (go_at_call 12; refine (more_any _ sm _ ll (Below.sl (And.left (by assumption)) HSk.out)).mono ?_; rintro e u1 ⟨rfl, qm⟩)
                | (go_at_call 13; refine (refMore_any _ sm _ ll (Below.sl (And.left (by assumption)) HSk.out)).mono ?_; rintro e u2 ⟨rfl, rfl⟩))
            all_goals (have HBn : Hid (Below w.heap.size w u2) := And.left (a := Below w.heap.size w u2) (by assumption))
            all_goals (go_wp2_with fail)
            all_goals (go_roundw)
            case rel => exact ⟨sz + ll.length, k + 1, by omega, by omega, by go_num, by go_num, HBn.out⟩
            case measure => simp [intOf]; omega
          · have hcs' : ¬ ((k : Int) < (cs.length : Int)) := by omega
            go_wp2_with fail
            go_quiet (fail)
            go_wp2_with fail
            go_roundw
            case rel => exact ⟨sz + ll.length, k + 1, by omega, by omega, by go_num, by go_num, keepB (Qt.below ⟨_, rfl⟩ _) HB4.out⟩
            case measure => simp [intOf]; omega
      · have hlt' : ¬ ((k : Int) < (vs.length : Int)) := by omega
        go_wp2_with fail
        go_meet
        case rel => exact hB.out
  case rest =>
    have HC := hcut
    clear hcut
    go_wp2_with fail
    go_loopw [11] (fun vi wr => ∃ (j : Nat), j ≤ cs.length ∧ vi = .int .i64 (j : Int) ∧ Hid (Below w.heap.size w wr)) (fun i _ => cs.length - (intOf i).toNat)
    case atStart => exact ⟨0, Nat.zero_le _, rfl, HC.out⟩
    case round =>
      obtain ⟨j, hj, rfl, hB⟩ := hrel
      by_cases hlt : j < cs.length
      · have hlt' : (j : Int) < (cs.length : Int) := by omega
        have h0lt : (0 : Int) < (cs.length : Int) := by omega
        have h0n : 0 < cs.length := by omega
        have hne0 : cs ≠ [] := by rintro rfl; simp at hlt
        obtain ⟨x2, o2, rfl, dall⟩ := HG2.out.at (by simp; omega)
        have d2 := dall j (by simpa using hlt)
        have d0 := dall 0 (by simp; omega)
        simp only [List.getElem_map] at d2 d0
        have q2 := lt_of_cell d2
        have q0 := lt_of_cell d0
        clear dall
        obtain ⟨sm, hsm⟩ : ∃ sm, sm = cs[j] := ⟨_, rfl⟩
        obtain ⟨s0, hs0⟩ : ∃ s0, s0 = cs[0]'(by omega) := ⟨_, rfl⟩
        rw [← hsm] at d2
        rw [← hs0] at d0
        clear hsm hs0
        have e2 := (hB.out.cell q2).trans d2
        have D0 : Hid (w.cell? ⟨x2, o2 + 0, none⟩ = some (.int .u32 (s0.toNat : Int))) := d0
        have BM : Hid (bareOf (maskOf sm) = sm) := bare_mask sm
        have MB : Hid (maskOf (bareOf sm) = sm) := mask_bare sm
        clear d0 d2
        go_wp2_with fail
        refine (mask_any _ sm).mono ?_
        rintro e _ ⟨rfl, rfl⟩
        go_wp2_with fail
        refine (refMask_any _ sm).mono ?_
        rintro e _ ⟨rfl, rfl⟩
        go_wp2_with fail
        refine (bare_any _ sm).mono ?_
        rintro e _ ⟨rfl, rfl⟩
        go_wp2_with fail
        refine (refBare_any _ sm).mono ?_
        rintro e _ ⟨rfl, rfl⟩
        go_wp2_with fail
        refine (mask_any _ sm).mono ?_
        rintro e _ ⟨rfl, rfl⟩
        go_wp2_with fail
        refine (bare_any _ (maskOf sm)).mono ?_
        rintro e _ ⟨rfl, rfl⟩
        rw [BM.out]
        go_wp2_with fail
        refine (bare_any _ sm).mono ?_
        rintro e _ ⟨rfl, rfl⟩
        go_wp2_with fail
        refine (mask_any _ (bareOf sm)).mono ?_
        rintro e w5 ⟨rfl, rfl⟩
        rw [MB.out]
        clear e2
        go_wp2_with fail
        go_loopw [13] (fun vi wr => ∃ (m : Nat), m ≤ ns.length ∧ m ≤ 8 ∧ vi = .int .i64 (m : Int) ∧ Hid (Below w.heap.size w wr)) (fun i _ => 8 - (intOf i).toNat)
        case atStart => exact ⟨0, Nat.zero_le _, by omega, rfl, hB.out⟩
        case round =>
          clear hB
          obtain ⟨m, hm, hm8, rfl, hB⟩ := hrel
          by_cases hend : m < ns.length ∧ m < 8
          · obtain ⟨hm1, hm2⟩ := hend
            have hm1' : (m : Int) < (ns.length : Int) := by omega
            have hm2' : (m : Int) < 8 := by omega
            obtain ⟨x3, o3, rfl, d3⟩ := HG3.out m (by simpa using hm1)
            simp only [List.getElem_map] at d3
            have q3 := lt_of_cell d3
            have hnb := i64_bounds (HN.out ns[m] (List.getElem_mem hm1))
            generalize ns[m] = n at *
            have HNB : Hid (-9223372036854775808 ≤ n ∧ n ≤ 9223372036854775807) := hnb
            have D3 : Hid (w.cell? ⟨x3, o3 + m, none⟩ = some (.int .i64 n)) := d3
            have KS : Hid (∀ v : World, Below w.heap.size w v → Below w.heap.size w v ∧ v.cell? ⟨x2, o2, none⟩ = some (.int .u32 (s0.toNat : Int)) ∧ v.cell? ⟨x3, o3 + m, none⟩ = some (.int .i64 n)) := fun v hv => ⟨hv, (hv.cell (p := ⟨x2, o2 + 0, none⟩) q0).trans D0.out, (hv.cell q3).trans D3.out⟩
            have hS0 := KS.out wr.drew hB.out.drew
            clear d3 hnb
            go_wp2_with fail
            go_region_held3 (fun q => Below w.heap.size w q ∧ q.cell? ⟨x2, o2, none⟩ = some (.int .u32 (s0.toNat : Int)) ∧ q.cell? ⟨x3, o3 + m, none⟩ = some (.int .i64 n))
              (first | exact hS0 | assumption | exact KS.out _ (keepB (by assumption) (And.left (by assumption))))
              (first
                | (go_at_call 18; refine (join_any _ sm s0 n HNB.out.1 HNB.out.2).mono ?_; rintro e u1 ⟨rfl, rfl⟩)
                | (go_at_call 19; refine (refJoin_any _ sm s0 n HNB.out.1 HNB.out.2).mono ?_; rintro e u2 ⟨rfl, qj⟩)
                | (go_at_call 20; refine (zeros_any _ sm n HNB.out.1 HNB.out.2).mono ?_; rintro e u3 ⟨rfl, rfl⟩)
                | (go_at_call 21; refine (refZeros_any _ sm n HNB.out.1 HNB.out.2).mono ?_; rintro e u4 ⟨rfl, qz⟩))
            all_goals (have HBn : Hid (Below w.heap.size w u4) := And.left (a := Below w.heap.size w u4) (by assumption))
            all_goals (go_wp2_with fail)
            all_goals (go_roundw)
            case rel => exact ⟨m + 1, by omega, by omega, by go_num, HBn.out⟩
            case measure => simp [intOf]; omega
          · by_cases hm1 : m < ns.length
            · have hm1' : (m : Int) < (ns.length : Int) := by omega
              have hm2' : ¬ ((m : Int) < 8) := by omega
              go_wp2_with fail
              go_roundw
              case rel => exact ⟨j + 1, by omega, by go_num, hB.out⟩
              case measure => simp [intOf]; omega
            · have hm1' : ¬ ((m : Int) < (ns.length : Int)) := by omega
              go_wp2_with fail
              go_roundw
              case rel => exact ⟨j + 1, by omega, by go_num, hB.out⟩
              case measure => simp [intOf]; omega
      · have hlt' : ¬ ((j : Int) < (cs.length : Int)) := by omega
        go_wp2_with fail
        go_ret
        exact ⟨rfl, hB.out⟩
theorem u32_list {us : List Int} (h : ∀ n ∈ us, (Lit.int .u32 n).wf = true) : ∃ cs : List R, us.map (Value.int .u32) = cs.map fun c => Value.int .u32 (c.toNat : Int) := by
  induction us with
  | nil => exact ⟨[], rfl⟩
  | cons n r ih =>
    obtain ⟨cs, hcs⟩ := ih (fun m hm => h m (List.mem_cons_of_mem _ hm))
    obtain ⟨c, hc⟩ := u32_bv (h n List.mem_cons_self)
    exact ⟨c :: cs, by rw [List.map_cons, List.map_cons, hcs, hc]⟩
theorem all_walk2 (x y z : Value) (vs : List Value) (ls : List (List UInt8)) (us ns : List Int) (w : World) (hx : Row w x vs) (hs : Sls w vs ls) (hy : Row w y (us.map (Value.int .u32))) (hz : Row w z (ns.map (Value.int .i64)))
    (hl : ∀ l ∈ ls, l.length ≤ 140737488351232) (hu : ∀ n ∈ us, (Lit.int .u32 n).wf = true) (hn : ∀ n ∈ ns, (Lit.int .i64 n).wf = true) :
    Calls Try.prog 3 #[x, y, z] w fun e w' => e = .returned (.bool true) ∧ Below w.heap.size w w' := by
  obtain ⟨cs, hcs⟩ := u32_list hu
  rw [hcs] at hy
  exact all_walk x y z vs ls cs ns w hx hs hy hz hl hn
#print axioms all_walk2
end Go.Proofs.Ytmhbcpbppcihfaa.Crc
