/-
  Two equal heads are not unlike; the walk of FrameHeads.
-/
import Derived.Test.YtophaolgmpdimaaFs
import Derived.Laws.StructEq
import Derived.Test.YtophaolgmpdimaaFx
import Derived.BigQuiet
namespace Go.Proofs.Ytophaolgmpdimaa
open Go.RowKit
set_option maxRecDepth 100000

theorem headFs : ∃ n0 n1 n2 : String, Try.prog.underlying 50 = some (.struct (Try.prog.fieldsOf 50)) ∧ (Try.prog.fieldsOf 50).toList.map (fun f => (f.name, f.type, f.offset)) = [(n0, 2, 0), (n1, 2, 1), (n2, 35, 2)] ∧ n0 ≠ "_" ∧ n1 ≠ "_" ∧ n2 ≠ "_" :=
  ⟨ "Num", "Base", "Seed", by kernel_rfl, by kernel_rfl, by decide, by decide, by decide⟩
theorem headHeld : Try.prog.stoodInHeld 50 = false := by kernel_rfl
theorem headEq (w : World) (a b : Int) (c : Int) : (Op.equalIn 10000 50 (.agg #[.int .i64 a, .int .i64 b, .int .u32 c]) (.agg #[.int .i64 a, .int .i64 b, .int .u32 c])).run Try.prog w = .ok true w := by
  obtain ⟨n0, n1, n2, h1, h2, h3, h4, h5⟩ := headFs
  rw [run_equalIn_struct w 9999 50 _ _ h1 headHeld]
  generalize (Try.prog.fieldsOf 50).toList = fs at h2
  have hl : fs.length = 3 := by have := congrArg List.length h2; simpa using this
  match fs, hl with
  | [f0, f1, f2], _ =>
    simp only [List.map_cons, List.map_nil, List.cons.injEq, Prod.mk.injEq, and_true] at h2
    obtain ⟨⟨a1, a2, a3⟩, ⟨b1, b2, b3⟩, ⟨c1, c2, c3⟩⟩ := h2
    have p0 : f0.name ≠ "_" := by rw [a1]; exact h3
    have p1 : f1.name ≠ "_" := by rw [b1]; exact h4
    have p2 : f2.name ≠ "_" := by rw [c1]; exact h5
    simp [Op.eqFields, p0, p1, p2, a2, a3, b2, b3, c2, c3, go_sem]
theorem headNeq (w : World) (a b : Int) (c : Int) : (binOp .neq 50 (.agg #[.int .i64 a, .int .i64 b, .int .u32 c]) (.agg #[.int .i64 a, .int .i64 b, .int .u32 c])).run Try.prog w = .ok (.bool false) w := by
  rw [run_neq_struct, headEq]
  rfl
set_option maxHeartbeats 8000000 in
theorem fheads_walk (w : World) (x : Option Addr) (cx : Nat) (z : Value) (hs : List (Int × Int × BitVec 32)) (vs : List Value) (ls : List (List UInt8)) (hln : hs.length ≤ 9223372036854775807) (hat : AtHeads w x hs) (hok : ∀ o ∈ hs, HeadOk o)
    (hz : Row w z vs) (hsl : Sls w vs ls) (hl : ∀ l ∈ ls, l.length ≤ 140737488351232) :
    Calls Try.prog 6 #[.slice x hs.length cx, z] w fun e w' => e = .returned (.bool true) ∧ Below w.heap.size w w' := by
  obtain ⟨a2, c2, rfl, _, n1, n2, g2⟩ := hz
  obtain ⟨n, hn⟩ : ∃ n, Hid (hs.length = n) := ⟨_, rfl⟩
  obtain ⟨m, hm⟩ : ∃ m, Hid (vs.length = m) := ⟨_, rfl⟩
  have hv : n ≤ 9223372036854775807 := by rw [← hn.out]; exact hln
  have hv2 : m ≤ 9223372036854775807 := by rw [← hm.out]; unfold maxLen at n2; omega
  rw [hn.out, hm.out]
  replace hat := hide hat
  replace hok := hide hok
  replace g2 : Hid (At w a2 vs) := g2
  replace hl : Hid (∀ l ∈ ls, l.length ≤ 140737488351232) := hl
  replace hsl : Hid (Sls w vs ls) := hsl
  have hneq := headNeq
  clear n1 n2 hln
  go_enter Try.func6, Try.ntmps6
  go_wp2_with fail
  refine (begun6_any _).mono ?_
  rintro e w1 ⟨rfl, hb1⟩
  replace hb1 := hide hb1
  go_wp2_with fail
  go_loopw [5] (fun vi wr => ∃ (i : Nat), vi = .int .i64 (i : Int) ∧ i ≤ n ∧ Hid (Below w.heap.size w wr)) (fun i _ => n - (intOf i).toNat)
  case atStart => exact ⟨0, rfl, Nat.zero_le _, hb1.out⟩
  case round =>
    clear hb1
    obtain ⟨i, rfl, hin, hB⟩ := hrel
    by_cases hlt : i < n
    · have i1 : (i : Int) < (n : Int) := by omega
      have i0 : (0 : Int) ≤ (i : Int) := by omega
      have hkv : i < hs.length := by rw [hn.out]; omega
      have hOk := hide (hok.out hs[i] (List.getElem_mem hkv))
      obtain ⟨x1, o1, rfl, d0, d1, d2⟩ := hat.out i hkv
      have l0 := lt_of_cell d0
      have l1 := lt_of_cell d1
      have l2 := lt_of_cell d2
      generalize hs[i] = oh at *
      obtain ⟨nm, bs, sd⟩ := oh
      simp only at d0 d1 d2
      have KS : Hid (∀ v : World, Below w.heap.size w v → v.cell? ⟨x1, o1 + i * 3, none⟩ = some (.int .i64 nm) ∧ v.cell? ⟨x1, o1 + i * 3 + 1, none⟩ = some (.int .i64 bs) ∧ v.cell? ⟨x1, o1 + i * 3 + 2, none⟩ = some (.int .u32 (sd.toNat : Int))) := fun v hv => ⟨(hv.cell l0).trans d0, (hv.cell l1).trans d1, (hv.cell l2).trans d2⟩
      obtain ⟨B, S, E, hF⟩ : ∃ B S E, Hid (whF nm bs sd = (B, S, E)) := ⟨_, _, _, rfl⟩
      have hwh : Hid (∀ f, DoesWH f → ∀ q : World, Calls Try.prog f #[.agg #[.int .i64 nm, .int .i64 bs, .int .u32 (sd.toNat : Int)]] q fun e w' => ∃ v', e = .returned (.tuple #[v', .int .u32 (S.toNat : Int), .int .i64 E]) ∧ w'.ownsRow q.heap.size 5 1 v' B.length (bvals B) ∧ Below q.heap.size q w') := fun f hf q => by
        have := hf q nm bs sd hOk.out.1 hOk.out.2.1 hOk.out.2.2.1 hOk.out.2.2.2
        rw [hF.out] at this
        exact this
      obtain ⟨R1, R2, R3, R4, R5, hR⟩ : ∃ a b c d e, Hid (rhF B = (a, b, c, d, e)) := ⟨_, _, _, _, _, rfl⟩
      clear d0 d1 d2 l0 l1 l2
      obtain ⟨e0, e1, e2⟩ := KS.out wr hB.out
      go_wp2_with fail
      refine (hwh.out _ writeHead_any wr).mono ?_
      rintro e w3 ⟨v3, rfl, ho3, b3⟩
      have hB3 := hide (keepF hB.out b3)
      have s3 := hide (Sl.of_owns ho3)
      clear e0 e1 e2 ho3 b3
      obtain ⟨e0, e1, e2⟩ := KS.out w3 hB3.out
      go_wp2_with fail
      refine (hwh.out _ refWH_any w3).mono ?_
      rintro e w4 ⟨v4, rfl, ho4, b4⟩
      have hB4 := hide (keepF hB3.out b4)
      have s4 := hide (Sl.of_owns ho4)
      have s34 := hide (Below.sl b4 s3.out)
      have heq := hide (eqS_any w4 v3 v4 B B s34.out s4.out)
      rw [decide_eq_true rfl] at heq
      clear e0 e1 e2 ho4 b4
      go_wp2_with fail
      refine heq.out.mono ?_
      rintro e w5 ⟨rfl, q5⟩
      have hB5 := hide (keepF hB4.out (q5.below _))
      have hrh := hide (readHead_any w5 v3 B (q5.sl s34.out))
      rw [hR.out] at hrh
      clear heq q5
      go_wp2_with fail
      refine hrh.out.mono ?_
      rintro e w6 ⟨rfl, b6⟩
      have hB6 := hide (keepF (keepF hB5.out b6) (box_below w6 (.cells #[.int .i64 R1, .int .i64 R2, .int .u32 (R3.toNat : Int)] 50)))
      have hh6 : Hid ((w6.alloc (.cells #[.int .i64 R1, .int .i64 R2, .int .u32 (R3.toNat : Int)] 50)).heap[w6.heap.size]? = some (.cells #[.int .i64 R1, .int .i64 R2, .int .u32 (R3.toNat : Int)] 50 (0, 0))) := heap_alloc_new _ _
      clear hrh b6
      go_upto_region 11 with fail
      generalize hbq : w6.heap.size = b6 at *
      generalize w6.alloc (.cells #[.int .i64 R1, .int .i64 R2, .int .u32 (R3.toNat : Int)] 50) = w7 at *
      clear hbq
      obtain ⟨e0, e1, e2⟩ := KS.out w7 hB6.out
      obtain ⟨r0, r1, r2, _, _, _⟩ := three_cells hh6.out
      by_cases hE : E = 0
      · subst hE
        have hinv := whF_inv (nm := nm) (bs := bs) (seed := sd) (by rw [hF.out])
        have hwo := whF_ok (seed := sd) hinv.1 hinv.2
        rw [hF.out] at hwo
        simp only [Prod.mk.injEq] at hwo
        have hrb := rh_back nm.toNat bs.toNat sd [] (by omega) (by have : nm ≤ 9223372036854775807 := hOk.out.2.1; omega) (by omega) (by have : bs ≤ 9223372036854775807 := hOk.out.2.2.2; omega)
        rw [List.append_nil, ← hwo.1, ← hwo.2.1, hR.out] at hrb
        simp only [Prod.mk.injEq] at hrb
        obtain ⟨h1, h2, rfl, rfl, rfl⟩ := hrb
        obtain rfl : R1 = nm := by rw [h1]; omega
        obtain rfl : R2 = bs := by rw [h2]; omega
        clear hinv hwo h1 h2
        go_quiet (fail)
        have hB8 : Hid (Below w.heap.size w (w7.drewN nq)) := keepF hB6.out (Qt.below ⟨_, rfl⟩ _)
        go_wp2_with fail
        go_roundw
        case rel => exact ⟨i + 1, by go_num, by omega, hB8.out⟩
        case measure => simp [intOf]; omega
      · have hEi : (E == 0) = false := by simpa using hE
        clear hE
        go_quiet (fail)
        have hB8 : Hid (Below w.heap.size w (w7.drewN nq)) := keepF hB6.out (Qt.below ⟨_, rfl⟩ _)
        go_wp2_with fail
        go_roundw
        case rel => exact ⟨i + 1, by go_num, by omega, hB8.out⟩
        case measure => simp [intOf]; omega
    · have i1 : ¬ ((i : Int) < (n : Int)) := by omega
      go_wp2_with fail
      go_loopw [15] (fun vi wr => ∃ (i : Nat), vi = .int .i64 (i : Int) ∧ i ≤ m ∧ Hid (Below w.heap.size w wr)) (fun i _ => m - (intOf i).toNat)
      case atStart => exact ⟨0, rfl, Nat.zero_le _, hB.out⟩
      case round =>
        clear hB
        obtain ⟨j, rfl, hjn, hB⟩ := hrel
        by_cases hlt : j < m
        · have i1 : (j : Int) < (m : Int) := by omega
          have i0 : (0 : Int) ≤ (j : Int) := by omega
          have hkv : j < vs.length := by rw [hm.out]; omega
          have hkl : j < ls.length := by have := hsl.out.1; omega
          have hSk := hsl.out.2 j hkv hkl
          have hLk := hl.out ls[j] (List.getElem_mem hkl)
          obtain ⟨x1, o1, rfl, d1⟩ := g2.out j hkv
          have l1 := lt_of_cell d1
          generalize vs[j] = vv at *
          generalize ls[j] = ll at *
          have HSk := hide hSk
          obtain ⟨N, hN⟩ : ∃ N, Hid (ll.length = N) := ⟨_, rfl⟩
          obtain ⟨va, vc, rfl⟩ := hSk.form hN.out
          have KS : Hid (∀ v : World, Below w.heap.size w v → v.cell? ⟨x1, o1 + j, none⟩ = some (.slice va N vc)) := fun v hv => (hv.cell l1).trans d1
          obtain ⟨R1, R2, R3, R4, R5, hR⟩ : ∃ a b c d e, Hid (rhF ll = (a, b, c, d, e)) := ⟨_, _, _, _, _, rfl⟩
          clear d1 l1 hSk
          have e1 := KS.out wr hB.out
          go_wp2_with fail
          refine (lent_any wr _ ll (Below.sl hB.out HSk.out) (by omega)).mono ?_
          rintro e w3 ⟨g, v3, rfl, t3, b3, hg3⟩
          have hg0 : Hid (w.heap.size ≤ g) := by have := hB.out.size; show _ ≤ _; omega
          have hB3 := hide (keepF hB.out b3)
          have hR3 := hide (readHead_any w3 v3 ll t3.sl)
          rw [hR.out] at hR3
          replace t3 := hide t3
          clear e1 hg3 b3
          go_wp2_with fail
          refine hR3.out.mono ?_
          rintro e w4 ⟨rfl, b4⟩
          have t4 := hide ((t3.out.below b4).below (box_below w4 (.cells #[.int .i64 R1, .int .i64 R2, .int .u32 (R3.toNat : Int)] 50)))
          have hB4 := hide (keepF (keepF hB3.out b4) (box_below w4 (.cells #[.int .i64 R1, .int .i64 R2, .int .u32 (R3.toNat : Int)] 50)))
          have hh4 : Hid ((w4.alloc (.cells #[.int .i64 R1, .int .i64 R2, .int .u32 (R3.toNat : Int)] 50)).heap[w4.heap.size]? = some (.cells #[.int .i64 R1, .int .i64 R2, .int .u32 (R3.toNat : Int)] 50 (0, 0))) := heap_alloc_new _ _
          clear hR3 b4 t3
          go_upto_region 18 with fail
          generalize hbq : w4.heap.size = b4 at *
          generalize w4.alloc (.cells #[.int .i64 R1, .int .i64 R2, .int .u32 (R3.toNat : Int)] 50) = w5 at *
          clear hbq
          have e1 := KS.out w5 hB4.out
          have hR5 := hide (refRH_any w5 _ ll (Below.sl hB4.out HSk.out))
          rw [hR.out] at hR5
          go_wp2_with fail
          refine hR5.out.mono ?_
          rintro e w6 ⟨rfl, b6⟩
          have hh46 : Hid (w6.heap[b4]? = some (.cells #[.int .i64 R1, .int .i64 R2, .int .u32 (R3.toNat : Int)] 50 (0, 0))) := by show _ = _; rw [b6.block b4 (heap_lt hh4.out)]; exact hh4.out
          have hh47 : Hid ((w6.alloc (.cells #[.int .i64 R1, .int .i64 R2, .int .u32 (R3.toNat : Int)] 50)).heap[b4]? = some (.cells #[.int .i64 R1, .int .i64 R2, .int .u32 (R3.toNat : Int)] 50 (0, 0))) := by show _ = _; rw [(box_below w6 _).block b4 (heap_lt hh46.out)]; exact hh46.out
          have hh6 : Hid ((w6.alloc (.cells #[.int .i64 R1, .int .i64 R2, .int .u32 (R3.toNat : Int)] 50)).heap[w6.heap.size]? = some (.cells #[.int .i64 R1, .int .i64 R2, .int .u32 (R3.toNat : Int)] 50 (0, 0))) := heap_alloc_new _ _
          have t6 := hide ((t4.out.below b6).below (box_below w6 (.cells #[.int .i64 R1, .int .i64 R2, .int .u32 (R3.toNat : Int)] 50)))
          have hB6 := hide (keepF (keepF hB4.out b6) (box_below w6 (.cells #[.int .i64 R1, .int .i64 R2, .int .u32 (R3.toNat : Int)] 50)))
          clear hR5 b6 e1 t4 hh4 hh46
          go_upto_region 19 with fail
          generalize hbq : w6.heap.size = b6 at *
          generalize w6.alloc (.cells #[.int .i64 R1, .int .i64 R2, .int .u32 (R3.toNat : Int)] 50) = w7 at *
          clear hbq
          have e1 := KS.out w7 hB6.out
          obtain ⟨r0, r1, r2, _, _, _⟩ := three_cells hh6.out
          obtain ⟨p0, p1, p2, _, _, _⟩ := three_cells hh47.out
          have hback := hide (back_any w w7 g v3 _ ll hB6.out HSk.out t6.out hg0.out (by omega))
          go_wp2_with fail
          refine hback.out.mono ?_
          rintro e w8 ⟨rfl, G8⟩
          have hB8 : Hid (Below w.heap.size w w8) := hB6.out.grown G8 hB6.out.size (fun k hk => by have := hg0.out; simp at hk; omega)
          clear hback G8
          go_wp2_with fail
          go_roundw
          case rel => exact ⟨j + 1, by go_num, by omega, hB8.out⟩
          case measure => simp [intOf]; omega
        · have i1 : ¬ ((j : Int) < (m : Int)) := by omega
          go_wp2_with fail
          go_ret
          exact ⟨rfl, hB.out⟩
#print axioms fheads_walk
end Go.Proofs.Ytophaolgmpdimaa
