/-
  Frames one behind the other, by their bytes; the walk of FrameChain.
-/
import Derived.Test.YtophaolgmpdimaaFr
import Derived.Test.YtophaolgmpdimaaFx
import Derived.Laws.StructEq
import Derived.BigQuiet
import Derived.Deep.RegionHeld3
namespace Go.Proofs.Ytophaolgmpdimaa
open Go.RowKit
set_option maxRecDepth 100000

/-- A record that was read into a variable: its block, its data's own memory. -/
def Rdd (W wx : World) (bq : Nat) (vq : Value) (L : Int) (D : List UInt8) : Prop :=
  wx.heap[bq]? = some (.cells #[.int .i64 L, vq] 34 (0, 0)) ∧ wx.ownsRow W.heap.size 5 1 vq D.length (bvals D) ∧ Below W.heap.size W wx ∧ W.heap.size ≤ bq
def Rdy (W u : World) (v : Value) (D : List UInt8) : Prop := u.ownsRow W.heap.size 5 1 v D.length (bvals D) ∧ Below W.heap.size W u
theorem Rdy.fin {W u : World} {v : Value} {L : Int} {D : List UInt8} (h : Rdy W u v D) : Rdd W (u.alloc (.cells #[.int .i64 L, v] 34)) u.heap.size v L D :=
  ⟨heap_alloc_new _ _, h.1.alloc _, keepF h.2 (box_below _ _), h.2.size⟩
theorem Rdd.below {W u v : World} {bq : Nat} {vq : Value} {L : Int} {D : List UInt8} (h : Rdd W u bq vq L D) (hb : Below u.heap.size u v) : Rdd W v bq vq L D :=
  ⟨by rw [hb.block bq (heap_lt h.1)]; exact h.1, ownsRow_below h.2.1 hb, keepF h.2.2.1 hb, h.2.2.2⟩
theorem headFs : ∃ n0 n1 n2 : String, Try.prog.underlying 50 = some (.struct (Try.prog.fieldsOf 50)) ∧ (Try.prog.fieldsOf 50).toList.map (fun f => (f.name, f.type, f.offset)) = [(n0, 2, 0), (n1, 2, 1), (n2, 35, 2)] ∧ n0 ≠ "_" ∧ n1 ≠ "_" ∧ n2 ≠ "_" :=
  ⟨ "Num", "Base", "Seed", by kernel_rfl, by kernel_rfl, by decide, by decide, by decide⟩
theorem headHeld : Try.prog.stoodInHeld 50 = false := by kernel_rfl
theorem headEq (w : World) (a b : Int) (c : Int) : (Op.equalIn 10000 50 (.agg #[.int .i64 a, .int .i64 b, .int .u32 c]) (.agg #[.int .i64 a, .int .i64 b, .int .u32 c])).run Try.prog w = .ok true w := by
  obtain ⟨n0, n1, n2, h1, h2, h3, h4, h5⟩ := headFs
  rw [run_equalIn_struct w 9999 50 _ _ h1 headHeld]
  generalize (Try.prog.fieldsOf 50).toList = fs at h2
  have hl : fs.length = 3 := by have := congrArg List.length h2; simpa using this
  match fs, hl with
  | [f0, f1, f2], _ =>
    simp only [List.map_cons, List.map_nil, List.cons.injEq, Prod.mk.injEq, and_true] at h2
    obtain ⟨⟨a1, a2, a3⟩, ⟨b1, b2, b3⟩, ⟨c1, c2, c3⟩⟩ := h2
    have p0 : f0.name ≠ "_" := by rw [a1]; exact h3
    have p1 : f1.name ≠ "_" := by rw [b1]; exact h4
    have p2 : f2.name ≠ "_" := by rw [c1]; exact h5
    simp [Op.eqFields, p0, p1, p2, a2, a3, b2, b3, c2, c3, go_sem]
theorem headNeq (w : World) (a b : Int) (c : Int) : (binOp .neq 50 (.agg #[.int .i64 a, .int .i64 b, .int .u32 c]) (.agg #[.int .i64 a, .int .i64 b, .int .u32 c])).run Try.prog w = .ok (.bool false) w := by
  rw [run_neq_struct, headEq]
  rfl
/-- The bytes of frames of the data ds, the first with the number b, each behind the sum of the one ahead; the last one's sum. -/
def chn : Crc.R → Nat → List (List UInt8) → List UInt8 × Crc.R
  | s, _, [] => ([], s)
  | s, b, d :: r => (frm s b d ++ (chn (fsum s b d) (b + 1) r).1, (chn (fsum s b d) (b + 1) r).2)
theorem chn_split (x y : List (List UInt8)) : ∀ (s : Crc.R) (b : Nat), chn s b (x ++ y) = ((chn s b x).1 ++ (chn (chn s b x).2 (b + x.length) y).1, (chn (chn s b x).2 (b + x.length) y).2) := by
  induction x with
  | nil => intro s b; simp [chn]
  | cons d r ih =>
    intro s b
    rw [List.cons_append, chn, ih, chn]
    simp only [List.append_assoc, List.length_cons, Nat.add_assoc, Nat.add_comm 1]
theorem chn_one (s : Crc.R) (b : Nat) (d : List UInt8) : chn s b [d] = (frm s b d, fsum s b d) := by simp [chn]
theorem chn_snoc (s : Crc.R) (b : Nat) (ds : List (List UInt8)) (i : Nat) (h : i < ds.length) : chn s b (ds.take (i + 1)) = ((chn s b (ds.take i)).1 ++ frm (chn s b (ds.take i)).2 (b + i) ds[i], fsum (chn s b (ds.take i)).2 (b + i) ds[i]) := by
  have hl : (ds.take i).length = i := by simp; omega
  rw [List.take_succ_eq_append_getElem h, chn_split, chn_one, hl]
theorem chn_len (ds : List (List UInt8)) : ∀ (s : Crc.R) (b : Nat), (∀ d ∈ ds, d.length ≤ 4096) → (chn s b ds).1.length ≤ 4112 * ds.length := by
  induction ds with
  | nil => intro s b _; simp [chn]
  | cons d r ih =>
    intro s b h
    have h1 := h d (by simp)
    have h2 := ih (fsum s b d) (b + 1) (fun e he => h e (by simp [he]))
    simp only [chn, List.length_append, frm_len, List.length_cons]
    omega
/-- What stands behind the first i frames. -/
theorem chn_drop (s : Crc.R) (b : Nat) (ds : List (List UInt8)) (i : Nat) (h : i < ds.length) : (chn s b ds).1 = (chn s b (ds.take i)).1 ++ (frm (chn s b (ds.take i)).2 (b + i) ds[i] ++ (chn (fsum (chn s b (ds.take i)).2 (b + i) ds[i]) (b + i + 1) (ds.drop (i + 1))).1) := by
  have e : ds = ds.take i ++ (ds[i] :: ds.drop (i + 1)) := by rw [← List.drop_eq_getElem_cons h, List.take_append_drop]
  have hl : (ds.take i).length = i := by simp; omega
  rw [show chn s b ds = chn s b (ds.take i ++ (ds[i] :: ds.drop (i + 1))) from congrArg (chn s b) e, chn_split, hl, chn]

set_option maxHeartbeats 8000000 in
theorem fchain_walk (w : World) (nm bs : Int) (sd : BitVec 32) (z : Value) (vs : List Value) (ls : List (List UInt8)) (g0 : -9223372036854775808 ≤ nm) (g1 : nm ≤ 9223372036854775807) (g2 : -9223372036854775808 ≤ bs) (g3 : bs ≤ 9223372036854775807)
    (hz : Row w z vs) (hs : Sls w vs ls) :
    Calls Try.prog 7 #[.agg #[.int .i64 nm, .int .i64 bs, .int .u32 (sd.toNat : Int)], z] w fun e w' => e = .returned (.bool true) ∧ Below w.heap.size w w' := by
  obtain ⟨a2, c2, rfl, _, n1, n2, ga⟩ := hz
  obtain ⟨n, hn⟩ : ∃ n, Hid (vs.length = n) := ⟨_, rfl⟩
  have hv : n ≤ 9223372036854775807 := by rw [← hn.out]; unfold maxLen at n2; omega
  rw [hn.out]
  replace ga : Hid (At w a2 vs) := ga
  replace hs : Hid (Sls w vs ls) := hs
  have hnl : Hid (ls.length = n) := by show _ = _; rw [← hs.out.1]; exact hn.out
  have hneq := headNeq
  have G1 := hide g1
  have G3 := hide g3
  have G0 := hide g0
  have G2 := hide g2
  clear n1 n2 g0 g1 g2 g3
  obtain ⟨w1, hw1⟩ : ∃ w1, Hid (w.alloc (.cells #[.int .i64 nm, .int .i64 bs, .int .u32 (sd.toNat : Int)] 50) = w1) := ⟨_, rfl⟩
  have hb1 : Hid (Below w.heap.size w w1) := by rw [← hw1.out]; exact box_below _ _
  have hh1 : Hid (w1.heap[w.heap.size]? = some (.cells #[.int .i64 nm, .int .i64 bs, .int .u32 (sd.toNat : Int)] 50 (0, 0))) := by rw [← hw1.out]; exact heap_alloc_new _ _
  go_enter Try.func7, Try.ntmps7
  go_wp2_with fail
  rw [hw1.out]
  refine (begun6_any _).mono ?_
  rintro e w2 ⟨rfl, b2⟩
  have hb2 := hide (keepF hb1.out b2)
  have hh2 : Hid (w2.heap[w.heap.size]? = some (.cells #[.int .i64 nm, .int .i64 bs, .int .u32 (sd.toNat : Int)] 50 (0, 0))) := by show _ = _; rw [b2.block w.heap.size (heap_lt hh1.out)]; exact hh1.out
  obtain ⟨c0, c1, c3, _, _, _⟩ := three_cells hh2.out
  clear b2 hb1 hh1 hw1
  by_cases q1 : nm < 1
  · go_wp2_with fail
    go_ret
    exact ⟨rfl, hb2.out⟩
  by_cases q2 : bs < 1
  · go_wp2_with fail
    go_ret
    exact ⟨rfl, hb2.out⟩
  by_cases q3 : bs > 1152921504606846976
  · go_wp2_with fail
    go_ret
    exact ⟨rfl, hb2.out⟩
  by_cases q4 : (n : Int) > 100
  · go_wp2_with fail
    go_ret
    exact ⟨rfl, hb2.out⟩
  have hwh := hide (writeHead_any w2 nm bs sd G0.out G1.out G2.out G3.out)
  rw [whF_ok (by omega) (by omega)] at hwh
  obtain ⟨nb, rfl⟩ := Int.eq_ofNat_of_zero_le (show 0 ≤ bs by omega)
  obtain ⟨nn, rfl⟩ := Int.eq_ofNat_of_zero_le (show 0 ≤ nm by omega)
  rw [Int.toNat_natCast, Int.toNat_natCast] at hwh
  obtain ⟨H, hH⟩ : ∃ H, Hid (hed nn nb sd = H) := ⟨_, rfl⟩
  obtain ⟨s0, hs0⟩ : ∃ s, Hid (hsum nn nb sd = s) := ⟨_, rfl⟩
  have hHl : Hid (H.length = 32) := by show _ = _; rw [← hH.out]; exact hed_len _ _ _
  have hrb : Hid (∀ r, rhF (H ++ r) = ((nn : Int), (nb : Int), sd, s0, 0)) := fun r => by
    rw [← hH.out, ← hs0.out]
    exact rh_back nn nb sd r (by omega) (by have := G1.out; omega) (by omega) (by have := G3.out; omega)
  rw [hH.out, hs0.out] at hwh
  have Q2 : Hid (1 ≤ nb) := by show _ ≤ _; omega
  have Q3 : Hid (nb ≤ 1152921504606846976) := by show _ ≤ _; omega
  have Q4 : Hid (n ≤ 100) := by show _ ≤ _; omega
  go_wp2_with fail
  refine hwh.out.mono ?_
  rintro e w3 ⟨v3, rfl, ho3, b3⟩
  have ho30 := hide ho3
  have b30 := hide b3
  have hh3 : Hid (∀ q, Below w2.heap.size w2 q → q.heap[w.heap.size]? = some (.cells #[.int .i64 (nn : Int), .int .i64 (nb : Int), .int .u32 (sd.toNat : Int)] 50 (0, 0))) := fun q hq => by rw [hq.block w.heap.size (heap_lt hh2.out)]; exact hh2.out
  clear hwh ho3 b3 c0 c1 c3 q1 q2 q3 q4
  go_wp2_with fail
  go_loopw [5, 6, 8] (fun vb vq vi wr => ∃ (i : Nat) (L : List UInt8) (S : Crc.R), vi = .int .i64 (i : Int) ∧ vq = .int .u32 (S.toNat : Int) ∧ i ≤ n ∧ Hid (chn s0 nb (ls.take i) = (L, S)) ∧ Hid (∀ d ∈ ls.take i, d.length ≤ 4096) ∧ Hid (wr.ownsRow w2.heap.size 5 1 vb (H ++ L).length (bvals (H ++ L))) ∧ Hid (Below w2.heap.size w2 wr)) (fun _ _ i _ => n - (intOf i).toNat)
  case atStart => exact ⟨0, [], s0, rfl, rfl, Nat.zero_le _, rfl, fun d hd => by simp at hd, by rw [List.append_nil]; exact ho30.out, b30.out⟩
  case round =>
    clear ho30 b30
    obtain ⟨i, L, S, rfl, rfl, hin, hch, h4, hown, hB2⟩ := hrel
    have hB := hide (keepF hb2.out hB2.out)
    have hh := hide (hh3.out wr hB2.out)
    by_cases hlt : i < n
    · have i1 : (i : Int) < (n : Int) := by omega
      have i0 : (0 : Int) ≤ (i : Int) := by omega
      have hkv : i < vs.length := by rw [hn.out]; omega
      have hkl : i < ls.length := by rw [hnl.out]; omega
      have hSk := hs.out.2 i hkv hkl
      obtain ⟨x1, o1, rfl, d1⟩ := ga.out i hkv
      have l1 := lt_of_cell d1
      obtain ⟨ll, hll⟩ : ∃ ll, Hid (ls[i] = ll) := ⟨ls[i], hide rfl⟩
      rw [hll.out] at hSk
      generalize vs[i] = vv at *
      have HSk := hide hSk
      obtain ⟨N, hN⟩ : ∃ N, Hid (ll.length = N) := ⟨_, rfl⟩
      obtain ⟨va, vc, rfl⟩ := hSk.form hN.out
      have KS : Hid (∀ v : World, Below w2.heap.size w2 v → Below w2.heap.size w2 v ∧ v.cell? ⟨x1, o1 + i, none⟩ = some (.slice va N vc) ∧ v.cell? ⟨w.heap.size, 1, none⟩ = some (.int .i64 (nb : Int))) := fun v hv => ⟨hv, ((keepF hb2.out hv).cell l1).trans d1, (three_cells (hh3.out v hv)).2.1⟩
      have hadd : IntKind.i64.wrap ((nb : Int) + (i : Int)) = ((nb + i : Nat) : Int) := by rw [IntKind.wrap_i64]; have := Q3.out; have := Q4.out; omega
      obtain ⟨B, T, E, hF⟩ : ∃ B T E, Hid (wrF S ((nb + i : Nat) : Int) ll = (B, T, E)) := ⟨_, _, _, rfl⟩
      have hwr : Hid (∀ q : World, Below w2.heap.size w2 q → Calls Try.prog 12 #[.int .u32 (S.toNat : Int), .int .i64 ((nb + i : Nat) : Int), .slice va N vc] q fun e w' => ∃ v', e = .returned (.tuple #[v', .int .u32 (T.toNat : Int), .int .i64 E]) ∧ w'.ownsRow q.heap.size 5 1 v' B.length (bvals B) ∧ Below q.heap.size q w') := fun q hq => by
        have := write_any q S ((nb + i : Nat) : Int) _ ll (by omega) (by have := Q3.out; have := Q4.out; omega) (Below.sl (keepF hb2.out hq) HSk.out)
        rw [hF.out] at this
        exact this
      clear d1 l1 hSk
      have hS0 := KS.out wr.drew hB2.out.drew
      go_wp2_with fail
      go_region_held3 (fun q => Below w2.heap.size w2 q ∧ q.cell? ⟨x1, o1 + i, none⟩ = some (.slice va N vc) ∧ q.cell? ⟨w.heap.size, 1, none⟩ = some (.int .i64 (nb : Int)))
        (first | exact hS0 | assumption | exact KS.out _ KN | fail)
        (first
          | (go_at_call 12; refine (hwr.out wr.drew hB2.out.drew).mono ?_; rintro e w5 ⟨v5, rfl, O5, B5⟩
             have KN : Below w2.heap.size w2 w5 := keepF hB2.out.drew B5)
          | fail)
      have hB5 := hide KN
      have o5 := hide (Sl.of_owns O5)
      have hown5 := hide (ownsRow_below hown.out (keepF (Below.refl _ _).drew B5))
      obtain ⟨_, e1, e2⟩ := KS.out w5 KN
      clear O5 B5 KN hS0
      rename_i hold5
      clear hold5
      by_cases h46 : N ≤ 4096
      · have hwo := wrF_ok (seed := S) (lsn := ((nb + i : Nat) : Int)) (d := ll) (by have := Q2.out; omega) (by have := Q3.out; have := Q4.out; omega) (by rw [hN.out]; exact h46)
        rw [hF.out, Int.toNat_natCast] at hwo
        simp only [Prod.mk.injEq] at hwo
        obtain ⟨hB1, hT1, rfl⟩ := hwo
        have hch2 : Hid (chn s0 nb (ls.take (i + 1)) = (L ++ B, T)) := by
          show _ = _
          rw [chn_snoc s0 nb ls i hkl, hch.out, hll.out, hB1, hT1]
        have h42 : Hid (∀ d ∈ ls.take (i + 1), d.length ≤ 4096) := fun d hd => by
          rw [List.take_succ_eq_append_getElem hkl, hll.out, List.mem_append, List.mem_singleton] at hd
          rcases hd with hd | rfl
          · exact h4.out d hd
          · rw [hN.out]; exact h46
        have hLB : Hid ((H ++ L).length + B.length ≤ 140737488355328) := by
          show _ ≤ _
          have h1 := chn_len (ls.take (i + 1)) s0 nb h42.out
          rw [hch2.out, List.length_append] at h1
          have h2 : (ls.take (i + 1)).length ≤ 101 := by have := Q4.out; simp; omega
          rw [List.length_append, hHl.out]
          have h3 : 4112 * (ls.take (i + 1)).length ≤ 4112 * 101 := Nat.mul_le_mul_left _ h2
          omega
        have happ : Hid (H ++ L ++ B = H ++ (L ++ B)) := by show _ = _; simp
        have z5 := hide hB5.out.size
        have hi4 : ((N : Int) ≤ 4096) := by omega
        obtain ⟨HL, hHL⟩ : ∃ HL, Hid (H ++ L = HL) := ⟨_, rfl⟩
        rw [hHL.out] at hown5 hLB happ
        clear hB1 hT1 h46
        go_wp2_with (at_builtin; refine wpList_append_bytes rfl (.tmp 79) (.tmp 80) 31 rfl w2.heap.size 5 Try.infoU8 Try.underlying31 _ _ HL B rfl hown5.out rfl o5.out hLB.out z5.out ?_)
        intro v6 w6 ho6 b6
        rw [← List.length_append, happ.out] at ho6
        replace ho6 := hide ho6
        have hB6 := hide (hB5.out.trans b6)
        clear b6 e1 e2
        go_wp2_with fail
        go_roundw
        case rel => exact ⟨i + 1, L ++ B, T, by go_num, rfl, by omega, hch2.out, h42.out, ho6.out, hB6.out⟩
        case measure => simp [intOf]; omega
      · have hE : E = 3 := by
          have h := hF.out
          rw [wrF, if_neg (by simp [inB]; have := Q2.out; have := Q3.out; have := Q4.out; omega), if_pos (by rw [hN.out]; omega)] at h
          simp only [Prod.mk.injEq] at h
          exact h.2.2.symm
        subst hE
        have hi4 : ¬ ((N : Int) ≤ 4096) := by omega
        have hBw := hide (keepF hb2.out hB5.out)
        go_wp2_with fail
        go_ret
        exact ⟨rfl, hBw.out⟩
    · have i1 : ¬ ((i : Int) < (n : Int)) := by omega
      obtain rfl : i = n := by omega
      have hta : Hid (ls.take i = ls) := by show _ = _; rw [List.take_of_length_le (by rw [hnl.out]; omega)]
      rw [hta.out] at hch h4
      obtain ⟨K, hK⟩ : ∃ K, Hid ((H ++ L).length = K) := ⟨_, rfl⟩
      have hKL : Hid (K = 32 + L.length) := by show _ = _; rw [← hK.out, List.length_append, hHl.out]
      have hsB := hide (Sl.of_owns hown.out)
      obtain ⟨bb, bo, bc, rfl, hbc1, hbc2⟩ := hsB.out.some (by rw [hK.out, hKL.out]; omega)
      rw [hK.out] at hbc1 hsB hown ⊢
      have hrd := hide (readHead_any wr _ _ hsB.out)
      rw [hrb.out] at hrd
      obtain ⟨wA, hwA⟩ : ∃ wA, wA = wr := ⟨_, rfl⟩
      subst hwA
      go_wp2_with fail
      refine hrd.out.mono ?_
      rintro e w6 ⟨rfl, b6⟩
      have hB6 := hide (keepF (keepF hB2.out b6) (box_below w6 (.cells #[.int .i64 (nn : Int), .int .i64 (nb : Int), .int .u32 (sd.toNat : Int)] 50)))
      have hhN : Hid ((w6.alloc (.cells #[.int .i64 (nn : Int), .int .i64 (nb : Int), .int .u32 (sd.toNat : Int)] 50)).heap[w6.heap.size]? = some (.cells #[.int .i64 (nn : Int), .int .i64 (nb : Int), .int .u32 (sd.toNat : Int)] 50 (0, 0))) := heap_alloc_new _ _
      have hsB6 := hide (Below.sl (keepF b6 (box_below w6 (.cells #[.int .i64 (nn : Int), .int .i64 (nb : Int), .int .u32 (sd.toNat : Int)] 50))) hsB.out)
      clear hrd b6
      go_upto_region 19 with fail
      generalize hbq : w6.heap.size = b6 at *
      generalize w6.alloc (.cells #[.int .i64 (nn : Int), .int .i64 (nb : Int), .int .u32 (sd.toNat : Int)] 50) = w7 at *
      clear hbq
      obtain ⟨r0, r1, r2, _, _, _⟩ := three_cells hhN.out
      obtain ⟨p0, p1, p2, _, _, _⟩ := three_cells (hh3.out w7 hB6.out)
      go_wp2_with fail
      clear r0 r1 r2 p0 p1 p2
      go_loopw [13, 14, 15] (fun vr vt vi wr => ∃ (j P : Nat) (A : List UInt8) (R : Crc.R), vi = .int .i64 (j : Int) ∧ vr = .int .u32 (R.toNat : Int) ∧ vt = .int .i64 (P : Int) ∧ j ≤ i ∧ Hid (P = 32 + A.length) ∧ Hid (chn s0 nb (ls.take j) = (A, R)) ∧ Hid (Sl wr (.slice (some ⟨bb, bo, none⟩) K bc) (H ++ L)) ∧ Hid (Below w2.heap.size w2 wr)) (fun _ _ i' _ => i - (intOf i').toNat)
      case atStart => exact ⟨0, 32, [], s0, rfl, rfl, rfl, Nat.zero_le _, rfl, rfl, hsB6.out, hB6.out⟩
      case round =>
        clear hsB6 hB6 hhN hsB hown hB2 hB hh
        obtain ⟨j, P, A, R, rfl, rfl, rfl, hjn, hP, hcj, hsl, hB2⟩ := hrel
        have hB := hide (keepF hb2.out hB2.out)
        by_cases hlt : j < i
        · have j1 : (j : Int) < (i : Int) := by omega
          have j0 : (0 : Int) ≤ (j : Int) := by omega
          have hkv : j < vs.length := by rw [hn.out]; omega
          have hkl : j < ls.length := by rw [hnl.out]; omega
          have hSk := hs.out.2 j hkv hkl
          have hL4 := h4.out ls[j] (List.getElem_mem hkl)
          obtain ⟨x1, o1, rfl, d1⟩ := ga.out j hkv
          have l1 := lt_of_cell d1
          obtain ⟨ll, hll⟩ : ∃ ll, Hid (ls[j] = ll) := ⟨ls[j], hide rfl⟩
          rw [hll.out] at hSk hL4
          generalize vs[j] = vv at *
          have HSk := hide hSk
          obtain ⟨N, hN⟩ : ∃ N, Hid (ll.length = N) := ⟨_, rfl⟩
          obtain ⟨va, vc, rfl⟩ := hSk.form hN.out
          have hN4 : N ≤ 4096 := by rw [← hN.out]; exact hL4
          obtain ⟨X, hX⟩ : ∃ X, Hid (L = A ++ (frm R (nb + j) ll ++ X)) := by
            have := chn_drop s0 nb ls j hkl
            rw [hch.out, hcj.out, hll.out] at this
            exact ⟨_, this⟩
          have hXl : Hid (K = P + (16 + N) + X.length) := by
            show _ = _
            rw [hKL.out, hP.out, hX.out, List.length_append, List.length_append, frm_len, hN.out]; omega
          have hdr : Hid ((H ++ L).drop P = frm R (nb + j) ll ++ X) := by
            show _ = _
            rw [hX.out, ← List.append_assoc, List.drop_left' (by rw [List.length_append, hHl.out, hP.out])]
          have u1 : (P : Int) ≤ (K : Int) := by have := hXl.out; omega
          have u2 : (P : Int) ≤ (bc : Int) := by omega
          have u3 : ¬ (bc = P) := by have := hXl.out; omega
          have u4 : (0 : Int) ≤ (P : Int) := by omega
          have u5 : P ≤ K := by omega
          have hKc : K ≤ bc := hbc1
          have st : Hid (Sl wr (.slice (some ⟨bb, bo + P, none⟩) (K - P) (bc - P)) (frm R (nb + j) ll ++ X)) := by
            have := sl_mid P (K - P) hsl.out hK.out (by omega)
            rw [List.take_of_length_le (by rw [List.length_drop, hK.out]; exact Nat.le_refl _), hdr.out] at this
            exact this
          obtain ⟨T, hT⟩ : ∃ T, Hid (fsum R (nb + j) ll = T) := ⟨_, rfl⟩
          have hrd := hide (read_any wr R _ _ st.out)
          rw [rd_back R (nb + j) ll X (by have := Q2.out; omega) (by have := Q3.out; have := Q4.out; omega) hL4, hT.out, hN.out] at hrd
          have hcj2 : Hid (chn s0 nb (ls.take (j + 1)) = (A ++ frm R (nb + j) ll, T)) := by
            show _ = _
            rw [chn_snoc s0 nb ls j hkl, hcj.out, hll.out, hT.out]
          have hP2 : Hid (P + (16 + N) = 32 + (A ++ frm R (nb + j) ll).length) := by
            show _ = _
            rw [List.length_append, frm_len, hN.out, hP.out]; omega
          have hadd : IntKind.i64.wrap ((nb : Int) + (j : Int)) = ((nb + j : Nat) : Int) := by rw [IntKind.wrap_i64]; have := Q3.out; have := Q4.out; omega
          have hsz : Hid (szF (N : Int) = 16 + (N : Int)) := by show _ = _; rw [szF, if_pos (by omega)]
          have hsmall : P + (16 + N) ≤ 1000000 := by
            have h1 : L.length ≤ 4112 * i := by
              have := chn_len ls s0 nb h4.out
              rw [hch.out, hnl.out] at this
              exact this
            have h3 : 4112 * i ≤ 4112 * 100 := Nat.mul_le_mul_left _ Q4.out
            have := hXl.out
            have := hKL.out
            omega
          generalize (nb + j : Nat) = NB at *
          clear hSk hL4
          go_wp2_with fail
          refine hrd.out.mono ?_
          rintro e w8 ⟨v8, rfl, ho8', b8⟩
          have ho8 : w8.ownsRow wr.heap.size 5 1 v8 ll.length (bvals ll) := by rw [hN.out]; exact ho8'
          clear ho8'
          have hd8 : Hid (Rdd wr (w8.alloc (.cells #[.int .i64 (NB : Int), v8] 34)) w8.heap.size v8 (NB : Int) ll) := Rdy.fin ⟨ho8, b8⟩
          obtain ⟨ao8, ca8, rfl⟩ := (Sl.of_owns ho8).form hN.out
          have hB8 := hide (keepF hB2.out hd8.out.2.2.1)
          have hsl8 := hide (Below.sl hd8.out.2.2.1 hsl.out)
          clear ho8 b8 hrd st
          go_upto_region 26 with fail
          generalize hbq : w8.heap.size = b8 at *
          generalize w8.alloc (.cells #[.int .i64 (NB : Int), .slice ao8 N ca8] 34) = w9 at *
          clear hbq
          have e1 := ((keepF hb2.out hB8.out).cell l1).trans d1
          obtain ⟨r0, r1, _, _⟩ := two_cells hd8.out.1
          obtain ⟨p0, p1, p2, _, _, _⟩ := three_cells (hh3.out w9 hB8.out)
          have heq : Hid (∀ q, Qt w9 q → Calls Try.prog 14 #[.slice ao8 N ca8, .slice va N vc] q fun e w' => e = .returned (.bool true) ∧ ∃ k, w' = q.drewN k) := fun q hq => by
            have := eqS_any q (.slice ao8 N ca8) (.slice va N vc) ll ll (hq.sl (Sl.of_owns hd8.out.2.1)) (hq.sl (Below.sl (keepF hb2.out hB8.out) HSk.out))
            rw [decide_eq_true rfl] at this
            exact this
          have hsz2 : Hid (∀ q, Calls Try.prog 9 #[.int .i64 (N : Int)] q fun e w' => e = .returned (.int .i64 (16 + (N : Int))) ∧ w' = q) := fun q => by have := size_any q (N : Int); rw [hsz.out] at this; exact this
          go_quiet (first | (go_at_call 14; exact Calls.quiet_of (heq.out _ ⟨_, rfl⟩)) | (go_at_call 9; exact Calls.quiet_of_same (hsz2.out _)))
          have hBQ : Hid (Below w2.heap.size w2 (w9.drewN nq)) := keepF hB8.out (Qt.below ⟨_, rfl⟩ _)
          have hsQ : Hid (Sl (w9.drewN nq) (.slice (some ⟨bb, bo, none⟩) K bc) (H ++ L)) := Qt.sl ⟨_, rfl⟩ hsl8.out
          go_wp2_with fail
          go_roundw
          case rel => exact ⟨j + 1, P + (16 + N), _, T, by go_num, rfl, by go_num, by omega, hP2.out, hcj2.out, hsQ.out, hBQ.out⟩
          case measure => simp [intOf]; omega
        · have j1 : ¬ ((j : Int) < (i : Int)) := by omega
          obtain rfl : j = i := by omega
          rw [hta.out, hch.out] at hcj
          have hcc := hcj.out
          simp only [Prod.mk.injEq] at hcc
          obtain ⟨rfl, rfl⟩ := hcc
          have hPK : ((P : Int) == (K : Int)) = true := by have := hP.out; have := hKL.out; simp; omega
          go_wp2_with fail
          go_ret
          exact ⟨rfl, hB.out⟩
#print axioms fchain_walk
end Go.Proofs.Ytophaolgmpdimaa
