/-
  What scan.Each answers; what every statement of the seventh layer asks ahead (flumelaw7.begun) is answered true.
-/
import Derived.Test.YtebhkdaefjmbnaaJg
import Derived.Test.YtebhkdaefjmbnaaJp
import Derived.Test.YtebhkdaefjmbnaaForms
import Derived.Test.YtebhkdaefjmbnaaFd
namespace Go.Proofs.Ytebhkdaefjmbnaa
open Go.RowKit Go.Shelf
set_option maxRecDepth 100000
set_option linter.unusedVariables false

/-- An iterator that Each answered: its boxes, the bytes' copy. -/
def EachAt (w W : World) (L : List UInt8) (base : Int) (seed : Crc.R) (b1 b2 b3 : Nat) (v : Value) : Prop :=
  W.heap[b1]? = some (.cells #[v] 22 (0, 0)) ∧ W.heap[b2]? = some (.cells #[.int .i64 base] 2 (0, 0)) ∧ W.heap[b3]? = some (.cells #[.int .u32 (seed.toNat : Int)] 23 (0, 0)) ∧
  W.ownsRow w.heap.size 5 1 v L.length (bvals L) ∧ w.heap.size ≤ b1 ∧ w.heap.size ≤ b2 ∧ w.heap.size ≤ b3 ∧ Below w.heap.size w W
theorem each_any (w : World) (v : Value) (L : List UInt8) (base : Int) (seed : Crc.R) (hv : Sl w v L) (hL : L.length ≤ 1099511627776) :
    Calls Try.prog 13 #[v, .int .i64 base, .int .u32 (seed.toNat : Int)] w fun e w' => ∃ b1 b2 b3 v', e = .returned (.func (.func 30) #[] #[.pointer (some ⟨b1, 0, none⟩), .pointer (some ⟨b2, 0, none⟩), .pointer (some ⟨b3, 0, none⟩)]) ∧ EachAt w w' L base seed b1 b2 b3 v' := by
  have HV := hide hv
  obtain ⟨ao, ca, rfl, hrest⟩ := hv
  clear hrest
  obtain ⟨nn, hnn⟩ : ∃ nn, Hid (L.length = nn) := ⟨_, rfl⟩
  have hL' := hide hL
  rw [hnn.out] at HV ⊢
  clear hL
  go_enter Try.func13, Try.ntmps13
  go_wp2_with fail
  refine (clone_any _ _ L HV.out (by have := hL'.out; omega)).mono ?_
  rintro e u ⟨v', rfl, ho, hb⟩
  obtain ⟨ao', ca', rfl⟩ := own_slice ho
  have ho' := hide ho
  have hb' := hide hb
  rw [hnn.out] at ho' ⊢
  clear ho hb
  go_wp2_with fail
  refine (places_any _ _ _ _ _ _).mono ?_
  rintro e u' ⟨rfl, rfl⟩
  obtain ⟨a, b, c⟩ := heap3 u (.cells #[.slice ao' nn ca'] 22) (.cells #[.int .i64 base] 2) (.cells #[.int .u32 (seed.toNat : Int)] 23)
  go_wp2_with fail
  go_ret
  have hsz := hb'.out.size
  refine ⟨_, _, _, _, rfl, a, b, c, ?_, hsz, by omega, by omega, ((hb'.out.alloc hsz _).alloc (by simp; omega) _).alloc (by simp; omega) _⟩
  rw [hnn.out]
  exact ((ho'.out.alloc _).alloc _).alloc _

theorem lastc_map (L : List UInt8) (x : Sc) (K : Nat) : lastc L ((List.range (K + 1)).map (Sst L x)) = scc (Sst L x K) (whyS L (Sst L x K)) := by
  rw [List.range_succ, List.map_append]; exact lastc_snoc _ _ _
theorem beg7 : ∃ xs ps S, EvS (frm 0#32 5 [97] ++ frm (fsum 0#32 5 [97]) 6 []) 5 0#32 xs ∧ lastc (frm 0#32 5 [97] ++ frm (fsum 0#32 5 [97]) 6 []) xs = #[.int .i64 2, .int .i64 33, .int .i64 7, .int .u32 S, .int .i64 1] ∧
    EvP (frm 0#32 5 [97] ++ frm (fsum 0#32 5 [97]) 6 []) 5 0#32 ps ∧ ps.length = 2 ∧ ∃ d, fndF (frm 0#32 5 [97] ++ frm (fsum 0#32 5 [97]) 6 []) ps 6 = (6, d, 17, 0) := by
  have e : frm 0#32 5 [97] ++ frm (fsum 0#32 5 [97]) 6 [] = (chn 0#32 5 [[97], []]).1 := by simp [chn]
  rw [e]
  have hd : ∀ d ∈ [[(97 : UInt8)], []], d.length ≤ 4096 := by simp
  obtain ⟨hK, hS, hw⟩ := chain_isK 0#32 5 [[97], []] (by omega) (by simp) hd
  have hl : (chn 0#32 5 [[97], []]).1.length = 33 := by simp [chn, frm_len]
  have h1 := (chain_st 0#32 5 [[97], []] [] (by omega) (by simp) hd 1 (by simp)).2
  rw [List.append_nil] at h1
  have h1l : (chn 0#32 5 ([[97], []].take 1)).1.length = 17 := by simp [chn, frm_len]
  refine ⟨_, _, ((chn 0#32 5 [[97], []]).2.toNat : Int), .inr ⟨by omega, 2, hK, rfl⟩, ?_, .inr ⟨by omega, 2, hK, rfl⟩, by simp, dat (chn 0#32 5 [[97], []]).1 (Sst (chn 0#32 5 [[97], []]).1 ⟨0, 0, 5, 0#32⟩ 1), ?_⟩
  · show lastc _ ((List.range (2 + 1)).map (Sst _ ⟨0, 0, 5, 0#32⟩)) = _
    rw [lastc_map]
    show scc (Sst _ _ ([[(97 : UInt8)], []].length)) (whyS _ (Sst _ _ ([[(97 : UInt8)], []].length))) = _
    rw [hw, hS, hl]; rfl
  · have hx := fndF_some (L := (chn 0#32 5 [[97], []]).1) (xs := (List.range 2).map (Sst (chn 0#32 5 [[97], []]).1 ⟨0, 0, 5, 0#32⟩)) (p := [Sst (chn 0#32 5 [[97], []]).1 ⟨0, 0, 5, 0#32⟩ 0]) (x := Sst (chn 0#32 5 [[97], []]).1 ⟨0, 0, 5, 0#32⟩ 1) (lsn := 6) ⟨[], rfl⟩ (fun x hx => by rw [List.mem_singleton.1 hx]; simp [Sst]) (by rw [h1]; rfl)
    refine hx.trans ?_
    rw [show ((Sst (chn 0#32 5 [[97], []]).1 ⟨0, 0, 5, 0#32⟩ 1).e : Int) = 17 by rw [h1]; exact congrArg _ h1l]

theorem eqlFn (w : World) (f : Fn) (a c : Array Value) : (binOp .eql 49 (.func f a c) .nilFunc).run Try.prog w = .ok (.bool false) w := by rfl
/-- Records' answer as a slice. -/
theorem Recs.form {w0 W : World} {L : List UInt8} {qs : List (Sc × Value)} {vf : Value} {xs : List Sc} {n : Nat} (h : Recs w0 L W qs vf) (hq : qs.map (·.1) = xs) (hn : xs.length = n) : ∃ gv cv, vf = .slice gv n cv := by
  have hl : qs.length = n := by rw [← hn, ← hq, List.length_map]
  have hr := h.row
  rw [hl] at hr
  exact owns_form hr
theorem wr5 : wrF 0#32 5 [97] = (frm 0#32 5 [97], fsum 0#32 5 [97], 0) := wrF_ok (by omega) (by omega) (by simp)
theorem wr6 (s : Crc.R) : wrF s 6 [] = (frm s 6 [], fsum s 6 [], 0) := wrF_ok (by omega) (by omega) (by simp)

set_option maxHeartbeats 2000000 in
theorem begun7_any (w : World) : Calls Try.prog 4 #[] w fun e w' => e = .returned (.bool true) ∧ Below w.heap.size w w' := by
  have kc := fun (w : World) (C : Array Value) (n c : Nat) => Lib.run_convert_bytes_const (P := Try.prog) w 22 5 C n c Try.underlying22 Try.underlying5
  have hb0 := box_below w (.cells #[.int .u8 97] 5 (1, 2))
  have S0 : Sl (w.alloc (.cells #[.int .u8 97] 5 (1, 2))) (.slice (some ⟨w.heap.size, 0, none⟩) 1 1) [97] := sl_lit_mark w [97] 5 (1, 2) (by decide) _ rfl
  have hw0 := hide (refWrite_any (w.alloc (.cells #[.int .u8 97] 5 (1, 2))) 0#32 5 _ [97] (by omega) (by omega) S0)
  rw [wr5] at hw0
  have e0 : ((0#32).toNat : Int) = 0 := rfl
  rw [e0] at hw0
  obtain ⟨xs, ps, S, hxs, hls, hps, hpl, d, hfd⟩ := beg7
  obtain ⟨L1, hL1⟩ : ∃ L1, Hid (frm 0#32 5 [97] = L1) := ⟨_, rfl⟩
  obtain ⟨S1, hS1⟩ : ∃ S1, Hid (fsum 0#32 5 [97] = S1) := ⟨_, rfl⟩
  have l1 : L1.length = 17 := by rw [← hL1.out, frm_len]; rfl
  rw [hL1.out, hS1.out] at hw0 hxs hls hps hfd
  have hb0' := hide hb0
  clear S0 hb0
  replace hxs := hide hxs
  replace hls := hide hls
  replace hps := hide hps
  replace hfd := hide hfd
  replace hpl := hide hpl
  replace l1 := hide l1
  go_enter Try.func4, Try.ntmps4
  go_wp2_with fail
  refine hw0.out.mono ?_
  rintro e w1 ⟨v1, rfl, ho1, hb1⟩
  have O1 := hide (owns_lower ho1 (b' := w.heap.size) (by simp))
  have B1 := hide (keepF hb0'.out hb1)
  obtain ⟨ao1, ca1, rfl⟩ := (Sl.of_owns ho1).form l1.out
  rw [l1.out] at O1
  clear ho1 hb1 hw0
  have hw1 := hide (refWrite_any w1 S1 6 (.slice none 0 0) [] (by omega) (by omega) (Sl.nil _))
  rw [wr6] at hw1
  obtain ⟨L2, hL2⟩ : ∃ L2, Hid (frm S1 6 [] = L2) := ⟨_, rfl⟩
  have l2 : Hid (L2.length = 16) := by show _ = _; rw [← hL2.out, frm_len]; rfl
  rw [hL2.out] at hw1 hxs hls hps hfd
  go_wp2_with fail
  refine hw1.out.mono ?_
  rintro e w2 ⟨v2, rfl, ho2, hb2⟩
  have S2 := hide (Sl.of_owns ho2)
  have O2 := hide (ownsRow_below O1.out hb2)
  have B2 := hide (keepF B1.out hb2)
  obtain ⟨ao2, ca2, rfl⟩ := S2.out.form l2.out
  clear ho2 hb2 hw1 O1 B1
  have O2' : Hid (w2.ownsRow w.heap.size 5 1 (.slice ao1 17 ca1) L1.length (bvals L1)) := by rw [l1.out]; exact O2.out
  go_wp2_with (at_builtin; refine wpList_append_bytes rfl _ _ _ rfl w.heap.size 5 Try.infoU8 Try.underlying22 _ _ L1 L2 rfl O2'.out rfl S2.out (by rw [l1.out, l2.out]; omega) B2.out.size ?_; intro v3 w3 ho3 hb3; obtain ⟨ao3, ca3, rfl⟩ := (Sl.of_owns ho3).form (show (L1 ++ L2).length = 33 by rw [List.length_append, l1.out, l2.out]))
  have S3 := hide (Sl.of_owns ho3)
  have B3 := hide (B2.out.trans hb3)
  have lL : Hid ((L1 ++ L2).length = 33) := by show _ = _; rw [List.length_append, l1.out, l2.out]
  obtain ⟨L, hL⟩ : ∃ L, Hid (L1 ++ L2 = L) := ⟨_, rfl⟩
  rw [hL.out] at S3 lL hxs hls hps hfd
  clear ho3 hb3 O2 O2' S2 B2 hL hL2 l1 l2 hL1 hb0' kc
  have CO := hide (over_any w3 _ L 5 0#32 xs hxs.out (by omega) (by omega) S3.out)
  rw [e0, hls.out] at CO
  refine CO.out.mono ?_
  rintro e w4 ⟨rfl, hb4⟩
  go_wp2_with fail
  have B4 := hide (keepF (keepF B3.out hb4) (box_below w4 (.cells #[.int .i64 2, .int .i64 33, .int .i64 7, .int .u32 S, .int .i64 1] 28)))
  have S4 := hide (Below.sl (keepF hb4 (box_below w4 (.cells #[.int .i64 2, .int .i64 33, .int .i64 7, .int .u32 S, .int .i64 1] 28))) S3.out)
  have o4 : Hid ((w4.alloc (.cells #[.int .i64 2, .int .i64 33, .int .i64 7, .int .u32 S, .int .i64 1] 28)).heap[w4.heap.size]? = some (.cells #[.int .i64 2, .int .i64 33, .int .i64 7, .int .u32 S, .int .i64 1] 28 (0, 0))) := heap_alloc_new _ _
  revert B4 S4 o4
  generalize w4.alloc (.cells #[.int .i64 2, .int .i64 33, .int .i64 7, .int .u32 S, .int .i64 1] 28) = w5
  intro B4 S4 o4
  generalize w4.heap.size = ob at *
  clear CO B3 S3 hb4 hls hxs
  have CF := hide (find_any w5 _ L 5 0#32 6 ps hps.out (by omega) (by omega) S4.out (by rw [lL.out]; omega))
  rw [e0, hfd.out] at CF
  refine CF.out.mono ?_
  rintro e w6 ⟨u, rfl, ho6, hb6⟩
  obtain ⟨dn, hdn⟩ : ∃ dn, Hid (d.length = dn) := ⟨_, rfl⟩
  simp only at ho6
  rw [hdn.out] at ho6
  obtain ⟨ao6, ca6, rfl⟩ := own_slice ho6
  go_wp2_with fail
  have B6 := hide (keepF (keepF B4.out hb6) (box_below w6 (.cells #[.int .i64 6, .slice ao6 dn ca6] 41)))
  have bb := keepF hb6 (box_below w6 (.cells #[.int .i64 6, .slice ao6 dn ca6] 41))
  have S6 := hide (Below.sl bb S4.out)
  have o6 := hide ((bb.block ob (heap_lt o4.out)).trans o4.out)
  have r6 : Hid ((w6.alloc (.cells #[.int .i64 6, .slice ao6 dn ca6] 41)).heap[w6.heap.size]? = some (.cells #[.int .i64 6, .slice ao6 dn ca6] 41 (0, 0))) := heap_alloc_new _ _
  revert B6 S6 o6 r6
  generalize w6.alloc (.cells #[.int .i64 6, .slice ao6 dn ca6] 41) = w7
  intro B6 S6 o6 r6
  generalize w6.heap.size = rb at *
  clear CF B4 S4 o4 hb6 ho6 bb hfd
  have CE := hide (each_any w7 _ L 5 0#32 S6.out (by rw [lL.out]; omega))
  rw [e0] at CE
  refine CE.out.mono ?_
  rintro e w8 ⟨b1, b2, b3, v8, rfl, hE⟩
  have hb8 := hE.2.2.2.2.2.2.2
  have B8 := hide (keepF B6.out hb8)
  have S8 := hide (Below.sl hb8 S6.out)
  have o8 := hide ((hb8.block ob (heap_lt o6.out)).trans o6.out)
  have r8 := hide ((hb8.block rb (heap_lt r6.out)).trans r6.out)
  clear hE hb8 CE B6 S6 o6 r6
  obtain ⟨k0, k1, k2, k3, k4, -, -, -, -, -⟩ := five o8.out
  have r0 : w8.cell? ⟨rb, 0, none⟩ = some (.int .i64 6) := by simp [World.cell?, r8.out]
  have CR := hide (records_any w8 _ L 5 0#32 9 ps hps.out (by omega) (by omega) S8.out (by rw [lL.out]; omega))
  rw [e0] at CR
  have h2 : Hid ((ps.take (9 : Int).toNat).length = 2) := by have := hpl.out; show _ = _; rw [List.length_take, this]; rfl
  have hfn := eqlFn
  go_wp2_with (go_at_call 8; refine CR.out.mono ?_; rintro e w9 ⟨qs, vf, rfl, hq, hR⟩; obtain ⟨gv, cv, rfl⟩ := hR.form hq h2.out; replace hR := hide hR; clear hq)
  go_ret
  exact ⟨rfl, keepF B8.out hR.out.below⟩

end Go.Proofs.Ytebhkdaefjmbnaa
