/-
  The walk of FrameBack.
-/
import Derived.Test.YtophaolgmpdimaaFs
import Derived.Test.YtophaolgmpdimaaSbig
namespace Go.Proofs.Ytophaolgmpdimaa
open Go.RowKit
set_option maxRecDepth 100000

set_option maxHeartbeats 8000000 in
/-- The second half: what is read of any bytes, written, is what was read. -/
theorem fback_walk (w : World) (lsn : Int) (vd vb : Value) (seed : Crc.R) (d bh : List UInt8) (g0 : -9223372036854775808 ≤ lsn) (g1 : lsn ≤ 9223372036854775807) (hd : Sl w vd d) (hb : Sl w vb bh) (hl : bh.length ≤ 140737488351232) :
    Calls Try.prog 5 #[.agg #[.int .i64 lsn, vd], .int .u32 (seed.toNat : Int), vb] w fun e w' => e = .returned (.bool true) ∧ Below w.heap.size w w' := by
  obtain ⟨w1, hw1⟩ : ∃ w1, Hid (w.alloc (.cells #[.int .i64 lsn, vd] 34) = w1) := ⟨_, rfl⟩
  have hb1 : Hid (Below w.heap.size w w1) := by rw [← hw1.out]; exact box_below _ _
  have hh1 : Hid (w1.heap[w.heap.size]? = some (.cells #[.int .i64 lsn, vd] 34 (0, 0))) := by rw [← hw1.out]; exact heap_alloc_new _ _
  have HD := hide hd
  have HV := hide hb
  obtain ⟨nd, hnd⟩ : ∃ n, Hid (d.length = n) := ⟨_, rfl⟩
  obtain ⟨nb, hnb⟩ : ∃ n, Hid (bh.length = n) := ⟨_, rfl⟩
  obtain ⟨aod, cad, rfl⟩ := hd.form hnd.out
  obtain ⟨aob, cab, rfl⟩ := hb.form hnb.out
  have HL := hide hl
  have hcb : Hid (nb ≤ cab ∧ cab ≤ 9223372036854775807) := by
    obtain ⟨_, _, e, _, g3, g4, _⟩ := hb
    simp only [Value.slice.injEq] at e
    obtain ⟨_, _, rfl⟩ := e
    rw [hnb.out] at g3
    unfold maxLen at g4
    show _ ∧ _
    omega
  clear hl hd hb
  obtain ⟨L2, D2, N2, S2, E2, hF2⟩ : ∃ LL DD NN SS EE, Hid (rdF seed bh = (LL, DD, NN, SS, EE)) := ⟨_, _, _, _, _, rfl⟩
  obtain ⟨B1, S1, E1, hF1⟩ : ∃ B S E, Hid (wrF seed lsn d = (B, S, E)) := ⟨_, _, _, rfl⟩
  have hRd : Hid (∀ q : World, Below w.heap.size w q → Calls Try.prog 18 #[.int .u32 (seed.toNat : Int), .slice aob nb cab] q fun e w' => ∃ v', e = .returned (.tuple #[.agg #[.int .i64 L2, v'], .int .i64 N2, .int .u32 (S2.toNat : Int), .int .i64 E2]) ∧ w'.ownsRow q.heap.size 5 1 v' D2.length (bvals D2) ∧ Below q.heap.size q w') := fun q hq => by
    have := read_any q seed _ bh (Below.sl hq HV.out)
    rw [hF2.out] at this
    exact this
  go_enter Try.func5, Try.ntmps5
  go_wp2_with fail
  rw [hw1.out]
  refine (begun6_any _).mono ?_
  rintro e w2 ⟨rfl, b2⟩
  have hb2 := hide (keepF hb1.out b2)
  have hh2 : Hid (w2.heap[w.heap.size]? = some (.cells #[.int .i64 lsn, .slice aod nd cad] 34 (0, 0))) := by show _ = _; rw [b2.block w.heap.size (heap_lt hh1.out)]; exact hh1.out
  obtain ⟨c0, c1, _, _⟩ := two_cells hh2.out
  have hwr := hide (write_any w2 seed lsn _ d g0 g1 (Below.sl hb2.out HD.out))
  rw [hF1.out] at hwr
  clear hb1 hh1 b2 hw1
  go_wp2_with fail
  refine hwr.out.mono ?_
  rintro e w3 ⟨v3, rfl, ho3, b3⟩
  have hb3 := hide (keepF hb2.out b3)
  have hh3 : Hid (w3.heap[w.heap.size]? = some (.cells #[.int .i64 lsn, .slice aod nd cad] 34 (0, 0))) := by show _ = _; rw [b3.block w.heap.size (heap_lt hh2.out)]; exact hh2.out
  have s3 := hide (Sl.of_owns ho3)
  obtain ⟨n3, hn3⟩ : ∃ n, Hid (B1.length = n) := ⟨_, rfl⟩
  obtain ⟨ao3, ca3, rfl⟩ := s3.out.form hn3.out
  clear c0 c1 hwr ho3 b3 hb2 hh2
  by_cases hE : E1 = 0
  · subst hE
    have hok := wrF_inv (seed := seed) (lsn := lsn) (d := d) (by rw [hF1.out])
    have hwo := wrF_ok (seed := seed) hok.1 hok.2.1 hok.2.2
    rw [hF1.out] at hwo
    simp only [Prod.mk.injEq] at hwo
    obtain ⟨hB1, hS1, _⟩ := hwo
    have hlsn : Hid (((lsn.toNat : Nat) : Int) = lsn) := by show _ = _; omega
    have hrd : Hid (rdF seed (B1 ++ bh) = (lsn, d, 16 + (nd : Int), S1, 0)) := by
      show _ = _
      rw [hB1, hS1, ← hnd.out, rd_back seed lsn.toNat d bh (by omega) (by omega) hok.2.2, hlsn.out]
    have hn16 : Hid (n3 = 16 + nd) := by show _ = _; rw [← hn3.out, hB1, frm_len, hnd.out]
    have hnd4 : Hid (nd ≤ 4096) := by rw [← hnd.out]; exact hok.2.2
    have hsz : Hid (szF (nd : Int) = 16 + (nd : Int)) := by show _ = _; have := hnd4.out; rw [szF, if_pos (by omega)]
    have hlen1 : Hid (0 + B1.length ≤ 140737488355328) := by show _ ≤ _; have := hn3.out; have := hn16.out; have := hnd4.out; omega
    have hlen2 : Hid (B1.length + bh.length ≤ 140737488355328 + 1048576) := by show _ ≤ _; have := hn3.out; have := hn16.out; have := hnd4.out; have := HL.out; omega
    have sV := hide (Below.sl hb3.out HV.out)
    clear hok hB1 hS1
    go_wp2_with (at_builtin; refine wpList_append_bytes rfl (.const (.slice none 0 0)) (.tmp 36) 31 rfl w3.heap.size 5 Try.infoU8 Try.underlying31 _ _ [] B1 rfl (World.ownsRow_nil _ _ _ _) rfl s3.out hlen1.out (Nat.le_refl _) ?_)
    intro v4 w4 ho4 b4
    have ho4' : Hid (w4.ownsRow w3.heap.size 5 1 v4 B1.length (bvals B1)) := by simpa [Hid] using ho4
    have sV4 := hide (Below.sl b4 sV.out)
    have z4 := hide b4.size
    have hh4 : Hid (w4.heap[w.heap.size]? = some (.cells #[.int .i64 lsn, .slice aod nd cad] 34 (0, 0))) := by show _ = _; rw [b4.block w.heap.size (heap_lt hh3.out)]; exact hh3.out
    have hb4 := hide (keepF hb3.out b4)
    have z3 := hide (heap_lt hh3.out)
    clear ho4 b4 sV
    go_wp2_with (at_builtin; refine wpList_append_big rfl (.tmp 37) (.tmp 38) 31 rfl w3.heap.size 5 Try.infoU8 Try.underlying31 _ _ B1 bh rfl ho4'.out rfl sV4.out hlen2.out z4.out ?_)
    intro v5 w5 ho5 b5
    have s5 : Hid (Sl w5 v5 (B1 ++ bh)) := Sl.of_owns2 ho5 (by simp)
    have hb5 := hide (hb4.out.trans (b5.mono hb3.out.size))
    have hh5 : Hid (w5.heap[w.heap.size]? = some (.cells #[.int .i64 lsn, .slice aod nd cad] 34 (0, 0))) := by show _ = _; rw [b5.block w.heap.size z3.out]; exact hh4.out
    have hR5 := hide (read_any w5 seed v5 _ s5.out)
    rw [hrd.out] at hR5
    clear ho5 b5 sV4 z4 ho4' hb4 hh4 s5
    go_wp2_with fail
    refine hR5.out.mono ?_
    rintro e w6 ⟨v6, rfl, ho6, b6⟩
    have hd6 : Hid (Rdd w5 (w6.alloc (.cells #[.int .i64 lsn, v6] 34)) w6.heap.size v6 lsn d) := Rdy.fin ⟨ho6, b6⟩
    obtain ⟨ao6, ca6, rfl⟩ := (Sl.of_owns ho6).form hnd.out
    have hb6 := hide (keepF hb5.out hd6.out.2.2.1)
    have hh6 : Hid ((w6.alloc (.cells #[.int .i64 lsn, .slice ao6 nd ca6] 34)).heap[w.heap.size]? = some (.cells #[.int .i64 lsn, .slice aod nd cad] 34 (0, 0))) := by show _ = _; rw [hd6.out.2.2.1.block w.heap.size (heap_lt hh5.out)]; exact hh5.out
    clear ho6 b6 hR5
    go_upto_region 6 with fail
    generalize hbq : w6.heap.size = b6 at *
    generalize w6.alloc (.cells #[.int .i64 lsn, .slice ao6 nd ca6] 34) = w7 at *
    clear hbq
    obtain ⟨r0, r1, _, _⟩ := two_cells hd6.out.1
    obtain ⟨p0, p1, _, _⟩ := two_cells hh6.out
    have heq := hide (eq6_any w7 lsn lsn _ _ d d (Sl.of_owns hd6.out.2.1) (Below.sl hb6.out HD.out))
    rw [decide_eq_true rfl, decide_eq_true rfl, Bool.and_true] at heq
    have hi3 : ((16 : Int) + (nd : Int) != (n3 : Int)) = false := by have := hn16.out; simp; omega
    go_wp2_with fail
    refine heq.out.mono ?_
    rintro e w8 ⟨rfl, b8⟩
    have hb8 := hide (keepF hb6.out b8)
    have hh8 : Hid (w8.heap[w.heap.size]? = some (.cells #[.int .i64 lsn, .slice aod nd cad] 34 (0, 0))) := by show _ = _; rw [b8.block w.heap.size (heap_lt hh6.out)]; exact hh6.out
    clear heq b8 r0 r1 p0 p1
    obtain ⟨p0, p1, _, _⟩ := two_cells hh8.out
    go_wp2_with fail
    refine (size_any _ (nd : Int)).mono ?_
    rintro e w0 ⟨rfl, hw⟩
    obtain rfl := hw.symm
    rw [hsz.out]
    clear p0 p1 hi3
    have hbC := hide hb8.out
    have hR := hide (hRd.out w8 hbC.out)
    go_wp2_with fail
    refine hR.out.mono ?_
    rintro e x6 ⟨v6, rfl, ho6, b6⟩
    have hd6 : Hid (Rdd w8 (x6.alloc (.cells #[.int .i64 L2, v6] 34)) x6.heap.size v6 L2 D2) := Rdy.fin ⟨ho6, b6⟩
    obtain ⟨M, hM⟩ : ∃ M, Hid (D2.length = M) := ⟨_, rfl⟩
    obtain ⟨ao6, ca6, rfl⟩ := (Sl.of_owns ho6).form hM.out
    have hb6 := hide (keepF hbC.out hd6.out.2.2.1)
    clear ho6 b6 hR
    go_upto_region 9 with fail
    generalize hbq : x6.heap.size = b6 at *
    generalize x6.alloc (.cells #[.int .i64 L2, .slice ao6 M ca6] 34) = x7 at *
    clear hbq
    obtain ⟨r0, r1, _, _⟩ := two_cells hd6.out.1
    by_cases hE : E2 = 0
    · subst hE
      obtain ⟨_, f1, f2, f3, f4, f5, f6, f7⟩ := wr_back (seed := seed) (l := bh) (by rw [hF2.out])
      rw [hF2.out] at f1
      simp only [Prod.mk.injEq] at f1
      obtain ⟨rfl, rfl, rfl, rfl, _⟩ := f1
      obtain ⟨K, hK⟩ : ∃ K, Hid (K = 16 + fN bh) := ⟨_, rfl⟩
      have hKi : Hid ((16 : Int) + (fN bh : Int) = (K : Int)) := by show _ = _; have := hK.out; omega
      have hKb : K ≤ nb := by rw [hK.out, ← hnb.out]; exact f2
      have hKc : K ≤ cab := by have := hcb.out; omega
      have hKm := hcb.out.2
      have hwo := hide (wrF_ok (seed := seed) (lsn := (fL bh : Int)) (d := fD bh) (by omega) (by omega) (by omega))
      have hwr := hide (write_any x7 seed (fL bh : Int) (.slice ao6 M ca6) (fD bh) (by omega) (by omega) (Sl.of_owns hd6.out.2.1))
      rw [hwo.out, Int.toNat_natCast] at hwr
      have f7' := hide f7
      rw [← hK.out] at f7'
      obtain ⟨SS, hSS⟩ : ∃ SS, Hid (fsum seed (fL bh) (fD bh) = SS) := ⟨_, rfl⟩
      rw [hSS.out] at hwr
      rw [f7'.out] at hwr
      have hSSi : Hid ((fsum seed (fL bh) (fD bh)).toNat = SS.toNat) := by show _ = _; rw [hSS.out]
      rw [hSSi.out, hKi.out]
      clear f2 f3 f4 f5 f6 f7 hwo
      generalize (fL bh : Int) = XL at *
      go_wp2_with fail
      refine hwr.out.mono ?_
      rintro e x8 ⟨v8, rfl, ho8, b8⟩
      have s8 := hide (Sl.of_owns ho8)
      have hb8 := hide (keepF hb6.out b8)
      have sB := hide (sl_take K (by rw [hnb.out]; exact hKb) (Below.sl hb8.out HV.out) hnb.out)
      have heq := hide (eqS_any x8 v8 (.slice aob K cab) (bh.take K) (bh.take K) s8.out sB.out)
      rw [decide_eq_true rfl] at heq
      obtain ⟨ao8, ca8, e8⟩ : ∃ ao ca, v8 = .slice ao (bh.take K).length ca := s8.out.form rfl
      clear hwr ho8 b8 s8 sB r0 r1 e8
      go_wp2_with fail
      refine heq.out.mono ?_
      rintro e x9 ⟨rfl, q9⟩
      have hb9 := hide (keepF hb8.out (q9.below _))
      clear heq q9
      go_wp2_with fail
      go_ret
      exact ⟨rfl, hb9.out⟩
    · have hEi : (E2 != 0) = true := by simpa using hE
      have hz := rd_zero (seed := seed) (l := bh) (by rw [hF2.out]; exact hE)
      rw [hF2.out] at hz
      simp only [Prod.mk.injEq] at hz
      obtain ⟨rfl, _, rfl, _, _⟩ := hz
      clear hE
      go_wp2_with fail
      go_ret
      exact ⟨rfl, hb6.out⟩
  · have hEi : (E1 == 0) = false := by simpa using hE
    clear hE
    have hbC := hide hb3.out
    have hR := hide (hRd.out w3 hbC.out)
    go_wp2_with fail
    refine hR.out.mono ?_
    rintro e w6 ⟨v6, rfl, ho6, b6⟩
    have hd6 : Hid (Rdd w3 (w6.alloc (.cells #[.int .i64 L2, v6] 34)) w6.heap.size v6 L2 D2) := Rdy.fin ⟨ho6, b6⟩
    obtain ⟨M, hM⟩ : ∃ M, Hid (D2.length = M) := ⟨_, rfl⟩
    obtain ⟨ao6, ca6, rfl⟩ := (Sl.of_owns ho6).form hM.out
    have hb6 := hide (keepF hbC.out hd6.out.2.2.1)
    clear ho6 b6 hR
    go_upto_region 9 with fail
    generalize hbq : w6.heap.size = b6 at *
    generalize w6.alloc (.cells #[.int .i64 L2, .slice ao6 M ca6] 34) = w7 at *
    clear hbq
    obtain ⟨r0, r1, _, _⟩ := two_cells hd6.out.1
    by_cases hE : E2 = 0
    · subst hE
      obtain ⟨_, f1, f2, f3, f4, f5, f6, f7⟩ := wr_back (seed := seed) (l := bh) (by rw [hF2.out])
      rw [hF2.out] at f1
      simp only [Prod.mk.injEq] at f1
      obtain ⟨rfl, rfl, rfl, rfl, _⟩ := f1
      obtain ⟨K, hK⟩ : ∃ K, Hid (K = 16 + fN bh) := ⟨_, rfl⟩
      have hKi : Hid ((16 : Int) + (fN bh : Int) = (K : Int)) := by show _ = _; have := hK.out; omega
      have hKb : K ≤ nb := by rw [hK.out, ← hnb.out]; exact f2
      have hKc : K ≤ cab := by have := hcb.out; omega
      have hKm := hcb.out.2
      have hwo := hide (wrF_ok (seed := seed) (lsn := (fL bh : Int)) (d := fD bh) (by omega) (by omega) (by omega))
      have hwr := hide (write_any w7 seed (fL bh : Int) (.slice ao6 M ca6) (fD bh) (by omega) (by omega) (Sl.of_owns hd6.out.2.1))
      rw [hwo.out, Int.toNat_natCast] at hwr
      have f7' := hide f7
      rw [← hK.out] at f7'
      obtain ⟨SS, hSS⟩ : ∃ SS, Hid (fsum seed (fL bh) (fD bh) = SS) := ⟨_, rfl⟩
      rw [hSS.out] at hwr
      rw [f7'.out] at hwr
      have hSSi : Hid ((fsum seed (fL bh) (fD bh)).toNat = SS.toNat) := by show _ = _; rw [hSS.out]
      rw [hSSi.out, hKi.out]
      clear f2 f3 f4 f5 f6 f7 hwo
      generalize (fL bh : Int) = XL at *
      go_wp2_with fail
      refine hwr.out.mono ?_
      rintro e w8 ⟨v8, rfl, ho8, b8⟩
      have s8 := hide (Sl.of_owns ho8)
      have hb8 := hide (keepF hb6.out b8)
      have sB := hide (sl_take K (by rw [hnb.out]; exact hKb) (Below.sl hb8.out HV.out) hnb.out)
      have heq := hide (eqS_any w8 v8 (.slice aob K cab) (bh.take K) (bh.take K) s8.out sB.out)
      rw [decide_eq_true rfl] at heq
      obtain ⟨ao8, ca8, e8⟩ : ∃ ao ca, v8 = .slice ao (bh.take K).length ca := s8.out.form rfl
      clear hwr ho8 b8 s8 sB r0 r1 e8
      go_wp2_with fail
      refine heq.out.mono ?_
      rintro e w9 ⟨rfl, q9⟩
      have hb9 := hide (keepF hb8.out (q9.below _))
      clear heq q9
      go_wp2_with fail
      go_ret
      exact ⟨rfl, hb9.out⟩
    · have hEi : (E2 != 0) = true := by simpa using hE
      have hz := rd_zero (seed := seed) (l := bh) (by rw [hF2.out]; exact hE)
      rw [hF2.out] at hz
      simp only [Prod.mk.injEq] at hz
      obtain ⟨rfl, _, rfl, _, _⟩ := hz
      clear hE
      go_wp2_with fail
      go_ret
      exact ⟨rfl, hb6.out⟩
#print axioms fback_walk
end Go.Proofs.Ytophaolgmpdimaa
