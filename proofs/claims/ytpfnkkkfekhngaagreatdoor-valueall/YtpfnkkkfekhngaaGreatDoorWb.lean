/-
  Marks behind bytes 00, taken away by bytes.ReplaceAll.
-/
import Derived.Test.YtpfnkkkfekhngaaGreatDoorVf
import Derived.Test.YtpfnkkkfekhngaaGreatDoorVu
import Derived.Test.YtpfnkkkfekhngaaGreatDoorWa
import Derived.Test.YtpfnkkkfekhngaaGreatDoorShelf
import Derived.Lib.SlBuf
import Derived.BigRegion
namespace Go.Proofs.YtpfnkkkfekhngaaGreatDoor.Va
open Go.RowKit Go.Proofs.YtpfnkkkfekhngaaGreatDoor.Rl
set_option maxRecDepth 100000

theorem Mx.drewN {w : World} (h : Mx w) (k : Nat) : Mx (w.drewN k) := h
theorem add0 (b o i : Nat) : (⟨b, o, none⟩ : Addr).add i = ⟨b, o + i, none⟩ := by unfold Addr.add; split <;> simp_all
/-- Bytes l lie at block b from place o on. -/
def At (w : World) (b o : Nat) (l : List UInt8) : Prop := ∀ i (h : i < l.length), w.cell? ⟨b, o + i, none⟩ = some (.int .u8 (l[i].toNat : Int))
theorem At.nums {w : World} {b o : Nat} {l : List UInt8} (h : At w b o l) (i : Nat) (hi : i < l.length) : w.cell? ((⟨b, o, none⟩ : Addr).add i) = some (.int .u8 ((Lib.numsL l).getD i 0)) := by
  rw [add0, h i hi]
  simp [Lib.numsL, List.getD, List.getElem?_map, List.getElem?_eq_getElem hi]
theorem At.drop {w : World} {b o : Nat} {l : List UInt8} (h : At w b o l) (k : Nat) : At w b (o + k) (l.drop k) := fun i hi => by
  have := h (k + i) (by rw [List.length_drop] at hi; omega)
  rw [show o + k + i = o + (k + i) by omega, this]
  simp
theorem count_call (w : World) (b o c ob : Nat) (t : List UInt8) (h : At w b o (esc t)) (ho : At w ob 0 [0, 255]) (hc : (esc t).length ≤ c) (hl : (esc t).length < 4294967281) (hm : Mx w) :
    Calls Tryz.prog 76 #[.slice (some ⟨b, o, none⟩) (esc t).length c, .slice (some ⟨ob, 0, none⟩) 2 2] w fun e w' => e = .returned (.int .i64 (t.count 0 : Int)) ∧ Qt w w' := by
  obtain ⟨m, hm⟩ := hm
  have := Tryz.bytes_Count_at ⟨b, o, none⟩ ⟨ob, 0, none⟩ (esc t).length c 2 2 (Lib.numsL (esc t)) (Lib.numsL [0, 255]) m w (Lib.numsL_length _) rfl (Lib.numsL_range _) (Lib.numsL_range _) h.nums (fun i hi => ho.nums i hi) hc hl (by omega) (by omega) hm
  rw [Lib.bytesOf_numsL, Lib.bytesOf_numsL, count_esc] at this
  exact this
theorem index_call (w : World) (b o c ob : Nat) (u r : List UInt8) (hu : (0 : UInt8) ∉ u) (h : At w b o (u ++ 0 :: 255 :: r)) (ho : At w ob 0 [0, 255]) (hc : (u ++ 0 :: 255 :: r).length ≤ c) (hl : (u ++ 0 :: 255 :: r).length < 4294967281) (hm : Mx w) :
    Calls Tryz.prog 77 #[.slice (some ⟨b, o, none⟩) (u ++ 0 :: 255 :: r).length c, .slice (some ⟨ob, 0, none⟩) 2 2] w fun e w' => e = .returned (.int .i64 (u.length : Int)) ∧ Qt w w' := by
  obtain ⟨m, hm⟩ := hm
  have := Tryz.bytes_Index_at ⟨b, o, none⟩ ⟨ob, 0, none⟩ (u ++ 0 :: 255 :: r).length c 2 2 (Lib.numsL (u ++ 0 :: 255 :: r)) (Lib.numsL [0, 255]) m w (Lib.numsL_length _) rfl (Lib.numsL_range _) (Lib.numsL_range _) h.nums (fun i hi => ho.nums i hi) hc hl (by omega) hm
  rw [Lib.bytesOf_numsL, Lib.bytesOf_numsL, index_mark hu] at this
  exact this
theorem At.sl {w : World} {b o : Nat} {l : List UInt8} {c : Nat} (h : At w b o l) (hc : l.length ≤ c) (hm : c ≤ maxLen) : Sl w (.slice (some ⟨b, o, none⟩) l.length c) l :=
  ⟨_, _, rfl, fun e => by simp at e, hc, hm, fun i hi => ⟨b, o, rfl, h i hi⟩⟩
theorem At.qt {w w' : World} {b o : Nat} {l : List UInt8} (h : At w b o l) (hq : Qt w w') : At w' b o l := fun i hi => by rw [hq.cell]; exact h i hi
theorem At.below {w w' : World} {b o : Nat} {l : List UInt8} (h : At w b o l) (hb : Below w.heap.size w w') : At w' b o l := fun i hi => (hb.cell (lt_of_cell (h i hi))).trans (h i hi)
set_option maxHeartbeats 1000000 in
theorem replace_none (w : World) (b o c ob nb : Nat) (t : List UInt8) (h : At w b o (esc t)) (ho : At w ob 0 [0, 255]) (hc : (esc t).length ≤ c) (hcm : c ≤ maxLen) (hl : t.length ≤ 65536) (hm : Mx w) (h0 : t.count 0 = 0) :
    Calls Tryz.prog 75 #[.slice (some ⟨b, o, none⟩) (esc t).length c, .slice (some ⟨ob, 0, none⟩) 2 2, .slice (some ⟨nb, 0, none⟩) 1 1, .int .i64 (-1)] w fun e w' => ∃ v', e = .returned v' ∧ Sl w' v' t ∧ Below w.heap.size w w' := by
  have hel : (esc t).length = t.length := by rw [esc_len0, h0]; omega
  have het : esc t = t := esc_none (List.count_eq_zero.1 h0)
  have hcall := count_call w b o c ob t h ho hc (by omega) hm
  rw [h0] at hcall
  have hsl := fun q (hq : Qt w q) => (h.qt hq).sl hc hcm
  obtain ⟨n, hn⟩ : ∃ n, Hid ((esc t).length = n) := ⟨_, rfl⟩
  have hsl2 : Hid (∀ q, Qt w q → Sl q (.slice (some ⟨b, o, none⟩) n c) t) := fun q hq => by
    have := hsl q hq
    rw [hn.out, het] at this
    exact this
  rw [hn.out] at hcall ⊢
  replace hcall := hide hcall
  have hlt := hide hl
  clear hsl het hel h ho hc hcm hl hm h0
  go_enter Tryz.func75, Tryz.ntmps75
  go_wp2_with fail
  refine hcall.out.mono ?_
  rintro e w1 ⟨rfl, hq⟩
  have hs1 := hide (hsl2.out w1 hq)
  have hB := hide (Qt.below hq w.heap.size)
  have hsz : w1.heap.size = w.heap.size := Qt.size hq
  clear hq
  go_wp2_with (at_builtin; refine wpList_append_bytes rfl (.const (.slice none 0 0)) (.tmp 24) 40 rfl w.heap.size 5 Tryz.infoU8 Tryz.underlying40 _ _ [] t rfl ⟨rfl, Or.inl ⟨rfl, rfl⟩⟩ rfl hs1.out (by have := hlt.out; simp; omega) (by omega) ?_)
  intro v' w2 ho hb
  have h1 : Hid (Sl w2 v' t) := Sl.of_owns (by simpa using ho)
  have h2 := hide (hB.out.trans hb)
  clear ho hb
  go_wp2_with fail
  go_ret
  exact ⟨_, rfl, h1.out, h2.out⟩
theorem sizeB (W : World) : (Go.sizeOf 5).run Tryz.prog W = .ok 1 W := Tryz.sizeOf5 W
theorem elemB : Tryz.prog.elem 40 = 5 := by simp [Program.elem, Tryz.underlying40]
theorem slice_lo (W : World) (b o n c k : Nat) (h1 : k ≤ n) (h2 : k < c) : (Instr.slice 40 (.slice (some ⟨b, o, none⟩) n c) (some (.int .i64 (k : Int))) none none).run Tryz.prog W = .ok (.slice (some ⟨b, o + k, none⟩) (n - k) (c - k)) W := by
  rw [run_slice_l W 40 _ _ _ (by rw [elemB]; exact Tryz.underlying40) .i64 _ (by omega) (by omega), elemB, sizeB]
  simp only [Result.andThen, sliced, Int.toNat_natCast, Nat.mul_one]
  rw [if_neg (by omega)]
  simp [add0]
theorem slice_lh (W : World) (b o n c k j : Nat) (h1 : k ≤ j) (h2 : j ≤ c) (h3 : k < c) : (Instr.slice 40 (.slice (some ⟨b, o, none⟩) n c) (some (.int .i64 (k : Int))) (some (.int .i64 (j : Int))) none).run Tryz.prog W = .ok (.slice (some ⟨b, o + k, none⟩) (j - k) (c - k)) W := by
  rw [run_slice_lh W 40 _ _ _ (by rw [elemB]; exact Tryz.underlying40) .i64 .i64 _ _ (by omega) (by omega) (by omega), elemB, sizeB]
  simp only [Result.andThen, sliced, Int.toNat_natCast, Nat.mul_one]
  rw [if_neg (by omega)]
  simp [add0]
theorem infoB1 : (Tryz.prog.info? 5).map (·.size) = some 1 := by kernel_rfl
theorem Buf_drew {w0 wr : World} {h N : Nat} {acc : List UInt8} (hb : Lib.Buf w0 wr h N acc) (k : Nat) : Lib.Buf w0 (wr.drewN k) h N acc := ⟨hb.below.trans (Qt.below ⟨k, rfl⟩ _), hb.there, hb.free, hb.holds, hb.fits⟩
/-- The room of a slice's tail. -/
theorem holds_at {w : World} {b o c : Nat} {l : List UInt8} (h : At w b o l) : Lib.HoldsBytes w (.slice (some ⟨b, o, none⟩) l.length c) l :=
  ⟨_, _, rfl, fun e => by simp at e, fun a ha i x hx => by
    simp only [Option.some.injEq] at ha
    subst ha
    obtain ⟨hi, rfl⟩ := List.getElem?_eq_some_iff.1 hx
    rw [add0]
    exact h i hi⟩
theorem make_bytes (n : Nat) (hn : n ≤ 65536) : ∃ C : Array Value, C.size = n ∧ ∀ u : World, (Instr.makeSlice 40 (.int .i64 (n : Int)) (.int .i64 (n : Int))).run Tryz.prog u = .ok (.slice (some ⟨u.heap.size, 0, none⟩) n n) (u.alloc (.cells C 5)) := by
  obtain ⟨i0, hi, hz0, hz1, hz2⟩ := info_parts Tryz.infoU8
  refine ⟨madeCells (Value.cells (.int .u8 0)) n, size_madeCells _ _, fun u => ?_⟩
  rw [run_make u 40 5 i0 (.int .u8 0) Tryz.underlying40 hi hz0 .i64 .i64 (n : Int) (n : Int) (by omega) (by omega) (by rw [hz2]; omega) (by omega), hz1]
  simp only [Int.toNat_natCast, Nat.mul_one]
set_option maxHeartbeats 2000000 in
theorem replace_some (w : World) (b o c ob nb : Nat) (t : List UInt8) (h : At w b o (esc t)) (ho : At w ob 0 [0, 255]) (hnb : At w nb 0 [0]) (hc : (esc t).length ≤ c) (hl : t.length ≤ 65536) (hm : Mx w) (h0 : 0 < t.count 0) :
    Calls Tryz.prog 75 #[.slice (some ⟨b, o, none⟩) (esc t).length c, .slice (some ⟨ob, 0, none⟩) 2 2, .slice (some ⟨nb, 0, none⟩) 1 1, .int .i64 (-1)] w fun e w' => ∃ v', e = .returned v' ∧ Sl w' v' t ∧ Below w.heap.size w w' := by
  have hel := esc_len0 t
  have hct : t.count 0 ≤ t.length := List.count_le_length
  have hcall := hide (count_call w b o c ob t h ho hc (by omega) hm)
  obtain ⟨n, hn⟩ : ∃ n, Hid ((esc t).length = n) := ⟨_, rfl⟩
  obtain ⟨m, hm0⟩ : ∃ m, Hid (t.count 0 = m) := ⟨_, rfl⟩
  obtain ⟨N, hN⟩ : ∃ m, Hid (t.length = m) := ⟨_, rfl⟩
  rw [hm0.out] at hcall h0 hct hel
  rw [hn.out] at hcall hc hel ⊢
  rw [hN.out] at hl hct hel
  replace h := hide h
  replace ho := hide ho
  replace hnb := hide hnb
  replace hm := hide hm
  obtain ⟨C, hC, hmk⟩ := make_bytes N hl
  replace hC := hide hC
  have k1 : ((m : Int) == 0) = false := by simp; omega
  have k2 : (n : Int) + -(m : Int) = (N : Int) := by omega
  have k3 : ((-1 : Int) != 0) = true := by decide
  replace hel := hide hel
  replace hct := hide hct
  replace h0 := hide h0
  replace hc := hide hc
  have hnl : n ≤ 131072 := by have := hel.out; have := hct.out; omega
  go_enter Tryz.func75, Tryz.ntmps75
  go_wp2_with fail
  refine hcall.out.mono ?_
  rintro e w1 ⟨rfl, hq⟩
  have hh := hide hq
  have hsz := hide (Qt.size hq)
  clear hq
  have hw1 := hide (h.out.qt hh.out)
  have ho1 := hide (ho.out.qt hh.out)
  have hn1 := hide (hnb.out.qt hh.out)
  have hm1 : Hid (Mx w1) := by
    obtain ⟨m, hm⟩ := hm.out
    exact ⟨m, by rw [hh.out.cell]; exact hm⟩
  have hbuf : Hid (Lib.Buf w1 (w1.alloc (.cells C 5)) w1.heap.size N []) := Lib.Buf.start w1 C 5 N 0 (by rw [hC.out]; exact Nat.le_refl _)
  have hcN := hide hc.out
  go_wp2_with fail
  go_loopw [11, 12, 49] (fun v11 v12 v49 wr => ∃ (i a st : Nat), i ≤ m ∧ v49 = .int .i64 (i : Int) ∧ v11 = .int .i64 (a : Int) ∧ v12 = .int .i64 (st : Int) ∧ Hid (∃ x y, t = x ++ y ∧ x.count 0 = i ∧ a = x.length ∧ st = (esc x).length ∧ Lib.Buf w1 wr w1.heap.size N x)) (fun _ _ v _ => m - (intOf v).toNat)
  case atStart => exact ⟨0, 0, 0, by omega, rfl, rfl, rfl, [], t, rfl, rfl, rfl, rfl, hbuf.out⟩
  case round =>
    obtain ⟨i, a, st, hi, rfl, rfl, rfl, hI⟩ := hrel
    obtain ⟨x, y, ht, hx0, hxa, hxs, hbx⟩ := hI.out
    have hey : esc t = esc x ++ esc y := by rw [ht, esc_add]
    have hlx : x.length + y.length = N := by rw [← hN.out, ht, List.length_append]
    have hcy : i + y.count 0 = m := by rw [← hm0.out, ht, List.count_append, hx0]
    have hly : st + (esc y).length = n := by rw [← hn.out, hey, List.length_append, hxs]
    have hAy : At w1 b (o + st) (esc y) := by
      have := hw1.out.drop st
      rw [hey, hxs, List.drop_left] at this
      rw [hxs]
      exact this
    have hbel := hbx.below
    replace hbx := hide hbx
    by_cases him : i = m
    · have hy0 : y.count 0 = 0 := by omega
      have hyf : (0 : UInt8) ∉ y := List.count_eq_zero.1 hy0
      rw [esc_none hyf] at hly hAy
      obtain ⟨yl, hyl⟩ : ∃ yl, Hid (y.length = yl) := ⟨_, rfl⟩
      have hl1 : st + yl = n := by rw [← hly, ← hyl.out]
      have hl2 : a + yl = N := by rw [← hlx, ← hyl.out, hxa]
      have hca := hcN.out
      have h0' := h0.out
      have hel' := hel.out
      obtain ⟨ad, hsA, hsB⟩ : ∃ ad, (∀ W : World, (Instr.slice 40 (.slice (some ⟨b, o, none⟩) n c) (some (.int .i64 (st : Int))) none none).run Tryz.prog W = .ok (.slice (some ad) yl (c - st)) W) ∧ Lib.HoldsBytes w1 (.slice (some ad) yl (c - st)) y := by
        by_cases hst : st < c
        · refine ⟨⟨b, o + st, none⟩, fun W => ?_, by rw [← hyl.out]; exact holds_at hAy⟩
          have h1 := slice_lo W b o n c st (by omega) hst
          rw [show n - st = yl by omega] at h1
          exact h1
        · have hy00 : y = [] := List.length_eq_zero_iff.1 (by have := hyl.out; omega)
          have h2 : st = c := by omega
          refine ⟨⟨b, o, none⟩, fun W => ?_, by rw [hy00] at hyl; rw [hy00, ← hyl.out]; exact ⟨_, _, rfl, fun e => by simp at e, fun _ _ i x hx => by simp at hx⟩⟩
          rw [run_slice_l W 40 _ _ _ (by rw [elemB]; exact Tryz.underlying40) .i64 _ (by omega) (by omega), elemB, sizeB]
          simp only [Result.andThen, sliced, Int.toNat_natCast, Nat.mul_one]
          rw [if_pos h2.symm, show n - st = yl by omega]
      have htl : ∀ W : World, (Instr.slice 40 (.slice (some ⟨w1.heap.size, 0, none⟩) N N) (some (.int .i64 (a : Int))) none none).run Tryz.prog W = .ok (Lib.tailV w1.heap.size N a) W := fun W => Lib.run_slice_tailV W 40 5 Tryz.underlying40 (fun w => sizeB w) w1.heap.size N a (by omega)
      have hbq : Hid (Lib.Buf w1 wr.drew w1.heap.size N x) := Buf_drew hbx.out 1
      obtain ⟨wc, hrun, hbc⟩ := Lib.copy_part (P := Tryz.prog) w1 wr.drew w1.heap.size N x y (.slice (some ad) yl (c - st)) 40 3 5 Tryz.underlying40 infoB1 (Nat.le_refl _) hbq.out hsB (by rw [hyl.out, ← hxa]; omega)
      rw [← hxa, hyl.out] at hrun
      have hfin : Hid (Sl wc (.slice (some ⟨w1.heap.size, 0, none⟩) N N) t ∧ Below w.heap.size w wc) := by
        have hb := hbc.below
        rw [← ht] at hbc
        refine ⟨⟨_, _, by rw [hN.out], fun e => by simp at e, by rw [hN.out]; exact Nat.le_refl _, by unfold maxLen; omega, fun q hq => ⟨_, _, rfl, ?_⟩⟩, ?_⟩
        · rw [Nat.zero_add]
          exact hbc.holds q t[q] (List.getElem?_eq_getElem hq)
        · have h1 := Qt.below hh.out w.heap.size
          rw [hsz.out] at hb
          exact h1.trans hb
      have hfs : ∀ W : World, (Instr.slice 40 (.slice (some ⟨w1.heap.size, 0, none⟩) N N) (some (.int .i64 0)) (some (.int .i64 (N : Int))) none).run Tryz.prog W = .ok (.slice (some ⟨w1.heap.size, 0, none⟩) N N) W := fun W => by
        rw [show (0 : Int) = ((0 : Nat) : Int) from rfl, run_slice_lh W 40 _ _ _ (by rw [elemB]; exact Tryz.underlying40) .i64 .i64 _ _ (by omega) (by omega) (by omega), elemB, sizeB]
        simp only [Result.andThen, sliced, Int.toNat_natCast, Nat.mul_one]
        split <;> simp [add0]
      have kay : (a : Int) + (yl : Int) = (N : Int) := by omega
      replace hl1 := hide hl1
      replace hl2 := hide hl2
      clear hsB hI hey hlx hcy hly hAy hbel hca h0' hel' ht hx0 hxa hxs hy0 hyf hbc
      subst him
      go_wp2_with fail
      go_region
      go_wp2_with fail
      go_ret
      exact ⟨_, rfl, hfin.out⟩
    · obtain ⟨u, r, rfl, hu⟩ : ∃ u r, y = u ++ 0 :: r ∧ (0 : UInt8) ∉ u := by
        rcases first_zero y with g | g
        · rw [count_free g] at hcy; omega
        · exact g
      rw [esc_split hu] at hly hAy
      obtain ⟨ul, hul⟩ : ∃ ul, Hid (u.length = ul) := ⟨_, rfl⟩
      have hl1 : st + (ul + (2 + (esc r).length)) = n := by rw [← hly, ← hul.out]; simp; omega
      have hl2 : a + (ul + (1 + r.length)) = N := by rw [← hlx, ← hul.out, hxa]; simp; omega
      have hAr : At wr b (o + st) (u ++ 0 :: 255 :: esc r) := hAy.below hbel
      have hca := hcN.out
      have hsl1 : ∀ W : World, (Instr.slice 40 (.slice (some ⟨b, o, none⟩) n c) (some (.int .i64 (st : Int))) none none).run Tryz.prog W = .ok (.slice (some ⟨b, o + st, none⟩) (n - st) (c - st)) W := fun W => slice_lo W b o n c st (by omega) (by omega)
      have hidx := index_call wr b (o + st) (c - st) ob u (esc r) hu hAr (ho1.out.below hbel) (by rw [show (u ++ 0 :: 255 :: esc r).length = n - st by omega]; omega) (by rw [show (u ++ 0 :: 255 :: esc r).length = n - st by omega]; omega) (hm1.out.below hbel)
      rw [show (u ++ 0 :: 255 :: esc r).length = n - st by omega, hul.out] at hidx
      replace hidx := hide hidx
      have hAu := hide (show At w1 b (o + st) u from fun q hq => by have := hAy q (by simp; omega); rw [List.getElem_append_left hq] at this; exact this)
      have hid2 := hide (show x ++ (u ++ 0 :: r) = (x ++ (u ++ [0])) ++ r ∧ (x ++ (u ++ [0])).count 0 = i + 1 ∧ a + ul + 1 = (x ++ (u ++ [0])).length ∧ st + ul + 2 = (esc (x ++ (u ++ [0]))).length from ⟨by simp, by rw [List.count_append, hx0, List.count_append, count_free hu]; rfl, by rw [hxa, ← hul.out]; simp; omega, by rw [hxs, ← hul.out, esc_add, esc_split hu]; simp [esc]; omega⟩)
      have hl1' := hide hl1
      have hl2' := hide hl2
      have ht' := hide ht
      have hxa' := hide hxa
      have i1 : (i : Int) < (m : Int) := by omega
      have b1 : st + ul ≤ 131072 := by omega
      have b2 : a + ul ≤ 131072 := by omega
      clear hI hey hlx hcy hly hAy hbel hAr hca hl1 hl2 ht hx0 hxa hxs him
      go_wp2_with fail
      refine hidx.out.mono ?_
      rintro e q1 ⟨rfl, hqt⟩
      have hbq : Hid (Lib.Buf w1 q1.drew w1.heap.size N x) := by
        obtain ⟨k, rfl⟩ := hqt
        exact Buf_drew (Buf_drew hbx.out k) 1
      clear hqt hsl1
      have htl : ∀ W : World, (Instr.slice 40 (.slice (some ⟨w1.heap.size, 0, none⟩) N N) (some (.int .i64 (a : Int))) none none).run Tryz.prog W = .ok (Lib.tailV w1.heap.size N a) W := fun W => Lib.run_slice_tailV W 40 5 Tryz.underlying40 (fun w => sizeB w) w1.heap.size N a (by have := hl2'.out; omega)
      have hsl2 : ∀ W : World, (Instr.slice 40 (.slice (some ⟨b, o, none⟩) n c) (some (.int .i64 (st : Int))) (some (.int .i64 ((st : Int) + (ul : Int)))) none).run Tryz.prog W = .ok (.slice (some ⟨b, o + st, none⟩) ul (c - st)) W := fun W => by
        have h1 := hl1'.out
        have h2 := hcN.out
        have := slice_lh W b o n c st (st + ul) (by omega) (by omega) (by omega)
        rw [show st + ul - st = ul by omega] at this
        exact this
      obtain ⟨wc, hrun, hbc⟩ := Lib.copy_part (P := Tryz.prog) w1 q1.drew w1.heap.size N x u (.slice (some ⟨b, o + st, none⟩) ul (c - st)) 40 3 5 Tryz.underlying40 infoB1 (Nat.le_refl _) hbq.out (by rw [← hul.out]; exact holds_at hAu.out) (by have := hl2'.out; have := hul.out; have := hxa'.out; omega)
      rw [← hxa'.out, hul.out] at hrun
      replace hbc := hide hbc
      go_wp2_with fail
      go_region
      clear htl hsl2 hrun
      have htl2 : ∀ W : World, (Instr.slice 40 (.slice (some ⟨w1.heap.size, 0, none⟩) N N) (some (.int .i64 ((a : Int) + (ul : Int)))) none none).run Tryz.prog W = .ok (Lib.tailV w1.heap.size N (a + ul)) W := fun W => Lib.run_slice_tailV W 40 5 Tryz.underlying40 (fun w => sizeB w) w1.heap.size N (a + ul) (by have := hl2'.out; omega)
      obtain ⟨wd, hrun2, hbd⟩ := Lib.copy_part (P := Tryz.prog) w1 wc w1.heap.size N (x ++ u) [0] (.slice (some ⟨nb, 0, none⟩) 1 1) 40 3 5 Tryz.underlying40 infoB1 (Nat.le_refl _) hbc.out (holds_at hn1.out) (by have := hl2'.out; have := hul.out; have := hxa'.out; simp; omega)
      rw [List.length_append, ← hxa'.out, hul.out] at hrun2
      replace hbd := hide hbd
      go_wp2_with (at_builtin; refine Lib.wpList_copy_run _ rfl _ _ 40 40 rfl _ _ rfl rfl hrun2 ?_)
      clear htl2 hrun2
      go_wp2_with fail
      go_roundw
      case rel => exact ⟨i + 1, a + ul + 1, st + ul + 2, by omega, by go_num, by go_num, by go_num, x ++ (u ++ [0]), r, by rw [ht'.out]; exact hid2.out.1, hid2.out.2.1, hid2.out.2.2.1, hid2.out.2.2.2, by have := hbd.out; rw [List.append_assoc] at this; exact this⟩
      case measure => simp [intOf]; omega
theorem replace_any (w : World) (b o c ob nb : Nat) (t : List UInt8) (h : At w b o (esc t)) (ho : At w ob 0 [0, 255]) (hnb : At w nb 0 [0]) (hc : (esc t).length ≤ c) (hcm : c ≤ maxLen) (hl : t.length ≤ 65536) (hm : Mx w) :
    Calls Tryz.prog 75 #[.slice (some ⟨b, o, none⟩) (esc t).length c, .slice (some ⟨ob, 0, none⟩) 2 2, .slice (some ⟨nb, 0, none⟩) 1 1, .int .i64 (-1)] w fun e w' => ∃ v', e = .returned v' ∧ Sl w' v' t ∧ Below w.heap.size w w' := by
  by_cases h0 : t.count 0 = 0
  · exact replace_none w b o c ob nb t h ho hc hcm hl hm h0
  · exact replace_some w b o c ob nb t h ho hnb hc hl hm (by omega)
theorem unmarked_any (w : World) (b o c : Nat) (t : List UInt8) (h : At w b o (esc t)) (hc : (esc t).length ≤ c) (hcm : c ≤ maxLen) (hl : t.length ≤ 65536) (hm : Mx w) :
    Calls Tryz.prog 72 #[.slice (some ⟨b, o, none⟩) (esc t).length c] w fun e w' => ∃ v', e = .returned v' ∧ Sl w' v' t ∧ Below w.heap.size w w' := by
  have hall := hide (fun (q : World) (ob nb : Nat) (hq : At q b o (esc t)) (h1 : At q ob 0 [0, 255]) (h2 : At q nb 0 [0]) (hm : Mx q) => (show Calls Tryz.prog 74 #[.slice (some ⟨b, o, none⟩) (esc t).length c, .slice (some ⟨ob, 0, none⟩) 2 2, .slice (some ⟨nb, 0, none⟩) 1 1] q fun e w' => ∃ v', e = .returned v' ∧ Sl w' v' t ∧ Below q.heap.size q w' by
    have hcall := hide (replace_any q b o c ob nb t hq h1 h2 hc hcm hl hm)
    obtain ⟨n, hn⟩ : ∃ n, Hid ((esc t).length = n) := ⟨_, rfl⟩
    rw [hn.out] at hcall ⊢
    clear hq h1 h2 hm h hc hcm hl
    go_enter Tryz.func74, Tryz.ntmps74
    go_wp2_with fail
    refine hcall.out.mono ?_
    rintro e w1 ⟨v', rfl, hs, hb⟩
    have hs' := hide hs
    have hb' := hide hb
    clear hs hb
    go_wp2_with fail
    go_ret
    exact ⟨_, rfl, hs'.out, hb'.out⟩))
  have e1 : ∀ A : Obj, (w.alloc A).heap.size = w.heap.size + 1 := fun A => by simp
  have hA : Hid (At ((w.alloc (.cells #[.int .u8 0, .int .u8 255] 5)).alloc (.cells #[.int .u8 0] 5)) w.heap.size 0 [0, 255]) := fun i hi => by
    have hlt : i < 2 := hi
    have h1 : (w.alloc (.cells #[.int .u8 0, .int .u8 255] 5)).cell? ⟨w.heap.size, 0 + i, none⟩ = some (.int .u8 (([0, 255] : List UInt8)[i].toNat : Int)) := box_cell w _ _ (0 + i) _ (by
      rcases (show i = 0 ∨ i = 1 by omega) with rfl | rfl <;> rfl)
    exact ((box_below _ _).cell (lt_of_cell h1)).trans h1
  have hA2 : Hid (At ((w.alloc (.cells #[.int .u8 0, .int .u8 255] 5)).alloc (.cells #[.int .u8 0] 5)) (w.heap.size + 1) 0 [0]) := fun i hi => by
    have hlt : i < 1 := hi
    obtain rfl : i = 0 := by omega
    have h1 := box_cell (w.alloc (.cells #[.int .u8 0, .int .u8 255] 5)) #[.int .u8 0] 5 0 (.int .u8 0) rfl
    rw [e1] at h1
    exact h1
  have hB : Hid (Below w.heap.size w ((w.alloc (.cells #[.int .u8 0, .int .u8 255] 5)).alloc (.cells #[.int .u8 0] 5))) := (box_below _ _).alloc (by rw [e1]; omega) _
  replace h := hide h
  replace hm := hide hm
  clear hc hcm hl e1
  obtain ⟨n, hn⟩ : ∃ n, Hid ((esc t).length = n) := ⟨_, rfl⟩
  rw [hn.out] at hall ⊢
  go_enter Tryz.func72, Tryz.ntmps72
  go_wp2_with fail
  refine (hall.out _ w.heap.size (w.heap.size + 1) (h.out.below hB.out) hA.out hA2.out (hm.out.below hB.out)).mono ?_
  rintro e w1 ⟨v', rfl, hs, hb⟩
  have hs' := hide hs
  have hb' := hide (keepV hb hB.out)
  clear hs hb
  go_wp2_with fail
  go_ret
  exact ⟨_, rfl, hs'.out, hb'.out⟩
#print axioms unmarked_any
end Go.Proofs.YtpfnkkkfekhngaaGreatDoor.Va
