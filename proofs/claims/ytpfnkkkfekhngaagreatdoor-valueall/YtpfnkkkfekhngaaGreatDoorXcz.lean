/-
  The document's own copy of a value.
-/
import Derived.Test.YtpfnkkkfekhngaaGreatDoorXlz
import Derived.Test.YtpfnkkkfekhngaaGreatDoorVz
import Derived.Test.YtpfnkkkfekhngaaGreatDoorVl
import Derived.Maps.AppendAt
import Derived.Test.YtpfnkkkfekhngaaGreatDoorVn
import Derived.Test.YtpfnkkkfekhngaaGreatDoorVf
import Derived.Test.YtpfnkkkfekhngaaGreatDoorVwK
import Derived.Test.YtpfnkkkfekhngaaGreatDoorKpz
import Derived.Test.YtpfnkkkfekhngaaGreatDoorYw1
namespace Go.Proofs.YtpfnkkkfekhngaaGreatDoor.Va
open Go.RowKit Go.Proofs.YtpfnkkkfekhngaaGreatDoor.Rl
set_option maxRecDepth 100000
set_option linter.unusedVariables false

/-- Five cells lie at block b. -/
def Q5 (w : World) (b : Nat) (a0 a1 a2 a3 a4 : Value) : Prop := w.heap[b]? = some (.cells #[a0, a1, a2, a3, a4] 35 (0, 0))
theorem Q5.c {w : World} {b : Nat} {a0 a1 a2 a3 a4 : Value} (h : Q5 w b a0 a1 a2 a3 a4) : w.cell? ⟨b, 0, none⟩ = some a0 ∧ w.cell? ⟨b, 1, none⟩ = some a1 ∧ w.cell? ⟨b, 2, none⟩ = some a2 ∧ w.cell? ⟨b, 3, none⟩ = some a3 ∧ w.cell? ⟨b, 4, none⟩ = some a4 := by
  unfold Q5 at h
  refine ⟨?_, ?_, ?_, ?_, ?_⟩ <;> (unfold World.cell?; simp only [h]; rfl)
theorem Q5.f {w : World} {b : Nat} {a0 a1 a2 a3 a4 : Value} (h : Q5 w b a0 a1 a2 a3 a4) (j : Nat) : w.frozen? ⟨b, j, none⟩ = false := by
  unfold Q5 at h
  simp [World.frozen?, h]
theorem isV_parts {w : World} {v : Value} : ∀ {x : Val}, IsV w v x → ∃ k n r t ao m c, v = .agg #[.int .i64 k, .int .i64 n, .float .f64 r, .string t, .slice ao m c]
  | .mk k n r t l, h => by
    rw [IsV] at h
    obtain ⟨ao, cap, e, _⟩ := h
    exact ⟨k, n, r, _, ao, _, cap, e⟩
/-- Where copying a list stands. -/
def CAt (w wr : World) (vb : Nat) (k n : Int) (r : Nat) (t : List UInt8) (ao : Option Addr) (N cap : Nat) (l : List Val) (v3 : Value) (i : Nat) (xs : List Value) : Prop :=
  Below w.heap.size w wr ∧ w.heap.size = vb ∧ Q5 wr vb (.int .i64 k) (.int .i64 n) (.float .f64 (canonB r)) (.string (bstr t)) (.slice ao N cap) ∧ Z5 wr (vb + 1) ∧ GL (vb + 2) wr v3 ((l.take i).map canonV) xs
set_option maxHeartbeats 4000000 in
theorem copied_any (x : Val) : ∀ (w : World) (v : Value), IsV w v x → wtV x → szV x ≤ 65536 →
    Calls Tryz.prog 33 #[v] w fun e w' => ∃ cv, e = .returned cv ∧ Far w' w.heap.size cv (canonV x) ∧ Below w.heap.size w w' := by
  induction x using Val.ind with
  | h k n r t l ih =>
    intro w v hv hw hs
    have ksf : ∀ (w : World) (a : Addr) (x : Nat) (m : Mode), (store a (.float .f64 x) m).run Tryz.prog w = stored Tryz.prog w a (.float .f64 x) m := fun w a x m => run_store Tryz.prog w a _ m rfl
    rw [IsV] at hv
    obtain ⟨ao, cap, rfl, h2, h3, h4, h5, h6⟩ := hv
    rw [wtV] at hw
    have hr64 := hw.2.2.1
    replace hw : Hid (wtL l) := hw.2.2.2
    rw [szV] at hs
    have hln := szL_len l
    replace hs := hide hs
    replace h6 := hide h6
    replace h5 := hide h5
    replace ih := hide ih
    obtain ⟨N, hN⟩ : ∃ N, Hid (l.length = N) := ⟨_, rfl⟩
    rw [hN.out] at h3 hln ⊢
    have hn1 : N ≤ 65536 := by have := hs.out; omega
    obtain ⟨i0, hi, hz0, hz1, hz2⟩ := info_parts infoY
    replace hi := hide hi
    replace hz0 := hide hz0
    replace hz1 := hide hz1
    replace hz2 := hide hz2
    clear h2 h3 h4 hln
    obtain ⟨X, hX⟩ : ∃ X, Hid (canonV (.mk k n r t l) = X) := ⟨_, rfl⟩
    rw [hX.out]
    obtain ⟨vb, hvb⟩ : ∃ vb, Hid (w.heap.size = vb) := ⟨_, rfl⟩
    have h0 : Hid (CAt w ((w.alloc (.cells #[.int .i64 k, .int .i64 n, .float .f64 (canonB r), .string (bstr t), .slice ao N cap] 35)).alloc (.cells #[.int .i64 0, .int .i64 0, .float .f64 0, .string ⟨#[]⟩, .slice none 0 0] 35)) vb k n r t ao N cap l (.slice none 0 0) 0 []) := by
      refine ⟨(box_below w _).trans ((box_below (w.alloc _) _).mono (by simp)), hvb.out, ?_, ?_, GL.nil _ _⟩
      · show _ = _
        rw [heap_alloc_old _ _ (by have := hvb.out; simp; omega), ← hvb.out]; exact heap_alloc_new _ _
      · show _ = _
        have := heap_alloc_new (w.alloc (.cells #[.int .i64 k, .int .i64 n, .float .f64 (canonB r), .string (bstr t), .slice ao N cap] 35)) (.cells #[.int .i64 0, .int .i64 0, .float .f64 0, .string ⟨#[]⟩, .slice none 0 0] 35)
        rw [show (w.alloc (.cells #[.int .i64 k, .int .i64 n, .float .f64 (canonB r), .string (bstr t), .slice ao N cap] 35)).heap.size = vb + 1 by rw [World.size_alloc, hvb.out]] at this
        exact this
    have ccan := hide (fun q => refCanon_any q r hr64)
    clear hr64
    go_enter Tryz.func33, Tryz.ntmps33
    go_wp2_with fail
    refine (ccan.out _).mono ?_
    rintro e w2 ⟨rfl, hw2⟩
    subst w2
    go_wp2_with fail
    rw [hvb.out]
    go_loopw [3, 4] (fun v3 v4 wr => ∃ (i : Nat), i ≤ N ∧ v4 = .int .i64 (i : Int) ∧ Hid (∃ xs, CAt w wr vb k n r t ao N cap l v3 i xs)) (fun _ v _ => N - (intOf v).toNat)
    case atStart => exact ⟨0, by omega, rfl, [], h0.out⟩
    case round =>
      clear h0 ccan
      obtain ⟨i, hiN, rfl, hC⟩ := hrel
      obtain ⟨xs, hC⟩ := hC.out
      obtain ⟨vo, vc, hv3⟩ := hC.2.2.2.2.shape
      have hal : ((l.take i).map canonV).length = i := by rw [List.length_map, List.length_take, hN.out]; omega
      rw [hal] at hv3
      subst hv3
      replace hal := hide hal
      have hQ := hC.2.2.1
      obtain ⟨c0, c1, c2, c3, c4⟩ := hQ.c
      have i2 : (0 : Int) ≤ (i : Int) := by omega
      by_cases hin : i = N
      · have i1 : ¬ (i : Int) < (N : Int) := by omega
        have hZ := hC.2.2.2.1
        have hZ1 : Z5 (wr.setCell ⟨vb, 4, none⟩ (.slice vo i vc)) (vb + 1) := hZ.grown (grown_setCell _ vb 4 _) (by simp)
        obtain ⟨z0, z1, z2, z3, z4⟩ := hZ.c
        have f0 := hZ.f 0
        have f1 := hZ.f 1
        have f2 := hZ.f 2
        have f3 := hZ.f 3
        have f4 := hZ.f 4
        have qf := hQ.f 4
        have hrd := ypt_reads hZ1 (.int .i64 k) (.int .i64 n) (.float .f64 (canonB r)) (.string (bstr t)) (.slice vo i vc)
        have hbf : Hid (Below w.heap.size w (ypt (wr.setCell ⟨vb, 4, none⟩ (.slice vo i vc)) (vb + 1) (.int .i64 k) (.int .i64 n) (.float .f64 (canonB r)) (.string (bstr t)) (.slice vo i vc))) := by
          have hp : w.heap.size ≤ vb := by have := hvb.out; omega
          have hp1 : w.heap.size ≤ vb + 1 := by omega
          unfold ypt
          exact ybelow_set (ybelow_set (ybelow_set (ybelow_set (ybelow_set (ybelow_set hC.1 hp _) hp1 _) hp1 _) hp1 _) hp1 _) hp1 _
        have hfa : Hid (Far (ypt (wr.setCell ⟨vb, 4, none⟩ (.slice vo i vc)) (vb + 1) (.int .i64 k) (.int .i64 n) (.float .f64 (canonB r)) (.string (bstr t)) (.slice vo i vc)) w.heap.size (.agg #[.int .i64 k, .int .i64 n, .float .f64 (canonB r), .string (bstr t), .slice vo i vc]) X) := by
          have e1 : X = .mk k n (canonB r) t ((l.take i).map canonV) := by
            rw [← hX.out, canonV, canonL_map, hin, ← hN.out, List.take_length]
          rw [e1]
          refine Far.grow (hC.2.2.2.2.far k n (canonB r) t h5.out) (fun b b1 b2 => ?_) ?_ (by have := hvb.out; omega)
          · exact ((ypt_block (wr.setCell ⟨vb, 4, none⟩ (.slice vo i vc)) (vb + 1) _ _ _ _ _).block b (by simpa using b2) (by simp; omega)).trans (heap_setCell_other _ _ _ _ (by simp; omega))
          · have := (ypt_block (wr.setCell ⟨vb, 4, none⟩ (.slice vo i vc)) (vb + 1) (.int .i64 k) (.int .i64 n) (.float .f64 (canonB r)) (.string (bstr t)) (.slice vo i vc)).size
            simpa using this
        replace hin := hide hin
        replace hC := hide hC
        replace hrd := hide hrd
        clear hQ hZ hZ1
        go_wp2_with fail
        show bodyPost _ _ _ _ _ (ypt (wr.setCell ⟨vb, 4, none⟩ (.slice vo i vc)) (vb + 1) (.int .i64 k) (.int .i64 n) (.float .f64 (canonB r)) (.string (bstr t)) (.slice vo i vc))
        obtain ⟨w5, hw5⟩ : ∃ w5, Hid (ypt (wr.setCell ⟨vb, 4, none⟩ (.slice vo i vc)) (vb + 1) (.int .i64 k) (.int .i64 n) (.float .f64 (canonB r)) (.string (bstr t)) (.slice vo i vc) = w5) := ⟨_, rfl⟩
        rw [hw5.out] at hrd hbf hfa ⊢
        obtain ⟨k0, k1, k2, k3, k4⟩ := hrd.out
        refine bodyPost_ret (by simp [results, Tryz.results33, go_sem, k0, k1, k2, k3, k4]; rfl) rfl ?_
        exact ⟨_, rfl, hfa.out, hbf.out⟩
      · have i1 : (i : Int) < (N : Int) := by omega
        have hil : i < l.length := by rw [hN.out]; omega
        obtain ⟨bb, off, d0, d1, d2, d3, d4, rfl, g0, g1, g2, g3, g4, hvi⟩ := IsL.get h6.out i hil
        rw [Nat.zero_add] at g0 g1 g2 g3 g4
        have cell : ∀ o c, w.cell? ⟨bb, o, none⟩ = some c → wr.cell? ⟨bb, o, none⟩ = some c := fun o c hc => (hC.1.cell (lt_of_cell hc)).trans hc
        replace g0 := cell _ _ g0
        replace g1 := cell _ _ g1
        replace g2 := cell _ _ g2
        replace g3 := cell _ _ g3
        replace g4 := cell _ _ g4
        have hst := szL_split l (i + 1)
        rw [szL_take hil] at hst
        have hcall := hide (ih.out l[i] (List.getElem_mem hil) wr _ (hvi.below (hC.1)) (wtL_at hw.out i hil) (by have := hs.out; omega))
        replace hC := hide hC
        clear cell hvi hst hQ
        go_wp2_with fail
        refine hcall.out.mono ?_
        rintro e w1 ⟨cv, rfl, hF, hb1⟩
        obtain ⟨xk, xn, xr, xt, xo, xm, xc, rfl⟩ := isV_parts hF.isV
        have hG := hide (hC.out.2.2.2.2.keep (w' := w1) (fun b _ h2 => hb1.block b h2) hb1.size)
        have hown := hide hG.out.own
        rw [hal.out] at hown
        have hs1 := hide hb1.size
        have hsr : Hid (vb + 2 ≤ wr.heap.size) := by have := heap_lt hC.out.2.2.2.1; show _ ≤ _; omega
        have hob : Hid (∀ k, Value.ownBlock (.slice vo i vc) = some k → k < wr.heap.size) := fun k e => (hC.out.2.2.2.2.own.lt k e).2
        replace hF := hide hF
        replace hb1 := hide hb1
        clear c0 c1 c2 c3 c4 g0 g1 g2 g3 g4 hcall
        go_wp2_with (at_builtin; refine wpList_append_lies _ rfl (.tmp 16) (.tmp 23) 22 rfl (vb + 2) 35 i0 zeroA 5 64 Tryz.underlying22 hi.out hz0.out hz1.out hz2.out rfl (by decide) _ i xs rfl (hown.out.alloc _) ⟨w1.heap.size, 0, none⟩ 1 1 [.int .i64 xk, .int .i64 xn, .float .f64 xr, .string xt, .slice xo xm xc] rfl rfl (five_news w1 _ _ _ _ _ _) (by intro u hu; simp at hu; rcases hu with rfl | rfl | rfl | rfl | rfl <;> rfl) (by omega) (by unfold maxLen; omega) (by omega) (by have := hsr.out; have := hs1.out; simp; omega) (w1.heap.size + 1) (by simp) ?_)
        intro gb cap2 w4 ho hg4 hat hlt
        have hmore : Hid (∃ xs', CAt w w4 vb k n r t (some ⟨bb, off, none⟩) N cap l (.slice (some ⟨gb, 0, none⟩) (i + 1) cap2) (i + 1) xs') := by
          obtain ⟨C1, C2, C3, C4, C6⟩ := hC.out
          have hg3 : w1.grownBy (w1.alloc (.cells #[.int .i64 xk, .int .i64 xn, .float .f64 xr, .string xt, .slice xo xm xc] 35)) none := World.grownBy_alloc _ _ none
          have z1 := hs1.out
          have z2 := hsr.out
          have z4 := hg4.size
          have z3 := hg3.size
          have hsame : ∀ b, b < vb + 2 → w4.heap[b]? = wr.heap[b]? := fun b hb =>
            ((hg4.block b (by omega) (fun e => by have := (C6.own.lt b e.symm).1; omega)).trans (hg3.block b (by omega) (by simp))).trans (hb1.out.block b (by omega))
          have hB4 : Below w.heap.size w w4 := ⟨(hg4.os.trans (hg3.os.trans hb1.out.os)).trans C1.os, (hg4.tape.trans (hg3.tape.trans hb1.out.tape)).trans C1.tape, (hg4.output.trans (hg3.output.trans hb1.out.output)).trans C1.output, by have := C1.size; omega, fun b hb => (hsame b (by omega)).trans (C1.block b hb)⟩
          have ho' : w4.ownsRow (vb + 2) 35 5 (.slice (some ⟨gb, 0, none⟩) (((l.take i).map canonV).length + 1) cap2) (((l.take i).map canonV).length + 1) (xs ++ [.int .i64 xk, .int .i64 xn, .float .f64 xr, .string xt, .slice xo xm xc]) := by rw [hal.out]; exact ho
          have hgl := hG.out.more hF.out z2 hob.out hg3 ho' hg4 (by simpa using hat)
          rw [hal.out] at hgl
          refine ⟨xs ++ [.int .i64 xk, .int .i64 xn, .float .f64 xr, .string xt, .slice xo xm xc], hB4, C2, ?_, ?_, ?_⟩
          · show _ = _
            rw [hsame vb (by omega)]; exact C3
          · show _ = _
            rw [hsame (vb + 1) (by omega)]; exact C4
          · rw [List.take_succ_eq_append_getElem hil, List.map_append]
            exact hgl
        clear ho hg4 hat hlt
        go_wp2_with fail
        go_roundw
        case rel => exact ⟨i + 1, by omega, by go_num, hmore.out⟩
        case measure => simp [intOf]; omega
#print axioms copied_any
end Go.Proofs.YtpfnkkkfekhngaaGreatDoor.Va

/-
  Twin: a value's twin, in memory of its own, with a mark behind each list.
-/
namespace Go.Proofs.YtpfnkkkfekhngaaGreatDoor.Va
open Go.RowKit Go.Proofs.YtpfnkkkfekhngaaGreatDoor.Rl
set_option maxRecDepth 100000
set_option linter.unusedVariables false

/-- The twin, also in any world that agrees with this one on the blocks of S. -/
def FarT (S : Nat → Prop) (w : World) (v : Value) (x : Val) : Prop := ∀ w' : World, (∀ b, S b → b < w.heap.size → w'.heap[b]? = w.heap[b]?) → MkV w' v x
theorem FarT.grow {S S' : Nat → Prop} {w w' : World} {v : Value} {x : Val} (h : FarT S w v x) (hb : ∀ b, S b → b < w.heap.size → w'.heap[b]? = w.heap[b]? ∧ S' b) (hs : w.heap.size ≤ w'.heap.size) : FarT S' w' v x :=
  fun u hu => h u fun b h1 h2 => (hu b (hb b h1 h2).2 (by omega)).trans (hb b h1 h2).1
/-- The slice v8 owns these values; each lies in blocks from lo on, out of the slice's own. -/
structure GLM (lo : Nat) (wr : World) (v8 : Value) (acc : List Val) (xs : List Value) : Prop where
  own : wr.ownsRow lo 35 5 v8 acc.length xs
  each : ∀ j (h : j < acc.length), ∃ c0 c1 c2 c3 c4, xs[j * 5]? = some c0 ∧ xs[j * 5 + 1]? = some c1 ∧ xs[j * 5 + 2]? = some c2 ∧ xs[j * 5 + 3]? = some c3 ∧ xs[j * 5 + 4]? = some c4 ∧ FarT (fun b => lo ≤ b ∧ v8.ownBlock ≠ some b) wr (.agg #[c0, c1, c2, c3, c4]) acc[j]
theorem GLM.nil (lo : Nat) (w : World) : GLM lo w (.slice none 0 0) [] [] := ⟨World.ownsRow_nil _ _ _ _, fun j h => by simp at h⟩
theorem GLM.shape {lo : Nat} {wr : World} {v8 : Value} {acc : List Val} {xs : List Value} (h : GLM lo wr v8 acc xs) : ∃ vo vc, v8 = .slice vo acc.length vc := by
  rcases h.own.2 with ⟨rfl, h0⟩ | ⟨gb, cap, cur, rfl, _⟩
  · exact ⟨_, _, by rw [h0]⟩
  · exact ⟨_, _, rfl⟩
theorem GLM.keep {lo : Nat} {wr w' : World} {v8 : Value} {acc : List Val} {xs : List Value} (h : GLM lo wr v8 acc xs) (hb : ∀ b, lo ≤ b → b < wr.heap.size → w'.heap[b]? = wr.heap[b]?) (hs : wr.heap.size ≤ w'.heap.size) : GLM lo w' v8 acc xs := by
  refine ⟨⟨h.own.1, ?_⟩, fun j hj => ?_⟩
  · rcases h.own.2 with g | ⟨gb, cap, cur, a1, a2, a3, a4⟩
    · exact Or.inl g
    · exact Or.inr ⟨gb, cap, cur, a1, a2, (hb gb a2 (heap_lt a3)).trans a3, a4⟩
  · obtain ⟨c0, c1, c2, c3, c4, e0, e1, e2, e3, e4, hf⟩ := h.each j hj
    exact ⟨c0, c1, c2, c3, c4, e0, e1, e2, e3, e4, hf.grow (fun b h1 h2 => ⟨hb b h1.1 h2, h1⟩) hs⟩
/-- One more. -/
theorem GLM.more {lo lo1 : Nat} {w1 w3 w4 : World} {v8 : Value} {acc : List Val} {xs : List Value} (h : GLM lo w1 v8 acc xs) {x : Val} {a0 a1 a2 a3 a4 : Value} (hF : FarM w1 lo1 (.agg #[a0, a1, a2, a3, a4]) x) (hlo : lo ≤ lo1) (hob : ∀ k, v8.ownBlock = some k → k < lo1) (hg3 : w1.grownBy w3 none)
    {gb cap : Nat} (ho : w4.ownsRow lo 35 5 (.slice (some ⟨gb, 0, none⟩) (acc.length + 1) cap) (acc.length + 1) (xs ++ [a0, a1, a2, a3, a4])) (hg4 : w3.grownBy w4 v8.ownBlock) (hat : v8.ownBlock = some gb ∨ gb = w3.heap.size) :
    GLM lo w4 (.slice (some ⟨gb, 0, none⟩) (acc.length + 1) cap) (acc ++ [x]) (xs ++ [a0, a1, a2, a3, a4]) := by
  have z3 := hg3.size
  have z4 := hg4.size
  have b1 : ∀ k, k < w1.heap.size → v8.ownBlock ≠ some k → w4.heap[k]? = w1.heap[k]? := fun k h1 h2 => (hg4.block k (by omega) (fun e => h2 e.symm)).trans (hg3.block k h1 (by simp))
  refine ⟨by rw [List.length_append]; exact ho, fun j hj => ?_⟩
  have hxl : xs.length = acc.length * 5 := h.own.1
  have hgbb : ∀ k, k < w1.heap.size → v8.ownBlock ≠ some k → Value.ownBlock (.slice (some ⟨gb, 0, none⟩) (acc.length + 1) cap) ≠ some k := fun k h1 h2 e => by
    simp only [Value.ownBlock, Option.some.injEq] at e
    rcases hat with h3 | h3
    · exact h2 (e ▸ h3)
    · omega
  by_cases hjl : j < acc.length
  · obtain ⟨c0, c1, c2, c3, c4, e0, e1, e2, e3, e4, hf⟩ := h.each j hjl
    have ap : ∀ k u, xs[k]? = some u → (xs ++ [a0, a1, a2, a3, a4])[k]? = some u := fun k u hu => by
      rw [List.getElem?_append_left (List.getElem?_eq_some_iff.1 hu).1]; exact hu
    refine ⟨c0, c1, c2, c3, c4, ap _ _ e0, ap _ _ e1, ap _ _ e2, ap _ _ e3, ap _ _ e4, ?_⟩
    rw [List.getElem_append_left hjl]
    exact hf.grow (fun k hk hkl => ⟨b1 k hkl hk.2, hk.1, hgbb k hkl hk.2⟩) (by omega)
  · have ej : j = acc.length := by simp at hj; omega
    subst ej
    have ap : ∀ k, (xs ++ [a0, a1, a2, a3, a4])[acc.length * 5 + k]? = [a0, a1, a2, a3, a4][k]? := fun k => by
      rw [List.getElem?_append_right (by omega), hxl, Nat.add_sub_cancel_left]
    refine ⟨a0, a1, a2, a3, a4, by rw [show acc.length * 5 = acc.length * 5 + 0 from rfl, ap]; rfl, by rw [ap]; rfl, by rw [ap]; rfl, by rw [ap]; rfl, by rw [ap]; rfl, ?_⟩
    have e3 : (acc ++ [x])[acc.length]'hj = x := by simp
    rw [e3]
    intro u hu
    refine hF u fun k h1 h2 => ?_
    have hnk : v8.ownBlock ≠ some k := fun e => by have := hob k e; omega
    exact (hu k ⟨by omega, hgbb k h2 hnk⟩ (by omega)).trans (b1 k h2 hnk)

/-- The mark behind. -/
theorem GLM.mark {lo : Nat} {w1 w3 w4 : World} {v8 : Value} {acc : List Val} {xs : List Value} (h : GLM lo w1 v8 acc xs) (hg3 : w1.grownBy w3 none)
    {gb cap : Nat} (ho : w4.ownsRow lo 35 5 (.slice (some ⟨gb, 0, none⟩) (acc.length + 1) cap) (acc.length + 1) (xs ++ [.int .i64 (-5), .int .i64 0, .float .f64 0, .string ⟨#[109, 97, 114, 107]⟩, .slice none 0 0])) (hg4 : w3.grownBy w4 v8.ownBlock)
    (k n : Int) (r : Nat) (t : List UInt8) (ht : t.length ≤ 140737488355328) : FarM w4 lo (.agg #[.int .i64 k, .int .i64 n, .float .f64 r, .string (bstr t), .slice (some ⟨gb, 0, none⟩) acc.length cap]) (.mk k n r t acc) := by
  intro w' hw
  have z3 := hg3.size
  have z4 := hg4.size
  have b1 : ∀ k, k < w1.heap.size → v8.ownBlock ≠ some k → w4.heap[k]? = w1.heap[k]? := fun k h1 h2 => (hg4.block k (by omega) (fun e => h2 e.symm)).trans (hg3.block k h1 (by simp))
  have hxl : xs.length = acc.length * 5 := h.own.1
  have hc : ∀ k u, (xs ++ [.int .i64 (-5), .int .i64 0, .float .f64 0, .string ⟨#[109, 97, 114, 107]⟩, .slice none 0 0])[k]? = some u → w'.cell? ⟨gb, k, none⟩ = some u := fun k u hu => by
    have h1 := ho.cells (g := gb) rfl k u hu
    rw [yadd0] at h1
    have h2 := ho.lt gb rfl
    rw [World.cell?_of_block (w := w4) (w' := w') (a := ⟨gb, k, none⟩) (hw gb h2.1 h2.2)]
    exact h1
  have htyp : ∃ cs, w'.heap[gb]? = some (.cells cs 35 (0, 0)) := by
    rcases ho.2 with ⟨e, _⟩ | ⟨g, c, cur, e, _, hh, _⟩
    · simp at e
    · simp only [Value.slice.injEq, Option.some.injEq, Addr.mk.injEq] at e
      obtain ⟨⟨rfl, _⟩, _⟩ := e
      have h2 := ho.lt gb rfl
      exact ⟨cur, (hw gb h2.1 h2.2).trans hh⟩
  have hcap : acc.length + 1 ≤ cap ∧ cap ≤ maxLen := by
    rcases ho.2 with ⟨e, _⟩ | ⟨g, c, cur, e, _, _, h1, h2, _⟩
    · simp at e
    · simp only [Value.slice.injEq] at e
      obtain ⟨_, _, rfl⟩ := e
      exact ⟨h1, h2⟩
  rw [MkV]
  refine ⟨gb, cap, rfl, by omega, hcap.2, ht, ?_, htyp, mkL_of acc 0 fun j hj => ?_⟩
  · apply hc
    rw [List.getElem?_append_right (by omega), hxl, Nat.add_sub_cancel_left]
    rfl
  · obtain ⟨c0, c1, c2, c3, c4, e0, e1, e2, e3, e4, hf⟩ := h.each j hj
    have ap : ∀ k u, xs[k]? = some u → w'.cell? ⟨gb, k, none⟩ = some u := fun k u hu => hc k u (by rw [List.getElem?_append_left (List.getElem?_eq_some_iff.1 hu).1]; exact hu)
    simp only [Nat.zero_add]
    exact ⟨c0, c1, c2, c3, c4, ap _ _ e0, ap _ _ e1, ap _ _ e2, ap _ _ e3, ap _ _ e4, hf w' fun b h1 h2 => (hw b h1.1 (by omega)).trans (b1 b h2 h1.2)⟩
/-- Where a twin stands. -/
def TAt (w wr : World) (vb : Nat) (k n : Int) (r : Nat) (t : List UInt8) (ao : Option Addr) (N cap : Nat) (l : List Val) (v3 : Value) (i : Nat) (xs : List Value) : Prop :=
  Below w.heap.size w wr ∧ w.heap.size = vb ∧ Q5 wr vb (.int .i64 k) (.int .i64 n) (.float .f64 r) (.string (bstr t)) (.slice ao N cap) ∧ Z5 wr (vb + 1) ∧ GLM (vb + 2) wr v3 (l.take i) xs
set_option maxHeartbeats 4000000 in
theorem twin_any (x : Val) : ∀ (w : World) (v : Value), IsV w v x → nV x ≤ 100000 →
    Calls Tryz.prog 7 #[v] w fun e w' => ∃ cv, e = .returned cv ∧ FarM w' w.heap.size cv x ∧ Below w.heap.size w w' := by
  induction x using Val.ind with
  | h k n r t l ih =>
    intro w v hv hs
    have ksf : ∀ (w : World) (a : Addr) (x : Nat) (m : Mode), (store a (.float .f64 x) m).run Tryz.prog w = stored Tryz.prog w a (.float .f64 x) m := fun w a x m => run_store Tryz.prog w a _ m rfl
    rw [IsV] at hv
    obtain ⟨ao, cap, rfl, h2, h3, h4, h5, h6⟩ := hv
    rw [nV] at hs
    have hln := nL_len l
    replace hs := hide hs
    replace h6 := hide h6
    replace h5 := hide h5
    replace ih := hide ih
    obtain ⟨N, hN⟩ : ∃ N, Hid (l.length = N) := ⟨_, rfl⟩
    rw [hN.out] at h3 hln ⊢
    have hn1 : N ≤ 100000 := by have := hs.out; omega
    obtain ⟨i0, hi, hz0, hz1, hz2⟩ := info_parts infoY
    replace hi := hide hi
    replace hz0 := hide hz0
    replace hz1 := hide hz1
    replace hz2 := hide hz2
    clear h2 h3 h4 hln
    obtain ⟨X, hX⟩ : ∃ X, Hid (Val.mk k n r t l = X) := ⟨_, rfl⟩
    rw [hX.out]
    obtain ⟨vb, hvb⟩ : ∃ vb, Hid (w.heap.size = vb) := ⟨_, rfl⟩
    have h0 : Hid (TAt w ((w.alloc (.cells #[.int .i64 k, .int .i64 n, .float .f64 r, .string (bstr t), .slice ao N cap] 35)).alloc (.cells #[.int .i64 0, .int .i64 0, .float .f64 0, .string ⟨#[]⟩, .slice none 0 0] 35)) vb k n r t ao N cap l (.slice none 0 0) 0 []) := by
      refine ⟨(box_below w _).trans ((box_below (w.alloc _) _).mono (by simp)), hvb.out, ?_, ?_, GLM.nil _ _⟩
      · show _ = _
        rw [heap_alloc_old _ _ (by have := hvb.out; simp; omega), ← hvb.out]; exact heap_alloc_new _ _
      · show _ = _
        have := heap_alloc_new (w.alloc (.cells #[.int .i64 k, .int .i64 n, .float .f64 r, .string (bstr t), .slice ao N cap] 35)) (.cells #[.int .i64 0, .int .i64 0, .float .f64 0, .string ⟨#[]⟩, .slice none 0 0] 35)
        rw [show (w.alloc (.cells #[.int .i64 k, .int .i64 n, .float .f64 r, .string (bstr t), .slice ao N cap] 35)).heap.size = vb + 1 by rw [World.size_alloc, hvb.out]] at this
        exact this
    go_enter Tryz.func7, Tryz.ntmps7
    go_wp2_with fail
    rw [hvb.out]
    go_loopw [3, 4] (fun v3 v4 wr => ∃ (i : Nat), i ≤ N ∧ v4 = .int .i64 (i : Int) ∧ Hid (∃ xs, TAt w wr vb k n r t ao N cap l v3 i xs)) (fun _ v _ => N - (intOf v).toNat)
    case atStart => exact ⟨0, by omega, rfl, [], h0.out⟩
    case round =>
      clear h0
      obtain ⟨i, hiN, rfl, hC⟩ := hrel
      obtain ⟨xs, hC⟩ := hC.out
      obtain ⟨vo, vc, hv3⟩ := hC.2.2.2.2.shape
      have hal : (l.take i).length = i := by rw [List.length_take, hN.out]; omega
      rw [hal] at hv3
      subst hv3
      replace hal := hide hal
      have hQ := hC.2.2.1
      obtain ⟨c0, c1, c2, c3, c4⟩ := hQ.c
      have i2 : (0 : Int) ≤ (i : Int) := by omega
      have hown := hide hC.2.2.2.2.own
      rw [hal.out] at hown
      have hsr : Hid (vb + 2 ≤ wr.heap.size) := by have := heap_lt hC.2.2.2.1; show _ ≤ _; omega
      by_cases hin : i = N
      · have i1 : ¬ (i : Int) < (N : Int) := by omega
        have hC' := hide hC
        replace hin := hide hin
        clear hC hQ
        go_wp2_with (at_builtin; refine wpList_append_lies _ rfl (.tmp 21) (.tmp 23) 22 rfl (vb + 2) 35 i0 zeroA 5 64 Tryz.underlying22 hi.out hz0.out hz1.out hz2.out rfl (by decide) _ i xs rfl (hown.out.alloc _) ⟨wr.heap.size, 0, none⟩ 1 1 [.int .i64 (-5), .int .i64 0, .float .f64 0, .string ⟨#[109, 97, 114, 107]⟩, .slice none 0 0] rfl rfl (five_news wr _ _ _ _ _ _) (by intro u hu; simp at hu; rcases hu with rfl | rfl | rfl | rfl | rfl <;> rfl) (by omega) (by unfold maxLen; omega) (by omega) (by have := hsr.out; simp; omega) (wr.heap.size + 1) (by simp) ?_)
        intro gb cap2 w4 ho hg4 hat hlt
        have hg3 : wr.grownBy (wr.alloc (.cells #[.int .i64 (-5), .int .i64 0, .float .f64 0, .string ⟨#[109, 97, 114, 107]⟩, .slice none 0 0] 35)) none := World.grownBy_alloc _ _ none
        obtain ⟨C1, C2, C3, C4, C6⟩ := hC'.out
        have z2 := hsr.out
        have z3 := hg3.size
        have z4 := hg4.size
        have hsame : ∀ b, b < vb + 2 → w4.heap[b]? = wr.heap[b]? := fun b hb =>
          (hg4.block b (by omega) (fun e => by have := (C6.own.lt b e.symm).1; omega)).trans (hg3.block b (by omega) (by simp))
        have hB4 : Hid (Below w.heap.size w w4) := ⟨(hg4.os.trans hg3.os).trans C1.os, (hg4.tape.trans hg3.tape).trans C1.tape, (hg4.output.trans hg3.output).trans C1.output, by have := C1.size; omega, fun b hb => (hsame b (by omega)).trans (C1.block b hb)⟩
        have hQ4 : Q5 w4 vb (.int .i64 k) (.int .i64 n) (.float .f64 r) (.string (bstr t)) (.slice ao N cap) := by show _ = _; rw [hsame vb (by omega)]; exact C3
        have hZ4 : Z5 w4 (vb + 1) := by show _ = _; rw [hsame (vb + 1) (by omega)]; exact C4
        have ho' : w4.ownsRow (vb + 2) 35 5 (.slice (some ⟨gb, 0, none⟩) ((l.take i).length + 1) cap2) ((l.take i).length + 1) (xs ++ [.int .i64 (-5), .int .i64 0, .float .f64 0, .string ⟨#[109, 97, 114, 107]⟩, .slice none 0 0]) := by rw [hal.out]; exact ho
        have hFM := C6.mark hg3 ho' hg4 k n r t h5.out
        have htk : l.take i = l := List.take_of_length_le (by have := hN.out; have := hin.out; omega)
        rw [hal.out, htk, hX.out] at hFM
        have hcap : (i : Int) ≤ (cap2 : Int) ∧ cap2 ≤ 9223372036854775807 := by
          rcases ho.2 with ⟨e, _⟩ | ⟨g, c, cur, e, _, _, h1, h2, _⟩
          · simp at e
          · simp only [Value.slice.injEq] at e
            obtain ⟨_, _, rfl⟩ := e
            unfold maxLen at h2
            exact ⟨by omega, by omega⟩
        obtain ⟨hcap1, hcap2⟩ := hcap
        have hZ1 : Z5 (w4.setCell ⟨vb, 4, none⟩ (.slice (some ⟨gb, 0, none⟩) i cap2)) (vb + 1) := hZ4.grown (grown_setCell _ vb 4 _) (by simp)
        have hrd := hide (ypt_reads hZ1 (.int .i64 k) (.int .i64 n) (.float .f64 r) (.string (bstr t)) (.slice (some ⟨gb, 0, none⟩) i cap2))
        have hbf : Hid (Below w.heap.size w (ypt (w4.setCell ⟨vb, 4, none⟩ (.slice (some ⟨gb, 0, none⟩) i cap2)) (vb + 1) (.int .i64 k) (.int .i64 n) (.float .f64 r) (.string (bstr t)) (.slice (some ⟨gb, 0, none⟩) i cap2))) := by
          have hp : w.heap.size ≤ vb := by have := hvb.out; omega
          have hp1 : w.heap.size ≤ vb + 1 := by omega
          unfold ypt
          exact ybelow_set (ybelow_set (ybelow_set (ybelow_set (ybelow_set (ybelow_set hB4.out hp _) hp1 _) hp1 _) hp1 _) hp1 _) hp1 _
        have hfa : Hid (FarM (ypt (w4.setCell ⟨vb, 4, none⟩ (.slice (some ⟨gb, 0, none⟩) i cap2)) (vb + 1) (.int .i64 k) (.int .i64 n) (.float .f64 r) (.string (bstr t)) (.slice (some ⟨gb, 0, none⟩) i cap2)) w.heap.size (.agg #[.int .i64 k, .int .i64 n, .float .f64 r, .string (bstr t), .slice (some ⟨gb, 0, none⟩) i cap2]) X) := by
          refine FarM.grow hFM (fun b b1 b2 => ?_) ?_ (by have := hvb.out; omega)
          · exact ((ypt_block (w4.setCell ⟨vb, 4, none⟩ (.slice (some ⟨gb, 0, none⟩) i cap2)) (vb + 1) _ _ _ _ _).block b (by simpa using b2) (by simp; omega)).trans (heap_setCell_other _ _ _ _ (by simp; omega))
          · have := (ypt_block (w4.setCell ⟨vb, 4, none⟩ (.slice (some ⟨gb, 0, none⟩) i cap2)) (vb + 1) (.int .i64 k) (.int .i64 n) (.float .f64 r) (.string (bstr t)) (.slice (some ⟨gb, 0, none⟩) i cap2)).size
            simpa using this
        obtain ⟨q0, q1, q2, q3, q4⟩ := hQ4.c
        have qf := hQ4.f 4
        obtain ⟨z0', z1', z2', z3', z4'⟩ := hZ4.c
        have f0 := hZ4.f 0
        have f1 := hZ4.f 1
        have f2 := hZ4.f 2
        have f3 := hZ4.f 3
        have f4 := hZ4.f 4
        clear c0 c1 c2 c3 c4 ho ho' hg4 hg3 hat hlt hsame hFM htk C1 C2 C3 C4 C6 hQ4 hZ4 hZ1 z2 z3 z4
        go_wp2_with fail
        show bodyPost _ _ _ _ _ (ypt (w4.setCell ⟨vb, 4, none⟩ (.slice (some ⟨gb, 0, none⟩) i cap2)) (vb + 1) (.int .i64 k) (.int .i64 n) (.float .f64 r) (.string (bstr t)) (.slice (some ⟨gb, 0, none⟩) i cap2))
        obtain ⟨w5, hw5⟩ : ∃ w5, Hid (ypt (w4.setCell ⟨vb, 4, none⟩ (.slice (some ⟨gb, 0, none⟩) i cap2)) (vb + 1) (.int .i64 k) (.int .i64 n) (.float .f64 r) (.string (bstr t)) (.slice (some ⟨gb, 0, none⟩) i cap2) = w5) := ⟨_, rfl⟩
        rw [hw5.out] at hrd hbf hfa ⊢
        obtain ⟨k0, k1, k2, k3, k4⟩ := hrd.out
        refine bodyPost_ret (by simp [results, Tryz.results7, go_sem, k0, k1, k2, k3, k4]; rfl) rfl ?_
        exact ⟨_, rfl, hfa.out, hbf.out⟩
      · have i1 : (i : Int) < (N : Int) := by omega
        have hil : i < l.length := by rw [hN.out]; omega
        obtain ⟨bb, off, d0, d1, d2, d3, d4, rfl, g0, g1, g2, g3, g4, hvi⟩ := IsL.get h6.out i hil
        rw [Nat.zero_add] at g0 g1 g2 g3 g4
        have cell : ∀ o c, w.cell? ⟨bb, o, none⟩ = some c → wr.cell? ⟨bb, o, none⟩ = some c := fun o c hc => (hC.1.cell (lt_of_cell hc)).trans hc
        replace g0 := cell _ _ g0
        replace g1 := cell _ _ g1
        replace g2 := cell _ _ g2
        replace g3 := cell _ _ g3
        replace g4 := cell _ _ g4
        have hna := nL_at l i hil
        have hcall := hide (ih.out l[i] (List.getElem_mem hil) wr _ (hvi.below (hC.1)) (by have := hs.out; omega))
        replace hC := hide hC
        clear cell hvi hna hQ hown
        go_wp2_with fail
        refine hcall.out.mono ?_
        rintro e w1 ⟨cv, rfl, hF, hb1⟩
        obtain ⟨xk, xn, xr, xt, xo, xm, xc, rfl⟩ := isV_parts (hF.mkV.isV _ _)
        have hG := hide (hC.out.2.2.2.2.keep (w' := w1) (fun b _ h2 => hb1.block b h2) hb1.size)
        have hown := hide hG.out.own
        rw [hal.out] at hown
        have hs1 := hide hb1.size
        have hob : Hid (∀ k, Value.ownBlock (.slice vo i vc) = some k → k < wr.heap.size) := fun k e => (hC.out.2.2.2.2.own.lt k e).2
        replace hF := hide hF
        replace hb1 := hide hb1
        clear c0 c1 c2 c3 c4 g0 g1 g2 g3 g4 hcall
        go_wp2_with (at_builtin; refine wpList_append_lies _ rfl (.tmp 12) (.tmp 19) 22 rfl (vb + 2) 35 i0 zeroA 5 64 Tryz.underlying22 hi.out hz0.out hz1.out hz2.out rfl (by decide) _ i xs rfl (hown.out.alloc _) ⟨w1.heap.size, 0, none⟩ 1 1 [.int .i64 xk, .int .i64 xn, .float .f64 xr, .string xt, .slice xo xm xc] rfl rfl (five_news w1 _ _ _ _ _ _) (by intro u hu; simp at hu; rcases hu with rfl | rfl | rfl | rfl | rfl <;> rfl) (by omega) (by unfold maxLen; omega) (by omega) (by have := hsr.out; have := hs1.out; simp; omega) (w1.heap.size + 1) (by simp) ?_)
        intro gb cap2 w4 ho hg4 hat hlt
        have hmore : Hid (∃ xs', TAt w w4 vb k n r t (some ⟨bb, off, none⟩) N cap l (.slice (some ⟨gb, 0, none⟩) (i + 1) cap2) (i + 1) xs') := by
          obtain ⟨C1, C2, C3, C4, C6⟩ := hC.out
          have hg3 : w1.grownBy (w1.alloc (.cells #[.int .i64 xk, .int .i64 xn, .float .f64 xr, .string xt, .slice xo xm xc] 35)) none := World.grownBy_alloc _ _ none
          have z1 := hs1.out
          have z2 := hsr.out
          have z4 := hg4.size
          have z3 := hg3.size
          have hsame : ∀ b, b < vb + 2 → w4.heap[b]? = wr.heap[b]? := fun b hb =>
            ((hg4.block b (by omega) (fun e => by have := (C6.own.lt b e.symm).1; omega)).trans (hg3.block b (by omega) (by simp))).trans (hb1.out.block b (by omega))
          have hB4 : Below w.heap.size w w4 := ⟨(hg4.os.trans (hg3.os.trans hb1.out.os)).trans C1.os, (hg4.tape.trans (hg3.tape.trans hb1.out.tape)).trans C1.tape, (hg4.output.trans (hg3.output.trans hb1.out.output)).trans C1.output, by have := C1.size; omega, fun b hb => (hsame b (by omega)).trans (C1.block b hb)⟩
          have ho' : w4.ownsRow (vb + 2) 35 5 (.slice (some ⟨gb, 0, none⟩) ((l.take i).length + 1) cap2) ((l.take i).length + 1) (xs ++ [.int .i64 xk, .int .i64 xn, .float .f64 xr, .string xt, .slice xo xm xc]) := by rw [hal.out]; exact ho
          have hgl := hG.out.more hF.out z2 hob.out hg3 ho' hg4 (by simpa using hat)
          rw [hal.out] at hgl
          refine ⟨xs ++ [.int .i64 xk, .int .i64 xn, .float .f64 xr, .string xt, .slice xo xm xc], hB4, C2, ?_, ?_, ?_⟩
          · show _ = _
            rw [hsame vb (by omega)]; exact C3
          · show _ = _
            rw [hsame (vb + 1) (by omega)]; exact C4
          · rw [List.take_succ_eq_append_getElem hil]
            exact hgl
        clear ho hg4 hat hlt
        go_wp2_with fail
        go_roundw
        case rel => exact ⟨i + 1, by omega, by go_num, hmore.out⟩
        case measure => simp [intOf]; omega
#print axioms twin_any
end Go.Proofs.YtpfnkkkfekhngaaGreatDoor.Va

/-
  The document's own keys: bytes put behind own ones, where all else stands; eight bytes.
-/
namespace Go.Proofs.YtpfnkkkfekhngaaGreatDoor.Va
open Go.RowKit Go.Proofs.YtpfnkkkfekhngaaGreatDoor.Rl
set_option maxRecDepth 100000
set_option linter.unusedVariables false

/-- What putting bytes behind own ones comes to: only the row that was there turns. -/
def PutQ (base : Nat) (w : World) (b : Value) (l : List UInt8) (v' : Value) (w' : World) : Prop :=
  w'.ownsRow base 5 1 v' l.length (bvals l) ∧ w.grownBy w' b.ownBlock ∧ (v'.ownBlock = b.ownBlock ∨ ∃ g, v'.ownBlock = some g ∧ w.heap.size ≤ g)
theorem PutQ.refl {base : Nat} {w : World} {b : Value} {l : List UInt8} (h : w.ownsRow base 5 1 b l.length (bvals l)) : PutQ base w b l b w := ⟨h, ⟨rfl, rfl, rfl, Nat.le_refl _, fun _ _ _ => rfl⟩, Or.inl rfl⟩
theorem PutQ.trans {base : Nat} {w w1 w2 : World} {b v1 v2 : Value} {l m : List UInt8} (h : PutQ base w b l v1 w1) (h2 : PutQ base w1 v1 m v2 w2) : PutQ base w b m v2 w2 := by
  obtain ⟨a1, a2, a3⟩ := h
  obtain ⟨c1, c2, c3⟩ := h2
  have z := a2.size
  refine ⟨c1, ⟨c2.os.trans a2.os, c2.tape.trans a2.tape, c2.output.trans a2.output, by have := c2.size; omega, fun k hk hne => ?_⟩, ?_⟩
  · have hk1 : some k ≠ v1.ownBlock := by
      rcases a3 with h | ⟨g, h, hg⟩
      · rw [h]; exact hne
      · rw [h]; simp; omega
    rw [c2.block k (by omega) hk1]; exact a2.block k hk hne
  · rcases c3 with h | ⟨g, h, hg⟩
    · rw [h]; exact a3
    · exact Or.inr ⟨g, h, by omega⟩
theorem PutQ.box {base : Nat} {w w' : World} {o : Obj} {b v : Value} {l : List UInt8} (h : PutQ base (w.alloc o) b l v w') : PutQ base w b l v w' := by
  obtain ⟨a1, a2, a3⟩ := h
  refine ⟨a1, ⟨a2.os, a2.tape, a2.output, by have := a2.size; simp at this; omega, fun k hk hne => ?_⟩, ?_⟩
  · rw [a2.block k (by simp; omega) hne]; exact heap_alloc_old _ _ hk
  · rcases a3 with h | ⟨g, h, hg⟩
    · exact Or.inl h
    · exact Or.inr ⟨g, h, by simp at hg; omega⟩
theorem PutQ.below {base : Nat} {w w' : World} {b v : Value} {l m : List UInt8} (h : PutQ base w b l v w') (ho : w.ownsRow base 5 1 b m.length (bvals m)) (hb : base ≤ w.heap.size) : Below base w w' :=
  ⟨h.2.1.os, h.2.1.tape, h.2.1.output, h.2.1.size, fun k hk => h.2.1.block k (by omega) (fun e => by have := (ho.lt k e.symm).1; omega)⟩
/-- append(s, x...), s the call's own bytes l, x a slice of bytes m. -/
theorem wpList_put {P : Program} {w : World} {ops : Array Oper} {rest : List Oper} {o : Oper} {a : Act} {Q : Exit → Act → World → Prop} (hgd : o.guard = none) (s x : Operand) (t : TypeId)
    (ho : o.op = .call { callee := .builtin .append, args := #[s, x], argTypes := #[t, t] })
    (base : Nat) (hinf : (P.info? 5).map (fun i => (i.zero, i.size, i.bytes)) = some (some (.int .u8 0), 1, 1)) (ht : P.underlying t = some (.slice 5))
    (v vx : Value) (l m : List UInt8) (hs : a.eval s = v) (hown : w.ownsRow base 5 1 v l.length (bvals l)) (hx : a.eval x = vx) (hsl : Sl w vx m)
    (hbytes : l.length + m.length ≤ 140737488355328) (hbase : base ≤ w.heap.size)
    (h : ∀ v' w', PutQ base w v (l ++ m) v' w' → wpList P ops Q rest (a.put o.dst v') w') : wpList P ops Q (o :: rest) a w := by
  obtain ⟨i0, hi, hz0, hz1, hz2⟩ := info_parts hinf
  obtain ⟨ao, cap, rfl, h2, h3, h4, h5⟩ := hsl
  cases ao with
  | none =>
    obtain ⟨rfl, rfl⟩ := h2 rfl
    refine wpList_append_own_none hgd s x t ho base _ i0 1 ht hi v l.length (bvals l) hs hown hx ?_
    exact h v w (PutQ.refl (by simpa using hown))
  | some ad =>
    have hcells : ∀ j u, (bvals m)[j]? = some u → w.cell? (ad.add j) = some u := by
      intro j u hu
      have hj : j < m.length := by
        have := (List.getElem?_eq_some_iff.1 hu).1
        simpa [bvals] using this
      obtain ⟨b, off, e1, hc⟩ := h5 j hj
      simp only [Option.some.injEq] at e1
      subst e1
      rw [bvals_get hj] at hu
      simp only [Option.some.injEq] at hu
      subst hu
      have ea : (⟨b, off, none⟩ : Addr).add j = ⟨b, off + j, none⟩ := by
        unfold Addr.add; split <;> simp_all
      rw [ea]; exact hc
    refine wpList_append_own_at w hgd s x t ho base _ i0 (.int .u8 0) 1 1 ht hi hz0 hz1 hz2 rfl (by decide) v l.length (bvals l) hs hown ad m.length cap (bvals m) hx (by simp [bvals]) hcells ?_ (by unfold maxLen; omega) (by omega) hbase ?_
    · intro u hu
      simp only [bvals, List.mem_map] at hu
      obtain ⟨c, _, rfl⟩ := hu
      rfl
    · intro v' w' ho' hg _ hat
      refine h v' w' ⟨?_, hg, ?_⟩
      · rw [List.length_append, bvals_append]
        exact ho'
      · rcases hat with h | h
        · exact Or.inl h
        · exact Or.inr ⟨_, h, Nat.le_refl _⟩
set_option maxHeartbeats 2000000 in
theorem refBig_any (w : World) (base : Nat) (b : Value) (l : List UInt8) (n : Nat) (hn : n < 18446744073709551616) (hbase : base ≤ w.heap.size)
    (hown : w.ownsRow base 5 1 b l.length (bvals l)) (hlen : l.length + 8 ≤ 140737488355328) :
    Calls Tryz.prog 44 #[b, .int .u64 (n : Int)] w fun e w' => ∃ v', e = .returned v' ∧ PutQ base w b (l ++ bigN 8 n) v' w' := by
  replace hown : Hid (w.ownsRow base 5 1 b l.length (bvals l)) := hown
  have hn' : Hid (n < 18446744073709551616) := hn
  clear hn
  go_enter Tryz.func44, Tryz.ntmps44
  go_wp2_with fail
  go_loopw [0, 5] (fun v x wr => ∃ (j : Nat) (d : List UInt8), j ≤ 8 ∧ x = .int .i64 ((j : Int) - 1) ∧ Hid (bigN 8 n = d ++ bigN j (n % 256 ^ j) ∧ d.length + j = 8) ∧ Hid (PutQ base w b (l ++ d) v wr)) (fun _ x _ => (intOf x + 1).toNat)
  case atStart => exact ⟨8, [], by omega, rfl, ⟨by rw [Nat.mod_eq_of_lt (by have := hn'.out; omega)]; rfl, rfl⟩, PutQ.refl (by simpa using hown.out)⟩
  case round =>
    obtain ⟨j, d, hj, rfl, hd, hw⟩ := hrel
    clear hown
    by_cases h0 : j = 0
    · subst h0
      have hd2 : Hid (d = bigN 8 n) := by show _ = _; rw [hd.out.1, bigN, List.append_nil]
      rename Value => v0
      go_wp2_with fail
      go_ret
      rw [← hd2.out]
      exact ⟨_, rfl, hw.out⟩
    · obtain ⟨i, rfl⟩ : ∃ i, j = i + 1 := ⟨j - 1, by omega⟩
      have hd3 : Hid (bigN 8 n = (d ++ [UInt8.ofNat (n / 256 ^ i)]) ++ bigN i (n % 256 ^ i) ∧ (d ++ [UInt8.ofNat (n / 256 ^ i)]).length + i = 8) := by
        refine ⟨by rw [hd.out.1, big_step]; simp, ?_⟩
        have := hd.out.2
        simp; omega
      have hdl : d.length ≤ 7 := by have := hd.out.2; omega
      have hsz := hw.out.2.1.size
      have hcases : i = 0 ∨ i = 1 ∨ i = 2 ∨ i = 3 ∨ i = 4 ∨ i = 5 ∨ i = 6 ∨ i = 7 := by omega
      rcases hcases with rfl | rfl | rfl | rfl | rfl | rfl | rfl | rfl
      · go_wp2_with (at_builtin; refine wpList_put rfl (.tmp 10) (.tmp 16) 40 rfl base Tryz.infoU8 Tryz.underlying40 _ _ (l ++ d) [UInt8.ofNat (n / 256 ^ 0)] rfl (hw.out.1.alloc _) rfl (Sl.one _ _ _ _ (by rw [← byte_is]; simp)) (by simp; omega) (by simp; omega) ?_)
        intro v' w1 hp
        have hq : Hid (PutQ base w b (l ++ (d ++ [UInt8.ofNat (n / 256 ^ 0)])) v' w1) := by
          have := hw.out.trans hp.box
          show PutQ ..
          simpa using this
        clear hp hd
        go_wp2_with fail
        go_roundw
        case rel => exact ⟨0, _, by omega, by go_num, hd3.out, hq.out⟩
        case measure => simp [intOf]
      · go_wp2_with (at_builtin; refine wpList_put rfl (.tmp 10) (.tmp 16) 40 rfl base Tryz.infoU8 Tryz.underlying40 _ _ (l ++ d) [UInt8.ofNat (n / 256 ^ 1)] rfl (hw.out.1.alloc _) rfl (Sl.one _ _ _ _ (by rw [← byte_is]; simp)) (by simp; omega) (by simp; omega) ?_)
        intro v' w1 hp
        have hq : Hid (PutQ base w b (l ++ (d ++ [UInt8.ofNat (n / 256 ^ 1)])) v' w1) := by
          have := hw.out.trans hp.box
          show PutQ ..
          simpa using this
        clear hp hd
        go_wp2_with fail
        go_roundw
        case rel => exact ⟨1, _, by omega, by go_num, hd3.out, hq.out⟩
        case measure => simp [intOf]
      · go_wp2_with (at_builtin; refine wpList_put rfl (.tmp 10) (.tmp 16) 40 rfl base Tryz.infoU8 Tryz.underlying40 _ _ (l ++ d) [UInt8.ofNat (n / 256 ^ 2)] rfl (hw.out.1.alloc _) rfl (Sl.one _ _ _ _ (by rw [← byte_is]; simp)) (by simp; omega) (by simp; omega) ?_)
        intro v' w1 hp
        have hq : Hid (PutQ base w b (l ++ (d ++ [UInt8.ofNat (n / 256 ^ 2)])) v' w1) := by
          have := hw.out.trans hp.box
          show PutQ ..
          simpa using this
        clear hp hd
        go_wp2_with fail
        go_roundw
        case rel => exact ⟨2, _, by omega, by go_num, hd3.out, hq.out⟩
        case measure => simp [intOf]
      · go_wp2_with (at_builtin; refine wpList_put rfl (.tmp 10) (.tmp 16) 40 rfl base Tryz.infoU8 Tryz.underlying40 _ _ (l ++ d) [UInt8.ofNat (n / 256 ^ 3)] rfl (hw.out.1.alloc _) rfl (Sl.one _ _ _ _ (by rw [← byte_is]; simp)) (by simp; omega) (by simp; omega) ?_)
        intro v' w1 hp
        have hq : Hid (PutQ base w b (l ++ (d ++ [UInt8.ofNat (n / 256 ^ 3)])) v' w1) := by
          have := hw.out.trans hp.box
          show PutQ ..
          simpa using this
        clear hp hd
        go_wp2_with fail
        go_roundw
        case rel => exact ⟨3, _, by omega, by go_num, hd3.out, hq.out⟩
        case measure => simp [intOf]
      · go_wp2_with (at_builtin; refine wpList_put rfl (.tmp 10) (.tmp 16) 40 rfl base Tryz.infoU8 Tryz.underlying40 _ _ (l ++ d) [UInt8.ofNat (n / 256 ^ 4)] rfl (hw.out.1.alloc _) rfl (Sl.one _ _ _ _ (by rw [← byte_is]; simp)) (by simp; omega) (by simp; omega) ?_)
        intro v' w1 hp
        have hq : Hid (PutQ base w b (l ++ (d ++ [UInt8.ofNat (n / 256 ^ 4)])) v' w1) := by
          have := hw.out.trans hp.box
          show PutQ ..
          simpa using this
        clear hp hd
        go_wp2_with fail
        go_roundw
        case rel => exact ⟨4, _, by omega, by go_num, hd3.out, hq.out⟩
        case measure => simp [intOf]
      · go_wp2_with (at_builtin; refine wpList_put rfl (.tmp 10) (.tmp 16) 40 rfl base Tryz.infoU8 Tryz.underlying40 _ _ (l ++ d) [UInt8.ofNat (n / 256 ^ 5)] rfl (hw.out.1.alloc _) rfl (Sl.one _ _ _ _ (by rw [← byte_is]; simp)) (by simp; omega) (by simp; omega) ?_)
        intro v' w1 hp
        have hq : Hid (PutQ base w b (l ++ (d ++ [UInt8.ofNat (n / 256 ^ 5)])) v' w1) := by
          have := hw.out.trans hp.box
          show PutQ ..
          simpa using this
        clear hp hd
        go_wp2_with fail
        go_roundw
        case rel => exact ⟨5, _, by omega, by go_num, hd3.out, hq.out⟩
        case measure => simp [intOf]
      · go_wp2_with (at_builtin; refine wpList_put rfl (.tmp 10) (.tmp 16) 40 rfl base Tryz.infoU8 Tryz.underlying40 _ _ (l ++ d) [UInt8.ofNat (n / 256 ^ 6)] rfl (hw.out.1.alloc _) rfl (Sl.one _ _ _ _ (by rw [← byte_is]; simp)) (by simp; omega) (by simp; omega) ?_)
        intro v' w1 hp
        have hq : Hid (PutQ base w b (l ++ (d ++ [UInt8.ofNat (n / 256 ^ 6)])) v' w1) := by
          have := hw.out.trans hp.box
          show PutQ ..
          simpa using this
        clear hp hd
        go_wp2_with fail
        go_roundw
        case rel => exact ⟨6, _, by omega, by go_num, hd3.out, hq.out⟩
        case measure => simp [intOf]
      · go_wp2_with (at_builtin; refine wpList_put rfl (.tmp 10) (.tmp 16) 40 rfl base Tryz.infoU8 Tryz.underlying40 _ _ (l ++ d) [UInt8.ofNat (n / 256 ^ 7)] rfl (hw.out.1.alloc _) rfl (Sl.one _ _ _ _ (by rw [← byte_is]; simp)) (by simp; omega) (by simp; omega) ?_)
        intro v' w1 hp
        have hq : Hid (PutQ base w b (l ++ (d ++ [UInt8.ofNat (n / 256 ^ 7)])) v' w1) := by
          have := hw.out.trans hp.box
          show PutQ ..
          simpa using this
        clear hp hd
        go_wp2_with fail
        go_roundw
        case rel => exact ⟨7, _, by omega, by go_num, hd3.out, hq.out⟩
        case measure => simp [intOf]
#print axioms refBig_any
end Go.Proofs.YtpfnkkkfekhngaaGreatDoor.Va

/-
  The document's own keys: the plain kinds.
-/
namespace Go.Proofs.YtpfnkkkfekhngaaGreatDoor.Va
open Go.RowKit Go.Proofs.YtpfnkkkfekhngaaGreatDoor.Rl
set_option maxRecDepth 100000
set_option linter.unusedVariables false
set_option maxHeartbeats 2000000 in
theorem rkey1 (w : World) (base : Nat) (b : Value) (s : List UInt8) (n : Int) (r : Nat) (t : ByteArray) (ao : Option Addr) (m cap : Nat) (hbase : base ≤ w.heap.size) (hown : w.ownsRow base 5 1 b s.length (bvals s)) (hlen : s.length + 16 ≤ 140737488355328) :
    Calls Tryz.prog 34 #[b, .agg #[.int .i64 1, .int .i64 n, .float .f64 r, .string t, .slice ao m cap]] w fun e w' => ∃ v', e = .returned v' ∧ PutQ base w b (s ++ [1]) v' w' := by
  replace hown := hide hown
  go_enter Tryz.func34, Tryz.ntmps34
  go_wp2_with (at_builtin; refine wpList_put rfl (.tmp 7) (.tmp 11) 40 rfl base Tryz.infoU8 Tryz.underlying40 _ _ s [1] rfl ((hown.out.alloc _).alloc _) rfl (Sl.one _ _ _ _ rfl) (by simp; omega) (by simp; omega) ?_)
  intro v2 w2 hp
  have hp1 : Hid (PutQ base w b (s ++ [1]) v2 w2) := hp.box.box
  have hQ : Q5 w2 w.heap.size (.int .i64 1) (.int .i64 n) (.float .f64 r) (.string t) (.slice ao m cap) := by
    show _ = _
    rw [hp.box.2.1.block _ (by simp) (fun e => by have := (hown.out.lt _ e.symm).2; omega)]
    exact heap_alloc_new _ _
  obtain ⟨c0, c1, c2, c3, c4⟩ := hQ.c
  have hs2 : base ≤ w2.heap.size := by have := hp1.out.2.1.size; omega
  clear hp hQ
  go_wp2_with fail
  go_ret
  exact ⟨_, rfl, hp1.out⟩
set_option maxHeartbeats 2000000 in
theorem rkey2a (w : World) (base : Nat) (b : Value) (s : List UInt8) (r : Nat) (t : ByteArray) (ao : Option Addr) (m cap : Nat) (hbase : base ≤ w.heap.size) (hown : w.ownsRow base 5 1 b s.length (bvals s)) (hlen : s.length + 16 ≤ 140737488355328) :
    Calls Tryz.prog 34 #[b, .agg #[.int .i64 2, .int .i64 0, .float .f64 r, .string t, .slice ao m cap]] w fun e w' => ∃ v', e = .returned v' ∧ PutQ base w b (s ++ [2, 0]) v' w' := by
  replace hown := hide hown
  go_enter Tryz.func34, Tryz.ntmps34
  go_wp2_with (at_builtin; refine wpList_put rfl (.tmp 7) (.tmp 11) 40 rfl base Tryz.infoU8 Tryz.underlying40 _ _ s [2] rfl ((hown.out.alloc _).alloc _) rfl (Sl.one _ _ _ _ rfl) (by simp; omega) (by simp; omega) ?_)
  intro v2 w2 hp
  have hp1 : Hid (PutQ base w b (s ++ [2]) v2 w2) := hp.box.box
  have hQ : Q5 w2 w.heap.size (.int .i64 2) (.int .i64 0) (.float .f64 r) (.string t) (.slice ao m cap) := by
    show _ = _
    rw [hp.box.2.1.block _ (by simp) (fun e => by have := (hown.out.lt _ e.symm).2; omega)]
    exact heap_alloc_new _ _
  obtain ⟨c0, c1, c2, c3, c4⟩ := hQ.c
  have hs2 : base ≤ w2.heap.size := by have := hp1.out.2.1.size; omega
  clear hp hQ
  go_wp2_with (at_builtin; refine wpList_put rfl (.tmp 17) (.tmp 21) 40 rfl base Tryz.infoU8 Tryz.underlying40 _ _ (s ++ [2]) [0] rfl (hp1.out.1.alloc _) rfl (Sl.one _ _ _ _ rfl) (by simp; omega) (by simp; omega) ?_)
  intro v3 w3 hp
  have hp2 : Hid (PutQ base w b (s ++ [2, 0]) v3 w3) := by
    show PutQ ..
    simpa using hp1.out.trans hp.box
  clear hp
  go_wp2_with fail
  go_ret
  exact ⟨_, rfl, hp2.out⟩
set_option maxHeartbeats 2000000 in
theorem rkey2b (w : World) (base : Nat) (b : Value) (s : List UInt8) (r : Nat) (t : ByteArray) (ao : Option Addr) (m cap : Nat) (hbase : base ≤ w.heap.size) (hown : w.ownsRow base 5 1 b s.length (bvals s)) (hlen : s.length + 16 ≤ 140737488355328) :
    Calls Tryz.prog 34 #[b, .agg #[.int .i64 2, .int .i64 1, .float .f64 r, .string t, .slice ao m cap]] w fun e w' => ∃ v', e = .returned v' ∧ PutQ base w b (s ++ [2, 1]) v' w' := by
  replace hown := hide hown
  go_enter Tryz.func34, Tryz.ntmps34
  go_wp2_with (at_builtin; refine wpList_put rfl (.tmp 7) (.tmp 11) 40 rfl base Tryz.infoU8 Tryz.underlying40 _ _ s [2] rfl ((hown.out.alloc _).alloc _) rfl (Sl.one _ _ _ _ rfl) (by simp; omega) (by simp; omega) ?_)
  intro v2 w2 hp
  have hp1 : Hid (PutQ base w b (s ++ [2]) v2 w2) := hp.box.box
  have hQ : Q5 w2 w.heap.size (.int .i64 2) (.int .i64 1) (.float .f64 r) (.string t) (.slice ao m cap) := by
    show _ = _
    rw [hp.box.2.1.block _ (by simp) (fun e => by have := (hown.out.lt _ e.symm).2; omega)]
    exact heap_alloc_new _ _
  obtain ⟨c0, c1, c2, c3, c4⟩ := hQ.c
  have hs2 : base ≤ w2.heap.size := by have := hp1.out.2.1.size; omega
  clear hp hQ
  go_wp2_with (at_builtin; refine wpList_put rfl (.tmp 17) (.tmp 21) 40 rfl base Tryz.infoU8 Tryz.underlying40 _ _ (s ++ [2]) [1] rfl (hp1.out.1.alloc _) rfl (Sl.one _ _ _ _ rfl) (by simp; omega) (by simp; omega) ?_)
  intro v3 w3 hp
  have hp2 : Hid (PutQ base w b (s ++ [2, 1]) v3 w3) := by
    show PutQ ..
    simpa using hp1.out.trans hp.box
  clear hp
  go_wp2_with fail
  go_ret
  exact ⟨_, rfl, hp2.out⟩
set_option maxHeartbeats 2000000 in
theorem rkey3 (w : World) (base : Nat) (b : Value) (s : List UInt8) (n : Int) (r : Nat) (t : ByteArray) (ao : Option Addr) (m cap : Nat) (hbase : base ≤ w.heap.size) (hown : w.ownsRow base 5 1 b s.length (bvals s)) (hlen : s.length + 16 ≤ 140737488355328) (h0 : -9223372036854775808 ≤ n) (h1 : n ≤ 9223372036854775807) :
    Calls Tryz.prog 34 #[b, .agg #[.int .i64 3, .int .i64 n, .float .f64 r, .string t, .slice ao m cap]] w fun e w' => ∃ v', e = .returned v' ∧ PutQ base w b (s ++ 3 :: bigN 8 (n + 9223372036854775808).toNat) v' w' := by
  replace hown := hide hown
  go_enter Tryz.func34, Tryz.ntmps34
  go_wp2_with (at_builtin; refine wpList_put rfl (.tmp 7) (.tmp 11) 40 rfl base Tryz.infoU8 Tryz.underlying40 _ _ s [3] rfl ((hown.out.alloc _).alloc _) rfl (Sl.one _ _ _ _ rfl) (by simp; omega) (by simp; omega) ?_)
  intro v2 w2 hp
  have hp1 : Hid (PutQ base w b (s ++ [3]) v2 w2) := hp.box.box
  have hQ : Q5 w2 w.heap.size (.int .i64 3) (.int .i64 n) (.float .f64 r) (.string t) (.slice ao m cap) := by
    show _ = _
    rw [hp.box.2.1.block _ (by simp) (fun e => by have := (hown.out.lt _ e.symm).2; omega)]
    exact heap_alloc_new _ _
  obtain ⟨c0, c1, c2, c3, c4⟩ := hQ.c
  have hs2 : base ≤ w2.heap.size := by have := hp1.out.2.1.size; omega
  clear hp hQ
  have hx := top_xor h0 h1
  rw [← IntKind.wrap_u64] at hx
  have hm : Hid ((n + 9223372036854775808).toNat < 18446744073709551616) := by show _ < _; omega
  clear h0 h1
  obtain ⟨M, hm0⟩ : ∃ M, Hid ((n + 9223372036854775808).toNat = M) := ⟨_, rfl⟩
  rw [hm0.out] at hm hx
  have hce := hide (refBig_any w2 base v2 (s ++ [3]) M hm.out hs2 hp1.out.1 (by simp; omega))
  go_wp2_with fail
  refine hce.out.mono ?_
  rintro e w3 ⟨v3, rfl, hp⟩
  have hp2 : Hid (PutQ base w b (s ++ 3 :: bigN 8 (n + 9223372036854775808).toNat) v3 w3) := by
    show PutQ ..
    rw [hm0.out]
    simpa using hp1.out.trans hp
  clear hp hce
  go_wp2_with fail
  go_ret
  exact ⟨_, rfl, hp2.out⟩
set_option maxHeartbeats 2000000 in
theorem rkey4 (w : World) (base : Nat) (b : Value) (s : List UInt8) (n : Int) (r : Nat) (t : ByteArray) (ao : Option Addr) (m cap : Nat) (hbase : base ≤ w.heap.size) (hown : w.ownsRow base 5 1 b s.length (bvals s)) (hlen : s.length + 16 ≤ 140737488355328) (hr : r < 18446744073709551616) :
    Calls Tryz.prog 34 #[b, .agg #[.int .i64 4, .int .i64 n, .float .f64 r, .string t, .slice ao m cap]] w fun e w' => ∃ v', e = .returned v' ∧ PutQ base w b (s ++ 4 :: bigN 8 (keyB r)) v' w' := by
  replace hown := hide hown
  go_enter Tryz.func34, Tryz.ntmps34
  go_wp2_with (at_builtin; refine wpList_put rfl (.tmp 7) (.tmp 11) 40 rfl base Tryz.infoU8 Tryz.underlying40 _ _ s [4] rfl ((hown.out.alloc _).alloc _) rfl (Sl.one _ _ _ _ rfl) (by simp; omega) (by simp; omega) ?_)
  intro v2 w2 hp
  have hp1 : Hid (PutQ base w b (s ++ [4]) v2 w2) := hp.box.box
  have hQ : Q5 w2 w.heap.size (.int .i64 4) (.int .i64 n) (.float .f64 r) (.string t) (.slice ao m cap) := by
    show _ = _
    rw [hp.box.2.1.block _ (by simp) (fun e => by have := (hown.out.lt _ e.symm).2; omega)]
    exact heap_alloc_new _ _
  obtain ⟨c0, c1, c2, c3, c4⟩ := hQ.c
  have hs2 : base ≤ w2.heap.size := by have := hp1.out.2.1.size; omega
  clear hp hQ
  have hk := hide (refKey_any w2 r hr)
  have hkl : Hid (keyB r < 18446744073709551616) := keyB_lt hr
  obtain ⟨M, hm0⟩ : ∃ M, Hid (keyB r = M) := ⟨_, rfl⟩
  rw [hm0.out] at hk hkl
  have hce := hide (refBig_any w2 base v2 (s ++ [4]) M hkl.out hs2 hp1.out.1 (by simp; omega))
  clear hr
  go_wp2_with fail
  refine hk.out.mono ?_
  rintro e w3 ⟨rfl, hw3⟩
  subst w3
  go_wp2_with fail
  refine hce.out.mono ?_
  rintro e w3 ⟨v3, rfl, hp⟩
  have hp2 : Hid (PutQ base w b (s ++ 4 :: bigN 8 (keyB r)) v3 w3) := by
    show PutQ ..
    rw [hm0.out]
    simpa using hp1.out.trans hp
  clear hp hce
  go_wp2_with fail
  go_ret
  exact ⟨_, rfl, hp2.out⟩
#print axioms rkey4
end Go.Proofs.YtpfnkkkfekhngaaGreatDoor.Va

/-
  The document's own keys: texts and lists; Key.
-/
namespace Go.Proofs.YtpfnkkkfekhngaaGreatDoor.Va
open Go.RowKit Go.Proofs.YtpfnkkkfekhngaaGreatDoor.Rl
set_option maxRecDepth 100000
set_option linter.unusedVariables false
set_option maxHeartbeats 4000000 in
theorem rkey5 (w : World) (base : Nat) (b : Value) (s : List UInt8) (n : Int) (r : Nat) (t : List UInt8) (ao : Option Addr) (m cap : Nat) (hbase : base ≤ w.heap.size) (hown : w.ownsRow base 5 1 b s.length (bvals s)) (ht : t.length ≤ 65536) (hlen : s.length + 200000 ≤ 140737488355328) :
    Calls Tryz.prog 34 #[b, .agg #[.int .i64 5, .int .i64 n, .float .f64 r, .string (bstr t), .slice ao m cap]] w fun e w' => ∃ v', e = .returned v' ∧ PutQ base w b (s ++ 5 :: (esc t ++ [0, 1])) v' w' := by
  replace hown := hide hown
  obtain ⟨z, hs0⟩ : ∃ z, Hid (t.length = z) := ⟨_, rfl⟩
  have kbs : (bstr t).size = z := by rw [← hs0.out]; rfl
  rw [hs0.out] at ht
  go_enter Tryz.func34, Tryz.ntmps34
  go_wp2_with (at_builtin; refine wpList_put rfl (.tmp 7) (.tmp 11) 40 rfl base Tryz.infoU8 Tryz.underlying40 _ _ s [5] rfl ((hown.out.alloc _).alloc _) rfl (Sl.one _ _ _ _ rfl) (by simp; omega) (by simp; omega) ?_)
  intro v2 w2 hp
  have hp1 : Hid (PutQ base (w.alloc (.cells #[.int .i64 5, .int .i64 n, .float .f64 r, .string (bstr t), .slice ao m cap] 35)) b (s ++ [5]) v2 w2) := hp.box
  clear hp
  have hbx : Hid (∀ l v wr, PutQ base (w.alloc (.cells #[.int .i64 5, .int .i64 n, .float .f64 r, .string (bstr t), .slice ao m cap] 35)) b l v wr → Q5 wr w.heap.size (.int .i64 5) (.int .i64 n) (.float .f64 r) (.string (bstr t)) (.slice ao m cap)) := fun l v wr h => by
    show _ = _
    rw [h.2.1.block _ (by simp) (fun e => by have := (hown.out.lt _ e.symm).2; omega)]
    exact heap_alloc_new _ _
  have hsb : Hid (∀ l v wr, PutQ base (w.alloc (.cells #[.int .i64 5, .int .i64 n, .float .f64 r, .string (bstr t), .slice ao m cap] 35)) b l v wr → base ≤ wr.heap.size) := fun l v wr h => by have := h.2.1.size; simp at this; omega
  obtain ⟨c0, c1, c2, c3, c4⟩ := (hbx.out _ _ _ hp1.out).c
  go_wp2_with fail
  clear c0 c1 c2 c3 c4
  go_loopw [0, 5] (fun v x wr => ∃ i : Nat, i ≤ z ∧ x = .int .i64 (i : Int) ∧ Hid (PutQ base (w.alloc (.cells #[.int .i64 5, .int .i64 n, .float .f64 r, .string (bstr t), .slice ao m cap] 35)) b (s ++ 5 :: esc (t.take i)) v wr)) (fun _ x _ => z - (intOf x).toNat)
  case atStart => exact ⟨0, by omega, rfl, hp1.out⟩
  case round =>
    obtain ⟨i, hi, rfl, hw⟩ := hrel
    clear hp1
    have hsz := hsb.out _ _ _ hw.out
    obtain ⟨c0, c1, c2, c3, c4⟩ := (hbx.out _ _ _ hw.out).c
    have hel : (esc (t.take i)).length ≤ 2 * i := by
      have := esc_le2 (t.take i)
      have h2 : (t.take i).length ≤ i := by rw [List.length_take]; omega
      omega
    by_cases hin : i = z
    · have htk : t.take i = t := List.take_of_length_le (by have := hs0.out; omega)
      rw [htk] at hw hel
      subst hin
      go_wp2_with (at_builtin; refine wpList_put rfl (.tmp 62) (.tmp 63) 40 rfl base Tryz.infoU8 Tryz.underlying40 _ _ (s ++ 5 :: esc t) [0, 1] rfl (hw.out.1.alloc _) rfl (Sl.two _ _ _ _ _ _ rfl rfl) (by simp; omega) (by simp; omega) ?_)
      intro v3 w3 hp
      have hp2 : Hid (PutQ base w b (s ++ 5 :: (esc t ++ [0, 1])) v3 w3) := by
        show PutQ ..
        simpa using (hw.out.trans hp.box).box
      clear hp c0 c1 c2 c3 c4
      go_wp2_with fail
      go_ret
      exact ⟨_, rfl, hp2.out⟩
    · have hil : i < t.length := by have := hs0.out; omega
      have i1 : (i : Int) < (z : Int) := by omega
      have i2 : (0 : Int) ≤ (i : Int) := by omega
      obtain ⟨c, hc⟩ : ∃ c, Hid (t[i] = c) := ⟨t[i], rfl⟩
      have hix : ∀ h : i < (bstr t).size, (bstr t)[i] = c := fun h => by
        rw [← hc.out]
        show (bstr t).data[i] = _
        simp [bstr]
      have hstep : Hid (esc (t.take (i + 1)) = esc (t.take i) ++ esc [c]) := by
        show _ = _
        rw [List.take_succ_eq_append_getElem hil, esc_app, hc.out]
      go_wp2_with (at_builtin; refine wpList_put rfl (.tmp 47) (.tmp 52) 40 rfl base Tryz.infoU8 Tryz.underlying40 _ _ (s ++ 5 :: esc (t.take i)) [c] rfl (hw.out.1.alloc _) rfl (Sl.one _ _ _ _ rfl) (by simp; omega) (by simp; omega) ?_)
      intro v3 w3 hp
      have hq2 : Hid (PutQ base (w.alloc (.cells #[.int .i64 5, .int .i64 n, .float .f64 r, .string (bstr t), .slice ao m cap] 35)) b (s ++ 5 :: (esc (t.take i) ++ [c])) v3 w3) := by
        show PutQ ..
        simpa using hw.out.trans hp.box
      have hsz2 := hsb.out _ _ _ hq2.out
      clear hp c0 c1 c2 c3 c4 hw
      obtain ⟨c0, c1, c2, c3, c4⟩ := (hbx.out _ _ _ hq2.out).c
      by_cases hc0 : c = 0
      · subst hc0
        go_wp2_with (at_builtin; refine wpList_put rfl (.tmp 59) (.tmp 60) 40 rfl base Tryz.infoU8 Tryz.underlying40 _ _ (s ++ 5 :: (esc (t.take i) ++ [0])) [255] rfl (hq2.out.1.alloc _) rfl (Sl.one _ _ _ _ rfl) (by simp; omega) (by simp; omega) ?_)
        intro v4 w4 hp
        have hq3 : Hid (PutQ base (w.alloc (.cells #[.int .i64 5, .int .i64 n, .float .f64 r, .string (bstr t), .slice ao m cap] 35)) b (s ++ 5 :: esc (t.take (i + 1))) v4 w4) := by
          show PutQ ..
          rw [hstep.out]
          simpa [esc] using hq2.out.trans hp.box
        clear hp c0 c1 c2 c3 c4
        go_wp2_with fail
        go_roundw
        case rel => exact ⟨i + 1, by omega, by go_num, hq3.out⟩
        case measure => simp [intOf]; omega
      · have kc : ((c.toNat : Int) == 0) = false := by
          simp only [beq_eq_false_iff_ne, ne_eq]
          intro h
          exact hc0 (UInt8.toNat_inj.1 (by show c.toNat = 0; omega))
        have hq3 : Hid (PutQ base (w.alloc (.cells #[.int .i64 5, .int .i64 n, .float .f64 r, .string (bstr t), .slice ao m cap] 35)) b (s ++ 5 :: esc (t.take (i + 1))) v3 w3) := by
          show PutQ ..
          rw [hstep.out, show esc [c] = [c] by simp [esc, hc0]]
          exact hq2.out
        clear hc0
        go_wp2_with fail
        go_roundw
        case rel => exact ⟨i + 1, by omega, by go_num, hq3.out⟩
        case measure => simp [intOf]; omega
theorem okL_front : ∀ (l : List Val) (i d : Nat), okL d l = true → okL d (l.take i) = true
  | [], i, d, h => by rw [List.take_nil]; exact h
  | x :: r, 0, d, h => by rw [List.take_zero, okL]
  | x :: r, i + 1, d, h => by
    rw [okL, Bool.and_eq_true] at h
    rw [List.take_succ_cons, okL, Bool.and_eq_true]
    exact ⟨h.1, okL_front r i d h.2⟩
/-- What key owes. -/
def DoesK (x : Val) : Prop := ∀ (w0 w : World) (base : Nat) (b v : Value) (s : List UInt8) (d : Nat), IsV w0 v x → Below w0.heap.size w0 w → w0.heap.size ≤ base → base ≤ w.heap.size → wtV x → okV d x = true → w.ownsRow base 5 1 b s.length (bvals s) → szV x ≤ 65536 → s.length + 9 * szV x + 200000 ≤ 140737488355328 →
  Calls Tryz.prog 34 #[b, v] w fun e w' => ∃ v', e = .returned v' ∧ PutQ base w b (s ++ keyV x) v' w'
set_option maxHeartbeats 4000000 in
theorem rkey6 (w0 w : World) (base : Nat) (b : Value) (s : List UInt8) (n : Int) (r : Nat) (t : ByteArray) (ao : Option Addr) (l : List Val) (cap d : Nat) (ih : ∀ x ∈ l, DoesK x) (hb0 : Below w0.heap.size w0 w) (hw0 : w0.heap.size ≤ base) (hl : IsL w0 ao 0 l) (hok : okL d l = true) (hwt : wtL l) (hbase : base ≤ w.heap.size) (hown : w.ownsRow base 5 1 b s.length (bvals s)) (hsl : szL l ≤ 65535) (hlen : s.length + 9 * (1 + szL l) + 200000 ≤ 140737488355328) :
    Calls Tryz.prog 34 #[b, .agg #[.int .i64 6, .int .i64 n, .float .f64 r, .string t, .slice ao l.length cap]] w fun e w' => ∃ v', e = .returned v' ∧ PutQ base w b (s ++ 6 :: (keyL l ++ [0])) v' w' := by
  have hln := szL_len l
  obtain ⟨N, hN⟩ : ∃ N, Hid (l.length = N) := ⟨_, rfl⟩
  rw [hN.out] at hln ⊢
  have hn1 : N ≤ 65536 := by omega
  replace hown := hide hown
  replace hl := hide hl
  replace ih := hide ih
  replace hok := hide hok
  replace hwt := hide hwt
  replace hb0 := hide hb0
  have hsl' := hide hsl
  have hlen' := hide hlen
  have hlen2 : s.length + 100 ≤ 140737488355328 := by omega
  clear hln hsl hlen
  go_enter Tryz.func34, Tryz.ntmps34
  go_wp2_with (at_builtin; refine wpList_put rfl (.tmp 7) (.tmp 11) 40 rfl base Tryz.infoU8 Tryz.underlying40 _ _ s [6] rfl ((hown.out.alloc _).alloc _) rfl (Sl.one _ _ _ _ rfl) (by simp; omega) (by simp; omega) ?_)
  intro v2 w2 hp
  have hp1 : Hid (PutQ base (w.alloc (.cells #[.int .i64 6, .int .i64 n, .float .f64 r, .string t, .slice ao N cap] 35)) b (s ++ [6]) v2 w2) := hp.box
  clear hp
  have hbx : Hid (∀ l v wr, PutQ base (w.alloc (.cells #[.int .i64 6, .int .i64 n, .float .f64 r, .string t, .slice ao N cap] 35)) b l v wr → Q5 wr w.heap.size (.int .i64 6) (.int .i64 n) (.float .f64 r) (.string t) (.slice ao N cap)) := fun l v wr h => by
    show _ = _
    rw [h.2.1.block _ (by simp) (fun e => by have := (hown.out.lt _ e.symm).2; omega)]
    exact heap_alloc_new _ _
  have hsb : Hid (∀ l v wr, PutQ base (w.alloc (.cells #[.int .i64 6, .int .i64 n, .float .f64 r, .string t, .slice ao N cap] 35)) b l v wr → base ≤ wr.heap.size) := fun l v wr h => by have := h.2.1.size; simp at this; omega
  obtain ⟨c0, c1, c2, c3, c4⟩ := (hbx.out _ _ _ hp1.out).c
  go_wp2_with fail
  clear c0 c1 c2 c3 c4
  go_loopw [0, 6] (fun v x wr => ∃ i : Nat, i ≤ N ∧ x = .int .i64 (i : Int) ∧ Hid (PutQ base (w.alloc (.cells #[.int .i64 6, .int .i64 n, .float .f64 r, .string t, .slice ao N cap] 35)) b (s ++ 6 :: keyL (l.take i)) v wr)) (fun _ x _ => N - (intOf x).toNat)
  case atStart => exact ⟨0, by omega, rfl, by show PutQ ..; simpa [keyL] using hp1.out⟩
  case round =>
    obtain ⟨i, hi, rfl, hw⟩ := hrel
    clear hp1
    have hsz := hsb.out _ _ _ hw.out
    obtain ⟨c0, c1, c2, c3, c4⟩ := (hbx.out _ _ _ hw.out).c
    have i2 : (0 : Int) ≤ (i : Int) := by omega
    have hst := szL_split l i
    have hkl := keyL_le (l.take i) d (okL_front l i d hok.out)
    by_cases hin : i = N
    · have htk : l.take i = l := List.take_of_length_le (by have := hN.out; omega)
      rw [htk] at hw hkl
      have i1 : ¬ (i : Int) < (N : Int) := by omega
      have hkl2 : (keyL l).length + s.length + 100 ≤ 140737488355328 := by have := hlen'.out; omega
      replace hin := hide hin
      clear hst hkl
      go_wp2_with (at_builtin; refine wpList_put rfl (.tmp 81) (.tmp 82) 40 rfl base Tryz.infoU8 Tryz.underlying40 _ _ (s ++ 6 :: keyL l) [0] rfl (hw.out.1.alloc _) rfl (Sl.one _ _ _ _ rfl) (by simp; omega) (by simp; omega) ?_)
      intro v3 w3 hp
      have hp2 : Hid (PutQ base w b (s ++ 6 :: (keyL l ++ [0])) v3 w3) := by
        show PutQ ..
        simpa using (hw.out.trans hp.box).box
      clear hp c0 c1 c2 c3 c4
      go_wp2_with fail
      go_ret
      exact ⟨_, rfl, hp2.out⟩
    · have hil : i < l.length := by have := hN.out; omega
      have i1 : (i : Int) < (N : Int) := by omega
      obtain ⟨bb, off, d0, d1, d2, d3, d4, rfl, g0, g1, g2, g3, g4, hvi⟩ := IsL.get hl.out i hil
      rw [Nat.zero_add] at g0 g1 g2 g3 g4
      have hB : Below w0.heap.size w0 wr := hb0.out.trans ((((Below.refl _ _).alloc hbase _).trans (hw.out.below (hown.out.alloc _) (by simp; omega))).mono hw0)
      have cell : ∀ o c, w0.cell? ⟨bb, o, none⟩ = some c → wr.cell? ⟨bb, o, none⟩ = some c := fun o c hc => (hB.cell (lt_of_cell hc)).trans hc
      replace g0 := cell _ _ g0
      replace g1 := cell _ _ g1
      replace g2 := cell _ _ g2
      replace g3 := cell _ _ g3
      replace g4 := cell _ _ g4
      have hst2 := szL_split l (i + 1)
      rw [szL_take hil] at hst2
      have hcall := hide (ih.out l[i] (List.getElem_mem hil) w0 wr base _ _ (s ++ 6 :: keyL (l.take i)) d hvi hB hw0 hsz (wtL_at hwt.out i hil) (okL_at hok.out hil) hw.out.1 (by have := hsl'.out; omega) (by have := hlen'.out; simp; omega))
      clear cell hvi hst hst2 hB hkl
      go_wp2_with fail
      refine hcall.out.mono ?_
      rintro e w3 ⟨v3, rfl, hp⟩
      have hq3 : Hid (PutQ base (w.alloc (.cells #[.int .i64 6, .int .i64 n, .float .f64 r, .string t, .slice (some ⟨bb, off, none⟩) N cap] 35)) b (s ++ 6 :: keyL (l.take (i + 1))) v3 w3) := by
        show PutQ ..
        rw [keyL_take hil]
        simpa using hw.out.trans hp
      clear hp hcall c0 c1 c2 c3 c4 g0 g1 g2 g3 g4
      go_wp2_with fail
      go_roundw
      case rel => exact ⟨i + 1, by omega, by go_num, hq3.out⟩
      case measure => simp [intOf]; omega
theorem rkey_any (x : Val) : DoesK x := by
  induction x using Val.ind with
  | h k n r t l ih =>
    intro w0 w base b v s d hv hb0 hw0 hbase hw ho hown hs hlen
    obtain ⟨f1, f2, f3, f4, f5, f6, f7⟩ := ok_free ho
    obtain ⟨hk1, hk2, _⟩ := plain_of (okV_parts ho).1
    rw [szV] at hs hlen
    rw [wtV] at hw
    rw [IsV] at hv
    obtain ⟨ao, cap, rfl, h2, h3, h4, h5, h6⟩ := hv
    rw [keyV]
    have hcases : k = 1 ∨ k = 2 ∨ k = 3 ∨ k = 4 ∨ k = 5 ∨ k = 6 := by omega
    rcases hcases with rfl | rfl | rfl | rfl | rfl | rfl
    · exact rkey1 w base b s n r _ ao _ cap hbase hown (by omega)
    · obtain ⟨g1, g2⟩ := f5 rfl
      have hn : n = 0 ∨ n = 1 := by omega
      rcases hn with rfl | rfl
      · exact rkey2a w base b s r _ ao _ cap hbase hown (by omega)
      · exact rkey2b w base b s r _ ao _ cap hbase hown (by omega)
    · exact rkey3 w base b s n r _ ao _ cap hbase hown (by omega) hw.2.1.1 hw.2.1.2
    · exact rkey4 w base b s n r _ ao _ cap hbase hown (by omega) hw.2.2.1
    · exact rkey5 w base b s n r t ao _ cap hbase hown (by omega) (by omega)
    · exact rkey6 w0 w base b s n r _ ao l cap (d + 1) ih hb0 hw0 h6 f7 hw.2.2.2 hbase hown (by omega) (by omega)
#print axioms rkey_any
end Go.Proofs.YtpfnkkkfekhngaaGreatDoor.Va

/-
  The document's own Key.
-/
namespace Go.Proofs.YtpfnkkkfekhngaaGreatDoor.Va
open Go.RowKit Go.Proofs.YtpfnkkkfekhngaaGreatDoor.Rl
set_option maxRecDepth 100000
set_option linter.unusedVariables false
set_option maxHeartbeats 4000000 in
theorem refKey4_any : DoesKey 11 := by
  intro w v x hv hw
  obtain ⟨C, hC⟩ : ∃ C, Hid (keyO x = C) := ⟨_, rfl⟩
  obtain ⟨E, hE⟩ : ∃ E, Hid (errO x = E) := ⟨_, rfl⟩
  rw [hC.out, hE.out]
  obtain ⟨M, hM⟩ : ∃ M, Hid (mayV x = M) := ⟨_, rfl⟩
  have hv' := hide hv
  have hw' := hide hw
  have hdef := hv
  obtain ⟨X, hX⟩ : ∃ X, Hid (x = X) := ⟨_, rfl⟩
  obtain ⟨k, n, rr, t, l⟩ := x
  rw [IsV] at hdef
  obtain ⟨ao, cap, rfl, _⟩ := hdef
  rw [hX.out] at hv' hw' hM hC hE
  clear hv hw hX
  obtain ⟨vb, hvb⟩ : ∃ vb, Hid (w.heap.size = vb) := ⟨_, rfl⟩
  have hB0 : Hid (Below w.heap.size w (w.alloc (.cells #[.int .i64 k, .int .i64 n, .float .f64 rr, .string (bstr t), .slice ao l.length cap] 35))) := box_below w _
  have hQ0 : Hid (Q5 (w.alloc (.cells #[.int .i64 k, .int .i64 n, .float .f64 rr, .string (bstr t), .slice ao l.length cap] 35)) vb (.int .i64 k) (.int .i64 n) (.float .f64 rr) (.string (bstr t)) (.slice ao l.length cap)) := by show _ = _; rw [← hvb.out]; exact heap_alloc_new _ _
  have cm := hide (refMay_any (w.alloc (.cells #[.int .i64 k, .int .i64 n, .float .f64 rr, .string (bstr t), .slice ao l.length cap] 35)) _ X (hv'.out.below hB0.out))
  rw [hM.out] at cm
  go_enter Tryz.func11, Tryz.ntmps11
  go_wp2_with fail
  rw [hvb.out]
  refine cm.out.mono ?_
  rintro e w1 ⟨rfl, hb1⟩
  have hB : Hid (Below w.heap.size w w1) := hB0.out.trans (hb1.mono hB0.out.size)
  have hQ : Q5 w1 vb (.int .i64 k) (.int .i64 n) (.float .f64 rr) (.string (bstr t)) (.slice ao l.length cap) := by show _ = _; rw [hb1.block _ (heap_lt hQ0.out)]; exact hQ0.out
  clear cm hb1 hQ0 hB0
  cases M
  · have hEc : Hid (E = 1) := by show _ = _; rw [← hE.out, errO, hM.out]; rfl
    have hCc : Hid (C = []) := by show _ = _; rw [← hC.out, keyO, hM.out]; rfl
    clear hQ
    go_wp2_with fail
    go_returns
    rw [hEc.out, hCc.out]
    exact ⟨_, rfl, Sl.nil _, hB.out⟩
  · have hEc : Hid (E = 0) := by show _ = _; rw [← hE.out, errO, hM.out]; rfl
    have hCc : Hid (C = keyV X) := by show _ = _; rw [← hC.out, keyO, hM.out]; rfl
    obtain ⟨hok, hsz⟩ := may_parts hM.out
    have cc := hide (rkey_any X w w1 w1.heap.size (.slice none 0 0) _ [] 0 hv'.out hB.out hB.out.size (Nat.le_refl _) hw'.out hok (World.ownsRow_nil _ _ _ _) hsz (by simp; omega))
    obtain ⟨q0, q1, q2, q3, q4⟩ := hQ.c
    clear hQ hok hsz
    go_wp2_with fail
    refine cc.out.mono ?_
    rintro e w2 ⟨kv, rfl, hp⟩
    have hS : Hid (Sl w2 kv (keyV X)) := Sl.of_owns hp.1
    have hB2 : Hid (Below w.heap.size w w2) := hB.out.trans ((hp.below (m := []) (World.ownsRow_nil _ _ _ _) (Nat.le_refl _)).mono hB.out.size)
    clear q0 q1 q2 q3 q4 cc hp
    go_wp2_with fail
    go_returns
    rw [hEc.out, hCc.out]
    exact ⟨_, rfl, hS.out, hB2.out⟩
#print axioms refKey4_any
end Go.Proofs.YtpfnkkkfekhngaaGreatDoor.Va

/-
  The document's own Copy.
-/
namespace Go.Proofs.YtpfnkkkfekhngaaGreatDoor.Va
open Go.RowKit Go.Proofs.YtpfnkkkfekhngaaGreatDoor.Rl
set_option maxRecDepth 100000
set_option linter.unusedVariables false
set_option maxHeartbeats 4000000 in
theorem refCopy_any (w : World) (v : Value) (x : Val) (hv : IsV w v x) (hw : wtV x) : Calls Tryz.prog 9 #[v] w fun e w' => ∃ cv, e = .returned (.tuple #[cv, .int .i64 (errO x)]) ∧ IsV w' cv (copyO x) ∧ Below w.heap.size w w' := by
  have ksf : ∀ (w : World) (a : Addr) (x : Nat) (m : Mode), (store a (.float .f64 x) m).run Tryz.prog w = stored Tryz.prog w a (.float .f64 x) m := fun w a x m => run_store Tryz.prog w a _ m rfl
  obtain ⟨C, hC⟩ : ∃ C, Hid (copyO x = C) := ⟨_, rfl⟩
  obtain ⟨E, hE⟩ : ∃ E, Hid (errO x = E) := ⟨_, rfl⟩
  rw [hC.out, hE.out]
  obtain ⟨M, hM⟩ : ∃ M, Hid (mayV x = M) := ⟨_, rfl⟩
  have hv' := hide hv
  have hw' := hide hw
  have hdef := hv
  obtain ⟨X, hX⟩ : ∃ X, Hid (x = X) := ⟨_, rfl⟩
  obtain ⟨k, n, rr, t, l⟩ := x
  rw [IsV] at hdef
  obtain ⟨ao, cap, rfl, _⟩ := hdef
  rw [hX.out] at hv' hw' hM hC hE
  clear hv hw hX
  obtain ⟨vb, hvb⟩ : ∃ vb, Hid (w.heap.size = vb) := ⟨_, rfl⟩
  obtain ⟨r, hvr⟩ : ∃ r, Hid (w.heap.size + 1 = r) := ⟨_, rfl⟩
  have hB0 : Hid (Below w.heap.size w ((w.alloc (.cells #[.int .i64 k, .int .i64 n, .float .f64 rr, .string (bstr t), .slice ao l.length cap] 35)).alloc (.cells #[.int .i64 0, .int .i64 0, .float .f64 0, .string ⟨#[]⟩, .slice none 0 0] 35))) := (box_below w _).trans ((box_below (w.alloc _) _).mono (by simp))
  have hQ0 : Hid (Q5 ((w.alloc (.cells #[.int .i64 k, .int .i64 n, .float .f64 rr, .string (bstr t), .slice ao l.length cap] 35)).alloc (.cells #[.int .i64 0, .int .i64 0, .float .f64 0, .string ⟨#[]⟩, .slice none 0 0] 35)) vb (.int .i64 k) (.int .i64 n) (.float .f64 rr) (.string (bstr t)) (.slice ao l.length cap)) := by
    show _ = _
    rw [heap_alloc_old _ _ (by have := hvb.out; simp; omega), ← hvb.out]; exact heap_alloc_new _ _
  have hZ0 : Hid (Z5 ((w.alloc (.cells #[.int .i64 k, .int .i64 n, .float .f64 rr, .string (bstr t), .slice ao l.length cap] 35)).alloc (.cells #[.int .i64 0, .int .i64 0, .float .f64 0, .string ⟨#[]⟩, .slice none 0 0] 35)) r) := by
    show _ = _
    have := heap_alloc_new (w.alloc (.cells #[.int .i64 k, .int .i64 n, .float .f64 rr, .string (bstr t), .slice ao l.length cap] 35)) (.cells #[.int .i64 0, .int .i64 0, .float .f64 0, .string ⟨#[]⟩, .slice none 0 0] 35)
    rw [show (w.alloc (.cells #[.int .i64 k, .int .i64 n, .float .f64 rr, .string (bstr t), .slice ao l.length cap] 35)).heap.size = r by rw [World.size_alloc, hvr.out]] at this
    exact this
  have cm := hide (refMay_any ((w.alloc (.cells #[.int .i64 k, .int .i64 n, .float .f64 rr, .string (bstr t), .slice ao l.length cap] 35)).alloc (.cells #[.int .i64 0, .int .i64 0, .float .f64 0, .string ⟨#[]⟩, .slice none 0 0] 35)) _ X (hv'.out.below hB0.out))
  rw [hM.out] at cm
  go_enter Tryz.func9, Tryz.ntmps9
  go_wp2_with fail
  rw [hvr.out, hvb.out]
  refine cm.out.mono ?_
  rintro e w1 ⟨rfl, hb1⟩
  have hB : Hid (Below w.heap.size w w1) := hB0.out.trans (hb1.mono hB0.out.size)
  have hQ : Q5 w1 vb (.int .i64 k) (.int .i64 n) (.float .f64 rr) (.string (bstr t)) (.slice ao l.length cap) := by show _ = _; rw [hb1.block _ (heap_lt hQ0.out)]; exact hQ0.out
  have hz : Z5 w1 r := by show _ = _; rw [hb1.block _ (heap_lt hZ0.out)]; exact hZ0.out
  clear cm hb1 hQ0 hZ0 hB0
  cases M
  · have hEc : Hid (E = 1) := by show _ = _; rw [← hE.out, errO, hM.out]; rfl
    have hCc : Hid (C = zeroV) := by show _ = _; rw [← hC.out, copyO, hM.out]; rfl
    clear hQ
    obtain ⟨c0, c1, c2, c3, c4⟩ := hz.c
    have f0 := hz.f 0
    have f1 := hz.f 1
    have f2 := hz.f 2
    have f3 := hz.f 3
    have f4 := hz.f 4
    have hrd := hide (ypt_reads hz (.int .i64 0) (.int .i64 0) (.float .f64 0) (.string ⟨#[]⟩) (.slice none 0 0))
    have hbf : Hid (Below w.heap.size w (ypt w1 r (.int .i64 0) (.int .i64 0) (.float .f64 0) (.string ⟨#[]⟩) (.slice none 0 0))) := by
      have hp : w.heap.size ≤ r := by have := hvr.out; omega
      unfold ypt
      exact ybelow_set (ybelow_set (ybelow_set (ybelow_set (ybelow_set hB.out hp _) hp _) hp _) hp _) hp _
    clear hz
    go_wp2_with fail
    show bodyPost _ _ _ _ _ (ypt w1 r (.int .i64 0) (.int .i64 0) (.float .f64 0) (.string ⟨#[]⟩) (.slice none 0 0))
    obtain ⟨w5, hw5⟩ : ∃ w5, Hid ((ypt w1 r (.int .i64 0) (.int .i64 0) (.float .f64 0) (.string ⟨#[]⟩) (.slice none 0 0)) = w5) := ⟨_, rfl⟩
    rw [hw5.out] at hrd hbf ⊢
    obtain ⟨k0, k1, k2, k3, k4⟩ := hrd.out
    refine bodyPost_ret (by simp [results, Tryz.results9, go_sem, k0, k1, k2, k3, k4]; rfl) rfl ?_
    rw [hEc.out, hCc.out]
    exact ⟨zeroA, rfl, isV_zero _, hbf.out⟩
  · have hEc : Hid (E = 0) := by show _ = _; rw [← hE.out, errO, hM.out]; rfl
    have hCc : Hid (C = canonV X) := by show _ = _; rw [← hC.out, copyO, hM.out]; rfl
    have cc := hide (copied_any X w1 _ (hv'.out.below hB.out) hw'.out (may_parts hM.out).2)
    obtain ⟨q0, q1, q2, q3, q4⟩ := hQ.c
    replace hz' := hide hz
    clear hQ hz
    go_wp2_with fail
    refine cc.out.mono ?_
    rintro e w2 ⟨cv, rfl, hF, hb2⟩
    obtain ⟨xk, xn, xr, xt, xo, xm, xc, rfl⟩ := isV_parts hF.isV
    have hrl : r < w1.heap.size := heap_lt hz'.out
    have hz : Z5 w2 r := by show _ = _; rw [hb2.block _ hrl]; exact hz'.out
    have hfa : Hid (IsV (ypt w2 r (.int .i64 xk) (.int .i64 xn) (.float .f64 xr) (.string xt) (.slice xo xm xc)) (.agg #[.int .i64 xk, .int .i64 xn, .float .f64 xr, .string xt, .slice xo xm xc]) (canonV X)) := hF _ fun k k1 k2 => (ypt_block w2 r _ _ _ _ _).block k k2 (by simp; omega)
    replace hB : Hid (Below w.heap.size w w2) := hB.out.trans (hb2.mono hB.out.size)
    clear q0 q1 q2 q3 q4 cc hF hb2 hrl hz'
    obtain ⟨c0, c1, c2, c3, c4⟩ := hz.c
    have f0 := hz.f 0
    have f1 := hz.f 1
    have f2 := hz.f 2
    have f3 := hz.f 3
    have f4 := hz.f 4
    have hrd := hide (ypt_reads hz (.int .i64 xk) (.int .i64 xn) (.float .f64 xr) (.string xt) (.slice xo xm xc))
    have hbf : Hid (Below w.heap.size w (ypt w2 r (.int .i64 xk) (.int .i64 xn) (.float .f64 xr) (.string xt) (.slice xo xm xc))) := by
      have hp : w.heap.size ≤ r := by have := hvr.out; omega
      unfold ypt
      exact ybelow_set (ybelow_set (ybelow_set (ybelow_set (ybelow_set hB.out hp _) hp _) hp _) hp _) hp _
    clear hz
    go_wp2_with fail
    show bodyPost _ _ _ _ _ (ypt w2 r (.int .i64 xk) (.int .i64 xn) (.float .f64 xr) (.string xt) (.slice xo xm xc))
    obtain ⟨w5, hw5⟩ : ∃ w5, Hid ((ypt w2 r (.int .i64 xk) (.int .i64 xn) (.float .f64 xr) (.string xt) (.slice xo xm xc)) = w5) := ⟨_, rfl⟩
    rw [hw5.out] at hrd hbf hfa ⊢
    obtain ⟨k0, k1, k2, k3, k4⟩ := hrd.out
    refine bodyPost_ret (by simp [results, Tryz.results9, go_sem, k0, k1, k2, k3, k4]; rfl) rfl ?_
    rw [hEc.out, hCc.out]
    exact ⟨_, rfl, hfa.out, hbf.out⟩
#print axioms refCopy_any
end Go.Proofs.YtpfnkkkfekhngaaGreatDoor.Va

/-
  ValueAll: the Book and the Bytes beside each other, and what stands behind a Keep of either.
-/
namespace Go.Proofs.YtpfnkkkfekhngaaGreatDoor.Va
open Go.RowKit Go.Proofs.YtpfnkkkfekhngaaGreatDoor.Rl
set_option maxRecDepth 100000
set_option linter.unusedVariables false

/-- The Bytes so far. -/
def YK (w wr : World) (kk H : Nat) : Prop := w.heap.size ≤ kk ∧ ∃ its size, Kept wr w.heap.size kk its size ∧ Items wr w.heap.size its ∧ (∀ t ∈ its, t.1 < H)
theorem YK.below {w wr w' : World} {kk H : Nat} (h : YK w wr kk H) (hb : Below wr.heap.size wr w') : YK w w' kk H := by
  obtain ⟨h1, its, size, h2, h3, h4⟩ := h
  exact ⟨h1, its, size, h2.below hb, ⟨fun t ht => (h3.1 t ht).below hb, h3.2⟩, h4⟩
theorem YK.here {w wr : World} {kk H : Nat} (h : YK w wr kk H) : YK w wr kk wr.heap.size := by
  obtain ⟨h1, its, size, h2, h3, h4⟩ := h
  exact ⟨h1, its, size, h2, h3, fun t ht => (h3.1 t ht).lt⟩
theorem YK.fr {w wr w' : World} {kk H : Nat} (h : YK w wr kk H) (hf : Fr wr w') : YK w w' kk H := by
  obtain ⟨h1, its, size, h2, h3, h4⟩ := h
  exact ⟨h1, its, size, kept_fr h2 hf, items_fr h3 hf, h4⟩
theorem owns_bv {w w' : World} {base e n : Nat} {v : Value} {xs : List Value} {B : Nat} (h : w.ownsRow base e 1 v n xs) (hf : BV B w w') (h1 : e ≠ 35) : w'.ownsRow base e 1 v n xs := by
  refine ⟨h.1, ?_⟩
  rcases h.2 with g | ⟨g, cap, cur, a1, a2, a3, a4⟩
  · exact Or.inl g
  · exact Or.inr ⟨g, cap, cur, a1, a2, hf.d _ _ _ _ h1 a3, a4⟩
theorem YK.bv {w wr w' : World} {kk H B : Nat} (h : YK w wr kk H) (hf : BV B wr w') : YK w w' kk H := by
  obtain ⟨h1, its, size, ⟨vl, k1, k2, k3⟩, h3, h4⟩ := h
  refine ⟨h1, its, size, ⟨vl, hf.d _ _ _ _ (by decide) k1, owns_bv k2 hf (by decide), k3⟩, ⟨fun t ht => ?_, h3.2⟩, h4⟩
  obtain ⟨cur, c1, c2⟩ := h3.1 t ht
  exact ⟨cur, hf.d _ _ _ _ (by decide) c1, c2⟩
theorem YK.apart {w u : World} {kk H : Nat} (h : YK w u kk H) : Calls Tryz.prog 26 #[.pointer (some ⟨kk, 0, none⟩)] u fun e w' => e = .returned (.bool true) ∧ Below w.heap.size u w' := by
  obtain ⟨h1, its, size, h2, h3, h4⟩ := h
  exact apart_any u w.heap.size kk its size h2 h3
theorem YB.apartV {w u : World} {kb H : Nat} (h : YB w u kb H) : Calls Tryz.prog 25 #[.pointer (some ⟨kb, 0, none⟩)] u fun e w' => e = .returned (.bool true) ∧ BV w.heap.size u w' := by
  obtain ⟨h1, h2, its, h3, h4, h5, h6⟩ := h
  exact bapart_anyV u w.heap.size kb w.heap.size its h3 h4 h5 (fun t ht => (h6 t ht).1) h1.size
theorem YB.frT {w wr w' : World} {kb H : Nat} (h : YB w wr kb H) (hf : FrT wr w') (hb : Below w.heap.size wr w') : YB w w' kb H := by
  obtain ⟨h1, h2, its, h3, h4, h5, h6⟩ := h
  exact ⟨h1.trans hb, h2, its, bk_frT h3 hf, fun t ht => item_frT (h4 t ht) hf, h5, h6⟩
theorem C5.frT {w w' : World} {b : Nat} {a0 a1 a2 a3 a4 : Value} (h : C5 w b a0 a1 a2 a3 a4) (hf : FrT w w') : C5 w' b a0 a1 a2 a3 a4 := hf _ _ _ _ (by decide) (by decide) h
theorem C5.below {w w' : World} {b : Nat} {a0 a1 a2 a3 a4 : Value} (h : C5 w b a0 a1 a2 a3 a4) (hb : Below w.heap.size w w') : C5 w' b a0 a1 a2 a3 a4 := by
  show _ = _
  rw [hb.block b (heap_lt h)]; exact h
theorem MkV.fr {w w' : World} {v : Value} {x : Val} (h : MkV w v x) (hf : Fr w w') : MkV w' v x := MkV.typed (fun k cs e => hf _ _ _ _ (by decide) (by decide) e) x v h
theorem MkV.frT {w w' : World} {v : Value} {x : Val} (h : MkV w v x) (hf : FrT w w') : MkV w' v x := MkV.typed (fun k cs e => hf _ _ _ _ (by decide) (by decide) e) x v h
/-- Keep of two lists. -/
theorem YK.keeps {w U : World} {kk H lo1 lo2 : Nat} {v1 v2 : Value} {l1 l2 : List UInt8} (h : YK w U kk H) (o1 : U.ownsRow lo1 5 1 v1 l1.length (bvals l1)) (o2 : U.ownsRow lo2 5 1 v2 l2.length (bvals l2)) (g1 : l1.length ≤ 281474976710656) (g2 : l2.length ≤ 281474976710656)
    (hH : H ≤ lo1) (hw : w.heap.size ≤ lo1) (h12 : ∀ k, v1.ownBlock = some k → k < lo2) (hlo : lo1 ≤ lo2) (cc : Nat) :
    Calls Tryz.prog 20 #[.pointer (some ⟨kk, 0, none⟩), .slice (some ⟨U.heap.size, 0, none⟩) 2 cc] (U.alloc (.cells #[v1, v2] 40)) fun e w' => e = .returned (.tuple #[]) ∧ YK w w' kk w'.heap.size ∧ FrT U w' ∧ Below w.heap.size U w' := by
  obtain ⟨h1, its, size, h2, h3, h4⟩ := h
  obtain ⟨t1, rfl, q1⟩ := own_slv o1 g1
  obtain ⟨t2, rfl, q2⟩ := own_slv o2 g2
  have hb0 := box_below U (.cells #[slv t1, slv t2] 40)
  have hKU := h2.below hb0
  have nd : Items U w.heap.size (its ++ somes [t1, t2]) := by
    have m1 : ∀ t, t1 = some t → Own8 U w.heap.size t ∧ lo1 ≤ t.1 ∧ t.1 < lo2 := fun t e => ⟨(q1 t e).lower hw, by obtain ⟨_, _, _, _, _, _, l⟩ := q1 t e; exact l, h12 t.1 (by rw [e]; rfl)⟩
    have m2 : ∀ t, t2 = some t → Own8 U w.heap.size t ∧ lo2 ≤ t.1 := fun t e => ⟨(q2 t e).lower (by omega), by obtain ⟨_, _, _, _, _, _, l⟩ := q2 t e; exact l⟩
    refine ⟨fun t ht => ?_, ?_⟩
    · rcases List.mem_append.1 ht with ht | ht
      · exact h3.1 t ht
      · cases t1 <;> cases t2 <;> simp [somes] at ht
        · subst ht; exact (m2 _ rfl).1
        · subst ht; exact (m1 _ rfl).1
        · rcases ht with rfl | rfl
          · exact (m1 _ rfl).1
          · exact (m2 _ rfl).1
    · rw [List.map_append, List.nodup_append]
      refine ⟨h3.2, ?_, fun a ha b hb e => ?_⟩
      · cases t1 <;> cases t2 <;> simp [somes]
        have a1 := (m1 _ rfl).2.2
        have a2 := (m2 _ rfl).2
        omega
      · obtain ⟨s, hs, rfl⟩ := List.mem_map.1 ha
        obtain ⟨t, ht, rfl⟩ := List.mem_map.1 hb
        have l1 := h4 s hs
        cases t1 <;> cases t2 <;> simp [somes] at ht
        · subst ht; have := (m2 _ rfl).2; omega
        · subst ht; have := (m1 _ rfl).2.1; omega
        · rcases ht with rfl | rfl
          · have := (m1 _ rfl).2.1; omega
          · have := (m2 _ rfl).2; omega
  have hkl : kk < U.heap.size := by obtain ⟨vl, a, _⟩ := h2; exact heap_lt a
  refine (keep_any (U.alloc (.cells #[slv t1, slv t2] 40)) w.heap.size kk U.heap.size cc its size [t1, t2] hKU h1 (fun i hi => ?_) (fun t ht => ?_) (by omega) (by simp) (fun vl hv' => ?_)).mono ?_
  · have hb := heap_alloc_new U (.cells #[slv t1, slv t2] 40)
    have : i = 0 ∨ i = 1 := by simp at hi; omega
    rcases this with rfl | rfl <;> (unfold World.cell?; simp only [hb]; rfl)
  · simp at ht
    rcases ht with ht | ht
    · obtain ⟨_, _, _, _, a, b, _⟩ := q1 t ht.symm
      exact ⟨b, a⟩
    · obtain ⟨_, _, _, _, a, b, _⟩ := q2 t ht.symm
      exact ⟨b, a⟩
  · obtain ⟨vl', a, b, _⟩ := h2
    have hv2 : (U.alloc (.cells #[slv t1, slv t2] 40)).cell? ⟨kk, 0, none⟩ = some vl' := by
      rw [hb0.cell (p := ⟨kk, 0, none⟩) hkl]; unfold World.cell?; simp only [a]; rfl
    rw [hv2] at hv'
    simp only [Option.some.injEq] at hv'
    subst hv'
    intro e
    have := (b.lt _ e).2
    omega
  · rintro e w' ⟨rfl, its', size', k1, k2, k3⟩
    have hIU : Items (U.alloc (.cells #[slv t1, slv t2] 40)) w.heap.size (its ++ somes [t1, t2]) := ⟨fun x hx => (nd.1 x hx).below hb0, nd.2⟩
    have hI' : Items w' w.heap.size its' := Items.sub ⟨fun x hx => (hIU.1 x hx).frK (hKU.ne (hIU.1 x hx)) k3, hIU.2⟩ k2
    refine ⟨rfl, ⟨h1, its', size', k1, hI', fun t ht => (hI'.1 t ht).lt⟩, (FrT.of_below hb0).trans (FrT.of_frK k3 hKU), ?_⟩
    have hB : Below w.heap.size (U.alloc (.cells #[slv t1, slv t2] 40)) w' := ⟨k3.os, k3.tape, k3.output, k3.size, fun k hk => by
      by_cases e : k < (U.alloc (.cells #[slv t1, slv t2] 40)).heap.size
      · exact k3.block k e (by omega) (.inl hk)
      · simp at e; omega⟩
    exact (hb0.mono (by omega)).trans hB
#print axioms YK.keeps
end Go.Proofs.YtpfnkkkfekhngaaGreatDoor.Va

