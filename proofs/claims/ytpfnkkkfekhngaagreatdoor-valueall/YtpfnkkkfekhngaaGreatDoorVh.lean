/-
  Things made of values: maker.list over what maker.thing does of the list's values.
-/
import Derived.Test.YtpfnkkkfekhngaaGreatDoorVp
namespace Go.Proofs.YtpfnkkkfekhngaaGreatDoor.Va
open Go.RowKit Go.Proofs.YtpfnkkkfekhngaaGreatDoor.Rl
set_option maxRecDepth 100000

theorem szL_append : ∀ a b : List Val, szL (a ++ b) = szL a + szL b
  | [], b => by rw [List.nil_append, szL]; omega
  | x :: r, b => by rw [List.cons_append, szL, szL, szL_append r b]; omega
theorem okL_append (d : Nat) : ∀ a b : List Val, okL d (a ++ b) = (okL d a && okL d b)
  | [], b => by rw [List.nil_append, okL]; rfl
  | x :: r, b => by rw [List.cons_append, okL, okL, okL_append d r b, Bool.and_assoc]
theorem szL_take {l : List Val} {i : Nat} (h : i < l.length) : szL (l.take (i + 1)) = szL (l.take i) + szV l[i] := by
  rw [List.take_succ_eq_append_getElem h, szL_append, szL, szL]; omega
theorem okL_take {l : List Val} {i : Nat} (d : Nat) (h : i < l.length) : okL d (l.take (i + 1)) = (okL d (l.take i) && okV d l[i]) := by
  rw [List.take_succ_eq_append_getElem h, okL_append, okL, okL, Bool.and_true]
theorem szL_split (l : List Val) (i : Nat) : szL l = szL (l.take i) + szL (l.drop i) := by
  conv => lhs; rw [← List.take_append_drop i l, szL_append]
theorem okL_split (d : Nat) (l : List Val) (i : Nat) : okL d l = (okL d (l.take i) && okL d (l.drop i)) := by
  conv => lhs; rw [← List.take_append_drop i l, okL_append]
theorem szV_pos : ∀ x : Val, 1 ≤ szV x
  | .mk k n r t l => by rw [szV]; omega
theorem szL_len : ∀ l : List Val, l.length ≤ szL l
  | [] => by simp
  | x :: r => by have := szL_len r; have := szV_pos x; rw [szL, List.length_cons]; omega
/-- The five cells of a value have their shapes. -/
theorem IsV.cells {w : World} {e0 e1 e2 e3 e4 : Value} : ∀ {x : Val}, IsV w (.agg #[e0, e1, e2, e3, e4]) x → ∃ k n r t ao m c, e0 = .int .i64 k ∧ e1 = .int .i64 n ∧ e2 = .float .f64 r ∧ e3 = .string t ∧ e4 = .slice ao m c
  | .mk k n r t l, h => by
    rw [IsV] at h
    obtain ⟨ao, cap, e, _⟩ := h
    simp only [Value.agg.injEq, Array.mk.injEq, List.cons.injEq, and_true] at e
    exact ⟨k, n, r, _, ao, _, cap, e.1, e.2.1, e.2.2.1, e.2.2.2.1, e.2.2.2.2⟩
theorem infoT : (Tryz.prog.info? 56).map (fun i => (i.zero, i.size, i.bytes)) = some (some .nilIface, 1, 16) := by kernel_rfl
theorem make_things (n : Nat) (hn : n ≤ 65536) : ∃ C : Array Value, C.size = n ∧ ∀ u : World, (Instr.makeSlice 109 (.int .i64 (n : Int)) (.int .i64 (n : Int))).run Tryz.prog u = .ok (.slice (some ⟨u.heap.size, 0, none⟩) n n) (u.alloc (.cells C 56)) := by
  obtain ⟨i0, hi, hz0, hz1, hz2⟩ := info_parts infoT
  refine ⟨madeCells (Value.cells .nilIface) n, size_madeCells _ _, fun u => ?_⟩
  rw [run_make u 109 56 i0 .nilIface Tryz.underlying109 hi hz0 .i64 .i64 (n : Int) (n : Int) (by omega) (by omega) (by rw [hz2]; omega) (by omega), hz1]
  simp only [Int.toNat_natCast, Nat.mul_one]
theorem IsT.shape {S : Nat → Prop} {w : World} {v : Value} : ∀ {x : Val}, IsT S w v x → ∃ T u, v = .iface T u
  | .mk k n r t l, h => by
    rw [IsT] at h
    rcases h with ⟨_, h⟩ | ⟨_, h⟩ | ⟨_, h⟩ | ⟨_, h⟩ | ⟨_, h⟩ | ⟨_, ao, cap, h, _⟩ <;> exact ⟨_, _, h⟩
/-- What making a thing comes to. -/
def Made (mb : Nat) (L : Int) (ok : Bool) (sz : Nat) (w : World) (x : Val) (e : Ending) (w' : World) : Prop :=
  But mb w w' ∧ ∃ tv, e = .returned (.tuple #[tv, .bool ok]) ∧ (ok = false → tv = .nilIface) ∧ (ok = true → IsT (fun b => w.heap.size ≤ b) w' tv x ∧ Num w' mb 0 (L - sz))
def DoesThing (x : Val) : Prop := ∀ (w0 w : World) (v : Value) (mb : Nat) (L : Int) (d : Nat), IsV w0 v x → w0.heap.size ≤ mb → Below w0.heap.size w0 w → Num w mb 0 L → 0 ≤ L → L ≤ 65536 → d ≤ 8 →
  Calls Tryz.prog 42 #[.pointer (some ⟨mb, 0, none⟩), v, .int .i64 (d : Int)] w (Made mb L (okV d x && decide ((szV x : Int) ≤ L)) (szV x) w x)
/-- The things that lie in block tb so far. -/
def Row1 (w q : World) (mb : Nat) (L : Int) (d : Nat) (l : List Val) (i : Nat) : Prop :=
  But mb w q ∧ Num q mb 0 (L - szL (l.take i)) ∧ okL d (l.take i) = true ∧ (szL (l.take i) : Int) ≤ L ∧ ∃ T cs, q.heap[w.heap.size]? = some (.cells cs T (0, 0)) ∧ cs.size = l.length ∧ ∀ j (h : j < l.length), j < i → ∃ tv, cs[j]? = some tv ∧ IsT (fun b => w.heap.size < b) q tv l[j]
set_option maxHeartbeats 2000000 in
theorem list_any (l : List Val) (ih : ∀ x ∈ l, DoesThing x) (w0 w : World) (ao : Option Addr) (cap mb : Nat) (L : Int) (d : Nat) (hl : IsL w0 ao 0 l) (h2 : l.length ≤ cap) (h3 : cap ≤ maxLen) (hm : w0.heap.size ≤ mb) (hB : Below w0.heap.size w0 w) (hN : Num w mb 0 L) (hL0 : 0 ≤ L) (hL1 : L ≤ 65536) (hd : d ≤ 8) :
    Calls Tryz.prog 66 #[.pointer (some ⟨mb, 0, none⟩), .slice ao l.length cap, .int .i64 ((d + 1 : Nat) : Int)] w (Made mb L (decide (d < 8) && okL (d + 1) l && decide ((szL l : Int) ≤ L)) (szL l) w (.mk 6 0 0 [] l)) := by
  obtain ⟨n, hn⟩ : ∃ n, Hid (l.length = n) := ⟨_, rfl⟩
  rw [hn.out] at h2 ⊢
  have hlen : Hid (n ≤ szL l) := by show _ ≤ _; rw [← hn.out]; exact szL_len l
  have hmb : Hid (mb < w.heap.size) := lt_of_cell hN.1
  replace hl : Hid (IsL w0 ao 0 l) := hl
  replace ih : Hid (∀ x ∈ l, DoesThing x) := ih
  replace hB : Hid (Below w0.heap.size w0 w) := hB
  have hcap : n ≤ 9223372036854775807 := by unfold maxLen at h3; omega
  have hN' : Hid (Num w mb 0 L) := hN
  have c1 := hN.1
  obtain ⟨D, hD⟩ : ∃ D : Int, Hid (((d + 1 : Nat) : Int) = D) := ⟨_, rfl⟩
  obtain ⟨ok, hok⟩ : ∃ ok, Hid ((decide (d < 8) && okL (d + 1) l && decide ((szL l : Int) ≤ L)) = ok) := ⟨_, rfl⟩
  rw [hok.out, hD.out]
  have hbad : Hid (ok = false → ∀ q, But mb w q → Made mb L ok (szL l) w (.mk 6 0 0 [] l) (.returned (.tuple #[.nilIface, .bool false])) q) := fun h q hq => by
    subst h
    exact ⟨hq, _, rfl, fun _ => rfl, fun e => by simp at e⟩
  clear hN h3
  by_cases hd8 : d < 8
  case neg =>
    have hf : ok = false := by rw [← hok.out, decide_eq_false hd8]; rfl
    have hD8 : (8 : Int) < D := by rw [← hD.out]; omega
    go_enter Tryz.func66, Tryz.ntmps66
    go_wp2_with fail
    go_returns
    exact hbad.out hf _ (But.refl _ _)
  case pos =>
  have hD8 : D ≤ 8 := by rw [← hD.out]; omega
  by_cases hnl : L < (n : Int)
  · have hf : ok = false := by rw [← hok.out, decide_eq_false (p := (szL l : Int) ≤ L) (by have := hlen.out; omega)]; simp
    go_enter Tryz.func66, Tryz.ntmps66
    go_wp2_with fail
    go_returns
    exact hbad.out hf _ (But.refl _ _)
  · obtain ⟨C, hC, hmk⟩ := make_things n (by omega)
    replace hC : Hid (C.size = n) := hC
    go_enter Tryz.func66, Tryz.ntmps66
    go_wp2_with fail
    go_loopw [30] (fun v30 wr => ∃ i : Nat, i ≤ n ∧ v30 = .int .i64 (i : Int) ∧ Hid (Row1 w wr mb L (d + 1) l i)) (fun v _ => n - (intOf v).toNat)
    case atStart =>
      refine ⟨0, by omega, rfl, ?_⟩
      refine ⟨But.of (box_below _ _), ?_, by rw [List.take_zero, okL], by rw [List.take_zero, szL]; exact hL0, _, C, heap_alloc_new _ _, hC.out.trans hn.out.symm, fun j _ h => by omega⟩
      rw [List.take_zero, szL, show L - ((0 : Nat) : Int) = L by omega]
      exact hN'.out.below (box_below _ _)
    case round =>
      obtain ⟨i, hi, rfl, hR⟩ := hrel
      obtain ⟨r1, r2, r3, r4, T, cs, r5, r6, r7⟩ := hR.out
      by_cases hin : i = n
      · have hil : l.take i = l := List.take_of_length_le (by have := hn.out; omega)
        rw [hil] at r2 r3 r4
        have hf : ok = true := by rw [← hok.out, decide_eq_true hd8, r3, decide_eq_true r4]; rfl
        subst hf
        have hfin : Hid (Made mb L true (szL l) w (.mk 6 0 0 [] l) (.returned (.tuple #[.iface 109 (.slice (some ⟨w.heap.size, 0, none⟩) n n), .bool true])) wr) := by
          refine ⟨r1, _, rfl, fun e => by simp at e, fun _ => ⟨?_, r2⟩⟩
          rw [IsT]
          refine Or.inr (Or.inr (Or.inr (Or.inr (Or.inr ⟨rfl, _, n, by rw [hn.out], by rw [hn.out]; exact Nat.le_refl _, by unfold maxLen; omega, isTL_of l 0 fun j hj => ?_⟩))))
          obtain ⟨tv, t1, t2⟩ := r7 j hj (by have := hn.out; omega)
          refine ⟨w.heap.size, 0, tv, rfl, Nat.le_refl _, ?_, t2.down fun b hb _ => by omega⟩
          rw [Nat.zero_add, Nat.zero_add]
          unfold World.cell?
          simp only [r5]
          exact t1
        clear r1 r2 r3 r4 r5 r6 r7 hR
        subst hin
        go_wp2_with fail
        go_returns
        exact hfin.out
      · have hil : i < l.length := by have := hn.out; omega
        have i1 : (i : Int) < (n : Int) := by omega
        have i2 : (0 : Int) ≤ (i : Int) := by omega
        obtain ⟨b, off, e0, e1, e2, e3, e4, rfl, g0, g1, g2, g3, g4, hx⟩ := IsL.get hl.out i hil
        rw [Nat.zero_add] at g0 g1 g2 g3 g4
        have hbw : Below w0.heap.size w0 wr := hB.out.trans (r1.below hm (hB.out.size))
        replace g0 := (hbw.cell (lt_of_cell g0)).trans g0
        replace g1 := (hbw.cell (lt_of_cell g1)).trans g1
        replace g2 := (hbw.cell (lt_of_cell g2)).trans g2
        replace g3 := (hbw.cell (lt_of_cell g3)).trans g3
        replace g4 := (hbw.cell (lt_of_cell g4)).trans g4
        obtain ⟨xk, xn, xr, xt, xo, xm, xc, rfl, rfl, rfl, rfl, rfl⟩ := hx.cells
        replace hx : Hid (IsV w0 (.agg #[.int .i64 xk, .int .i64 xn, .float .f64 xr, .string xt, .slice xo xm xc]) l[i]) := hx
        have ksf : ∀ (w : World) (a : Addr) (x : Nat) (m : Mode), (store a (.float .f64 x) m).run Tryz.prog w = stored Tryz.prog w a (.float .f64 x) m := fun w a x m => run_store Tryz.prog w a _ m rfl
        have hcall : Hid (∀ q, Below wr.heap.size wr q → Calls Tryz.prog 42 #[.pointer (some ⟨mb, 0, none⟩), .agg #[.int .i64 xk, .int .i64 xn, .float .f64 xr, .string xt, .slice xo xm xc], .int .i64 D] q (Made mb (L - szL (l.take i)) (okV (d + 1) l[i] && decide ((szV l[i] : Int) ≤ L - szL (l.take i))) (szV l[i]) q l[i])) := fun q hq => by
          rw [← hD.out]
          exact ih.out l[i] (List.getElem_mem hil) w0 q _ mb _ (d + 1) hx.out hm (hbw.trans (hq.mono (by have := hbw.size; omega))) (r2.below hq) (by omega) (by omega) (by omega)
        obtain ⟨ok1, hok1⟩ : ∃ ok1, Hid ((okV (d + 1) l[i] && decide ((szV l[i] : Int) ≤ L - szL (l.take i))) = ok1) := ⟨okV (d + 1) l[i] && decide ((szV l[i] : Int) ≤ L - szL (l.take i)), rfl⟩
        rw [hok1.out] at hcall
        have R1 : Hid (But mb w wr) := r1
        have R5 : Hid (wr.heap[w.heap.size]? = some (.cells cs T (0, 0))) := r5
        have R7 : Hid (∀ j (h : j < l.length), j < i → ∃ tv, cs[j]? = some tv ∧ IsT (fun b => w.heap.size < b) wr tv l[j]) := r7
        have R2 : Hid (Num wr mb 0 (L - szL (l.take i))) := r2
        have R3 : Hid (okL (d + 1) (l.take i) = true ∧ (szL (l.take i) : Int) ≤ L ∧ cs.size = l.length) := ⟨r3, r4, r6⟩
        clear r1 r2 r3 r4 r5 r6 r7 hR hbw
        go_wp2_with fail
        refine (hcall.out _ (box_below _ _)).mono ?_
        rintro e w1 ⟨hb1, tv, rfl, hno, hyes⟩
        have hbt : Hid (But mb wr w1) := (But.of (box_below _ _)).trans hb1
        have hs1 : Hid (w.heap.size < wr.heap.size) := heap_lt R5.out
        have hmb2 : w.heap.size ≠ mb := by have := hmb.out; omega
        cases ok1 with
        | false =>
          obtain rfl := hno rfl
          have hf : ok = false := by
            rw [← hok.out]
            have h1 := okL_split (d + 1) l (i + 1)
            have h2 := szL_split l (i + 1)
            rw [okL_take _ hil] at h1
            rw [szL_take hil] at h2
            have h3 := hok1.out
            rw [h1]
            rw [Bool.and_eq_false_iff] at h3
            rcases h3 with h3 | h3
            · rw [h3]; simp
            · rw [decide_eq_false_iff_not] at h3
              rw [decide_eq_false (p := (szL l : Int) ≤ L) (by omega)]; simp
          clear hno hyes hb1 g0 g1 g2 g3 g4
          go_wp2_with fail
          go_returns
          exact hbad.out hf _ (R1.out.trans hbt.out)
        | true =>
          obtain ⟨ht, hn1⟩ := hyes rfl
          obtain ⟨T1, u1, rfl⟩ := ht.shape
          replace ht : Hid (IsT (fun b => w.heap.size < b) w1 (.iface T1 u1) l[i]) := ht.down fun b hb _ => by have := hs1.out; simp at hb; omega
          replace hn1 : Hid (Num w1 mb 0 (L - szL (l.take i) - szV l[i])) := hn1
          have kst : ∀ (w : World) (a : Addr) (m : Mode), (store a (.iface T1 u1) m).run Tryz.prog w = stored Tryz.prog w a (.iface T1 u1) m := fun w a m => run_store Tryz.prog w a _ m rfl
          have hh : Hid (w1.heap[w.heap.size]? = some (.cells cs T (0, 0))) := (hbt.out.block _ hs1.out hmb2).trans R5.out
          have hcell : ∃ old, w1.cell? ⟨w.heap.size, i, none⟩ = some old := by
            unfold World.cell?
            simp only [hh.out]
            exact ⟨cs[i]'(by have := R3.out.2.2; omega), by simp [R3.out.2.2, hil]⟩
          obtain ⟨old, hcell⟩ := hcell
          have hfr : w1.frozen? ⟨w.heap.size, i, none⟩ = false := by simp [World.frozen?, hh.out]
          have hrow : Hid (Row1 w (w1.setCell ⟨w.heap.size, i, none⟩ (.iface T1 u1)) mb L (d + 1) l (i + 1)) := by
            have hset : But w.heap.size w1 (w1.setCell ⟨w.heap.size, i, none⟩ (.iface T1 u1)) := But.set _ _ _ _
            have hse : Below w.heap.size w1 (w1.setCell ⟨w.heap.size, i, none⟩ (.iface T1 u1)) := Below.setCell (p := ⟨w.heap.size, i, none⟩) (Below.refl _ _) (Nat.le_refl _) _
            have h1 := R1.out.trans hbt.out
            obtain ⟨q3, q4, q6⟩ := R3.out
            have h3 := hok1.out
            rw [Bool.and_eq_true, decide_eq_true_eq] at h3
            refine ⟨⟨h1.os, h1.tape, h1.output, Nat.le_trans h1.size (by simp [World.setCell]), fun k hk hkm => (hse.block k hk).trans (h1.block k hk hkm)⟩, ?_, by rw [okL_take _ hil, q3, h3.1]; rfl, by rw [szL_take hil]; omega, T, cs.set! i (.iface T1 u1), heap_setCell_same _ _ _ _ _ _ hh.out, by simpa using q6, ?_⟩
            · rw [szL_take hil, show L - ((szL (l.take i) + szV l[i] : Nat) : Int) = L - szL (l.take i) - szV l[i] by omega]
              obtain ⟨n1, n2⟩ := hn1.out
              exact ⟨(hse.cell (p := ⟨mb, 0, none⟩) hmb.out).trans n1, (hse.frozen (p := ⟨mb, 0, none⟩) hmb.out).trans n2⟩
            · intro j hj hji
              by_cases hj2 : j = i
              · subst hj2
                exact ⟨_, by simp [q6, hj], ht.out.but hset (by omega)⟩
              · obtain ⟨tv, t1, t2⟩ := R7.out j hj (by omega)
                exact ⟨tv, by rw [Array.set!_eq_setIfInBounds, Array.getElem?_setIfInBounds_ne (fun e => hj2 e.symm)]; exact t1, (t2.but hbt.out (by have := hmb.out; omega)).but hset (by omega)⟩
          clear hno hyes hb1 g0 g1 g2 g3 g4
          go_wp2_with fail
          go_roundw
          case rel => exact ⟨i + 1, by omega, by go_num, hrow.out⟩
          case measure => simp [intOf]; omega
end Go.Proofs.YtpfnkkkfekhngaaGreatDoor.Va
