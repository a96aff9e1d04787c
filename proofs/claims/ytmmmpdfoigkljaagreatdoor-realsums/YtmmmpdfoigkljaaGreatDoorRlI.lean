/-
  Package strconv writes 0.5.
-/
import Derived.Test.YtmmmpdfoigkljaaGreatDoorRlH
import Derived.Deep.RegionHeld3
namespace Go.Proofs.YtmmmpdfoigkljaaGreatDoor.Rl
open Go.RowKit
set_option maxRecDepth 100000

theorem setDigits_half (w : World) (b base cap : Nat) (hb : base ≤ b) (hD : Dg w b 16) (hcap : 32 ≤ cap) :
    Calls Tryz.prog 77 #[.slice (some ⟨b, 0, none⟩) 32 cap, .int .u64 5000000000000000, .int .i64 (-16), .int .i64 16] w
      fun e w' => e = .returned (.tuple #[.int .i64 0, .int .i64 1]) ∧ Dg w' b 0 ∧ Below base w w' := by
  have hcap' : (16 : Int) ≤ (cap : Int) := by omega
  go_enter Tryz.func77, Tryz.ntmps77
  go_wp2_with fail
  refine (base10_half w b base _ hb hD).mono ?_
  rintro e w1 ⟨v1, rfl, hD1, hB1⟩
  replace hD1 : Hid (Dg w1 b 0) := hD1
  clear hD
  go_wp2_with fail
  go_loopw [3] (fun v wr => ∃ k : Nat, 1 ≤ k ∧ k ≤ 16 ∧ v = .int .i64 (k : Int) ∧ wr = w1) (fun v _ => (intOf v).toNat)
  case atStart => exact ⟨16, by omega, by omega, rfl, rfl⟩
  case round =>
    obtain ⟨k, hk1, hk2, rfl, rfl⟩ := hrel
    obtain ⟨_, z, hz, hz2⟩ := hD1.out.2 (k - 1) (by omega)
    by_cases h1 : k = 1
    · subst h1
      have e : z = 53 := by rw [hz2 (by omega)]; rfl
      subst e
      have hz3 : wr.cell? ⟨b, 0, none⟩ = some (.int .u8 53) := hz
      clear hz hz2 hk1 hk2
      go_wp2
      go_returns
      exact ⟨rfl, hD1.out, hB1⟩
    · have e : z = 48 := by rw [hz2 (by omega), if_neg (by omega)]
      subst e
      obtain ⟨j, rfl⟩ : ∃ j, k = j + 1 := ⟨k - 1, by omega⟩
      have hz3 : wr.cell? ⟨b, j, none⟩ = some (.int .u8 48) := hz
      have hj : (1 : Int) ≤ (j : Int) := by omega
      clear hz hz2
      go_wp2
      go_roundw
      case rel => exact ⟨j, by omega, by omega, by go_num, by trivial⟩
      case measure => simp [intOf]
theorem len_half (w : World) : Calls Tryz.prog 58 #[.int .u64 5000000000000000] w fun e w' => e = .returned (.int .i64 53) ∧ w' = w := by
  go_enter Tryz.func58, Tryz.ntmps58
  go_wp2
  go_ret
  exact ⟨congrArg (fun x => Ending.returned (Value.int .i64 x)) (by decide +kernel : (_ : Int) = _), rfl⟩
theorem log10_half (w : World) : Calls Tryz.prog 79 #[.int .i64 53] w fun e w' => e = .returned (.int .i64 15) ∧ w' = w := by
  go_enter Tryz.func79, Tryz.ntmps79
  go_wp2
  go_ret
  exact ⟨by kernel_rfl, rfl⟩
theorem b2i_true (w : World) : Calls Tryz.prog 111 #[.bool true] w fun e w' => e = .returned (.int .i64 1) ∧ w' = w := by
  go_enter Tryz.func111, Tryz.ntmps111
  go_wp2
  go_ret
  exact ⟨rfl, rfl⟩
def Ten (w : World) : Prop := w.cell? ⟨6, 15, none⟩ = some (.int .u64 1000000000000000)
theorem num_half (w : World) (h : Ten w) : Calls Tryz.prog 78 #[.int .u64 5000000000000000] w fun e w' => e = .returned (.int .i64 16) ∧ w' = w := by
  have h0 : w.cell? ⟨6, 15, none⟩ = some (.int .u64 1000000000000000) := h
  go_enter Tryz.func78, Tryz.ntmps78
  go_wp2_with fail
  refine (len_half _).mono ?_
  rintro e w1 ⟨rfl, rfl⟩
  go_wp2_with fail
  refine (log10_half _).mono ?_
  rintro e w1 ⟨rfl, rfl⟩
  go_wp2_with fail
  refine (b2i_true _).mono ?_
  rintro e w1 ⟨rfl, rfl⟩
  go_wp2
  go_ret
  exact ⟨rfl, rfl⟩
/-- What an array that lies in block b begins with, whatever the list that is owned is made longer by. -/
def Buf (q : World) (b : Nat) : Prop := ∃ cs, q.heap[b]? = some (.cells cs 105 (0, 0)) ∧ q.cell? ⟨b, 0, none⟩ = some (.int .u8 53)
theorem Dg.buf {q : World} {b : Nat} (h : Dg q b 0) : Buf q b := by
  obtain ⟨⟨cs, hcs⟩, h⟩ := h
  obtain ⟨_, z, h0, h1⟩ := h 0 (by omega)
  exact ⟨cs, hcs, by rw [h0, h1 (by omega)]; rfl⟩
theorem Buf.alloc {q : World} {b : Nat} (h : Buf q b) (o : Obj) : Buf (q.alloc o) b := by
  obtain ⟨cs, h0, h1⟩ := h
  have hlt : b < q.heap.size := heap_lt h0
  exact ⟨cs, by rw [(box_below q o).block b hlt]; exact h0, by rw [(box_below q o).cell (p := ⟨b, 0, none⟩) hlt]; exact h1⟩
theorem Buf.grown {q q' : World} {b base n : Nat} {v : Value} {xs : List Value} (h : Buf q b) (ho : q.ownsRow base 5 1 v n xs) (hg : q.grownBy q' v.ownBlock) : Buf q' b := by
  obtain ⟨cs, h0, h1⟩ := h
  have hlt : b < q.heap.size := heap_lt h0
  have hne : v.ownBlock ≠ some b := by
    intro e
    obtain ⟨_, ho⟩ := ho
    rcases ho with ⟨rfl, _⟩ | ⟨g, cap, cur, rfl, _, hh, _⟩
    · simp [Value.ownBlock] at e
    · simp [Value.ownBlock] at e
      subst e
      rw [hh] at h0
      simp at h0
  have e : q'.heap[b]? = q.heap[b]? := by
    exact hg.block b hlt (fun e => hne e.symm)
  exact ⟨cs, by rw [e]; exact h0, by unfold World.cell? at h1 ⊢; rw [e]; exact h1⟩
theorem efg_half (w : World) (base : Nat) (v : Value) (b cap : Nat) (hbase : base ≤ w.heap.size) (hown : w.ownsRow base 5 1 v 0 []) (hd : Buf w b) :
    Calls Tryz.prog 75 #[v, .bool false, .slice (some ⟨b, 0, none⟩) 32 cap, .int .i64 0, .int .i64 1, .int .i64 1, .int .u8 103, .bool true] w fun e w' => ∃ v', e = .returned v' ∧ w'.ownsRow base 5 1 v' 3 (bvals [48, 46, 53]) ∧ Below base w w' := by
  obtain ⟨i0, hi, hz0, hz1, hz2⟩ := info_parts Tryz.infoU8
  replace hd : Hid (Buf w b) := hd
  go_enter Tryz.func75, Tryz.ntmps75
  go_wp2_with (at_builtin; refine wpList_append_own _ rfl (.tmp 209) (.tmp 210) 88 rfl base 5 i0 (.int .u8 0) 1 1 Tryz.underlying88 hi hz0 hz1 hz2 rfl (by decide) _ _ _ rfl (hown.alloc _) ⟨w.heap.size, 0, none⟩ 1 1 [.int .u8 48] rfl rfl (cell_one_new _ _ _) (by simp [Value.oneCell']) (by simp [maxLen]) (by simp) (by simp; omega) ?_)
  intro v1 w1 hown1 hgrow1 _
  have hb1 : Below base w w1 := ((Below.refl _ _).alloc (by omega) _).grown hgrow1 (by simp; omega) (fun k hk => (hown.lt k hk).1)
  have hs1 := hb1.size
  have hd1 : Hid (Buf w1 b) := (hd.out.alloc _).grown (hown.alloc _) hgrow1
  replace hown1 : w1.ownsRow base 5 1 v1 1 (bvals [48]) := hown1
  clear hgrow1
  go_wp2_with (at_builtin; refine wpList_append_own _ rfl (.tmp 214) (.tmp 215) 88 rfl base 5 i0 (.int .u8 0) 1 1 Tryz.underlying88 hi hz0 hz1 hz2 rfl (by decide) _ _ _ rfl (hown1.alloc _) ⟨w1.heap.size, 0, none⟩ 1 1 [.int .u8 46] rfl rfl (cell_one_new _ _ _) (by simp [Value.oneCell']) (by simp [maxLen]) (by simp) (by simp; omega) ?_)
  intro v2 w2 hown2 hgrow2 _
  have hb2 : Below base w w2 := (hb1.alloc (by omega) _).grown hgrow2 (by simp; omega) (fun k hk => (hown1.lt k hk).1)
  have hs2 := hb2.size
  have hd2 : Hid (Buf w2 b) := (hd1.out.alloc _).grown (hown1.alloc _) hgrow2
  replace hown2 : w2.ownsRow base 5 1 v2 2 (bvals [48, 46]) := hown2
  obtain ⟨_, _, hc2⟩ := hd2.out
  clear hgrow2
  go_wp2_with fail
  refine wp_loop_rounds 1 ?_
  rw [rounds_succ]
  go_wp2_with fail
  refine wp_loop_rounds 2 ?_
  rw [rounds_succ]
  go_wp2_with (at_builtin; refine wpList_append_own _ rfl (.tmp 250) (.tmp 257) 88 rfl base 5 i0 (.int .u8 0) 1 1 Tryz.underlying88 hi hz0 hz1 hz2 rfl (by decide) _ _ _ rfl (hown2.alloc _) ⟨w2.heap.size, 0, none⟩ 1 1 [.int .u8 53] rfl rfl (cell_one_new _ _ _) (by simp [Value.oneCell']) (by simp [maxLen]) (by simp) (by simp; omega) ?_)
  intro v3 w3 hown3 hgrow3 _
  have hb3 : Below base w w3 := (hb2.alloc (by omega) _).grown hgrow3 (by simp; omega) (fun k hk => (hown2.lt k hk).1)
  replace hown3 : w3.ownsRow base 5 1 v3 3 (bvals [48, 46, 53]) := hown3
  clear hgrow3
  go_wp2_with fail
  rw [rounds_succ]
  go_wp2_with fail
  refine wp_loop_rounds 1 ?_
  rw [rounds_succ]
  go_wp2
  go_ret
  exact ⟨_, rfl, hown3, hb3⟩
def half : Value := .string ⟨#[48, 46, 53]⟩
theorem Dg.mono {q : World} {b k k' : Nat} (h : Dg q b k) (hk : k ≤ k') : Dg q b k' :=
  ⟨h.1, fun i hi => ⟨(h.2 i hi).1, by obtain ⟨z, h0, h1⟩ := (h.2 i hi).2; exact ⟨z, h0, fun g => h1 (by omega)⟩⟩⟩
theorem heap_new (w : World) (o : Obj) : (w.alloc o).heap[w.heap.size]? = some o := by unfold World.alloc; simp
theorem Dg.new (w : World) (cs : Array Value) (hs : cs = (List.replicate 32 (Value.int .u8 0)).toArray) : Dg (w.alloc (.cells cs 105)) w.heap.size 16 := by
  refine ⟨⟨cs, heap_new w _⟩, fun i hi => ⟨by simp, 0, ?_, fun h => by omega⟩⟩
  rw [World.cell?_alloc_new, hs, List.getElem?_toArray, List.getElem?_replicate, if_pos (by omega)]
theorem Dg.below {q q' : World} {b k : Nat} (h : Dg q b k) (hb : Below q.heap.size q q') : Dg q' b k := by
  obtain ⟨⟨cs, hcs⟩, h⟩ := h
  have hlt := heap_lt hcs
  have e := hb.block b hlt
  refine ⟨⟨cs, by rw [e]; exact hcs⟩, fun i hi => ?_⟩
  obtain ⟨h1, z, h2, h3⟩ := h i hi
  exact ⟨by rw [World.frozen?_of_block (a := ⟨b, i, none⟩) e]; exact h1, z, by rw [World.cell?_of_block (a := ⟨b, i, none⟩) e]; exact h2, h3⟩
def Kq (w : World) (b : Nat) (q : World) : Prop := Below b w q ∧ Dg q b 16
theorem Kq.drew {w q : World} {b : Nat} (h : Kq w b q) : Kq w b q.drew := ⟨h.1.drew, h.2.drew⟩
theorem Kq.more {w q q' : World} {b : Nat} (h : Kq w b q) (hb : Below b q q') (hd : Dg q' b 0) : Kq w b q' := ⟨h.1.trans hb, hd.mono (by omega)⟩
theorem ftoa_half (w : World) (base : Nat) (v : Value) (hbase : base ≤ w.heap.size) (hown : w.ownsRow base 5 1 v 0 []) (hT : Tab w) (hN : Ten w) :
    Calls Tryz.prog 65 #[v, .float .f64 4602678819172646912, .int .u8 103, .int .i64 (-1)] w fun e w' => ∃ v', e = .returned v' ∧ w'.ownsRow base 5 1 v' 3 (bvals [48, 46, 53]) ∧ Below base w w' := by
  have k1 := sbits_run
  have b1 : bits BinOp.and IntKind.u64 4602678819172646912 4503599627370495 = 0 := by decide +kernel
  have b2 : bits BinOp.or IntKind.u64 0 4503599627370496 = 4503599627370496 := by decide +kernel
  have b3 : bits BinOp.and IntKind.i64 1022 2047 = 1022 := by decide +kernel
  go_enter Tryz.func65, Tryz.ntmps65
  go_wp2_with fail
  go_quiet (fail)
  obtain ⟨w0, hw0⟩ : ∃ w0, w0 = w.drewN nq := ⟨_, rfl⟩
  have hb0 : Below w.heap.size w w0 := by rw [hw0]; exact Qt.below ⟨nq, rfl⟩ _
  have hs0 : Hid (w0.heap.size = w.heap.size) := by rw [hw0]; show _ = _; simp
  have ho0 : Hid (w0.ownsRow base 5 1 v 0 []) := ownsRow_below hown hb0
  have hT0 : Hid (Tab w0) := ⟨by rw [hb0.cell (lt_of_cell hT.1)]; exact hT.1, by rw [hb0.cell (lt_of_cell hT.2)]; exact hT.2⟩
  have hN0 : Hid (Ten w0) := by show _ = _; rw [hb0.cell (lt_of_cell hN)]; exact hN
  rw [← hw0]
  clear hw0 hown hT hN
  go_wp2_with fail
  refine (len_52 _).mono ?_
  rintro e w1 ⟨rfl, hw1⟩
  have hb1 : Below w0.heap.size w0 w1 := by rw [hw1]; exact box_below _ _
  have hd1 : Hid (Dg w1 w0.heap.size 16) := by rw [hw1]; exact Dg.new _ _ rfl
  clear hw1
  go_wp2_with fail
  refine (short_half _ ⟨by rw [hb1.cell (lt_of_cell hT0.out.1)]; exact hT0.out.1, by rw [hb1.cell (lt_of_cell hT0.out.2)]; exact hT0.out.2⟩).mono ?_
  rintro e w2 ⟨rfl, hb2⟩
  have hd2 : Hid (Dg w2 w0.heap.size 16) := hd1.out.below hb2
  have hb02 : Below w0.heap.size w0 w2 := hb1.trans (hb2.mono hb1.size)
  clear hb1 hb2 hd1
  go_wp2_with fail
  have hK : Kq w0 w0.heap.size w2 := ⟨hb02, hd2.out⟩
  have h32 : (32 : Nat) ≤ 32 := by omega
  clear hd2 hb02
  go_region_held3 (Kq w0 w0.heap.size) (first | exact Kq.drew hK | exact Kq.drew (by assumption) | exact Kq.more (by assumption) (by assumption) (by assumption)) (first | (go_at_call 78; refine (num_half _ (by have hk := (by assumption : Kq w0 w0.heap.size _); exact (hk.1.cell (lt_of_cell hN0.out)).trans hN0.out)).mono ?_; rintro e w5 ⟨rfl, rfl⟩) | (go_at_call 77; refine (setDigits_half _ w0.heap.size w0.heap.size _ (Nat.le_refl _) (by have hk := (by assumption : Kq w0 w0.heap.size _); exact hk.2) h32).mono ?_; rintro e w6 ⟨rfl, hD6, hB6⟩))
  have hK6 : Kq w0 w0.heap.size w6 := by assumption
  have ho6 : w6.ownsRow base 5 1 v 0 [] := ownsRow_below ho0.out hK6.1
  have hbu : Buf w6 w0.heap.size := hD6.buf
  have hb6 : Below w.heap.size w w6 := hb0.trans (hs0.out ▸ hK6.1)
  clear hB6 hD6
  go_wp2_with fail
  refine (efg_half _ base v w0.heap.size _ (Nat.le_trans hbase hb6.size) ho6 hbu).mono ?_
  rintro e w7 ⟨v7, rfl, ho7, hb7⟩
  go_wp2
  go_ret
  exact ⟨_, rfl, ho7, (hb6.mono hbase).trans hb7⟩
theorem format_half (w : World) (hT : Tab w) (hN : Ten w) :
    Calls Tryz.prog 56 #[.float .f64 4602678819172646912, .int .u8 103, .int .i64 (-1), .int .i64 64] w fun e w' => e = .returned half ∧ Below w.heap.size w w' := by
  obtain ⟨i0, hi, hz0, hz1, hz2⟩ := info_parts Tryz.infoU8
  go_enter Tryz.func56, Tryz.ntmps56
  go_wp2_with (at_make; refine wpList_make_own w rfl _ _ 88 rfl w.heap.size 5 i0 (.int .u8 0) 1 Tryz.underlying88 hi hz0 hz1 .i64 .i64 _ 24 rfl rfl (by simp) (by rw [hz2]; omega) (by unfold maxLen; omega) (Nat.le_refl _) ?_)
  intro w1 ho1 hg1
  have hb1 : Below w.heap.size w w1 := (Below.refl _ _).grown hg1 (Nat.le_refl _) (fun k hk => by simp at hk)
  have hsz := hb1.size
  go_wp2_with fail
  refine (ftoa_half _ w.heap.size _ hsz ho1 ⟨by rw [hb1.cell (lt_of_cell hT.1)]; exact hT.1, by rw [hb1.cell (lt_of_cell hT.2)]; exact hT.2⟩ ((hb1.cell (lt_of_cell hN)).trans hN)).mono ?_
  rintro e w2 ⟨v2, rfl, ho2, hb2⟩
  have hcv := conv_bytes w2 v2 [48, 46, 53] (Sl.of_owns ho2) (by decide)
  clear ho2 ho1 hg1
  go_wp2
  go_ret
  exact ⟨rfl, hb1.trans hb2⟩
theorem sformat_half (w : World) (hT : Tab w) (hN : Ten w) :
    Calls Tryz.prog 44 #[.float .f64 4602678819172646912, .int .u8 103, .int .i64 (-1), .int .i64 64] w fun e w' => e = .returned half ∧ Below w.heap.size w w' := by
  go_enter Tryz.func44, Tryz.ntmps44
  go_wp2_with fail
  refine (format_half _ hT hN).mono ?_
  rintro e w1 ⟨rfl, hb⟩
  go_wp2
  go_ret
  exact ⟨rfl, hb⟩
theorem class_half : classB 4602678819172646912 = 8 := by decide +kernel
theorem text_half (w : World) (hT : Tab w) (hN : Ten w) : Calls Tryz.prog 23 #[.float .f64 4602678819172646912] w fun e w' => e = .returned half ∧ Below w.heap.size w w' := by
  go_enter Tryz.func23, Tryz.ntmps23
  go_wp2_with fail
  refine (class_any _ 4602678819172646912 (by omega)).mono ?_
  rintro e w1 ⟨rfl, rfl⟩
  rw [class_half]
  go_wp2_with fail
  refine (sformat_half _ hT hN).mono ?_
  rintro e w1 ⟨rfl, hb⟩
  go_wp2
  go_ret
  exact ⟨rfl, hb⟩
#print axioms text_half
end Go.Proofs.YtmmmpdfoigkljaaGreatDoor.Rl
