/-
  What crc.table answers.
-/
import Derived.Test.YtdhjlongdfgejaaCrcA
import Derived.Test.YtdhjlongdfgejaaCrc1
import Derived.Test.YtdhjlongdfgejaaGen
import Derived.Laws.ResultCell
namespace Go.Proofs.Ytdhjlongdfgejaa.Crc
open Go.RowKit

/-- The table. -/
def tbl : Array Value := row (fun x => st 8 (BitVec.ofNat 32 x)) 256
theorem zero256 : (∀ w, (zeroValue 96).run Try.prog w = .ok (.agg (Array.replicate 256 (.int .u32 0))) w) ∧ (Try.prog.info? 96).map (·.size) = some 256 :=
  zero_of_info (by kernel_rfl)

set_option maxRecDepth 100000 in
set_option maxHeartbeats 1000000 in
theorem table_any (w : World) :
    Calls Try.prog 67 #[] w fun e w' => e = .returned (.agg tbl) ∧ Below w.heap.size w w' := by
  have hz := zero256.1
  go_enter Try.func67, Try.ntmps67
  go_wp2_with fail
  rw [← row_zero 256]
  have hx2 : ∀ a b : R, bits .xor .u32 (a.toNat : Int) (b.toNat : Int) = ((a ^^^ b).toNat : Int) := b_xor
  have HX : Hid (∀ a b : R, bits .xor .u32 (a.toNat : Int) (b.toNat : Int) = ((a ^^^ b).toNat : Int)) := hx2
  clear hx2
  go_loopw [2, 3] (fun vc vb wr => ∃ (k bt : Nat) (f : Nat → R), k ≤ 8 ∧ vc = .int .u32 ((st k 1#32).toNat : Int) ∧ vb = .int .i64 (bt : Int) ∧ Hid (bt = 128 / 2 ^ k) ∧ Hid (Tab f (2 ^ (8 - k)) 256) ∧ wr = (w.alloc (.cells (row (fun _ => 0#32) 256) 96)).alloc (.cells (row f 256) 96)) (fun _ b _ => (intOf b).toNat)
  case atStart => exact ⟨0, 128, _, by omega, rfl, rfl, rfl, tab_init, rfl⟩
  case round =>
    obtain ⟨k, bt, f, hk, rfl, rfl, hbt, htab, rfl⟩ := hrel
    by_cases h8 : k < 8
    · have eB : bt = 2 ^ (7 - k) := by rw [hbt.out, show 128 = 2 ^ 7 from rfl, Nat.pow_div (by omega) (by omega)]
      have hpos : 0 < bt := by rw [eB]; exact Nat.pow_pos (by omega)
      have hle : bt ≤ 128 := by rw [hbt.out]; exact Nat.div_le_self _ _
      have HB : Hid (bt = 2 ^ (7 - k)) := eB
      have hnext : Hid (bt / 2 = 128 / 2 ^ (k + 1)) := by show _ = _; rw [hbt.out, Nat.pow_succ, Nat.div_div_eq_div_mul]
      have ht0 : Hid (Tab f (2 ^ (7 - k)) 0) := tab_next h8 htab.out
      clear eB hbt htab
      go_wp2_with fail
      refine (step_any _ _).mono ?_
      rintro e w1 ⟨rfl, rfl⟩
      rw [← st_succ']
      go_wp2_with fail
      go_loopw [4] (fun va wr => ∃ (a : Nat) (g : Nat → R), va = .int .i64 (a : Int) ∧ a ≤ 256 ∧ Hid (a % (2 * 2 ^ (7 - k)) = 0) ∧ Hid (Tab g (2 ^ (7 - k)) a) ∧ wr = (w.alloc (.cells (row (fun _ => 0#32) 256) 96)).alloc (.cells (row g 256) 96)) (fun a _ => 256 - (intOf a).toNat)
      case atStart => exact ⟨0, f, rfl, by omega, by show _ = _; simp, ht0.out, rfl⟩
      case round =>
        obtain ⟨a, g, rfl, ha, hm, htab, rfl⟩ := hrel
        by_cases hlt : a < 256
        · have hroom := tab_room h8 hlt hm.out
          rw [← HB.out] at hroom
          have hc1 := row_get g 256 a hlt
          have hc2 := row_get g 256 (a + bt) (by omega)
          obtain ⟨v, hv⟩ : ∃ v, v = g a ^^^ st (k + 1) 1#32 := ⟨_, rfl⟩
          have hx := HX.out (g a) (st (k + 1) 1#32)
          rw [← hv] at hx
          have HS : Hid (Tab (upd g (a + bt) v) (2 ^ (7 - k)) (a + 2 * bt)) := by
            have := tab_step h8 hlt hm.out htab.out
            rw [← HB.out] at this ⊢
            rw [hv]; exact this
          have HM2 : Hid ((a + 2 * bt) % (2 * 2 ^ (7 - k)) = 0) := by
            show _ = _
            rw [← HB.out, Nat.add_mod_right]
            have := hm.out
            rw [← HB.out] at this
            exact this
          have HR : Hid ((row g 256).setIfInBounds (a + bt) (.int .u32 (v.toNat : Int)) = row (upd g (a + bt) v) 256) := row_set _ _ _ _
          obtain ⟨Z, hZ⟩ : ∃ Z, Z = row (fun _ => 0#32) 256 := ⟨_, rfl⟩
          obtain ⟨C, hC⟩ : ∃ C, C = row g 256 := ⟨_, rfl⟩
          rw [← hC] at hc1 hc2 HR ⊢
          rw [← hZ]
          have HZ : Hid (Z = row (fun _ => 0#32) 256) := hZ
          clear hv hm htab ht0 hnext hZ hC
          go_wp2_with fail
          go_roundw
          case rel => exact ⟨a + 2 * bt, upd g (a + bt) v, by go_num, by omega, HM2.out, HS.out, by rw [HR.out, HZ.out]⟩
          case measure => simp [intOf]; omega
        · obtain rfl : a = 256 := by omega
          have HD : Hid (Tab g (2 ^ (8 - (k + 1))) 256) := tab_done h8 (Nat.le_refl _) htab.out
          clear hm htab ht0
          go_wp2_with fail
          go_roundw
          case rel => exact ⟨k + 1, bt / 2, g, by omega, rfl, by go_num, hnext, HD.out, rfl⟩
          case measure => simp [intOf]; omega
    · obtain rfl : k = 8 := by omega
      obtain rfl : bt = 0 := by rw [hbt.out]
      have HT : Hid (row f 256 = tbl) := tab_last htab.out
      rw [HT.out]
      clear htab HT
      have hs : tbl.size = 256 := row_size _ _
      have h1 : tbl.all (·.oneCell') = true := row_one _ _
      have hr : Hid (((w.alloc (.cells (row (fun _ => 0#32) 256) 96)).alloc (.cells tbl 96)).rangeAt (w.heap.size + 1) 0 tbl.toList) := range_of (by simpa using heap_new (w.alloc (.cells (row (fun _ => 0#32) 256) 96)) _)
      have ht : Hid (((w.alloc (.cells (row (fun _ => 0#32) 256) 96)).alloc (.cells tbl 96)).there w.heap.size 0 256) := there_of (heap_old w _ _) (row_size _ _)
      have hbl : Hid (Below w.heap.size w ((w.alloc (.cells (row (fun _ => 0#32) 256) 96)).alloc (.cells tbl 96))) := (box_below w _).alloc (by simp) _
      have hi : (Try.prog.info? 96).map (·.size) = some tbl.size := by rw [hs]; exact zero256.2
      have HI : Hid ((Try.prog.info? 96).map (·.size) = some tbl.size) := hi
      have HI2 : Hid ((Try.prog.info? 96).map (·.size) = some tbl.toList.length) := by show _ = _; rw [Array.length_toList]; exact hi
      have HS : Hid (tbl.size = 256) := hs
      have H1 : Hid (tbl.all (·.oneCell') = true) := h1
      clear hs h1 hi
      generalize hwv : (w.alloc (.cells (row (fun _ => 0#32) 256) 96)).alloc (.cells tbl 96) = wv at *
      have HL : Hid ((loadVar 96 ⟨w.heap.size, 0, none⟩).run Try.prog (wv.setCells w.heap.size 0 tbl.toList) = .ok (.agg tbl) (wv.setCells w.heap.size 0 tbl.toList)) := by
        have := run_loadVar_mid (P := Try.prog) (wv.setCells w.heap.size 0 tbl.toList) w.heap.size 0 96 tbl.toList _ (World.rangeAt_setCells_same wv w.heap.size 0 tbl.toList (by rw [Array.length_toList, HS.out]; exact ht.out)) Try.underlying96 rfl HI2.out
        rw [Array.toArray_toList] at this
        exact this
      have HB : Hid (Below w.heap.size w (wv.setCells w.heap.size 0 tbl.toList)) := below_setCells (Nat.le_refl _) _ _ hbl.out
      clear hwv hbl
      go_wp2_with (first
        | (refine wpList_load_mid rfl 96 (.tmp 1) rfl (w.heap.size + 1) 0 rfl tbl.toList _ hr.out Try.underlying96 rfl HI2.out ?_; rw [Array.toArray_toList])
        | (refine wpList_store_mid rfl 96 (.tmp 0) (.tmp 26) rfl w.heap.size 0 tbl rfl rfl (by rw [HS.out]; exact ht.out) HI.out H1.out ?_))
      (try simp only [Exit.inBlock, Exit.then])
      refine bodyPost_ret (v := .agg tbl) (results_cell1 rfl _ _ ⟨w.heap.size, 0, none⟩ _ rfl HL.out) rfl ⟨rfl, HB.out⟩
#print axioms table_any
end Go.Proofs.Ytdhjlongdfgejaa.Crc
