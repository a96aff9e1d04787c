/-
  Package strconv writes -0.
-/
import Derived.Test.YtmmmpdfoigkljaaGreatDoorRlS
namespace Go.Proofs.YtmmmpdfoigkljaaGreatDoor.Rl
open Go.RowKit
set_option maxRecDepth 100000

theorem efg_m0 (w : World) (base : Nat) (v : Value) (hbase : base ≤ w.heap.size) (hown : w.ownsRow base 5 1 v 0 []) :
    Calls Tryz.prog 75 #[v, .bool true, .slice none 0 0, .int .i64 0, .int .i64 0, .int .i64 (-1), .int .u8 103, .bool true] w fun e w' => ∃ v', e = .returned v' ∧ w'.ownsRow base 5 1 v' 2 (bvals [45, 48]) ∧ Below base w w' := by
  obtain ⟨i0, hi, hz0, hz1, hz2⟩ := info_parts Tryz.infoU8
  go_enter Tryz.func75, Tryz.ntmps75
  go_wp2_with (at_builtin; refine wpList_append_own _ rfl (.tmp 179) (.tmp 180) 88 rfl base 5 i0 (.int .u8 0) 1 1 Tryz.underlying88 hi hz0 hz1 hz2 rfl (by decide) _ _ _ rfl (hown.alloc _) ⟨w.heap.size, 0, none⟩ 1 1 [.int .u8 45] rfl rfl (cell_one_new _ _ _) (by simp [Value.oneCell']) (by simp [maxLen]) (by simp) (by simp; omega) ?_)
  intro v1 w1 hown1 hgrow1 _
  have hb1 : Below base w w1 := ((Below.refl _ _).alloc (by omega) _).grown hgrow1 (by simp; omega) (fun k hk => (hown.lt k hk).1)
  have hs1 := hb1.size
  replace hown1 : w1.ownsRow base 5 1 v1 1 (bvals [45]) := hown1
  clear hgrow1
  go_wp2_with (at_builtin; refine wpList_append_own _ rfl (.tmp 209) (.tmp 210) 88 rfl base 5 i0 (.int .u8 0) 1 1 Tryz.underlying88 hi hz0 hz1 hz2 rfl (by decide) _ _ _ rfl (hown1.alloc _) ⟨w1.heap.size, 0, none⟩ 1 1 [.int .u8 48] rfl rfl (cell_one_new _ _ _) (by simp [Value.oneCell']) (by simp [maxLen]) (by simp) (by simp only [World.size_alloc]; omega) ?_)
  intro v2 w2 hown2 hgrow2 _
  have hb2 : Below base w w2 := (hb1.alloc (by omega) _).grown hgrow2 (by simp; omega) (fun k hk => (hown1.lt k hk).1)
  go_wp2
  go_ret
  exact ⟨_, rfl, hown2, hb2⟩

theorem ftoa_m0 (w : World) (base : Nat) (v : Value) (hbase : base ≤ w.heap.size) (hown : w.ownsRow base 5 1 v 0 []) :
    Calls Tryz.prog 65 #[v, .float .f64 9223372036854775808, .int .u8 103, .int .i64 (-1)] w fun e w' => ∃ v', e = .returned v' ∧ w'.ownsRow base 5 1 v' 2 (bvals [45, 48]) ∧ Below base w w' := by
  have k1 := sbits_run
  go_enter Tryz.func65, Tryz.ntmps65
  go_wp2_with fail
  go_quiet (fail)
  go_wp2_with fail
  refine (efg_m0 _ base v (by simpa using hbase) (ownsRow_below hown (Qt.below ⟨nq, rfl⟩ _))).mono ?_
  rintro e w1 ⟨v1, rfl, ho, hb⟩
  go_wp2
  go_ret
  exact ⟨_, rfl, ho, (Qt.below (w := w) ⟨nq, rfl⟩ _).trans hb⟩
theorem conv_bytes (w : World) (v : Value) (l : List UInt8) (h : Sl w v l) (hl : 0 < l.length) :
    (convert 88 9 v).run Tryz.prog w = .ok (.string ((l.map fun c => (c.toNat : Int)).foldl (fun r n => r.push (UInt8.ofNat n.toNat)) ByteArray.empty)) w := by
  obtain ⟨ao, cap, rfl, h2, h3, h4, h5⟩ := h
  obtain ⟨b, off, rfl, hc⟩ := Rd.at h5 hl
  rw [run_convert_bytes_string w 88 9 5 _ _ _ Tryz.underlying88 Tryz.underlying5 Tryz.underlying9]
  refine run_bytesToString w _ _ _ _ ?_
  have := run_loadCells_list (P := Tryz.prog) (w := w) ⟨b, off, none⟩ ((l.map fun c => (c.toNat : Int)).map (Value.int .u8)) (by
    intro j v hj
    simp only [List.getElem?_map, Option.map_map] at hj
    by_cases hlt : j < l.length
    · rw [List.getElem?_eq_getElem hlt] at hj
      simp only [Option.map_some, Option.some.injEq, Function.comp] at hj
      rw [addr_add, ← hj]
      exact hc j hlt
    · rw [List.getElem?_eq_none (by omega)] at hj
      simp at hj)
  simpa using this
theorem format_m0 (w : World) :
    Calls Tryz.prog 56 #[.float .f64 9223372036854775808, .int .u8 103, .int .i64 (-1), .int .i64 64] w fun e w' => e = .returned m0 ∧ Below w.heap.size w w' := by
  obtain ⟨i0, hi, hz0, hz1, hz2⟩ := info_parts Tryz.infoU8
  go_enter Tryz.func56, Tryz.ntmps56
  go_wp2_with (at_make; refine wpList_make_own w rfl _ _ 88 rfl w.heap.size 5 i0 (.int .u8 0) 1 Tryz.underlying88 hi hz0 hz1 .i64 .i64 _ 24 rfl rfl (by simp) (by rw [hz2]; omega) (by unfold maxLen; omega) (Nat.le_refl _) ?_)
  intro w1 ho1 hg1
  have hb1 : Below w.heap.size w w1 := (Below.refl _ _).grown hg1 (Nat.le_refl _) (fun k hk => by simp at hk)
  have hsz := hb1.size
  go_wp2_with fail
  refine (ftoa_m0 _ w.heap.size _ hsz ho1).mono ?_
  rintro e w2 ⟨v2, rfl, ho2, hb2⟩
  have hcv := conv_bytes w2 v2 [45, 48] (Sl.of_owns ho2) (by decide)
  clear ho2 ho1 hg1
  go_wp2
  go_ret
  refine ⟨?_, hb1.trans hb2⟩
  rfl
theorem sformat_m0 (w : World) :
    Calls Tryz.prog 44 #[.float .f64 9223372036854775808, .int .u8 103, .int .i64 (-1), .int .i64 64] w fun e w' => e = .returned m0 ∧ Below w.heap.size w w' := by
  go_enter Tryz.func44, Tryz.ntmps44
  go_wp2_with fail
  refine (format_m0 _).mono ?_
  rintro e w1 ⟨rfl, hb⟩
  go_wp2
  go_ret
  exact ⟨rfl, hb⟩
theorem class_m0 : classB 9223372036854775808 = 5 := by decide +kernel
theorem text_m0 (w : World) : Calls Tryz.prog 23 #[.float .f64 9223372036854775808] w fun e w' => e = .returned m0 ∧ Below w.heap.size w w' := by
  go_enter Tryz.func23, Tryz.ntmps23
  go_wp2_with fail
  refine (class_any _ 9223372036854775808 (by omega)).mono ?_
  rintro e w1 ⟨rfl, rfl⟩
  rw [class_m0]
  go_wp2_with fail
  refine (sformat_m0 _).mono ?_
  rintro e w1 ⟨rfl, hb⟩
  go_wp2
  go_ret
  exact ⟨rfl, hb⟩
theorem canon_m0 : canonB 9223372036854775808 = 9223372036854775808 := by decide +kernel
theorem read_m0 (w : World) (hL : Lays w) : Calls Tryz.prog 18 #[m0] w fun e w' => e = .returned (.tuple #[.float .f64 9223372036854775808, .int .i64 0]) ∧ Below w.heap.size w w' := by
  go_enter Tryz.func18, Tryz.ntmps18
  go_wp2_with fail
  refine (parse_m0 _ hL).mono ?_
  rintro e w1 ⟨rfl, rfl⟩
  go_wp2_with fail
  refine (text_m0 _).mono ?_
  rintro e w2 ⟨rfl, hb⟩
  unfold m0
  go_wp2_with fail
  refine (canon_any _ 9223372036854775808 (by omega)).mono ?_
  rintro e w3 ⟨rfl, rfl⟩
  rw [canon_m0]
  go_wp2
  go_ret2
  exact ⟨rfl, hb⟩
#print axioms read_m0
end Go.Proofs.YtmmmpdfoigkljaaGreatDoor.Rl
