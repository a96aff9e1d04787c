/-
  The acts, one by one. (gen_TdG.py)
-/
import Derived.Test.YtiiinpmkidobgaaDoorA01
import Derived.Recover
import Derived.Defers
namespace Go.Proofs.YtiiinpmkidobgaaDoor.Sd
open Go.RowKit
open Ix (wp_region_T wpAnyT wpAnyT_take wpAnyT_one wpAnyT_done vac)
set_option linter.unusedVariables false
set_option linter.unusedSimpArgs false
set_option maxRecDepth 100000
def adv (S : St) (i : Nat) : St := match S.tk[i]? with
  | some t => { S with tk := S.tk.set i { t with pc := t.pc + 1 } }
  | none => S
theorem adv_some {S : St} {i : Nat} {t : Tk} (h : S.tk[i]? = some t) : adv S i = { S with tk := S.tk.set i { t with pc := t.pc + 1 } } := by unfold adv; rw [h]
theorem wr_pc {p : Nat} (h : p ≤ 1000) : wrap64 ((p : Int) + 1) = ((p + 1 : Nat) : Int) := by unfold wrap64; omega
theorem set_pc {w0 w : World} {us : List Value} {rb : Nat} {X : V} {S : St} (h : At w0 us w rb X S) {i : Nat} {t : Tk} (hi : S.tk[i]? = some t) : At w0 us (w.setCell ⟨X.tb, i * 7 + 1, none⟩ (.int .i64 ((t.pc + 1 : Nat) : Int))) rb X (adv S i) ∧ Stp rb X X w (w.setCell ⟨X.tb, i * 7 + 1, none⟩ (.int .i64 ((t.pc + 1 : Nat) : Int))) := by
  rw [adv_some hi]
  exact ⟨h.setT (t' := { t with pc := t.pc + 1 }) hi 0 (by decide) _ rfl rfl, stp_setT h _ _⟩
theorem set_same {tk : List Tk} {i : Nat} {t t' : Tk} (h : tk[i]? = some t) : (tk.set i t')[i]? = some t' := List.getElem?_set_self (List.getElem?_eq_some_iff.1 h).1
set_option maxHeartbeats 4000000 in
theorem do_1 (w0 w : World) (us : List Value) (rb : Nat) (X : V) (S : St) (h : At w0 us w rb X S) (ok : Ok S) {i : Nat} {t : Tk} (hi : S.tk[i]? = some t) {ia : Nat} (hia : ia < 4) (ab an : Int) :
    Calls Tryd.prog 46 #[.pointer (some ⟨rb, 0, none⟩), .pointer (some ⟨X.tb, i * 7, none⟩), .agg #[.int .i64 1, .int .i64 (ia : Int), .int .i64 ab, .int .i64 an]] w fun e w' => e = .returned (.tuple #[]) ∧ ∃ X', X'.tb = X.tb ∧ At w0 us w' rb X' (adv { S with lk := up S.lk ia (some i) } i) ∧ Stp rb X X' w w' := by
  have hpc := (ok.tk t (List.mem_of_getElem? hi)).pc
  have B1 := box_below w (.cells #[.int .i64 1, .int .i64 (ia : Int), .int .i64 ab, .int .i64 an] 45)
  have N1 := heap_alloc_new w (.cells #[.int .i64 1, .int .i64 (ia : Int), .int .i64 ab, .int .i64 an] 45)
  obtain ⟨xb, hxb⟩ : ∃ xb, Hid (w.heap.size = xb) := ⟨_, rfl⟩
  have hxo : Hid (¬ Own rb X xb) := fun c => by have := h.lt xb c; have := hxb.out; omega
  obtain ⟨w1, hw1⟩ : ∃ w1, Hid (w.alloc (.cells #[.int .i64 1, .int .i64 (ia : Int), .int .i64 ab, .int .i64 an] 45) = w1) := ⟨_, rfl⟩
  rw [hw1.out] at B1 N1
  rw [hxb.out] at N1
  have A1 := hide (h.below B1)
  have S1 : Hid (Stp rb X X w w1) := Stp.of_below rb X B1
  obtain ⟨x0, x1, x2, x3⟩ := four_of N1
  have BX := hide N1
  have hiH := hide hi
  clear h B1 N1 hi
  have l0 := A1.out.lcell hia
  have l1 := A1.out.frz (2 + ia)
  have hia' : (ia : Int) < 4 := by omega
  have AN := A1.out.setL hia (some i)
  have SN := S1.out.trans (stp_set A1.out (2 + ia) (lv X.tb (some i)))
  simp only [lv, pt] at AN SN
  have bq := (Below.refl (w1.setCell ⟨rb, 2 + ia, none⟩ (.pointer (some ⟨X.tb, i * 7, none⟩))).heap.size (w1.setCell ⟨rb, 2 + ia, none⟩ (.pointer (some ⟨X.tb, i * 7, none⟩)))).drew
  have AK := hide (AN.below bq)
  have SK := hide (SN.trans (Stp.of_below rb X bq))
  have HK : Hid (({ S with lk := up S.lk ia (some i) } : St).tk[i]? = some t) := hiH.out
  clear AN SN bq
  go_enter Tryd.func46, Tryd.ntmps46
  go_upto_region 1 with fail
  rw [hw1.out, hxb.out]
  go_upto_region 3 with fail
  go_region
  clear l0 l1 A1 S1
  generalize (w1.setCell ⟨rb, 2 + ia, none⟩ (.pointer (some ⟨X.tb, i * 7, none⟩))).drew = w2 at *
  have e1 := (AK.out.tcell HK.out).2.1
  have e2 := AK.out.frzT (i * 7 + 1)
  obtain ⟨P1, P2⟩ := set_pc AK.out HK.out
  have FE := hide (And.intro P1 (SK.out.trans P2))
  have ew := wr_pc (p := t.pc) (Nat.le_trans hpc (by decide))
  clear P1 P2 SK AK
  go_upto_region 31 with fail
  go_wp2_with fail
  go_end0
  exact ⟨rfl, X, rfl, FE.out⟩
set_option maxHeartbeats 4000000 in
theorem do_2 (w0 w : World) (us : List Value) (rb : Nat) (X : V) (S : St) (h : At w0 us w rb X S) (ok : Ok S) {i : Nat} {t : Tk} (hi : S.tk[i]? = some t) {ia : Nat} (hia : ia < 4) (ab an : Int) (hl : S.lk ia = some i) :
    Calls Tryd.prog 46 #[.pointer (some ⟨rb, 0, none⟩), .pointer (some ⟨X.tb, i * 7, none⟩), .agg #[.int .i64 2, .int .i64 (ia : Int), .int .i64 ab, .int .i64 an]] w fun e w' => e = .returned (.tuple #[]) ∧ ∃ X', X'.tb = X.tb ∧ At w0 us w' rb X' (adv { S with lk := up S.lk ia none } i) ∧ Stp rb X X' w w' := by
  have hpc := (ok.tk t (List.mem_of_getElem? hi)).pc
  have B1 := box_below w (.cells #[.int .i64 2, .int .i64 (ia : Int), .int .i64 ab, .int .i64 an] 45)
  have N1 := heap_alloc_new w (.cells #[.int .i64 2, .int .i64 (ia : Int), .int .i64 ab, .int .i64 an] 45)
  obtain ⟨xb, hxb⟩ : ∃ xb, Hid (w.heap.size = xb) := ⟨_, rfl⟩
  have hxo : Hid (¬ Own rb X xb) := fun c => by have := h.lt xb c; have := hxb.out; omega
  obtain ⟨w1, hw1⟩ : ∃ w1, Hid (w.alloc (.cells #[.int .i64 2, .int .i64 (ia : Int), .int .i64 ab, .int .i64 an] 45) = w1) := ⟨_, rfl⟩
  rw [hw1.out] at B1 N1
  rw [hxb.out] at N1
  have A1 := hide (h.below B1)
  have S1 : Hid (Stp rb X X w w1) := Stp.of_below rb X B1
  obtain ⟨x0, x1, x2, x3⟩ := four_of N1
  have BX := hide N1
  have hiH := hide hi
  clear h B1 N1 hi
  have LG := hide (letGo_ok w0 w1 us rb X S A1.out hia hl)
  go_enter Tryd.func46, Tryd.ntmps46
  go_upto_region 1 with fail
  rw [hw1.out, hxb.out]
  go_upto_region 31 with (go_at_call 47; refine LG.out.mono ?_; rintro e w2 ⟨rfl, A2, S2⟩)
  have AK := hide A2
  have SK := hide (S1.out.trans S2)
  have HK : Hid (({ S with lk := up S.lk ia none } : St).tk[i]? = some t) := hiH.out
  clear A2 S2 A1 S1 LG
  have e1 := (AK.out.tcell HK.out).2.1
  have e2 := AK.out.frzT (i * 7 + 1)
  obtain ⟨P1, P2⟩ := set_pc AK.out HK.out
  have FE := hide (And.intro P1 (SK.out.trans P2))
  have ew := wr_pc (p := t.pc) (Nat.le_trans hpc (by decide))
  clear P1 P2 SK AK
  go_wp2_with fail
  go_end0
  exact ⟨rfl, X, rfl, FE.out⟩
set_option maxHeartbeats 4000000 in
theorem do_2n (w0 w : World) (us : List Value) (rb : Nat) (X : V) (S : St) (h : At w0 us w rb X S) (ok : Ok S) {i : Nat} {t : Tk} (hi : S.tk[i]? = some t) {ia : Nat} (hia : ia < 4) (ab an : Int) (hl : S.lk ia ≠ some i) :
    Calls Tryd.prog 46 #[.pointer (some ⟨rb, 0, none⟩), .pointer (some ⟨X.tb, i * 7, none⟩), .agg #[.int .i64 2, .int .i64 (ia : Int), .int .i64 ab, .int .i64 an]] w fun e w' => e = .panicked (thr (-1)) ∧ At w0 us w' rb X S ∧ Stp rb X X w w' := by
  have hpc := (ok.tk t (List.mem_of_getElem? hi)).pc
  have B1 := box_below w (.cells #[.int .i64 2, .int .i64 (ia : Int), .int .i64 ab, .int .i64 an] 45)
  have N1 := heap_alloc_new w (.cells #[.int .i64 2, .int .i64 (ia : Int), .int .i64 ab, .int .i64 an] 45)
  obtain ⟨xb, hxb⟩ : ∃ xb, Hid (w.heap.size = xb) := ⟨_, rfl⟩
  have hxo : Hid (¬ Own rb X xb) := fun c => by have := h.lt xb c; have := hxb.out; omega
  obtain ⟨w1, hw1⟩ : ∃ w1, Hid (w.alloc (.cells #[.int .i64 2, .int .i64 (ia : Int), .int .i64 ab, .int .i64 an] 45) = w1) := ⟨_, rfl⟩
  rw [hw1.out] at B1 N1
  rw [hxb.out] at N1
  have A1 := hide (h.below B1)
  have S1 : Hid (Stp rb X X w w1) := Stp.of_below rb X B1
  obtain ⟨x0, x1, x2, x3⟩ := four_of N1
  have BX := hide N1
  have hiH := hide hi
  clear h B1 N1 hi
  have LG := hide (letGo_no w0 w1 us rb X S A1.out hia hl)
  unfold thr at LG
  go_enter Tryd.func46, Tryd.ntmps46
  go_upto_region 1 with fail
  rw [hw1.out, hxb.out]
  go_wp2_with (go_at_call 47; refine LG.out.mono ?_; rintro e w2 ⟨rfl, hw⟩; rw [hw]; clear hw w2)
  exact ⟨rfl, rfl, A1.out, S1.out⟩
set_option maxHeartbeats 4000000 in
theorem do_3 (w0 w : World) (us : List Value) (rb : Nat) (X : V) (S : St) (h : At w0 us w rb X S) (ok : Ok S) {i : Nat} {t : Tk} (hi : S.tk[i]? = some t) {ia ib : Nat} (hia : ia < 4) (hib : ib < 4) (an : Int) (hs : t.sl = 0) (hl : S.lk ib = some i) :
    Calls Tryd.prog 46 #[.pointer (some ⟨rb, 0, none⟩), .pointer (some ⟨X.tb, i * 7, none⟩), .agg #[.int .i64 3, .int .i64 (ia : Int), .int .i64 (ib : Int), .int .i64 an]] w fun e w' => e = .returned (.tuple #[]) ∧ ∃ X', X'.tb = X.tb ∧ At w0 us w' rb X' ({ S with lk := up S.lk ib none, tk := S.tk.set i { t with sl := 1 }, sl := up S.sl ia (S.sl ia ++ [i]) }) ∧ Stp rb X X' w w' := by
  have hpc := (ok.tk t (List.mem_of_getElem? hi)).pc
  have B1 := box_below w (.cells #[.int .i64 3, .int .i64 (ia : Int), .int .i64 (ib : Int), .int .i64 an] 45)
  have N1 := heap_alloc_new w (.cells #[.int .i64 3, .int .i64 (ia : Int), .int .i64 (ib : Int), .int .i64 an] 45)
  obtain ⟨xb, hxb⟩ : ∃ xb, Hid (w.heap.size = xb) := ⟨_, rfl⟩
  have hxo : Hid (¬ Own rb X xb) := fun c => by have := h.lt xb c; have := hxb.out; omega
  obtain ⟨w1, hw1⟩ : ∃ w1, Hid (w.alloc (.cells #[.int .i64 3, .int .i64 (ia : Int), .int .i64 (ib : Int), .int .i64 an] 45) = w1) := ⟨_, rfl⟩
  rw [hw1.out] at B1 N1
  rw [hxb.out] at N1
  have A1 := hide (h.below B1)
  have S1 : Hid (Stp rb X X w w1) := Stp.of_below rb X B1
  obtain ⟨x0, x1, x2, x3⟩ := four_of N1
  have BX := hide N1
  have hiH := hide hi
  clear h B1 N1 hi
  have FA := hide (fall_ok w0 w1 us rb X S A1.out ok hiH.out 3 an hia hib hl)
  have c2 := (A1.out.tcell hiH.out).2.2.1
  rw [hs] at c2
  go_enter Tryd.func46, Tryd.ntmps46
  go_upto_region 1 with fail
  rw [hw1.out, hxb.out]
  go_wp2_with (go_at_call 48; refine FA.out.mono ?_; rintro e w2 ⟨rfl, X', hX, A2, S2⟩; replace A2 := hide A2; replace S2 := hide S2)
  refine bodyPost_ret (results_none rfl _ _ _) rfl ?_
  exact ⟨rfl, X', hX, A2.out, S1.out.trans S2.out⟩
set_option maxHeartbeats 4000000 in
theorem do_3n (w0 w : World) (us : List Value) (rb : Nat) (X : V) (S : St) (h : At w0 us w rb X S) (ok : Ok S) {i : Nat} {t : Tk} (hi : S.tk[i]? = some t) {ib : Nat} (hib : ib < 4) (aa an : Int) (hs : t.sl = 0) (hl : S.lk ib ≠ some i) :
    Calls Tryd.prog 46 #[.pointer (some ⟨rb, 0, none⟩), .pointer (some ⟨X.tb, i * 7, none⟩), .agg #[.int .i64 3, .int .i64 aa, .int .i64 (ib : Int), .int .i64 an]] w fun e w' => e = .panicked (thr (-1)) ∧ At w0 us w' rb X S ∧ Stp rb X X w w' := by
  have hpc := (ok.tk t (List.mem_of_getElem? hi)).pc
  have B1 := box_below w (.cells #[.int .i64 3, .int .i64 aa, .int .i64 (ib : Int), .int .i64 an] 45)
  have N1 := heap_alloc_new w (.cells #[.int .i64 3, .int .i64 aa, .int .i64 (ib : Int), .int .i64 an] 45)
  obtain ⟨xb, hxb⟩ : ∃ xb, Hid (w.heap.size = xb) := ⟨_, rfl⟩
  have hxo : Hid (¬ Own rb X xb) := fun c => by have := h.lt xb c; have := hxb.out; omega
  obtain ⟨w1, hw1⟩ : ∃ w1, Hid (w.alloc (.cells #[.int .i64 3, .int .i64 aa, .int .i64 (ib : Int), .int .i64 an] 45) = w1) := ⟨_, rfl⟩
  rw [hw1.out] at B1 N1
  rw [hxb.out] at N1
  have A1 := hide (h.below B1)
  have S1 : Hid (Stp rb X X w w1) := Stp.of_below rb X B1
  obtain ⟨x0, x1, x2, x3⟩ := four_of N1
  have BX := hide N1
  have hiH := hide hi
  clear h B1 N1 hi
  have FA := hide (fall_no w0 w1 us rb X S A1.out 3 aa an hib hl)
  have c2 := (A1.out.tcell hiH.out).2.2.1
  rw [hs] at c2
  unfold thr at FA
  go_enter Tryd.func46, Tryd.ntmps46
  go_upto_region 1 with fail
  rw [hw1.out, hxb.out]
  go_wp2_with (go_at_call 48; refine FA.out.mono ?_; rintro e w2 ⟨rfl, b2⟩; replace b2 := hide b2)
  exact ⟨rfl, rfl, A1.out.below b2.out, S1.out.trans (Stp.of_below rb X b2.out)⟩
set_option maxHeartbeats 4000000 in
theorem do_3b (w0 w : World) (us : List Value) (rb : Nat) (X : V) (S : St) (h : At w0 us w rb X S) (ok : Ok S) {i : Nat} {t : Tk} (hi : S.tk[i]? = some t) {ib : Nat} (hib : ib < 4) (aa an : Int) (hs : t.sl ≠ 0) :
    Calls Tryd.prog 46 #[.pointer (some ⟨rb, 0, none⟩), .pointer (some ⟨X.tb, i * 7, none⟩), .agg #[.int .i64 3, .int .i64 aa, .int .i64 (ib : Int), .int .i64 an]] w fun e w' => e = .returned (.tuple #[]) ∧ ∃ X', X'.tb = X.tb ∧ At w0 us w' rb X' (adv { S with lk := up S.lk ib (some i), tk := S.tk.set i { t with sl := 0 } } i) ∧ Stp rb X X' w w' := by
  have hpc := (ok.tk t (List.mem_of_getElem? hi)).pc
  have B1 := box_below w (.cells #[.int .i64 3, .int .i64 aa, .int .i64 (ib : Int), .int .i64 an] 45)
  have N1 := heap_alloc_new w (.cells #[.int .i64 3, .int .i64 aa, .int .i64 (ib : Int), .int .i64 an] 45)
  obtain ⟨xb, hxb⟩ : ∃ xb, Hid (w.heap.size = xb) := ⟨_, rfl⟩
  have hxo : Hid (¬ Own rb X xb) := fun c => by have := h.lt xb c; have := hxb.out; omega
  obtain ⟨w1, hw1⟩ : ∃ w1, Hid (w.alloc (.cells #[.int .i64 3, .int .i64 aa, .int .i64 (ib : Int), .int .i64 an] 45) = w1) := ⟨_, rfl⟩
  rw [hw1.out] at B1 N1
  rw [hxb.out] at N1
  have A1 := hide (h.below B1)
  have S1 : Hid (Stp rb X X w w1) := Stp.of_below rb X B1
  obtain ⟨x0, x1, x2, x3⟩ := four_of N1
  have BX := hide N1
  have hiH := hide hi
  clear h B1 N1 hi
  have c2 := (A1.out.tcell hiH.out).2.2.1
  have hs' : ((t.sl : Int) == 0) = false := by simp; omega
  have l0 := A1.out.lcell hib
  have l1 := A1.out.frz (2 + ib)
  have hib' : (ib : Int) < 4 := by omega
  have AN := A1.out.setL hib (some i)
  have SN := S1.out.trans (stp_set A1.out (2 + ib) (lv X.tb (some i)))
  simp only [lv, pt] at AN SN
  have bq := (Below.refl (w1.setCell ⟨rb, 2 + ib, none⟩ (.pointer (some ⟨X.tb, i * 7, none⟩))).heap.size (w1.setCell ⟨rb, 2 + ib, none⟩ (.pointer (some ⟨X.tb, i * 7, none⟩)))).drew
  have A2 := hide (AN.below bq)
  have S2 := hide (SN.trans (Stp.of_below rb X bq))
  clear AN SN bq
  go_enter Tryd.func46, Tryd.ntmps46
  go_upto_region 1 with fail
  rw [hw1.out, hxb.out]
  go_upto_region 9 with fail
  go_region
  clear l0 l1 A1 S1 c2
  generalize (w1.setCell ⟨rb, 2 + ib, none⟩ (.pointer (some ⟨X.tb, i * 7, none⟩))).drew = w2 at *
  have d2 := (A2.out.tcell (t := t) hiH.out).2.2.1
  have d3 := A2.out.frzT (i * 7 + 2)
  have AK := hide (A2.out.setT (t' := { t with sl := 0 }) hiH.out 1 (by decide) (.int .i64 0) rfl rfl)
  have SK : Hid (Stp rb X X w (w2.setCell ⟨X.tb, i * 7 + 2, none⟩ (.int .i64 0))) := S2.out.trans (stp_setT A2.out _ _)
  have HK : Hid (({ S with lk := up S.lk ib (some i), tk := S.tk.set i { t with sl := 0 } } : St).tk[i]? = some { t with sl := 0 }) := set_same hiH.out
  clear A2 S2
  go_upto_region 31 with fail
  generalize w2.setCell ⟨X.tb, i * 7 + 2, none⟩ (.int .i64 0) = w3 at *
  clear d2 d3
  have e1 := (AK.out.tcell HK.out).2.1
  have e2 := AK.out.frzT (i * 7 + 1)
  obtain ⟨P1, P2⟩ := set_pc AK.out HK.out
  have FE := hide (And.intro P1 (SK.out.trans P2))
  have ew := wr_pc (p := t.pc) (Nat.le_trans hpc (by decide))
  clear P1 P2 SK AK
  go_wp2_with fail
  go_end0
  exact ⟨rfl, X, rfl, FE.out⟩
set_option maxHeartbeats 4000000 in
theorem do_8 (w0 w : World) (us : List Value) (rb : Nat) (X : V) (S : St) (h : At w0 us w rb X S) (ok : Ok S) {i : Nat} {t : Tk} (hi : S.tk[i]? = some t) {ia : Nat} (hia : ia < 8) (ab an : Int) :
    Calls Tryd.prog 46 #[.pointer (some ⟨rb, 0, none⟩), .pointer (some ⟨X.tb, i * 7, none⟩), .agg #[.int .i64 8, .int .i64 (ia : Int), .int .i64 ab, .int .i64 an]] w fun e w' => e = .returned (.tuple #[]) ∧ ∃ X', X'.tb = X.tb ∧ At w0 us w' rb X' (adv { S with rg := up S.rg ia (wrap64 (S.rg ia + an)) } i) ∧ Stp rb X X' w w' := by
  have hpc := (ok.tk t (List.mem_of_getElem? hi)).pc
  have B1 := box_below w (.cells #[.int .i64 8, .int .i64 (ia : Int), .int .i64 ab, .int .i64 an] 45)
  have N1 := heap_alloc_new w (.cells #[.int .i64 8, .int .i64 (ia : Int), .int .i64 ab, .int .i64 an] 45)
  obtain ⟨xb, hxb⟩ : ∃ xb, Hid (w.heap.size = xb) := ⟨_, rfl⟩
  have hxo : Hid (¬ Own rb X xb) := fun c => by have := h.lt xb c; have := hxb.out; omega
  obtain ⟨w1, hw1⟩ : ∃ w1, Hid (w.alloc (.cells #[.int .i64 8, .int .i64 (ia : Int), .int .i64 ab, .int .i64 an] 45) = w1) := ⟨_, rfl⟩
  rw [hw1.out] at B1 N1
  rw [hxb.out] at N1
  have A1 := hide (h.below B1)
  have S1 : Hid (Stp rb X X w w1) := Stp.of_below rb X B1
  obtain ⟨x0, x1, x2, x3⟩ := four_of N1
  have BX := hide N1
  have hiH := hide hi
  clear h B1 N1 hi
  have l0 := A1.out.gcell hia
  have l1 := A1.out.frz (14 + ia)
  have hia' : (ia : Int) < 8 := by omega
  have AN := A1.out.setG hia (wrap64 (S.rg ia + an))
  have SN := S1.out.trans (stp_set A1.out (14 + ia) (.int .i64 (wrap64 (S.rg ia + an))))
  have bq := (Below.refl (w1.setCell ⟨rb, 14 + ia, none⟩ (.int .i64 (wrap64 (S.rg ia + an)))).heap.size (w1.setCell ⟨rb, 14 + ia, none⟩ (.int .i64 (wrap64 (S.rg ia + an))))).drew
  have AK := hide (AN.below bq)
  have SK := hide (SN.trans (Stp.of_below rb X bq))
  have HK : Hid (({ S with rg := up S.rg ia (wrap64 (S.rg ia + an)) } : St).tk[i]? = some t) := hiH.out
  clear AN SN bq
  go_enter Tryd.func46, Tryd.ntmps46
  go_upto_region 1 with fail
  rw [hw1.out, hxb.out]
  go_upto_region 21 with fail
  go_region
  clear A1 S1
  generalize (w1.setCell ⟨rb, 14 + ia, none⟩ (.int .i64 (wrap64 (S.rg ia + an)))).drew = w2 at *
  have e1 := (AK.out.tcell HK.out).2.1
  have e2 := AK.out.frzT (i * 7 + 1)
  obtain ⟨P1, P2⟩ := set_pc AK.out HK.out
  have FE := hide (And.intro P1 (SK.out.trans P2))
  have ew := wr_pc (p := t.pc) (Nat.le_trans hpc (by decide))
  clear P1 P2 SK AK
  go_upto_region 31 with fail
  go_wp2_with fail
  go_end0
  exact ⟨rfl, X, rfl, FE.out⟩
set_option maxHeartbeats 4000000 in
theorem do_9 (w0 w : World) (us : List Value) (rb : Nat) (X : V) (S : St) (h : At w0 us w rb X S) (ok : Ok S) {i : Nat} {t : Tk} (hi : S.tk[i]? = some t) {ia ib : Nat} (hia : ia < 8) (hib : ib < 8) (an : Int) :
    Calls Tryd.prog 46 #[.pointer (some ⟨rb, 0, none⟩), .pointer (some ⟨X.tb, i * 7, none⟩), .agg #[.int .i64 9, .int .i64 (ia : Int), .int .i64 (ib : Int), .int .i64 an]] w fun e w' => e = .returned (.tuple #[]) ∧ ∃ X', X'.tb = X.tb ∧ At w0 us w' rb X' (adv { S with rg := up S.rg ib (S.rg ia) } i) ∧ Stp rb X X' w w' := by
  have hpc := (ok.tk t (List.mem_of_getElem? hi)).pc
  have B1 := box_below w (.cells #[.int .i64 9, .int .i64 (ia : Int), .int .i64 (ib : Int), .int .i64 an] 45)
  have N1 := heap_alloc_new w (.cells #[.int .i64 9, .int .i64 (ia : Int), .int .i64 (ib : Int), .int .i64 an] 45)
  obtain ⟨xb, hxb⟩ : ∃ xb, Hid (w.heap.size = xb) := ⟨_, rfl⟩
  have hxo : Hid (¬ Own rb X xb) := fun c => by have := h.lt xb c; have := hxb.out; omega
  obtain ⟨w1, hw1⟩ : ∃ w1, Hid (w.alloc (.cells #[.int .i64 9, .int .i64 (ia : Int), .int .i64 (ib : Int), .int .i64 an] 45) = w1) := ⟨_, rfl⟩
  rw [hw1.out] at B1 N1
  rw [hxb.out] at N1
  have A1 := hide (h.below B1)
  have S1 : Hid (Stp rb X X w w1) := Stp.of_below rb X B1
  obtain ⟨x0, x1, x2, x3⟩ := four_of N1
  have BX := hide N1
  have hiH := hide hi
  clear h B1 N1 hi
  have l0 := A1.out.gcell hia
  have l2 := A1.out.gcell hib
  have l1 := A1.out.frz (14 + ib)
  have hia' : (ia : Int) < 8 := by omega
  have hib' : (ib : Int) < 8 := by omega
  have AN := A1.out.setG hib (S.rg ia)
  have SN := S1.out.trans (stp_set A1.out (14 + ib) (.int .i64 (S.rg ia)))
  have bq := (Below.refl (w1.setCell ⟨rb, 14 + ib, none⟩ (.int .i64 (S.rg ia))).heap.size (w1.setCell ⟨rb, 14 + ib, none⟩ (.int .i64 (S.rg ia)))).drew
  have AK := hide (AN.below bq)
  have SK := hide (SN.trans (Stp.of_below rb X bq))
  have HK : Hid (({ S with rg := up S.rg ib (S.rg ia) } : St).tk[i]? = some t) := hiH.out
  clear AN SN bq
  go_enter Tryd.func46, Tryd.ntmps46
  go_upto_region 1 with fail
  rw [hw1.out, hxb.out]
  go_upto_region 23 with fail
  go_region
  clear A1 S1
  generalize (w1.setCell ⟨rb, 14 + ib, none⟩ (.int .i64 (S.rg ia))).drew = w2 at *
  have e1 := (AK.out.tcell HK.out).2.1
  have e2 := AK.out.frzT (i * 7 + 1)
  obtain ⟨P1, P2⟩ := set_pc AK.out HK.out
  have FE := hide (And.intro P1 (SK.out.trans P2))
  have ew := wr_pc (p := t.pc) (Nat.le_trans hpc (by decide))
  clear P1 P2 SK AK
  go_upto_region 31 with fail
  go_wp2_with fail
  go_end0
  exact ⟨rfl, X, rfl, FE.out⟩
set_option maxHeartbeats 4000000 in
theorem do_11 (w0 w : World) (us : List Value) (rb : Nat) (X : V) (S : St) (h : At w0 us w rb X S) (ok : Ok S) {i : Nat} {t : Tk} (hi : S.tk[i]? = some t) (aa ab an : Int) :
    Calls Tryd.prog 46 #[.pointer (some ⟨rb, 0, none⟩), .pointer (some ⟨X.tb, i * 7, none⟩), .agg #[.int .i64 11, .int .i64 aa, .int .i64 ab, .int .i64 an]] w fun e w' => e = .returned (.tuple #[]) ∧ ∃ X', X'.tb = X.tb ∧ At w0 us w' rb X' (adv S i) ∧ Stp rb X X' w w' := by
  have hpc := (ok.tk t (List.mem_of_getElem? hi)).pc
  have B1 := box_below w (.cells #[.int .i64 11, .int .i64 aa, .int .i64 ab, .int .i64 an] 45)
  have N1 := heap_alloc_new w (.cells #[.int .i64 11, .int .i64 aa, .int .i64 ab, .int .i64 an] 45)
  obtain ⟨xb, hxb⟩ : ∃ xb, Hid (w.heap.size = xb) := ⟨_, rfl⟩
  have hxo : Hid (¬ Own rb X xb) := fun c => by have := h.lt xb c; have := hxb.out; omega
  obtain ⟨w1, hw1⟩ : ∃ w1, Hid (w.alloc (.cells #[.int .i64 11, .int .i64 aa, .int .i64 ab, .int .i64 an] 45) = w1) := ⟨_, rfl⟩
  rw [hw1.out] at B1 N1
  rw [hxb.out] at N1
  have A1 := hide (h.below B1)
  have S1 : Hid (Stp rb X X w w1) := Stp.of_below rb X B1
  obtain ⟨x0, x1, x2, x3⟩ := four_of N1
  have BX := hide N1
  have hiH := hide hi
  clear h B1 N1 hi
  have AK := A1
  have SK := S1
  have HK := hiH
  go_enter Tryd.func46, Tryd.ntmps46
  go_upto_region 1 with fail
  rw [hw1.out, hxb.out]
  have e1 := (AK.out.tcell HK.out).2.1
  have e2 := AK.out.frzT (i * 7 + 1)
  obtain ⟨P1, P2⟩ := set_pc AK.out HK.out
  have FE := hide (And.intro P1 (SK.out.trans P2))
  have ew := wr_pc (p := t.pc) (Nat.le_trans hpc (by decide))
  clear P1 P2 SK AK
  go_upto_region 31 with fail
  go_wp2_with fail
  go_end0
  exact ⟨rfl, X, rfl, FE.out⟩
set_option maxHeartbeats 4000000 in
theorem do_12 (w0 w : World) (us : List Value) (rb : Nat) (X : V) (S : St) (h : At w0 us w rb X S) (ok : Ok S) {i : Nat} {t : Tk} (hi : S.tk[i]? = some t) (aa ab an : Int) :
    Calls Tryd.prog 46 #[.pointer (some ⟨rb, 0, none⟩), .pointer (some ⟨X.tb, i * 7, none⟩), .agg #[.int .i64 12, .int .i64 aa, .int .i64 ab, .int .i64 an]] w fun e w' => e = .panicked (thr (an)) ∧ At w0 us w' rb X S ∧ Stp rb X X w w' := by
  have hpc := (ok.tk t (List.mem_of_getElem? hi)).pc
  have B1 := box_below w (.cells #[.int .i64 12, .int .i64 aa, .int .i64 ab, .int .i64 an] 45)
  have N1 := heap_alloc_new w (.cells #[.int .i64 12, .int .i64 aa, .int .i64 ab, .int .i64 an] 45)
  obtain ⟨xb, hxb⟩ : ∃ xb, Hid (w.heap.size = xb) := ⟨_, rfl⟩
  have hxo : Hid (¬ Own rb X xb) := fun c => by have := h.lt xb c; have := hxb.out; omega
  obtain ⟨w1, hw1⟩ : ∃ w1, Hid (w.alloc (.cells #[.int .i64 12, .int .i64 aa, .int .i64 ab, .int .i64 an] 45) = w1) := ⟨_, rfl⟩
  rw [hw1.out] at B1 N1
  rw [hxb.out] at N1
  have A1 := hide (h.below B1)
  have S1 : Hid (Stp rb X X w w1) := Stp.of_below rb X B1
  obtain ⟨x0, x1, x2, x3⟩ := four_of N1
  have BX := hide N1
  have hiH := hide hi
  clear h B1 N1 hi
  go_enter Tryd.func46, Tryd.ntmps46
  go_upto_region 1 with fail
  rw [hw1.out, hxb.out]
  go_wp2_with fail
  exact ⟨rfl, rfl, A1.out, S1.out⟩
end Go.Proofs.YtiiinpmkidobgaaDoor.Sd

/-
  The other acts. (gen_TdH.py)
-/
namespace Go.Proofs.YtiiinpmkidobgaaDoor.Sd
open Go.RowKit
open Ix (wp_region_T wpAnyT wpAnyT_take wpAnyT_one wpAnyT_done vac)
set_option linter.unusedVariables false
set_option linter.unusedSimpArgs false
set_option maxRecDepth 100000
theorem wk1_get (tk : List Tk) (j i : Nat) (t : Tk) (h : tk[i]? = some t) : ∃ t', (wk1 tk j)[i]? = some t' ∧ t'.pc = t.pc ∧ t'.ac = t.ac := by
  unfold wk1
  split
  · next x hx =>
    by_cases e : j = i
    · subst e
      rw [h] at hx
      cases hx
      exact ⟨_, set_same h, rfl, rfl⟩
    · rw [List.getElem?_set_ne e]
      exact ⟨t, h, rfl, rfl⟩
  · exact ⟨t, h, rfl, rfl⟩
theorem wk_get (l : List Nat) : ∀ (tk : List Tk) (i : Nat) (t : Tk), tk[i]? = some t → ∃ t', (wk tk l)[i]? = some t' ∧ t'.pc = t.pc ∧ t'.ac = t.ac := by
  induction l with
  | nil => intro tk i t h; exact ⟨t, h, rfl, rfl⟩
  | cons a r ih =>
    intro tk i t h
    obtain ⟨t1, h1, h2, h3⟩ := wk1_get tk a i t h
    obtain ⟨t2, k1, k2, k3⟩ := ih _ i t1 h1
    exact ⟨t2, k1, k2.trans h2, k3.trans h3⟩
theorem wk_pc (l : List Nat) (tk : List Tk) (i : Nat) (t t' : Tk) (h : tk[i]? = some t) (h' : (wk tk l)[i]? = some t') : t'.pc = t.pc := by
  obtain ⟨t2, k1, k2, k3⟩ := wk_get l tk i t h
  rw [h'] at k1
  cases k1
  exact k2
set_option maxHeartbeats 4000000 in
theorem do_4 (w0 w : World) (us : List Value) (rb : Nat) (X : V) (S : St) (h : At w0 us w rb X S) (ok : Ok S) {i : Nat} {t : Tk} (hi : S.tk[i]? = some t) {ia : Nat} (hia : ia < 4) (ab an : Int) :
    Calls Tryd.prog 46 #[.pointer (some ⟨rb, 0, none⟩), .pointer (some ⟨X.tb, i * 7, none⟩), .agg #[.int .i64 4, .int .i64 (ia : Int), .int .i64 ab, .int .i64 an]] w fun e w' => e = .returned (.tuple #[]) ∧ ∃ X', X'.tb = X.tb ∧ At w0 us w' rb X' (adv (wakeS S ia (min 1 (S.sl ia).length)) i) ∧ Stp rb X X' w w' := by
  have hpc := (ok.tk t (List.mem_of_getElem? hi)).pc
  have B1 := box_below w (.cells #[.int .i64 4, .int .i64 (ia : Int), .int .i64 ab, .int .i64 an] 45)
  have N1 := heap_alloc_new w (.cells #[.int .i64 4, .int .i64 (ia : Int), .int .i64 ab, .int .i64 an] 45)
  obtain ⟨xb, hxb⟩ : ∃ xb, Hid (w.heap.size = xb) := ⟨_, rfl⟩
  have hxo : Hid (¬ Own rb X xb) := fun c => by have := h.lt xb c; have := hxb.out; omega
  obtain ⟨w1, hw1⟩ : ∃ w1, Hid (w.alloc (.cells #[.int .i64 4, .int .i64 (ia : Int), .int .i64 ab, .int .i64 an] 45) = w1) := ⟨_, rfl⟩
  rw [hw1.out] at B1 N1
  rw [hxb.out] at N1
  have A1 := hide (h.below B1)
  have S1 : Hid (Stp rb X X w w1) := Stp.of_below rb X B1
  obtain ⟨x0, x1, x2, x3⟩ := four_of N1
  have BX := hide N1
  have hiH := hide hi
  clear h B1 N1 hi
  obtain ⟨L, hL⟩ : ∃ L, Hid ((S.sl ia).length = L) := ⟨_, rfl⟩
  obtain ⟨sa, sc, hsf⟩ := (A1.out.sl ia hia).form
  rw [List.length_map, hL.out] at hsf
  have hia' : (ia : Int) < 4 := by omega
  rw [hL.out]
  by_cases hz : L = 0
  · subst hz
    rw [show min 1 0 = 0 from rfl]
    go_enter Tryd.func46, Tryd.ntmps46
    go_upto_region 1 with fail
    rw [hw1.out, hxb.out]
    go_upto_region 12 with fail
    obtain ⟨cs, c1, c2⟩ := A1.out.cs
    refine wp_region_T (fun q => q.heap[xb]? = some (.cells #[.int .i64 4, .int .i64 (ia : Int), .int .i64 ab, .int .i64 an] 45) ∧ q.heap[rb]? = some (.cells cs 90 (0, 0))) 12 (by kernel_rfl) ?_
    have bq : Below w1.heap.size w1 w1.drew := (Below.refl _ _).drew
    have KP : Hid (w1.drew.heap[xb]? = some (.cells #[.int .i64 4, .int .i64 (ia : Int), .int .i64 ab, .int .i64 an] 45) ∧ w1.drew.heap[rb]? = some (.cells cs 90 (0, 0))) := ⟨BX.out, c1⟩
    have CW := hide (wake_any w0 w1.drew us rb X S (A1.out.below bq) ok hia (n := 0) (by rw [hL.out]; omega))
    have SD : Hid (Stp rb X X w w1.drew) := S1.out.trans (Stp.of_below rb X bq)
    clear bq c1 A1 S1 x0 x1 x2 x3
    generalize w1.drew = q at *
    refine wpAnyT_take (i := 0) (oi := { dst := some 47, op := Op.move (Operand.tmp 0), type := 68, pos := "task.go:74", after := #[], guard := none }) (v := .pointer (some ⟨rb, 0, none⟩)) [12] rfl (by kernel_rfl) (by kernel_rfl) (by kernel_rfl) (by kernel_rfl) (fun _ _ _ h => h) (Or.inl ⟨by rfl, ?_⟩) KP.out ?_
    · intro wq hSw
      obtain ⟨y0, y1, y2, y3⟩ := four_of hSw.1
      have y4 := (cell_of hSw.2).trans (c2.sl ia hia)
      rw [hsf] at y4
      go_simp
    (try simp only [Act.put, List.setIfInBounds_toArray, List.set_cons_zero, List.set_cons_succ])
    refine wpAnyT_take (i := 1) (oi := { dst := some 48, op := Op.fieldAddr 45 (Operand.tmp 5) 1, type := 0, pos := "task.go:74", after := #[], guard := none }) (v := .pointer (some ⟨xb, 1, none⟩)) [2, 12] rfl (by kernel_rfl) (by kernel_rfl) (by kernel_rfl) (by kernel_rfl) (fun _ _ _ h => h) (Or.inl ⟨by rfl, ?_⟩) KP.out ?_
    · intro wq hSw
      obtain ⟨y0, y1, y2, y3⟩ := four_of hSw.1
      have y4 := (cell_of hSw.2).trans (c2.sl ia hia)
      rw [hsf] at y4
      go_simp
    (try simp only [Act.put, List.setIfInBounds_toArray, List.set_cons_zero, List.set_cons_succ])
    refine wpAnyT_take (i := 2) (oi := { dst := some 49, op := Op.load 3 (Operand.tmp 48), type := 3, pos := "task.go:74", after := #[{ on := 1, ground := Ground.data }], guard := none }) (v := .int .i64 (ia : Int)) [12] rfl (by kernel_rfl) (by kernel_rfl) (by kernel_rfl) (by kernel_rfl) (fun _ _ _ h => h) (Or.inl ⟨by rfl, ?_⟩) KP.out ?_
    · intro wq hSw
      obtain ⟨y0, y1, y2, y3⟩ := four_of hSw.1
      have y4 := (cell_of hSw.2).trans (c2.sl ia hia)
      rw [hsf] at y4
      go_simp
    (try simp only [Act.put, List.setIfInBounds_toArray, List.set_cons_zero, List.set_cons_succ])
    refine wpAnyT_take (i := 3) (oi := { dst := some 50, op := Op.move (Operand.tmp 0), type := 68, pos := "task.go:74", after := #[], guard := none }) (v := .pointer (some ⟨rb, 0, none⟩)) [6, 7, 8, 9, 10, 11, 12] rfl (by kernel_rfl) (by kernel_rfl) (by kernel_rfl) (by kernel_rfl) (fun _ _ _ h => h) (Or.inl ⟨by rfl, ?_⟩) KP.out ?_
    · intro wq hSw
      obtain ⟨y0, y1, y2, y3⟩ := four_of hSw.1
      have y4 := (cell_of hSw.2).trans (c2.sl ia hia)
      rw [hsf] at y4
      go_simp
    (try simp only [Act.put, List.setIfInBounds_toArray, List.set_cons_zero, List.set_cons_succ])
    refine wpAnyT_take (i := 4) (oi := { dst := some 51, op := Op.fieldAddr 45 (Operand.tmp 5) 1, type := 0, pos := "task.go:74", after := #[], guard := none }) (v := .pointer (some ⟨xb, 1, none⟩)) [5, 8, 9, 10, 11, 12] rfl (by kernel_rfl) (by kernel_rfl) (by kernel_rfl) (by kernel_rfl) (fun _ _ _ h => h) (Or.inl ⟨by rfl, ?_⟩) KP.out ?_
    · intro wq hSw
      obtain ⟨y0, y1, y2, y3⟩ := four_of hSw.1
      have y4 := (cell_of hSw.2).trans (c2.sl ia hia)
      rw [hsf] at y4
      go_simp
    (try simp only [Act.put, List.setIfInBounds_toArray, List.set_cons_zero, List.set_cons_succ])
    refine wpAnyT_take (i := 5) (oi := { dst := some 52, op := Op.load 3 (Operand.tmp 51), type := 3, pos := "task.go:74", after := #[{ on := 4, ground := Ground.data }], guard := none }) (v := .int .i64 (ia : Int)) [8, 9, 10, 11, 12] rfl (by kernel_rfl) (by kernel_rfl) (by kernel_rfl) (by kernel_rfl) (fun _ _ _ h => h) (Or.inl ⟨by rfl, ?_⟩) KP.out ?_
    · intro wq hSw
      obtain ⟨y0, y1, y2, y3⟩ := four_of hSw.1
      have y4 := (cell_of hSw.2).trans (c2.sl ia hia)
      rw [hsf] at y4
      go_simp
    (try simp only [Act.put, List.setIfInBounds_toArray, List.set_cons_zero, List.set_cons_succ])
    refine wpAnyT_take (i := 6) (oi := { dst := some 53, op := Op.nilCheck (Operand.tmp 50), type := 0, pos := "task.go:74", after := #[{ on := 3, ground := Ground.data }], guard := none }) (v := .pointer (some ⟨rb, 0, none⟩)) [7, 8, 9, 10, 11, 12] rfl (by kernel_rfl) (by kernel_rfl) (by kernel_rfl) (by kernel_rfl) (fun _ _ _ h => h) (Or.inl ⟨by rfl, ?_⟩) KP.out ?_
    · intro wq hSw
      obtain ⟨y0, y1, y2, y3⟩ := four_of hSw.1
      have y4 := (cell_of hSw.2).trans (c2.sl ia hia)
      rw [hsf] at y4
      go_simp
    (try simp only [Act.put, List.setIfInBounds_toArray, List.set_cons_zero, List.set_cons_succ])
    refine wpAnyT_take (i := 7) (oi := { dst := some 54, op := Op.fieldAddr 90 (Operand.tmp 53) 3, type := 0, pos := "task.go:74", after := #[{ on := 6, ground := Ground.data }], guard := none }) (v := .pointer (some ⟨rb, 6, none⟩)) [8, 9, 10, 11, 12] rfl (by kernel_rfl) (by kernel_rfl) (by kernel_rfl) (by kernel_rfl) (fun _ _ _ h => h) (Or.inl ⟨by rfl, ?_⟩) KP.out ?_
    · intro wq hSw
      obtain ⟨y0, y1, y2, y3⟩ := four_of hSw.1
      have y4 := (cell_of hSw.2).trans (c2.sl ia hia)
      rw [hsf] at y4
      go_simp
    (try simp only [Act.put, List.setIfInBounds_toArray, List.set_cons_zero, List.set_cons_succ])
    refine wpAnyT_take (i := 8) (oi := { dst := some 55, op := Op.indexAddr 88 (Operand.tmp 54) (Operand.tmp 52), type := 0, pos := "task.go:74", after := #[{ on := 7, ground := Ground.data }, { on := 5, ground := Ground.data }], guard := none }) (v := .pointer (some ⟨rb, 6 + ia, none⟩)) [9, 10, 11, 12] rfl (by kernel_rfl) (by kernel_rfl) (by kernel_rfl) (by kernel_rfl) (fun _ _ _ h => h) (Or.inl ⟨by rfl, ?_⟩) KP.out ?_
    · intro wq hSw
      obtain ⟨y0, y1, y2, y3⟩ := four_of hSw.1
      have y4 := (cell_of hSw.2).trans (c2.sl ia hia)
      rw [hsf] at y4
      go_simp
    (try simp only [Act.put, List.setIfInBounds_toArray, List.set_cons_zero, List.set_cons_succ])
    refine wpAnyT_take (i := 9) (oi := { dst := some 56, op := Op.load 87 (Operand.tmp 55), type := 87, pos := "task.go:74", after := #[{ on := 8, ground := Ground.data }], guard := none }) (v := .slice sa 0 sc) [10, 11, 12] rfl (by kernel_rfl) (by kernel_rfl) (by kernel_rfl) (by kernel_rfl) (fun _ _ _ h => h) (Or.inl ⟨by rfl, ?_⟩) KP.out ?_
    · intro wq hSw
      obtain ⟨y0, y1, y2, y3⟩ := four_of hSw.1
      have y4 := (cell_of hSw.2).trans (c2.sl ia hia)
      rw [hsf] at y4
      go_simp
    (try simp only [Act.put, List.setIfInBounds_toArray, List.set_cons_zero, List.set_cons_succ])
    refine wpAnyT_take (i := 10) (oi := { dst := some 57, op := Op.call { callee := Callee.builtin Builtin.len, args := #[Operand.tmp 56], argTypes := #[87] }, type := 3, pos := "task.go:74", after := #[{ on := 9, ground := Ground.data }], guard := none }) (v := .int .i64 0) [11, 12] rfl (by kernel_rfl) (by kernel_rfl) (by kernel_rfl) (by kernel_rfl) (fun _ _ _ h => h) (Or.inl ⟨by rfl, ?_⟩) KP.out ?_
    · intro wq hSw
      obtain ⟨y0, y1, y2, y3⟩ := four_of hSw.1
      have y4 := (cell_of hSw.2).trans (c2.sl ia hia)
      rw [hsf] at y4
      go_simp
    (try simp only [Act.put, List.setIfInBounds_toArray, List.set_cons_zero, List.set_cons_succ])
    refine wpAnyT_take (i := 11) (oi := { dst := some 58, op := Op.call { callee := Callee.builtin Builtin.min, args := #[Operand.const (Value.int IntKind.i64 1), Operand.tmp 57], argTypes := #[3, 3] }, type := 3, pos := "task.go:74", after := #[{ on := 10, ground := Ground.data }], guard := none }) (v := .int .i64 0) [12] rfl (by kernel_rfl) (by kernel_rfl) (by kernel_rfl) (by kernel_rfl) (fun _ _ _ h => h) (Or.inl ⟨by rfl, ?_⟩) KP.out ?_
    · intro wq hSw
      obtain ⟨y0, y1, y2, y3⟩ := four_of hSw.1
      have y4 := (cell_of hSw.2).trans (c2.sl ia hia)
      rw [hsf] at y4
      go_simp
    (try simp only [Act.put, List.setIfInBounds_toArray, List.set_cons_zero, List.set_cons_succ])
    refine wpAnyT_one (i := 12) (o := { dst := some 59, op := Op.call { callee := Callee.value (Operand.func 49), args := #[Operand.tmp 47, Operand.tmp 49, Operand.tmp 58], argTypes := #[68, 3, 3] }, type := 0, pos := "task.go:74", after := #[{ on := 0, ground := Ground.data }, { on := 2, ground := Ground.data }, { on := 11, ground := Ground.data }], guard := none }) (by kernel_rfl) rfl (fun K hK => ?_)
    go_simp
    go_at_call 49
    refine CW.out.mono ?_
    rintro e q2 ⟨rfl, X', hX, A2, S2⟩
    (try go_simp)
    refine hK.out _ _ (vac (by kernel_rfl)) ?_
    clear hK K
    (try simp only [Act.put, List.setIfInBounds_toArray, List.set_cons_zero, List.set_cons_succ])
    refine wpAnyT_done (by kernel_rfl) ?_ _
    obtain ⟨tK, htK⟩ : ∃ tK, (wakeS S ia (0)).tk[i]? = some tK := ⟨_, List.getElem?_eq_getElem (by show i < (wk S.tk _).length; rw [wk_len]; exact (List.getElem?_eq_some_iff.1 hiH.out).1)⟩
    have hpcK : tK.pc = t.pc := wk_pc _ _ _ _ _ hiH.out htK
    rw [← hpcK] at hpc
    have e1 := (A2.tcell htK).2.1
    have e2 := A2.frzT (i * 7 + 1)
    obtain ⟨P1, P2⟩ := set_pc A2 htK
    have FE := hide (And.intro P1 ((SD.out.trans S2).trans P2))
    rw [hX] at e1 e2 FE
    have ew := wr_pc (p := tK.pc) (Nat.le_trans hpc (by decide))
    clear P1 P2 A2 S2 SD CW KP hpcK htK
    go_upto_region 31 with fail
    go_wp2_with fail
    go_end0
    exact ⟨rfl, X', hX, FE.out⟩
  · have hm : min 1 L = 1 := by omega
    have hm' : (1 : Int) ≤ (L : Int) := by omega
    have hm2 : ¬ (L : Int) < 1 := by omega
    rw [hm]
    go_enter Tryd.func46, Tryd.ntmps46
    go_upto_region 1 with fail
    rw [hw1.out, hxb.out]
    go_upto_region 12 with fail
    obtain ⟨cs, c1, c2⟩ := A1.out.cs
    refine wp_region_T (fun q => q.heap[xb]? = some (.cells #[.int .i64 4, .int .i64 (ia : Int), .int .i64 ab, .int .i64 an] 45) ∧ q.heap[rb]? = some (.cells cs 90 (0, 0))) 12 (by kernel_rfl) ?_
    have bq : Below w1.heap.size w1 w1.drew := (Below.refl _ _).drew
    have KP : Hid (w1.drew.heap[xb]? = some (.cells #[.int .i64 4, .int .i64 (ia : Int), .int .i64 ab, .int .i64 an] 45) ∧ w1.drew.heap[rb]? = some (.cells cs 90 (0, 0))) := ⟨BX.out, c1⟩
    have CW := hide (wake_any w0 w1.drew us rb X S (A1.out.below bq) ok hia (n := 1) (by rw [hL.out]; omega))
    have SD : Hid (Stp rb X X w w1.drew) := S1.out.trans (Stp.of_below rb X bq)
    clear bq c1 A1 S1 x0 x1 x2 x3
    generalize w1.drew = q at *
    refine wpAnyT_take (i := 0) (oi := { dst := some 47, op := Op.move (Operand.tmp 0), type := 68, pos := "task.go:74", after := #[], guard := none }) (v := .pointer (some ⟨rb, 0, none⟩)) [12] rfl (by kernel_rfl) (by kernel_rfl) (by kernel_rfl) (by kernel_rfl) (fun _ _ _ h => h) (Or.inl ⟨by rfl, ?_⟩) KP.out ?_
    · intro wq hSw
      obtain ⟨y0, y1, y2, y3⟩ := four_of hSw.1
      have y4 := (cell_of hSw.2).trans (c2.sl ia hia)
      rw [hsf] at y4
      go_simp
    (try simp only [Act.put, List.setIfInBounds_toArray, List.set_cons_zero, List.set_cons_succ])
    refine wpAnyT_take (i := 1) (oi := { dst := some 48, op := Op.fieldAddr 45 (Operand.tmp 5) 1, type := 0, pos := "task.go:74", after := #[], guard := none }) (v := .pointer (some ⟨xb, 1, none⟩)) [2, 12] rfl (by kernel_rfl) (by kernel_rfl) (by kernel_rfl) (by kernel_rfl) (fun _ _ _ h => h) (Or.inl ⟨by rfl, ?_⟩) KP.out ?_
    · intro wq hSw
      obtain ⟨y0, y1, y2, y3⟩ := four_of hSw.1
      have y4 := (cell_of hSw.2).trans (c2.sl ia hia)
      rw [hsf] at y4
      go_simp
    (try simp only [Act.put, List.setIfInBounds_toArray, List.set_cons_zero, List.set_cons_succ])
    refine wpAnyT_take (i := 2) (oi := { dst := some 49, op := Op.load 3 (Operand.tmp 48), type := 3, pos := "task.go:74", after := #[{ on := 1, ground := Ground.data }], guard := none }) (v := .int .i64 (ia : Int)) [12] rfl (by kernel_rfl) (by kernel_rfl) (by kernel_rfl) (by kernel_rfl) (fun _ _ _ h => h) (Or.inl ⟨by rfl, ?_⟩) KP.out ?_
    · intro wq hSw
      obtain ⟨y0, y1, y2, y3⟩ := four_of hSw.1
      have y4 := (cell_of hSw.2).trans (c2.sl ia hia)
      rw [hsf] at y4
      go_simp
    (try simp only [Act.put, List.setIfInBounds_toArray, List.set_cons_zero, List.set_cons_succ])
    refine wpAnyT_take (i := 3) (oi := { dst := some 50, op := Op.move (Operand.tmp 0), type := 68, pos := "task.go:74", after := #[], guard := none }) (v := .pointer (some ⟨rb, 0, none⟩)) [6, 7, 8, 9, 10, 11, 12] rfl (by kernel_rfl) (by kernel_rfl) (by kernel_rfl) (by kernel_rfl) (fun _ _ _ h => h) (Or.inl ⟨by rfl, ?_⟩) KP.out ?_
    · intro wq hSw
      obtain ⟨y0, y1, y2, y3⟩ := four_of hSw.1
      have y4 := (cell_of hSw.2).trans (c2.sl ia hia)
      rw [hsf] at y4
      go_simp
    (try simp only [Act.put, List.setIfInBounds_toArray, List.set_cons_zero, List.set_cons_succ])
    refine wpAnyT_take (i := 4) (oi := { dst := some 51, op := Op.fieldAddr 45 (Operand.tmp 5) 1, type := 0, pos := "task.go:74", after := #[], guard := none }) (v := .pointer (some ⟨xb, 1, none⟩)) [5, 8, 9, 10, 11, 12] rfl (by kernel_rfl) (by kernel_rfl) (by kernel_rfl) (by kernel_rfl) (fun _ _ _ h => h) (Or.inl ⟨by rfl, ?_⟩) KP.out ?_
    · intro wq hSw
      obtain ⟨y0, y1, y2, y3⟩ := four_of hSw.1
      have y4 := (cell_of hSw.2).trans (c2.sl ia hia)
      rw [hsf] at y4
      go_simp
    (try simp only [Act.put, List.setIfInBounds_toArray, List.set_cons_zero, List.set_cons_succ])
    refine wpAnyT_take (i := 5) (oi := { dst := some 52, op := Op.load 3 (Operand.tmp 51), type := 3, pos := "task.go:74", after := #[{ on := 4, ground := Ground.data }], guard := none }) (v := .int .i64 (ia : Int)) [8, 9, 10, 11, 12] rfl (by kernel_rfl) (by kernel_rfl) (by kernel_rfl) (by kernel_rfl) (fun _ _ _ h => h) (Or.inl ⟨by rfl, ?_⟩) KP.out ?_
    · intro wq hSw
      obtain ⟨y0, y1, y2, y3⟩ := four_of hSw.1
      have y4 := (cell_of hSw.2).trans (c2.sl ia hia)
      rw [hsf] at y4
      go_simp
    (try simp only [Act.put, List.setIfInBounds_toArray, List.set_cons_zero, List.set_cons_succ])
    refine wpAnyT_take (i := 6) (oi := { dst := some 53, op := Op.nilCheck (Operand.tmp 50), type := 0, pos := "task.go:74", after := #[{ on := 3, ground := Ground.data }], guard := none }) (v := .pointer (some ⟨rb, 0, none⟩)) [7, 8, 9, 10, 11, 12] rfl (by kernel_rfl) (by kernel_rfl) (by kernel_rfl) (by kernel_rfl) (fun _ _ _ h => h) (Or.inl ⟨by rfl, ?_⟩) KP.out ?_
    · intro wq hSw
      obtain ⟨y0, y1, y2, y3⟩ := four_of hSw.1
      have y4 := (cell_of hSw.2).trans (c2.sl ia hia)
      rw [hsf] at y4
      go_simp
    (try simp only [Act.put, List.setIfInBounds_toArray, List.set_cons_zero, List.set_cons_succ])
    refine wpAnyT_take (i := 7) (oi := { dst := some 54, op := Op.fieldAddr 90 (Operand.tmp 53) 3, type := 0, pos := "task.go:74", after := #[{ on := 6, ground := Ground.data }], guard := none }) (v := .pointer (some ⟨rb, 6, none⟩)) [8, 9, 10, 11, 12] rfl (by kernel_rfl) (by kernel_rfl) (by kernel_rfl) (by kernel_rfl) (fun _ _ _ h => h) (Or.inl ⟨by rfl, ?_⟩) KP.out ?_
    · intro wq hSw
      obtain ⟨y0, y1, y2, y3⟩ := four_of hSw.1
      have y4 := (cell_of hSw.2).trans (c2.sl ia hia)
      rw [hsf] at y4
      go_simp
    (try simp only [Act.put, List.setIfInBounds_toArray, List.set_cons_zero, List.set_cons_succ])
    refine wpAnyT_take (i := 8) (oi := { dst := some 55, op := Op.indexAddr 88 (Operand.tmp 54) (Operand.tmp 52), type := 0, pos := "task.go:74", after := #[{ on := 7, ground := Ground.data }, { on := 5, ground := Ground.data }], guard := none }) (v := .pointer (some ⟨rb, 6 + ia, none⟩)) [9, 10, 11, 12] rfl (by kernel_rfl) (by kernel_rfl) (by kernel_rfl) (by kernel_rfl) (fun _ _ _ h => h) (Or.inl ⟨by rfl, ?_⟩) KP.out ?_
    · intro wq hSw
      obtain ⟨y0, y1, y2, y3⟩ := four_of hSw.1
      have y4 := (cell_of hSw.2).trans (c2.sl ia hia)
      rw [hsf] at y4
      go_simp
    (try simp only [Act.put, List.setIfInBounds_toArray, List.set_cons_zero, List.set_cons_succ])
    refine wpAnyT_take (i := 9) (oi := { dst := some 56, op := Op.load 87 (Operand.tmp 55), type := 87, pos := "task.go:74", after := #[{ on := 8, ground := Ground.data }], guard := none }) (v := .slice sa L sc) [10, 11, 12] rfl (by kernel_rfl) (by kernel_rfl) (by kernel_rfl) (by kernel_rfl) (fun _ _ _ h => h) (Or.inl ⟨by rfl, ?_⟩) KP.out ?_
    · intro wq hSw
      obtain ⟨y0, y1, y2, y3⟩ := four_of hSw.1
      have y4 := (cell_of hSw.2).trans (c2.sl ia hia)
      rw [hsf] at y4
      go_simp
    (try simp only [Act.put, List.setIfInBounds_toArray, List.set_cons_zero, List.set_cons_succ])
    refine wpAnyT_take (i := 10) (oi := { dst := some 57, op := Op.call { callee := Callee.builtin Builtin.len, args := #[Operand.tmp 56], argTypes := #[87] }, type := 3, pos := "task.go:74", after := #[{ on := 9, ground := Ground.data }], guard := none }) (v := .int .i64 (L : Int)) [11, 12] rfl (by kernel_rfl) (by kernel_rfl) (by kernel_rfl) (by kernel_rfl) (fun _ _ _ h => h) (Or.inl ⟨by rfl, ?_⟩) KP.out ?_
    · intro wq hSw
      obtain ⟨y0, y1, y2, y3⟩ := four_of hSw.1
      have y4 := (cell_of hSw.2).trans (c2.sl ia hia)
      rw [hsf] at y4
      go_simp
    (try simp only [Act.put, List.setIfInBounds_toArray, List.set_cons_zero, List.set_cons_succ])
    refine wpAnyT_take (i := 11) (oi := { dst := some 58, op := Op.call { callee := Callee.builtin Builtin.min, args := #[Operand.const (Value.int IntKind.i64 1), Operand.tmp 57], argTypes := #[3, 3] }, type := 3, pos := "task.go:74", after := #[{ on := 10, ground := Ground.data }], guard := none }) (v := .int .i64 1) [12] rfl (by kernel_rfl) (by kernel_rfl) (by kernel_rfl) (by kernel_rfl) (fun _ _ _ h => h) (Or.inl ⟨by rfl, ?_⟩) KP.out ?_
    · intro wq hSw
      obtain ⟨y0, y1, y2, y3⟩ := four_of hSw.1
      have y4 := (cell_of hSw.2).trans (c2.sl ia hia)
      rw [hsf] at y4
      go_simp
    (try simp only [Act.put, List.setIfInBounds_toArray, List.set_cons_zero, List.set_cons_succ])
    refine wpAnyT_one (i := 12) (o := { dst := some 59, op := Op.call { callee := Callee.value (Operand.func 49), args := #[Operand.tmp 47, Operand.tmp 49, Operand.tmp 58], argTypes := #[68, 3, 3] }, type := 0, pos := "task.go:74", after := #[{ on := 0, ground := Ground.data }, { on := 2, ground := Ground.data }, { on := 11, ground := Ground.data }], guard := none }) (by kernel_rfl) rfl (fun K hK => ?_)
    go_simp
    go_at_call 49
    refine CW.out.mono ?_
    rintro e q2 ⟨rfl, X', hX, A2, S2⟩
    (try go_simp)
    refine hK.out _ _ (vac (by kernel_rfl)) ?_
    clear hK K
    (try simp only [Act.put, List.setIfInBounds_toArray, List.set_cons_zero, List.set_cons_succ])
    refine wpAnyT_done (by kernel_rfl) ?_ _
    obtain ⟨tK, htK⟩ : ∃ tK, (wakeS S ia (1)).tk[i]? = some tK := ⟨_, List.getElem?_eq_getElem (by show i < (wk S.tk _).length; rw [wk_len]; exact (List.getElem?_eq_some_iff.1 hiH.out).1)⟩
    have hpcK : tK.pc = t.pc := wk_pc _ _ _ _ _ hiH.out htK
    rw [← hpcK] at hpc
    have e1 := (A2.tcell htK).2.1
    have e2 := A2.frzT (i * 7 + 1)
    obtain ⟨P1, P2⟩ := set_pc A2 htK
    have FE := hide (And.intro P1 ((SD.out.trans S2).trans P2))
    rw [hX] at e1 e2 FE
    have ew := wr_pc (p := tK.pc) (Nat.le_trans hpc (by decide))
    clear P1 P2 A2 S2 SD CW KP hpcK htK
    go_upto_region 31 with fail
    go_wp2_with fail
    go_end0
    exact ⟨rfl, X', hX, FE.out⟩
set_option maxHeartbeats 4000000 in
theorem do_5 (w0 w : World) (us : List Value) (rb : Nat) (X : V) (S : St) (h : At w0 us w rb X S) (ok : Ok S) {i : Nat} {t : Tk} (hi : S.tk[i]? = some t) {ia : Nat} (hia : ia < 4) (ab an : Int) :
    Calls Tryd.prog 46 #[.pointer (some ⟨rb, 0, none⟩), .pointer (some ⟨X.tb, i * 7, none⟩), .agg #[.int .i64 5, .int .i64 (ia : Int), .int .i64 ab, .int .i64 an]] w fun e w' => e = .returned (.tuple #[]) ∧ ∃ X', X'.tb = X.tb ∧ At w0 us w' rb X' (adv (wakeS S ia (S.sl ia).length) i) ∧ Stp rb X X' w w' := by
  have hpc := (ok.tk t (List.mem_of_getElem? hi)).pc
  have B1 := box_below w (.cells #[.int .i64 5, .int .i64 (ia : Int), .int .i64 ab, .int .i64 an] 45)
  have N1 := heap_alloc_new w (.cells #[.int .i64 5, .int .i64 (ia : Int), .int .i64 ab, .int .i64 an] 45)
  obtain ⟨xb, hxb⟩ : ∃ xb, Hid (w.heap.size = xb) := ⟨_, rfl⟩
  have hxo : Hid (¬ Own rb X xb) := fun c => by have := h.lt xb c; have := hxb.out; omega
  obtain ⟨w1, hw1⟩ : ∃ w1, Hid (w.alloc (.cells #[.int .i64 5, .int .i64 (ia : Int), .int .i64 ab, .int .i64 an] 45) = w1) := ⟨_, rfl⟩
  rw [hw1.out] at B1 N1
  rw [hxb.out] at N1
  have A1 := hide (h.below B1)
  have S1 : Hid (Stp rb X X w w1) := Stp.of_below rb X B1
  obtain ⟨x0, x1, x2, x3⟩ := four_of N1
  have BX := hide N1
  have hiH := hide hi
  clear h B1 N1 hi
  obtain ⟨L, hL⟩ : ∃ L, Hid ((S.sl ia).length = L) := ⟨_, rfl⟩
  obtain ⟨sa, sc, hsf⟩ := (A1.out.sl ia hia).form
  rw [List.length_map, hL.out] at hsf
  have hia' : (ia : Int) < 4 := by omega
  rw [hL.out]
  go_enter Tryd.func46, Tryd.ntmps46
  go_upto_region 1 with fail
  rw [hw1.out, hxb.out]
  go_upto_region 14 with fail
  obtain ⟨cs, c1, c2⟩ := A1.out.cs
  refine wp_region_T (fun q => q.heap[xb]? = some (.cells #[.int .i64 5, .int .i64 (ia : Int), .int .i64 ab, .int .i64 an] 45) ∧ q.heap[rb]? = some (.cells cs 90 (0, 0))) 11 (by kernel_rfl) ?_
  have bq : Below w1.heap.size w1 w1.drew := (Below.refl _ _).drew
  have KP : Hid (w1.drew.heap[xb]? = some (.cells #[.int .i64 5, .int .i64 (ia : Int), .int .i64 ab, .int .i64 an] 45) ∧ w1.drew.heap[rb]? = some (.cells cs 90 (0, 0))) := ⟨BX.out, c1⟩
  have CW := hide (wake_any w0 w1.drew us rb X S (A1.out.below bq) ok hia (n := L) (by rw [hL.out]; omega))
  have SD : Hid (Stp rb X X w w1.drew) := S1.out.trans (Stp.of_below rb X bq)
  clear bq c1 A1 S1 x0 x1 x2 x3
  generalize w1.drew = q at *
  refine wpAnyT_take (i := 0) (oi := { dst := some 62, op := Op.move (Operand.tmp 0), type := 68, pos := "task.go:76", after := #[], guard := none }) (v := .pointer (some ⟨rb, 0, none⟩)) [11] rfl (by kernel_rfl) (by kernel_rfl) (by kernel_rfl) (by kernel_rfl) (fun _ _ _ h => h) (Or.inl ⟨by rfl, ?_⟩) KP.out ?_
  · intro wq hSw
    obtain ⟨y0, y1, y2, y3⟩ := four_of hSw.1
    have y4 := (cell_of hSw.2).trans (c2.sl ia hia)
    rw [hsf] at y4
    go_simp
  (try simp only [Act.put, List.setIfInBounds_toArray, List.set_cons_zero, List.set_cons_succ])
  refine wpAnyT_take (i := 1) (oi := { dst := some 63, op := Op.fieldAddr 45 (Operand.tmp 5) 1, type := 0, pos := "task.go:76", after := #[], guard := none }) (v := .pointer (some ⟨xb, 1, none⟩)) [2, 11] rfl (by kernel_rfl) (by kernel_rfl) (by kernel_rfl) (by kernel_rfl) (fun _ _ _ h => h) (Or.inl ⟨by rfl, ?_⟩) KP.out ?_
  · intro wq hSw
    obtain ⟨y0, y1, y2, y3⟩ := four_of hSw.1
    have y4 := (cell_of hSw.2).trans (c2.sl ia hia)
    rw [hsf] at y4
    go_simp
  (try simp only [Act.put, List.setIfInBounds_toArray, List.set_cons_zero, List.set_cons_succ])
  refine wpAnyT_take (i := 2) (oi := { dst := some 64, op := Op.load 3 (Operand.tmp 63), type := 3, pos := "task.go:76", after := #[{ on := 1, ground := Ground.data }], guard := none }) (v := .int .i64 (ia : Int)) [11] rfl (by kernel_rfl) (by kernel_rfl) (by kernel_rfl) (by kernel_rfl) (fun _ _ _ h => h) (Or.inl ⟨by rfl, ?_⟩) KP.out ?_
  · intro wq hSw
    obtain ⟨y0, y1, y2, y3⟩ := four_of hSw.1
    have y4 := (cell_of hSw.2).trans (c2.sl ia hia)
    rw [hsf] at y4
    go_simp
  (try simp only [Act.put, List.setIfInBounds_toArray, List.set_cons_zero, List.set_cons_succ])
  refine wpAnyT_take (i := 3) (oi := { dst := some 65, op := Op.move (Operand.tmp 0), type := 68, pos := "task.go:76", after := #[], guard := none }) (v := .pointer (some ⟨rb, 0, none⟩)) [6, 7, 8, 9, 10, 11] rfl (by kernel_rfl) (by kernel_rfl) (by kernel_rfl) (by kernel_rfl) (fun _ _ _ h => h) (Or.inl ⟨by rfl, ?_⟩) KP.out ?_
  · intro wq hSw
    obtain ⟨y0, y1, y2, y3⟩ := four_of hSw.1
    have y4 := (cell_of hSw.2).trans (c2.sl ia hia)
    rw [hsf] at y4
    go_simp
  (try simp only [Act.put, List.setIfInBounds_toArray, List.set_cons_zero, List.set_cons_succ])
  refine wpAnyT_take (i := 4) (oi := { dst := some 66, op := Op.fieldAddr 45 (Operand.tmp 5) 1, type := 0, pos := "task.go:76", after := #[], guard := none }) (v := .pointer (some ⟨xb, 1, none⟩)) [5, 8, 9, 10, 11] rfl (by kernel_rfl) (by kernel_rfl) (by kernel_rfl) (by kernel_rfl) (fun _ _ _ h => h) (Or.inl ⟨by rfl, ?_⟩) KP.out ?_
  · intro wq hSw
    obtain ⟨y0, y1, y2, y3⟩ := four_of hSw.1
    have y4 := (cell_of hSw.2).trans (c2.sl ia hia)
    rw [hsf] at y4
    go_simp
  (try simp only [Act.put, List.setIfInBounds_toArray, List.set_cons_zero, List.set_cons_succ])
  refine wpAnyT_take (i := 5) (oi := { dst := some 67, op := Op.load 3 (Operand.tmp 66), type := 3, pos := "task.go:76", after := #[{ on := 4, ground := Ground.data }], guard := none }) (v := .int .i64 (ia : Int)) [8, 9, 10, 11] rfl (by kernel_rfl) (by kernel_rfl) (by kernel_rfl) (by kernel_rfl) (fun _ _ _ h => h) (Or.inl ⟨by rfl, ?_⟩) KP.out ?_
  · intro wq hSw
    obtain ⟨y0, y1, y2, y3⟩ := four_of hSw.1
    have y4 := (cell_of hSw.2).trans (c2.sl ia hia)
    rw [hsf] at y4
    go_simp
  (try simp only [Act.put, List.setIfInBounds_toArray, List.set_cons_zero, List.set_cons_succ])
  refine wpAnyT_take (i := 6) (oi := { dst := some 68, op := Op.nilCheck (Operand.tmp 65), type := 0, pos := "task.go:76", after := #[{ on := 3, ground := Ground.data }], guard := none }) (v := .pointer (some ⟨rb, 0, none⟩)) [7, 8, 9, 10, 11] rfl (by kernel_rfl) (by kernel_rfl) (by kernel_rfl) (by kernel_rfl) (fun _ _ _ h => h) (Or.inl ⟨by rfl, ?_⟩) KP.out ?_
  · intro wq hSw
    obtain ⟨y0, y1, y2, y3⟩ := four_of hSw.1
    have y4 := (cell_of hSw.2).trans (c2.sl ia hia)
    rw [hsf] at y4
    go_simp
  (try simp only [Act.put, List.setIfInBounds_toArray, List.set_cons_zero, List.set_cons_succ])
  refine wpAnyT_take (i := 7) (oi := { dst := some 69, op := Op.fieldAddr 90 (Operand.tmp 68) 3, type := 0, pos := "task.go:76", after := #[{ on := 6, ground := Ground.data }], guard := none }) (v := .pointer (some ⟨rb, 6, none⟩)) [8, 9, 10, 11] rfl (by kernel_rfl) (by kernel_rfl) (by kernel_rfl) (by kernel_rfl) (fun _ _ _ h => h) (Or.inl ⟨by rfl, ?_⟩) KP.out ?_
  · intro wq hSw
    obtain ⟨y0, y1, y2, y3⟩ := four_of hSw.1
    have y4 := (cell_of hSw.2).trans (c2.sl ia hia)
    rw [hsf] at y4
    go_simp
  (try simp only [Act.put, List.setIfInBounds_toArray, List.set_cons_zero, List.set_cons_succ])
  refine wpAnyT_take (i := 8) (oi := { dst := some 70, op := Op.indexAddr 88 (Operand.tmp 69) (Operand.tmp 67), type := 0, pos := "task.go:76", after := #[{ on := 7, ground := Ground.data }, { on := 5, ground := Ground.data }], guard := none }) (v := .pointer (some ⟨rb, 6 + ia, none⟩)) [9, 10, 11] rfl (by kernel_rfl) (by kernel_rfl) (by kernel_rfl) (by kernel_rfl) (fun _ _ _ h => h) (Or.inl ⟨by rfl, ?_⟩) KP.out ?_
  · intro wq hSw
    obtain ⟨y0, y1, y2, y3⟩ := four_of hSw.1
    have y4 := (cell_of hSw.2).trans (c2.sl ia hia)
    rw [hsf] at y4
    go_simp
  (try simp only [Act.put, List.setIfInBounds_toArray, List.set_cons_zero, List.set_cons_succ])
  refine wpAnyT_take (i := 9) (oi := { dst := some 71, op := Op.load 87 (Operand.tmp 70), type := 87, pos := "task.go:76", after := #[{ on := 8, ground := Ground.data }], guard := none }) (v := .slice sa L sc) [10, 11] rfl (by kernel_rfl) (by kernel_rfl) (by kernel_rfl) (by kernel_rfl) (fun _ _ _ h => h) (Or.inl ⟨by rfl, ?_⟩) KP.out ?_
  · intro wq hSw
    obtain ⟨y0, y1, y2, y3⟩ := four_of hSw.1
    have y4 := (cell_of hSw.2).trans (c2.sl ia hia)
    rw [hsf] at y4
    go_simp
  (try simp only [Act.put, List.setIfInBounds_toArray, List.set_cons_zero, List.set_cons_succ])
  refine wpAnyT_take (i := 10) (oi := { dst := some 72, op := Op.call { callee := Callee.builtin Builtin.len, args := #[Operand.tmp 71], argTypes := #[87] }, type := 3, pos := "task.go:76", after := #[{ on := 9, ground := Ground.data }], guard := none }) (v := .int .i64 (L : Int)) [11] rfl (by kernel_rfl) (by kernel_rfl) (by kernel_rfl) (by kernel_rfl) (fun _ _ _ h => h) (Or.inl ⟨by rfl, ?_⟩) KP.out ?_
  · intro wq hSw
    obtain ⟨y0, y1, y2, y3⟩ := four_of hSw.1
    have y4 := (cell_of hSw.2).trans (c2.sl ia hia)
    rw [hsf] at y4
    go_simp
  (try simp only [Act.put, List.setIfInBounds_toArray, List.set_cons_zero, List.set_cons_succ])
  refine wpAnyT_one (i := 11) (o := { dst := some 73, op := Op.call { callee := Callee.value (Operand.func 49), args := #[Operand.tmp 62, Operand.tmp 64, Operand.tmp 72], argTypes := #[68, 3, 3] }, type := 0, pos := "task.go:76", after := #[{ on := 0, ground := Ground.data }, { on := 2, ground := Ground.data }, { on := 10, ground := Ground.data }], guard := none }) (by kernel_rfl) rfl (fun K hK => ?_)
  go_simp
  go_at_call 49
  refine CW.out.mono ?_
  rintro e q2 ⟨rfl, X', hX, A2, S2⟩
  (try go_simp)
  refine hK.out _ _ (vac (by kernel_rfl)) ?_
  clear hK K
  (try simp only [Act.put, List.setIfInBounds_toArray, List.set_cons_zero, List.set_cons_succ])
  refine wpAnyT_done (by kernel_rfl) ?_ _
  obtain ⟨tK, htK⟩ : ∃ tK, (wakeS S ia (L)).tk[i]? = some tK := ⟨_, List.getElem?_eq_getElem (by show i < (wk S.tk _).length; rw [wk_len]; exact (List.getElem?_eq_some_iff.1 hiH.out).1)⟩
  have hpcK : tK.pc = t.pc := wk_pc _ _ _ _ _ hiH.out htK
  rw [← hpcK] at hpc
  have e1 := (A2.tcell htK).2.1
  have e2 := A2.frzT (i * 7 + 1)
  obtain ⟨P1, P2⟩ := set_pc A2 htK
  have FE := hide (And.intro P1 ((SD.out.trans S2).trans P2))
  rw [hX] at e1 e2 FE
  have ew := wr_pc (p := tK.pc) (Nat.le_trans hpc (by decide))
  clear P1 P2 A2 S2 SD CW KP hpcK htK
  go_upto_region 31 with fail
  go_wp2_with fail
  go_end0
  exact ⟨rfl, X', hX, FE.out⟩
set_option maxHeartbeats 4000000 in
theorem do_6 (w0 w : World) (us : List Value) (rb : Nat) (X : V) (S : St) (h : At w0 us w rb X S) (ok : Ok S) {i : Nat} {t : Tk} (hi : S.tk[i]? = some t) {ia : Nat} (hia : ia < 4) (ab an : Int) :
    Calls Tryd.prog 46 #[.pointer (some ⟨rb, 0, none⟩), .pointer (some ⟨X.tb, i * 7, none⟩), .agg #[.int .i64 6, .int .i64 (ia : Int), .int .i64 ab, .int .i64 an]] w fun e w' => e = .returned (.tuple #[]) ∧ ∃ X', X'.tb = X.tb ∧ At w0 us w' rb X' (adv { S with qu := up S.qu ia (S.qu ia ++ [an]) } i) ∧ Stp rb X X' w w' := by
  have hpc := (ok.tk t (List.mem_of_getElem? hi)).pc
  have B1 := box_below w (.cells #[.int .i64 6, .int .i64 (ia : Int), .int .i64 ab, .int .i64 an] 45)
  have N1 := heap_alloc_new w (.cells #[.int .i64 6, .int .i64 (ia : Int), .int .i64 ab, .int .i64 an] 45)
  obtain ⟨xb, hxb⟩ : ∃ xb, Hid (w.heap.size = xb) := ⟨_, rfl⟩
  have hxo : Hid (¬ Own rb X xb) := fun c => by have := h.lt xb c; have := hxb.out; omega
  obtain ⟨w1, hw1⟩ : ∃ w1, Hid (w.alloc (.cells #[.int .i64 6, .int .i64 (ia : Int), .int .i64 ab, .int .i64 an] 45) = w1) := ⟨_, rfl⟩
  rw [hw1.out] at B1 N1
  rw [hxb.out] at N1
  have A1 := hide (h.below B1)
  have S1 : Hid (Stp rb X X w w1) := Stp.of_below rb X B1
  obtain ⟨x0, x1, x2, x3⟩ := four_of N1
  have BX := hide N1
  have hiH := hide hi
  clear h B1 N1 hi
  have hsn : (S.qu ia).length ≤ 1000000 := Nat.le_trans (ok.qu ia) (Nat.le_trans ok.r2 (by decide))
  have hia' : (ia : Int) < 4 := by omega
  obtain ⟨ak, hak⟩ : ∃ ak : Int, Hid ((6 : Int) = ak) := ⟨_, rfl⟩
  have BX5 : Hid (w1.heap[xb]? = some (.cells #[.int .i64 ak, .int .i64 (ia : Int), .int .i64 ab, .int .i64 an] 45)) := by rw [← hak.out]; exact BX
  go_enter Tryd.func46, Tryd.ntmps46
  go_upto_region 1 with fail
  rw [hw1.out, hxb.out]
  go_upto_region 16 with fail
  clear x0 x1 x2 x3
  obtain ⟨cs, c1, c2⟩ := A1.out.cs
  refine wp_region_T (fun q => q.heap[xb]? = some (.cells #[.int .i64 ak, .int .i64 (ia : Int), .int .i64 ab, .int .i64 an] 45) ∧ q.heap[rb]? = some (.cells cs 90 (0, 0))) 17 (by kernel_rfl) ?_
  have bq : Below w1.heap.size w1 w1.drew := (Below.refl _ _).drew
  have KP : Hid (w1.drew.heap[xb]? = some (.cells #[.int .i64 ak, .int .i64 (ia : Int), .int .i64 ab, .int .i64 an] 45) ∧ w1.drew.heap[rb]? = some (.cells cs 90 (0, 0))) := ⟨BX5.out, c1⟩
  have AD := hide (A1.out.below bq)
  have SD : Hid (Stp rb X X w1 w1.drew) := Stp.of_below rb X bq
  clear bq c1
  generalize w1.drew = q at *
  refine wpAnyT_take (i := 0) (oi := { dst := some 76, op := Op.move (Operand.tmp 0), type := 68, pos := "task.go:78", after := #[], guard := none }) (v := .pointer (some ⟨rb, 0, none⟩)) [14, 15, 16, 17] rfl (by kernel_rfl) (by kernel_rfl) (by kernel_rfl) (by kernel_rfl) (fun _ _ _ h => h) (Or.inl ⟨by rfl, ?_⟩) KP.out ?_
  · intro wq hSw
    obtain ⟨y0, y1, y2, y3⟩ := four_of hSw.1
    have y4 := (cell_of hSw.2).trans (c2.qu ia hia)
    go_simp
  (try simp only [Act.put, List.setIfInBounds_toArray, List.set_cons_zero, List.set_cons_succ])
  refine wpAnyT_take (i := 1) (oi := { dst := some 77, op := Op.fieldAddr 45 (Operand.tmp 5) 1, type := 0, pos := "task.go:78", after := #[], guard := none }) (v := .pointer (some ⟨xb, 1, none⟩)) [2, 16, 17] rfl (by kernel_rfl) (by kernel_rfl) (by kernel_rfl) (by kernel_rfl) (fun _ _ _ h => h) (Or.inl ⟨by rfl, ?_⟩) KP.out ?_
  · intro wq hSw
    obtain ⟨y0, y1, y2, y3⟩ := four_of hSw.1
    have y4 := (cell_of hSw.2).trans (c2.qu ia hia)
    go_simp
  (try simp only [Act.put, List.setIfInBounds_toArray, List.set_cons_zero, List.set_cons_succ])
  refine wpAnyT_take (i := 2) (oi := { dst := some 78, op := Op.load 3 (Operand.tmp 77), type := 3, pos := "task.go:78", after := #[{ on := 1, ground := Ground.data }], guard := none }) (v := .int .i64 (ia : Int)) [16, 17] rfl (by kernel_rfl) (by kernel_rfl) (by kernel_rfl) (by kernel_rfl) (fun _ _ _ h => h) (Or.inl ⟨by rfl, ?_⟩) KP.out ?_
  · intro wq hSw
    obtain ⟨y0, y1, y2, y3⟩ := four_of hSw.1
    have y4 := (cell_of hSw.2).trans (c2.qu ia hia)
    go_simp
  (try simp only [Act.put, List.setIfInBounds_toArray, List.set_cons_zero, List.set_cons_succ])
  refine wpAnyT_take (i := 3) (oi := { dst := some 79, op := Op.move (Operand.tmp 0), type := 68, pos := "task.go:78", after := #[], guard := none }) (v := .pointer (some ⟨rb, 0, none⟩)) [6, 7, 8, 9, 13, 17] rfl (by kernel_rfl) (by kernel_rfl) (by kernel_rfl) (by kernel_rfl) (fun _ _ _ h => h) (Or.inl ⟨by rfl, ?_⟩) KP.out ?_
  · intro wq hSw
    obtain ⟨y0, y1, y2, y3⟩ := four_of hSw.1
    have y4 := (cell_of hSw.2).trans (c2.qu ia hia)
    go_simp
  (try simp only [Act.put, List.setIfInBounds_toArray, List.set_cons_zero, List.set_cons_succ])
  refine wpAnyT_take (i := 4) (oi := { dst := some 80, op := Op.fieldAddr 45 (Operand.tmp 5) 1, type := 0, pos := "task.go:78", after := #[], guard := none }) (v := .pointer (some ⟨xb, 1, none⟩)) [5, 8, 9, 13, 17] rfl (by kernel_rfl) (by kernel_rfl) (by kernel_rfl) (by kernel_rfl) (fun _ _ _ h => h) (Or.inl ⟨by rfl, ?_⟩) KP.out ?_
  · intro wq hSw
    obtain ⟨y0, y1, y2, y3⟩ := four_of hSw.1
    have y4 := (cell_of hSw.2).trans (c2.qu ia hia)
    go_simp
  (try simp only [Act.put, List.setIfInBounds_toArray, List.set_cons_zero, List.set_cons_succ])
  refine wpAnyT_take (i := 5) (oi := { dst := some 81, op := Op.load 3 (Operand.tmp 80), type := 3, pos := "task.go:78", after := #[{ on := 4, ground := Ground.data }], guard := none }) (v := .int .i64 (ia : Int)) [8, 9, 13, 17] rfl (by kernel_rfl) (by kernel_rfl) (by kernel_rfl) (by kernel_rfl) (fun _ _ _ h => h) (Or.inl ⟨by rfl, ?_⟩) KP.out ?_
  · intro wq hSw
    obtain ⟨y0, y1, y2, y3⟩ := four_of hSw.1
    have y4 := (cell_of hSw.2).trans (c2.qu ia hia)
    go_simp
  (try simp only [Act.put, List.setIfInBounds_toArray, List.set_cons_zero, List.set_cons_succ])
  refine wpAnyT_take (i := 6) (oi := { dst := some 82, op := Op.nilCheck (Operand.tmp 79), type := 0, pos := "task.go:78", after := #[{ on := 3, ground := Ground.data }], guard := none }) (v := .pointer (some ⟨rb, 0, none⟩)) [7, 8, 9, 13, 17] rfl (by kernel_rfl) (by kernel_rfl) (by kernel_rfl) (by kernel_rfl) (fun _ _ _ h => h) (Or.inl ⟨by rfl, ?_⟩) KP.out ?_
  · intro wq hSw
    obtain ⟨y0, y1, y2, y3⟩ := four_of hSw.1
    have y4 := (cell_of hSw.2).trans (c2.qu ia hia)
    go_simp
  (try simp only [Act.put, List.setIfInBounds_toArray, List.set_cons_zero, List.set_cons_succ])
  refine wpAnyT_take (i := 7) (oi := { dst := some 83, op := Op.fieldAddr 90 (Operand.tmp 82) 4, type := 0, pos := "task.go:78", after := #[{ on := 6, ground := Ground.data }], guard := none }) (v := .pointer (some ⟨rb, 10, none⟩)) [8, 9, 13, 17] rfl (by kernel_rfl) (by kernel_rfl) (by kernel_rfl) (by kernel_rfl) (fun _ _ _ h => h) (Or.inl ⟨by rfl, ?_⟩) KP.out ?_
  · intro wq hSw
    obtain ⟨y0, y1, y2, y3⟩ := four_of hSw.1
    have y4 := (cell_of hSw.2).trans (c2.qu ia hia)
    go_simp
  (try simp only [Act.put, List.setIfInBounds_toArray, List.set_cons_zero, List.set_cons_succ])
  refine wpAnyT_take (i := 8) (oi := { dst := some 84, op := Op.indexAddr 60 (Operand.tmp 83) (Operand.tmp 81), type := 0, pos := "task.go:78", after := #[{ on := 7, ground := Ground.data }, { on := 5, ground := Ground.data }], guard := none }) (v := .pointer (some ⟨rb, 10 + ia, none⟩)) [9, 13, 17] rfl (by kernel_rfl) (by kernel_rfl) (by kernel_rfl) (by kernel_rfl) (fun _ _ _ h => h) (Or.inl ⟨by rfl, ?_⟩) KP.out ?_
  · intro wq hSw
    obtain ⟨y0, y1, y2, y3⟩ := four_of hSw.1
    have y4 := (cell_of hSw.2).trans (c2.qu ia hia)
    go_simp
  (try simp only [Act.put, List.setIfInBounds_toArray, List.set_cons_zero, List.set_cons_succ])
  refine wpAnyT_take (i := 9) (oi := { dst := some 85, op := Op.load 29 (Operand.tmp 84), type := 29, pos := "task.go:78", after := #[{ on := 8, ground := Ground.data }], guard := none }) (v := X.q ia) [13, 17] rfl (by kernel_rfl) (by kernel_rfl) (by kernel_rfl) (by kernel_rfl) (fun _ _ _ h => h) (Or.inl ⟨by rfl, ?_⟩) KP.out ?_
  · intro wq hSw
    obtain ⟨y0, y1, y2, y3⟩ := four_of hSw.1
    have y4 := (cell_of hSw.2).trans (c2.qu ia hia)
    go_simp
  (try simp only [Act.put, List.setIfInBounds_toArray, List.set_cons_zero, List.set_cons_succ])
  refine wpAnyT_take (i := 10) (oi := { dst := some 86, op := Op.fieldAddr 45 (Operand.tmp 5) 3, type := 0, pos := "task.go:78", after := #[], guard := none }) (v := .pointer (some ⟨xb, 3, none⟩)) [11, 12, 13, 17] rfl (by kernel_rfl) (by kernel_rfl) (by kernel_rfl) (by kernel_rfl) (fun _ _ _ h => h) (Or.inl ⟨by rfl, ?_⟩) KP.out ?_
  · intro wq hSw
    obtain ⟨y0, y1, y2, y3⟩ := four_of hSw.1
    have y4 := (cell_of hSw.2).trans (c2.qu ia hia)
    go_simp
  (try simp only [Act.put, List.setIfInBounds_toArray, List.set_cons_zero, List.set_cons_succ])
  refine wpAnyT_take (i := 11) (oi := { dst := some 87, op := Op.load 2 (Operand.tmp 86), type := 2, pos := "task.go:78", after := #[{ on := 10, ground := Ground.data }], guard := none }) (v := .int .i64 an) [12, 13, 17] rfl (by kernel_rfl) (by kernel_rfl) (by kernel_rfl) (by kernel_rfl) (fun _ _ _ h => h) (Or.inl ⟨by rfl, ?_⟩) KP.out ?_
  · intro wq hSw
    obtain ⟨y0, y1, y2, y3⟩ := four_of hSw.1
    have y4 := (cell_of hSw.2).trans (c2.qu ia hia)
    go_simp
  (try simp only [Act.put, List.setIfInBounds_toArray, List.set_cons_zero, List.set_cons_succ])
  refine wpAnyT_take (i := 14) (oi := { dst := some 90, op := Op.nilCheck (Operand.tmp 76), type := 0, pos := "task.go:78", after := #[{ on := 0, ground := Ground.data }], guard := none }) (v := .pointer (some ⟨rb, 0, none⟩)) [15, 16, 17] rfl (by kernel_rfl) (by kernel_rfl) (by kernel_rfl) (by kernel_rfl) (fun _ _ _ h => h) (Or.inl ⟨by rfl, ?_⟩) KP.out ?_
  · intro wq hSw
    obtain ⟨y0, y1, y2, y3⟩ := four_of hSw.1
    have y4 := (cell_of hSw.2).trans (c2.qu ia hia)
    go_simp
  (try simp only [Act.put, List.setIfInBounds_toArray, List.set_cons_zero, List.set_cons_succ])
  refine wpAnyT_take (i := 15) (oi := { dst := some 91, op := Op.fieldAddr 90 (Operand.tmp 90) 4, type := 0, pos := "task.go:78", after := #[{ on := 14, ground := Ground.data }], guard := none }) (v := .pointer (some ⟨rb, 10, none⟩)) [16, 17] rfl (by kernel_rfl) (by kernel_rfl) (by kernel_rfl) (by kernel_rfl) (fun _ _ _ h => h) (Or.inl ⟨by rfl, ?_⟩) KP.out ?_
  · intro wq hSw
    obtain ⟨y0, y1, y2, y3⟩ := four_of hSw.1
    have y4 := (cell_of hSw.2).trans (c2.qu ia hia)
    go_simp
  (try simp only [Act.put, List.setIfInBounds_toArray, List.set_cons_zero, List.set_cons_succ])
  refine wpAnyT_one (i := 12) (o := { dst := some 88, op := Op.buildSlice 29 1 #[(0, Operand.tmp 87)], type := 29, pos := "task.go:78", after := #[{ on := 11, ground := Ground.data }], guard := none }) (by kernel_rfl) rfl (fun K hK => ?_)
  go_simp
  refine hK.out _ _ (fun _ => ⟨((box_below _ _).block xb (heap_lt KP.out.1)).trans KP.out.1, ((box_below _ _).block rb (heap_lt KP.out.2)).trans KP.out.2⟩) ?_
  clear hK K
  (try simp only [Act.put, List.setIfInBounds_toArray, List.set_cons_zero, List.set_cons_succ])
  have B3 := box_below q (.cells #[.int .i64 an] 2)
  have o0 : (q.alloc (.cells #[.int .i64 an] 2)).cell? ⟨q.heap.size, 0, none⟩ = some (.int .i64 an) := by rw [cell_of (heap_alloc_new q (.cells #[.int .i64 an] 2))]; rfl
  have A3 := AD.out.below B3
  have S3 := SD.out.trans (Stp.of_below rb X B3)
  have K3 : (q.alloc (.cells #[.int .i64 an] 2)).heap[xb]? = some (.cells #[.int .i64 ak, .int .i64 (ia : Int), .int .i64 ab, .int .i64 an] 45) ∧ (q.alloc (.cells #[.int .i64 an] 2)).heap[rb]? = some (.cells cs 90 (0, 0)) := ⟨(B3.block xb (heap_lt KP.out.1)).trans KP.out.1, (B3.block rb (heap_lt KP.out.2)).trans KP.out.2⟩
  clear KP AD SD B3
  generalize q.alloc (.cells #[.int .i64 an] 2) = w3 at *
  generalize q.heap.size = g3 at *
  obtain ⟨v', w4, r4, M4, G4, X4⟩ := run_appS (.int .i64 an) g3 Tryd.underlying29 infoN rfl (by decide) (A3.qu ia hia) o0 rfl (by rw [List.length_map]; exact hsn) 29
  rw [show ((S.qu ia).map (Value.int .i64) ++ [.int .i64 an]) = ((S.qu ia ++ [an]).map (Value.int .i64)) from by simp] at M4
  obtain ⟨Z1, Z2, Z3, Z4⟩ := A3.turnQ hia G4 M4 X4
  have FIN2 := hide (And.intro Z1 (S3.trans Z2))
  have K4 : Hid (w4.heap[xb]? = some (.cells #[.int .i64 ak, .int .i64 (ia : Int), .int .i64 ab, .int .i64 an] 45) ∧ w4.heap[rb]? = some (.cells cs 90 (0, 0))) := by
    refine ⟨(G4.block xb (heap_lt K3.1) fun e => ?_).trans K3.1, (G4.block rb (heap_lt K3.2) fun e => ?_).trans K3.2⟩
    · exact hxo.out ⟨ia + 4 + 3, (bl_q rb X hia).trans e.symm⟩
    · have := A3.dis (ia + 4 + 3) 0 rb ((bl_q rb X hia).trans e.symm) rfl; omega
  obtain ⟨ao', n', e'⟩ : ∃ ao' n', X.q ia = .slice ao' ((S.qu ia).map (Value.int .i64)).length n' := (A3.qu ia hia).form
  obtain ⟨aw, cw, ew⟩ := M4.form
  obtain ⟨nl, hnl⟩ : ∃ nl, Hid ((((S.qu ia ++ [an]).map (Value.int .i64)) : List Value).length = nl) := ⟨_, rfl⟩
  rw [hnl.out] at ew
  rw [ew] at r4 FIN2
  clear A3 S3 K3 M4 G4 X4 Z1 Z2 o0 ew
  replace r4 := hide r4
  refine wpAnyT_one (i := 13) (o := { dst := some 89, op := Op.call { callee := Callee.builtin Builtin.append, args := #[Operand.tmp 85, Operand.tmp 88], argTypes := #[29, 29] }, type := 29, pos := "task.go:78", after := #[{ on := 9, ground := Ground.data }, { on := 12, ground := Ground.data }], guard := none }) (by kernel_rfl) rfl (fun K hK => ?_)
  rw [if_pos (by simp [Region.wanted])]
  refine Lib.wp_append_run _ (.tmp 85) (.tmp 88) 29 29 rfl (X.q ia) (.slice (some ⟨g3, 0, none⟩) 1 1) (by simp [Act.eval]) (by simp [Act.eval]) _ w4 r4.out ?_
  refine hK.out _ _ (fun _ => K4.out) ?_
  clear hK K
  (try simp only [Act.put, List.setIfInBounds_toArray, List.set_cons_zero, List.set_cons_succ])
  refine wpAnyT_one (i := 16) (o := { dst := some 92, op := Op.indexAddr 60 (Operand.tmp 91) (Operand.tmp 78), type := 0, pos := "task.go:78", after := #[{ on := 15, ground := Ground.data }, { on := 2, ground := Ground.data }, { on := 0, ground := Ground.phase }, { on := 1, ground := Ground.phase }, { on := 2, ground := Ground.phase }, { on := 3, ground := Ground.phase }, { on := 4, ground := Ground.phase }, { on := 5, ground := Ground.phase }, { on := 6, ground := Ground.phase }, { on := 7, ground := Ground.phase }, { on := 8, ground := Ground.phase }, { on := 9, ground := Ground.phase }, { on := 10, ground := Ground.phase }, { on := 11, ground := Ground.phase }, { on := 12, ground := Ground.phase }, { on := 13, ground := Ground.phase }], guard := none }) (by kernel_rfl) rfl (fun K hK => ?_)
  go_simp
  refine hK.out _ _ (fun _ => K4.out) ?_
  clear hK K
  (try simp only [Act.put, List.setIfInBounds_toArray, List.set_cons_zero, List.set_cons_succ])
  clear K4 r4
  refine wpAnyT_one (i := 17) (o := { dst := none, op := Op.store 29 (Operand.tmp 92) (Operand.tmp 89), type := 0, pos := "task.go:78", after := #[{ on := 16, ground := Ground.data }, { on := 13, ground := Ground.data }, { on := 13, ground := Ground.chain }, { on := 0, ground := Ground.phase }, { on := 1, ground := Ground.phase }, { on := 2, ground := Ground.phase }, { on := 3, ground := Ground.phase }, { on := 4, ground := Ground.phase }, { on := 5, ground := Ground.phase }, { on := 6, ground := Ground.phase }, { on := 7, ground := Ground.phase }, { on := 8, ground := Ground.phase }, { on := 9, ground := Ground.phase }, { on := 10, ground := Ground.phase }, { on := 11, ground := Ground.phase }, { on := 12, ground := Ground.phase }, { on := 13, ground := Ground.phase }], guard := none }) (by kernel_rfl) rfl (fun K hK => ?_)
  go_simp
  refine hK.out _ _ (vac (by kernel_rfl)) ?_
  clear hK K
  (try simp only [Act.put, List.setIfInBounds_toArray, List.set_cons_zero, List.set_cons_succ])
  refine wpAnyT_done (by kernel_rfl) ?_ _
  have AK := hide FIN2.out.1
  have SK := hide (S1.out.trans FIN2.out.2)
  have HK : Hid (({ S with qu := up S.qu ia (S.qu ia ++ [an]) } : St).tk[i]? = some t) := hiH.out
  clear FIN2 Z3 Z4
  generalize w4.setCell ⟨rb, 10 + ia, none⟩ (.slice aw nl cw) = w5 at *
  have e1 := (AK.out.tcell HK.out).2.1
  have e2 := AK.out.frzT (i * 7 + 1)
  obtain ⟨P1, P2⟩ := set_pc AK.out HK.out
  have FE := hide (And.intro P1 (SK.out.trans P2))
  have ew := wr_pc (p := t.pc) (Nat.le_trans hpc (by decide))
  clear P1 P2 SK AK
  go_upto_region 31 with fail
  go_wp2_with fail
  go_end0
  exact ⟨rfl, { X with q := up X.q ia (.slice aw nl cw) }, rfl, FE.out⟩
set_option maxHeartbeats 4000000 in
theorem do_7 (w0 w : World) (us : List Value) (rb : Nat) (X : V) (S : St) (h : At w0 us w rb X S) (ok : Ok S) {i : Nat} {t : Tk} (hi : S.tk[i]? = some t) {ia ib : Nat} (hia : ia < 4) (hib : ib < 8) (an x : Int) (r : List Int) (hq : S.qu ia = x :: r) :
    Calls Tryd.prog 46 #[.pointer (some ⟨rb, 0, none⟩), .pointer (some ⟨X.tb, i * 7, none⟩), .agg #[.int .i64 7, .int .i64 (ia : Int), .int .i64 (ib : Int), .int .i64 an]] w fun e w' => e = .returned (.tuple #[]) ∧ ∃ X', X'.tb = X.tb ∧ At w0 us w' rb X' (adv { S with rg := up S.rg ib x, qu := up S.qu ia r } i) ∧ Stp rb X X' w w' := by
  have hpc := (ok.tk t (List.mem_of_getElem? hi)).pc
  have B1 := box_below w (.cells #[.int .i64 7, .int .i64 (ia : Int), .int .i64 (ib : Int), .int .i64 an] 45)
  have N1 := heap_alloc_new w (.cells #[.int .i64 7, .int .i64 (ia : Int), .int .i64 (ib : Int), .int .i64 an] 45)
  obtain ⟨xb, hxb⟩ : ∃ xb, Hid (w.heap.size = xb) := ⟨_, rfl⟩
  have hxo : Hid (¬ Own rb X xb) := fun c => by have := h.lt xb c; have := hxb.out; omega
  obtain ⟨w1, hw1⟩ : ∃ w1, Hid (w.alloc (.cells #[.int .i64 7, .int .i64 (ia : Int), .int .i64 (ib : Int), .int .i64 an] 45) = w1) := ⟨_, rfl⟩
  rw [hw1.out] at B1 N1
  rw [hxb.out] at N1
  have A1 := hide (h.below B1)
  have S1 : Hid (Stp rb X X w w1) := Stp.of_below rb X B1
  obtain ⟨x0, x1, x2, x3⟩ := four_of N1
  have BX := hide N1
  have hiH := hide hi
  clear h B1 N1 hi
  have hia' : (ia : Int) < 4 := by omega
  have hib' : (ib : Int) < 8 := by omega
  have ql := A1.out.qu ia hia
  rw [hq] at ql
  obtain ⟨g, off, cap, hv, hcp, rd⟩ := ql.at (by simp)
  have r0 := rd 0 (.int .i64 x) rfl
  simp only [List.length_map, List.length_cons, Nat.add_zero] at hv r0 hcp
  obtain ⟨m, hm⟩ : ∃ m, Hid (r.length = m) := ⟨_, rfl⟩
  rw [hm.out] at hv hcp
  have q0 := A1.out.qcell hia
  rw [hv] at q0 ql
  have g0 := A1.out.gcell hib
  have z0 := A1.out.frz (14 + ib)
  have hcm : (m : Int) + 1 ≤ (cap : Int) := by omega
  have AN := A1.out.setG hib x
  have SN := S1.out.trans (stp_set A1.out (14 + ib) (.int .i64 x))
  have bq := (Below.refl (w1.setCell ⟨rb, 14 + ib, none⟩ (.int .i64 x)).heap.size (w1.setCell ⟨rb, 14 + ib, none⟩ (.int .i64 x))).drew
  have A2 := hide (AN.below bq)
  have S2 := hide (SN.trans (Stp.of_below rb X bq))
  have bx2 : Hid ((w1.setCell ⟨rb, 14 + ib, none⟩ (.int .i64 x)).drew.heap[xb]? = some (.cells #[.int .i64 7, .int .i64 (ia : Int), .int .i64 (ib : Int), .int .i64 an] 45)) := ((stp_set A1.out (14 + ib) (.int .i64 x)).1.at BX.out hxo.out)
  clear AN SN bq rd ql
  go_enter Tryd.func46, Tryd.ntmps46
  go_upto_region 1 with fail
  rw [hw1.out, hxb.out]
  go_upto_region 18 with fail
  go_region
  generalize (w1.setCell ⟨rb, 14 + ib, none⟩ (.int .i64 x)).drew = w2 at *
  clear q0 g0 z0 r0 x0 x1 x2 x3 A1 S1
  obtain ⟨x0, x1, x2, x3⟩ := four_of bx2.out
  have q0 := A2.out.qcell hia
  have ql := A2.out.qu ia hia
  rw [hv] at q0 ql
  have CT := ql.cut (k := 1) (by omega)
  have hdr : (({ S with rg := up S.rg ib x } : St).qu ia).drop 1 = r := by show (S.qu ia).drop 1 = r; rw [hq]; rfl
  rw [← List.map_drop, hdr] at CT
  by_cases hz : cap = 1
  · have hm0 : m = 0 := by omega
    have hr0 : r = [] := List.length_eq_zero_iff.1 (hm.out.trans hm0)
    subst hz
    subst hm0
    subst hr0
    obtain ⟨Z1, Z2, Z3, Z4⟩ := A2.out.turnQ (w1 := w2) (v' := .slice (some ⟨g, off, none⟩) 0 0) (l' := []) hia ⟨rfl, rfl, rfl, Nat.le_refl _, fun _ _ _ => rfl⟩ ql.none (fun k' hk => .inl (by rw [hv]; exact hk))
    have bq := (Below.refl (w2.setCell ⟨rb, 10 + ia, none⟩ (.slice (some ⟨g, off, none⟩) 0 0)).heap.size (w2.setCell ⟨rb, 10 + ia, none⟩ (.slice (some ⟨g, off, none⟩) 0 0))).drew
    have AK := hide (Z1.below bq)
    have SK := hide ((S2.out.trans Z2).trans (Stp.of_below rb _ bq))
    have HK : Hid (({ S with rg := up S.rg ib x, qu := up S.qu ia [] } : St).tk[i]? = some t) := hiH.out
    clear Z1 Z2 Z3 CT ql bq A2 S2
    go_upto_region 19 with fail
    go_region
    generalize (w2.setCell ⟨rb, 10 + ia, none⟩ (.slice (some ⟨g, off, none⟩) 0 0)).drew = w3 at *
    clear Z4 q0
    have e1 := (AK.out.tcell HK.out).2.1
    have e2 := AK.out.frzT (i * 7 + 1)
    obtain ⟨P1, P2⟩ := set_pc AK.out HK.out
    have FE := hide (And.intro P1 (SK.out.trans P2))
    have ew := wr_pc (p := t.pc) (Nat.le_trans hpc (by decide))
    clear P1 P2 SK AK
    go_upto_region 31 with fail
    go_wp2_with fail
    go_end0
    exact ⟨rfl, { X with q := up X.q ia (.slice (some ⟨g, off, none⟩) 0 0) }, rfl, FE.out⟩
  · have hc1 : (1 : Int) < (cap : Int) := by omega
    have hm1 : m + 1 - 1 = m := by omega
    rw [hm1] at CT
    obtain ⟨Z1, Z2, Z3, Z4⟩ := A2.out.turnQ (w1 := w2) (v' := .slice (some ⟨g, off + 1, none⟩) m (cap - 1)) (l' := r) hia ⟨rfl, rfl, rfl, Nat.le_refl _, fun _ _ _ => rfl⟩ CT (fun k' hk => .inl (by rw [hv]; exact hk))
    have bq := (Below.refl (w2.setCell ⟨rb, 10 + ia, none⟩ (.slice (some ⟨g, off + 1, none⟩) m (cap - 1))).heap.size (w2.setCell ⟨rb, 10 + ia, none⟩ (.slice (some ⟨g, off + 1, none⟩) m (cap - 1)))).drew
    have AK := hide (Z1.below bq)
    have SK := hide ((S2.out.trans Z2).trans (Stp.of_below rb _ bq))
    have HK : Hid (({ S with rg := up S.rg ib x, qu := up S.qu ia r } : St).tk[i]? = some t) := hiH.out
    clear Z1 Z2 Z3 CT ql bq A2 S2
    go_upto_region 19 with fail
    go_region
    generalize (w2.setCell ⟨rb, 10 + ia, none⟩ (.slice (some ⟨g, off + 1, none⟩) m (cap - 1))).drew = w3 at *
    clear Z4 q0
    have e1 := (AK.out.tcell HK.out).2.1
    have e2 := AK.out.frzT (i * 7 + 1)
    obtain ⟨P1, P2⟩ := set_pc AK.out HK.out
    have FE := hide (And.intro P1 (SK.out.trans P2))
    have ew := wr_pc (p := t.pc) (Nat.le_trans hpc (by decide))
    clear P1 P2 SK AK
    go_upto_region 31 with fail
    go_wp2_with fail
    go_end0
    exact ⟨rfl, { X with q := up X.q ia (.slice (some ⟨g, off + 1, none⟩) m (cap - 1)) }, rfl, FE.out⟩
set_option maxHeartbeats 4000000 in
theorem do_10 (w0 w : World) (us : List Value) (rb : Nat) (X : V) (S : St) (h : At w0 us w rb X S) (ok : Ok S) {i : Nat} {t : Tk} (hi : S.tk[i]? = some t) {ia : Nat} (hia : ia < 8) (ab : Int) {an : Nat} (han : an ≤ 255) :
    Calls Tryd.prog 46 #[.pointer (some ⟨rb, 0, none⟩), .pointer (some ⟨X.tb, i * 7, none⟩), .agg #[.int .i64 10, .int .i64 (ia : Int), .int .i64 ab, .int .i64 (an : Int)]] w fun e w' => e = .returned (.tuple #[]) ∧ ∃ X', X'.tb = X.tb ∧ At w0 us w' rb X' (adv (if S.rg ia = 0 then { S with tk := S.tk.set i { t with pc := t.pc + an } } else S) i) ∧ Stp rb X X' w w' := by
  have hpc := (ok.tk t (List.mem_of_getElem? hi)).pc
  have B1 := box_below w (.cells #[.int .i64 10, .int .i64 (ia : Int), .int .i64 ab, .int .i64 (an : Int)] 45)
  have N1 := heap_alloc_new w (.cells #[.int .i64 10, .int .i64 (ia : Int), .int .i64 ab, .int .i64 (an : Int)] 45)
  obtain ⟨xb, hxb⟩ : ∃ xb, Hid (w.heap.size = xb) := ⟨_, rfl⟩
  have hxo : Hid (¬ Own rb X xb) := fun c => by have := h.lt xb c; have := hxb.out; omega
  obtain ⟨w1, hw1⟩ : ∃ w1, Hid (w.alloc (.cells #[.int .i64 10, .int .i64 (ia : Int), .int .i64 ab, .int .i64 (an : Int)] 45) = w1) := ⟨_, rfl⟩
  rw [hw1.out] at B1 N1
  rw [hxb.out] at N1
  have A1 := hide (h.below B1)
  have S1 : Hid (Stp rb X X w w1) := Stp.of_below rb X B1
  obtain ⟨x0, x1, x2, x3⟩ := four_of N1
  have BX := hide N1
  have hiH := hide hi
  clear h B1 N1 hi
  have hia' : (ia : Int) < 8 := by omega
  have l0 := A1.out.gcell hia
  have c1 := (A1.out.tcell hiH.out).2.1
  have z1 := A1.out.frzT (i * 7 + 1)
  by_cases hz : S.rg ia = 0
  · rw [if_pos hz]
    rw [hz] at l0
    have ewp : wrap64 ((t.pc : Int) + (an : Int)) = ((t.pc + an : Nat) : Int) := by unfold wrap64; omega
    obtain ⟨pN, hpN⟩ : ∃ pN, Hid (t.pc + an = pN) := ⟨_, rfl⟩
    rw [hpN.out] at ewp ⊢
    have hpl : pN ≤ 1000 := by rw [← hpN.out]; omega
    go_enter Tryd.func46, Tryd.ntmps46
    go_upto_region 1 with fail
    rw [hw1.out, hxb.out]
    go_upto_region 25 with fail
    go_quiet (fail)
    go_upto_region 26 with fail
    have bq1 : Hid (Below w1.heap.size w1 (w1.drewN nq)) := Qt.below ⟨_, rfl⟩ _
    have AQ := A1.out.below bq1.out
    have SQ := S1.out.trans (Stp.of_below rb X bq1.out)
    have xq := (bq1.out.block xb (heap_lt BX.out)).trans BX.out
    clear x0 x1 x2 x3 c1 z1 l0 A1 S1 bq1
    generalize w1.drewN nq = w2 at *
    obtain ⟨x0, x1, x2, x3⟩ := four_of xq
    have c1 := (AQ.tcell hiH.out).2.1
    have z1 := AQ.frzT (i * 7 + 1)
    have AN := AQ.setT (t' := { t with pc := pN }) hiH.out 0 (by decide) (.int .i64 (pN : Int)) rfl rfl
    have SN := SQ.trans (stp_setT AQ (i * 7 + 1) (.int .i64 (pN : Int)))
    have bq := (Below.refl (w2.setCell ⟨X.tb, i * 7 + 1, none⟩ (.int .i64 (pN : Int))).heap.size (w2.setCell ⟨X.tb, i * 7 + 1, none⟩ (.int .i64 (pN : Int)))).drew
    have AK := hide (AN.below bq)
    have SK := hide (SN.trans (Stp.of_below rb X bq))
    have HK : Hid (({ S with tk := S.tk.set i { t with pc := pN } } : St).tk[i]? = some { t with pc := pN }) := set_same hiH.out
    clear AN SN bq AQ SQ
    go_region
    rw [show (t.pc : Int) + (an : Int) = (pN : Int) from by have := hpN.out; omega]
    clear c1 z1
    generalize (w2.setCell ⟨X.tb, i * 7 + 1, none⟩ (.int .i64 (pN : Int))).drew = w3 at *
    have e1 := (AK.out.tcell HK.out).2.1
    have e2 := AK.out.frzT (i * 7 + 1)
    obtain ⟨P1, P2⟩ := set_pc AK.out HK.out
    have FE := hide (And.intro P1 (SK.out.trans P2))
    have ew := wr_pc (p := ({ t with pc := pN } : Tk).pc) (by show pN ≤ 1000; exact hpl)
    dsimp only at e1 ew
    clear P1 P2 SK AK
    go_upto_region 31 with fail
    go_wp2_with fail
    go_end0
    exact ⟨rfl, X, rfl, FE.out⟩
  · rw [if_neg hz]
    have hz' : (S.rg ia == 0) = false := by simpa using hz
    go_enter Tryd.func46, Tryd.ntmps46
    go_upto_region 1 with fail
    rw [hw1.out, hxb.out]
    go_upto_region 25 with fail
    go_quiet (fail)
    go_upto_region 31 with fail
    have bq1 : Hid (Below w1.heap.size w1 (w1.drewN nq)) := Qt.below ⟨_, rfl⟩ _
    have AK := hide (A1.out.below bq1.out)
    have SK := hide (S1.out.trans (Stp.of_below rb X bq1.out))
    have HK := hiH
    clear x0 x1 x2 x3 c1 z1 l0 A1 S1 bq1
    generalize w1.drewN nq = w2 at *
    have e1 := (AK.out.tcell HK.out).2.1
    have e2 := AK.out.frzT (i * 7 + 1)
    obtain ⟨P1, P2⟩ := set_pc AK.out HK.out
    have FE := hide (And.intro P1 (SK.out.trans P2))
    have ew := wr_pc (p := t.pc) (Nat.le_trans hpc (by decide))
    clear P1 P2 SK AK
    go_wp2_with fail
    go_end0
    exact ⟨rfl, X, rfl, FE.out⟩
set_option maxHeartbeats 4000000 in
theorem do_13 (w0 w : World) (us : List Value) (rb : Nat) (X : V) (S : St) (h : At w0 us w rb X S) (ok : Ok S) {i : Nat} {t : Tk} (hi : S.tk[i]? = some t) (aa ab : Int) {an : Nat} :
    Calls Tryd.prog 46 #[.pointer (some ⟨rb, 0, none⟩), .pointer (some ⟨X.tb, i * 7, none⟩), .agg #[.int .i64 13, .int .i64 aa, .int .i64 ab, .int .i64 (an : Int)]] w fun e w' => e = .returned (.tuple #[]) ∧ ∃ X', X'.tb = X.tb ∧ At w0 us w' rb X' (adv { S with tk := S.tk.set i { t with gd := true, ld := an } } i) ∧ Stp rb X X' w w' := by
  have hpc := (ok.tk t (List.mem_of_getElem? hi)).pc
  have B1 := box_below w (.cells #[.int .i64 13, .int .i64 aa, .int .i64 ab, .int .i64 (an : Int)] 45)
  have N1 := heap_alloc_new w (.cells #[.int .i64 13, .int .i64 aa, .int .i64 ab, .int .i64 (an : Int)] 45)
  obtain ⟨xb, hxb⟩ : ∃ xb, Hid (w.heap.size = xb) := ⟨_, rfl⟩
  have hxo : Hid (¬ Own rb X xb) := fun c => by have := h.lt xb c; have := hxb.out; omega
  obtain ⟨w1, hw1⟩ : ∃ w1, Hid (w.alloc (.cells #[.int .i64 13, .int .i64 aa, .int .i64 ab, .int .i64 (an : Int)] 45) = w1) := ⟨_, rfl⟩
  rw [hw1.out] at B1 N1
  rw [hxb.out] at N1
  have A1 := hide (h.below B1)
  have S1 : Hid (Stp rb X X w w1) := Stp.of_below rb X B1
  obtain ⟨x0, x1, x2, x3⟩ := four_of N1
  have BX := hide N1
  have hiH := hide hi
  clear h B1 N1 hi
  have hT := A1.out.tcell hiH.out
  have c3 := hT.2.2.2.1
  have c4 := hT.2.2.2.2.1
  have z3 := A1.out.frzT (i * 7 + 3)
  have z4 := A1.out.frzT (i * 7 + 4)
  have AN := A1.out.setT (t' := { t with gd := true }) hiH.out 2 (by decide) (.bool true) rfl rfl
  have hi2 : ({ S with tk := S.tk.set i { t with gd := true } } : St).tk[i]? = some { t with gd := true } := set_same hiH.out
  have c5 := (AN.tcell hi2).2.2.2.2.1
  have z5 := AN.frzT (i * 7 + 4)
  have AM := AN.setT (t' := { t with gd := true, ld := an }) hi2 3 (by decide) (.int .i64 (an : Int)) rfl rfl
  have eM : ({ S with tk := ({ S with tk := S.tk.set i { t with gd := true } } : St).tk.set i { t with gd := true, ld := an } } : St) = { S with tk := S.tk.set i { t with gd := true, ld := an } } := by simp
  have SN := (S1.out.trans (stp_setT A1.out (i * 7 + 3) (.bool true))).trans (stp_setT AN (i * 7 + 4) (.int .i64 (an : Int)))
  have bq := (Below.refl ((w1.setCell ⟨X.tb, i * 7 + 3, none⟩ (.bool true)).setCell ⟨X.tb, i * 7 + 4, none⟩ (.int .i64 (an : Int))).heap.size ((w1.setCell ⟨X.tb, i * 7 + 3, none⟩ (.bool true)).setCell ⟨X.tb, i * 7 + 4, none⟩ (.int .i64 (an : Int)))).drew
  have AK : Hid (At w0 us ((w1.setCell ⟨X.tb, i * 7 + 3, none⟩ (.bool true)).setCell ⟨X.tb, i * 7 + 4, none⟩ (.int .i64 (an : Int))).drew rb X { S with tk := S.tk.set i { t with gd := true, ld := an } }) := by rw [← eM]; exact AM.below bq
  have SK := hide (SN.trans (Stp.of_below rb X bq))
  have HK : Hid (({ S with tk := S.tk.set i { t with gd := true, ld := an } } : St).tk[i]? = some { t with gd := true, ld := an }) := set_same hiH.out
  obtain ⟨-, -, -, x4⟩ := four_of ((stp_setT A1.out (i * 7 + 3) (.bool true)).1.at BX.out hxo.out)
  clear AM AN SN bq hi2 hT eM
  go_enter Tryd.func46, Tryd.ntmps46
  go_upto_region 1 with fail
  rw [hw1.out, hxb.out]
  go_upto_region 30 with fail
  go_region
  clear c3 c4 c5 z3 z4 z5 A1 S1 x4
  generalize ((w1.setCell ⟨X.tb, i * 7 + 3, none⟩ (.bool true)).setCell ⟨X.tb, i * 7 + 4, none⟩ (.int .i64 (an : Int))).drew = w2 at *
  have e1 := (AK.out.tcell HK.out).2.1
  have e2 := AK.out.frzT (i * 7 + 1)
  obtain ⟨P1, P2⟩ := set_pc AK.out HK.out
  have FE := hide (And.intro P1 (SK.out.trans P2))
  have ew := wr_pc (p := ({ t with gd := true, ld := an } : Tk).pc) (Nat.le_trans hpc (by decide))
  clear P1 P2 SK AK
  go_upto_region 31 with fail
  go_wp2_with fail
  go_end0
  exact ⟨rfl, X, rfl, FE.out⟩
end Go.Proofs.YtiiinpmkidobgaaDoor.Sd

/-
  An act by data; a task that panics lands.
-/
namespace Go.Proofs.YtiiinpmkidobgaaDoor.Sd
open Go.RowKit
set_option linter.unusedVariables false
set_option linter.unusedSimpArgs false
set_option maxRecDepth 100000
def doS (S : St) (i : Nat) (t : Tk) (a : Ac) : Except Int St :=
  if a.k = 1 then .ok (adv { S with lk := up S.lk a.a.toNat (some i) } i)
  else if a.k = 2 then if S.lk a.a.toNat = some i then .ok (adv { S with lk := up S.lk a.a.toNat none } i) else .error (-1)
  else if a.k = 3 then
    if t.sl = 0 then
      if S.lk a.b.toNat = some i then .ok { S with lk := up S.lk a.b.toNat none, tk := S.tk.set i { t with sl := 1 }, sl := up S.sl a.a.toNat (S.sl a.a.toNat ++ [i]) } else .error (-1)
    else .ok (adv { S with lk := up S.lk a.b.toNat (some i), tk := S.tk.set i { t with sl := 0 } } i)
  else if a.k = 4 then .ok (adv (wakeS S a.a.toNat (min 1 (S.sl a.a.toNat).length)) i)
  else if a.k = 5 then .ok (adv (wakeS S a.a.toNat (S.sl a.a.toNat).length) i)
  else if a.k = 6 then .ok (adv { S with qu := up S.qu a.a.toNat (S.qu a.a.toNat ++ [a.n]) } i)
  else if a.k = 7 then match S.qu a.a.toNat with
    | x :: r => .ok (adv { S with rg := up S.rg a.b.toNat x, qu := up S.qu a.a.toNat r } i)
    | [] => .ok S
  else if a.k = 8 then .ok (adv { S with rg := up S.rg a.a.toNat (wrap64 (S.rg a.a.toNat + a.n)) } i)
  else if a.k = 9 then .ok (adv { S with rg := up S.rg a.b.toNat (S.rg a.a.toNat) } i)
  else if a.k = 10 then .ok (adv (if S.rg a.a.toNat = 0 then { S with tk := S.tk.set i { t with pc := t.pc + a.n.toNat } } else S) i)
  else if a.k = 12 then .error a.n
  else if a.k = 13 then .ok (adv { S with tk := S.tk.set i { t with gd := true, ld := a.n.toNat } } i)
  else .ok (adv S i)
def DoP (w0 : World) (us : List Value) (w : World) (rb : Nat) (X : V) (S : St) (r : Except Int St) (e : Ending) (w' : World) : Prop := match r with
  | .ok S' => e = .returned (.tuple #[]) ∧ ∃ X', X'.tb = X.tb ∧ At w0 us w' rb X' S' ∧ Stp rb X X' w w'
  | .error n => e = .panicked (thr n) ∧ At w0 us w' rb X S ∧ Stp rb X X w w'
theorem a8 {m : Nat} {k a b n : Int} (h : OkA m ⟨k, a, b, n⟩) (hk : k = 8 ∨ k = 9 ∨ k = 10) : ∃ x : Nat, a = (x : Int) ∧ x < 8 := by
  obtain ⟨x, e⟩ := nat_of h.a0
  have h1 := h.a1
  unfold ra at h1
  simp only at h1 e
  rw [if_pos hk] at h1
  exact ⟨x, e, by omega⟩
theorem b8 {m : Nat} {k a b n : Int} (h : OkA m ⟨k, a, b, n⟩) (hk : k = 7 ∨ k = 9) : ∃ x : Nat, b = (x : Int) ∧ x < 8 := by
  obtain ⟨x, e⟩ := nat_of h.b0
  have h1 := h.b1
  unfold rb' at h1
  simp only at h1 e
  rw [if_neg (by omega), if_pos hk] at h1
  exact ⟨x, e, by omega⟩
theorem do_any (w0 w : World) (us : List Value) (rb : Nat) (X : V) (S : St) (h : At w0 us w rb X S) (ok : Ok S) {i : Nat} {t : Tk} (hi : S.tk[i]? = some t) {m : Nat} {a : Ac} (ha : OkA m a) (hq : a.k = 7 → S.qu a.a.toNat ≠ []) :
    Calls Tryd.prog 46 #[.pointer (some ⟨rb, 0, none⟩), .pointer (some ⟨X.tb, i * 7, none⟩), .agg #[.int .i64 a.k, .int .i64 a.a, .int .i64 a.b, .int .i64 a.n]] w fun e w' => DoP w0 us w rb X S (doS S i t a) e w' := by
  obtain ⟨k, aa, ab, an⟩ := a
  have k1 := ha.k1
  have k2 := ha.k2
  have hn := ha.n
  simp only at k1 k2 hq ⊢
  have hk : k = 1 ∨ k = 2 ∨ k = 3 ∨ k = 4 ∨ k = 5 ∨ k = 6 ∨ k = 7 ∨ k = 8 ∨ k = 9 ∨ k = 10 ∨ k = 11 ∨ k = 12 ∨ k = 13 := by omega
  rcases hk with rfl | rfl | rfl | rfl | rfl | rfl | rfl | rfl | rfl | rfl | rfl | rfl | rfl
  · obtain ⟨ia, rfl, hia⟩ := ha.a4 (by simp)
    refine (do_1 w0 w us rb X S h ok hi hia ab an).mono fun e w' hp => ?_
    simpa [doS, DoP] using hp
  · obtain ⟨ia, rfl, hia⟩ := ha.a4 (by simp)
    by_cases hl : S.lk ia = some i
    · refine (do_2 w0 w us rb X S h ok hi hia ab an hl).mono fun e w' hp => ?_
      simpa [doS, DoP, hl] using hp
    · refine (do_2n w0 w us rb X S h ok hi hia ab an hl).mono fun e w' hp => ?_
      simpa [doS, DoP, hl] using hp
  · obtain ⟨ia, rfl, hia⟩ := ha.a4 (by simp)
    obtain ⟨ib, rfl, hib⟩ := ha.b4 rfl
    by_cases hs : t.sl = 0
    · by_cases hl : S.lk ib = some i
      · refine (do_3 w0 w us rb X S h ok hi hia hib an hs hl).mono fun e w' hp => ?_
        simpa [doS, DoP, hl, hs] using hp
      · refine (do_3n w0 w us rb X S h ok hi hib ia an hs hl).mono fun e w' hp => ?_
        simpa [doS, DoP, hl, hs] using hp
    · refine (do_3b w0 w us rb X S h ok hi hib ia an hs).mono fun e w' hp => ?_
      simpa [doS, DoP, hs] using hp
  · obtain ⟨ia, rfl, hia⟩ := ha.a4 (by simp)
    refine (do_4 w0 w us rb X S h ok hi hia ab an).mono fun e w' hp => ?_
    simpa [doS, DoP] using hp
  · obtain ⟨ia, rfl, hia⟩ := ha.a4 (by simp)
    refine (do_5 w0 w us rb X S h ok hi hia ab an).mono fun e w' hp => ?_
    simpa [doS, DoP] using hp
  · obtain ⟨ia, rfl, hia⟩ := ha.a4 (by simp)
    refine (do_6 w0 w us rb X S h ok hi hia ab an).mono fun e w' hp => ?_
    simpa [doS, DoP] using hp
  · obtain ⟨ia, rfl, hia⟩ := ha.a4 (by simp)
    obtain ⟨ib, rfl, hib⟩ := b8 ha (.inl rfl)
    have hq' := hq rfl
    simp only [Int.toNat_natCast] at hq'
    cases hx : S.qu ia with
    | nil => exact absurd hx hq'
    | cons x r =>
      refine (do_7 w0 w us rb X S h ok hi hia hib an x r hx).mono fun e w' hp => ?_
      simpa [doS, DoP, hx] using hp
  · obtain ⟨ia, rfl, hia⟩ := a8 ha (by simp)
    refine (do_8 w0 w us rb X S h ok hi hia ab an).mono fun e w' hp => ?_
    simpa [doS, DoP] using hp
  · obtain ⟨ia, rfl, hia⟩ := a8 ha (by simp)
    obtain ⟨ib, rfl, hib⟩ := b8 ha (.inr rfl)
    refine (do_9 w0 w us rb X S h ok hi hia hib an).mono fun e w' hp => ?_
    simpa [doS, DoP] using hp
  · obtain ⟨ia, rfl, hia⟩ := a8 ha (by simp)
    unfold nOk at hn
    simp at hn
    obtain ⟨n, rfl⟩ := nat_of hn.1
    refine (do_10 w0 w us rb X S h ok hi hia ab (an := n) (by omega)).mono fun e w' hp => ?_
    simpa [doS, DoP] using hp
  · refine (do_11 w0 w us rb X S h ok hi aa ab an).mono fun e w' hp => ?_
    simpa [doS, DoP] using hp
  · refine (do_12 w0 w us rb X S h ok hi aa ab an).mono fun e w' hp => ?_
    simpa [doS, DoP] using hp
  · unfold nOk at hn
    simp at hn
    obtain ⟨n, rfl⟩ := nat_of hn.1
    refine (do_13 w0 w us rb X S h ok hi aa ab (an := n)).mono fun e w' hp => ?_
    simpa [doS, DoP] using hp
def landS (S : St) (i : Nat) (t : Tk) (n : Int) : St := if t.gd = false then { S with tk := S.tk.set i { t with dd := true, wt := n } } else { S with tk := S.tk.set i { t with gd := false, pc := t.ld }, rg := up S.rg 7 n }
set_option maxHeartbeats 2000000 in
theorem land_any (w0 w : World) (us : List Value) (rb : Nat) (X : V) (S : St) (h : At w0 us w rb X S) {i : Nat} {t : Tk} (hi : S.tk[i]? = some t) (n : Int) :
    Calls Tryd.prog 45 #[.pointer (some ⟨rb, 0, none⟩), .pointer (some ⟨X.tb, i * 7, none⟩), .iface 102 (.int .i64 n)] w fun e w' => e = .returned (.tuple #[]) ∧ At w0 us w' rb X (landS S i t n) ∧ Stp rb X X w w' := by
  have ta : ∀ (q : World) (x : Value), (Instr.typeAssert (.iface 102 x) 20 102 true).run Tryd.prog q = .ok (.tuple #[x, .bool true]) q := fun q x => by kernel_rfl
  obtain ⟨-, c1, -, c3, c4, c5, c6⟩ := h.tcell hi
  by_cases hg : t.gd = false
  · have e : Hid (landS S i t n = { S with tk := S.tk.set i { t with dd := true, wt := n } }) := by show _ = _; unfold landS; rw [if_pos hg]
    rw [hg] at c3
    have z5 := h.frzT (i * 7 + 5)
    have AN := h.setT (t' := { t with dd := true }) hi 4 (by decide) (.bool true) rfl rfl
    have hi2 : ({ S with tk := S.tk.set i { t with dd := true } } : St).tk[i]? = some { t with dd := true } := set_same hi
    obtain ⟨-, -, -, -, -, -, d6⟩ := AN.tcell hi2
    have z6 := AN.frzT (i * 7 + 6)
    have AM := AN.setT (t' := { t with dd := true, wt := n }) hi2 5 (by decide) (.int .i64 n) rfl rfl
    have eM : ({ S with tk := ({ S with tk := S.tk.set i { t with dd := true } } : St).tk.set i { t with dd := true, wt := n } } : St) = { S with tk := S.tk.set i { t with dd := true, wt := n } } := by simp
    have FIN : Hid (At w0 us ((w.setCell ⟨X.tb, i * 7 + 5, none⟩ (.bool true)).setCell ⟨X.tb, i * 7 + 6, none⟩ (.int .i64 n)) rb X (landS S i t n) ∧ Stp rb X X w ((w.setCell ⟨X.tb, i * 7 + 5, none⟩ (.bool true)).setCell ⟨X.tb, i * 7 + 6, none⟩ (.int .i64 n))) := ⟨by rw [e.out, ← eM]; exact AM, (stp_setT h _ _).trans (stp_setT AN _ _)⟩
    clear h AN AM eM e hi hi2
    go_enter Tryd.func45, Tryd.ntmps45
    go_wp2_with fail
    first | go_end0 | refine bodyPost_ret (results_none rfl _ _ _) rfl ?_
    exact ⟨rfl, FIN.out⟩
  · have hg' : t.gd = true := by simpa using hg
    have e : Hid (landS S i t n = { S with tk := S.tk.set i { t with gd := false, pc := t.ld }, rg := up S.rg 7 n }) := by show _ = _; unfold landS; rw [if_neg hg]
    rw [hg'] at c3
    have z3 := h.frzT (i * 7 + 3)
    have AN := h.setT (t' := { t with gd := false }) hi 2 (by decide) (.bool false) rfl rfl
    have hi2 : ({ S with tk := S.tk.set i { t with gd := false } } : St).tk[i]? = some { t with gd := false } := set_same hi
    obtain ⟨-, d1, -, -, d4, -, -⟩ := AN.tcell hi2
    have z1 := AN.frzT (i * 7 + 1)
    have AM := AN.setT (t' := { t with gd := false, pc := t.ld }) hi2 0 (by decide) (.int .i64 (t.ld : Int)) rfl rfl
    have g7 := AM.gcell (i := 7) (by omega)
    have y7 := AM.frz (14 + 7)
    have AL := AM.setG (i := 7) (by omega) n
    have eM : ({ ({ ({ S with tk := S.tk.set i { t with gd := false } } : St) with tk := ({ S with tk := S.tk.set i { t with gd := false } } : St).tk.set i { t with gd := false, pc := t.ld } } : St) with rg := up S.rg 7 n } : St) = { S with tk := S.tk.set i { t with gd := false, pc := t.ld }, rg := up S.rg 7 n } := by simp
    have FIN : Hid (At w0 us (((w.setCell ⟨X.tb, i * 7 + 3, none⟩ (.bool false)).setCell ⟨X.tb, i * 7 + 1, none⟩ (.int .i64 (t.ld : Int))).setCell ⟨rb, 21, none⟩ (.int .i64 n)) rb X (landS S i t n) ∧ Stp rb X X w (((w.setCell ⟨X.tb, i * 7 + 3, none⟩ (.bool false)).setCell ⟨X.tb, i * 7 + 1, none⟩ (.int .i64 (t.ld : Int))).setCell ⟨rb, 21, none⟩ (.int .i64 n))) := ⟨by rw [e.out, ← eM]; exact AL, ((stp_setT h _ _).trans (stp_setT AN _ _)).trans (stp_set AM _ _)⟩
    simp only [Nat.reduceAdd] at g7 y7
    clear h AN AM AL eM e hi hi2
    go_enter Tryd.func45, Tryd.ntmps45
    go_wp2_with fail
    first | go_end0 | refine bodyPost_ret (results_none rfl _ _ _) rfl ?_
    exact ⟨rfl, FIN.out⟩
end Go.Proofs.YtiiinpmkidobgaaDoor.Sd

/-
  A step of a task.
-/
namespace Go.Proofs.YtiiinpmkidobgaaDoor.Sd
open Go.RowKit
open Ix (wp_region_T wpAnyT wpAnyT_take wpAnyT_one wpAnyT_done vac)
set_option linter.unusedVariables false
set_option linter.unusedSimpArgs false
set_option maxRecDepth 100000
theorem catch_idle (p q : Addr) (w : World) :
    CallsD Tryd.prog 44 #[.pointer (some p), .pointer (some q)] .returning w fun e u' w' => e = .returned (.tuple #[]) ∧ u' = .returning ∧ w' = w := by
  refine callsD_of_wpS Tryd.func44 rfl fun c₀ cs hu => ?_
  have hnil : ∀ u : World, (binOp .neq 20 .nilIface .nilIface).run Tryd.prog u = .ok (.bool false) u := fun u => by kernel_rfl
  apply wpS_seq
  apply wpS_region
  simp [wpOpsS, go_sem, recoverD, hu, Tryd.ntmps44, Exit.thenS]
  refine wpS_of_wp ?_
  go_wp2_with fail
  cases c₀
  simp_all [bodyPostS, results, Tryd.results44]
theorem catch_panicking (w0 w : World) (us : List Value) (rb : Nat) (X : V) (S : St) (h : At w0 us w rb X S) {i : Nat} {t : Tk} (hi : S.tk[i]? = some t) (n : Int) {p q : Nat} (h1 : w.cell? ⟨p, 0, none⟩ = some (.pointer (some ⟨rb, 0, none⟩))) (h2 : w.cell? ⟨q, 0, none⟩ = some (.pointer (some ⟨X.tb, i * 7, none⟩))) :
    CallsD Tryd.prog 44 #[.pointer (some ⟨p, 0, none⟩), .pointer (some ⟨q, 0, none⟩)] (.panicking [{ v := .iface 102 (.int .i64 n), recovered := false }]) w fun e u' w' =>
      e = .returned (.tuple #[]) ∧ u' = .panicking [{ v := .iface 102 (.int .i64 n), recovered := true }] ∧ At w0 us w' rb X (landS S i t n) ∧ Stp rb X X w w' := by
  refine callsD_of_wpS Tryd.func44 rfl fun c₀ cs hu => ?_
  have hnil : ∀ u : World, (binOp .neq 20 (.iface 102 (.int .i64 n)) .nilIface).run Tryd.prog u = .ok (.bool true) u := fun u => by kernel_rfl
  have LD := hide (land_any w0 w us rb X S h hi n)
  clear h
  apply wpS_seq
  apply wpS_region
  simp [wpOpsS, go_sem, recoverD, hu, Tryd.ntmps44, Exit.thenS]
  refine wpS_of_wp ?_
  go_wp2_with (go_at_call 45; refine LD.out.mono ?_; rintro e w2 ⟨rfl, A2, S2⟩; replace A2 := hide A2; replace S2 := hide S2)
  simp [bodyPostS, results, Tryd.results44]
  exact ⟨A2.out, S2.out⟩
def stepS (S : St) (i : Nat) (t : Tk) (a : Ac) : St := match doS S i t a with
  | .ok S' => S'
  | .error n => landS S i t n
/-- A panic's exit that looks at no slot. -/
def QT (Q : Exit → Act → World → Prop) : Exit → Act → World → Prop
  | .panic ch, a, w => ∀ tm, Q (.panic ch) { tmps := tm, defers := a.defers } w
  | e, a, w => Q e a w
theorem wp_tm {P : Program} {c : Code} {Q : Exit → Act → World → Prop} {a : Act} {w : World} (h : c.wp P (QT Q) a w) : c.wp P Q a w :=
  Code.wp_mono (fun e a w he => by
    cases e with
    | panic ch => exact he a.tmps
    | _ => exact he) h
set_option maxHeartbeats 4000000 in
theorem step_any (w0 w : World) (us : List Value) (rb : Nat) (X : V) (S : St) (h : At w0 us w rb X S) (ok : Ok S) {i : Nat} {t : Tk} (hi : S.tk[i]? = some t) {a : Ac} (ha : t.ac[t.pc]? = some a) (hq : a.k = 7 → S.qu a.a.toNat ≠ []) :
    Calls Tryd.prog 39 #[.pointer (some ⟨rb, 0, none⟩), .pointer (some ⟨X.tb, i * 7, none⟩)] w fun e w' => e = .returned (.tuple #[]) ∧ ∃ X', X'.tb = X.tb ∧ At w0 us w' rb X' (stepS S i t a) ∧ Stp rb X X' w w' := by
  have hmf : ∀ (fn : Fn) (first cap : Array Value) (w : World), (Instr.makeFunc fn first cap).run Tryd.prog w = .ok (.func fn first cap) w := fun _ _ _ _ => rfl
  have okt := ok.tk t (List.mem_of_getElem? hi)
  have oka := okt.ac a (List.mem_of_getElem? ha)
  have hlt : t.pc < t.ac.length := (List.getElem?_eq_some_iff.1 ha).1
  have g2 : (t.pc : Int) < (t.ac.length : Int) := by omega
  have B1 := box_below w (.cells #[.pointer (some ⟨rb, 0, none⟩)] 68)
  have N1 := heap_alloc_new w (.cells #[.pointer (some ⟨rb, 0, none⟩)] 68)
  obtain ⟨w1, hw1⟩ : ∃ w1, Hid (w.alloc (.cells #[.pointer (some ⟨rb, 0, none⟩)] 68) = w1) := ⟨_, rfl⟩
  rw [hw1.out] at B1 N1
  have hz1 : w1.heap.size = w.heap.size + 1 := by rw [← hw1.out]; simp
  have B2 := box_below w1 (.cells #[.pointer (some ⟨X.tb, i * 7, none⟩)] 85)
  have N2 := heap_alloc_new w1 (.cells #[.pointer (some ⟨X.tb, i * 7, none⟩)] 85)
  obtain ⟨w2, hw2⟩ : ∃ w2, Hid (w1.alloc (.cells #[.pointer (some ⟨X.tb, i * 7, none⟩)] 85) = w2) := ⟨_, rfl⟩
  rw [hw2.out] at B2 N2
  rw [hz1] at N2
  have N3 := (B2.block _ (heap_lt N1)).trans N1
  have A2 := h.below (keepF B1 B2)
  have S2 : Hid (Stp rb X X w w2) := Stp.of_below rb X (keepF B1 B2)
  have nO : Hid (¬ Own rb X w.heap.size ∧ ¬ Own rb X (w.heap.size + 1)) := ⟨fun c => by have := h.lt _ c; omega, fun c => by have := h.lt _ c; omega⟩
  obtain ⟨pA, hpA⟩ : ∃ pA, Hid (w.heap.size = pA) := ⟨_, rfl⟩
  rw [hpA.out] at N2 N3 nO hz1
  have bq : Below w2.heap.size w2 w2.drew := (Below.refl _ _).drew
  have AD := hide (A2.below bq)
  have SD : Hid (Stp rb X X w w2.drew) := S2.out.trans (Stp.of_below rb X bq)
  have ND : Hid (w2.drew.heap[pA]? = some (.cells #[.pointer (some ⟨rb, 0, none⟩)] 68) ∧ w2.drew.heap[pA + 1]? = some (.cells #[.pointer (some ⟨X.tb, i * 7, none⟩)] 85)) := ⟨N3, N2⟩
  obtain ⟨⟨u, u1, u2, c0⟩, c1, -⟩ := AD.out.tcell hi
  obtain ⟨ao, cap, rfl, hcap, hacts⟩ := u2
  obtain ⟨ab, aoff, rfl, a0, a1, a2, a3⟩ := hacts t.pc a ha
  have p0 : w2.drew.cell? ⟨pA, 0, none⟩ = some (.pointer (some ⟨rb, 0, none⟩)) := by rw [cell_of ND.out.1]; rfl
  have p1 : w2.drew.cell? ⟨pA + 1, 0, none⟩ = some (.pointer (some ⟨X.tb, i * 7, none⟩)) := by rw [cell_of ND.out.2]; rfl
  have KP := hide (And.intro p0 (And.intro p1 (And.intro c0 (And.intro c1 (And.intro a0 (And.intro a1 (And.intro a2 a3)))))))
  have DO := hide (do_any w0 w2.drew us rb X S AD.out ok hi oka hq)
  have hiH := hide hi
  clear B1 N1 B2 N2 N3 A2 S2 bq h u1 c0 c1 a0 a1 a2 a3 p0 p1 hacts okt oka ok hq hi
  go_enter_defers Tryd.func39, Tryd.ntmps39
  go_upto_region 2 with fail
  rw [hw1.out, hw2.out]
  rw [hpA.out]
  refine wp_tm ?_
  refine wp_region_T (fun q => q.cell? ⟨pA, 0, none⟩ = some (.pointer (some ⟨rb, 0, none⟩)) ∧ q.cell? ⟨pA + 1, 0, none⟩ = some (.pointer (some ⟨X.tb, i * 7, none⟩)) ∧ q.cell? ⟨X.tb, i * 7, none⟩ = some (.slice (some ⟨ab, aoff, none⟩) t.ac.length cap) ∧ q.cell? ⟨X.tb, i * 7 + 1, none⟩ = some (.int .i64 (t.pc : Int)) ∧ AcAt q ab (aoff + t.pc * 4) a) 12 (by kernel_rfl) ?_
  generalize w2.drew = q at *
  refine wpAnyT_take (i := 0) (oi := { dst := some 5, op := Op.load 68 (Operand.tmp 2), type := 68, pos := "task.go:42", after := #[], guard := none }) (v := .pointer (some ⟨rb, 0, none⟩)) [12] rfl (by kernel_rfl) (by kernel_rfl) (by kernel_rfl) (by kernel_rfl) (fun _ _ _ h => h) (Or.inl ⟨by rfl, ?_⟩) KP.out ?_
  · intro wq hSw
    obtain ⟨y0, y1, y2, y3, y4, y5, y6, y7⟩ := hSw
    go_simp
  (try simp only [Act.put, List.setIfInBounds_toArray, List.set_cons_zero, List.set_cons_succ])
  refine wpAnyT_take (i := 1) (oi := { dst := some 6, op := Op.load 85 (Operand.tmp 3), type := 85, pos := "task.go:42", after := #[], guard := none }) (v := .pointer (some ⟨X.tb, i * 7, none⟩)) [12] rfl (by kernel_rfl) (by kernel_rfl) (by kernel_rfl) (by kernel_rfl) (fun _ _ _ h => h) (Or.inl ⟨by rfl, ?_⟩) KP.out ?_
  · intro wq hSw
    obtain ⟨y0, y1, y2, y3, y4, y5, y6, y7⟩ := hSw
    go_simp
  (try simp only [Act.put, List.setIfInBounds_toArray, List.set_cons_zero, List.set_cons_succ])
  refine wpAnyT_take (i := 2) (oi := { dst := some 7, op := Op.load 85 (Operand.tmp 3), type := 85, pos := "task.go:42", after := #[], guard := none }) (v := .pointer (some ⟨X.tb, i * 7, none⟩)) [3, 4, 5, 10, 11, 12] rfl (by kernel_rfl) (by kernel_rfl) (by kernel_rfl) (by kernel_rfl) (fun _ _ _ h => h) (Or.inl ⟨by rfl, ?_⟩) KP.out ?_
  · intro wq hSw
    obtain ⟨y0, y1, y2, y3, y4, y5, y6, y7⟩ := hSw
    go_simp
  (try simp only [Act.put, List.setIfInBounds_toArray, List.set_cons_zero, List.set_cons_succ])
  refine wpAnyT_take (i := 3) (oi := { dst := some 8, op := Op.nilCheck (Operand.tmp 7), type := 0, pos := "task.go:42", after := #[{ on := 2, ground := Ground.data }], guard := none }) (v := .pointer (some ⟨X.tb, i * 7, none⟩)) [4, 5, 10, 11, 12] rfl (by kernel_rfl) (by kernel_rfl) (by kernel_rfl) (by kernel_rfl) (fun _ _ _ h => h) (Or.inl ⟨by rfl, ?_⟩) KP.out ?_
  · intro wq hSw
    obtain ⟨y0, y1, y2, y3, y4, y5, y6, y7⟩ := hSw
    go_simp
  (try simp only [Act.put, List.setIfInBounds_toArray, List.set_cons_zero, List.set_cons_succ])
  refine wpAnyT_take (i := 4) (oi := { dst := some 9, op := Op.fieldAddr 93 (Operand.tmp 8) 0, type := 0, pos := "task.go:42", after := #[{ on := 3, ground := Ground.data }], guard := none }) (v := .pointer (some ⟨X.tb, i * 7, none⟩)) [5, 10, 11, 12] rfl (by kernel_rfl) (by kernel_rfl) (by kernel_rfl) (by kernel_rfl) (fun _ _ _ h => h) (Or.inl ⟨by rfl, ?_⟩) KP.out ?_
  · intro wq hSw
    obtain ⟨y0, y1, y2, y3, y4, y5, y6, y7⟩ := hSw
    go_simp
  (try simp only [Act.put, List.setIfInBounds_toArray, List.set_cons_zero, List.set_cons_succ])
  refine wpAnyT_take (i := 5) (oi := { dst := some 10, op := Op.load 46 (Operand.tmp 9), type := 46, pos := "task.go:42", after := #[{ on := 4, ground := Ground.data }], guard := none }) (v := .slice (some ⟨ab, aoff, none⟩) t.ac.length cap) [10, 11, 12] rfl (by kernel_rfl) (by kernel_rfl) (by kernel_rfl) (by kernel_rfl) (fun _ _ _ h => h) (Or.inl ⟨by rfl, ?_⟩) KP.out ?_
  · intro wq hSw
    obtain ⟨y0, y1, y2, y3, y4, y5, y6, y7⟩ := hSw
    go_simp
  (try simp only [Act.put, List.setIfInBounds_toArray, List.set_cons_zero, List.set_cons_succ])
  refine wpAnyT_take (i := 6) (oi := { dst := some 11, op := Op.load 85 (Operand.tmp 3), type := 85, pos := "task.go:42", after := #[], guard := none }) (v := .pointer (some ⟨X.tb, i * 7, none⟩)) [7, 8, 9, 10, 11, 12] rfl (by kernel_rfl) (by kernel_rfl) (by kernel_rfl) (by kernel_rfl) (fun _ _ _ h => h) (Or.inl ⟨by rfl, ?_⟩) KP.out ?_
  · intro wq hSw
    obtain ⟨y0, y1, y2, y3, y4, y5, y6, y7⟩ := hSw
    go_simp
  (try simp only [Act.put, List.setIfInBounds_toArray, List.set_cons_zero, List.set_cons_succ])
  refine wpAnyT_take (i := 7) (oi := { dst := some 12, op := Op.nilCheck (Operand.tmp 11), type := 0, pos := "task.go:42", after := #[{ on := 6, ground := Ground.data }], guard := none }) (v := .pointer (some ⟨X.tb, i * 7, none⟩)) [8, 9, 10, 11, 12] rfl (by kernel_rfl) (by kernel_rfl) (by kernel_rfl) (by kernel_rfl) (fun _ _ _ h => h) (Or.inl ⟨by rfl, ?_⟩) KP.out ?_
  · intro wq hSw
    obtain ⟨y0, y1, y2, y3, y4, y5, y6, y7⟩ := hSw
    go_simp
  (try simp only [Act.put, List.setIfInBounds_toArray, List.set_cons_zero, List.set_cons_succ])
  refine wpAnyT_take (i := 8) (oi := { dst := some 13, op := Op.fieldAddr 93 (Operand.tmp 12) 1, type := 0, pos := "task.go:42", after := #[{ on := 7, ground := Ground.data }], guard := none }) (v := .pointer (some ⟨X.tb, i * 7 + 1, none⟩)) [9, 10, 11, 12] rfl (by kernel_rfl) (by kernel_rfl) (by kernel_rfl) (by kernel_rfl) (fun _ _ _ h => h) (Or.inl ⟨by rfl, ?_⟩) KP.out ?_
  · intro wq hSw
    obtain ⟨y0, y1, y2, y3, y4, y5, y6, y7⟩ := hSw
    go_simp
  (try simp only [Act.put, List.setIfInBounds_toArray, List.set_cons_zero, List.set_cons_succ])
  refine wpAnyT_take (i := 9) (oi := { dst := some 14, op := Op.load 3 (Operand.tmp 13), type := 3, pos := "task.go:42", after := #[{ on := 8, ground := Ground.data }], guard := none }) (v := .int .i64 (t.pc : Int)) [10, 11, 12] rfl (by kernel_rfl) (by kernel_rfl) (by kernel_rfl) (by kernel_rfl) (fun _ _ _ h => h) (Or.inl ⟨by rfl, ?_⟩) KP.out ?_
  · intro wq hSw
    obtain ⟨y0, y1, y2, y3, y4, y5, y6, y7⟩ := hSw
    go_simp
  (try simp only [Act.put, List.setIfInBounds_toArray, List.set_cons_zero, List.set_cons_succ])
  refine wpAnyT_take (i := 10) (oi := { dst := some 15, op := Op.indexAddr 46 (Operand.tmp 10) (Operand.tmp 14), type := 0, pos := "task.go:42", after := #[{ on := 5, ground := Ground.data }, { on := 9, ground := Ground.data }], guard := none }) (v := .pointer (some ⟨ab, aoff + t.pc * 4, none⟩)) [11, 12] rfl (by kernel_rfl) (by kernel_rfl) (by kernel_rfl) (by kernel_rfl) (fun _ _ _ h => h) (Or.inl ⟨by rfl, ?_⟩) KP.out ?_
  · intro wq hSw
    obtain ⟨y0, y1, y2, y3, y4, y5, y6, y7⟩ := hSw
    go_simp
  (try simp only [Act.put, List.setIfInBounds_toArray, List.set_cons_zero, List.set_cons_succ])
  refine wpAnyT_take (i := 11) (oi := { dst := some 16, op := Op.load 45 (Operand.tmp 15), type := 45, pos := "task.go:42", after := #[{ on := 10, ground := Ground.data }], guard := none }) (v := .agg #[.int .i64 a.k, .int .i64 a.a, .int .i64 a.b, .int .i64 a.n]) [12] rfl (by kernel_rfl) (by kernel_rfl) (by kernel_rfl) (by kernel_rfl) (fun _ _ _ h => h) (Or.inl ⟨by rfl, ?_⟩) KP.out ?_
  · intro wq hSw
    obtain ⟨y0, y1, y2, y3, y4, y5, y6, y7⟩ := hSw
    go_simp
  (try simp only [Act.put, List.setIfInBounds_toArray, List.set_cons_zero, List.set_cons_succ])
  refine wpAnyT_one (i := 12) (o := { dst := some 17, op := Op.call { callee := Callee.value (Operand.func 46), args := #[Operand.tmp 5, Operand.tmp 6, Operand.tmp 16], argTypes := #[68, 85, 45] }, type := 0, pos := "task.go:42", after := #[{ on := 0, ground := Ground.data }, { on := 1, ground := Ground.data }, { on := 11, ground := Ground.data }], guard := none }) (by kernel_rfl) rfl (fun K hK => ?_)
  go_simp
  go_at_call 46
  refine DO.out.mono ?_
  intro e q2 hp
  unfold DoP at hp
  have SE : Hid (stepS S i t a = match doS S i t a with | .ok S' => S' | .error n => landS S i t n) := rfl
  cases hd : doS S i t a with
  | ok S' =>
    rw [hd] at hp SE
    obtain ⟨rfl, X', hX, A3, S3⟩ := hp
    have A3 := hide A3
    have S3 := hide S3
    simp only at SE
    refine hK.out _ _ (vac (by kernel_rfl)) ?_
    clear hK K
    refine wpAnyT_done (by kernel_rfl) ?_ _
    refine leaves_cons (f := 44) (args := #[.pointer (some ⟨pA, 0, none⟩), .pointer (some ⟨pA + 1, 0, none⟩)]) (by simp) (by simp [go_sem]) ?_
    refine (catch_idle ⟨pA, 0, none⟩ ⟨pA + 1, 0, none⟩ _).mono ?_
    rintro e u' w'' ⟨rfl, rfl, rfl⟩
    rw [SE.out]
    simp [Leaves, settle, results, Tryd.results39, go_sem]
    exact ⟨X', hX, A3.out, SD.out.trans S3.out⟩
  | error n =>
    rw [hd] at hp SE
    obtain ⟨rfl, A3, S3⟩ := hp
    have p0 : q2.cell? ⟨pA, 0, none⟩ = some (.pointer (some ⟨rb, 0, none⟩)) := by rw [cell_of (S3.1.at ND.out.1 nO.out.1)]; rfl
    have p1 : q2.cell? ⟨pA + 1, 0, none⟩ = some (.pointer (some ⟨X.tb, i * 7, none⟩)) := by rw [cell_of (S3.1.at ND.out.2 nO.out.2)]; rfl
    simp only at SE
    intro tm
    refine leaves_cons (f := 44) (args := #[.pointer (some ⟨pA, 0, none⟩), .pointer (some ⟨pA + 1, 0, none⟩)]) (by simp) (by simp [go_sem]) ?_
    refine (catch_panicking w0 q2 us rb X S A3 hiH.out n p0 p1).mono ?_
    rintro e u' w'' ⟨rfl, rfl, A4, S4⟩
    rw [SE.out]
    simp [Leaves, settle, results, Tryd.results39, go_sem]
    exact ⟨X, rfl, A4, SD.out.trans (S3.trans S4)⟩
end Go.Proofs.YtiiinpmkidobgaaDoor.Sd

