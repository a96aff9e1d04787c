/-
  Rows of registers as cells; the table of what eight steps make of each byte, filled from the high bits on. No program is named here.
-/
import Derived.Test.YtpflaglfnkmjiaaGreatM01
import Derived.Deep.WholeRow
import Derived.Deep.MidRow
import Derived.Below
import Derived.Laws.ResultCell
import Derived.Defers
import Derived.Recover
import Derived.Deep.RegionHeld3
import Derived.BigQuiet
import Derived.Deep.AppendLies
import Derived.Deep.CutRange
import Derived.Deep.RegionLaw
import Derived.BigRegion
import Derived.Deep.RegionHeld
import Derived.Handy
set_option maxRecDepth 100000
set_option maxHeartbeats 40000000
set_option linter.unusedVariables false
namespace Go.Proofs.YtpflaglfnkmjiaaGreat.Crc
open Go.RowKit
def row (f : Nat → R) (n : Nat) : Array Value := Array.ofFn (n := n) fun i => .int .u32 ((f i.val).toNat : Int)
def upd (f : Nat → R) (i : Nat) (v : R) : Nat → R := fun j => if j = i then v else f j
theorem row_size (f : Nat → R) (n : Nat) : (row f n).size = n := by simp [row]
theorem row_get (f : Nat → R) (n i : Nat) (h : i < n) : (row f n)[i]? = some (.int .u32 ((f i).toNat : Int)) := by
 simp [row, h]
theorem row_set (f : Nat → R) (n i : Nat) (v : R) : (row f n).setIfInBounds i (.int .u32 (v.toNat : Int)) = row (upd f i v) n := by
 apply Array.ext_getElem?
 intro j
 rw [Array.getElem?_setIfInBounds]
 by_cases hj : j < n
 ·rw [row_get _ _ _ hj, row_get _ _ _ hj]
  by_cases h : i = j
  ·subst h; simp [upd, hj, row_size]
  ·simp [upd, h, show ¬ j = i from fun e => h e.symm]
 ·have e1 : (row f n)[j]? = none := Array.getElem?_eq_none (by rw [row_size]; omega)
  have e2 : (row (upd f i v) n)[j]? = none := Array.getElem?_eq_none (by rw [row_size]; omega)
  rw [e1, e2]
  by_cases h : i = j
  ·subst h; simp [row_size, hj]
  ·simp [h]
theorem row_one (f : Nat → R) (n : Nat) : (row f n).all (·.oneCell') = true := by
 rw [Array.all_eq_true]
 intro i h
 simp only [row, Array.getElem_ofFn]
 rfl
theorem row_zero (n : Nat) : row (fun _ => 0#32) n = Array.replicate n (.int .u32 0) := by
 apply Array.ext
 ·simp [row]
 ·intro j h1 h2
  simp [row]
theorem row_congr {f g : Nat → R} {n : Nat} (h : ∀ i, i < n → f i = g i) : row f n = row g n := by
 apply Array.ext
 ·simp [row]
 ·intro j h1 h2
  have h1' : j < n := by simpa [row] using h1
  simp only [row, Array.getElem_ofFn, h j h1']
theorem heap_new (w : World) (o : Obj) : (w.alloc o).heap[w.heap.size]? = some o := heap_alloc_last w o
theorem heap_old (w : World) (o p : Obj) : ((w.alloc o).alloc p).heap[w.heap.size]? = some o := by
 rw [Below.heap_alloc _ _ _ (by simp), heap_new]
theorem range_of {w : World} {b : Nat} {C : Array Value} {t : TypeId} {fr : Nat × Nat} (h : w.heap[b]? = some (.cells C t fr)) : w.rangeAt b 0 C.toList := fun j v hv => by
 rw [cell_of_row w b (0 + j) C t fr h, Nat.zero_add]; simpa using hv
theorem there_of {w : World} {b n : Nat} {C : Array Value} {t : TypeId} (h : w.heap[b]? = some (.cells C t)) (hn : C.size = n) : w.there b 0 n := fun j hj => by
 refine ⟨?_, by simp [World.frozen?, h]⟩
 rw [cell_of_row w b (0 + j) C t (0, 0) h, Nat.zero_add, Array.getElem?_eq_getElem (by omega)]; rfl
theorem below_setCells {B b : Nat} (hb : B ≤ b) : ∀ (vs : List Value) (o : Nat) {a w : World}, Below B a w → Below B a (w.setCells b o vs)
 | [], _, _, _, h => h
 | v :: r, o, a, w, h => by
  rw [World.setCells.eq_def]
  exact below_setCells hb r (o + 1) (h.setCell hb v)
theorem results_cell1 {P : Program} {fn : Func} {p : Tmp} {ty : TypeId} (h : fn.results = #[.cell p ty]) (tmps : Array Value) (w : World) (a : Addr) (v : Value)
    (ha : tmps.getD p undef = .pointer (some a)) (hl : (loadVar ty a).run P w = .ok v w) : (results fn tmps).run P w = .ok v w := by
 have ha' : tmps[p]?.getD undef = .pointer (some a) := by simpa [Array.getD_eq_getD_getElem?] using ha
 simp only [results, h]
 simp [ha', asAddr, hl]
def Tab (f : Nat → R) (B a : Nat) : Prop := ∀ x, x < 256 → x % B = 0 → (x < a ∨ x % (2 * B) = 0) → f x = st 8 (BitVec.ofNat 32 x)
theorem tab_low : ∀ k : Fin 8, ∀ a : Fin 256, a.val % (2 * 2 ^ (7 - k.val)) = 0 → st 8 (BitVec.ofNat 32 (a.val + 2 ^ (7 - k.val))) = st 8 (BitVec.ofNat 32 a.val) ^^^ st (k.val + 1) 1#32 := by decide +kernel
theorem tab_init : Tab (fun _ => 0#32) (2 ^ 8) 256 := by
 intro x hx h _
 have : x = 0 := by omega
 subst this
 exact (st_zero 8).symm
theorem tab_next {f : Nat → R} {k : Nat} (hk : k < 8) (h : Tab f (2 ^ (8 - k)) 256) : Tab f (2 ^ (7 - k)) 0 := by
 intro x hx h1 h2
 have e : 2 ^ (8 - k) = 2 * 2 ^ (7 - k) := by rw [show 8 - k = (7 - k) + 1 by omega, Nat.pow_succ, Nat.mul_comm]
 rcases h2 with h2 | h2
 ·omega
 ·exact h x hx (by rw [e]; exact h2) (.inl hx)
theorem tab_step {f : Nat → R} {k a : Nat} (hk : k < 8) (ha : a < 256) (hm : a % (2 * 2 ^ (7 - k)) = 0) (h : Tab f (2 ^ (7 - k)) a) :
    Tab (upd f (a + 2 ^ (7 - k)) (f a ^^^ st (k + 1) 1#32)) (2 ^ (7 - k)) (a + 2 * 2 ^ (7 - k)) := by
 have hB : 0 < 2 ^ (7 - k) := Nat.pow_pos (by omega)
 have h0 : a % 2 ^ (7 - k) = 0 := by
  have := Nat.mod_mul_left_mod a 2 (2 ^ (7 - k))
  rw [hm] at this
  simpa using this.symm
 intro x hx h1 h2
 unfold upd
 by_cases e : x = a + 2 ^ (7 - k)
 ·rw [if_pos e, e, h a ha h0 (.inr hm)]
  exact (tab_low ⟨k, hk⟩ ⟨a, ha⟩ hm).symm
 ·rw [if_neg e]
  refine h x hx h1 ?_
  rcases h2 with h2 | h2
  ·by_cases hxa : x < a
   ·exact .inl hxa
   ·right
    obtain ⟨p, hp⟩ := Nat.dvd_of_mod_eq_zero h1
    obtain ⟨q, hq⟩ := Nat.dvd_of_mod_eq_zero hm
    have hB0 : 2 ^ (7 - k) ≠ 0 := by omega
    generalize 2 ^ (7 - k) = B at *
    have : p = 2 * q := by
     have a1 : B * p < B * (2 * q + 2) := by rw [Nat.mul_add, ← Nat.mul_assoc, Nat.mul_comm B 2, Nat.mul_assoc]; rw [hq, hp, Nat.mul_assoc] at h2; omega
     have a2 : B * (2 * q) ≤ B * p := by rw [← Nat.mul_assoc, Nat.mul_comm B 2, Nat.mul_assoc]; rw [hq, hp, Nat.mul_assoc] at hxa; omega
     have b1 := Nat.lt_of_mul_lt_mul_left a1
     have b2 := Nat.le_of_mul_le_mul_left a2 hB
     have b3 : p ≠ 2 * q + 1 := by
      rintro rfl
      apply e
      rw [hp, hq, Nat.mul_add, Nat.mul_one, ← Nat.mul_assoc, Nat.mul_comm B 2]
     omega
    rw [hp, this, ← Nat.mul_assoc, Nat.mul_comm B 2]
    exact Nat.mul_mod_right _ _
  ·exact .inr h2
theorem tab_last {f : Nat → R} (h : Tab f (2 ^ (8 - 8)) 256) : row f 256 = row (fun x => st 8 (BitVec.ofNat 32 x)) 256 :=
 row_congr fun i hi => h i hi (by simp [Nat.mod_one]) (.inl hi)
theorem tab_done {f : Nat → R} {k a : Nat} (hk : k < 8) (ha : 256 ≤ a) (h : Tab f (2 ^ (7 - k)) a) : Tab f (2 ^ (8 - (k + 1))) 256 := by
 intro x hx h1 h2
 rw [show 8 - (k + 1) = 7 - k by omega] at h1
 exact h x hx h1 (.inl (by omega))
theorem tab_room {k a : Nat} (hk : k < 8) (ha : a < 256) (hm : a % (2 * 2 ^ (7 - k)) = 0) : a + 2 * 2 ^ (7 - k) ≤ 256 := by
 obtain ⟨q, hq⟩ := Nat.dvd_of_mod_eq_zero hm
 have e : 2 * 2 ^ (7 - k) * 2 ^ k = 256 := by
  rw [show 2 * 2 ^ (7 - k) = 2 ^ (8 - k) by rw [show 8 - k = (7 - k) + 1 by omega, Nat.pow_succ, Nat.mul_comm], ← Nat.pow_add, show 8 - k + k = 8 by omega]
 have h1 : 2 * 2 ^ (7 - k) * q < 2 * 2 ^ (7 - k) * 2 ^ k := by rw [e, ← hq]; exact ha
 have h2 : 2 * 2 ^ (7 - k) * (q + 1) ≤ 2 * 2 ^ (7 - k) * 2 ^ k := Nat.mul_le_mul_left _ (Nat.lt_of_mul_lt_mul_left h1)
 rw [e, Nat.mul_add, ← hq] at h2
 omega
def tbl : Array Value := row (fun x => st 8 (BitVec.ofNat 32 x)) 256
theorem zero256 : (∀ w, (zeroValue 279).run Tryz.prog w = .ok (.agg (Array.replicate 256 (.int .u32 0))) w) ∧ (Tryz.prog.info? 279).map (·.size) = some 256 :=
 zero_of_info (by kernel_rfl)
theorem table_any (w : World) :
    Calls Tryz.prog 194 #[] w fun e w' => e = .returned (.agg tbl) ∧ Below w.heap.size w w' := by
 have hz := zero256.1
 go_enter Tryz.func194, Tryz.ntmps194
 go_wp2_with fail
 rw [← row_zero 256]
 have hx2 : ∀ a b : R, bits .xor .u32 (a.toNat : Int) (b.toNat : Int) = ((a ^^^ b).toNat : Int) := b_xor
 have HX : Hid (∀ a b : R, bits .xor .u32 (a.toNat : Int) (b.toNat : Int) = ((a ^^^ b).toNat : Int)) := hx2
 clear hx2
 go_loopw [2, 3] (fun vc vb wr => ∃ (k bt : Nat) (f : Nat → R), k ≤ 8 ∧ vc = .int .u32 ((st k 1#32).toNat : Int) ∧ vb = .int .i64 (bt : Int) ∧ Hid (bt = 128 / 2 ^ k) ∧ Hid (Tab f (2 ^ (8 - k)) 256) ∧ wr = (w.alloc (.cells (row (fun _ => 0#32) 256) 279)).alloc (.cells (row f 256) 279)) (fun _ b _ => (intOf b).toNat)
 case atStart => exact ⟨0, 128, _, by omega, rfl, rfl, rfl, tab_init, rfl⟩
 case round =>
  obtain ⟨k, bt, f, hk, rfl, rfl, hbt, htab, rfl⟩ := hrel
  by_cases h8 : k < 8
  ·have eB : bt = 2 ^ (7 - k) := by rw [hbt.out, show 128 = 2 ^ 7 from rfl, Nat.pow_div (by omega) (by omega)]
   have hpos : 0 < bt := by rw [eB]; exact Nat.pow_pos (by omega)
   have hle : bt ≤ 128 := by rw [hbt.out]; exact Nat.div_le_self _ _
   have HB : Hid (bt = 2 ^ (7 - k)) := eB
   have hnext : Hid (bt / 2 = 128 / 2 ^ (k + 1)) := by show _ = _; rw [hbt.out, Nat.pow_succ, Nat.div_div_eq_div_mul]
   have ht0 : Hid (Tab f (2 ^ (7 - k)) 0) := tab_next h8 htab.out
   clear eB hbt htab
   go_wp2_with fail
   refine (step_any _ _).mono ?_
   rintro e w1 ⟨rfl, rfl⟩
   rw [← st_succ']
   go_wp2_with fail
   go_loopw [4] (fun va wr => ∃ (a : Nat) (g : Nat → R), va = .int .i64 (a : Int) ∧ a ≤ 256 ∧ Hid (a % (2 * 2 ^ (7 - k)) = 0) ∧ Hid (Tab g (2 ^ (7 - k)) a) ∧ wr = (w.alloc (.cells (row (fun _ => 0#32) 256) 279)).alloc (.cells (row g 256) 279)) (fun a _ => 256 - (intOf a).toNat)
   case atStart => exact ⟨0, f, rfl, by omega, by show _ = _; simp, ht0.out, rfl⟩
   case round =>
    obtain ⟨a, g, rfl, ha, hm, htab, rfl⟩ := hrel
    by_cases hlt : a < 256
    ·have hroom := tab_room h8 hlt hm.out
     rw [← HB.out] at hroom
     have hc1 := row_get g 256 a hlt
     have hc2 := row_get g 256 (a + bt) (by omega)
     obtain ⟨v, hv⟩ : ∃ v, v = g a ^^^ st (k + 1) 1#32 := ⟨_, rfl⟩
     have hx := HX.out (g a) (st (k + 1) 1#32)
     rw [← hv] at hx
     have HS : Hid (Tab (upd g (a + bt) v) (2 ^ (7 - k)) (a + 2 * bt)) := by
      have := tab_step h8 hlt hm.out htab.out
      rw [← HB.out] at this ⊢
      rw [hv]; exact this
     have HM2 : Hid ((a + 2 * bt) % (2 * 2 ^ (7 - k)) = 0) := by
      show _ = _
      rw [← HB.out, Nat.add_mod_right]
      have := hm.out
      rw [← HB.out] at this
      exact this
     have HR : Hid ((row g 256).setIfInBounds (a + bt) (.int .u32 (v.toNat : Int)) = row (upd g (a + bt) v) 256) := row_set _ _ _ _
     obtain ⟨Z, hZ⟩ : ∃ Z, Z = row (fun _ => 0#32) 256 := ⟨_, rfl⟩
     obtain ⟨C, hC⟩ : ∃ C, C = row g 256 := ⟨_, rfl⟩
     rw [← hC] at hc1 hc2 HR ⊢
     rw [← hZ]
     have HZ : Hid (Z = row (fun _ => 0#32) 256) := hZ
     clear hv hm htab ht0 hnext hZ hC
     go_wp2_with fail
     go_roundw
     case rel => exact ⟨a + 2 * bt, upd g (a + bt) v, by go_num, by omega, HM2.out, HS.out, by rw [HR.out, HZ.out]⟩
     case measure => simp [intOf]; omega
    ·obtain rfl : a = 256 := by omega
     have HD : Hid (Tab g (2 ^ (8 - (k + 1))) 256) := tab_done h8 (Nat.le_refl _) htab.out
     clear hm htab ht0
     go_wp2_with fail
     go_roundw
     case rel => exact ⟨k + 1, bt / 2, g, by omega, rfl, by go_num, hnext, HD.out, rfl⟩
     case measure => simp [intOf]; omega
  ·obtain rfl : k = 8 := by omega
   obtain rfl : bt = 0 := by rw [hbt.out]
   have HT : Hid (row f 256 = tbl) := tab_last htab.out
   rw [HT.out]
   clear htab HT
   have hs : tbl.size = 256 := row_size _ _
   have h1 : tbl.all (·.oneCell') = true := row_one _ _
   have hr : Hid (((w.alloc (.cells (row (fun _ => 0#32) 256) 279)).alloc (.cells tbl 279)).rangeAt (w.heap.size + 1) 0 tbl.toList) := range_of (by simpa using heap_new (w.alloc (.cells (row (fun _ => 0#32) 256) 279)) _)
   have ht : Hid (((w.alloc (.cells (row (fun _ => 0#32) 256) 279)).alloc (.cells tbl 279)).there w.heap.size 0 256) := there_of (heap_old w _ _) (row_size _ _)
   have hbl : Hid (Below w.heap.size w ((w.alloc (.cells (row (fun _ => 0#32) 256) 279)).alloc (.cells tbl 279))) := (box_below w _).alloc (by simp) _
   have hi : (Tryz.prog.info? 279).map (·.size) = some tbl.size := by rw [hs]; exact zero256.2
   have HI : Hid ((Tryz.prog.info? 279).map (·.size) = some tbl.size) := hi
   have HI2 : Hid ((Tryz.prog.info? 279).map (·.size) = some tbl.toList.length) := by show _ = _; rw [Array.length_toList]; exact hi
   have HS : Hid (tbl.size = 256) := hs
   have H1 : Hid (tbl.all (·.oneCell') = true) := h1
   clear hs h1 hi
   generalize hwv : (w.alloc (.cells (row (fun _ => 0#32) 256) 279)).alloc (.cells tbl 279) = wv at *
   have HL : Hid ((loadVar 279 ⟨w.heap.size, 0, none⟩).run Tryz.prog (wv.setCells w.heap.size 0 tbl.toList) = .ok (.agg tbl) (wv.setCells w.heap.size 0 tbl.toList)) := by
    have := run_loadVar_mid (P := Tryz.prog) (wv.setCells w.heap.size 0 tbl.toList) w.heap.size 0 279 tbl.toList _ (World.rangeAt_setCells_same wv w.heap.size 0 tbl.toList (by rw [Array.length_toList, HS.out]; exact ht.out)) Tryz.underlying279 rfl HI2.out
    rw [Array.toArray_toList] at this
    exact this
   have HB : Hid (Below w.heap.size w (wv.setCells w.heap.size 0 tbl.toList)) := below_setCells (Nat.le_refl _) _ _ hbl.out
   clear hwv hbl
   go_wp2_with (first
    | (refine wpList_load_mid rfl 279 (.tmp 1) rfl (w.heap.size + 1) 0 rfl tbl.toList _ hr.out Tryz.underlying279 rfl HI2.out ?_; rw [Array.toArray_toList])
    | (refine wpList_store_mid rfl 279 (.tmp 0) (.tmp 26) rfl w.heap.size 0 tbl rfl rfl (by rw [HS.out]; exact ht.out) HI.out H1.out ?_))
   (try simp only [Exit.inBlock, Exit.then])
   refine bodyPost_ret (v := .agg tbl) (results_cell1 rfl _ _ ⟨w.heap.size, 0, none⟩ _ rfl HL.out) rfl ⟨rfl, HB.out⟩
theorem feed_snoc (c : R) (l : List UInt8) (k : Nat) (h : k < l.length) : feed c (l.take (k + 1)) = st 8 (feed c (l.take k) ^^^ byte l[k]) := by
 rw [take_snoc l k h, feed_append]; rfl
theorem byte_idx (c : R) (x : UInt8) : bits BinOp.xor IntKind.u8 ((c.toNat : Int) % 256) (x.toNat : Int) = ((c.toNat % 256 ^^^ x.toNat : Nat) : Int) := by
 have := u8_xor_nat (c.toNat % 256) x.toNat (by omega) x.toNat_lt
 simpa using this
theorem byte_idx_lt (c : R) (x : UInt8) : c.toNat % 256 ^^^ x.toNat < 256 := by
 have := Nat.xor_lt_two_pow (n := 8) (show c.toNat % 256 < 2 ^ 8 by omega) (show x.toNat < 2 ^ 8 from x.toNat_lt)
 simpa using this
theorem shr8 (c : R) : (c.toNat : Int) / (256 : Int) = ((c >>> 8).toNat : Int) := by
 rw [BitVec.toNat_ushiftRight, Nat.shiftRight_eq_div_pow]; omega
theorem more_step (c : R) (x : UInt8) : bits BinOp.xor IntKind.u32 ((c.toNat : Int) / (256 : Int)) ((st 8 (BitVec.ofNat 32 (c.toNat % 256 ^^^ x.toNat))).toNat : Int) = ((st 8 (c ^^^ byte x)).toNat : Int) := by
 rw [shr8, b_xor, ← st8_split]
theorem table_some (w : World) :
    Calls Tryz.prog 194 #[] w fun e w' => ∃ T : Array Value, e = .returned (.agg T) ∧ Below w.heap.size w w' ∧ Hid (T.size = 256) ∧ Hid (T.all (·.oneCell') = true) ∧ Hid (∀ i, i < 256 → T[i]? = some (.int .u32 ((st 8 (BitVec.ofNat 32 i)).toNat : Int))) :=
 (table_any w).mono fun _ _ ⟨h, hb⟩ => ⟨tbl, h, hb, row_size _ _, row_one _ _, fun i hi => row_get _ 256 i hi⟩
theorem more_any (w : World) (sum : R) (v : Value) (l : List UInt8) (hv : Sl w v l) :
    Calls Tryz.prog 163 #[.int .u32 (sum.toNat : Int), v] w fun e w' => e = .returned (.int .u32 ((more sum l).toNat : Int)) ∧ Below w.heap.size w w' := by
 obtain ⟨ao, ca, rfl, h2, h3, h4, h5⟩ := hv
 have hca : ca ≤ 9223372036854775807 := by unfold maxLen at h4; omega
 clear h2 h4
 by_cases h0 : l.length = 0
 ·have hl : l = [] := List.length_eq_zero_iff.1 h0
  subst hl
  clear h5 h0
  go_enter Tryz.func163, Tryz.ntmps163
  go_wp2_with fail
  go_ret
  exact ⟨by rw [more_nil]; rfl, Below.refl _ _⟩
 ·have hz := zero256.1
  have h0' : ¬ ((l.length : Int) = 0) := by omega
  have HZ : Hid (∀ n, ((l.length : Int) == 0) = n → n = false) := by show ∀ n, _; intro n hn; rw [← hn]; simpa using h0
  go_enter Tryz.func163, Tryz.ntmps163
  go_wp2_with fail
  refine (table_some _).mono ?_
  rintro e w1 ⟨T, rfl, hb1, hs, h1, hT⟩
  have hi : Hid ((Tryz.prog.info? 279).map (·.size) = some T.size) := by show _ = _; rw [hs.out]; exact zero256.2
  have ht : Hid ((w1.alloc (.cells (Array.replicate 256 (.int .u32 0)) 279)).there w1.heap.size 0 256) := there_of (heap_new w1 _) (by simp)
  have hbl : Hid (Below w.heap.size w ((w1.alloc (.cells (Array.replicate 256 (.int .u32 0)) 279)).setCells w1.heap.size 0 T.toList)) := below_setCells hb1.size _ _ (hb1.alloc hb1.size _)
  have hcl : Hid (∀ i, i < 256 → ((w1.alloc (.cells (Array.replicate 256 (.int .u32 0)) 279)).setCells w1.heap.size 0 T.toList).cell? ⟨w1.heap.size, i, none⟩ = some (.int .u32 ((st 8 (BitVec.ofNat 32 i)).toNat : Int))) := by
   intro i hi
   have := World.rangeAt_setCells_same (w1.alloc (.cells (Array.replicate 256 (.int .u32 0)) 279)) w1.heap.size 0 T.toList (by rw [Array.length_toList, hs.out]; exact ht.out) i (.int .u32 ((st 8 (BitVec.ofNat 32 i)).toNat : Int)) (by rw [Array.getElem?_toList]; exact hT.out i hi)
   rwa [Nat.zero_add] at this
  go_wp2_with (refine wpList_store_mid rfl 279 (.tmp 5) (.tmp 13) rfl w1.heap.size 0 T rfl rfl (by rw [hs.out]; exact ht.out) hi.out h1.out ?_)
  rw [xor_ones]
  have hg := h5
  generalize hwv : (w1.alloc (.cells (Array.replicate 256 (.int .u32 0)) 279)).setCells w1.heap.size 0 T.toList = wv at *
  have h5v : Rd wv ao l := Below.rd hbl.out h5
  have hxl := fun c : R => xor_ones c
  have HXL : Hid (∀ c : R, bits .xor .u32 (c.toNat : Int) 4294967295 = ((c ^^^ ones).toNat : Int)) := hxl
  clear hwv hg h5 ht hi h1 hT hs hz hxl hb1 h0' HZ
  obtain ⟨c0, hc0⟩ : ∃ c0, c0 = sum ^^^ ones := ⟨_, rfl⟩
  have HM : Hid (more sum l = feed c0 l ^^^ ones) := by show _ = _; rw [hc0]; rfl
  rw [← hc0]
  clear hc0
  go_loopw [6, 8, 18] (fun vc _ vi wr => ∃ k : Nat, k ≤ l.length ∧ vc = .int .u32 ((feed c0 (l.take k)).toNat : Int) ∧ vi = .int .i64 (k : Int) ∧ wr = wv) (fun _ _ i _ => l.length - (intOf i).toNat)
  case atStart => exact ⟨0, Nat.zero_le _, rfl, rfl, rfl⟩
  case round =>
   obtain ⟨k, hk, rfl, rfl, rfl⟩ := hrel
   by_cases hlt : k < l.length
   ·obtain ⟨b1, o1, rfl, hb⟩ := h5v.at (by omega)
    have d2 := hb k hlt
    have HF : Hid (st 8 (feed c0 (l.take k) ^^^ byte l[k]) = feed c0 (l.take (k + 1))) := (feed_snoc c0 l k hlt).symm
    obtain ⟨c, hc⟩ : ∃ c, c = feed c0 (l.take k) := ⟨_, rfl⟩
    obtain ⟨x, hx⟩ : ∃ x, x = l[k] := ⟨_, rfl⟩
    rw [← hx] at d2 HF
    rw [← hc] at HF ⊢
    have hix := byte_idx c x
    have hms := more_step c x
    rw [HF.out] at hms
    obtain ⟨y, hy⟩ : ∃ y, y = c.toNat % 256 ^^^ x.toNat := ⟨_, rfl⟩
    have hyl : y < 256 := by rw [hy]; exact byte_idx_lt c x
    rw [← hy] at hix hms
    have hcy := hcl.out y hyl
    have hcl32 := lt32 c
    have hxl8 := x.toNat_lt
    clear hy hx hc HF hb
    go_wp2_with fail
    go_roundw
    case rel => exact ⟨k + 1, by omega, rfl, by go_num, by trivial⟩
    case measure => simp [intOf]; omega
   ·obtain rfl : k = l.length := by omega
    have hxo := HXL.out (feed c0 l)
    rw [List.take_length, ← HM.out] at *
    go_wp2_with fail
    go_ret
    exact ⟨rfl, hbl.out⟩
theorem sum_any (w : World) (v : Value) (l : List UInt8) (hv : Sl w v l) :
    Calls Tryz.prog 112 #[v] w fun e w' => e = .returned (.int .u32 ((more 0#32 l).toNat : Int)) ∧ Below w.heap.size w w' := by
 have hv0 := hv
 obtain ⟨ao, ca, rfl, h2, h3, h4, h5⟩ := hv
 clear h2 h3 h4 h5
 go_enter Tryz.func112, Tryz.ntmps112
 go_wp2_with fail
 refine (more_any _ 0#32 _ l hv0).mono ?_
 rintro e w1 ⟨rfl, hb⟩
 go_wp2
 go_ret
 exact ⟨rfl, hb⟩
end Go.Proofs.YtpflaglfnkmjiaaGreat.Crc
namespace Go.Proofs.YtpflaglfnkmjiaaGreat
open Go.RowKit
theorem row_lit (w : World) (vs : List Value) (t : TypeId) (hm : vs.length ≤ maxLen) : Row (w.alloc (.cells vs.toArray t)) (.slice (some ⟨w.heap.size, 0, none⟩) vs.length vs.length) vs := by
 refine ⟨_, _, rfl, fun e => by simp at e, Nat.le_refl _, hm, fun i hi => ⟨_, _, rfl, ?_⟩⟩
 have : (w.alloc (.cells vs.toArray t)).heap[w.heap.size]? = some (.cells vs.toArray t (0, 0)) := heap_alloc_new _ _
 simp only [World.cell?, this, Nat.zero_add]
 simp [hi]
theorem Sls.nil (w : World) : Sls w [] [] := ⟨rfl, fun i h => by simp at h⟩
theorem Sls.cons {w : World} {v : Value} {l : List UInt8} {vs : List Value} {ls : List (List UInt8)} (h : Sl w v l) (hs : Sls w vs ls) : Sls w (v :: vs) (l :: ls) :=
 ⟨by simp [hs.1], fun i h1 h2 => by
  cases i with
  | zero => exact h
  | succ i => exact hs.2 i (by simpa using h1) (by simpa using h2)⟩
theorem keepF {w u v : World} (h : Below w.heap.size w u) (q : Below u.heap.size u v) : Below w.heap.size w v := h.trans (q.mono h.size)
theorem Sl.le {w : World} {v : Value} {l : List UInt8} (h : Sl w v l) : l.length ≤ maxLen := by
 obtain ⟨_, _, _, _, h3, h4, _⟩ := h; omega
theorem owns_lower {w : World} {b b' e n : Nat} {v : Value} {xs : List Value} (h : w.ownsRow b e 1 v n xs) (hb : b' ≤ b) : w.ownsRow b' e 1 v n xs := by
 obtain ⟨h1, h2⟩ := h
 refine ⟨h1, ?_⟩
 rcases h2 with h2 | ⟨g, cap, cur, a, b, c⟩
 ·exact Or.inl h2
 ·exact Or.inr ⟨g, cap, cur, a, Nat.le_trans hb b, c⟩
def ffs (lsn n : Nat) : List UInt8 := fx 4 n ++ fx 8 lsn
def fsum (seed : Crc.R) (lsn : Nat) (d : List UInt8) : Crc.R := Crc.more 0#32 (fx 4 seed.toNat ++ (ffs lsn d.length ++ d))
def fmark (s : Crc.R) : List UInt8 := fx 4 (Crc.maskOf s).toNat
def frm (seed : Crc.R) (lsn : Nat) (d : List UInt8) : List UInt8 := ffs lsn d.length ++ (fmark (fsum seed lsn d) ++ d)
theorem ffs_len (lsn n : Nat) : (ffs lsn n).length = 12 := by simp [ffs, fx_len]
theorem fmark_len (s : Crc.R) : (fmark s).length = 4 := by simp [fmark, fx_len]
theorem frm_len (seed : Crc.R) (lsn : Nat) (d : List UInt8) : (frm seed lsn d).length = 16 + d.length := by
 simp [frm, ffs_len, fmark_len]; omega
def inB (n m : Int) : Bool := decide (1 ≤ n) && decide (n ≤ m)
theorem within_any (w : World) (n m : Int) :
    Calls Tryz.prog 137 #[.int .i64 n, .int .i64 m] w fun e w' => e = .returned (.bool (inB n m)) ∧ w' = w := by
 by_cases h1 : 1 ≤ n
 ·have E : Hid (inB n m = decide (n ≤ m)) := by show _ = _; simp [inB, h1]
  rw [E.out]
  go_enter Tryz.func137, Tryz.ntmps137
  go_wp2_with fail
  go_ret
  exact ⟨rfl, rfl⟩
 ·have E : Hid (inB n m = false) := by show _ = _; simp [inB, h1]
  rw [E.out]
  go_enter Tryz.func137, Tryz.ntmps137
  go_wp2_with fail
  go_ret
  exact ⟨rfl, rfl⟩
theorem mark_any (w : World) (s : Crc.R) :
    Calls Tryz.prog 114 #[.int .u32 (s.toNat : Int)] w fun e w' => ∃ v', e = .returned v' ∧ w'.ownsRow w.heap.size 5 1 v' (fmark s).length (bvals (fmark s)) ∧ Below w.heap.size w w' := by
 have hm := Crc.lt32 (Crc.maskOf s)
 have HM := hide hm
 clear hm
 go_enter Tryz.func114, Tryz.ntmps114
 go_wp2_with fail
 refine (Crc.mask_any _ s).mono ?_
 rintro e _ ⟨rfl, rfl⟩
 go_wp2_with fail
 refine (fixed32_any _ _ (by omega) (by have := HM.out; omega)).mono ?_
 rintro e w1 ⟨v1, rfl, ho, hb⟩
 rw [Int.toNat_natCast] at ho
 replace ho := hide ho
 go_wp2_with fail
 go_ret
 exact ⟨_, rfl, ho.out, hb⟩
theorem frameFields_any (w : World) (lsn : Int) (n : Nat) (h0 : 1 ≤ lsn) (h1 : lsn ≤ 9223372036854775807) (hn : n ≤ 4096) :
    Calls Tryz.prog 140 #[.int .i64 lsn, .int .i64 (n : Int)] w fun e w' => ∃ v', e = .returned v' ∧ w'.ownsRow w.heap.size 5 1 v' (ffs lsn.toNat n).length (bvals (ffs lsn.toNat n)) ∧ Below w.heap.size w w' := by
 have HN := hide hn
 go_enter Tryz.func140, Tryz.ntmps140
 go_wp2_with fail
 refine (fixed32_any w (n : Int) (by omega) (by omega)).mono ?_
 rintro e w1 ⟨v1, rfl, ho1, hb1⟩
 rw [Int.toNat_natCast] at ho1
 have s1 := hide (Sl.of_owns ho1)
 obtain ⟨ao1, ca1, rfl⟩ : ∃ ao ca, v1 = .slice ao 4 ca := by
  obtain ⟨ao, ca, h, _⟩ := s1.out
  exact ⟨ao, ca, by rw [h, fx_len]⟩
 replace hb1 := hide hb1
 clear ho1
 go_wp2_with fail
 refine (fixed64_any w1 lsn (by omega) (by omega)).mono ?_
 rintro e w2 ⟨v2, rfl, ho2, hb2⟩
 have s2 := hide (Sl.of_owns ho2)
 obtain ⟨ao2, ca2, rfl⟩ : ∃ ao ca, v2 = .slice ao 8 ca := by
  obtain ⟨ao, ca, h, _⟩ := s2.out
  exact ⟨ao, ca, by rw [h, fx_len]⟩
 replace hb2 := hide hb2
 clear ho2
 go_wp2_with fail
 refine (concat_any (w2.alloc (.cells #[.slice ao1 4 ca1, .slice ao2 8 ca2] 39)) _ [.slice ao1 4 ca1, .slice ao2 8 ca2] [fx 4 n, fx 8 lsn.toNat] (row_lit w2 [_, _] 39 (by show 2 ≤ maxLen; decide)) (Below.sls (box_below w2 _) (.cons (Below.sl hb2.out s1.out) (.cons s2.out (.nil _)))) (by simp [fx_len])).mono ?_
 rintro e w3 ⟨v3, rfl, ho3, hb3⟩
 have hb03 : Below w.heap.size w w3 := keepF (keepF (keepF hb1.out hb2.out) (box_below w2 _)) hb3
 have ho : Hid (w3.ownsRow w.heap.size 5 1 v3 (ffs lsn.toNat n).length (bvals (ffs lsn.toNat n))) := by
  have := owns_lower ho3 (b' := w.heap.size) (by have := (keepF (keepF hb1.out hb2.out) (box_below w2 (.cells #[.slice ao1 4 ca1, .slice ao2 8 ca2] 39))).size; exact this)
  have e : [fx 4 n, fx 8 lsn.toNat].flatten = ffs lsn.toNat n := by simp [ffs]
  rw [e] at this
  exact this
 clear ho3
 go_wp2_with fail
 go_ret
 exact ⟨_, rfl, ho.out, hb03⟩
theorem Sl.form {w : World} {v : Value} {l : List UInt8} {n : Nat} (h : Sl w v l) (hn : l.length = n) : ∃ ao ca, v = .slice ao n ca := by
 obtain ⟨ao, ca, h, _⟩ := h
 exact ⟨ao, ca, by rw [h, hn]⟩
theorem frameSum_any (w : World) (seed : Crc.R) (lsn : Nat) (vf vd : Value) (d : List UInt8) (hf : Sl w vf (ffs lsn d.length)) (hd : Sl w vd d) (hn : d.length ≤ 4096) :
    Calls Tryz.prog 139 #[.int .u32 (seed.toNat : Int), vf, vd] w fun e w' => e = .returned (.int .u32 ((fsum seed lsn d).toNat : Int)) ∧ Below w.heap.size w w' := by
 have HN := hide hn
 have HF := hide hf
 have HD := hide hd
 obtain ⟨ao2, ca2, rfl⟩ := hf.form (ffs_len _ _)
 obtain ⟨m, hm⟩ : ∃ m, Hid (d.length = m) := ⟨_, rfl⟩
 obtain ⟨ao3, ca3, rfl⟩ := hd.form hm.out
 have HS := hide (Crc.lt32 seed)
 obtain ⟨S, hS⟩ : ∃ S, Hid (fsum seed lsn d = S) := ⟨_, rfl⟩
 rw [hS.out]
 have E : Hid (Crc.more 0#32 (fx 4 seed.toNat ++ (ffs lsn d.length ++ d)) = S) := hS
 clear hn hf hd
 go_enter Tryz.func139, Tryz.ntmps139
 go_wp2_with fail
 refine (fixed32_any w (seed.toNat : Int) (by omega) (by have := HS.out; omega)).mono ?_
 rintro e w1 ⟨v1, rfl, ho1, hb1⟩
 rw [Int.toNat_natCast] at ho1
 have s1 := hide (Sl.of_owns ho1)
 obtain ⟨ao1, ca1, rfl⟩ := s1.out.form (fx_len _ _)
 replace hb1 := hide hb1
 clear ho1
 go_wp2_with fail
 refine (concat_any (w1.alloc (.cells #[.slice ao1 4 ca1, .slice ao2 12 ca2, .slice ao3 m ca3] 39)) _ [.slice ao1 4 ca1, .slice ao2 12 ca2, .slice ao3 m ca3] [fx 4 seed.toNat, ffs lsn d.length, d] (row_lit w1 [_, _, _] 39 (by show 3 ≤ maxLen; decide)) (Below.sls (box_below w1 _) (.cons s1.out (.cons (Below.sl hb1.out HF.out) (.cons (Below.sl hb1.out HD.out) (.nil _))))) (by have := HN.out; simp [fx_len, ffs_len]; omega)).mono ?_
 rintro e w3 ⟨v3, rfl, ho3, hb3⟩
 have e1 : [fx 4 seed.toNat, ffs lsn d.length, d].flatten = fx 4 seed.toNat ++ (ffs lsn d.length ++ d) := by simp
 rw [e1] at ho3
 have s3 := hide (Sl.of_owns ho3)
 have hb03 := hide (keepF (keepF hb1.out (box_below w1 _)) hb3)
 clear ho3 hb3 e1
 go_wp2_with fail
 refine (Crc.sum_any _ _ _ s3.out).mono ?_
 rintro e w4 ⟨rfl, hb4⟩
 have hb04 := hide (keepF hb03.out hb4)
 rw [E.out]
 clear hb4
 go_wp2_with fail
 go_ret
 exact ⟨rfl, hb04.out⟩
def wrF (seed : Crc.R) (lsn : Int) (d : List UInt8) : List UInt8 × Crc.R × Int :=
 if inB lsn 9223372036854775806 = false then ([], 0#32, 1) else if 4096 < d.length then ([], 0#32, 3) else (frm seed lsn.toNat d, fsum seed lsn.toNat d, 0)
def DoesWrite (f : Nat) : Prop := ∀ (w : World) (seed : Crc.R) (lsn : Int) (v : Value) (d : List UInt8), -9223372036854775808 ≤ lsn → lsn ≤ 9223372036854775807 → Sl w v d →
 Calls Tryz.prog f #[.int .u32 (seed.toNat : Int), .int .i64 lsn, v] w fun e w' => ∃ v', e = .returned (.tuple #[v', .int .u32 ((wrF seed lsn d).2.1.toNat : Int), .int .i64 (wrF seed lsn d).2.2]) ∧ w'.ownsRow w.heap.size 5 1 v' (wrF seed lsn d).1.length (bvals (wrF seed lsn d).1) ∧ Below w.heap.size w w'
theorem write_any : DoesWrite 122 := by
 intro w seed lsn v d g0 g1 hv
 have HV := hide hv
 obtain ⟨m, hm⟩ : ∃ m, Hid (d.length = m) := ⟨_, rfl⟩
 obtain ⟨ao3, ca3, rfl⟩ := hv.form hm.out
 clear hv
 cases hb : inB lsn 9223372036854775806 with
 | false =>
  have E : Hid (wrF seed lsn d = ([], 0#32, 1)) := by show _ = _; simp [wrF, hb]
  rw [E.out]
  replace hb := hide hb
  go_enter Tryz.func122, Tryz.ntmps122
  go_wp2_with fail
  refine (within_any _ lsn 9223372036854775806).mono ?_
  rintro e _ ⟨rfl, rfl⟩
  rw [hb.out]
  go_wp2_with fail
  go_ret3
  exact ⟨_, rfl, World.ownsRow_nil _ _ _ _, Below.refl _ _⟩
 | true =>
  replace hb := hide hb
  by_cases hl : 4096 < m
  ·have E : Hid (wrF seed lsn d = ([], 0#32, 3)) := by show _ = _; simp [wrF, hb.out, hm.out, hl]
   rw [E.out]
   go_enter Tryz.func122, Tryz.ntmps122
   go_wp2_with fail
   refine (within_any _ lsn 9223372036854775806).mono ?_
   rintro e _ ⟨rfl, rfl⟩
   rw [hb.out]
   go_wp2_with fail
   go_ret3
   exact ⟨_, rfl, World.ownsRow_nil _ _ _ _, Below.refl _ _⟩
  ·have E : Hid (wrF seed lsn d = (frm seed lsn.toNat d, fsum seed lsn.toNat d, 0)) := by show _ = _; simp [wrF, hb.out, hm.out, hl]
   rw [E.out]
   have HL : Hid (1 ≤ lsn) := by have := hb.out; simp [inB] at this; exact this.1
   have hm4 : Hid (m ≤ 4096) := by show _ ≤ _; omega
   obtain ⟨S, hS⟩ : ∃ S, Hid (fsum seed lsn.toNat d = S) := ⟨_, rfl⟩
   have E2 : Hid (frm seed lsn.toNat d = [ffs lsn.toNat d.length, fmark S, d].flatten) := by show _ = _; rw [frm, hS.out]; simp
   rw [E2.out, hS.out]
   obtain ⟨F, hF⟩ : ∃ F, Hid ([ffs lsn.toNat d.length, fmark S, d].flatten = F) := ⟨_, rfl⟩
   rw [hF.out]
   go_enter Tryz.func122, Tryz.ntmps122
   go_wp2_with fail
   refine (within_any _ lsn 9223372036854775806).mono ?_
   rintro e w0 ⟨rfl, hw⟩
   obtain rfl := hw.symm
   rw [hb.out]
   go_wp2_with fail
   refine (frameFields_any _ lsn m HL.out g1 hm4.out).mono ?_
   rintro e w1 ⟨v1, rfl, ho1, hb1⟩
   rw [← hm.out] at ho1
   have s1 := hide (Sl.of_owns ho1)
   obtain ⟨ao1, ca1, rfl⟩ := s1.out.form (ffs_len _ _)
   replace hb1 := hide hb1
   clear ho1
   go_wp2_with fail
   refine (frameSum_any _ seed lsn.toNat _ _ d s1.out (Below.sl hb1.out HV.out) (by rw [hm.out]; exact hm4.out)).mono ?_
   rintro e w2 ⟨rfl, hb2⟩
   replace hb2 := hide hb2
   rw [hS.out]
   go_wp2_with fail
   refine (mark_any _ S).mono ?_
   rintro e w3 ⟨v3, rfl, ho3, hb3⟩
   have s3 := hide (Sl.of_owns ho3)
   obtain ⟨ao2, ca2, rfl⟩ := s3.out.form (fmark_len _)
   have hb03 := hide (keepF hb1.out (keepF hb2.out hb3))
   have hb13 := hide (keepF hb2.out hb3)
   clear ho3 hb3
   go_wp2_with fail
   refine (concat_any (w3.alloc (.cells #[.slice ao1 12 ca1, .slice ao2 4 ca2, .slice ao3 m ca3] 39)) _ [.slice ao1 12 ca1, .slice ao2 4 ca2, .slice ao3 m ca3] [ffs lsn.toNat d.length, fmark S, d] (row_lit w3 [_, _, _] 39 (by show 3 ≤ maxLen; decide)) (Below.sls (box_below w3 _) (.cons (Below.sl hb13.out s1.out) (.cons s3.out (.cons (Below.sl hb03.out HV.out) (.nil _))))) (by have := hm4.out; simp [fmark_len, ffs_len, hm.out]; omega)).mono ?_
   rintro e w4 ⟨v4, rfl, ho4, hb4⟩
   have hb04 := hide (keepF (keepF hb03.out (box_below w3 _)) hb4)
   have ho5 := hide (owns_lower ho4 (b' := w.heap.size) (keepF hb03.out (box_below w3 _)).size)
   clear hb4 ho4
   rw [hF.out] at ho5
   go_wp2_with fail
   go_ret3
   exact ⟨_, rfl, ho5.out, hb04.out⟩
def szF (n : Int) : Int := if 0 ≤ n ∧ n ≤ 4096 then 16 + n else 0
theorem size_any (w : World) (n : Int) : Calls Tryz.prog 141 #[.int .i64 n] w fun e w' => e = .returned (.int .i64 (szF n)) ∧ w' = w := by
 by_cases h0 : n < 0
 ·have E : Hid (szF n = 0) := by show _ = _; rw [szF, if_neg (by omega)]
  rw [E.out]
  go_enter Tryz.func141, Tryz.ntmps141
  go_wp2_with fail
  go_ret
  exact ⟨rfl, rfl⟩
 ·by_cases h1 : n > 4096
  ·have E : Hid (szF n = 0) := by show _ = _; rw [szF, if_neg (by omega)]
   rw [E.out]
   go_enter Tryz.func141, Tryz.ntmps141
   go_wp2_with fail
   go_ret
   exact ⟨rfl, rfl⟩
  ·have E : Hid (szF n = 16 + n) := by show _ = _; rw [szF, if_pos (by omega)]
   rw [E.out]
   go_enter Tryz.func141, Tryz.ntmps141
   go_wp2_with fail
   go_ret
   exact ⟨rfl, rfl⟩
def RdrAt (w : World) (rb : Nat) (l : List UInt8) (k : Nat) (er : Int) : Prop :=
 ∃ v, w.heap[rb]? = some (.cells #[v, .int .i64 (k : Int), .int .i64 er] 285 (0, 0)) ∧ w.ownsRow 0 5 1 v l.length (bvals l) ∧ k ≤ l.length ∧ l.length ≤ 140737488355328
theorem sl_drop {w : World} {ao : Option Addr} {ca : Nat} {l : List UInt8} (k : Nat) (hk : k ≤ l.length) (g2 : ao = none → l = [] ∧ ca = 0) (g3 : l.length ≤ ca) (g4 : ca ≤ maxLen) (g5 : Rd w ao l) :
    Sl w (.slice (if ca = k then ao else Option.map (fun x => x.add k) ao) (l.length - k) (ca - k)) (l.drop k) := by
 refine ⟨_, _, by rw [List.length_drop], ?_, by rw [List.length_drop]; omega, by omega, ?_⟩
 ·intro e
  have : ao = none := by
   split at e
   ·exact e
   ·simpa using e
  obtain ⟨rfl, rfl⟩ := g2 this
  exact ⟨by simp, by omega⟩
 ·intro i hi
  have hi2 : k + i < l.length := by simp at hi; omega
  obtain ⟨b, off, rfl, hc⟩ := g5 (k + i) hi2
  rw [if_neg (by omega)]
  refine ⟨b, off + k, by simp [addr_add], ?_⟩
  rw [Nat.add_assoc, hc]
  simp
theorem check_ok (w : World) : Calls Tryz.prog 200 #[.int .i64 0] w fun e w' => e = .returned (.tuple #[]) ∧ w' = w := by
 go_enter Tryz.func200, Tryz.ntmps200
 go_wp2
 go_end0
 exact ⟨rfl, rfl⟩
theorem check_no (w : World) (er : Int) (h : (er != 0) = true) : Calls Tryz.prog 200 #[.int .i64 er] w fun e w' => e = .panicked [{ v := .iface 286 (.int .i64 er), recovered := false }] ∧ w' = w := by
 go_enter Tryz.func200, Tryz.ntmps200
 go_wp2
 exact ⟨rfl, rfl, rfl⟩
theorem stop_nil (w : World) (r : Option Addr) : Calls Tryz.prog 175 #[.pointer r, .nilIface] w fun e w' => e = .returned (.tuple #[]) ∧ w' = w := by
 have he : ∀ u : World, (binOp .eql 20 .nilIface .nilIface).run Tryz.prog u = .ok (.bool true) u := fun _ => by kernel_rfl
 go_enter Tryz.func175, Tryz.ntmps175
 go_wp2
 go_end0
 exact ⟨rfl, rfl⟩
theorem stop_some (w : World) (rb : Nat) (er : Int) (v : Value) (k : Int) (e0 : Int) (hr : w.heap[rb]? = some (.cells #[v, .int .i64 k, .int .i64 e0] 285 (0, 0))) :
    Calls Tryz.prog 175 #[.pointer (some ⟨rb, 0, none⟩), .iface 286 (.int .i64 er)] w fun e w' => e = .returned (.tuple #[]) ∧ w' = w.setCell ⟨rb, 2, none⟩ (.int .i64 er) := by
 have h2 : w.cell? ⟨rb, 2, none⟩ = some (.int .i64 e0) := by simp [World.cell?, hr]
 have hf2 : w.frozen? ⟨rb, 2, none⟩ = false := by simp [World.frozen?, hr]
 have he : ∀ (er : Int) (u : World), (binOp .eql 20 (.iface 286 (.int .i64 er)) .nilIface).run Tryz.prog u = .ok (.bool false) u := fun _ _ => by kernel_rfl
 have ht : ∀ (er : Int) (u : World), (Instr.typeAssert (.iface 286 (.int .i64 er)) 20 286 true).run Tryz.prog u = .ok (.tuple #[.int .i64 er, .bool true]) u := fun _ _ => by kernel_rfl
 clear hr
 go_enter Tryz.func175, Tryz.ntmps175
 go_wp2
 go_end0
 exact ⟨rfl, rfl⟩
theorem rest_no (w : World) (rb : Nat) (l : List UInt8) (k : Nat) (er : Int) (h : RdrAt w rb l k er) (he : (er != 0) = true) :
    Calls Tryz.prog 199 #[.pointer (some ⟨rb, 0, none⟩)] w fun e w' => e = .panicked [{ v := .iface 286 (.int .i64 er), recovered := false }] ∧ w' = w := by
 obtain ⟨v, hr, _⟩ := h
 have h2 : w.cell? ⟨rb, 2, none⟩ = some (.int .i64 er) := by simp [World.cell?, hr]
 clear hr
 go_enter Tryz.func199, Tryz.ntmps199
 go_wp2_with fail
 refine (check_no _ er he).mono ?_
 rintro e w2 ⟨rfl, rfl⟩
 go_wp2
 exact ⟨rfl, rfl, rfl⟩
theorem rest_ok (w : World) (rb : Nat) (l : List UInt8) (k : Nat) (h : RdrAt w rb l k 0) :
    Calls Tryz.prog 199 #[.pointer (some ⟨rb, 0, none⟩)] w fun e w' => ∃ v', e = .returned v' ∧ Sl w v' (l.drop k) ∧ Qt w w' := by
 obtain ⟨v, hr, ho, hk, hl⟩ := h
 have hsl := Sl.of_owns ho
 obtain ⟨ao, ca, rfl, g2, g3, g4, g5⟩ := hsl
 have h0 : w.cell? ⟨rb, 0, none⟩ = some (.slice ao l.length ca) := by simp [World.cell?, hr]
 have h1 : w.cell? ⟨rb, 1, none⟩ = some (.int .i64 (k : Int)) := by simp [World.cell?, hr]
 have h2 : w.cell? ⟨rb, 2, none⟩ = some (.int .i64 0) := by simp [World.cell?, hr]
 have hm : ca ≤ 9223372036854775807 := by unfold maxLen at g4; omega
 clear hr ho
 go_enter Tryz.func199, Tryz.ntmps199
 go_wp2_with fail
 refine (check_ok _).mono ?_
 rintro e w2 ⟨rfl, rfl⟩
 go_wp2
 have HS := fun (u : World) (hu : Qt w2 u) => hu.sl (sl_drop k hk g2 g3 g4 g5)
 generalize hz : (if ca = k then ao else Option.map (fun x : Addr => x.add k) ao) = zo at *
 clear g2 g3 g4 g5
 go_quiet (fail)
 clear hz
 go_wp2
 go_ret
 exact ⟨_, rfl, HS _ (Qt.refl _), ⟨_, rfl⟩⟩
theorem RdrAt.lt {w : World} {rb : Nat} {l : List UInt8} {k : Nat} {er : Int} (h : RdrAt w rb l k er) : rb < w.heap.size := by
 obtain ⟨v, hr, _⟩ := h; exact heap_lt hr
theorem RdrAt.below {w w' : World} {rb : Nat} {l : List UInt8} {k : Nat} {er : Int} (h : RdrAt w rb l k er) (hb : Below w.heap.size w w') : RdrAt w' rb l k er := by
 obtain ⟨v, hr, ho, hk⟩ := h
 exact ⟨v, by rw [hb.block rb (heap_lt hr)]; exact hr, ownsRow_below ho hb, hk⟩
theorem RdrAt.apart {w : World} {rb : Nat} {v x y z : Value} {n : Nat} {xs : List Value} (hr : w.heap[rb]? = some (.cells #[x, y, z] 285 (0, 0))) (ho : w.ownsRow 0 5 1 v n xs) : v.ownBlock ≠ some rb := by
 obtain ⟨h1, h2⟩ := ho
 rcases h2 with ⟨rfl, _⟩ | ⟨g, cap, cur, rfl, hg, hh, _⟩
 ·simp [Value.ownBlock]
 ·intro e
  simp [Value.ownBlock] at e
  subst e
  rw [hr] at hh
  simp at hh
theorem RdrAt.setAt {w : World} {rb : Nat} {l : List UInt8} {k : Nat} {er : Int} (h : RdrAt w rb l k er) (k' : Nat) (hk' : k' ≤ l.length) : RdrAt (w.setCell ⟨rb, 1, none⟩ (.int .i64 (k' : Int))) rb l k' er := by
 obtain ⟨v, hr, ho, hk, hl⟩ := h
 refine ⟨v, ?_, ownsRow_setCell_other ho (RdrAt.apart hr ho) _, hk', hl⟩
 rw [heap_setCell_same w rb 1 _ _ _ hr]; simp
theorem RdrAt.setErr {w : World} {rb : Nat} {l : List UInt8} {k : Nat} {er : Int} (h : RdrAt w rb l k er) (er' : Int) : RdrAt (w.setCell ⟨rb, 2, none⟩ (.int .i64 er')) rb l k er' := by
 obtain ⟨v, hr, ho, hk, hl⟩ := h
 refine ⟨v, ?_, ownsRow_setCell_other ho (RdrAt.apart hr ho) _, hk, hl⟩
 rw [heap_setCell_same w rb 2 _ _ _ hr]; simp
theorem own_slice {w : World} {base e n : Nat} {v : Value} {xs : List Value} (ho : w.ownsRow base e 1 v n xs) : ∃ ao ca, v = .slice ao n ca := by
 obtain ⟨h1, h2⟩ := ho
 rcases h2 with ⟨rfl, rfl⟩ | ⟨g, cap, cur, rfl, _⟩
 ·exact ⟨_, _, rfl⟩
 ·exact ⟨_, _, rfl⟩
theorem RdrAt.noByte {w : World} {rb : Nat} {m : List UInt8} {k : Nat} {er : Int} (h : RdrAt w rb m k er) {j : Nat} {c : Int} (hc : w.cell? ⟨rb, j, none⟩ = some (.int .u8 c)) : False := by
 obtain ⟨v, hr, ho, _⟩ := h
 obtain ⟨ao, ca, rfl⟩ := own_slice ho
 simp [World.cell?, hr] at hc
 match j, hc with
 | 0, hc => simp at hc
 | 1, hc => simp at hc
 | 2, hc => simp at hc
 | j + 3, hc => simp at hc
theorem Sl.setRdr {w : World} {rb o : Nat} {u v : Value} {l m : List UInt8} {k : Nat} {er : Int} (h : Sl w v l) (hr : RdrAt w rb m k er) : Sl (w.setCell ⟨rb, o, none⟩ u) v l := by
 obtain ⟨ao, cap, rfl, h2, h3, h4, h5⟩ := h
 refine ⟨ao, cap, rfl, h2, h3, h4, fun i hi => ?_⟩
 obtain ⟨b, off, rfl, hc⟩ := h5 i hi
 refine ⟨b, off, rfl, ?_⟩
 by_cases hb : b = rb
 ·subst hb; exact (hr.noByte hc).elim
 ·rw [World.cell?_of_block (w := w) (heap_setCell_other w ⟨rb, o, none⟩ b u hb)]
  exact hc
theorem take_no (w : World) (rb : Nat) (l : List UInt8) (k : Nat) (er n : Int) (h : RdrAt w rb l k er) (he : (er != 0) = true) :
    Calls Tryz.prog 177 #[.pointer (some ⟨rb, 0, none⟩), .int .i64 n] w fun e w' => e = .panicked [{ v := .iface 286 (.int .i64 er), recovered := false }] ∧ w' = w := by
 go_enter Tryz.func177, Tryz.ntmps177
 go_wp2_with fail
 refine (rest_no _ rb l k er h he).mono ?_
 rintro e w2 ⟨rfl, rfl⟩
 go_wp2
 exact ⟨rfl, rfl, rfl⟩
theorem take_short (w : World) (rb : Nat) (l : List UInt8) (k : Nat) (n : Int) (h : RdrAt w rb l k 0) (hn : (l.length : Int) - k < n) :
    Calls Tryz.prog 177 #[.pointer (some ⟨rb, 0, none⟩), .int .i64 n] w fun e w' => e = .panicked [{ v := .iface 286 (.int .i64 2), recovered := false }] ∧ Qt w w' := by
 have hk : k ≤ l.length := by obtain ⟨_, _, _, hk, _⟩ := h; exact hk
 go_enter Tryz.func177, Tryz.ntmps177
 go_wp2_with fail
 refine (rest_ok _ rb l k h).mono ?_
 rintro e w2 ⟨v, rfl, hs, hq⟩
 obtain ⟨ao, ca, rfl, g2, g3, g4, g5⟩ := hs
 have hlt : ((l.length - k : Nat) : Int) < n := by omega
 clear g2 g3 g4 g5 hn
 go_wp2_with fail
 refine (check_no _ 2 rfl).mono ?_
 rintro e w2 ⟨rfl, rfl⟩
 go_wp2
 exact ⟨rfl, rfl, hq⟩
theorem take_ok (w : World) (rb : Nat) (l : List UInt8) (k n : Nat) (h : RdrAt w rb l k 0) (hn : k + n ≤ l.length) :
    Calls Tryz.prog 177 #[.pointer (some ⟨rb, 0, none⟩), .int .i64 (n : Int)] w fun e w' => ∃ v', e = .returned v' ∧ Sl w' v' ((l.drop k).take n) ∧ RdrAt w' rb l (k + n) 0 ∧ w.grownBy w' (some rb) := by
 go_enter Tryz.func177, Tryz.ntmps177
 go_wp2_with fail
 refine (rest_ok _ rb l k h).mono ?_
 rintro e w2 ⟨v, rfl, hs, hq⟩
 have h' := h.below (hq.below _)
 have hs2 := hq.sl hs
 have hk : (l.drop k).length = l.length - k := by simp
 obtain ⟨ao, ca, rfl, g2, g3, g4, g5⟩ := hs2
 obtain ⟨v0, hr, ho, hkl, hl⟩ := h'
 have h1 : w2.cell? ⟨rb, 1, none⟩ = some (.int .i64 (k : Int)) := by simp [World.cell?, hr]
 have hf1 : w2.frozen? ⟨rb, 1, none⟩ = false := by simp [World.frozen?, hr]
 have HS : Hid (Sl w2 (.slice ao n ca) ((l.drop k).take n)) := by
  have hl2 : ((l.drop k).take n).length = n := by simp; omega
  refine ⟨ao, ca, by rw [hl2], fun e => ?_, by omega, g4, fun i hi => ?_⟩
  ·obtain ⟨e1, e2⟩ := g2 e
   exact ⟨by rw [e1]; simp, e2⟩
  ·obtain ⟨b, off, e1, hc⟩ := g5 i (by omega)
   exact ⟨b, off, e1, by rw [hc]; simp⟩
 have HR : Hid (RdrAt w2 rb l k 0) := ⟨v0, hr, ho, hkl, hl⟩
 have hlen : ((l.drop k).length : Int) = (l.length : Int) - k := by simp; omega
 rw [hk] at g3 ⊢
 clear g2 g4 g5 hr ho hs h hk hlen
 go_wp2
 go_ret
 refine ⟨_, rfl, ?_, ?_, grown_trans (hq.grown _) (grown_setCell _ _ _ _)⟩
 ·exact HS.out.setRdr HR.out
 ·exact HR.out.setAt (k + n) hn
theorem wpS_region_draw {P : Program} {Q : Exit → Act → List Frame → World → Prop} {a : Act} {cs : List Frame} {w : World} {id : Nat} {ops : Array Oper}
    (h : ∀ t, wpOpsS P ops Q (Region.schedule (P.follows .mixedOrders) ops t) a cs { w with drawn := w.drawn + 1 }) : (Code.region id ops true).wpS P Q a cs w :=
 fun b k hb hr => let ⟨e, a', cs', w', q, r⟩ := wp_opsS _ a cs _ (h _) b k hb hr; ⟨e, a', cs', w', q, .of_steps (.one step_region_draw) r⟩
theorem go_step {md : Region.Mode} {ops : Array Oper} {fuel t : Nat} {listed : Array Bool} {acc r : List Nat} {i : Nat} (h : Region.ready md ops listed = r) (hi : r[t % r.length]? = some i) :
    Region.linearise.go md ops (fuel + 1) t listed acc = Region.linearise.go md ops fuel (t / r.length) (listed.setIfInBounds i true) (i :: acc) := by
 show (match (Region.ready md ops listed)[t % (Region.ready md ops listed).length]? with
     | some i => Region.linearise.go md ops fuel (t / (Region.ready md ops listed).length) (listed.setIfInBounds i true) (i :: acc)
     | none => acc.reverse) = _
 rw [h, hi]
theorem schedule_two {ops : Array Oper} (hs : ops.size = 3) (h0 : Region.ready .any ops #[false, false, false] = [0, 1]) (h1 : Region.ready .any ops #[true, false, false] = [1]) (h2 : Region.ready .any ops #[false, true, false] = [0]) (h3 : Region.ready .any ops #[true, true, false] = [2]) (t : Nat) :
    Region.schedule true ops t = [0, 1, 2] ∨ Region.schedule true ops t = [1, 0, 2] := by
 have e : Region.schedule true ops t = Region.linearise.go .any ops 3 t #[false, false, false] [] := by
  show Region.linearise.go .any ops ops.size t (Array.replicate ops.size false) [] = _
  rw [hs]; rfl
 rw [e]
 rcases Nat.mod_two_eq_zero_or_one t with ht | ht
 ·left
  rw [go_step h0 (i := 0) (by simp [ht])]
  show Region.linearise.go .any ops 2 (t / 2) #[true, false, false] [0] = _
  rw [go_step h1 (i := 1) (by simp [Nat.mod_one])]
  show Region.linearise.go .any ops 1 (t / 2 / 1) #[true, true, false] [1, 0] = _
  rw [go_step h3 (i := 2) (by simp [Nat.mod_one])]
  rfl
 ·right
  rw [go_step h0 (i := 1) (by simp [ht])]
  show Region.linearise.go .any ops 2 (t / 2) #[false, true, false] [1] = _
  rw [go_step h2 (i := 0) (by simp [Nat.mod_one])]
  show Region.linearise.go .any ops 1 (t / 2 / 1) #[true, true, false] [0, 1] = _
  rw [go_step h3 (i := 2) (by simp [Nat.mod_one])]
  rfl
theorem shut_idle_Fixed32 (w : World) (rp : Option Addr) (p : Addr) (hp : w.cell? p = some (.pointer rp)) :
    CallsD Tryz.prog 174 #[.pointer (some p)] .returning w fun e u' w' => e = .returned (.tuple #[]) ∧ u' = .returning ∧ w' = w.drew := by
 refine callsD_of_wpS Tryz.func174 rfl fun c₀ cs hu => ?_
 refine wpS_region_draw fun t => ?_
 rw [show Tryz.prog.follows .mixedOrders = true by kernel_rfl]
 rcases schedule_two (t := t) (by kernel_rfl) (by kernel_rfl) (by kernel_rfl) (by kernel_rfl) (by kernel_rfl) with h | h
 all_goals
  rw [h]
  simp [wpOpsS, go_sem, recoverD, hu, Tryz.ntmps174, hp]
  refine (stop_nil _ rp).mono ?_
  rintro e w2 ⟨rfl, rfl⟩
  cases c₀
  simp_all [bodyPostS, results, Tryz.results174]
theorem shut_some_Fixed32 (w : World) (p : Addr) (rb : Nat) (er : Int) (v : Value) (k e0 : Int) (older : List PanicEntry) (hp : w.cell? p = some (.pointer (some ⟨rb, 0, none⟩))) (hr : w.heap[rb]? = some (.cells #[v, .int .i64 k, .int .i64 e0] 285 (0, 0))) :
    CallsD Tryz.prog 174 #[.pointer (some p)] (.panicking ({ v := .iface 286 (.int .i64 er), recovered := false } :: older)) w fun e u' w' => e = .returned (.tuple #[]) ∧ u' = .panicking ({ v := .iface 286 (.int .i64 er), recovered := true } :: older) ∧ w' = w.drew.setCell ⟨rb, 2, none⟩ (.int .i64 er) := by
 refine callsD_of_wpS Tryz.func174 rfl fun c₀ cs hu => ?_
 refine wpS_region_draw fun t => ?_
 rw [show Tryz.prog.follows .mixedOrders = true by kernel_rfl]
 rcases schedule_two (t := t) (by kernel_rfl) (by kernel_rfl) (by kernel_rfl) (by kernel_rfl) (by kernel_rfl) with h | h
 all_goals
  rw [h]
  simp [wpOpsS, go_sem, recoverD, hu, Tryz.ntmps174, hp]
  refine (stop_some w.drew rb er v k e0 hr).mono ?_
  rintro e w2 ⟨rfl, rfl⟩
  cases c₀
  simp_all [bodyPostS, results, Tryz.results174]
  rfl
theorem shut_idle_Fixed64 (w : World) (rp : Option Addr) (p : Addr) (hp : w.cell? p = some (.pointer rp)) :
    CallsD Tryz.prog 198 #[.pointer (some p)] .returning w fun e u' w' => e = .returned (.tuple #[]) ∧ u' = .returning ∧ w' = w.drew := by
 refine callsD_of_wpS Tryz.func198 rfl fun c₀ cs hu => ?_
 refine wpS_region_draw fun t => ?_
 rw [show Tryz.prog.follows .mixedOrders = true by kernel_rfl]
 rcases schedule_two (t := t) (by kernel_rfl) (by kernel_rfl) (by kernel_rfl) (by kernel_rfl) (by kernel_rfl) with h | h
 all_goals
  rw [h]
  simp [wpOpsS, go_sem, recoverD, hu, Tryz.ntmps198, hp]
  refine (stop_nil _ rp).mono ?_
  rintro e w2 ⟨rfl, rfl⟩
  cases c₀
  simp_all [bodyPostS, results, Tryz.results198]
theorem shut_some_Fixed64 (w : World) (p : Addr) (rb : Nat) (er : Int) (v : Value) (k e0 : Int) (older : List PanicEntry) (hp : w.cell? p = some (.pointer (some ⟨rb, 0, none⟩))) (hr : w.heap[rb]? = some (.cells #[v, .int .i64 k, .int .i64 e0] 285 (0, 0))) :
    CallsD Tryz.prog 198 #[.pointer (some p)] (.panicking ({ v := .iface 286 (.int .i64 er), recovered := false } :: older)) w fun e u' w' => e = .returned (.tuple #[]) ∧ u' = .panicking ({ v := .iface 286 (.int .i64 er), recovered := true } :: older) ∧ w' = w.drew.setCell ⟨rb, 2, none⟩ (.int .i64 er) := by
 refine callsD_of_wpS Tryz.func198 rfl fun c₀ cs hu => ?_
 refine wpS_region_draw fun t => ?_
 rw [show Tryz.prog.follows .mixedOrders = true by kernel_rfl]
 rcases schedule_two (t := t) (by kernel_rfl) (by kernel_rfl) (by kernel_rfl) (by kernel_rfl) (by kernel_rfl) with h | h
 all_goals
  rw [h]
  simp [wpOpsS, go_sem, recoverD, hu, Tryz.ntmps198, hp]
  refine (stop_some w.drew rb er v k e0 hr).mono ?_
  rintro e w2 ⟨rfl, rfl⟩
  cases c₀
  simp_all [bodyPostS, results, Tryz.results198]
  rfl
theorem box_cell {w w2 : World} {rb : Nat} {v : Value} {t : TypeId} (hlt : rb < w.heap.size) (hg : (w.alloc (.cells #[v] t)).grownBy w2 (some rb)) : w2.cell? ⟨w.heap.size, 0, none⟩ = some v := by
 refine hg.cell (a := ⟨w.heap.size, 0, none⟩) (by simp [go_sem]) (by simp; omega)
theorem box_grown {w w2 : World} {rb : Nat} {o : Obj} (hg : (w.alloc o).grownBy w2 (some rb)) : w.grownBy w2 (some rb) := grown_trans (Below.grownAny (box_below w o) _) hg
theorem grown_drew {w w2 : World} {row : Option Nat} (hg : w.grownBy w2 row) : w.grownBy w2.drew row := ⟨hg.os, hg.tape, hg.output, hg.size, hg.block⟩
theorem RdrAt.drew {w : World} {rb : Nat} {l : List UInt8} {k : Nat} {er : Int} (h : RdrAt w rb l k er) : RdrAt w.drew rb l k er := h
theorem Fixed32_bad (w : World) (rb : Nat) (l : List UInt8) (k : Nat) (er0 er : Int) (h : RdrAt w rb l k er0)
    (hc : ∀ u, RdrAt u rb l k er0 → Calls Tryz.prog 177 #[.pointer (some ⟨rb, 0, none⟩), .int .i64 4] u fun e w' => e = .panicked [{ v := .iface 286 (.int .i64 er), recovered := false }] ∧ Qt u w') :
    Calls Tryz.prog 132 #[.pointer (some ⟨rb, 0, none⟩)] w fun e w' => e = .returned (.int .u32 0) ∧ RdrAt w' rb l k er ∧ w.grownBy w' (some rb) := by
 have hmf : ∀ (fn : Fn) (first cap : Array Value) (w : World), (Instr.makeFunc fn first cap).run Tryz.prog w = .ok (.func fn first cap) w := fun _ _ _ _ => rfl
 have HC : Hid (∀ u, RdrAt u rb l k er0 → Calls Tryz.prog 177 #[.pointer (some ⟨rb, 0, none⟩), .int .i64 4] u fun e w' => e = .panicked [{ v := .iface 286 (.int .i64 er), recovered := false }] ∧ Qt u w') := hc
 clear hc
 have hlt := h.lt
 go_enter_defers Tryz.func132, Tryz.ntmps132
 go_wp2_with fail
 refine (HC.out _ (h.below (box_below w _))).mono ?_
 rintro e w2 ⟨rfl, hq⟩
 have hr2 := (h.below (box_below w _)).below (hq.below _)
 have hg2 := hq.grown (some rb)
 have hbx := box_cell hlt hg2
 go_wp2
 obtain ⟨v, hb, _⟩ := id hr2
 refine leaves_cons (f := 174) (args := #[.pointer (some ⟨w.heap.size, 0, none⟩)]) (by simp) (by simp [go_sem]) ?_
 refine (shut_some_Fixed32 w2 ⟨w.heap.size, 0, none⟩ rb er v k er0 [] hbx hb).mono ?_
 rintro e u' w'' ⟨rfl, rfl, rfl⟩
 simp [Leaves, settle, results, Tryz.results132, go_sem]
 exact ⟨hr2.setErr er, grown_trans (box_grown hg2) (grown_drew (grown_setCell _ _ _ _))⟩
theorem Fixed64_bad (w : World) (rb : Nat) (l : List UInt8) (k : Nat) (er0 er : Int) (h : RdrAt w rb l k er0)
    (hc : ∀ u, RdrAt u rb l k er0 → Calls Tryz.prog 177 #[.pointer (some ⟨rb, 0, none⟩), .int .i64 8] u fun e w' => e = .panicked [{ v := .iface 286 (.int .i64 er), recovered := false }] ∧ Qt u w') :
    Calls Tryz.prog 173 #[.pointer (some ⟨rb, 0, none⟩)] w fun e w' => e = .returned (.int .u64 0) ∧ RdrAt w' rb l k er ∧ w.grownBy w' (some rb) := by
 have hmf : ∀ (fn : Fn) (first cap : Array Value) (w : World), (Instr.makeFunc fn first cap).run Tryz.prog w = .ok (.func fn first cap) w := fun _ _ _ _ => rfl
 have HC : Hid (∀ u, RdrAt u rb l k er0 → Calls Tryz.prog 177 #[.pointer (some ⟨rb, 0, none⟩), .int .i64 8] u fun e w' => e = .panicked [{ v := .iface 286 (.int .i64 er), recovered := false }] ∧ Qt u w') := hc
 clear hc
 have hlt := h.lt
 go_enter_defers Tryz.func173, Tryz.ntmps173
 go_wp2_with fail
 refine (HC.out _ (h.below (box_below w _))).mono ?_
 rintro e w2 ⟨rfl, hq⟩
 have hr2 := (h.below (box_below w _)).below (hq.below _)
 have hg2 := hq.grown (some rb)
 have hbx := box_cell hlt hg2
 go_wp2
 obtain ⟨v, hb, _⟩ := id hr2
 refine leaves_cons (f := 198) (args := #[.pointer (some ⟨w.heap.size, 0, none⟩)]) (by simp) (by simp [go_sem]) ?_
 refine (shut_some_Fixed64 w2 ⟨w.heap.size, 0, none⟩ rb er v k er0 [] hbx hb).mono ?_
 rintro e u' w'' ⟨rfl, rfl, rfl⟩
 simp [Leaves, settle, results, Tryz.results173, go_sem]
 exact ⟨hr2.setErr er, grown_trans (box_grown hg2) (grown_drew (grown_setCell _ _ _ _))⟩
theorem Fixed32_good (w : World) (rb : Nat) (l : List UInt8) (k : Nat) (h : RdrAt w rb l k 0) (hk : k + 4 ≤ l.length) :
    Calls Tryz.prog 132 #[.pointer (some ⟨rb, 0, none⟩)] w fun e w' => e = .returned (.int .u32 (num ((l.drop k).take 4) : Int)) ∧ RdrAt w' rb l (k + 4) 0 ∧ w.grownBy w' (some rb) := by
 have hmf : ∀ (fn : Fn) (first cap : Array Value) (w : World), (Instr.makeFunc fn first cap).run Tryz.prog w = .ok (.func fn first cap) w := fun _ _ _ _ => rfl
 have hlt := h.lt
 go_enter_defers Tryz.func132, Tryz.ntmps132
 go_wp2_with fail
 refine (take_ok _ rb l k 4 (h.below (box_below w _)) hk).mono ?_
 rintro e w2 ⟨v2, rfl, hs2, hr2, hg2⟩
 have hbx := box_cell hlt hg2
 have hg3 := box_grown hg2
 have hnl := num_le ((l.drop k).take 4) 4 (by simp; omega)
 have HL : Hid (((l.drop k).take 4).length ≤ 8) := by show _ ≤ _; simp; omega
 clear hg2 hk
 obtain ⟨n, hn⟩ : ∃ n, n = num ((l.drop k).take 4) := ⟨_, rfl⟩
 rw [← hn] at hnl
 simp only [show (256 : Nat) ^ 4 = 4294967296 from rfl] at hnl
 go_wp2_with fail
 refine (readFixed_any _ _ _ hs2 HL.out).mono ?_
 rintro e w3 ⟨rfl, rfl⟩
 rw [← hn]
 have HN : Hid (n = num ((l.drop k).take 4)) := hn
 clear hn
 go_wp2
 refine leaves_cons (f := 174) (args := #[.pointer (some ⟨w.heap.size, 0, none⟩)]) (by simp) (by simp [go_sem]) ?_
 refine (shut_idle_Fixed32 _ (some ⟨rb, 0, none⟩) ⟨w.heap.size, 0, none⟩ hbx).mono ?_
 rintro e u' w'' ⟨rfl, rfl, rfl⟩
 simp [Leaves, settle, results, Tryz.results132, go_sem]
 exact ⟨by rw [HN.out], hr2, grown_drew hg3⟩
theorem Fixed64_good (w : World) (rb : Nat) (l : List UInt8) (k : Nat) (h : RdrAt w rb l k 0) (hk : k + 8 ≤ l.length) :
    Calls Tryz.prog 173 #[.pointer (some ⟨rb, 0, none⟩)] w fun e w' => e = .returned (.int .u64 (num ((l.drop k).take 8) : Int)) ∧ RdrAt w' rb l (k + 8) 0 ∧ w.grownBy w' (some rb) := by
 have hmf : ∀ (fn : Fn) (first cap : Array Value) (w : World), (Instr.makeFunc fn first cap).run Tryz.prog w = .ok (.func fn first cap) w := fun _ _ _ _ => rfl
 have hlt := h.lt
 go_enter_defers Tryz.func173, Tryz.ntmps173
 go_wp2_with fail
 refine (take_ok _ rb l k 8 (h.below (box_below w _)) hk).mono ?_
 rintro e w2 ⟨v2, rfl, hs2, hr2, hg2⟩
 have hbx := box_cell hlt hg2
 have hg3 := box_grown hg2
 have hnl := num_le ((l.drop k).take 8) 8 (by simp; omega)
 have HL : Hid (((l.drop k).take 8).length ≤ 8) := by show _ ≤ _; simp; omega
 clear hg2 hk
 obtain ⟨n, hn⟩ : ∃ n, n = num ((l.drop k).take 8) := ⟨_, rfl⟩
 rw [← hn] at hnl
 simp only [show (256 : Nat) ^ 8 = 18446744073709551616 from rfl] at hnl
 go_wp2_with fail
 refine (readFixed_any _ _ _ hs2 HL.out).mono ?_
 rintro e w3 ⟨rfl, rfl⟩
 rw [← hn]
 have HN : Hid (n = num ((l.drop k).take 8)) := hn
 clear hn
 go_wp2
 refine leaves_cons (f := 198) (args := #[.pointer (some ⟨w.heap.size, 0, none⟩)]) (by simp) (by simp [go_sem]) ?_
 refine (shut_idle_Fixed64 _ (some ⟨rb, 0, none⟩) ⟨w.heap.size, 0, none⟩ hbx).mono ?_
 rintro e u' w'' ⟨rfl, rfl, rfl⟩
 simp [Leaves, settle, results, Tryz.results173, go_sem]
 exact ⟨by rw [HN.out], hr2, grown_drew hg3⟩
theorem newReader_any (w : World) (x : Value) (l : List UInt8) (hx : Sl w x l) (hlen : l.length ≤ 140737488355328) :
    Calls Tryz.prog 172 #[x] w fun e w' => ∃ rb, e = .returned (.pointer (some ⟨rb, 0, none⟩)) ∧ RdrAt w' rb l 0 0 ∧ Below w.heap.size w w' ∧ w.heap.size ≤ rb := by
 go_enter Tryz.func172, Tryz.ntmps172
 go_wp2_with fail
 refine (clone_any _ _ l hx hlen).mono ?_
 rintro e w2 ⟨v2, rfl, ho, hb⟩
 obtain ⟨ao, ca, rfl⟩ := own_slice ho
 go_wp2
 go_ret
 have hsz := hb.size
 refine ⟨_, rfl, ⟨.slice ao l.length ca, ?_, ?_, Nat.zero_le _, hlen⟩, hb.alloc hsz _, hsz⟩
 ·exact heap_alloc_new _ _
 ·obtain ⟨a1, a2⟩ := ho.alloc (.cells #[.slice ao l.length ca, .int .i64 0, .int .i64 0] 285)
  refine ⟨a1, ?_⟩
  rcases a2 with a2 | ⟨g, cap, cur, hv, hg, r⟩
  ·exact Or.inl a2
  ·exact Or.inr ⟨g, cap, cur, hv, Nat.zero_le _, r⟩
theorem at_any (w : World) (rb : Nat) (l : List UInt8) (k : Nat) (er : Int) (h : RdrAt w rb l k er) :
    Calls Tryz.prog 182 #[.pointer (some ⟨rb, 0, none⟩)] w fun e w' => e = .returned (.int .i64 (k : Int)) ∧ w' = w := by
 obtain ⟨v, hr, ho, hk, hl⟩ := h
 have h1 : w.cell? ⟨rb, 1, none⟩ = some (.int .i64 (k : Int)) := by simp [World.cell?, hr]
 clear hr ho
 go_enter Tryz.func182, Tryz.ntmps182
 go_wp2
 go_ret
 exact ⟨rfl, rfl⟩
theorem err_any (w : World) (rb : Nat) (l : List UInt8) (k : Nat) (er : Int) (h : RdrAt w rb l k er) :
    Calls Tryz.prog 178 #[.pointer (some ⟨rb, 0, none⟩)] w fun e w' => e = .returned (.tuple #[.int .i64 (if er = 0 then 0 else (k : Int)), .int .i64 er]) ∧ Qt w w' := by
 obtain ⟨v, hr, ho, hk, hl⟩ := h
 have h1 : w.cell? ⟨rb, 1, none⟩ = some (.int .i64 (k : Int)) := by simp [World.cell?, hr]
 have h2 : w.cell? ⟨rb, 2, none⟩ = some (.int .i64 er) := by simp [World.cell?, hr]
 clear hr ho
 by_cases he : er = 0
 ·subst he
  rw [if_pos rfl]
  go_enter Tryz.func178, Tryz.ntmps178
  go_wp2
  go_ret2
  exact ⟨rfl, Qt.refl _⟩
 ·rw [if_neg he]
  have hg : (er == 0) = false := by simpa using he
  clear he
  go_enter Tryz.func178, Tryz.ntmps178
  go_wp2
  go_quiet (fail)
  go_wp2
  go_ret2
  exact ⟨rfl, ⟨_, rfl⟩⟩
def stp (l : List UInt8) (n : Nat) (s : Nat × Int) : Nat × Int := if s.2 = 0 then (if s.1 + n ≤ l.length then (s.1 + n, 0) else (s.1, 2)) else s
def stv (l : List UInt8) (n : Nat) (s : Nat × Int) : Nat := if s.2 = 0 ∧ s.1 + n ≤ l.length then num ((l.drop s.1).take n) else 0
theorem stv_lt (l : List UInt8) (n : Nat) (s : Nat × Int) : stv l n s < 256 ^ n := by
 unfold stv
 split
 ·exact num_le _ n (by simp; omega)
 ·exact Nat.pow_pos (by omega)
theorem fixed32_tot (w : World) (rb : Nat) (l : List UInt8) (s : Nat × Int) (h : RdrAt w rb l s.1 s.2) :
    Calls Tryz.prog 132 #[.pointer (some ⟨rb, 0, none⟩)] w fun e w' => e = .returned (.int .u32 (stv l 4 s : Int)) ∧ RdrAt w' rb l (stp l 4 s).1 (stp l 4 s).2 ∧ w.grownBy w' (some rb) := by
 by_cases h0 : s.2 = 0
 ·rw [h0] at h
  by_cases h1 : s.1 + 4 ≤ l.length
  ·have E1 : stv l 4 s = num ((l.drop s.1).take 4) := by rw [stv, if_pos ⟨h0, h1⟩]
   have E2 : stp l 4 s = (s.1 + 4, 0) := by rw [stp, if_pos h0, if_pos h1]
   rw [E1, E2]
   exact Fixed32_good w rb l s.1 h h1
  ·have E1 : stv l 4 s = 0 := by rw [stv, if_neg (by omega)]
   have E2 : stp l 4 s = (s.1, 2) := by rw [stp, if_pos h0, if_neg h1]
   rw [E1, E2]
   exact Fixed32_bad w rb l s.1 0 2 h fun u hu => take_short u rb l s.1 4 hu (by omega)
 ·have E1 : stv l 4 s = 0 := by rw [stv, if_neg (by omega)]
  have E2 : stp l 4 s = s := by rw [stp, if_neg h0]
  rw [E1, E2]
  exact Fixed32_bad w rb l s.1 s.2 s.2 h fun u hu => (take_no u rb l s.1 s.2 4 hu (by simpa using h0)).mono fun e w' ⟨a, b⟩ => ⟨a, by rw [b]; exact Qt.refl _⟩
theorem fixed64_tot (w : World) (rb : Nat) (l : List UInt8) (s : Nat × Int) (h : RdrAt w rb l s.1 s.2) :
    Calls Tryz.prog 173 #[.pointer (some ⟨rb, 0, none⟩)] w fun e w' => e = .returned (.int .u64 (stv l 8 s : Int)) ∧ RdrAt w' rb l (stp l 8 s).1 (stp l 8 s).2 ∧ w.grownBy w' (some rb) := by
 by_cases h0 : s.2 = 0
 ·rw [h0] at h
  by_cases h1 : s.1 + 8 ≤ l.length
  ·have E1 : stv l 8 s = num ((l.drop s.1).take 8) := by rw [stv, if_pos ⟨h0, h1⟩]
   have E2 : stp l 8 s = (s.1 + 8, 0) := by rw [stp, if_pos h0, if_pos h1]
   rw [E1, E2]
   exact Fixed64_good w rb l s.1 h h1
  ·have E1 : stv l 8 s = 0 := by rw [stv, if_neg (by omega)]
   have E2 : stp l 8 s = (s.1, 2) := by rw [stp, if_pos h0, if_neg h1]
   rw [E1, E2]
   exact Fixed64_bad w rb l s.1 0 2 h fun u hu => take_short u rb l s.1 8 hu (by omega)
 ·have E1 : stv l 8 s = 0 := by rw [stv, if_neg (by omega)]
  have E2 : stp l 8 s = s := by rw [stp, if_neg h0]
  rw [E1, E2]
  exact Fixed64_bad w rb l s.1 s.2 s.2 h fun u hu => (take_no u rb l s.1 s.2 8 hu (by simpa using h0)).mono fun e w' ⟨a, b⟩ => ⟨a, by rw [b]; exact Qt.refl _⟩
def put2 (w : World) (b : Nat) (a0 a1 : Value) : World := (w.setCell ⟨b, 0, none⟩ a0).setCell ⟨b, 1, none⟩ a1
theorem put2_heap {w : World} {b : Nat} {z0 z1 : Value} {T : TypeId} (h : w.heap[b]? = some (.cells #[z0, z1] T (0, 0))) (a0 a1 : Value) : (put2 w b a0 a1).heap[b]? = some (.cells #[a0, a1] T (0, 0)) := by
 unfold put2
 rw [heap_setCell_same _ _ _ _ _ _ (heap_setCell_same _ _ _ _ _ _ h)]
 simp
theorem put2_other (w : World) (b k : Nat) (a0 a1 : Value) (h : k ≠ b) : (put2 w b a0 a1).heap[k]? = w.heap[k]? := by
 unfold put2
 rw [heap_setCell_other _ _ k _ h, heap_setCell_other _ _ k _ h]
theorem put2_below {B : Nat} {u w : World} (h : Below B u w) {b : Nat} (hb : B ≤ b) (a0 a1 : Value) : Below B u (put2 w b a0 a1) := (h.setCell hb a0).setCell hb a1
theorem put2_grown (w : World) (b : Nat) (a0 a1 : Value) : w.grownBy (put2 w b a0 a1) (some b) := grown_trans (grown_setCell _ _ _ _) (grown_setCell _ _ _ _)
theorem put2_size (w : World) (b : Nat) (a0 a1 : Value) : (put2 w b a0 a1).heap.size = w.heap.size := by unfold put2; simp [World.setCell]
theorem two_cells {w : World} {b : Nat} {a0 a1 : Value} {T : TypeId} (h : w.heap[b]? = some (.cells #[a0, a1] T (0, 0))) : w.cell? ⟨b, 0, none⟩ = some a0 ∧ w.cell? ⟨b, 1, none⟩ = some a1 ∧ w.frozen? ⟨b, 0, none⟩ = false ∧ w.frozen? ⟨b, 1, none⟩ = false := by
 simp [World.cell?, World.frozen?, h]
theorem sl_take {w : World} {l : List UInt8} {n : Nat} (k : Nat) (hk : k ≤ l.length) {ao : Option Addr} {ca : Nat} (h : Sl w (.slice ao n ca) l) (hn : l.length = n) : Sl w (.slice ao k ca) (l.take k) := by
 obtain ⟨ao', ca', e, g2, g3, g4, g5⟩ := h
 simp only [Value.slice.injEq] at e
 obtain ⟨rfl, _, rfl⟩ := e
 have hl : (l.take k).length = k := by simp; omega
 refine ⟨ao, ca, by rw [hl], fun e => ?_, by omega, g4, fun i hi => ?_⟩
 ·obtain ⟨e1, e2⟩ := g2 e
  exact ⟨by rw [e1]; simp, e2⟩
 ·obtain ⟨b, off, e1, hc⟩ := g5 i (by omega)
  exact ⟨b, off, e1, by rw [hc]; simp⟩
theorem newR_any (w : World) (v : Value) (l : List UInt8) (k : Nat) (hk : k ≤ 100) (hv : Sl w v l) :
    Calls Tryz.prog 129 #[v, .int .i64 (k : Int)] w fun e w' => ∃ rb, e = .returned (.agg #[.pointer (some ⟨rb, 0, none⟩), v]) ∧ RdrAt w' rb (l.take k) 0 0 ∧ Below w.heap.size w w' ∧ w.heap.size ≤ rb := by
 have HV := hide hv
 obtain ⟨n, hn⟩ : ∃ n, Hid (l.length = n) := ⟨_, rfl⟩
 obtain ⟨ao, ca, rfl⟩ := hv.form hn.out
 have hcap : n ≤ ca ∧ ca ≤ 9223372036854775807 := by
  obtain ⟨_, _, e, _, g3, g4, _⟩ := hv
  simp only [Value.slice.injEq] at e
  obtain ⟨_, _, rfl⟩ := e
  rw [hn.out] at g3
  unfold maxLen at g4
  omega
 obtain ⟨hc1, hc2⟩ := hcap
 have hv1 := hide (Below.sl (box_below w (.cells #[.pointer none, .slice none 0 0] 212)) HV.out)
 obtain ⟨M, hM⟩ : ∃ M, Hid (l.take k = M) := ⟨_, rfl⟩
 rw [hM.out]
 have hML : Hid (M.length ≤ 140737488355328) := by show _ ≤ _; rw [← hM.out]; simp; omega
 clear hv
 by_cases hnk : n < k
 ·have s1 : Hid (Sl (w.alloc (.cells #[.pointer none, .slice none 0 0] 212)) (.slice ao n ca) M) := by
    have e : l = M := by rw [← hM.out, List.take_of_length_le (by rw [hn.out]; omega)]
    show Sl _ _ _
    rw [← e]; exact hv1.out
  go_enter Tryz.func129, Tryz.ntmps129
  go_wp2_with fail
  refine (newReader_any _ _ M s1.out hML.out).mono ?_
  rintro e w1 ⟨rb, rfl, hr, hb, hrb⟩
  have hB : Hid (Below w.heap.size w w1) := keepF (box_below _ _) hb
  have hh := hb.block w.heap.size (by simp)
  rw [heap_alloc_new] at hh
  have hrb' : Hid (w.heap.size + 1 ≤ rb) := by simpa [Hid] using hrb
  obtain ⟨c0, c1, f0, f1⟩ := two_cells hh
  have hR : Hid (RdrAt (put2 w1 w.heap.size (.pointer (some ⟨rb, 0, none⟩)) (.slice ao n ca)) rb M 0 0) := by
   obtain ⟨vr, g1, g2, g3, g4⟩ := hr
   refine ⟨vr, ?_, ?_, g3, g4⟩
   ·rw [put2_other _ _ _ _ _ (by have := hrb'.out; omega)]; exact g1
   ·exact ownsRow_setCell_other (ownsRow_setCell_other g2 (fun e => by
      obtain ⟨_, p⟩ := id g2
      rcases p with ⟨rfl, _⟩ | ⟨g, cap, cur, rfl, _, hg, _⟩
      ·simp [Value.ownBlock] at e
      ·simp [Value.ownBlock] at e
       subst e
       rw [hh] at hg
       simp at hg) _) (fun e => by
      obtain ⟨_, p⟩ := id g2
      rcases p with ⟨rfl, _⟩ | ⟨g, cap, cur, rfl, _, hg, _⟩
      ·simp [Value.ownBlock] at e
      ·simp [Value.ownBlock] at e
       subst e
       rw [hh] at hg
       simp at hg) _
  have hB2 := hide (put2_below hB.out (Nat.le_refl _) (.pointer (some ⟨rb, 0, none⟩)) (.slice ao n ca))
  have hP := hide (two_cells (put2_heap hh (.pointer (some ⟨rb, 0, none⟩)) (.slice ao n ca)))
  clear hh hb hr hB hrb
  go_wp2_with fail
  show bodyPost _ _ _ _ _ (put2 w1 w.heap.size (.pointer (some ⟨rb, 0, none⟩)) (.slice ao n ca))
  obtain ⟨w5, hw5⟩ : ∃ w5, Hid (put2 w1 w.heap.size (.pointer (some ⟨rb, 0, none⟩)) (.slice ao n ca) = w5) := ⟨_, rfl⟩
  rw [hw5.out] at hP hB2 hR ⊢
  obtain ⟨k0, k1, _, _⟩ := hP.out
  refine bodyPost_ret (by simp [results, Tryz.results129, go_sem, k0, k1]; rfl) rfl ?_
  exact ⟨rb, rfl, hR.out, hB2.out, by have := hrb'.out; omega⟩
 ·have s1 : Hid (Sl (w.alloc (.cells #[.pointer none, .slice none 0 0] 212)) (.slice ao k ca) M) := by
    show Sl _ _ _
    rw [← hM.out]
    exact sl_take k (by rw [hn.out]; omega) hv1.out hn.out
  have hkn : k ≤ n := by omega
  have hkc : k ≤ ca := by omega
  go_enter Tryz.func129, Tryz.ntmps129
  go_wp2_with fail
  refine (newReader_any _ _ M s1.out hML.out).mono ?_
  rintro e w1 ⟨rb, rfl, hr, hb, hrb⟩
  have hB : Hid (Below w.heap.size w w1) := keepF (box_below _ _) hb
  have hh := hb.block w.heap.size (by simp)
  rw [heap_alloc_new] at hh
  have hrb' : Hid (w.heap.size + 1 ≤ rb) := by simpa [Hid] using hrb
  obtain ⟨c0, c1, f0, f1⟩ := two_cells hh
  have hR : Hid (RdrAt (put2 w1 w.heap.size (.pointer (some ⟨rb, 0, none⟩)) (.slice ao n ca)) rb M 0 0) := by
   obtain ⟨vr, g1, g2, g3, g4⟩ := hr
   refine ⟨vr, ?_, ?_, g3, g4⟩
   ·rw [put2_other _ _ _ _ _ (by have := hrb'.out; omega)]; exact g1
   ·exact ownsRow_setCell_other (ownsRow_setCell_other g2 (fun e => by
      obtain ⟨_, p⟩ := id g2
      rcases p with ⟨rfl, _⟩ | ⟨g, cap, cur, rfl, _, hg, _⟩
      ·simp [Value.ownBlock] at e
      ·simp [Value.ownBlock] at e
       subst e
       rw [hh] at hg
       simp at hg) _) (fun e => by
      obtain ⟨_, p⟩ := id g2
      rcases p with ⟨rfl, _⟩ | ⟨g, cap, cur, rfl, _, hg, _⟩
      ·simp [Value.ownBlock] at e
      ·simp [Value.ownBlock] at e
       subst e
       rw [hh] at hg
       simp at hg) _
  have hB2 := hide (put2_below hB.out (Nat.le_refl _) (.pointer (some ⟨rb, 0, none⟩)) (.slice ao n ca))
  have hP := hide (two_cells (put2_heap hh (.pointer (some ⟨rb, 0, none⟩)) (.slice ao n ca)))
  clear hh hb hr hB hrb
  go_wp2_with fail
  show bodyPost _ _ _ _ _ (put2 w1 w.heap.size (.pointer (some ⟨rb, 0, none⟩)) (.slice ao n ca))
  obtain ⟨w5, hw5⟩ : ∃ w5, Hid (put2 w1 w.heap.size (.pointer (some ⟨rb, 0, none⟩)) (.slice ao n ca) = w5) := ⟨_, rfl⟩
  rw [hw5.out] at hP hB2 hR ⊢
  obtain ⟨k0, k1, _, _⟩ := hP.out
  refine bodyPost_ret (by simp [results, Tryz.results129, go_sem, k0, k1]; rfl) rfl ?_
  exact ⟨rb, rfl, hR.out, hB2.out, by have := hrb'.out; omega⟩
end Go.Proofs.YtpflaglfnkmjiaaGreat
namespace Go.Proofs.YtpflaglfnkmjiaaGreat.Ix
open Go.RowKit
def ecells (l : List (Int × Int)) : List Value := l.flatMap fun e => [.int .i64 e.1, .int .i64 e.2]
theorem ecells_snoc (l : List (Int × Int)) (e : Int × Int) : ecells (l ++ [e]) = ecells l ++ [.int .i64 e.1, .int .i64 e.2] := by simp [ecells]
theorem ecells_get (l : List (Int × Int)) : ∀ i (h : i < l.length), (ecells l)[i * 2]? = some (.int .i64 l[i].1) ∧ (ecells l)[i * 2 + 1]? = some (.int .i64 l[i].2) := by
 induction l with
 | nil => intro i h; simp at h
 | cons p r ih =>
  intro i h
  rw [ecells, List.flatMap_cons, ← ecells]
  match i with
  | 0 => simp
  | i + 1 =>
   have := ih i (by simpa using h)
   rw [show (i + 1) * 2 = i * 2 + 1 + 1 by omega]
   simpa using this
def Ents (w : World) (v : Value) (l : List (Int × Int)) : Prop := w.ownsRow 0 147 2 v l.length (ecells l)
theorem Ents.nil (w : World) : Ents w (.slice none 0 0) [] := World.ownsRow_nil _ _ _ _
theorem Ents.form {w : World} {v : Value} {l : List (Int × Int)} (h : Ents w v l) : ∃ ao ca, v = .slice ao l.length ca ∧ ca ≤ 9223372036854775807 ∧ l.length ≤ ca := by
 rcases h.2 with ⟨rfl, e⟩ | ⟨g, cap, cur, rfl, _, _, a, b, _⟩
 ·exact ⟨_, _, by rw [e], by omega, by omega⟩
 ·exact ⟨_, _, rfl, by unfold maxLen at b; omega, a⟩
theorem Ents.at {w : World} {v : Value} {l : List (Int × Int)} (h : Ents w v l) (hl : l ≠ []) : ∃ g ca, v = .slice (some ⟨g, 0, none⟩) l.length ca ∧ (∀ i (hi : i < l.length), w.cell? ⟨g, i * 2, none⟩ = some (.int .i64 l[i].1) ∧ w.cell? ⟨g, i * 2 + 1, none⟩ = some (.int .i64 l[i].2)) ∧ l.length ≤ ca ∧ ca ≤ 9223372036854775807 ∧ g < w.heap.size := by
 have h0 := h
 rcases h.2 with ⟨rfl, e⟩ | ⟨g, cap, cur, rfl, _, hh, a, b, c, d⟩
 ·exact absurd (List.length_eq_zero_iff.1 e) hl
 ·refine ⟨g, cap, rfl, fun i hi => ?_, a, by unfold maxLen at b; omega, heap_lt hh⟩
  obtain ⟨e1, e2⟩ := ecells_get l i hi
  have hc : ∀ j, j < l.length * 2 → w.cell? ⟨g, j, none⟩ = (ecells l)[j]? := by
   intro j hj
   rw [← d, List.getElem?_take_of_lt hj]
   simp [World.cell?, hh]
  exact ⟨by rw [hc _ (by omega), e1], by rw [hc _ (by omega), e2]⟩
theorem Ents.but {X : Nat → Prop} {A B : World} {v : Value} {l : List (Int × Int)} (h : Ents A v l) (hb : But X A B) (hx : ∀ k, v.ownBlock = some k → ¬ X k) : Ents B v l := by
 refine ⟨h.1, ?_⟩
 rcases h.2 with h | ⟨g, cap, cur, rfl, hg, hh, r⟩
 ·exact .inl h
 ·exact .inr ⟨g, cap, cur, rfl, hg, hb.at hh (hx g rfl), r⟩
theorem Ents.no {w : World} {v : Value} {l : List (Int × Int)} {b : Nat} {cs : Array Value} {T : TypeId} {fz : Nat × Nat} (h : Ents w v l) (hb : w.heap[b]? = some (.cells cs T fz)) (hT : T ≠ 147) : v.ownBlock ≠ some b := fun e1 => by
 rcases h.2 with ⟨rfl, _⟩ | ⟨g, cap, cur, rfl, hg, hh, r⟩
 ·simp [Value.ownBlock] at e1
 ·simp [Value.ownBlock] at e1
  subst e1
  rw [hb] at hh
  simp at hh
  exact hT hh.2.1
theorem Ents.lt {w : World} {v : Value} {l : List (Int × Int)} (h : Ents w v l) : ∀ k, v.ownBlock = some k → k < w.heap.size := fun k hk => (World.ownsRow.lt h k hk).2
structure At (T : TypeId) (w : World) (b : Nat) (x : X) (v : Value) : Prop where
 box : w.heap[b]? = some (.cells #[.int .i64 (x.st : Int), v, .int .i64 x.la.1, .int .i64 x.la.2] T (0, 0))
 row : Ents w v x.l
def Own (b : Nat) (v : Value) : Nat → Prop := fun k => k = b ∨ v.ownBlock = some k
theorem At.but {T : TypeId} {Y : Nat → Prop} {A B : World} {b : Nat} {x : X} {v : Value} (h : At T A b x v) (hb : But Y A B) (hx : ∀ k, Own b v k → ¬ Y k) : At T B b x v :=
 ⟨hb.at h.box (hx b (.inl rfl)), h.row.but hb fun k hk => hx k (.inr hk)⟩
theorem At.below {T : TypeId} {A B : World} {b : Nat} {x : X} {v : Value} (h : At T A b x v) (hb : Below A.heap.size A B) : At T B b x v := h.but (But.of_below hb fun _ => False) fun _ _ c => c
theorem At.lt {T : TypeId} {w : World} {b : Nat} {x : X} {v : Value} (h : At T w b x v) : ∀ k, Own b v k → k < w.heap.size := by
 rintro k (rfl | hk)
 ·exact heap_lt h.box
 ·exact h.row.lt k hk
theorem At.cells {T : TypeId} {w : World} {b : Nat} {x : X} {v : Value} (h : At T w b x v) : w.cell? ⟨b, 0, none⟩ = some (.int .i64 (x.st : Int)) ∧ w.cell? ⟨b, 1, none⟩ = some v ∧ w.cell? ⟨b, 2, none⟩ = some (.int .i64 x.la.1) ∧ w.cell? ⟨b, 3, none⟩ = some (.int .i64 x.la.2) := by
 have := h.box
 simp [World.cell?, this]
theorem At.frozen {T : TypeId} {w : World} {b : Nat} {x : X} {v : Value} (h : At T w b x v) : w.frozen? ⟨b, 0, none⟩ = false ∧ w.frozen? ⟨b, 1, none⟩ = false ∧ w.frozen? ⟨b, 2, none⟩ = false ∧ w.frozen? ⟨b, 3, none⟩ = false := by
 have := h.box
 simp [World.frozen?, this]
def TI : TypeId := 231
def DoesNew (T : TypeId) (f : Nat) : Prop := ∀ (w : World) (st : Int), -9223372036854775808 ≤ st → st ≤ 9223372036854775807 →
 Calls Tryz.prog f #[.int .i64 st] w fun e w' => Below w.heap.size w w' ∧ ((¬ (1 ≤ st ∧ st ≤ 1048576) ∧ e = .returned (.tuple #[.pointer none, .int .i64 1])) ∨
  (1 ≤ st ∧ st ≤ 1048576 ∧ ∃ b, w.heap.size ≤ b ∧ e = .returned (.tuple #[.pointer (some ⟨b, 0, none⟩), .int .i64 0]) ∧ At T w' b ⟨st.toNat, [], (0, 0)⟩ (.slice none 0 0)))
theorem new_any : DoesNew TI 119 := by
 intro w st h0 h1
 by_cases h2 : 1 ≤ st ∧ st ≤ 1048576
 ·obtain ⟨g1, g2⟩ := h2
  go_enter Tryz.func119, Tryz.ntmps119
  go_wp2_with fail
  go_ret2
  refine ⟨box_below _ _, .inr ⟨g1, g2, _, Nat.le_refl _, rfl, ?_, Ents.nil _⟩⟩
  rw [heap_alloc_new]
  simp [TI]; omega
 ·go_enter Tryz.func119, Tryz.ntmps119
  by_cases g1 : st < 1
  ·go_wp2_with fail
   go_ret2
   exact ⟨Below.refl _ _, by first | exact .inl ⟨h2, rfl⟩ | exact .inl rfl⟩
  ·have g2 : 1048576 < st := by omega
   go_wp2_with fail
   go_ret2
   exact ⟨Below.refl _ _, by first | exact .inl ⟨h2, rfl⟩ | exact .inl rfl⟩
theorem follows_any (w : World) (a1 a2 n o : Int) (h0 : 1 ≤ n) (h1 : n ≤ 9223372036854775807) :
    Calls Tryz.prog 167 #[.agg #[.int .i64 a1, .int .i64 a2], .agg #[.int .i64 n, .int .i64 o]] w fun e w' => e = .returned (.bool (decide (n - 1 = a1 ∧ a2 < o))) ∧ Below w.heap.size w w' := by
 have hB := hide ((box_below w (.cells #[.int .i64 a1, .int .i64 a2] 147)).alloc (by simp) (.cells #[.int .i64 n, .int .i64 o] 147))
 have hw : IntKind.i64.wrap (n - 1) = n - 1 := by rw [IntKind.wrap_i64]; omega
 go_enter Tryz.func167, Tryz.ntmps167
 by_cases h2 : n - 1 = a1
 ·subst h2
  by_cases h3 : a2 < o
  ·go_wp2_with fail
   go_ret
   exact ⟨by simp, hB.out⟩
  ·go_wp2_with fail
   go_ret
   exact ⟨by simp [h3], hB.out⟩
 ·go_wp2_with fail
  go_ret
  exact ⟨by simp [h2], hB.out⟩
def farF (x : X) (o : Int) : Bool := decide (x.l = [] ∨ (x.st : Int) ≤ o - (lastE x.l).2)
theorem far_any (w : World) (b : Nat) (x : X) (v : Value) (o : Int) (h : At TI w b x v) (hk : Ok x) (h0 : 0 ≤ o) (h1 : o ≤ 2147483647) :
    Calls Tryz.prog 168 #[.pointer (some ⟨b, 0, none⟩), .int .i64 o] w fun e w' => e = .returned (.bool (farF x o)) ∧ Qt w w' := by
 obtain ⟨c0, c1, _, _⟩ := h.cells
 by_cases hl : x.l = []
 ·have hf : Hid (farF x o = true) := by show _ = _; simp [farF, hl]
  obtain ⟨ao, ca, rfl, q1, q2⟩ := h.row.form
  rw [hl] at c1
  simp only [List.length_nil] at c1
  clear h q1 q2 hl
  go_enter Tryz.func168, Tryz.ntmps168
  go_wp2_with fail
  go_quiet (fail)
  go_wp2_with fail
  go_ret
  exact ⟨by rw [hf.out]; rfl, ⟨_, rfl⟩⟩
 ·obtain ⟨g, ca, rfl, hc, q1, q2, _⟩ := h.row.at hl
  have hp := List.length_pos_iff.2 hl
  obtain ⟨M, hM⟩ : ∃ M, x.l.length = M + 1 := ⟨x.l.length - 1, by omega⟩
  obtain ⟨k0, k1⟩ := hc M (by omega)
  have hle : lastE x.l = x.l[M]'(by omega) := by rw [lastE_get hl]; congr 1; omega
  have hr := hk.srt.rng _ (List.getElem_mem (show M < x.l.length by omega))
  have hf : Hid (farF x o = decide ((x.st : Int) ≤ o - (x.l[M]'(by omega)).2)) := by show _ = _; unfold farF; rw [hle]; simp [hl]
  have hlen := hk.srt.len
  have hs0 := hk.srt.s1
  generalize (x.l[M]'(by omega)) = en at *
  obtain ⟨e1, e2⟩ := en
  simp only at k0 k1 hf hr
  obtain ⟨r1, r2, r3, r4⟩ := hr
  rw [hM] at c1 q1 hlen
  have hw : IntKind.i64.wrap (o - e2) = o - e2 := by rw [IntKind.wrap_i64]; omega
  have hne : ¬ ((M : Int) + 1 = 0) := by omega
  have hw2 : IntKind.i64.wrap (M : Int) = (M : Int) := by rw [IntKind.wrap_i64]; omega
  have hb0 : ((M : Int) + 1 == 0) = false := by simpa using hne
  obtain ⟨st, hst⟩ : ∃ st, x.st = st := ⟨_, rfl⟩
  rw [hst] at c0 hf hs0
  clear h hle hM hp hc hl hst hk
  go_enter Tryz.func168, Tryz.ntmps168
  go_wp2_with fail
  go_quiet (fail)
  go_wp2_with fail
  go_ret
  exact ⟨by rw [hf.out]; first | rfl | simp, ⟨_, rfl⟩⟩
theorem At.setLa {T : TypeId} {w : World} {b : Nat} {x : X} {v : Value} (h : At T w b x v) (hT : T ≠ 147) (a1 a2 : Int) : At T ((w.setCell ⟨b, 2, none⟩ (.int .i64 a1)).setCell ⟨b, 3, none⟩ (.int .i64 a2)) b ⟨x.st, x.l, (a1, a2)⟩ v := by
 have h1 : (w.setCell ⟨b, 2, none⟩ (.int .i64 a1)).heap[b]? = some (.cells #[.int .i64 (x.st : Int), v, .int .i64 a1, .int .i64 x.la.2] T (0, 0)) := by
  rw [heap_setCell_same w b 2 _ _ _ h.box]; simp
 refine ⟨?_, ?_⟩
 ·rw [heap_setCell_same _ b 3 _ _ _ h1]; simp
 ·have g1 : But (fun k => k = b) w (w.setCell ⟨b, 2, none⟩ (.int .i64 a1)) := But.of_grownBy (grown_setCell _ _ _ _) fun k e => by cases e; rfl
  have g2 : But (fun k => k = b) (w.setCell ⟨b, 2, none⟩ (.int .i64 a1)) ((w.setCell ⟨b, 2, none⟩ (.int .i64 a1)).setCell ⟨b, 3, none⟩ (.int .i64 a2)) := But.of_grownBy (grown_setCell _ _ _ _) fun k e => by cases e; rfl
  exact h.row.but (g1.trans g2) fun k hk e => h.row.no h.box hT (by rw [← e]; exact hk)
theorem but_la (w : World) (b : Nat) (a1 a2 v : Value) : But (Own b v) w ((w.setCell ⟨b, 2, none⟩ a1).setCell ⟨b, 3, none⟩ a2) :=
 (But.of_grownBy (grown_setCell w b 2 a1) fun k e => by cases e; exact .inl rfl).trans (But.of_grownBy (grown_setCell _ b 3 a2) fun k e => by cases e; exact .inl rfl)
theorem At.app {T : TypeId} {w u w3 : World} {b : Nat} {x : X} {v v' : Value} {n o : Int} (h : At T w b x v) (hT : T ≠ 147) (hu : Below w.heap.size w u) (hg : u.grownBy w3 v.ownBlock)
    (ho : w3.ownsRow 0 147 2 v' (x.l.length + 1) (ecells x.l ++ [.int .i64 n, .int .i64 o])) (hat : v'.ownBlock = v.ownBlock ∨ ∃ k, v'.ownBlock = some k ∧ w.heap.size ≤ k) :
    w3.heap[b]? = some (.cells #[.int .i64 (x.st : Int), v, .int .i64 x.la.1, .int .i64 x.la.2] T (0, 0)) ∧ At T (w3.setCell ⟨b, 1, none⟩ v') b ⟨x.st, x.l ++ [(n, o)], x.la⟩ v' ∧ But (Own b v) w (w3.setCell ⟨b, 1, none⟩ v') ∧ (∀ k, v'.ownBlock = some k → v.ownBlock = some k ∨ w.heap.size ≤ k) := by
 have hb : w3.heap[b]? = some (.cells #[.int .i64 (x.st : Int), v, .int .i64 x.la.1, .int .i64 x.la.2] T (0, 0)) := by
  have hl := heap_lt h.box
  rw [hg.block b (by have := hu.size; omega) (fun e => h.row.no h.box hT e.symm), hu.block b hl]
  exact h.box
 have hv : Ents w3 v' (x.l ++ [(n, o)]) := by
  unfold Ents
  rw [ecells_snoc, List.length_append]
  exact ho
 have g1 : But (fun k => k = b) w3 (w3.setCell ⟨b, 1, none⟩ v') := But.of_grownBy (grown_setCell _ _ _ _) fun k e => by cases e; rfl
 refine ⟨hb, ⟨?_, ?_⟩, ?_, ?_⟩
 ·rw [heap_setCell_same w3 b 1 _ _ _ hb]; simp
 ·exact hv.but g1 fun k hk e => hv.no hb hT (by rw [← e]; exact hk)
 ·exact ((But.of_below hu _).trans (But.of_grownBy hg fun k e => .inr e)).trans (g1.mono fun k _ e => .inl e)
 ·intro k hk
  rcases hat with e | ⟨k', e, hk'⟩
  ·exact .inl (by rw [← e]; exact hk)
  ·rw [e] at hk; cases hk; exact .inr hk'
theorem hat_of {v : Value} {g n c H B : Nat} (h : v.ownBlock = some g ∨ g = H) (hB : B ≤ H) : (Value.slice (some ⟨g, 0, none⟩) n c).ownBlock = v.ownBlock ∨ ∃ k, (Value.slice (some ⟨g, 0, none⟩) n c).ownBlock = some k ∧ B ≤ k := by
 rcases h with h | h
 ·exact .inl h.symm
 ·exact .inr ⟨g, rfl, by omega⟩
theorem infoEnt : (Tryz.prog.info? 147).map (fun i => (i.zero, i.size, i.bytes)) = some (some (.agg #[.int .i64 0, .int .i64 0]), 2, 16) := by kernel_rfl
theorem two_newE (w : World) (a b : Value) (T : TypeId) : ∀ (j : Nat) (u : Value), [a, b][j]? = some u → (w.alloc (.cells #[a, b] T)).cell? ((⟨w.heap.size, 0, none⟩ : Addr).add j) = some u := by
 intro j u h
 rw [addr_add]
 match j with
 | 0 => simp at h; subst h; unfold World.cell?; rw [show (w.alloc (.cells #[a, b] T)).heap[(⟨w.heap.size, 0 + 0, none⟩ : Addr).block]? = _ from heap_alloc_new _ _]; rfl
 | 1 => simp at h; subst h; unfold World.cell?; rw [show (w.alloc (.cells #[a, b] T)).heap[(⟨w.heap.size, 0 + 1, none⟩ : Addr).block]? = _ from heap_alloc_new _ _]; rfl
 | j + 2 => simp at h
def DoesAdd (T : TypeId) (f : Nat) : Prop := ∀ (w : World) (b : Nat) (x : X) (v : Value) (n o : Int), At T w b x v → Ok x → -9223372036854775808 ≤ n → n ≤ 9223372036854775807 → -9223372036854775808 ≤ o → o ≤ 9223372036854775807 →
 Calls Tryz.prog f #[.pointer (some ⟨b, 0, none⟩), .int .i64 n, .int .i64 o] w fun e w' => e = .returned (.int .i64 (addF x n o).1) ∧ ∃ v', At T w' b (addF x n o).2 v' ∧ But (Own b v) w w' ∧ (∀ k, v'.ownBlock = some k → v.ownBlock = some k ∨ w.heap.size ≤ k)
def Beh (w w2 : World) (b fb : Nat) (x : X) (v : Value) (n o : Int) : Prop := At TI w2 b x v ∧ w2.cell? ⟨fb, 0, none⟩ = some (.int .i64 n) ∧ w2.cell? ⟨fb, 1, none⟩ = some (.int .i64 o) ∧ Below w.heap.size w w2
theorem add_any : DoesAdd TI 124 := by
 intro w b x v n o h hk n0 n1 o0 o1
 obtain ⟨c0, c1, c2, c3⟩ := h.cells
 have s0 := hk.srt.s0
 have s1 := hk.srt.s1
 have hs0 : ¬ ((x.st : Int) = 0) := by omega
 have hb0 : ((x.st : Int) == 0) = false := by simpa using hs0
 by_cases ha : n < 1 ∨ o < 0 ∨ 2147483647 < o
 ·have hA : Hid (addF x n o = (1, x)) := by show _ = _; rw [addF, if_pos ha]
  have H := hide h
  clear h
  go_enter Tryz.func124, Tryz.ntmps124
  by_cases a1 : n < 1
  ·go_wp2_with fail
   go_ret
   rw [hA.out]
   exact ⟨rfl, v, H.out, But.refl _ _, fun k hk => .inl hk⟩
  by_cases a2 : o < 0
  ·go_wp2_with fail
   go_ret
   rw [hA.out]
   exact ⟨rfl, v, H.out, But.refl _ _, fun k hk => .inl hk⟩
  ·have a3 : 2147483647 < o := by omega
   go_wp2_with fail
   go_ret
   rw [hA.out]
   exact ⟨rfl, v, H.out, But.refl _ _, fun k hk => .inl hk⟩
 ·have a1 : ¬ n < 1 := by omega
  have a2 : ¬ o < 0 := by omega
  have a3 : ¬ 2147483647 < o := by omega
  have H := hide h
  have HA := hide ha
  obtain ⟨ao, ca, rfl, q1, q2⟩ := h.row.form
  have hlen := hk.srt.len
  have hW : Hid (At TI (w.alloc (.cells #[.int .i64 n, .int .i64 o] 147)) b x (.slice ao x.l.length ca)) := h.below (box_below _ _)
  have KS : Hid (∀ q : World, Below (w.alloc (.cells #[.int .i64 n, .int .i64 o] 147)).heap.size (w.alloc (.cells #[.int .i64 n, .int .i64 o] 147)) q → Beh w q b w.heap.size x (.slice ao x.l.length ca) n o) := fun q hq => by
   have hh := hq.block w.heap.size (by simp)
   rw [heap_alloc_new] at hh
   obtain ⟨y0, y1, _, _⟩ := two_cells hh
   exact ⟨hW.out.below hq, y0, y1, keepF (box_below _ _) hq⟩
  clear ha h
  obtain ⟨z, hz⟩ : ∃ z, Hid (z = decide (x.l ≠ [] ∧ ¬ (n - 1 = x.la.1 ∧ x.la.2 < o))) := ⟨_, rfl⟩
  have fbv : Hid ((Value.slice ao x.l.length ca).ownBlock ≠ some w.heap.size) := fun e => by have := H.out.row.lt _ e; omega
  obtain ⟨N, hN⟩ : ∃ N, Hid (x.l.length = N) := ⟨_, rfl⟩
  rw [hN.out] at H hlen hW KS c1 q2 fbv ⊢
  have hS0 := KS.out _ (Below.refl _ _)
  go_enter Tryz.func124, Tryz.ntmps124
  go_wp2_with fail
  generalize hw1 : w.alloc (.cells #[.int .i64 n, .int .i64 o] 147) = w1 at *
  clear hw1 c0 c1 c2 c3
  obtain ⟨d0, d1, d2, d3⟩ := hS0.1.cells
  obtain ⟨_, f0, f1, _⟩ := hS0
  go_cut [46] from 32 to 45 (fun y wx => y = .bool z ∧ Hid (Beh w wx b w.heap.size x (.slice ao N ca) n o))
  case first =>
   by_cases hl : x.l = []
   ·have hlz : N = 0 := by rw [← hN.out, hl]; rfl
    have hz' : Hid (z = false) := by show _ = _; rw [hz.out]; simp [hl]
    subst hlz
    go_quiet (fail)
    go_wp2_with fail
    go_meet
    case rel => exact ⟨by rw [hz'.out], KS.out _ (Qt.below ⟨_, rfl⟩ _)⟩
   ·have hnp : 0 < N := by rw [← hN.out]; exact List.length_pos_iff.2 hl
    have hni : (0 : Int) < (N : Int) := by omega
    have hz' : Hid ((!decide (n - 1 = x.la.1 ∧ x.la.2 < o)) = z) := by
     show _ = _
     rw [hz.out]
     by_cases q : (n - 1 = x.la.1 ∧ x.la.2 < o) <;> simp [hl, q]
    have KC : Hid (∀ q : World, Below w1.heap.size w1 q → Below w1.heap.size w1 q ∧ q.cell? ⟨b, 1, none⟩ = some (.slice ao N ca) ∧ q.cell? ⟨b, 2, none⟩ = some (.int .i64 x.la.1) ∧ q.cell? ⟨b, 3, none⟩ = some (.int .i64 x.la.2) ∧ q.cell? ⟨w.heap.size, 0, none⟩ = some (.int .i64 n) ∧ q.cell? ⟨w.heap.size, 1, none⟩ = some (.int .i64 o)) := fun q hq => by
     obtain ⟨a, b, c, _⟩ := KS.out q hq
     exact ⟨hq, a.cells.2.1, a.cells.2.2.1, a.cells.2.2.2, b, c⟩
    have hS1 := KC.out w1.drew (Below.refl _ _).drew
    obtain ⟨fv, hfv⟩ : ∃ fv, Hid (decide (n - 1 = x.la.1 ∧ x.la.2 < o) = fv) := ⟨_, rfl⟩
    rw [hfv.out] at hz'
    generalize x.la.1 = p1 at *
    generalize x.la.2 = p2 at *
    clear d0 d1 d2 d3 f0 f1
    go_region_held3 (fun q => Below w1.heap.size w1 q ∧ q.cell? ⟨b, 1, none⟩ = some (.slice ao N ca) ∧ q.cell? ⟨b, 2, none⟩ = some (.int .i64 p1) ∧ q.cell? ⟨b, 3, none⟩ = some (.int .i64 p2) ∧ q.cell? ⟨w.heap.size, 0, none⟩ = some (.int .i64 n) ∧ q.cell? ⟨w.heap.size, 1, none⟩ = some (.int .i64 o))
     (first | exact hS1 | assumption | exact KC.out _ KP | exact KC.out _ (Below.drew KP) | fail)
     (first
      | (go_at_call 167; refine (follows_any _ p1 p2 n o (by omega) n1).mono ?_; rintro e u1 ⟨rfl, B4⟩; rw [hfv.out]; have KP := keepF (And.left (by assumption)) B4)
      | fail)
    all_goals
     go_wp2_with fail
     go_meet
     case rel => exact ⟨by rw [← hz'.out], KS.out _ (And.left (by assumption))⟩
  case rest =>
   obtain ⟨rfl, hbh⟩ := hcut
   clear d0 d1 d2 d3 f0 f1 KS hW
   by_cases hzt : x.l ≠ [] ∧ ¬ (n - 1 = x.la.1 ∧ x.la.2 < o)
   ·have hA : Hid (addF x n o = (63, x)) := by show _ = _; rw [addF, if_neg HA.out, if_pos hzt]
    obtain rfl : z = true := by rw [hz.out]; exact decide_eq_true hzt
    have hF : Hid (At TI wc b x (.slice ao N ca) ∧ Below w.heap.size w wc) := ⟨hbh.out.1, hbh.out.2.2.2⟩
    go_wp2_with fail
    go_ret
    rw [hA.out]
    exact ⟨rfl, _, hF.out.1, But.of_below hF.out.2 _, fun k hk => .inl hk⟩
   ·have hA : Hid (addF x n o = (0, ⟨x.st, if x.l = [] ∨ (x.st : Int) ≤ o - (lastE x.l).2 then x.l ++ [(n, o)] else x.l, (n, o)⟩)) := by show _ = _; rw [addF, if_neg HA.out, if_neg hzt]
    obtain rfl : z = false := by rw [hz.out]; exact decide_eq_false hzt
    clear hzt hz
    go_wp2_with fail
    refine (far_any wc b x _ o hbh.out.1 hk (by omega) (by omega)).mono ?_
    rintro e w2 ⟨rfl, hq⟩
    have hb2 : Hid (Beh w w2 b w.heap.size x (.slice ao N ca) n o) := by
     obtain ⟨a1, a2, a3, a4⟩ := hbh.out
     have hqb := hq.below wc.heap.size
     exact ⟨a1.below hqb, by rw [hqb.cell (lt_of_cell a2)]; exact a2, by rw [hqb.cell (lt_of_cell a3)]; exact a3, keepF a4 hqb⟩
    clear hq hbh
    obtain ⟨d0, d1, d2, d3⟩ := hb2.out.1.cells
    obtain ⟨e0, e1, e2, e3⟩ := hb2.out.1.frozen
    obtain ⟨f0, f1, hB2⟩ := hb2.out.2
    replace hB2 := hide hB2
    by_cases hf : x.l = [] ∨ (x.st : Int) ≤ o - (lastE x.l).2
    ·rw [if_pos hf] at hA
     have hff : farF x o = true := by simpa [farF] using hf
     rw [hff]
     clear hf hff
     obtain ⟨i0, hi, hz0, hz1, hz2⟩ := info_parts infoEnt
     have ROW : Hid (w2.ownsRow 0 147 2 (.slice ao N ca) N (ecells x.l)) := by have := hb2.out.1.row; unfold Ents at this; rw [hN.out] at this; exact this
     have hszf : w.heap.size < w2.heap.size := lt_of_cell f0
     have hbl2 : b < w2.heap.size := lt_of_cell d0
     go_wp2_with fail
     go_region_law (first | (refine step_append_lies _ rfl (.tmp 54) (.tmp 56) 229 rfl 0 147 i0 (.agg #[.int .i64 0, .int .i64 0]) 2 16 Tryz.underlying229 hi hz0 hz1 hz2 rfl (by decide) (.slice ao N ca) N (ecells x.l) (by simp [Act.eval]) (ROW.out.alloc _) ⟨w2.heap.size, 0, none⟩ 1 1 [.int .i64 n, .int .i64 o] (by simp [Act.eval]) rfl (two_newE _ _ _ _) (by simp [Value.oneCell']) (by decide) (by unfold maxLen; omega) (by omega) (Nat.zero_le _) (w2.heap.size + 1) (by simp) ?_; intro g2 cap2 w3 hown3 hgrow3 hat hlt3; obtain ⟨F1, F2, F3, F4⟩ := At.app hb2.out.1 (by decide) (by first | exact (box_below w2 _).drew | exact (box_below w2.drew _) | exact box_below w2 _) hgrow3 (by rw [hN.out]; exact hown3) (hat_of hat (by omega)); have cc3 := (show w3.cell? ⟨b, 1, none⟩ = some (.slice ao N ca) by simp [World.cell?, F1]); have ff3 := (show w3.frozen? ⟨b, 1, none⟩ = false by simp [World.frozen?, F1])))
     all_goals
      have hbl : b < w.heap.size := H.out.lt b (.inl rfl)
      have y0 : w3.cell? ⟨w.heap.size, 0, none⟩ = some (.int .i64 n) := by
       rw [hgrow3.cell_far ⟨w.heap.size, 0, none⟩ (by simp; omega) (fun e => fbv.out e.symm), Below.cell (by first | exact (box_below w2 _).drew | exact (box_below w2.drew _) | exact box_below w2 _) (by simpa using hszf)]
       exact f0
      have y1 : w3.cell? ⟨w.heap.size, 1, none⟩ = some (.int .i64 o) := by
       rw [hgrow3.cell_far ⟨w.heap.size, 1, none⟩ (by simp; omega) (fun e => fbv.out e.symm), Below.cell (by first | exact (box_below w2 _).drew | exact (box_below w2.drew _) | exact box_below w2 _) (by simpa using hszf)]
       exact f1
      have z0 := (grown_setCell w3 b 1 (.slice (some ⟨g2, 0, none⟩) (N + 1) cap2)).cell y0 (by simp; omega)
      have z1 := (grown_setCell w3 b 1 (.slice (some ⟨g2, 0, none⟩) (N + 1) cap2)).cell y1 (by simp; omega)
      clear d0 d1 d2 d3 e0 e1 e2 e3 f0 f1 y0 y1 cc3 ff3 F1 hown3 hgrow3 hat hlt3 ROW hszf hbl2
      replace F3 := hide F3
      replace F4 := hide F4
      generalize w3.setCell ⟨b, 1, none⟩ (.slice (some ⟨g2, 0, none⟩) (N + 1) cap2) = w4 at *
      obtain ⟨d0, d1, d2, d3⟩ := F2.cells
      obtain ⟨e0, e1, e2, e3⟩ := F2.frozen
      replace F2 := hide F2
      go_wp2_with fail
      go_ret
      rw [hA.out]
      exact ⟨rfl, _, F2.out.setLa (by decide) n o, ((But.of_below hB2.out _).trans F3.out).trans (but_la _ _ _ _ _), fun k hk => (F4.out k hk).imp id fun h => Nat.le_trans hB2.out.size h⟩
    ·rw [if_neg hf] at hA
     have hff : farF x o = false := by simpa [farF] using hf
     rw [hff]
     clear hf hff
     go_wp2_with fail
     go_ret
     rw [hA.out]
     exact ⟨rfl, _, hb2.out.1.setLa (by decide) n o, (But.of_below hB2.out _).trans (but_la _ _ _ _ _), fun k hk => .inl hk⟩
end Go.Proofs.YtpflaglfnkmjiaaGreat.Ix
namespace Go.Proofs.YtpflaglfnkmjiaaGreat.Ix
open Go
variable {P : Program} {ops : Array Oper} {Q : Exit → Act → World → Prop} {md : Region.Mode} {S : World → Prop} {d : Nat}
def pathB (md : Region.Mode) (ops : Array Oper) : Nat → List Nat → Bool
 | _, [] => true
 | p, m :: r => (match ops[m]? with | some o => o.after.any fun e => Region.binds md e && e.on == p | none => false) && pathB md ops m r
theorem not_ready {listed : Array Bool} : ∀ (ms : List Nat) (p : Nat), pathB md ops p ms = true → listed.getD p false = false → (∀ m ∈ ms, listed.getD m true = false) → ∀ m ∈ ms, m ∉ Region.ready md ops listed := by
 intro ms
 induction ms with
 | nil => intro p _ _ _ m hm; cases hm
 | cons a r ih =>
  intro p hp hl hu m hm
  rw [pathB, Bool.and_eq_true] at hp
  obtain ⟨h1, h2⟩ := hp
  have ha : a ∉ Region.ready md ops listed := fun hr => by
   obtain ⟨_, o, ho, hall⟩ := mem_ready.1 hr
   rw [ho] at h1
   simp only [Array.any_eq_true] at h1
   obtain ⟨i, hi, he⟩ := h1
   rw [Bool.and_eq_true] at he
   have := hall _ (Array.getElem_mem hi) he.1
   rw [show (o.after[i]).on = p by simpa using he.2, hl] at this
   cases this
  rcases List.mem_cons.1 hm with rfl | hm
  ·exact ha
  ·have hla : listed.getD a false = false := by
     have := hu a (by simp)
     by_cases hs : a < listed.size
     ·simp [Array.getD, hs] at this ⊢; exact this
     ·simp [Array.getD, hs]
   exact ih a h2 hla (fun m hm => hu m (by simp [hm])) m hm
def wpAnyT (P : Program) (md : Region.Mode) (ops : Array Oper) (Q : Exit → Act → World → Prop) (S : World → Prop) (d : Nat) : Nat → Array Bool → Act → World → Prop
 | 0, listed, a, w => Region.ready md ops listed = [] ∧ Q .normal a w
 | fuel + 1, listed, a, w =>
  (Region.ready md ops listed = [] → Q .normal a w) ∧
  ∀ i ∈ Region.ready md ops listed, wpOp P ops Q i (fun a' w' => ((listed.setIfInBounds i true).getD d false = false → S w') ∧ wpAnyT P md ops Q S d fuel (listed.setIfInBounds i true) a' w') a w
theorem wpAny_of_T : ∀ (fuel : Nat) (listed : Array Bool) (a : Act) (w : World), wpAnyT P md ops Q S d fuel listed a w → wpAny P md ops Q fuel listed a w
 | 0, _, _, _, h => h
 | fuel + 1, _, _, _, h => ⟨h.1, fun i hi => wpOp_mono (fun a' w' h' => wpAny_of_T fuel _ a' w' h'.2) (h.2 i hi)⟩
theorem getD_false {listed : Array Bool} {m : Nat} (h : listed.getD m true = false) : listed.getD m false = false := by
 by_cases hs : m < listed.size
 ·simp [Array.getD, hs] at h ⊢; exact h
 ·simp [Array.getD, hs]
theorem vac {b : Bool} {p : Prop} (hb : b = true) : b = false → p := fun h => by rw [hb] at h; cases h
theorem getD_unlisted {listed : Array Bool} {j m : Nat} (h : listed.getD m true = false) (hne : j ≠ m) : (listed.setIfInBounds j true).getD m true = false := by
 rw [getD_set_ne true hne]; exact h
theorem wpAnyT_first {i : Nat} {oi : Oper} {v : Value} {ms : List Nat} (hi : ops[i]? = some oi) (hsel : ∀ (j : Nat) (o : Oper) cs b, ops[j]? = some o → o.op ≠ .select cs b)
    (hQ : ∀ c a w, Q (.panic c) (a.put oi.dst v) w → Q (.panic c) a w) (hpath : pathB md ops i ms = true) (hdm : d ∈ ms) :
    ∀ (fuel : Nat) (listed : Array Bool) (a : Act) (w : World),
     (∀ j oj, ops[j]? = some oj → j ≠ i → listed.getD j true = false → (∀ e ∈ oj.after, Region.binds md e = true → e.on ≠ i) → oi.apart ops oj = true) →
     i ∈ Region.ready md ops listed → (∀ m ∈ ms, listed.getD m true = false) → YieldsIf P ops S oi v a → S w →
     wpAnyT P md ops Q S d fuel (listed.setIfInBounds i true) (a.put oi.dst v) w → wpAnyT P md ops Q S d (fuel + 1) listed a w := by
 intro fuel
 induction fuel with
 | zero =>
  intro listed a w _ hr _ hy hS H
  refine ⟨fun h => (by rw [h] at hr; cases hr), fun j hj => ?_⟩
  by_cases hji : j = i
  ·subst hji; exact hy.wpOp hi hS ⟨fun _ => hS, H⟩
  ·have := ready_mono hj hji
   rw [H.1] at this
   cases this
 | succ fuel ih =>
  intro listed a w hfree hr hms hy hS H
  refine ⟨fun h => (by rw [h] at hr; cases hr), fun j hj => ?_⟩
  by_cases hji : j = i
  ·subst hji; exact hy.wpOp hi hS ⟨fun _ => hS, H⟩
  ·have hil : listed.getD i false = false := by
     have := (mem_ready.1 hr).1
     by_cases hs : i < listed.size
     ·simp [Array.getD, hs] at this ⊢; exact this
     ·simp [Array.getD, hs]
   have hnm : j ∉ ms := fun h => not_ready ms i hpath hil hms j h hj
   have hjd : j ≠ d := fun e => hnm (by rw [e]; exact hdm)
   have hid : i ≠ d := fun e => not_ready ms i hpath hil hms d hdm (by rw [← e]; exact hr)
   have hdj : ((listed.setIfInBounds i true).setIfInBounds j true).getD d false = false := getD_false (getD_unlisted (getD_unlisted (hms d hdm) hid) hjd)
   have h1 := H.2 j (ready_mono hj hji)
   obtain ⟨hjun, oj, hoj, hall⟩ := mem_ready.1 hj
   have hnot : ∀ e ∈ oj.after, Region.binds md e = true → e.on ≠ i := fun e he hb heq => by
    have h1 := hall e he hb
    rw [heq, hil] at h1
    cases h1
   have h2 := wpOp_putIf hoj (hfree j oj hoj hji hjun hnot) (fun cs b => hsel i oi cs b hi) (fun cs b => hsel j oj cs b hoj) hQ hy h1
   have hfree' : ∀ k ok, ops[k]? = some ok → k ≠ i → (listed.setIfInBounds j true).getD k true = false →
       (∀ e ∈ ok.after, Region.binds md e = true → e.on ≠ i) → oi.apart ops ok = true := fun k ok hk hki hun hno => by
    refine hfree k ok hk hki ?_ hno
    by_cases hjk : j = k
    ·subst hjk; exact hjun
    ·rw [getD_set_ne true hjk] at hun; exact hun
   refine wpOp_mono (fun a' w' h3 => ⟨fun _ => h3.2.1 hdj, ih (listed.setIfInBounds j true) a' w' hfree' (ready_mono hr (Ne.symm hji)) (fun m hm => getD_unlisted (hms m hm) (fun e => hnm (by rw [e]; exact hm))) h3.1 (h3.2.1 hdj) ?_⟩) h2
   rw [Array.setIfInBounds_comm _ _ hji]
   exact h3.2.2
theorem wpAnyT_take {i : Nat} {oi : Oper} {v : Value} (ms : List Nat) {fuel : Nat} {listed : Array Bool} {a : Act} {w : World} (hi : ops[i]? = some oi)
    (hs : Region.noSelect ops = true) (hf : Region.free md ops listed i = true) (hr : (Region.ready md ops listed).contains i = true)
    (hp : (pathB md ops i ms && ms.contains d && ms.all fun m => listed.getD m true == false) = true)
    (hQ : ∀ c a w, Q (.panic c) (a.put oi.dst v) w → Q (.panic c) a w) (hy : YieldsIf P ops S oi v a) (hS : S w)
    (h : wpAnyT P md ops Q S d fuel (listed.setIfInBounds i true) (a.put oi.dst v) w) : wpAnyT P md ops Q S d (fuel + 1) listed a w := by
 simp only [Bool.and_eq_true, List.all_eq_true] at hp
 exact wpAnyT_first hi (Region.noSelect_spec hs) hQ hp.1.1 (by simpa using hp.1.2) fuel listed a w (Region.free_spec hi hf) (by simpa using hr) (fun m hm => by simpa using hp.2 m hm) hy hS h
theorem wpAnyT_one {i : Nat} {o : Oper} {fuel : Nat} {listed : Array Bool} {a : Act} {w : World} (hr : Region.ready md ops listed = [i]) (ho : ops[i]? = some o)
    (h : ∀ K' : Act → World → Prop, Shut (∀ a w, ((listed.setIfInBounds i true).getD d false = false → S w) → wpAnyT P md ops Q S d fuel (listed.setIfInBounds i true) a w → K' a w) → if Region.wanted o (yielded ops a.tmps) = true then Oper.wp P o a w K' Q else K' (a.put o.dst undef) w) :
    wpAnyT P md ops Q S d (fuel + 1) listed a w := by
 refine ⟨fun h0 => (by rw [h0] at hr; cases hr), fun j hj => ?_⟩
 rw [hr, List.mem_singleton] at hj
 subst hj
 exact wpOp_step ho (fun K' hK => h K' (fun a w hS hW => hK a w ⟨hS, hW⟩))
theorem _root_.Go.Proofs.YtpflaglfnkmjiaaGreat.zzp (l : List Value) (d : List Deferred) (t : Nat) (v : Value) : (Act.mk l.toArray d).put (some t) v = Act.mk (l.set t v).toArray d := by simp [Act.put]
theorem _root_.Go.Proofs.YtpflaglfnkmjiaaGreat.zzq (a : Act) (v : Value) : a.put none v = a := rfl
theorem _root_.Go.Proofs.YtpflaglfnkmjiaaGreat.zzb {α : Type} (a b : α) (l : List α) : (a :: l).set 0 b = b :: l := rfl
theorem _root_.Go.Proofs.YtpflaglfnkmjiaaGreat.zzc {α : Type} (a b : α) (l : List α) (n : Nat) : (a :: l).set (n + 1) b = a :: l.set n b := rfl
theorem tk (i : Nat) (oi : Oper) (v : Value) (ms : List Nat) {fuel : Nat} {listed : Array Bool} {a : Act} {w : World} (hy : ∀ w, S w → (execOp a.eval oi).run P w = .ok (.value v) w) (hS : S w)
    (h : wpAnyT P md ops Q S d fuel (listed.setIfInBounds i true) (a.put oi.dst v) w) (hi : ops[i]? = some oi := by rfl) (hw : Region.wanted oi (yielded ops a.tmps) = true := by rfl)
    (hs : Region.noSelect ops = true := by kernel_rfl) (hf : Region.free md ops listed i = true := by kernel_rfl) (hr : (Region.ready md ops listed).contains i = true := by kernel_rfl)
    (hp : (pathB md ops i ms && ms.contains d && ms.all fun m => listed.getD m true == false) = true := by kernel_rfl) (hQ : ∀ c a w, Q (.panic c) (a.put oi.dst v) w → Q (.panic c) a w := by exact fun _ _ _ h => h) :
    wpAnyT P md ops Q S d (fuel + 1) listed a w := wpAnyT_take ms hi hs hf hr hp hQ (.inl ⟨hw, hy⟩) hS h
theorem wpAnyT_done {listed : Array Bool} {a : Act} {w : World} (hr : Region.ready md ops listed = []) (h : Q .normal a w) : ∀ fuel, wpAnyT P md ops Q S d fuel listed a w
 | 0 => ⟨hr, h⟩
 | _ + 1 => ⟨fun _ => h, by rw [hr]; simp⟩
theorem wp_region_T {id : Nat} {a : Act} {w : World} (S : World → Prop) (d : Nat) (hm : P.follows .mixedOrders = true)
    (h : wpAnyT P .any ops Q S d ops.size (Array.replicate ops.size false) a w.drew) : (Code.region id ops true).wp P Q a w :=
 wp_region_any hm (wpAny_of_T _ _ _ _ h)
end Go.Proofs.YtpflaglfnkmjiaaGreat.Ix
namespace Go.Proofs.YtpflaglfnkmjiaaGreat.Dk
open Go.RowKit Go.Maps Go.Proofs.YtpflaglfnkmjiaaGreat.Nm
structure Sb (w u : World) (b rb : Nat) (cs : Array Value) (am : Option Nat) (al : Ar) (f : Ft) : Prop where
 box : u.heap[b]? = some (.cells cs TD (0, 0))
 ans : u.heap[rb]? = some (.cells #[.int .i64 f.1, .int .i64 f.2.1, .int .i64 f.2.2] 118 (0, 0))
 arm : ∀ m, am = some m → Am u m al
 but : But (fun k => k = b ∨ am = some k) w u
 lo : w.heap.size ≤ rb
theorem Sb.ne {w u : World} {b rb : Nat} {cs : Array Value} {am : Option Nat} {al : Ar} {f : Ft} (h : Sb w u b rb cs am al f) : b ≠ rb := by
 intro e
 have h1 := h.box
 rw [e, h.ans] at h1
 simp [TD] at h1
theorem Am.setCell {u : World} {m : Nat} {al : Ar} (h : Am u m al) {b j : Nat} {v : Value} (hb : b ≠ m) : Am (u.setCell ⟨b, j, none⟩ v) m al := h.heap ((grown_setCell u b j v).block m h.lt (by simpa using fun e => hb e.symm))
theorem Am.ne {u : World} {m b : Nat} {al : Ar} {cs : Array Value} {T : TypeId} {z : Nat × Nat} (h : Am u m al) (hb : u.heap[b]? = some (.cells cs T z)) : b ≠ m := by
 rintro rfl
 obtain ⟨es, clock, h, _⟩ := h
 rw [hb] at h
 cases h
theorem Sb.set {w u : World} {b rb : Nat} {cs : Array Value} {am : Option Nat} {al : Ar} {f : Ft} (h : Sb w u b rb cs am al f) (j : Nat) (v : Value) : Sb w (u.setCell ⟨b, j, none⟩ v) b rb (cs.setIfInBounds j v) am al f := by
 have g := grown_setCell u b j v
 refine ⟨heap_setCell_same _ _ _ _ _ _ h.box, ?_, fun m e => ((h.arm m e)).setCell ((h.arm m e).ne h.box), h.but.trans (But.of_grownBy g fun k e => by cases e; exact .inl rfl), h.lo⟩
 rw [g.block rb (heap_lt h.ans) (by simpa using fun e => h.ne e.symm)]
 exact h.ans
theorem Sb.start {w : World} {b : Nat} {cs : Array Value} {am : Option Nat} {al : Ar} (hb : w.heap[b]? = some (.cells cs TD (0, 0))) (hm : ∀ m, am = some m → Am w m al) :
    Sb w (w.alloc (.cells #[.int .i64 0, .int .i64 0, .int .i64 0] 118)) b w.heap.size cs am al zf := by
 have hB := (Below.refl _ w).alloc (Nat.le_refl _) (.cells #[.int .i64 0, .int .i64 0, .int .i64 0] 118)
 exact ⟨(hB.block b (heap_lt hb)).trans hb, heap_alloc_new _ _, fun m e => (hm m e).heap (hB.block m (hm m e).lt), But.of_below hB _, Nat.le_refl _⟩
theorem Sb.more {w u u' : World} {b rb : Nat} {cs : Array Value} {am : Option Nat} {al : Ar} {f : Ft} (h : Sb w u b rb cs am al f) (hB : Below u.heap.size u u') : Sb w u' b rb cs am al f :=
 ⟨(hB.block b (heap_lt h.box)).trans h.box, (hB.block rb (heap_lt h.ans)).trans h.ans, fun m e => (h.arm m e).heap (hB.block m (h.arm m e).lt), h.but.trans (But.of_below hB _), h.lo⟩
theorem Sb.cell {w u : World} {b rb : Nat} {cs : Array Value} {am : Option Nat} {al : Ar} {f : Ft} (h : Sb w u b rb cs am al f) (i : Nat) : u.cell? ⟨b, i, none⟩ = cs[i]? := by simp [World.cell?, h.box]
theorem Sb.frozen {w u : World} {b rb : Nat} {cs : Array Value} {am : Option Nat} {al : Ar} {f : Ft} (h : Sb w u b rb cs am al f) (i : Nat) : u.frozen? ⟨b, i, none⟩ = false := by simp [World.frozen?, h.box]
theorem Sb.put {w u : World} {b rb : Nat} {cs : Array Value} {am : Option Nat} {al : Ar} {g : Ft} (h : Sb w u b rb cs am al g) (f : Ft) :
    Sb w (((u.setCell ⟨rb, 0, none⟩ (.int .i64 f.1)).setCell ⟨rb, 1, none⟩ (.int .i64 f.2.1)).setCell ⟨rb, 2, none⟩ (.int .i64 f.2.2)) b rb cs am al f := by
 have g0 := grown_setCell u rb 0 (.int .i64 f.1)
 have g1 := grown_setCell (u.setCell ⟨rb, 0, none⟩ (.int .i64 f.1)) rb 1 (.int .i64 f.2.1)
 have g2 := grown_setCell ((u.setCell ⟨rb, 0, none⟩ (.int .i64 f.1)).setCell ⟨rb, 1, none⟩ (.int .i64 f.2.1)) rb 2 (.int .i64 f.2.2)
 have B := ((But.of_grownBy (X := fun k => k = rb) g0 fun k e => by cases e; rfl).trans (But.of_grownBy g1 fun k e => by cases e; rfl)).trans (But.of_grownBy g2 fun k e => by cases e; rfl)
 have z0 := heap_setCell_same u rb 0 _ _ (.int .i64 f.1) h.ans
 have z1 := heap_setCell_same _ rb 1 _ _ (.int .i64 f.2.1) z0
 have z2 := heap_setCell_same _ rb 2 _ _ (.int .i64 f.2.2) z1
 refine ⟨B.at h.box h.ne, by simpa using z2, fun m e => (h.arm m e).heap (B.block m (h.arm m e).lt (fun q => (h.arm m e).ne h.ans q.symm)), ?_, h.lo⟩
 have lo := h.lo
 exact ⟨B.os.trans h.but.os, B.tape.trans h.but.tape, B.output.trans h.but.output, Nat.le_trans h.but.size B.size, fun k hk hx => (B.block k (Nat.lt_of_lt_of_le hk h.but.size) (by omega)).trans (h.but.block k hk hx)⟩
theorem cells3 {w : World} {b : Nat} {a0 a1 a2 : Value} {T : TypeId} {z : Nat × Nat} (h : w.heap[b]? = some (.cells #[a0, a1, a2] T z)) : w.cell? ⟨b, 0, none⟩ = some a0 ∧ w.cell? ⟨b, 1, none⟩ = some a1 ∧ w.cell? ⟨b, 2, none⟩ = some a2 := by simp [World.cell?, h]
theorem frozen3 {w : World} {b : Nat} {a0 a1 a2 : Value} {T : TypeId} (h : w.heap[b]? = some (.cells #[a0, a1, a2] T (0, 0))) : w.frozen? ⟨b, 0, none⟩ = false ∧ w.frozen? ⟨b, 1, none⟩ = false ∧ w.frozen? ⟨b, 2, none⟩ = false := by simp [World.frozen?, h]
theorem begin_gen (w : World) (b j : Nat) (cs : Array Value) (c a : Int) (am : Option Nat) (al : Ar) (hb : w.heap[b]? = some (.cells cs TD (0, 0))) (hz : cs.size = 15) (hj : j < 7)
    (h1 : cs[6 + j]? = some (.int .i64 c)) (h2 : cs[13]? = some (.int .i64 a)) (h3 : cs[5]? = some (.map am)) (hm : ∀ m, am = some m → Am w m al) (hn : am = none → al = [])
    (c0 : 0 ≤ c) (c1 : c < 4611686018427387904) (a0 : 0 ≤ a) (a1 : a < 4611686018427387904) :
    Calls Tryz.prog 54 #[.pointer (some ⟨b, 0, none⟩), .pointer (some ⟨b, 6 + j, none⟩)] w fun e w' => e = .returned (fv ((aget al (a + 1)).getD zf)) ∧
     w'.heap[b]? = some (.cells ((cs.setIfInBounds (6 + j) (.int .i64 (c + 1))).setIfInBounds 13 (.int .i64 (a + 1))) TD (0, 0)) ∧ (∀ m, am = some m → Am w' m (adel al (a + 1))) ∧ But (fun k => k = b ∨ am = some k) w w' := by
 obtain ⟨f, hf⟩ : ∃ f, Hid ((aget al (a + 1)).getD zf = f) := ⟨_, rfl⟩
 rw [hf.out]
 have S0 := hide (Sb.start (am := am) hb hm)
 obtain ⟨u0, hu0⟩ : ∃ u0, Hid (w.alloc (.cells #[.int .i64 0, .int .i64 0, .int .i64 0] 118) = u0) := ⟨_, rfl⟩
 rw [hu0.out] at S0
 have k1 : u0.cell? ⟨b, 6 + j, none⟩ = some (.int .i64 c) := (S0.out.cell _).trans h1
 have k2 := S0.out.frozen (6 + j)
 replace hm := hide hm
 replace hb := hide hb
 replace hn := hide hn
 clear h1
 go_enter Tryz.func54, Tryz.ntmps54
 go_upto_region 1 with fail
 rw [hu0.out]
 go_upto_region 2 with fail
 have S1 := hide (S0.out.set (6 + j) (.int .i64 (c + 1)))
 generalize u0.setCell ⟨b, 6 + j, none⟩ (.int .i64 (c + 1)) = u1 at *
 obtain ⟨cs1, hc1⟩ : ∃ cs1, Hid (cs.setIfInBounds (6 + j) (.int .i64 (c + 1)) = cs1) := ⟨_, rfl⟩
 rw [hc1.out] at S1
 have g2 : cs1[13]? = some (.int .i64 a) := by rw [← hc1.out, Array.getElem?_setIfInBounds_ne (by omega)]; exact h2
 have g3 : cs1[5]? = some (.map am) := by rw [← hc1.out, Array.getElem?_setIfInBounds_ne (by omega)]; exact h3
 have g4 : cs1.size = 15 := by rw [← hc1.out]; simpa using hz
 have l1 : u1.cell? ⟨b, 13, none⟩ = some (.int .i64 a) := (S1.out.cell _).trans g2
 have l2 := S1.out.frozen 13
 clear k1 k2 S0 hu0 h2 h3 hz
 go_upto_region 3 with fail
 have S2 := hide (S1.out.set 13 (.int .i64 (a + 1)))
 generalize u1.setCell ⟨b, 13, none⟩ (.int .i64 (a + 1)) = u2 at *
 obtain ⟨cs2, hc2⟩ : ∃ cs2, Hid (cs1.setIfInBounds 13 (.int .i64 (a + 1)) = cs2) := ⟨_, rfl⟩
 rw [hc2.out] at S2
 have g5 : cs2[13]? = some (.int .i64 (a + 1)) := by rw [← hc2.out, Array.getElem?_setIfInBounds_self_of_lt (by omega)]
 have g6 : cs2[5]? = some (.map am) := by rw [← hc2.out, Array.getElem?_setIfInBounds_ne (by omega)]; exact g3
 have m1 : u2.cell? ⟨b, 13, none⟩ = some (.int .i64 (a + 1)) := (S2.out.cell _).trans g5
 have m2 : u2.cell? ⟨b, 5, none⟩ = some (.map am) := (S2.out.cell _).trans g6
 clear l1 l2 S1 g2 g3 g4
 have hG : ∀ q : World, (∀ m, am = some m → Am q m al) → (Instr.lookup 82 (.map am) (.int .i64 (a + 1)) false).run Tryz.prog q = .ok (.agg #[.int .i64 f.1, .int .i64 f.2.1, .int .i64 f.2.2]) q := by
  intro q hq
  cases am with
  | none => have := look_nilA q (n := a + 1) (by omega) (by omega); have hq := hf.out; rw [hn.out rfl] at hq; simp [aget] at hq; rw [← hq]; exact this
  | some m => have := (hq m rfl).look (n := a + 1) (by omega) (by omega); rw [hf.out] at this; exact this
 have L1 := hG u2.drew fun m e => S2.out.arm m e
 have L2 := hG (u2.alloc (.cells #[.int .i64 0, .int .i64 0, .int .i64 0] 118)).drew fun m e => (S2.out.arm m e).heap (by show (u2.alloc _).heap[m]? = _; exact Below.heap_alloc _ _ _ (S2.out.arm m e).lt)
 have n1 : (u2.alloc (.cells #[.int .i64 0, .int .i64 0, .int .i64 0] 118)).cell? ⟨b, 13, none⟩ = some (.int .i64 (a + 1)) := by rw [((Below.refl _ u2).alloc (Nat.le_refl _) _).cell (p := ⟨b, 13, none⟩) (lt_of_cell m1)]; exact m1
 have n2 : (u2.alloc (.cells #[.int .i64 0, .int .i64 0, .int .i64 0] 118)).cell? ⟨b, 5, none⟩ = some (.map am) := by rw [((Below.refl _ u2).alloc (Nat.le_refl _) _).cell (p := ⟨b, 5, none⟩) (lt_of_cell m2)]; exact m2
 replace hG := hide hG
 go_upto_region 3 with fail
 go_region
 all_goals
  have S3 : Hid (Sb w (u2.alloc (.cells #[.int .i64 f.1, .int .i64 f.2.1, .int .i64 f.2.2] 118)).drew b w.heap.size cs2 am al zf) := S2.out.more (((Below.refl _ u2).alloc (Nat.le_refl _) _).drew)
  have F3 : Hid ((u2.alloc (.cells #[.int .i64 f.1, .int .i64 f.2.1, .int .i64 f.2.2] 118)).drew.heap[u2.heap.size]? = some (.cells #[.int .i64 f.1, .int .i64 f.2.1, .int .i64 f.2.2] 118 (0, 0))) := heap_alloc_new u2 _
  have Z3 : Hid (w.heap.size < u2.heap.size) := heap_lt S2.out.ans
  generalize (u2.alloc (.cells #[.int .i64 f.1, .int .i64 f.2.1, .int .i64 f.2.2] 118)).drew = u3 at *
  have m3 : u3.cell? ⟨b, 13, none⟩ = some (.int .i64 (a + 1)) := (S3.out.cell _).trans g5
  have m4 : u3.cell? ⟨b, 5, none⟩ = some (.map am) := (S3.out.cell _).trans g6
  clear L1 L2 n1 n2 m1 m2 hG S2 g5 g6
  obtain ⟨u4, hD, S4, F4⟩ : ∃ u4, (Builtin.delete_ #[82, 2] 0 #[.map am, .int .i64 (a + 1)]).run Tryz.prog u3.drew = .ok (.tuple #[]) u4 ∧ Hid (Sb w u4 b w.heap.size cs2 am (adel al (a + 1)) zf) ∧ Hid (u4.heap[u2.heap.size]? = some (.cells #[.int .i64 f.1, .int .i64 f.2.1, .int .i64 f.2.2] 118 (0, 0))) := by
   cases am with
   | none => exact ⟨u3.drew, drop_nilA u3.drew (by omega) (by omega) 0, by have q := S3.out.more (Below.refl _ u3).drew; rw [hn.out rfl] at q ⊢; exact q, F3.out⟩
   | some m =>
    have hA : Am u3.drew m al := S3.out.arm m rfl
    obtain ⟨u4, hr, h4, ht⟩ := hA.drop (n := a + 1) (by omega) (by omega) 0
    refine ⟨u4, hr, ⟨?_, ?_, fun m' e => by cases e; exact h4, ?_, S3.out.lo⟩, ?_⟩
    ·exact (turned_but ht).at (k := b) S3.out.box ((S3.out.arm m rfl).ne S3.out.box)
    ·exact (turned_but ht).at (k := w.heap.size) S3.out.ans ((S3.out.arm m rfl).ne S3.out.ans)
    ·exact (S3.out.more (Below.refl _ u3).drew).but.trans ((turned_but ht).mono fun k _ e => .inr (by rw [e]))
    ·exact (turned_but ht).at (k := u2.heap.size) F3.out ((S3.out.arm m rfl).ne F3.out)
  go_upto_region 4 with fail
  go_region
  obtain ⟨x0, x1, x2⟩ := cells3 F4.out
  obtain ⟨y0, y1, y2⟩ := cells3 S4.out.ans
  obtain ⟨r0, r1, r2⟩ := frozen3 S4.out.ans
  go_wp2_with fail
  have S5 := hide (S4.out.put f)
  generalize ((u4.setCell ⟨w.heap.size, 0, none⟩ (.int .i64 f.1)).setCell ⟨w.heap.size, 1, none⟩ (.int .i64 f.2.1)).setCell ⟨w.heap.size, 2, none⟩ (.int .i64 f.2.2) = u5 at *
  clear x0 x1 x2 y0 y1 y2 r0 r1 r2 S4 F4
  obtain ⟨x0, x1, x2⟩ := cells3 S5.out.ans
  refine bodyPost_ret (v := fv f) (by simp [results, Tryz.results54, go_sem, x0, x1, x2]; try rfl) rfl ?_
  exact ⟨rfl, by rw [hc1.out, hc2.out]; exact S5.out.box, S5.out.arm, S5.out.but⟩
end Go.Proofs.YtpflaglfnkmjiaaGreat.Dk
