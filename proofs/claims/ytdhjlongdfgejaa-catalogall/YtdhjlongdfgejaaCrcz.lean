/-
  What crc.step, crc.times, crc.move do.
-/
import Derived.Test.YtdhjlongdfgejaaProg
import Derived.Test.YtdhjlongdfgejaaCrc0
import Derived.Deep.WholeRow
import Derived.Deep.MidRow
import Derived.Below
import Derived.Test.YtdhjlongdfgejaaGen
import Derived.Laws.ResultCell
namespace Go.Proofs.Ytdhjlongdfgejaa.Crc
open Go.RowKit

theorem lt32 (c : R) : c.toNat < 4294967296 := c.isLt
theorem b_xor (a b : R) : bits .xor .u32 (a.toNat : Int) (b.toNat : Int) = ((a ^^^ b).toNat : Int) := by
  rw [u32_xor_nat _ _ (lt32 a) (lt32 b), BitVec.toNat_xor]
theorem b_and1 (c : R) : bits .and .u32 (c.toNat : Int) 1 = if c.getLsbD 0 then 1 else 0 := by
  rw [show (1 : Int) = ((1 : Nat) : Int) from rfl, u32_and_nat _ _ (lt32 c) (by decide), Nat.and_one_is_mod]
  have h : c.getLsbD 0 = decide (c.toNat % 2 = 1) := by rw [BitVec.getLsbD, Nat.testBit_zero]
  rw [h]
  by_cases h1 : c.toNat % 2 = 1
  · rw [h1]; rfl
  · rw [if_neg (by simpa using h1)]; omega

theorem half (c : R) : (c.toNat : Int) / (2 : Int) = ((c >>> 1).toNat : Int) := by
  rw [BitVec.toNat_ushiftRight, Nat.shiftRight_eq_div_pow]; omega
theorem xor_poly (c : R) : bits .xor .u32 ((c.toNat : Int) / 2) 2197175160 = (((c >>> 1) ^^^ poly).toNat : Int) := by
  rw [half, ← b_xor]; rfl

theorem step_any (w : World) (c : R) :
    Calls Try.prog 73 #[.int .u32 (c.toNat : Int)] w fun e w' => e = .returned (.int .u32 ((s1 c).toNat : Int)) ∧ w' = w := by
  have hlt := lt32 c
  have h1 := b_and1 c
  cases hb : c.getLsbD 0 with
  | true =>
    rw [hb, if_pos rfl] at h1
    go_enter Try.func73, Try.ntmps73
    go_wp2
    go_ret
    refine ⟨?_, rfl⟩
    rw [xor_poly, s1, hb]; rfl
  | false =>
    rw [hb] at h1
    simp only [Bool.false_eq_true, if_false] at h1
    go_enter Try.func73, Try.ntmps73
    go_wp2
    go_ret
    refine ⟨?_, rfl⟩
    rw [half, s1, hb]; rfl

theorem and_pow2 (n i : Nat) : n &&& 2 ^ i = if n.testBit i then 2 ^ i else 0 := by
  apply Nat.eq_of_testBit_eq
  intro j
  rw [Nat.testBit_and, Nat.testBit_two_pow]
  by_cases h : i = j
  · subst h; cases hb : n.testBit i <;> simp
  · cases hb : n.testBit i <;> simp [h]
theorem b_andbit (a : R) (k : Nat) (hk : k < 32) : bits .and .u32 (a.toNat : Int) ((2147483648 / 2 ^ k : Nat) : Int) = if a.getLsbD (31 - k) then ((2147483648 / 2 ^ k : Nat) : Int) else 0 := by
  have e : 2147483648 / 2 ^ k = 2 ^ (31 - k) := by rw [show 2147483648 = 2 ^ 31 from rfl, Nat.pow_div (by omega) (by omega)]
  have hb : 2 ^ (31 - k) ≤ 2 ^ 31 := Nat.pow_le_pow_right (by omega) (by omega)
  rw [e, u32_and_nat _ _ (lt32 a) (by omega), and_pow2, BitVec.getLsbD]
  cases a.toNat.testBit (31 - k) <;> rfl

theorem oneByte : (8388608 : Int) = ((st (8 * 1) one).toNat : Int) := by decide +kernel

end Go.Proofs.Ytdhjlongdfgejaa.Crc

/-
  What crc.Join, crc.Zeros, crc.Mask, crc.Bare do, and the document's own Mask and Bare.
-/
namespace Go.Proofs.Ytdhjlongdfgejaa.Crc
open Go.RowKit

def joinOf (a b : R) (n : Int) : R := if n < 0 then 0#32 else st (8 * n.toNat) a ^^^ b
def zerosOf (c : R) (n : Int) : R := if n < 0 then 0#32 else st (8 * n.toNat) (c ^^^ ones) ^^^ ones
theorem xor_ones (c : R) : bits .xor .u32 (c.toNat : Int) 4294967295 = ((c ^^^ ones).toNat : Int) := b_xor c ones

def rot (c : R) (k : Nat) : R := (c <<< k) ||| (c >>> (32 - k))
theorem b_or (a b : R) : bits .or .u32 (a.toNat : Int) (b.toNat : Int) = ((a ||| b).toNat : Int) := by
  rw [u32_or_nat _ _ (lt32 a) (lt32 b), BitVec.toNat_or]

theorem shl17 (c : R) : (c.toNat : Int) * (131072 : Int) % (4294967296 : Int) = ((c <<< 17).toNat : Int) := by
  rw [BitVec.toNat_shiftLeft, Nat.shiftLeft_eq]; omega
theorem shl15 (c : R) : (c.toNat : Int) * (32768 : Int) % (4294967296 : Int) = ((c <<< 15).toNat : Int) := by
  rw [BitVec.toNat_shiftLeft, Nat.shiftLeft_eq]; omega
theorem shr15 (c : R) : (c.toNat : Int) / (32768 : Int) = ((c >>> 15).toNat : Int) := by
  rw [BitVec.toNat_ushiftRight, Nat.shiftRight_eq_div_pow]; omega
theorem shr17 (c : R) : (c.toNat : Int) / (131072 : Int) = ((c >>> 17).toNat : Int) := by
  rw [BitVec.toNat_ushiftRight, Nat.shiftRight_eq_div_pow]; omega
theorem or17 (c : R) : bits BinOp.or IntKind.u32 ((c.toNat : Int) * 131072 % 4294967296) ((c.toNat : Int) / (32768 : Int)) = ((rot c 17).toNat : Int) := by
  rw [shl17, shr15, b_or]; rfl
theorem or15 (c : R) : bits BinOp.or IntKind.u32 ((c.toNat : Int) * 32768 % 4294967296) ((c.toNat : Int) / (131072 : Int)) = ((rot c 15).toNat : Int) := by
  rw [shl15, shr17, b_or]; rfl
theorem or17' (c : R) : bits BinOp.or IntKind.u32 ((c.toNat : Int) / (32768 : Int)) ((c.toNat : Int) * 131072 % 4294967296) = ((rot c 17).toNat : Int) := by
  rw [shl17, shr15, b_or, BitVec.or_comm]; rfl

def hidden : R := 0xa282ead8#32
def maskOf (c : R) : R := rot c 17 + hidden
def bareOf (c : R) : R := rot (c - hidden) 15
theorem add_hidden (c : R) : ((c.toNat : Int) + (2726488792 : Int)) % (4294967296 : Int) = ((c + hidden).toNat : Int) := by
  rw [BitVec.toNat_add]; show _ = (((c.toNat + 2726488792) % 4294967296 : Nat) : Int); omega
theorem sub_hidden (c : R) : ((c.toNat : Int) - (2726488792 : Int)) % (4294967296 : Int) = ((c - hidden).toNat : Int) := by
  rw [BitVec.toNat_sub]; show _ = (((4294967296 - 2726488792 + c.toNat) % 4294967296 : Nat) : Int); omega
theorem rot_rot (c : R) : rot (rot c 17) 15 = c := by
  apply BitVec.eq_of_getLsbD_eq
  intro i hi
  unfold rot
  simp only [BitVec.getLsbD_or, BitVec.getLsbD_shiftLeft, BitVec.getLsbD_ushiftRight]
  by_cases h : i < 15
  · have e4 : c.getLsbD (15 + (17 + i)) = false := BitVec.getLsbD_of_ge c _ (by omega)
    simp [h, hi, e4, show 17 + i < 32 by omega, show ¬ 17 + i < 17 by omega, show 17 + i - 17 = i by omega]
  · by_cases h2 : i - 15 < 17
    · have e3 : decide (17 + i < 32) = false := by simp; omega
      have e4 : c.getLsbD (15 + (17 + i)) = false := BitVec.getLsbD_of_ge c _ (by omega)
      simp [h, hi, h2, e3, e4, show 15 + (i - 15) = i by omega]
    · omega
theorem rot_rot' (c : R) : rot (rot c 15) 17 = c := by
  apply BitVec.eq_of_getLsbD_eq
  intro i hi
  unfold rot
  simp only [BitVec.getLsbD_or, BitVec.getLsbD_shiftLeft, BitVec.getLsbD_ushiftRight]
  by_cases h : i < 17
  · have e4 : c.getLsbD (17 + (15 + i)) = false := BitVec.getLsbD_of_ge c _ (by omega)
    simp [h, hi, e4, show 15 + i < 32 by omega, show ¬ 15 + i < 15 by omega, show 15 + i - 15 = i by omega]
  · have e3 : decide (15 + i < 32) = false := by simp; omega
    have e4 : c.getLsbD (17 + (15 + i)) = false := BitVec.getLsbD_of_ge c _ (by omega)
    simp [h, hi, e3, e4, show i - 17 < 15 by omega, show 17 + (i - 17) = i by omega]
theorem bare_mask (c : R) : bareOf (maskOf c) = c := by
  unfold bareOf maskOf
  rw [BitVec.add_sub_cancel, rot_rot]
theorem mask_bare (c : R) : maskOf (bareOf c) = c := by
  unfold bareOf maskOf
  rw [rot_rot', BitVec.sub_add_cancel]

end Go.Proofs.Ytdhjlongdfgejaa.Crc

/-
  Rows of registers as cells; the table of what eight steps make of each byte, filled from the high bits on. No program is named here.
-/
namespace Go.Proofs.Ytdhjlongdfgejaa.Crc
open Go.RowKit

/-- Registers f 0, .., f (n - 1) as cells. -/
def row (f : Nat → R) (n : Nat) : Array Value := Array.ofFn (n := n) fun i => .int .u32 ((f i.val).toNat : Int)
def upd (f : Nat → R) (i : Nat) (v : R) : Nat → R := fun j => if j = i then v else f j
theorem row_size (f : Nat → R) (n : Nat) : (row f n).size = n := by simp [row]
theorem row_get (f : Nat → R) (n i : Nat) (h : i < n) : (row f n)[i]? = some (.int .u32 ((f i).toNat : Int)) := by
  simp [row, h]
theorem row_set (f : Nat → R) (n i : Nat) (v : R) : (row f n).setIfInBounds i (.int .u32 (v.toNat : Int)) = row (upd f i v) n := by
  apply Array.ext_getElem?
  intro j
  rw [Array.getElem?_setIfInBounds]
  by_cases hj : j < n
  · rw [row_get _ _ _ hj, row_get _ _ _ hj]
    by_cases h : i = j
    · subst h; simp [upd, hj, row_size]
    · simp [upd, h, show ¬ j = i from fun e => h e.symm]
  · have e1 : (row f n)[j]? = none := Array.getElem?_eq_none (by rw [row_size]; omega)
    have e2 : (row (upd f i v) n)[j]? = none := Array.getElem?_eq_none (by rw [row_size]; omega)
    rw [e1, e2]
    by_cases h : i = j
    · subst h; simp [row_size, hj]
    · simp [h]
theorem row_one (f : Nat → R) (n : Nat) : (row f n).all (·.oneCell') = true := by
  rw [Array.all_eq_true]
  intro i h
  simp only [row, Array.getElem_ofFn]
  rfl
theorem row_zero (n : Nat) : row (fun _ => 0#32) n = Array.replicate n (.int .u32 0) := by
  apply Array.ext
  · simp [row]
  · intro j h1 h2
    simp [row]
theorem row_congr {f g : Nat → R} {n : Nat} (h : ∀ i, i < n → f i = g i) : row f n = row g n := by
  apply Array.ext
  · simp [row]
  · intro j h1 h2
    have h1' : j < n := by simpa [row] using h1
    simp only [row, Array.getElem_ofFn, h j h1']

theorem heap_new (w : World) (o : Obj) : (w.alloc o).heap[w.heap.size]? = some o := heap_alloc_last w o
theorem heap_old (w : World) (o p : Obj) : ((w.alloc o).alloc p).heap[w.heap.size]? = some o := by
  rw [Below.heap_alloc _ _ _ (by simp), heap_new]
theorem range_of {w : World} {b : Nat} {C : Array Value} {t : TypeId} {fr : Nat × Nat} (h : w.heap[b]? = some (.cells C t fr)) : w.rangeAt b 0 C.toList := fun j v hv => by
  rw [cell_of_row w b (0 + j) C t fr h, Nat.zero_add]; simpa using hv
theorem there_of {w : World} {b n : Nat} {C : Array Value} {t : TypeId} (h : w.heap[b]? = some (.cells C t)) (hn : C.size = n) : w.there b 0 n := fun j hj => by
  refine ⟨?_, by simp [World.frozen?, h]⟩
  rw [cell_of_row w b (0 + j) C t (0, 0) h, Nat.zero_add, Array.getElem?_eq_getElem (by omega)]; rfl
theorem below_setCells {B b : Nat} (hb : B ≤ b) : ∀ (vs : List Value) (o : Nat) {a w : World}, Below B a w → Below B a (w.setCells b o vs)
  | [], _, _, _, h => h
  | v :: r, o, a, w, h => by
    rw [World.setCells.eq_def]
    exact below_setCells hb r (o + 1) (h.setCell hb v)
theorem results_cell1 {P : Program} {fn : Func} {p : Tmp} {ty : TypeId} (h : fn.results = #[.cell p ty]) (tmps : Array Value) (w : World) (a : Addr) (v : Value)
    (ha : tmps.getD p undef = .pointer (some a)) (hl : (loadVar ty a).run P w = .ok v w) : (results fn tmps).run P w = .ok v w := by
  have ha' : tmps[p]?.getD undef = .pointer (some a) := by simpa [Array.getD_eq_getD_getElem?] using ha
  simp only [results, h]
  simp [ha', asAddr, hl]

/-- Where the row already has what eight steps make: at multiples of B below a, and at those of 2 B. -/
def Tab (f : Nat → R) (B a : Nat) : Prop := ∀ x, x < 256 → x % B = 0 → (x < a ∨ x % (2 * B) = 0) → f x = st 8 (BitVec.ofNat 32 x)
theorem tab_low : ∀ k : Fin 8, ∀ a : Fin 256, a.val % (2 * 2 ^ (7 - k.val)) = 0 → st 8 (BitVec.ofNat 32 (a.val + 2 ^ (7 - k.val))) = st 8 (BitVec.ofNat 32 a.val) ^^^ st (k.val + 1) 1#32 := by decide +kernel
theorem tab_init : Tab (fun _ => 0#32) (2 ^ 8) 256 := by
  intro x hx h _
  have : x = 0 := by omega
  subst this
  exact (st_zero 8).symm
theorem tab_next {f : Nat → R} {k : Nat} (hk : k < 8) (h : Tab f (2 ^ (8 - k)) 256) : Tab f (2 ^ (7 - k)) 0 := by
  intro x hx h1 h2
  have e : 2 ^ (8 - k) = 2 * 2 ^ (7 - k) := by rw [show 8 - k = (7 - k) + 1 by omega, Nat.pow_succ, Nat.mul_comm]
  rcases h2 with h2 | h2
  · omega
  · exact h x hx (by rw [e]; exact h2) (.inl hx)
theorem tab_step {f : Nat → R} {k a : Nat} (hk : k < 8) (ha : a < 256) (hm : a % (2 * 2 ^ (7 - k)) = 0) (h : Tab f (2 ^ (7 - k)) a) :
    Tab (upd f (a + 2 ^ (7 - k)) (f a ^^^ st (k + 1) 1#32)) (2 ^ (7 - k)) (a + 2 * 2 ^ (7 - k)) := by
  have hB : 0 < 2 ^ (7 - k) := Nat.pow_pos (by omega)
  have h0 : a % 2 ^ (7 - k) = 0 := by
    have := Nat.mod_mul_left_mod a 2 (2 ^ (7 - k))
    rw [hm] at this
    simpa using this.symm
  intro x hx h1 h2
  unfold upd
  by_cases e : x = a + 2 ^ (7 - k)
  · rw [if_pos e, e, h a ha h0 (.inr hm)]
    exact (tab_low ⟨k, hk⟩ ⟨a, ha⟩ hm).symm
  · rw [if_neg e]
    refine h x hx h1 ?_
    rcases h2 with h2 | h2
    · by_cases hxa : x < a
      · exact .inl hxa
      · right
        obtain ⟨p, hp⟩ := Nat.dvd_of_mod_eq_zero h1
        obtain ⟨q, hq⟩ := Nat.dvd_of_mod_eq_zero hm
        have hB0 : 2 ^ (7 - k) ≠ 0 := by omega
        generalize 2 ^ (7 - k) = B at *
        have : p = 2 * q := by
          have a1 : B * p < B * (2 * q + 2) := by rw [Nat.mul_add, ← Nat.mul_assoc, Nat.mul_comm B 2, Nat.mul_assoc]; rw [hq, hp, Nat.mul_assoc] at h2; omega
          have a2 : B * (2 * q) ≤ B * p := by rw [← Nat.mul_assoc, Nat.mul_comm B 2, Nat.mul_assoc]; rw [hq, hp, Nat.mul_assoc] at hxa; omega
          have b1 := Nat.lt_of_mul_lt_mul_left a1
          have b2 := Nat.le_of_mul_le_mul_left a2 hB
          have b3 : p ≠ 2 * q + 1 := by
            rintro rfl
            apply e
            rw [hp, hq, Nat.mul_add, Nat.mul_one, ← Nat.mul_assoc, Nat.mul_comm B 2]
          omega
        rw [hp, this, ← Nat.mul_assoc, Nat.mul_comm B 2]
        exact Nat.mul_mod_right _ _
    · exact .inr h2
theorem tab_last {f : Nat → R} (h : Tab f (2 ^ (8 - 8)) 256) : row f 256 = row (fun x => st 8 (BitVec.ofNat 32 x)) 256 :=
  row_congr fun i hi => h i hi (by simp [Nat.mod_one]) (.inl hi)
theorem tab_done {f : Nat → R} {k a : Nat} (hk : k < 8) (ha : 256 ≤ a) (h : Tab f (2 ^ (7 - k)) a) : Tab f (2 ^ (8 - (k + 1))) 256 := by
  intro x hx h1 h2
  rw [show 8 - (k + 1) = 7 - k by omega] at h1
  exact h x hx h1 (.inl (by omega))
theorem tab_room {k a : Nat} (hk : k < 8) (ha : a < 256) (hm : a % (2 * 2 ^ (7 - k)) = 0) : a + 2 * 2 ^ (7 - k) ≤ 256 := by
  obtain ⟨q, hq⟩ := Nat.dvd_of_mod_eq_zero hm
  have e : 2 * 2 ^ (7 - k) * 2 ^ k = 256 := by
    rw [show 2 * 2 ^ (7 - k) = 2 ^ (8 - k) by rw [show 8 - k = (7 - k) + 1 by omega, Nat.pow_succ, Nat.mul_comm], ← Nat.pow_add, show 8 - k + k = 8 by omega]
  have h1 : 2 * 2 ^ (7 - k) * q < 2 * 2 ^ (7 - k) * 2 ^ k := by rw [e, ← hq]; exact ha
  have h2 : 2 * 2 ^ (7 - k) * (q + 1) ≤ 2 * 2 ^ (7 - k) * 2 ^ k := Nat.mul_le_mul_left _ (Nat.lt_of_mul_lt_mul_left h1)
  rw [e, Nat.mul_add, ← hq] at h2
  omega
#print axioms tab_step
end Go.Proofs.Ytdhjlongdfgejaa.Crc

/-
  What crc.table answers.
-/
namespace Go.Proofs.Ytdhjlongdfgejaa.Crc
open Go.RowKit

/-- The table. -/
def tbl : Array Value := row (fun x => st 8 (BitVec.ofNat 32 x)) 256
theorem zero256 : (∀ w, (zeroValue 96).run Try.prog w = .ok (.agg (Array.replicate 256 (.int .u32 0))) w) ∧ (Try.prog.info? 96).map (·.size) = some 256 :=
  zero_of_info (by kernel_rfl)

set_option maxRecDepth 100000 in
set_option maxHeartbeats 1000000 in
theorem table_any (w : World) :
    Calls Try.prog 67 #[] w fun e w' => e = .returned (.agg tbl) ∧ Below w.heap.size w w' := by
  have hz := zero256.1
  go_enter Try.func67, Try.ntmps67
  go_wp2_with fail
  rw [← row_zero 256]
  have hx2 : ∀ a b : R, bits .xor .u32 (a.toNat : Int) (b.toNat : Int) = ((a ^^^ b).toNat : Int) := b_xor
  have HX : Hid (∀ a b : R, bits .xor .u32 (a.toNat : Int) (b.toNat : Int) = ((a ^^^ b).toNat : Int)) := hx2
  clear hx2
  go_loopw [2, 3] (fun vc vb wr => ∃ (k bt : Nat) (f : Nat → R), k ≤ 8 ∧ vc = .int .u32 ((st k 1#32).toNat : Int) ∧ vb = .int .i64 (bt : Int) ∧ Hid (bt = 128 / 2 ^ k) ∧ Hid (Tab f (2 ^ (8 - k)) 256) ∧ wr = (w.alloc (.cells (row (fun _ => 0#32) 256) 96)).alloc (.cells (row f 256) 96)) (fun _ b _ => (intOf b).toNat)
  case atStart => exact ⟨0, 128, _, by omega, rfl, rfl, rfl, tab_init, rfl⟩
  case round =>
    obtain ⟨k, bt, f, hk, rfl, rfl, hbt, htab, rfl⟩ := hrel
    by_cases h8 : k < 8
    · have eB : bt = 2 ^ (7 - k) := by rw [hbt.out, show 128 = 2 ^ 7 from rfl, Nat.pow_div (by omega) (by omega)]
      have hpos : 0 < bt := by rw [eB]; exact Nat.pow_pos (by omega)
      have hle : bt ≤ 128 := by rw [hbt.out]; exact Nat.div_le_self _ _
      have HB : Hid (bt = 2 ^ (7 - k)) := eB
      have hnext : Hid (bt / 2 = 128 / 2 ^ (k + 1)) := by show _ = _; rw [hbt.out, Nat.pow_succ, Nat.div_div_eq_div_mul]
      have ht0 : Hid (Tab f (2 ^ (7 - k)) 0) := tab_next h8 htab.out
      clear eB hbt htab
      go_wp2_with fail
      refine (step_any _ _).mono ?_
      rintro e w1 ⟨rfl, rfl⟩
      rw [← st_succ']
      go_wp2_with fail
      go_loopw [4] (fun va wr => ∃ (a : Nat) (g : Nat → R), va = .int .i64 (a : Int) ∧ a ≤ 256 ∧ Hid (a % (2 * 2 ^ (7 - k)) = 0) ∧ Hid (Tab g (2 ^ (7 - k)) a) ∧ wr = (w.alloc (.cells (row (fun _ => 0#32) 256) 96)).alloc (.cells (row g 256) 96)) (fun a _ => 256 - (intOf a).toNat)
      case atStart => exact ⟨0, f, rfl, by omega, by show _ = _; simp, ht0.out, rfl⟩
      case round =>
        obtain ⟨a, g, rfl, ha, hm, htab, rfl⟩ := hrel
        by_cases hlt : a < 256
        · have hroom := tab_room h8 hlt hm.out
          rw [← HB.out] at hroom
          have hc1 := row_get g 256 a hlt
          have hc2 := row_get g 256 (a + bt) (by omega)
          obtain ⟨v, hv⟩ : ∃ v, v = g a ^^^ st (k + 1) 1#32 := ⟨_, rfl⟩
          have hx := HX.out (g a) (st (k + 1) 1#32)
          rw [← hv] at hx
          have HS : Hid (Tab (upd g (a + bt) v) (2 ^ (7 - k)) (a + 2 * bt)) := by
            have := tab_step h8 hlt hm.out htab.out
            rw [← HB.out] at this ⊢
            rw [hv]; exact this
          have HM2 : Hid ((a + 2 * bt) % (2 * 2 ^ (7 - k)) = 0) := by
            show _ = _
            rw [← HB.out, Nat.add_mod_right]
            have := hm.out
            rw [← HB.out] at this
            exact this
          have HR : Hid ((row g 256).setIfInBounds (a + bt) (.int .u32 (v.toNat : Int)) = row (upd g (a + bt) v) 256) := row_set _ _ _ _
          obtain ⟨Z, hZ⟩ : ∃ Z, Z = row (fun _ => 0#32) 256 := ⟨_, rfl⟩
          obtain ⟨C, hC⟩ : ∃ C, C = row g 256 := ⟨_, rfl⟩
          rw [← hC] at hc1 hc2 HR ⊢
          rw [← hZ]
          have HZ : Hid (Z = row (fun _ => 0#32) 256) := hZ
          clear hv hm htab ht0 hnext hZ hC
          go_wp2_with fail
          go_roundw
          case rel => exact ⟨a + 2 * bt, upd g (a + bt) v, by go_num, by omega, HM2.out, HS.out, by rw [HR.out, HZ.out]⟩
          case measure => simp [intOf]; omega
        · obtain rfl : a = 256 := by omega
          have HD : Hid (Tab g (2 ^ (8 - (k + 1))) 256) := tab_done h8 (Nat.le_refl _) htab.out
          clear hm htab ht0
          go_wp2_with fail
          go_roundw
          case rel => exact ⟨k + 1, bt / 2, g, by omega, rfl, by go_num, hnext, HD.out, rfl⟩
          case measure => simp [intOf]; omega
    · obtain rfl : k = 8 := by omega
      obtain rfl : bt = 0 := by rw [hbt.out]
      have HT : Hid (row f 256 = tbl) := tab_last htab.out
      rw [HT.out]
      clear htab HT
      have hs : tbl.size = 256 := row_size _ _
      have h1 : tbl.all (·.oneCell') = true := row_one _ _
      have hr : Hid (((w.alloc (.cells (row (fun _ => 0#32) 256) 96)).alloc (.cells tbl 96)).rangeAt (w.heap.size + 1) 0 tbl.toList) := range_of (by simpa using heap_new (w.alloc (.cells (row (fun _ => 0#32) 256) 96)) _)
      have ht : Hid (((w.alloc (.cells (row (fun _ => 0#32) 256) 96)).alloc (.cells tbl 96)).there w.heap.size 0 256) := there_of (heap_old w _ _) (row_size _ _)
      have hbl : Hid (Below w.heap.size w ((w.alloc (.cells (row (fun _ => 0#32) 256) 96)).alloc (.cells tbl 96))) := (box_below w _).alloc (by simp) _
      have hi : (Try.prog.info? 96).map (·.size) = some tbl.size := by rw [hs]; exact zero256.2
      have HI : Hid ((Try.prog.info? 96).map (·.size) = some tbl.size) := hi
      have HI2 : Hid ((Try.prog.info? 96).map (·.size) = some tbl.toList.length) := by show _ = _; rw [Array.length_toList]; exact hi
      have HS : Hid (tbl.size = 256) := hs
      have H1 : Hid (tbl.all (·.oneCell') = true) := h1
      clear hs h1 hi
      generalize hwv : (w.alloc (.cells (row (fun _ => 0#32) 256) 96)).alloc (.cells tbl 96) = wv at *
      have HL : Hid ((loadVar 96 ⟨w.heap.size, 0, none⟩).run Try.prog (wv.setCells w.heap.size 0 tbl.toList) = .ok (.agg tbl) (wv.setCells w.heap.size 0 tbl.toList)) := by
        have := run_loadVar_mid (P := Try.prog) (wv.setCells w.heap.size 0 tbl.toList) w.heap.size 0 96 tbl.toList _ (World.rangeAt_setCells_same wv w.heap.size 0 tbl.toList (by rw [Array.length_toList, HS.out]; exact ht.out)) Try.underlying96 rfl HI2.out
        rw [Array.toArray_toList] at this
        exact this
      have HB : Hid (Below w.heap.size w (wv.setCells w.heap.size 0 tbl.toList)) := below_setCells (Nat.le_refl _) _ _ hbl.out
      clear hwv hbl
      go_wp2_with (first
        | (refine wpList_load_mid rfl 96 (.tmp 1) rfl (w.heap.size + 1) 0 rfl tbl.toList _ hr.out Try.underlying96 rfl HI2.out ?_; rw [Array.toArray_toList])
        | (refine wpList_store_mid rfl 96 (.tmp 0) (.tmp 26) rfl w.heap.size 0 tbl rfl rfl (by rw [HS.out]; exact ht.out) HI.out H1.out ?_))
      (try simp only [Exit.inBlock, Exit.then])
      refine bodyPost_ret (v := .agg tbl) (results_cell1 rfl _ _ ⟨w.heap.size, 0, none⟩ _ rfl HL.out) rfl ⟨rfl, HB.out⟩
#print axioms table_any
end Go.Proofs.Ytdhjlongdfgejaa.Crc

/-
  What crc.More and crc.Sum answer.
-/
namespace Go.Proofs.Ytdhjlongdfgejaa.Crc
open Go.RowKit

theorem feed_snoc (c : R) (l : List UInt8) (k : Nat) (h : k < l.length) : feed c (l.take (k + 1)) = st 8 (feed c (l.take k) ^^^ byte l[k]) := by
  rw [take_snoc l k h, feed_append]; rfl
theorem byte_idx (c : R) (x : UInt8) : bits BinOp.xor IntKind.u8 ((c.toNat : Int) % 256) (x.toNat : Int) = ((c.toNat % 256 ^^^ x.toNat : Nat) : Int) := by
  have := u8_xor_nat (c.toNat % 256) x.toNat (by omega) x.toNat_lt
  simpa using this
theorem byte_idx_lt (c : R) (x : UInt8) : c.toNat % 256 ^^^ x.toNat < 256 := by
  have := Nat.xor_lt_two_pow (n := 8) (show c.toNat % 256 < 2 ^ 8 by omega) (show x.toNat < 2 ^ 8 from x.toNat_lt)
  simpa using this
theorem shr8 (c : R) : (c.toNat : Int) / (256 : Int) = ((c >>> 8).toNat : Int) := by
  rw [BitVec.toNat_ushiftRight, Nat.shiftRight_eq_div_pow]; omega
theorem more_step (c : R) (x : UInt8) : bits BinOp.xor IntKind.u32 ((c.toNat : Int) / (256 : Int)) ((st 8 (BitVec.ofNat 32 (c.toNat % 256 ^^^ x.toNat))).toNat : Int) = ((st 8 (c ^^^ byte x)).toNat : Int) := by
  rw [shr8, b_xor, ← st8_split]

theorem table_some (w : World) :
    Calls Try.prog 67 #[] w fun e w' => ∃ T : Array Value, e = .returned (.agg T) ∧ Below w.heap.size w w' ∧ Hid (T.size = 256) ∧ Hid (T.all (·.oneCell') = true) ∧ Hid (∀ i, i < 256 → T[i]? = some (.int .u32 ((st 8 (BitVec.ofNat 32 i)).toNat : Int))) :=
  (table_any w).mono fun _ _ ⟨h, hb⟩ => ⟨tbl, h, hb, row_size _ _, row_one _ _, fun i hi => row_get _ 256 i hi⟩

set_option maxRecDepth 100000 in
set_option maxHeartbeats 1000000 in
theorem more_any (w : World) (sum : R) (v : Value) (l : List UInt8) (hv : Sl w v l) :
    Calls Try.prog 51 #[.int .u32 (sum.toNat : Int), v] w fun e w' => e = .returned (.int .u32 ((more sum l).toNat : Int)) ∧ Below w.heap.size w w' := by
  obtain ⟨ao, ca, rfl, h2, h3, h4, h5⟩ := hv
  have hca : ca ≤ 9223372036854775807 := by unfold maxLen at h4; omega
  clear h2 h4
  by_cases h0 : l.length = 0
  · have hl : l = [] := List.length_eq_zero_iff.1 h0
    subst hl
    clear h5 h0
    go_enter Try.func51, Try.ntmps51
    go_wp2_with fail
    go_ret
    exact ⟨by rw [more_nil]; rfl, Below.refl _ _⟩
  · have hz := zero256.1
    have h0' : ¬ ((l.length : Int) = 0) := by omega
    have HZ : Hid (∀ n, ((l.length : Int) == 0) = n → n = false) := by show ∀ n, _; intro n hn; rw [← hn]; simpa using h0
    go_enter Try.func51, Try.ntmps51
    go_wp2_with fail
    refine (table_some _).mono ?_
    rintro e w1 ⟨T, rfl, hb1, hs, h1, hT⟩
    have hi : Hid ((Try.prog.info? 96).map (·.size) = some T.size) := by show _ = _; rw [hs.out]; exact zero256.2
    have ht : Hid ((w1.alloc (.cells (Array.replicate 256 (.int .u32 0)) 96)).there w1.heap.size 0 256) := there_of (heap_new w1 _) (by simp)
    have hbl : Hid (Below w.heap.size w ((w1.alloc (.cells (Array.replicate 256 (.int .u32 0)) 96)).setCells w1.heap.size 0 T.toList)) := below_setCells hb1.size _ _ (hb1.alloc hb1.size _)
    have hcl : Hid (∀ i, i < 256 → ((w1.alloc (.cells (Array.replicate 256 (.int .u32 0)) 96)).setCells w1.heap.size 0 T.toList).cell? ⟨w1.heap.size, i, none⟩ = some (.int .u32 ((st 8 (BitVec.ofNat 32 i)).toNat : Int))) := by
      intro i hi
      have := World.rangeAt_setCells_same (w1.alloc (.cells (Array.replicate 256 (.int .u32 0)) 96)) w1.heap.size 0 T.toList (by rw [Array.length_toList, hs.out]; exact ht.out) i (.int .u32 ((st 8 (BitVec.ofNat 32 i)).toNat : Int)) (by rw [Array.getElem?_toList]; exact hT.out i hi)
      rwa [Nat.zero_add] at this
    go_wp2_with (refine wpList_store_mid rfl 96 (.tmp 5) (.tmp 13) rfl w1.heap.size 0 T rfl rfl (by rw [hs.out]; exact ht.out) hi.out h1.out ?_)
    rw [xor_ones]
    have hg := h5
    generalize hwv : (w1.alloc (.cells (Array.replicate 256 (.int .u32 0)) 96)).setCells w1.heap.size 0 T.toList = wv at *
    have h5v : Rd wv ao l := Below.rd hbl.out h5
    have hxl := fun c : R => xor_ones c
    have HXL : Hid (∀ c : R, bits .xor .u32 (c.toNat : Int) 4294967295 = ((c ^^^ ones).toNat : Int)) := hxl
    clear hwv hg h5 ht hi h1 hT hs hz hxl hb1 h0' HZ
    obtain ⟨c0, hc0⟩ : ∃ c0, c0 = sum ^^^ ones := ⟨_, rfl⟩
    have HM : Hid (more sum l = feed c0 l ^^^ ones) := by show _ = _; rw [hc0]; rfl
    rw [← hc0]
    clear hc0
    go_loopw [6, 8, 18] (fun vc _ vi wr => ∃ k : Nat, k ≤ l.length ∧ vc = .int .u32 ((feed c0 (l.take k)).toNat : Int) ∧ vi = .int .i64 (k : Int) ∧ wr = wv) (fun _ _ i _ => l.length - (intOf i).toNat)
    case atStart => exact ⟨0, Nat.zero_le _, rfl, rfl, rfl⟩
    case round =>
      obtain ⟨k, hk, rfl, rfl, rfl⟩ := hrel
      by_cases hlt : k < l.length
      · obtain ⟨b1, o1, rfl, hb⟩ := h5v.at (by omega)
        have d2 := hb k hlt
        have HF : Hid (st 8 (feed c0 (l.take k) ^^^ byte l[k]) = feed c0 (l.take (k + 1))) := (feed_snoc c0 l k hlt).symm
        obtain ⟨c, hc⟩ : ∃ c, c = feed c0 (l.take k) := ⟨_, rfl⟩
        obtain ⟨x, hx⟩ : ∃ x, x = l[k] := ⟨_, rfl⟩
        rw [← hx] at d2 HF
        rw [← hc] at HF ⊢
        have hix := byte_idx c x
        have hms := more_step c x
        rw [HF.out] at hms
        obtain ⟨y, hy⟩ : ∃ y, y = c.toNat % 256 ^^^ x.toNat := ⟨_, rfl⟩
        have hyl : y < 256 := by rw [hy]; exact byte_idx_lt c x
        rw [← hy] at hix hms
        have hcy := hcl.out y hyl
        have hcl32 := lt32 c
        have hxl8 := x.toNat_lt
        clear hy hx hc HF hb
        go_wp2_with fail
        go_roundw
        case rel => exact ⟨k + 1, by omega, rfl, by go_num, by trivial⟩
        case measure => simp [intOf]; omega
      · obtain rfl : k = l.length := by omega
        have hxo := HXL.out (feed c0 l)
        rw [List.take_length, ← HM.out] at *
        go_wp2_with fail
        go_ret
        exact ⟨rfl, hbl.out⟩
#print axioms more_any
end Go.Proofs.Ytdhjlongdfgejaa.Crc

/-
  What crc.Sum answers; what every statement of the second layer asks ahead (flumelaw2.begun) is answered true.
-/
namespace Go.Proofs.Ytdhjlongdfgejaa.Crc
open Go.RowKit

theorem sum_any (w : World) (v : Value) (l : List UInt8) (hv : Sl w v l) :
    Calls Try.prog 29 #[v] w fun e w' => e = .returned (.int .u32 ((more 0#32 l).toNat : Int)) ∧ Below w.heap.size w w' := by
  have hv0 := hv
  obtain ⟨ao, ca, rfl, h2, h3, h4, h5⟩ := hv
  clear h2 h3 h4 h5
  go_enter Try.func29, Try.ntmps29
  go_wp2_with fail
  refine (more_any _ 0#32 _ l hv0).mono ?_
  rintro e w1 ⟨rfl, hb⟩
  go_wp2
  go_ret
  exact ⟨rfl, hb⟩

def d9 : List UInt8 := [49, 50, 51, 52, 53, 54, 55, 56, 57]
theorem sum_d9 : ((more 0#32 d9).toNat : Int) = 3808858755 := by decide +kernel
theorem mask_0 : ((maskOf 0#32).toNat : Int) = 2726488792 := by decide +kernel
theorem join_0 : ((joinOf 0xc1d04330#32 0#32 0).toNat : Int) = 3251651376 := by decide +kernel

end Go.Proofs.Ytdhjlongdfgejaa.Crc

