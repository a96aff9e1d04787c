/-
  Plain facts for the walks over package wire: lists of bytes, where a slice's bytes lie in memory. No program is named here.
-/
import Derived.WalkKit
import Derived.WalkSpells
import Derived.WalkLawsBesides
import Derived.Deep.QuietTactic
import Derived.BigQuiet
import Derived.Laws.AppendOwnNone
import Derived.Test.YtjplkffghfikgaaProg
import Derived.Lib.SlBytesConst
import Derived.Test.YtjplkffghfikgaaRows
import Derived.ProofKit
import Derived.OpenShut
import Derived.SizedLaws
import Derived.RangeFuncNested
import Derived.RangeFuncLeaves
import Derived.Below
import Derived.Deep.Slices
import Derived.BigRegion
import Derived.Handy
import Derived.Deep.Cut
import Derived.Deep.RegionHeld3
import Derived.Lib.BitFns
import Derived.Deep.AppendLies
import Derived.Deep.RegionHeld
import Derived.Shelf.SlSortCmp.WholeK
namespace Go.Proofs.Ytjplkffghfikgaa
open Go.RowKit
/-- Bytes l lie from address ao on (nothing is said of ao where l is empty). -/
def Rd (w : World) (ao : Option Addr) (l : List UInt8) : Prop :=
  ∀ i (h : i < l.length), ∃ b off, ao = some ⟨b, off, none⟩ ∧ w.cell? ⟨b, off + i, none⟩ = some (.int .u8 (l[i].toNat : Int))
theorem Rd.at {w : World} {ao : Option Addr} {l : List UInt8} (h : Rd w ao l) (hl : 0 < l.length) :
    ∃ b off, ao = some ⟨b, off, none⟩ ∧ ∀ i (h : i < l.length), w.cell? ⟨b, off + i, none⟩ = some (.int .u8 (l[i].toNat : Int)) := by
  obtain ⟨b, off, e, _⟩ := h 0 hl
  refine ⟨b, off, e, fun i hi => ?_⟩
  obtain ⟨b', off', e', hc⟩ := h i hi
  rw [e] at e'
  simp only [Option.some.injEq, Addr.mk.injEq] at e'
  obtain ⟨rfl, rfl, _⟩ := e'
  exact hc
/-- The world has only drawn. -/
def Qt (w w' : World) : Prop := ∃ k, w' = w.drewN k
theorem Qt.refl (w : World) : Qt w w := ⟨0, rfl⟩
theorem Qt.drewN {w u : World} (h : Qt w u) (n : Nat) : Qt w (u.drewN n) := by
  obtain ⟨k, rfl⟩ := h; exact ⟨k + n, by simp⟩
theorem Qt.trans {w u v : World} (h : Qt w u) (g : Qt u v) : Qt w v := by
  obtain ⟨n, rfl⟩ := g; exact h.drewN n
theorem Qt.cell {w u : World} (h : Qt w u) (a : Addr) : u.cell? a = w.cell? a := by obtain ⟨k, rfl⟩ := h; rfl
theorem Qt.below {w u : World} (h : Qt w u) (B : Nat) : Below B w u := by
  obtain ⟨k, rfl⟩ := h; exact below_drewN (Below.refl _ _) k
theorem Qt.size {w u : World} (h : Qt w u) : u.heap.size = w.heap.size := by obtain ⟨k, rfl⟩ := h; rfl
end Go.Proofs.Ytjplkffghfikgaa

/-
  The forms of package wire as plain functions on lists of bytes: the varint's form, and what it is worth.
-/
namespace Go.Proofs.Ytjplkffghfikgaa
def encF : Nat → Nat → List UInt8
  | 0, _ => []
  | f + 1, n => if n < 128 then [UInt8.ofNat n] else UInt8.ofNat (n % 128 + 128) :: encF f (n / 128)
/-- The varint of n (below 2^64). -/
def enc (n : Nat) : List UInt8 := encF 10 n
end Go.Proofs.Ytjplkffghfikgaa

/-
  A slice of bytes as a list of bytes: Sl; what keeps it; append of such a slice onto one that the call made. No program is named here.
-/
namespace Go.Proofs.Ytjplkffghfikgaa
open Go.RowKit
/-- The value v is a slice whose bytes are l. -/
def Sl (w : World) (v : Value) (l : List UInt8) : Prop :=
  ∃ ao cap, v = .slice ao l.length cap ∧ (ao = none → l = [] ∧ cap = 0) ∧ l.length ≤ cap ∧ cap ≤ maxLen ∧ Rd w ao l
theorem lt_of_cell {w : World} {a : Addr} {v : Value} (h : w.cell? a = some v) : a.block < w.heap.size := by
  unfold World.cell? at h
  by_cases hb : a.block < w.heap.size
  · exact hb
  · rw [Array.getElem?_eq_none (by omega)] at h; simp at h
theorem Sl.nil (w : World) : Sl w (.slice none 0 0) [] := ⟨none, 0, rfl, fun _ => ⟨rfl, rfl⟩, Nat.le_refl _, Nat.zero_le _, fun i hi => by simp at hi⟩
end Go.Proofs.Ytjplkffghfikgaa

/-
  Plain facts for the walks of a seat that has none of wire's: literals of bytes, what a call may have turned. No function is named here.
-/
namespace Go.Proofs.Ytjplkffghfikgaa
open Go.RowKit
theorem addr_add (b off k : Nat) : (⟨b, off, none⟩ : Addr).add k = ⟨b, off + k, none⟩ := by
  unfold Addr.add; split <;> simp_all
theorem Qt.grown {w w' : World} (h : Qt w w') (row : Option Nat) : w.grownBy w' row := by
  obtain ⟨k, rfl⟩ := h; exact ⟨rfl, rfl, rfl, Nat.le_refl _, fun _ _ _ => rfl⟩
theorem grown_setCell (w : World) (rb o : Nat) (u : Value) : w.grownBy (w.setCell ⟨rb, o, none⟩ u) (some rb) :=
  ⟨rfl, rfl, rfl, by simp, fun k _ hk => heap_setCell_other w ⟨rb, o, none⟩ k u (fun e => hk (by simp [e]))⟩
theorem heap_lt {w : World} {k : Nat} {o : Obj} (h : w.heap[k]? = some o) : k < w.heap.size := by
  by_cases hb : k < w.heap.size
  · exact hb
  · rw [Array.getElem?_eq_none (by omega)] at h; simp at h
theorem box_below (w : World) (o : Obj) : Below w.heap.size w (w.alloc o) := (Below.refl _ _).alloc (Nat.le_refl _) _
end Go.Proofs.Ytjplkffghfikgaa

/-
  An argument of type []byte, opened: the bytes that it holds, and that they lie within the reach.
-/
namespace Go.Proofs.Ytjplkffghfikgaa
open Go.ChangeShapes Go.WideShapes Go.ChangeAt Go.RowKit
theorem u64_bounds {n : Int} (h : (Lit.int .u64 n).wf = true) : 0 ≤ n ∧ n < 18446744073709551616 := by
  have hx : 0 ≤ n ∧ n ≤ 18446744073709551615 := by simpa [Lit.wf, IntKind.min, IntKind.max, IntKind.signed, IntKind.bits] using h
  omega
theorem i64_bounds {n : Int} (h : (Lit.int .i64 n).wf = true) : -9223372036854775808 ≤ n ∧ n ≤ 9223372036854775807 := by
  simpa [Lit.wf, IntKind.min, IntKind.max, IntKind.signed, IntKind.bits] using h
end Go.Proofs.Ytjplkffghfikgaa

/-
  Package real, number by number: what its functions of one and of two numbers answer, by the bits; the document's own answers are the same.
-/
namespace Go.Proofs.Ytjplkffghfikgaa.Rl
open Go.RowKit
set_option maxRecDepth 100000
theorem bits_run (b : Nat) (w : World) : (callFunc 47 #[.float .f64 b]).run Try.prog w = .ok (.value (.int .u64 b)) w := by
  rw [run_callFunc_extern Try.func47 (by kernel_rfl) (by kernel_rfl) (by kernel_rfl) (e := Extern.MathFloatBits.float64bits) (by kernel_rfl)]
  rfl
theorem of_run (n : Int) (w : World) : (callFunc 9 #[.int .u64 n]).run Try.prog w = .ok (.value (.float .f64 n.toNat)) w := by
  rw [run_callFunc_extern Try.func9 (by kernel_rfl) (by kernel_rfl) (by kernel_rfl) (e := Extern.MathFloatBits.float64frombits) (by kernel_rfl)]
  rfl
theorem ofInt64 (a : Nat) (ha : a < 18446744073709551616) : (BitVec.ofInt 64 (a : Int)).toNat = a := by
  rw [BitVec.ofInt_natCast, BitVec.toNat_ofNat]; exact Nat.mod_eq_of_lt (by omega)
theorem andNot_nat (a b : Nat) (ha : a < 18446744073709551616) (hb : b < 18446744073709551616) :
    bits .andNot .u64 (a : Int) (b : Int) = ((a &&& (18446744073709551615 - b) : Nat) : Int) := by
  have hx : a &&& (18446744073709551615 - b) < 2 ^ 64 := Nat.and_lt_two_pow _ (by omega)
  show IntKind.u64.wrap ((BitVec.ofInt 64 (a : Int) &&& ~~~ BitVec.ofInt 64 (b : Int)).toNat : Int) = _
  rw [BitVec.toNat_and, BitVec.toNat_not, ofInt64 a ha, ofInt64 b hb, IntKind.wrap_u64]
  have : 2 ^ 64 - 1 - b = 18446744073709551615 - b := by omega
  rw [this]; omega
theorem and_low (a : Nat) (k : Nat) : a &&& (2 ^ k - 1) = a % 2 ^ k := Nat.and_two_pow_sub_one_eq_mod a k
theorem andNot_top (b : Nat) (hb : b < 18446744073709551616) : bits .andNot .u64 (b : Int) 9223372036854775808 = ((b % 9223372036854775808 : Nat) : Int) := by
  have h := andNot_nat b 9223372036854775808 hb (by omega)
  rw [show 18446744073709551615 - 9223372036854775808 = 2 ^ 63 - 1 by omega, and_low] at h
  exact h
theorem and_mask (b : Nat) (hb : b < 18446744073709551616) : bits .and .u64 (b : Int) 9223372036854775807 = ((b % 9223372036854775808 : Nat) : Int) := by
  have h := bits_and_u64_nat b 9223372036854775807 hb (by omega)
  rw [show 9223372036854775807 = 2 ^ 63 - 1 by omega, and_low] at h
  exact h
theorem and_top (b : Nat) (hb : b < 18446744073709551616) : bits .and .u64 (b : Int) 9223372036854775808 = if b < 9223372036854775808 then 0 else 9223372036854775808 := by
  have h := bits_and_u64_nat b 9223372036854775808 hb (by omega)
  have e : b &&& 9223372036854775808 = if b < 9223372036854775808 then 0 else 9223372036854775808 := by
    rw [show 9223372036854775808 = 2 ^ 63 by omega]
    apply Nat.eq_of_testBit_eq
    intro i
    rw [Nat.testBit_and, Nat.testBit_two_pow]
    by_cases hi : 63 = i
    · subst hi
      by_cases hc : b < 2 ^ 63
      · rw [if_pos hc, Nat.testBit_lt_two_pow hc]; rfl
      · rw [if_neg hc]
        have : b.testBit 63 = true := by
          rw [Nat.testBit_eq_decide_div_mod_eq]; simp; omega
        rw [this]; rfl
    · rw [show decide (63 = i) = false by simpa using hi, Bool.and_false]
      split
      · rw [Nat.zero_testBit]
      · rw [Nat.testBit_two_pow]; simp [hi]
  rw [e] at h
  rw [show (9223372036854775808 : Int) = ((9223372036854775808 : Nat) : Int) by rfl, h]
  split <;> rfl
theorem or_top (b : Nat) (hb : b < 9223372036854775808) : bits .or .u64 (b : Int) 9223372036854775808 = ((b + 9223372036854775808 : Nat) : Int) := by
  have h := bits_or_u64_nat b 9223372036854775808 (by omega) (by omega)
  rw [Nat.or_comm, show 9223372036854775808 = 2 ^ 63 * 1 by omega, ← Nat.two_pow_add_eq_or_of_lt (by omega)] at h
  rw [show (9223372036854775808 : Int) = ((2 ^ 63 * 1 : Nat) : Int) by rfl, h]
  omega
theorem xor_all (b : Nat) (hb : b < 18446744073709551616) : bits .xor .u64 IntKind.u64.max (b : Int) = ((18446744073709551615 - b : Nat) : Int) := by
  show IntKind.u64.wrap ((BitVec.ofInt 64 18446744073709551615 ^^^ BitVec.ofInt 64 (b : Int)).toNat : Int) = _
  rw [show BitVec.ofInt 64 18446744073709551615 = BitVec.allOnes 64 by decide, BitVec.allOnes_xor, BitVec.toNat_not, ofInt64 b hb, IntKind.wrap_u64]
  omega
def nanB (b : Nat) : Bool := decide (b % 9223372036854775808 > 9218868437227405312)
def keyB (b : Nat) : Nat := if nanB b then 18446744073709551615 else if b < 9223372036854775808 then b + 9223372036854775808 else 18446744073709551615 - b
def rankB (m : Nat) : Int := if m = 0 then 0 else if m < 4503599627370496 then 1 else if m < 9218868437227405312 then 2 else 3
def classB (b : Nat) : Int := if nanB b then 1 else if b < 9223372036854775808 then 6 + rankB b else 5 - rankB (b - 9223372036854775808)
theorem isNaN_any (w : World) (b : Nat) (hb : b < 18446744073709551616) :
    Calls Try.prog 72 #[.float .f64 b] w fun e w' => e = .returned (.bool (nanB b)) ∧ w' = w := by
  have k1 := bits_run
  have k2 := andNot_top b hb
  go_enter Try.func72, Try.ntmps72
  go_wp2
  go_ret
  refine ⟨congrArg (fun x => Ending.returned (Value.bool x)) (?_ : decide _ = decide _), rfl⟩
  apply decide_eq_decide.2; omega
theorem refNaN_any (w : World) (b : Nat) (hb : b < 18446744073709551616) :
    Calls Try.prog 54 #[.float .f64 b] w fun e w' => e = .returned (.bool (nanB b)) ∧ w' = w := by
  have k1 := bits_run
  have k2 := and_mask b hb
  go_enter Try.func54, Try.ntmps54
  go_wp2
  go_ret
  refine ⟨congrArg (fun x => Ending.returned (Value.bool x)) (?_ : decide _ = decide _), rfl⟩
  apply decide_eq_decide.2; omega
theorem key_any (w : World) (b : Nat) (hb : b < 18446744073709551616) :
    Calls Try.prog 59 #[.float .f64 b] w fun e w' => e = .returned (.int .u64 (keyB b)) ∧ w' = w := by
  have k1 := bits_run
  have k2 := and_top b hb
  have k3 := xor_all b hb
  go_enter Try.func59, Try.ntmps59
  go_wp2_with fail
  refine (isNaN_any _ b hb).mono ?_
  rintro e w1 ⟨rfl, rfl⟩
  cases hn : nanB b with
  | true =>
    go_wp2
    go_ret
    exact ⟨by rw [keyB, hn]; rfl, rfl⟩
  | false =>
    by_cases hc : b < 9223372036854775808
    · rw [if_pos hc] at k2
      have k4 := or_top b hc
      go_wp2
      go_ret
      exact ⟨by rw [keyB, hn, if_pos hc]; rfl, rfl⟩
    · rw [if_neg hc] at k2
      go_wp2
      go_ret
      exact ⟨by rw [keyB, hn, if_neg hc]; rfl, rfl⟩
end Go.Proofs.Ytjplkffghfikgaa.Rl

/-
  Package real, number by number (on): classes, keys back, the order, the next one, how far apart; the document's own answers are the same.
-/
namespace Go.Proofs.Ytjplkffghfikgaa.Rl
open Go.RowKit
set_option maxRecDepth 100000
theorem refKey_walk (w : World) (b : Nat) (B : Int) (hb : b < 18446744073709551616) (hn : nanB b = false)
    (k1 : ∀ w, (callFunc 47 #[.float .f64 b]).run Try.prog w = .ok (.value (.int .u64 B)) w) :
    Calls Try.prog 43 #[.float .f64 b] w fun e w' => e = .returned (.int .u64 (if 9223372036854775808 ≤ B then bits .xor .u64 IntKind.u64.max B else IntKind.u64.wrap (B + 9223372036854775808))) ∧ w' = w := by
  go_enter Try.func43, Try.ntmps43
  go_wp2_with fail
  refine (refNaN_any _ b hb).mono ?_
  rintro e w1 ⟨rfl, rfl⟩
  rw [hn]
  clear hn hb
  go_wp2
  all_goals (go_ret; refine ⟨congrArg (fun x => Ending.returned (Value.int .u64 x)) (?_ : (_ : Int) = _), rfl⟩; first | rfl | (split <;> first | rfl | omega))
theorem refKey_any (w : World) (b : Nat) (hb : b < 18446744073709551616) :
    Calls Try.prog 43 #[.float .f64 b] w fun e w' => e = .returned (.int .u64 (keyB b)) ∧ w' = w := by
  cases hn : nanB b
  · refine (refKey_walk w b (b : Int) hb hn (bits_run b)).mono ?_
    rintro e w1 ⟨rfl, rfl⟩
    refine ⟨congrArg (fun x => Ending.returned (Value.int .u64 x)) (?_ : (_ : Int) = _), rfl⟩
    rw [keyB, hn, xor_all b hb, IntKind.wrap_u64]
    simp only [Bool.false_eq_true, if_false]
    (repeat' split) <;> omega
  · have k1 := fun w => bits_run b w
    go_enter Try.func43, Try.ntmps43
    go_wp2_with fail
    refine (refNaN_any _ b hb).mono ?_
    rintro e w1 ⟨rfl, rfl⟩
    rw [hn]
    go_wp2
    go_ret
    exact ⟨by rw [keyB, hn]; rfl, rfl⟩
theorem bits_any (w : World) (a b : Nat) :
    Calls Try.prog 38 #[.float .f64 a, .float .f64 b] w fun e w' => e = .returned (.bool (decide (a = b))) ∧ w' = w := by
  have k1 := bits_run
  go_enter Try.func38, Try.ntmps38
  go_wp2
  go_ret
  refine ⟨congrArg (fun x => Ending.returned (Value.bool x)) (?_ : (_ : Bool) = _), rfl⟩
  show decide ((a : Int) = b) = _
  apply decide_eq_decide.2; omega
def cmpZ (x y : Int) : Int := if x < y then -1 else if y < x then 1 else 0
theorem cmpNaN_any (w : World) (x : Int) : Calls Try.prog 71 #[.int .u64 x] w fun e w' => e = .returned (.bool false) ∧ w' = w := by
  go_enter Try.func71, Try.ntmps71
  go_wp2
  go_ret
  exact ⟨by simp, rfl⟩
theorem cmp_any (w : World) (x y : Int) : Calls Try.prog 58 #[.int .u64 x, .int .u64 y] w fun e w' => e = .returned (.int .i64 (cmpZ x y)) ∧ w' = w := by
  go_enter Try.func58, Try.ntmps58
  go_wp2_with fail
  refine (cmpNaN_any _ _).mono ?_
  rintro e w1 ⟨rfl, rfl⟩
  go_wp2_with fail
  refine (cmpNaN_any _ _).mono ?_
  rintro e w2 ⟨rfl, rfl⟩
  go_wp2
  all_goals (go_ret; refine ⟨congrArg (fun x => Ending.returned (Value.int .i64 x)) (?_ : (_ : Int) = _), rfl⟩; unfold cmpZ; (repeat' split) <;> first | rfl | omega)
def cmpB (a b : Nat) : Int := cmpZ (keyB a) (keyB b)
theorem compare_any (w : World) (a b : Nat) (ha : a < 18446744073709551616) (hb : b < 18446744073709551616) :
    Calls Try.prog 52 #[.float .f64 a, .float .f64 b] w fun e w' => e = .returned (.int .i64 (cmpB a b)) ∧ w' = w := by
  go_enter Try.func52, Try.ntmps52
  go_wp2_with fail
  refine (key_any _ a ha).mono ?_
  rintro e w1 ⟨rfl, rfl⟩
  go_wp2_with fail
  refine (key_any _ b hb).mono ?_
  rintro e w2 ⟨rfl, rfl⟩
  go_wp2_with fail
  refine (cmp_any _ _ _).mono ?_
  rintro e w3 ⟨rfl, rfl⟩
  go_wp2
  go_ret
  exact ⟨rfl, rfl⟩
theorem refCompare_any (w : World) (a b : Nat) (ha : a < 18446744073709551616) (hb : b < 18446744073709551616) :
    Calls Try.prog 32 #[.float .f64 a, .float .f64 b] w fun e w' => e = .returned (.int .i64 (cmpB a b)) ∧ w' = w := by
  have hc : Hid (cmpB a b = cmpZ (keyB a) (keyB b)) := rfl
  go_enter Try.func32, Try.ntmps32
  go_wp2_with fail
  refine (refKey_any _ a ha).mono ?_
  rintro e w1 ⟨rfl, rfl⟩
  go_wp2_with fail
  refine (refKey_any _ b hb).mono ?_
  rintro e w2 ⟨rfl, rfl⟩
  go_wp2_with fail
  · go_ret
    refine ⟨congrArg (fun x => Ending.returned (Value.int .i64 x)) (?_ : (_ : Int) = _), rfl⟩
    rw [hc.out]; unfold cmpZ; rw [if_pos (by omega)]
  · refine (refKey_any _ a ha).mono ?_
    rintro e w3 ⟨rfl, rfl⟩
    go_wp2_with fail
    refine (refKey_any _ b hb).mono ?_
    rintro e w4 ⟨rfl, rfl⟩
    go_wp2
    all_goals (go_ret; refine ⟨congrArg (fun x => Ending.returned (Value.int .i64 x)) (?_ : (_ : Int) = _), rfl⟩; rw [hc.out]; unfold cmpZ; (repeat' split) <;> first | rfl | omega)
end Go.Proofs.Ytjplkffghfikgaa.Rl

/-
  Timers by data: which goes off first; a heap of them, and what its steps leave; the list in order.
-/
namespace Go.Proofs.Ytjplkffghfikgaa.Ck
open Go.RowKit Rl
/-- A timer: its number, and the bits of its time. -/
structure Tm where
  id : Int
  b : Nat
deriving Inhabited
/-- A timer goes off ahead of another one. -/
def Lt (x y : Tm) : Prop := keyB x.b < keyB y.b ∨ (keyB x.b = keyB y.b ∧ x.id < y.id)
instance (x y : Tm) : Decidable (Lt x y) := by unfold Lt; exact inferInstance
theorem Lt.irr (x : Tm) : ¬ Lt x x := by unfold Lt; omega
theorem Lt.trans {x y z : Tm} (h : Lt x y) (k : Lt y z) : Lt x z := by unfold Lt at *; omega
theorem Lt.asym {x y : Tm} (h : Lt x y) (k : Lt y x) : False := Lt.irr x (h.trans k)
theorem Lt.ntrans {x y z : Tm} (h : ¬ Lt x y) (k : ¬ Lt y z) : ¬ Lt x z := by unfold Lt at *; omega
theorem Lt.tot {x y : Tm} (h : x.id ≠ y.id) : Lt x y ∨ Lt y x := by unfold Lt; omega
/-- The i-th of a list. -/
def g (l : List Tm) (i : Nat) : Tm := l.getD i default
theorem g_get {l : List Tm} {i : Nat} (h : i < l.length) : g l i = l[i] := by simp [g, List.getD, h]
theorem g_cons (x : Tm) (l : List Tm) (i : Nat) : g (x :: l) (i + 1) = g l i := by simp [g]
/-- Two change places. -/
def sw (l : List Tm) (i j : Nat) : List Tm := (l.set i (g l j)).set j (g l i)
theorem sw_len (l : List Tm) (i j : Nat) : (sw l i j).length = l.length := by simp [sw]
theorem sw_perm {l : List Tm} {i j : Nat} (hi : i < l.length) (hj : j < l.length) : (sw l i j).Perm l := by
  unfold sw; rw [g_get hi, g_get hj]; exact List.set_set_perm hi hj
theorem sw_get {l : List Tm} {i j : Nat} (hi : i < l.length) (hj : j < l.length) (k : Nat) : g (sw l i j) k = if k = j then g l i else if k = i then g l j else g l k := by
  unfold sw g
  simp only [List.getD, List.getElem?_set, List.length_set]
  by_cases h1 : j = k
  · subst h1; simp [hj]
  · by_cases h2 : i = k
    · subst h2; simp [h1, Ne.symm h1, hi]
    · simp [h1, h2, Ne.symm h1, Ne.symm h2]
/-- A heap: none goes off ahead of the one above. -/
def HpN (l : List Tm) (n : Nat) : Prop := ∀ k, 0 < k → k < n → ¬ Lt (g l k) (g l ((k - 1) / 2))
def Hp (l : List Tm) : Prop := HpN l l.length
theorem Hp.first {l : List Tm} (h : Hp l) : ∀ k, k < l.length → ¬ Lt (g l k) (g l 0) := by
  intro k
  induction k using Nat.strongRecOn with
  | _ k ih =>
    intro hk
    by_cases h0 : k = 0
    · subst h0; exact Lt.irr _
    · exact Lt.ntrans (h k (by omega) hk) (ih ((k - 1) / 2) (by omega) (by omega))
/-- The first n are a heap but for the one at j, which may go off ahead of the one above. -/
def UpI (l : List Tm) (j n : Nat) : Prop := j < n ∧ n ≤ l.length ∧ (∀ k, 0 < k → k < n → k ≠ j → ¬ Lt (g l k) (g l ((k - 1) / 2))) ∧ (∀ k, 0 < k → k < n → (k - 1) / 2 = j → 0 < j → ¬ Lt (g l k) (g l ((j - 1) / 2)))
theorem UpI.done {l : List Tm} {j n : Nat} (h : UpI l j n) (hj : j = 0 ∨ ¬ Lt (g l j) (g l ((j - 1) / 2))) : HpN l n := by
  intro k h0 hk
  by_cases e : k = j
  · subst e; rcases hj with hj | hj
    · omega
    · exact hj
  · exact h.2.2.1 k h0 hk e
theorem UpI.step {l : List Tm} {j n : Nat} (h : UpI l j n) (h0 : 0 < j) (hlt : Lt (g l j) (g l ((j - 1) / 2))) : UpI (sw l ((j - 1) / 2) j) ((j - 1) / 2) n := by
  obtain ⟨hjn, hn, ha, hb⟩ := h
  have hj : j < l.length := by omega
  have hi : (j - 1) / 2 < l.length := by omega
  have hin : (j - 1) / 2 < n := by omega
  refine ⟨hin, by rw [sw_len]; exact hn, fun k k0 hk hne => ?_, fun k k0 hk hpar hi0 => ?_⟩
  · rw [sw_get hi hj, sw_get hi hj, if_neg hne]
    by_cases e1 : k = j
    · subst e1
      rw [if_pos rfl, if_neg (by omega), if_pos rfl]
      exact fun c => hlt.asym c
    · rw [if_neg e1]
      by_cases e2 : (k - 1) / 2 = j
      · rw [if_pos e2]; exact hb k k0 hk e2 h0
      · rw [if_neg e2]
        by_cases e3 : (k - 1) / 2 = (j - 1) / 2
        · rw [if_pos e3]
          have := ha k k0 hk e1
          rw [e3] at this
          exact Lt.ntrans this (fun c => hlt.asym c)
        · rw [if_neg e3]; exact ha k k0 hk e1
  · rw [sw_get hi hj, sw_get hi hj, if_neg (by omega : ((j - 1) / 2 - 1) / 2 ≠ j), if_neg (by omega : ((j - 1) / 2 - 1) / 2 ≠ (j - 1) / 2)]
    have hup := ha ((j - 1) / 2) hi0 hin (by omega)
    by_cases e1 : k = j
    · subst e1; rw [if_pos rfl]; exact hup
    · rw [if_neg e1, if_neg (by omega)]
      have := ha k k0 hk e1
      rw [hpar] at this
      exact Lt.ntrans this hup
/-- Among the first n a heap but for the one at i, behind which others may go off that should not, and, as long as i is i0, for i0 itself. -/
def DnI (l : List Tm) (i0 i n : Nat) : Prop := i < n ∧ i0 ≤ i ∧ n ≤ l.length ∧ (∀ k, 0 < k → k < n → (k - 1) / 2 ≠ i → (k ≠ i0 ∨ i0 < i) → ¬ Lt (g l k) (g l ((k - 1) / 2))) ∧ (∀ k, 0 < k → k < n → (k - 1) / 2 = i → 0 < i → ¬ Lt (g l k) (g l ((i - 1) / 2)))
theorem DnI.done {l : List Tm} {i0 i n : Nat} (h : DnI l i0 i n) (hc : ∀ k, 0 < k → k < n → (k - 1) / 2 = i → ¬ Lt (g l k) (g l i)) : (i0 < i → HpN l n) ∧ (i = i0 → UpI l i0 n) := by
  have hall : ∀ k, 0 < k → k < n → (k ≠ i0 ∨ i0 < i) → ¬ Lt (g l k) (g l ((k - 1) / 2)) := by
    intro k k0 hk hne
    by_cases e : (k - 1) / 2 = i
    · rw [e]; exact hc k k0 hk e
    · exact h.2.2.2.1 k k0 hk e hne
  refine ⟨fun hm k k0 hk => hall k k0 hk (.inr hm), fun e => ?_⟩
  subst e
  exact ⟨h.1, h.2.2.1, fun k k0 hk hne => hall k k0 hk (.inl hne), h.2.2.2.2⟩
theorem DnI.step {l : List Tm} {i0 i n j : Nat} (h : DnI l i0 i n) (hj : j < n) (h0 : 0 < j) (hp : (j - 1) / 2 = i) (hlt : Lt (g l j) (g l i)) (hother : ∀ k, 0 < k → k < n → (k - 1) / 2 = i → ¬ Lt (g l k) (g l j)) : DnI (sw l i j) i0 j n := by
  obtain ⟨hi, h00, hn, ha, hb⟩ := h
  have hil : i < l.length := by omega
  have hjl : j < l.length := by omega
  refine ⟨hj, by omega, by rw [sw_len]; exact hn, fun k k0 hk hne hno => ?_, fun k k0 hk hpar _ => ?_⟩
  · rw [sw_get hil hjl, sw_get hil hjl, if_neg hne]
    by_cases e1 : k = j
    · subst e1
      rw [if_pos rfl, if_pos hp]
      exact fun c => hlt.asym c
    · rw [if_neg e1]
      by_cases e2 : k = i
      · subst e2
        rw [if_pos rfl, if_neg (by omega)]
        by_cases e4 : k = 0
        · omega
        · exact hb j h0 hj hp (by omega)
      · rw [if_neg e2]
        by_cases e3 : (k - 1) / 2 = i
        · rw [if_pos e3]; exact hother k k0 hk e3
        · rw [if_neg e3]; exact ha k k0 hk e3 (by
            by_cases e5 : k = i0
            · rcases hno with hno | hno
              · exact .inl hno
              · right; omega
            · exact .inl e5)
  · rw [sw_get hil hjl, sw_get hil hjl, if_neg (by omega : k ≠ j), if_neg (by omega : k ≠ i), if_neg (by omega : (j - 1) / 2 ≠ j), if_pos hp]
    have := ha k k0 hk (by omega) (.inl (by omega))
    rwa [hpar] at this
/-- In order. -/
def Srt (S : List Tm) : Prop := S.Pairwise Lt
theorem Srt.eq {A B : List Tm} (ha : Srt A) (hb : Srt B) (h : A.Perm B) : A = B :=
  List.Perm.eq_of_pairwise (fun _ _ _ _ h1 h2 => (h1.asym h2).elim) ha hb h
theorem g_mem {l : List Tm} {i : Nat} (h : i < l.length) : g l i ∈ l := by rw [g_get h]; exact List.getElem_mem h
theorem mem_g {l : List Tm} {x : Tm} (h : x ∈ l) : ∃ k, k < l.length ∧ g l k = x := by
  obtain ⟨k, hk, e⟩ := List.getElem_of_mem h
  exact ⟨k, hk, by rw [g_get hk]; exact e⟩
/-- The first of a heap is the first in order. -/
theorem Hp.head {l r : List Tm} {x : Tm} (h : Hp l) (hp : l.Perm (x :: r)) (hs : Srt (x :: r)) : g l 0 = x := by
  have hl : 0 < l.length := by rw [hp.length_eq]; simp
  have hm : g l 0 ∈ x :: r := hp.mem_iff.1 (g_mem hl)
  rcases List.mem_cons.1 hm with e | e
  · exact e
  · have h1 : Lt x (g l 0) := (List.pairwise_cons.1 hs).1 _ e
    obtain ⟨k, hk, e2⟩ := mem_g (hp.mem_iff.2 (List.mem_cons_self))
    exact absurd (by rw [e2]; exact h1) (h.first k hk)
/-- One more, laid where it goes off. -/
def ins (x : Tm) : List Tm → List Tm
  | [] => [x]
  | y :: r => if Lt y x then y :: ins x r else x :: y :: r
theorem ins_perm (x : Tm) : ∀ S : List Tm, (ins x S).Perm (x :: S)
  | [] => List.Perm.refl _
  | y :: r => by
    unfold ins
    split
    · exact ((ins_perm x r).cons y).trans (List.Perm.swap x y r)
    · exact List.Perm.refl _
theorem ins_len (x : Tm) (S : List Tm) : (ins x S).length = S.length + 1 := (ins_perm x S).length_eq
theorem ins_srt {x : Tm} {S : List Tm} (hs : Srt S) (hx : ∀ y ∈ S, y.id ≠ x.id) : Srt (ins x S) := by
  induction S with
  | nil => exact List.pairwise_singleton _ _
  | cons y r ih =>
    obtain ⟨h1, h2⟩ := List.pairwise_cons.1 hs
    unfold ins
    split
    · rename_i hy
      refine List.pairwise_cons.2 ⟨fun z hz => ?_, ih h2 fun z hz => hx z (List.mem_cons_of_mem _ hz)⟩
      rcases List.mem_cons.1 ((ins_perm x r).mem_iff.1 hz) with e | e
      · rw [e]; exact hy
      · exact h1 z e
    · rename_i hy
      have hxy : Lt x y := (Lt.tot (hx y List.mem_cons_self)).resolve_left hy
      refine List.pairwise_cons.2 ⟨fun z hz => ?_, hs⟩
      rcases List.mem_cons.1 hz with e | e
      · rw [e]; exact hxy
      · exact hxy.trans (h1 z e)
theorem perm_snoc (l : List Tm) (x : Tm) : (l ++ [x]).Perm (x :: l) := by
  exact List.perm_append_comm (l₁ := l) (l₂ := [x])
theorem g_snoc_lt {l : List Tm} {x : Tm} {k : Nat} (h : k < l.length) : g (l ++ [x]) k = g l k := by
  unfold g; simp only [List.getD]; rw [List.getElem?_append_left h]
/-- A heap with one more behind: all but that one is a heap. -/
theorem Hp.push {l : List Tm} (h : Hp l) (x : Tm) : UpI (l ++ [x]) l.length (l.length + 1) := by
  refine ⟨by omega, by simp, fun k k0 hk hne => ?_, fun k k0 hk hp _ => ?_⟩
  · rw [g_snoc_lt (by omega), g_snoc_lt (by omega)]
    exact h k k0 (by omega)
  · omega
theorem g_take {l : List Tm} {n k : Nat} (h : k < n) : g (l.take n) k = g l k := by
  unfold g; simp only [List.getD]; rw [List.getElem?_take_of_lt h]
theorem take_g {l : List Tm} {n : Nat} (h : l.length = n + 1) : l = l.take n ++ [g l n] := by
  have h2 : n < l.length := by omega
  rw [g_get h2]
  conv => lhs; rw [← List.take_append_drop n l]
  rw [List.drop_eq_getElem_cons h2, List.drop_of_length_le (by omega)]
/-- The first changes places with the last: all but it is a heap. -/
theorem Hp.pop {l : List Tm} {n : Nat} (h : Hp l) (hl : l.length = n + 1) (hn : 0 < n) : DnI (sw l 0 n) 0 0 n := by
  refine ⟨hn, Nat.le_refl _, by rw [sw_len]; omega, fun k k0 hk hp hne => ?_, fun k k0 hk hp c => by omega⟩
  rw [sw_get (by omega) (by omega), sw_get (by omega) (by omega), if_neg (by omega), if_neg (by omega), if_neg (by omega), if_neg hp]
  exact h k k0 (by omega)
theorem Hp.rem {l : List Tm} {i n : Nat} (h : Hp l) (hl : l.length = n + 1) (hi : i < n) : DnI (sw l i n) i i n := by
  refine ⟨hi, Nat.le_refl _, by rw [sw_len]; omega, fun k k0 hk hp hne => ?_, fun k k0 hk hp c => ?_⟩
  · have hki : k ≠ i := by rcases hne with h | h <;> omega
    rw [sw_get (by omega) (by omega), sw_get (by omega) (by omega), if_neg (by omega), if_neg hki, if_neg (by omega), if_neg hp]
    exact h k k0 (by omega)
  · rw [sw_get (by omega) (by omega), sw_get (by omega) (by omega), if_neg (by omega), if_neg (by omega), if_neg (by omega), if_neg (by omega)]
    have h1 := h k k0 (by omega)
    rw [hp] at h1
    exact Lt.ntrans h1 (h i c (by omega))
theorem Hp.of_take {l : List Tm} {n : Nat} (h : HpN l n) : Hp (l.take n) := by
  intro k k0 hk
  simp at hk
  rw [g_take (by omega), g_take (by omega)]
  exact h k k0 (by omega)
end Go.Proofs.Ytjplkffghfikgaa.Ck

/-
  Iterators that keep state of their own in cells, and hand over what lies in memory: a contract by two sets of blocks, and the law for a range over one.
-/
namespace Go.Proofs.Ytjplkffghfikgaa
open Go.RowKit
/-- W' is W but for the blocks of X. -/
structure But (X : Nat → Prop) (W W' : World) : Prop where
  os : W'.os = W.os
  tape : W'.tape = W.tape
  output : W'.output = W.output
  size : W.heap.size ≤ W'.heap.size
  block : ∀ k, k < W.heap.size → ¬ X k → W'.heap[k]? = W.heap[k]?
theorem But.refl (X : Nat → Prop) (W : World) : But X W W := ⟨rfl, rfl, rfl, Nat.le_refl _, fun _ _ _ => rfl⟩
theorem But.trans {X : Nat → Prop} {A B C : World} (h : But X A B) (k : But X B C) : But X A C :=
  ⟨k.os.trans h.os, k.tape.trans h.tape, k.output.trans h.output, Nat.le_trans h.size k.size, fun i hi hx => (k.block i (Nat.lt_of_lt_of_le hi h.size) hx).trans (h.block i hi hx)⟩
theorem But.mono {X Y : Nat → Prop} {A B : World} (h : But X A B) (hs : ∀ k, k < A.heap.size → X k → Y k) : But Y A B :=
  ⟨h.os, h.tape, h.output, h.size, fun k hk hy => h.block k hk (fun hx => hy (hs k hk hx))⟩
theorem But.below {X : Nat → Prop} {A B : World} {n : Nat} (h : But X A B) (hn : n ≤ A.heap.size) (hX : ∀ k, X k → n ≤ k) : Below n A B :=
  ⟨h.os, h.tape, h.output, h.size, fun k hk => h.block k (Nat.lt_of_lt_of_le hk hn) (fun hx => Nat.lt_irrefl _ (Nat.lt_of_lt_of_le hk (hX k hx)))⟩
theorem But.of_below {A B : World} (h : Below A.heap.size A B) (X : Nat → Prop) : But X A B := ⟨h.os, h.tape, h.output, h.size, fun k hk _ => h.block k hk⟩
theorem But.of_grownBy {A B : World} {row : Option Nat} (h : A.grownBy B row) {X : Nat → Prop} (hX : ∀ k, row = some k → X k) : But X A B :=
  ⟨h.os, h.tape, h.output, h.size, fun k hk hx => h.block k hk (fun e => hx (hX k e.symm))⟩
theorem But.putObj (W : World) (l : Nat) (o : Obj) {X : Nat → Prop} (hX : X l) : But X W (W.putObj l o) :=
  But.of_grownBy (grownBy_putObj' W l o) (fun k e => by cases e; exact hX)
theorem But.alloc (W : World) (o : Obj) (X : Nat → Prop) : But X W (W.alloc o) := But.of_below ((Below.refl _ W).alloc (Nat.le_refl _) o) X
/-- Behind a step that turns the blocks of X alone, what lay in a block outside lies there still. -/
theorem But.at {X : Nat → Prop} {A B : World} (h : But X A B) {k : Nat} {o : Obj} (hk : A.heap[k]? = some o) (hx : ¬ X k) : B.heap[k]? = some o :=
  (h.block k (Array.getElem?_eq_some_iff.1 hk).1 hx).trans hk
/-- The caller's word abides an iterator's step: it turns blocks from s0 on that are not the caller's. -/
def Stable {α : Type} (s0 : Nat) (J : List α → (Nat → Prop) → World → Prop) : Prop :=
  ∀ pre C W W', J pre C W → But (fun k => s0 ≤ k ∧ ¬ C k) W W' → J pre C W'
/-- The contract of an iterator that goes over xs: it reads the blocks of Rd; C are the blocks that the caller's rounds may turn; Rep: how what is handed over lies in memory, D: the blocks that are handed over with it. -/
def Seq {α : Type} (P : Program) (g : Nat) (lb : Array Value) (xs : List α) (Rep : α → Array Value → World → (Nat → Prop) → Prop) (Rd : Nat → Prop) (w : World) : Prop :=
  ∀ (l : Nat) (J Jx : List α → (Nat → Prop) → World → Prop) (C : Nat → Prop) (W : World),
    w.heap.size ≤ W.heap.size → (∀ k, Rd k → W.heap[k]? = w.heap[k]?) → (∀ k, C k → ¬ Rd k ∧ k < W.heap.size) →
    Stable W.heap.size J → Stable W.heap.size Jx →
    (∀ pre x rest C1 D args W1, xs = pre ++ x :: rest → J pre C1 W1 → Rep x args W1 D → W.heap.size ≤ W1.heap.size → (∀ k, D k → ¬ C1 k ∧ W.heap.size ≤ k ∧ k < W1.heap.size) →
      YieldAt Fence.wide 0 P l args W1 fun e W' =>
        (e = .returned (.bool true) ∧ ∃ C2, J (pre ++ [x]) C2 W' ∧ But C1 W1 W' ∧ (∀ k, C2 k → (C1 k ∨ D k ∨ W1.heap.size ≤ k) ∧ k < W'.heap.size)) ∨
        (e = .returned (.bool false) ∧ ∃ C2, Jx (pre ++ [x]) C2 W' ∧ But C1 W1 W' ∧ (∀ k, C2 k → (C1 k ∨ D k ∨ W1.heap.size ≤ k) ∧ k < W'.heap.size))) →
    J [] C W →
    CallsIn Fence.wide 0 P g (#[.func (.yield l) #[] #[]] ++ lb) W fun e W' => (∃ v, e = .returned v) ∧ ((∃ C2, J xs C2 W') ∨ (∃ pre C2, pre <+: xs ∧ Jx pre C2 W'))
/-- How the body of a round may be left. -/
def itPost {α : Type} (I : List α → (Nat → Prop) → World → Prop) (Ix : Code → List α → (Nat → Prop) → World → Prop) (xs : List α) (C1 D : Nat → Prop) (sz : Nat) (Wb : World) : Exit → Act → World → Prop
  | .normal, _, W' => ∃ C2, I xs C2 W' ∧ But C1 Wb W' ∧ (∀ k, C2 k → (C1 k ∨ D k ∨ sz ≤ k) ∧ k < W'.heap.size)
  | .ret, _, W' => ∃ C2, Ix .ret xs C2 W' ∧ But C1 Wb W' ∧ (∀ k, C2 k → (C1 k ∨ D k ∨ sz ≤ k) ∧ k < W'.heap.size)
  | .exit id, _, W' => ∃ C2, Ix (.exit id) xs C2 W' ∧ But C1 Wb W' ∧ (∀ k, C2 k → (C1 k ∨ D k ∨ sz ≤ k) ∧ k < W'.heap.size)
  | .goto t, _, W' => ∃ C2, Ix (.goto t) xs C2 W' ∧ But C1 Wb W' ∧ (∀ k, C2 k → (C1 k ∨ D k ∨ sz ≤ k) ∧ k < W'.heap.size)
  | .panic _, _, _ => False
  | .outgrown, _, _ => False
theorem wp_range {α : Type} {P : Program} {g : Operand} {ps : Array Tmp} {assign body : Code} {Q : Exit → Act → World → Prop} {a : Act} {w : World}
    {gf : Nat} {lb : Array Value} (hg : a.eval g = .func (.func gf) #[] lb) (eg : ∀ args w, (callFunc gf args).run P w = .ok (.enter gf args) w)
    {xs : List α} {Rep : α → Array Value → World → (Nat → Prop) → Prop} {Rd : Nat → Prop} {w0 : World} (hseq : Seq P gf lb xs Rep Rd w0)
    (hsz : w0.heap.size ≤ w.heap.size) (hRd : ∀ k, Rd k → w.heap[k]? = w0.heap[k]? ∧ k < w.heap.size)
    (hps : ∀ x args W D, Rep x args W D → args.size = ps.size)
    (I : List α → (Nat → Prop) → World → Prop) (Ix : Code → List α → (Nat → Prop) → World → Prop)
    (hI : Stable w.heap.size I) (hIx : ∀ c, Stable w.heap.size (Ix c)) (C0 : Nat → Prop) (hC0 : ∀ k, C0 k → ¬ Rd k ∧ k < w.heap.size) (h0 : I [] C0 w)
    (hround : ∀ (l : Nat) (pre : List α) (x : α) (rest : List α) (C1 D : Nat → Prop) (args : Array Value) (W1 : World), xs = pre ++ x :: rest → I pre C1 W1 → Rep x args W1 D → w.heap.size < W1.heap.size →
      (∀ k, D k → ¬ C1 k ∧ w.heap.size ≤ k ∧ k < W1.heap.size) → l = w.heap.size + 1 → l < W1.heap.size → ¬ C1 l → ¬ D l →
      assign.wpIn (Fence.wide.inRound l) 0 P (Exit.then (fun a1 Wa => But (fun _ => False) W1 Wa ∧ ∀ Wb, But (fun k => k = l) Wa Wb → Wb.heap.size = Wa.heap.size → body.wpIn (Fence.wide.inRound l) 0 P (itPost I Ix (pre ++ [x]) C1 D W1.heap.size Wb) a1 Wb) (fun _ _ _ => False))
        { tmps := (ps.zip args).foldl (fun t (p, v) => t.setIfInBounds p v) a.tmps, defers := [] } W1)
    (hdone : ∀ (C2 : Nat → Prop) (W : World), I xs C2 W → W.heap[w.heap.size]? = some (.deferred (some [])) → ¬ C2 w.heap.size → Q .normal { a with defers := { target := .collected w.heap.size, args := #[] } :: a.defers } W)
    (hstop : ∀ (c : Code) (pre : List α) (C2 : Nat → Prop) (W : World), pre <+: xs → Ix c pre C2 W → W.heap[w.heap.size]? = some (.deferred (some [])) → ¬ C2 w.heap.size → c.wp P Q { a with defers := { target := .collected w.heap.size, args := #[] } :: a.defers } W) :
    (Code.rangeFunc g ps assign body).wp P Q a w := by
  refine (wpIn_wide (n := 0)).1 (wpIn_rangeFunc ?_)
  intro fn hfn
  show ∃ l mark w₁ d w₁' f args w₂, (Instr.enterLoop fn a.tmps ps assign body none).run P w = _ ∧ _
  obtain ⟨rec, hrec⟩ : ∃ rec : LoopState → Option Code → Loop, rec = fun st pe => { state := st, pending := pe, fn, tmps := a.tmps, params := ps, assign, body, defers := w.heap.size } := ⟨_, rfl⟩
  obtain ⟨W1, hW1⟩ : ∃ W1, (w.alloc (.deferred (some []))).alloc (.loop (rec .ready none)) = W1 := ⟨_, rfl⟩
  have hs1 : W1.heap.size = w.heap.size + 2 := by rw [← hW1]; simp
  have hL1 : W1.heap[w.heap.size + 1]? = some (.loop (rec .ready none)) := by
    rw [← hW1]; have := World.alloc_heap_new (w.alloc (.deferred (some []))) (.loop (rec .ready none)); rwa [World.size_alloc] at this
  have hK1 : W1.heap[w.heap.size]? = some (.deferred (some [])) := by
    rw [← hW1]; exact (Below.heap_alloc _ _ _ (by simp)).trans (World.alloc_heap_new w _)
  have hB1 : Below w.heap.size w W1 := by
    rw [← hW1]; exact ((Below.refl _ w).alloc (Nat.le_refl _) _).alloc (by simp) _
  have hI1 : I [] C0 W1 := hI _ _ _ _ h0 (But.of_below hB1 _)
  have nl : ¬ C0 (w.heap.size + 1) := fun h => by have := (hC0 _ h).2; omega
  have nd : ¬ C0 w.heap.size := fun h => by have := (hC0 _ h).2; omega
  refine ⟨w.heap.size + 1, [{ target := .collected w.heap.size, args := #[] }], W1, { target := .fn (.func gf) lb, args := #[.func (.yield (w.heap.size + 1)) #[] #[]] }, W1, gf,
    #[.func (.yield (w.heap.size + 1)) #[] #[]] ++ lb, W1, ?_, ?_, ?_, ?_, fun h => (by cases h), ?_⟩
  · rw [← hW1, hrec]; exact run_enterLoop_outer _ _ _ _ _
  · simp only [resolve, hg]
    simp [go_sem]
  · intro f' _; exact trivial
  · simp [invoke, go_sem, eg]
  · refine (hseq (w.heap.size + 1)
      (fun pre C W => ∃ C1, I pre C1 W ∧ (∀ k, C k ↔ C1 k ∨ k = w.heap.size ∨ k = w.heap.size + 1) ∧ ¬ C1 w.heap.size ∧ ¬ C1 (w.heap.size + 1) ∧ W.heap[w.heap.size + 1]? = some (.loop (rec .ready none)) ∧ W.heap[w.heap.size]? = some (.deferred (some [])))
      (fun pre C W => ∃ c C1, Ix c pre C1 W ∧ (∀ k, C k ↔ C1 k ∨ k = w.heap.size ∨ k = w.heap.size + 1) ∧ ¬ C1 w.heap.size ∧ ¬ C1 (w.heap.size + 1) ∧ W.heap[w.heap.size + 1]? = some (.loop (rec .done (some c))) ∧ W.heap[w.heap.size]? = some (.deferred (some [])))
      (fun k => C0 k ∨ k = w.heap.size ∨ k = w.heap.size + 1) W1 (by omega)
      (fun k hk => (hB1.block k (hRd k hk).2).trans (hRd k hk).1)
      (fun k hk => by
        rcases hk with hk | hk | hk
        · exact ⟨(hC0 k hk).1, by have := (hC0 k hk).2; omega⟩
        · exact ⟨fun h => by have := (hRd k h).2; omega, by omega⟩
        · exact ⟨fun h => by have := (hRd k h).2; omega, by omega⟩)
      ?_ ?_ ?_ ⟨C0, hI1, fun k => Iff.rfl, nd, nl, hL1, hK1⟩).mono ?_
    · rintro pre C A B ⟨C1, hi, hC, n1, n2, hl, hk⟩ hb
      refine ⟨C1, hI _ _ _ _ hi (hb.mono fun k _ hx => ⟨by omega, fun h => hx.2 ((hC k).2 (.inl h))⟩), hC, n1, n2, hb.at hl (by omega), hb.at hk (by omega)⟩
    · rintro pre C A B ⟨c, C1, hi, hC, n1, n2, hl, hk⟩ hb
      refine ⟨c, C1, hIx c _ _ _ _ hi (hb.mono fun k _ hx => ⟨by omega, fun h => hx.2 ((hC k).2 (.inl h))⟩), hC, n1, n2, hb.at hl (by omega), hb.at hk (by omega)⟩
    · rintro pre x rest C D args W hx ⟨C1, hi, hC, n1, n2, hl, hk⟩ hrep hsW hD
      have hlt : w.heap.size + 1 < W.heap.size := (Array.getElem?_eq_some_iff.1 hl).1
      have hy := run_yield (P := P) (args := args) hl (by rw [hrec]; exact hps x args W D hrep)
      rw [hrec] at hy
      refine ⟨fn, _, assign, body, hy, roundIn_of_wpIn hfn (wpIn_mono (hround (w.heap.size + 1) pre x rest C1 D args W hx hi hrep (by omega) (fun k h => ⟨fun h' => (hD k h).1 ((hC k).2 (.inl h')), by have := (hD k h).2.1; omega, (hD k h).2.2⟩) rfl hlt n2 (fun h => (hD _ h).1 ((hC _).2 (.inr (.inr rfl))))) ?_)⟩
      rintro e a1 Wa he
      cases e with
      | normal =>
        obtain ⟨hWa, hbody⟩ := he
        have hla := hWa.at hl (fun h => h)
        have hka := hWa.at hk (fun h => h)
        have hlta : w.heap.size + 1 < Wa.heap.size := Nat.lt_of_lt_of_le hlt hWa.size
        refine ⟨_, run_beginRound hla (by rw [hrec]), ?_⟩
        have hl2 : (Wa.putObj (w.heap.size + 1) (.loop { rec .ready none with state := .busy })).heap[w.heap.size + 1]? = some (.loop { rec .ready none with state := .busy }) := World.putObj_heap_same hlta
        have hk2 : (Wa.putObj (w.heap.size + 1) (.loop { rec .ready none with state := .busy })).heap[w.heap.size]? = some (.deferred (some [])) := (World.putObj_heap_other (by omega)).trans hka
        refine wpIn_mono (hbody _ (But.putObj Wa _ _ rfl) (by simp)) ?_
        have fin : ∀ (jump : Option Code) (W3 : World) (C2 : Nat → Prop), But C1 (Wa.putObj (w.heap.size + 1) (.loop { rec .ready none with state := .busy })) W3 → (∀ k, C2 k → (C1 k ∨ D k ∨ W.heap.size ≤ k) ∧ k < W3.heap.size) →
            (Instr.endRound (w.heap.size + 1) jump).run P W3 = .ok (.bool jump.isNone) (W3.putObj (w.heap.size + 1) (.loop (rec (if jump.isNone then .ready else .done) jump))) ∧
            But (fun k => w.heap.size ≤ k ∧ ¬ C2 k) W3 (W3.putObj (w.heap.size + 1) (.loop (rec (if jump.isNone then .ready else .done) jump))) ∧
            (W3.putObj (w.heap.size + 1) (.loop (rec (if jump.isNone then .ready else .done) jump))).heap[w.heap.size + 1]? = some (.loop (rec (if jump.isNone then .ready else .done) jump)) ∧
            (W3.putObj (w.heap.size + 1) (.loop (rec (if jump.isNone then .ready else .done) jump))).heap[w.heap.size]? = some (.deferred (some [])) ∧
            But C W (W3.putObj (w.heap.size + 1) (.loop (rec (if jump.isNone then .ready else .done) jump))) ∧ ¬ C2 w.heap.size ∧ ¬ C2 (w.heap.size + 1) := fun jump W3 C2 hb3 hC2 => by
          have hl3 := hb3.at hl2 n2
          have hk3 := hb3.at hk2 n1
          have hrun := run_endRound (P := P) jump hl3
          have m1 : ¬ C2 w.heap.size := fun h => by
            rcases (hC2 _ h).1 with h | h | h
            · exact n1 h
            · exact (hD _ h).1 ((hC _).2 (.inr (.inl rfl)))
            · omega
          have m2 : ¬ C2 (w.heap.size + 1) := fun h => by
            rcases (hC2 _ h).1 with h | h | h
            · exact n2 h
            · exact (hD _ h).1 ((hC _).2 (.inr (.inr rfl)))
            · omega
          rw [hrec] at hrun ⊢
          refine ⟨hrun, But.putObj _ _ _ ⟨by omega, m2⟩, World.putObj_heap_same (Array.getElem?_eq_some_iff.1 hl3).1, (World.putObj_heap_other (by omega)).trans hk3, ?_, m1, m2⟩
          have e1 : But C W Wa := hWa.mono fun k _ h => h.elim
          have e2 : But C Wa (Wa.putObj (w.heap.size + 1) (.loop { rec .ready none with state := .busy })) := But.putObj _ _ _ ((hC _).2 (.inr (.inr rfl)))
          have e3 : But C (Wa.putObj (w.heap.size + 1) (.loop { rec .ready none with state := .busy })) W3 := hb3.mono fun k _ h => (hC k).2 (.inl h)
          exact ((e1.trans e2).trans e3).trans (But.putObj _ _ _ ((hC _).2 (.inr (.inr rfl))))
        have bnd : ∀ (o : Obj) (W3 : World) (C2 : Nat → Prop), But C1 (Wa.putObj (w.heap.size + 1) (.loop { rec .ready none with state := .busy })) W3 → (∀ k, C2 k → (C1 k ∨ D k ∨ W.heap.size ≤ k) ∧ k < W3.heap.size) →
            ∀ k, (C2 k ∨ k = w.heap.size ∨ k = w.heap.size + 1) → (C k ∨ D k ∨ W.heap.size ≤ k) ∧ k < (W3.putObj (w.heap.size + 1) o).heap.size := fun o W3 C2 hb3 hC2 => by
          have hs3 : w.heap.size + 1 < W3.heap.size := by have := hb3.size; simp at this; omega
          rintro k (h | h | h)
          · obtain ⟨h1, h2⟩ := hC2 k h
            refine ⟨?_, by simpa using h2⟩
            rcases h1 with h1 | h1
            · exact .inl ((hC k).2 (.inl h1))
            · exact .inr h1
          · exact ⟨.inl ((hC k).2 (.inr (.inl h))), by simp; omega⟩
          · exact ⟨.inl ((hC k).2 (.inr (.inr h))), by simp; omega⟩
        rintro e a3 W3 hp
        cases e with
        | normal =>
          obtain ⟨C2, hi3, hb3, hC2⟩ := hp
          obtain ⟨hr, hst, hl4, hk4, hb4, m1, m2⟩ := fin none W3 C2 hb3 hC2
          exact ⟨_, _, hr, .inl ⟨rfl, fun k => C2 k ∨ k = w.heap.size ∨ k = w.heap.size + 1, ⟨C2, hI _ _ _ _ hi3 hst, fun k => Iff.rfl, m1, m2, hl4, hk4⟩, hb4, bnd _ W3 C2 hb3 hC2⟩⟩
        | ret =>
          obtain ⟨C2, hi3, hb3, hC2⟩ := hp
          obtain ⟨hr, hst, hl4, hk4, hb4, m1, m2⟩ := fin (some .ret) W3 C2 hb3 hC2
          exact ⟨_, _, hr, .inr ⟨rfl, fun k => C2 k ∨ k = w.heap.size ∨ k = w.heap.size + 1, ⟨.ret, C2, hIx _ _ _ _ _ hi3 hst, fun k => Iff.rfl, m1, m2, hl4, hk4⟩, hb4, bnd _ W3 C2 hb3 hC2⟩⟩
        | exit id =>
          obtain ⟨C2, hi3, hb3, hC2⟩ := hp
          obtain ⟨hr, hst, hl4, hk4, hb4, m1, m2⟩ := fin (some (.exit id)) W3 C2 hb3 hC2
          exact ⟨_, _, hr, .inr ⟨rfl, fun k => C2 k ∨ k = w.heap.size ∨ k = w.heap.size + 1, ⟨.exit id, C2, hIx _ _ _ _ _ hi3 hst, fun k => Iff.rfl, m1, m2, hl4, hk4⟩, hb4, bnd _ W3 C2 hb3 hC2⟩⟩
        | goto t =>
          obtain ⟨C2, hi3, hb3, hC2⟩ := hp
          obtain ⟨hr, hst, hl4, hk4, hb4, m1, m2⟩ := fin (some (.goto t)) W3 C2 hb3 hC2
          exact ⟨_, _, hr, .inr ⟨rfl, fun k => C2 k ∨ k = w.heap.size ∨ k = w.heap.size + 1, ⟨.goto t, C2, hIx _ _ _ _ _ hi3 hst, fun k => Iff.rfl, m1, m2, hl4, hk4⟩, hb4, bnd _ W3 C2 hb3 hC2⟩⟩
        | panic ch => exact hp.elim
        | outgrown => exact hp.elim
      | exit id => exact he.elim
      | goto t => exact he.elim
      | ret => exact he.elim
      | panic ch => exact he.elim
      | outgrown => exact he.elim
    · rintro e W2 ⟨⟨v, rfl⟩, (⟨C, C1, hi, hC, n1, n2, hl, hk⟩ | ⟨pre, C, hpre, c, C1, hi, hC, n1, n2, hl, hk⟩)⟩
      · have hend := run_endLoop (P := P) hl (by rw [hrec]; simp)
        rw [hrec] at hend
        exact ⟨none, _, hend, hdone C1 _ (hI _ _ _ _ hi (But.putObj _ _ _ ⟨by omega, n2⟩)) ((World.putObj_heap_other (by omega)).trans hk) n1⟩
      · have hend := run_endLoop (P := P) hl (by rw [hrec]; simp)
        rw [hrec] at hend
        exact ⟨some c, _, hend, (wpIn_wide (n := 0)).2 (hstop c pre C1 _ hpre (hIx c _ _ _ _ hi (But.putObj _ _ _ ⟨by omega, n2⟩)) ((World.putObj_heap_other (by omega)).trans hk) n1)⟩
end Go.Proofs.Ytjplkffghfikgaa

/-
  Slices of one-cell elements as lists of values; arguments of types []uint64, []int64, []int and [][]byte, opened.
-/
namespace Go.Proofs.Ytjplkffghfikgaa
open Go.ChangeShapes Go.WideShapes Go.ChangeAt Go.RowKit Go.Deep
/-- Values vs lie from address ao on. -/
def At (w : World) (ao : Option Addr) (vs : List Value) : Prop :=
  ∀ i (h : i < vs.length), ∃ b off, ao = some ⟨b, off, none⟩ ∧ w.cell? ⟨b, off + i, none⟩ = some vs[i]
/-- The value v is a slice of the values vs. -/
def Row (w : World) (v : Value) (vs : List Value) : Prop :=
  ∃ ao cap, v = .slice ao vs.length cap ∧ (ao = none → vs = [] ∧ cap = 0) ∧ vs.length ≤ cap ∧ cap ≤ maxLen ∧ At w ao vs
theorem At.at {w : World} {ao : Option Addr} {vs : List Value} (h : At w ao vs) (hl : 0 < vs.length) :
    ∃ b off, ao = some ⟨b, off, none⟩ ∧ ∀ i (h : i < vs.length), w.cell? ⟨b, off + i, none⟩ = some vs[i] := by
  obtain ⟨b, off, e, _⟩ := h 0 hl
  refine ⟨b, off, e, fun i hi => ?_⟩
  obtain ⟨b', off', e', hc⟩ := h i hi
  rw [e] at e'
  simp only [Option.some.injEq, Addr.mk.injEq] at e'
  obtain ⟨rfl, rfl, _⟩ := e'
  exact hc
theorem Row.nil (w : World) : Row w (.slice none 0 0) [] := ⟨none, 0, rfl, fun _ => ⟨rfl, rfl⟩, Nat.le_refl _, Nat.zero_le _, fun i hi => by simp at hi⟩
theorem Below.row {w w' : World} (h : Below w.heap.size w w') {v : Value} {vs : List Value} (g : Row w v vs) : Row w' v vs := by
  obtain ⟨ao, cap, h1, h2, h3, h4, h5⟩ := g
  refine ⟨ao, cap, h1, h2, h3, h4, fun i hi => ?_⟩
  obtain ⟨b, off, e, hc⟩ := h5 i hi
  exact ⟨b, off, e, by rw [h.cell (p := ⟨b, off + i, none⟩) (lt_of_cell hc)]; exact hc⟩
end Go.Proofs.Ytjplkffghfikgaa

/-
  Whole numbers of many words of 64 bits, the lowest first. No program is named here.
-/
namespace Go.Proofs.Ytjplkffghfikgaa.Rl
open Go.RowKit
def Ws (ds : List Nat) : Prop := ∀ d ∈ ds, d < 18446744073709551616
theorem Ws.set {ds : List Nat} (h : Ws ds) (i x : Nat) (hx : x < 18446744073709551616) : Ws (ds.set i x) := by
  intro d hd
  rcases List.mem_or_eq_of_mem_set hd with hd | rfl
  · exact h d hd
  · exact hx
theorem Ws.get {ds : List Nat} (h : Ws ds) (i : Nat) (hi : i < ds.length) : ds[i] < 18446744073709551616 := h _ (List.getElem_mem hi)
theorem Ws.take {ds : List Nat} (h : Ws ds) (i : Nat) : Ws (ds.take i) := fun d hd => h d (List.mem_of_mem_take hd)
theorem Ws.drop {ds : List Nat} (h : Ws ds) (i : Nat) : Ws (ds.drop i) := fun d hd => h d (List.mem_of_mem_drop hd)
end Go.Proofs.Ytjplkffghfikgaa.Rl

/-
  Package real: how far apart two numbers stand; the document's own answer is the same.
-/
namespace Go.Proofs.Ytjplkffghfikgaa.Rl
open Go.RowKit
set_option maxRecDepth 100000
end Go.Proofs.Ytjplkffghfikgaa.Rl

/-
  Package real's exact sums: words in memory; which of two is less.
-/
namespace Go.Proofs.Ytjplkffghfikgaa.Rl
open Go.RowKit
set_option maxRecDepth 100000
def wcells (ds : List Nat) : Array Value := (ds.map fun d : Nat => Value.int .u64 (d : Int)).toArray
/-- Block b holds the 34 words ds. -/
def Un (q : World) (b : Nat) (ds : List Nat) : Prop := ds.length = 34 ∧ Ws ds ∧ ∃ T, q.heap[b]? = some (.cells (wcells ds) T (0, 0))
theorem Un.cell {q : World} {b : Nat} {ds : List Nat} (h : Un q b ds) (i : Nat) (hi : i < ds.length) : q.cell? ⟨b, i, none⟩ = some (.int .u64 (ds[i] : Int)) := by
  obtain ⟨_, _, _, h⟩ := h
  unfold World.cell?
  simp only [h]
  simp [wcells, hi]
theorem Un.frozen {q : World} {b : Nat} {ds : List Nat} (h : Un q b ds) (i : Nat) : q.frozen? ⟨b, i, none⟩ = false := by
  obtain ⟨_, _, _, h⟩ := h
  simp [World.frozen?, h]
theorem Un.set {q : World} {b : Nat} {ds : List Nat} (h : Un q b ds) (i x : Nat) (hx : x < 18446744073709551616) : Un (q.setCell ⟨b, i, none⟩ (.int .u64 (x : Int))) b (ds.set i x) := by
  obtain ⟨h1, h2, T, h3⟩ := h
  refine ⟨by simpa using h1, h2.set i x hx, T, ?_⟩
  rw [heap_setCell_same q b i _ _ _ h3]
  congr 2
  simp [wcells, List.map_set]
theorem Un.drew {q : World} {b : Nat} {ds : List Nat} (h : Un q b ds) : Un q.drew b ds := h
theorem Un.below {q q' : World} {b : Nat} {ds : List Nat} (h : Un q b ds) (hb : Below q.heap.size q q') : Un q' b ds := by
  obtain ⟨h1, h2, T, h3⟩ := h
  exact ⟨h1, h2, T, by rw [hb.block b (heap_lt h3)]; exact h3⟩
/-- How many times 2^-1074 a finite number of the bits s is. -/
def magB (s : Nat) : Nat := if s < 4503599627370496 then s else (s % 4503599627370496 + 4503599627370496) * 2 ^ (s / 4503599627370496 - 1)
end Go.Proofs.Ytjplkffghfikgaa.Rl

/-
  Package real's exact sums: a number added, a sum taken away.
-/
namespace Go.Proofs.Ytjplkffghfikgaa.Rl
open Go.RowKit
set_option maxRecDepth 100000
theorem words_pow (A : Nat) : 18446744073709551616 ^ A = 2 ^ (64 * A) := by rw [show 18446744073709551616 = 2 ^ 64 by omega, ← Nat.pow_mul]
end Go.Proofs.Ytjplkffghfikgaa.Rl

/-
  How many bits a number has; package real's exact sums: how many bits one has, which bits it has, what is left of it without its lowest ones.
-/
namespace Go.Proofs.Ytjplkffghfikgaa.Rl
open Go.RowKit
set_option maxRecDepth 100000
/-- n has k bits, from its highest one down. -/
def Len (n k : Nat) : Prop := n < 2 ^ k ∧ (k = 0 ∨ 2 ^ (k - 1) ≤ n)
end Go.Proofs.Ytjplkffghfikgaa.Rl

/-
  Package real's exact sums: single bits, what is left without the lowest bits, whether one of the lowest is set.
-/
namespace Go.Proofs.Ytjplkffghfikgaa.Rl
open Go.RowKit
set_option maxRecDepth 100000
end Go.Proofs.Ytjplkffghfikgaa.Rl

/-
  Package real's exact sums: the number that is next to one.
-/
namespace Go.Proofs.Ytjplkffghfikgaa.Rl
open Go.RowKit
set_option maxRecDepth 100000
/-- Is one added to what is kept of V, without its lowest s bits? -/
def upB (V s : Nat) : Bool := decide (V / 2 ^ (s - 1) % 2 = 1) && (decide (V / 2 ^ s % 2 = 1) || decide (V % 2 ^ (s - 1) ≠ 0))
/-- The bits of the number next to V times 2^-1074, of two that are as near the even one. -/
def roundB (V : Nat) : Nat := if V < 9007199254740992 then V else min ((V.log2 - 52) * 4503599627370496 + V / 2 ^ (V.log2 - 52) + (upB V (V.log2 - 52)).toNat) 9218868437227405312
end Go.Proofs.Ytjplkffghfikgaa.Rl

/-
  Package real's exact sums: what the classes alone say.
-/
namespace Go.Proofs.Ytjplkffghfikgaa.Rl
open Go.RowKit
set_option maxRecDepth 100000
def cnt (xs : List Nat) (c : Nat) : Nat := xs.countP fun b => classB b == (c : Int)
def counts (xs : List Nat) : List Nat := (List.range 10).map (cnt xs)
def ccells (xs : List Nat) : Array Value := ((counts xs).map fun n : Nat => Value.int .i64 (n : Int)).toArray
/-- Block b holds how many there are of each class. -/
def Ct (q : World) (b : Nat) (xs : List Nat) : Prop := ∃ T, q.heap[b]? = some (.cells (ccells xs) T (0, 0))
theorem Ct.cell {q : World} {b : Nat} {xs : List Nat} (h : Ct q b xs) (i : Nat) (hi : i < 10) : q.cell? ⟨b, i, none⟩ = some (.int .i64 (cnt xs i : Int)) := by
  obtain ⟨_, h⟩ := h
  unfold World.cell?
  simp only [h]
  simp [ccells, counts, hi]
theorem Ct.frozen {q : World} {b : Nat} {xs : List Nat} (h : Ct q b xs) (i : Nat) : q.frozen? ⟨b, i, none⟩ = false := by
  obtain ⟨_, h⟩ := h
  simp [World.frozen?, h]
theorem cnt_snoc (xs : List Nat) (x c : Nat) : cnt (xs ++ [x]) c = cnt xs c + if classB x = (c : Int) then 1 else 0 := by
  unfold cnt
  rw [List.countP_append]
  simp [List.countP_cons]
theorem counts_snoc (xs : List Nat) (x c : Nat) (hc : classB x = (c : Int)) : (counts xs).set c (cnt xs c + 1) = counts (xs ++ [x]) := by
  apply List.ext_getElem
  · simp [counts]
  · intro i h1 h2
    simp [counts] at h2
    simp only [counts, List.getElem_set, List.getElem_map, List.getElem_range]
    rw [cnt_snoc]
    by_cases h : c = i
    · subst h; rw [if_pos rfl, if_pos hc]
    · rw [if_neg h, if_neg (by omega)]; rfl
theorem Ct.more {q : World} {b : Nat} {xs : List Nat} (h : Ct q b xs) (x c : Nat) (hc : classB x = (c : Int)) : Ct (q.setCell ⟨b, c, none⟩ (.int .i64 ((cnt xs c : Int) + 1))) b (xs ++ [x]) := by
  obtain ⟨T, h⟩ := h
  refine ⟨T, ?_⟩
  rw [heap_setCell_same q b c _ _ _ h]
  congr 2
  rw [ccells, ccells, ← counts_snoc xs x c hc]
  simp [List.map_set]
theorem Ct.below {q q' : World} {b : Nat} {xs : List Nat} (h : Ct q b xs) (hb : Below q.heap.size q q') : Ct q' b xs := by
  obtain ⟨T, h⟩ := h
  exact ⟨T, by rw [hb.block b (heap_lt h)]; exact h⟩
theorem inf_any (w : World) (n : Int) : Calls Try.prog 26 #[.int .i64 n] w fun e w' => e = .returned (.float .f64 (if 0 ≤ n then 9218868437227405312 else 18442240474082181120)) ∧ w' = w := by
  have k2 := of_run
  go_enter Try.func26, Try.ntmps26
  go_wp2
  all_goals (go_ret; refine ⟨?_, rfl⟩; first | rfl | (split <;> first | rfl | omega))
theorem Ct.new (w : World) (cs : Array Value) (T : TypeId) (hs : cs = ccells []) : Ct (w.alloc (.cells cs T)) w.heap.size [] := ⟨T, by rw [heap_alloc_new, hs]⟩
end Go.Proofs.Ytjplkffghfikgaa.Rl

/-
  Package real's exact sums: what Sum answers.
-/
namespace Go.Proofs.Ytjplkffghfikgaa.Rl
open Go.RowKit
set_option maxRecDepth 100000
theorem pow_le2 (a b : Nat) (h : a ≤ b) : 2 ^ a ≤ 2 ^ b := Nat.pow_le_pow_right Nat.two_pos h
theorem mulpow (a x y : Nat) (h : a < 2 ^ x) : a * 2 ^ y < 2 ^ (x + y) := by rw [Nat.pow_add]; exact Nat.mul_lt_mul_of_pos_right h (Nat.two_pow_pos _)
theorem room {n : Nat} (hn : n ≤ 9223372036854775807) (s : Nat) (hs : s ≤ n * 2 ^ (53 + 2045)) : s < 18446744073709551616 ^ 34 := by
  rw [words_pow]
  have h0 : n < 2 ^ 63 := Nat.lt_of_le_of_lt hn (by decide)
  have h1 := mulpow n 63 (53 + 2045) h0
  have h2 := pow_le2 (63 + (53 + 2045)) (64 * 34) (by decide)
  exact Nat.lt_of_le_of_lt hs (Nat.lt_of_lt_of_le h1 h2)
theorem Un.new {w : World} {b : Nat} {cs : Array Value} {T : TypeId} (h : w.heap[b]? = some (.cells cs T (0, 0))) (hs : cs = wcells (List.replicate 34 0)) : Un w b (List.replicate 34 0) :=
  ⟨by simp, fun d hd => by simp at hd; omega, T, by rw [h, hs]⟩
theorem Un.grown {w w' : World} {a b : Nat} {ds : List Nat} (h : Un w a ds) (hg : w.grownBy w' (some b)) (hne : a ≠ b) : Un w' a ds := by
  obtain ⟨h1, h2, T, h3⟩ := h
  exact ⟨h1, h2, T, by rw [hg.block a (heap_lt h3) (by simpa using hne)]; exact h3⟩
end Go.Proofs.Ytjplkffghfikgaa.Rl

/-
  How Go's own less stands to the order of package real.
-/
namespace Go.Proofs.Ytjplkffghfikgaa.Rl
open Go.RowKit
set_option maxRecDepth 100000
def sg (b : Nat) : Int := if b < 9223372036854775808 then (magB b : Int) else -(magB (b - 9223372036854775808) : Int)
theorem fmt_sign : Ieee.double.signWeight = 9223372036854775808 := by decide +kernel
theorem fmt_bin : Ieee.double.binade = 4503599627370496 := by decide +kernel
theorem fmt_inf : Ieee.double.infRung = 9218868437227405312 := by decide +kernel
theorem fmt_least : Ieee.double.leastPlace = -1074 := by decide +kernel
def sgnB (b : Nat) : Bool := b / 9223372036854775808 % 2 == 1
theorem read_nan {b : Nat} (h : nanB b = true) : ∃ t, Ieee.double.read b = .nan (sgnB b) t := by
  have h1 : b % 9223372036854775808 > 9218868437227405312 := of_decide_eq_true h
  unfold Ieee.Format.read
  rw [fmt_sign, fmt_bin, fmt_inf, fmt_least]
  simp only
  rw [if_neg (by omega), if_neg (by omega), if_neg (by omega)]
  exact ⟨_, rfl⟩
theorem read_inf {b : Nat} (h : b % 9223372036854775808 = 9218868437227405312) : Ieee.double.read b = .infinity (sgnB b) := by
  unfold Ieee.Format.read
  rw [fmt_sign, fmt_bin, fmt_inf, fmt_least]
  simp only
  rw [if_neg (by omega), if_neg (by omega), if_pos h]
  rfl
theorem read_fin {b : Nat} (h : b % 9223372036854775808 < 9218868437227405312) : ∃ m k : Nat, Ieee.double.read b = .number (sgnB b) m (-1074 + (k : Int)) ∧ m * 2 ^ k = magB (b % 9223372036854775808) := by
  unfold Ieee.Format.read magB
  rw [fmt_sign, fmt_bin, fmt_inf, fmt_least]
  simp only
  by_cases h1 : b % 9223372036854775808 < 4503599627370496
  · rw [if_pos h1, if_pos h1]
    exact ⟨_, 0, rfl, by simp⟩
  · rw [if_neg h1, if_neg h1, if_pos h]
    refine ⟨_, _, rfl, ?_⟩
    rw [Nat.add_comm]
theorem mag_mono {s t : Nat} (h : s < t) : magB s < magB t := by
  unfold magB
  by_cases h1 : s < 4503599627370496
  · rw [if_pos h1]
    by_cases h2 : t < 4503599627370496
    · rw [if_pos h2]; exact h
    · rw [if_neg h2]
      have : 1 ≤ 2 ^ (t / 4503599627370496 - 1) := Nat.two_pow_pos _
      exact Nat.lt_of_lt_of_le (by omega : s < (t % 4503599627370496 + 4503599627370496)) (Nat.le_mul_of_pos_right _ this)
  · rw [if_neg h1, if_neg (by omega)]
    by_cases he : s / 4503599627370496 = t / 4503599627370496
    · rw [he]
      exact Nat.mul_lt_mul_of_pos_right (by omega) (Nat.two_pow_pos _)
    · have h3 : s / 4503599627370496 < t / 4503599627370496 := by
        have : s / 4503599627370496 ≤ t / 4503599627370496 := Nat.div_le_div_right (by omega)
        omega
      have h4 : 2 ^ (s / 4503599627370496 - 1) * 2 ≤ 2 ^ (t / 4503599627370496 - 1) := by
        rw [← Nat.pow_succ]; exact Nat.pow_le_pow_right Nat.two_pos (by omega)
      have h5 : (s % 4503599627370496 + 4503599627370496) * 2 ^ (s / 4503599627370496 - 1) < 9007199254740992 * 2 ^ (s / 4503599627370496 - 1) := Nat.mul_lt_mul_of_pos_right (by omega) (Nat.two_pow_pos _)
      have h6 : 4503599627370496 * (2 ^ (s / 4503599627370496 - 1) * 2) ≤ 4503599627370496 * 2 ^ (t / 4503599627370496 - 1) := Nat.mul_le_mul_left _ h4
      have h7 : 4503599627370496 * 2 ^ (t / 4503599627370496 - 1) ≤ (t % 4503599627370496 + 4503599627370496) * 2 ^ (t / 4503599627370496 - 1) := Nat.mul_le_mul_right _ (by omega)
      omega
theorem mag_inj {s t : Nat} (h : magB s = magB t) : s = t := by
  rcases Nat.lt_trichotomy s t with h1 | h1 | h1
  · have := mag_mono h1; omega
  · exact h1
  · have := mag_mono h1; omega
theorem mag_zero : magB 0 = 0 := by decide
theorem mul_cmp (x y : Int) (p : Nat) (hp : 0 < p) : compare x y = compare (x * p) (y * p) := by
  have hp' : (0 : Int) < p := by omega
  rcases Int.lt_trichotomy x y with h | h | h
  · rw [Int.compare_eq_lt.2 h, Int.compare_eq_lt.2 (Int.mul_lt_mul_of_pos_right h hp')]
  · subst h; rw [Int.compare_eq_eq.2 rfl, Int.compare_eq_eq.2 rfl]
  · rw [Int.compare_eq_gt.2 h, Int.compare_eq_gt.2 (Int.mul_lt_mul_of_pos_right h hp')]
theorem sg_eq {b : Nat} (hb : b < 18446744073709551616) : sg b = if sgnB b then -(magB (b % 9223372036854775808) : Int) else (magB (b % 9223372036854775808) : Int) := by
  unfold sg sgnB
  by_cases h : b < 9223372036854775808
  · rw [if_pos h, show b / 9223372036854775808 % 2 = 0 by omega, show b % 9223372036854775808 = b by omega]; exact (if_neg (by decide)).symm
  · rw [if_neg h, show b / 9223372036854775808 % 2 = 1 by omega, show b % 9223372036854775808 = b - 9223372036854775808 by omega]; exact (if_pos (by decide)).symm
theorem signed_mul (s : Bool) (m h e : Nat) (he : e ≤ h) : Ieee.signed s m (h - e) * ((2 ^ e : Nat) : Int) = if s then -((m * 2 ^ h : Nat) : Int) else ((m * 2 ^ h : Nat) : Int) := by
  unfold Ieee.signed
  have e1 : m <<< (h - e) * 2 ^ e = m * 2 ^ h := by
    rw [Nat.shiftLeft_eq, Nat.mul_assoc, ← Nat.pow_add, Nat.sub_add_cancel he]
  cases s
  · simp only [Bool.false_eq_true, if_false]; rw [← e1]; simp
  · simp only [if_true]; rw [← e1, Int.neg_mul]; simp
theorem order_eq {a b : Nat} (ha : a < 18446744073709551616) (hb : b < 18446744073709551616) (na : nanB a = false) (nb : nanB b = false) : FloatKind.f64.format.order a b = some (compare (sg a) (sg b)) := by
  have ha1 : ¬ a % 9223372036854775808 > 9218868437227405312 := of_decide_eq_false na
  have hb1 : ¬ b % 9223372036854775808 > 9218868437227405312 := of_decide_eq_false nb
  show (Ieee.double.read a).order (Ieee.double.read b) = _
  rw [sg_eq ha, sg_eq hb]
  rcases Nat.lt_or_ge (a % 9223372036854775808) 9218868437227405312 with h1 | h1
  · obtain ⟨m, h, ea, em⟩ := read_fin h1
    rw [ea, ← em]
    rcases Nat.lt_or_ge (b % 9223372036854775808) 9218868437227405312 with h2 | h2
    · obtain ⟨n, k, eb, en⟩ := read_fin h2
      rw [eb, ← en]
      show some (compare _ _) = _
      rw [show ((-1074 + (h : Int)) - min (-1074 + (h : Int)) (-1074 + (k : Int))).toNat = h - min h k by omega,
        show ((-1074 + (k : Int)) - min (-1074 + (h : Int)) (-1074 + (k : Int))).toNat = k - min h k by omega,
        mul_cmp _ _ (2 ^ min h k) (Nat.two_pow_pos _), signed_mul _ _ _ _ (Nat.min_le_left _ _), signed_mul _ _ _ _ (Nat.min_le_right _ _)]
    · have h3 : b % 9223372036854775808 = 9218868437227405312 := by omega
      rw [read_inf h3, h3]
      show some (if sgnB b then _ else _) = _
      have hm := mag_mono h1
      rw [em]
      have h0 : (0 : Int) ≤ (magB (a % 9223372036854775808) : Int) := Int.natCast_nonneg _
      cases sgnB b <;> cases sgnB a <;> simp only [Bool.false_eq_true, if_false, if_true]
      · rw [Int.compare_eq_lt.2 (by omega)]
      · rw [Int.compare_eq_lt.2 (by omega)]
      · rw [Int.compare_eq_gt.2 (by omega)]
      · rw [Int.compare_eq_gt.2 (by omega)]
  · have h3 : a % 9223372036854775808 = 9218868437227405312 := by omega
    rw [read_inf h3, h3]
    rcases Nat.lt_or_ge (b % 9223372036854775808) 9218868437227405312 with h2 | h2
    · obtain ⟨n, k, eb, en⟩ := read_fin h2
      rw [eb, ← en]
      show some (if sgnB a then _ else _) = _
      have hm := mag_mono h2
      rw [en]
      have h0 : (0 : Int) ≤ (magB (b % 9223372036854775808) : Int) := Int.natCast_nonneg _
      cases sgnB b <;> cases sgnB a <;> simp only [Bool.false_eq_true, if_false, if_true]
      · rw [Int.compare_eq_gt.2 (by omega)]
      · rw [Int.compare_eq_lt.2 (by omega)]
      · rw [Int.compare_eq_gt.2 (by omega)]
      · rw [Int.compare_eq_lt.2 (by omega)]
    · have h4 : b % 9223372036854775808 = 9218868437227405312 := by omega
      rw [read_inf h4, h4]
      show some (compare _ _) = _
      have h0 : 0 < magB 9218868437227405312 := by have := mag_mono (show 0 < 9218868437227405312 by omega); rw [mag_zero] at this; exact this
      cases sgnB b <;> cases sgnB a <;> simp only [Bool.false_eq_true, if_false, if_true]
      · rw [Int.compare_eq_eq.2 rfl]; rfl
      · rw [Int.compare_eq_lt.2 (by omega)]; rfl
      · rw [Int.compare_eq_gt.2 (by omega)]; rfl
      · rw [Int.compare_eq_eq.2 rfl]; rfl
theorem order_nan {a b : Nat} (h : nanB a = true ∨ nanB b = true) : FloatKind.f64.format.order a b = none := by
  show (Ieee.double.read a).order (Ieee.double.read b) = _
  rcases h with h | h
  · obtain ⟨t, e⟩ := read_nan h
    rw [e]; rfl
  · obtain ⟨t, e⟩ := read_nan h
    rw [e]
    cases Ieee.double.read a <;> rfl
theorem cmp_lt {a b : Nat} (h : keyB a < keyB b) : cmpB a b = -1 := by unfold cmpB cmpZ; rw [if_pos (by omega)]
end Go.Proofs.Ytjplkffghfikgaa.Rl

/-
  Timers in memory; a clock in memory; how the heap finds the methods of its timers.
-/
namespace Go.Proofs.Ytjplkffghfikgaa.Ck
open Go.RowKit Rl
theorem hide {p : Prop} (h : p) : Hid p := h
theorem keepF {w u v : World} (h : Below w.heap.size w u) (q : Below u.heap.size u v) : Below w.heap.size w v := h.trans (q.mono h.size)
/-- Timers as cells. -/
def tcell (t : Tm) : List Value := [.int .i64 t.id, .float .f64 t.b]
def tcells (l : List Tm) : List Value := l.flatMap tcell
theorem tcells_snoc (l : List Tm) (t : Tm) : tcells (l ++ [t]) = tcells l ++ [.int .i64 t.id, .float .f64 t.b] := by simp [tcells, tcell]
theorem tcells_len (l : List Tm) : (tcells l).length = l.length * 2 := by
  induction l with
  | nil => rfl
  | cons p r ih => rw [tcells, List.flatMap_cons, List.length_append, ← tcells, ih]; simp [tcell]; omega
theorem tcells_get (l : List Tm) : ∀ i (_ : i < l.length), (tcells l)[i * 2]? = some (.int .i64 (g l i).id) ∧ (tcells l)[i * 2 + 1]? = some (.float .f64 (g l i).b) := by
  induction l with
  | nil => intro i h; simp at h
  | cons p r ih =>
    intro i h
    rw [tcells, List.flatMap_cons, ← tcells]
    match i with
    | 0 => simp [tcell, g]
    | i + 1 =>
      have := ih i (by simpa using h)
      rw [show (i + 1) * 2 = i * 2 + 1 + 1 by omega, g_cons]
      simpa [tcell] using this
theorem tcells_take (l : List Tm) (k : Nat) : (tcells l).take (k * 2) = tcells (l.take k) := by
  induction l generalizing k with
  | nil => simp [tcells]
  | cons p r ih =>
    match k with
    | 0 => simp [tcells]
    | k + 1 =>
      rw [List.take_succ_cons]
      show List.take ((k + 1) * 2) ([_, _] ++ tcells r) = [_, _] ++ tcells (r.take k)
      rw [← ih k, show (k + 1) * 2 = k * 2 + 1 + 1 by omega]
      simp
theorem tcells_set (l : List Tm) (k : Nat) (t : Tm) : ((tcells l).set (k * 2) (.int .i64 t.id)).set (k * 2 + 1) (.float .f64 t.b) = tcells (l.set k t) := by
  induction l generalizing k with
  | nil => simp [tcells]
  | cons p r ih =>
    match k with
    | 0 => simp [tcells, tcell]
    | k + 1 =>
      rw [List.set_cons_succ]
      show (([_, _] ++ tcells r).set ((k + 1) * 2) _).set ((k + 1) * 2 + 1) _ = [_, _] ++ tcells (r.set k t)
      rw [← ih k, show (k + 1) * 2 = k * 2 + 1 + 1 by omega]
      simp
/-- The timers l as a list v of the call's own memory. -/
def Tms (w : World) (v : Value) (l : List Tm) : Prop := w.ownsRow 0 70 2 v l.length (tcells l)
theorem Tms.nil (w : World) : Tms w (.slice none 0 0) [] := World.ownsRow_nil _ _ _ _
theorem Tms.form {w : World} {v : Value} {l : List Tm} (h : Tms w v l) : ∃ ao ca, v = .slice ao l.length ca ∧ ca ≤ 9223372036854775807 ∧ l.length ≤ ca := by
  rcases h.2 with ⟨rfl, e⟩ | ⟨g, cap, cur, rfl, _, _, a, b, _⟩
  · exact ⟨_, _, by rw [e], by omega, by omega⟩
  · exact ⟨_, _, rfl, by unfold maxLen at b; omega, a⟩
theorem Tms.at {w : World} {v : Value} {l : List Tm} (h : Tms w v l) (hl : l ≠ []) : ∃ b ca cs, v = .slice (some ⟨b, 0, none⟩) l.length ca ∧ w.heap[b]? = some (.cells cs 70 (0, 0)) ∧ cs.size = ca * 2 ∧ cs.toList.take (l.length * 2) = tcells l ∧ l.length ≤ ca ∧ ca ≤ 9223372036854775807 ∧ b < w.heap.size := by
  rcases h.2 with ⟨rfl, e⟩ | ⟨g, cap, cur, rfl, _, hh, a, b, c, d⟩
  · exact absurd (List.length_eq_zero_iff.1 e) hl
  · exact ⟨g, cap, cur, rfl, hh, c, d, a, by unfold maxLen at b; omega, heap_lt hh⟩
theorem Tms.but {X : Nat → Prop} {A B : World} {v : Value} {l : List Tm} (h : Tms A v l) (hb : But X A B) (hx : ∀ k, v.ownBlock = some k → ¬ X k) : Tms B v l := by
  refine ⟨h.1, ?_⟩
  rcases h.2 with h | ⟨g, cap, cur, rfl, hg, hh, r⟩
  · exact .inl h
  · exact .inr ⟨g, cap, cur, rfl, hg, hb.at hh (hx g rfl), r⟩
theorem Tms.below {A B : World} {v : Value} {l : List Tm} (h : Tms A v l) (hb : Below A.heap.size A B) : Tms B v l := h.but (But.of_below hb fun _ => False) fun _ _ c => c
theorem Tms.no {w : World} {v : Value} {l : List Tm} {b : Nat} {cs : Array Value} {T : TypeId} {fz : Nat × Nat} (h : Tms w v l) (hb : w.heap[b]? = some (.cells cs T fz)) (hT : T ≠ 70) : v.ownBlock ≠ some b := fun e1 => by
  rcases h.2 with ⟨rfl, _⟩ | ⟨g, cap, cur, rfl, hg, hh, r⟩
  · simp [Value.ownBlock] at e1
  · simp [Value.ownBlock] at e1
    subst e1
    rw [hb] at hh
    simp at hh
    exact hT hh.2.1
theorem Tms.lt {w : World} {v : Value} {l : List Tm} (h : Tms w v l) : ∀ k, v.ownBlock = some k → k < w.heap.size := fun k hk => (World.ownsRow.lt h k hk).2
theorem cell_of {w : World} {b j : Nat} {cs : Array Value} {T : TypeId} {z : Nat × Nat} (h : w.heap[b]? = some (.cells cs T z)) : w.cell? ⟨b, j, none⟩ = cs[j]? := by simp [World.cell?, h]
/-- A timer of the list, as it is read. -/
theorem Tms.read {w : World} {b n ca : Nat} {l : List Tm} (h : Tms w (.slice (some ⟨b, 0, none⟩) n ca) l) (i : Nat) (hi : i < l.length) : w.cell? ⟨b, i * 2, none⟩ = some (.int .i64 (g l i).id) ∧ w.cell? ⟨b, i * 2 + 1, none⟩ = some (.float .f64 (g l i).b) := by
  obtain ⟨b', ca', cs, e, hh, _, hc, _⟩ := h.at (fun c => by rw [c] at hi; simp at hi)
  simp at e
  obtain ⟨rfl, _, rfl⟩ := e
  have hj : ∀ j, j < l.length * 2 → w.cell? ⟨b, j, none⟩ = (tcells l)[j]? := by
    intro j hj
    rw [cell_of hh, ← hc, List.getElem?_take_of_lt hj]
    simp
  obtain ⟨e1, e2⟩ := tcells_get l i hi
  exact ⟨by rw [hj _ (by omega), e1], by rw [hj _ (by omega), e2]⟩
theorem Tms.take {w : World} {b n ca : Nat} {l : List Tm} (h : Tms w (.slice (some ⟨b, 0, none⟩) n ca) l) (k : Nat) (hk : k ≤ l.length) : Tms w (.slice (some ⟨b, 0, none⟩) k ca) (l.take k) := by
  have hl : (l.take k).length = k := by simp; omega
  refine ⟨by rw [hl, tcells_len, hl], .inr ?_⟩
  rcases h.2 with ⟨e, _⟩ | ⟨g', cap, cur, e, hg, hh, a, b, c, d⟩
  · simp at e
  · simp at e
    obtain ⟨rfl, _, rfl⟩ := e
    refine ⟨_, ca, cur, by rw [hl], hg, hh, by omega, b, c, ?_⟩
    rw [hl, ← tcells_take, ← d, List.take_take]
    congr 1
    omega
/-- A timer of the list written over. -/
theorem Tms.set {w : World} {b n ca : Nat} {l : List Tm} (h : Tms w (.slice (some ⟨b, 0, none⟩) n ca) l) (k : Nat) (t : Tm) : Tms ((w.setCell ⟨b, k * 2, none⟩ (.int .i64 t.id)).setCell ⟨b, k * 2 + 1, none⟩ (.float .f64 t.b)) (.slice (some ⟨b, 0, none⟩) n ca) (l.set k t) := by
  rcases h.2 with ⟨e, _⟩ | ⟨g', cap, cur, e, hg, hh, a, b', c, d⟩
  · simp at e
  · simp at e
    obtain ⟨rfl, rfl, rfl⟩ := e
    have h1 : (w.setCell ⟨b, k * 2, none⟩ (.int .i64 t.id)).heap[b]? = some (.cells (cur.setIfInBounds (k * 2) (.int .i64 t.id)) 70 (0, 0)) := by rw [heap_setCell_same w b (k * 2) _ _ _ hh]
    have h2 : ((w.setCell ⟨b, k * 2, none⟩ (.int .i64 t.id)).setCell ⟨b, k * 2 + 1, none⟩ (.float .f64 t.b)).heap[b]? = some (.cells ((cur.setIfInBounds (k * 2) (.int .i64 t.id)).setIfInBounds (k * 2 + 1) (.float .f64 t.b)) 70 (0, 0)) := by rw [heap_setCell_same _ b (k * 2 + 1) _ _ _ h1]
    refine ⟨by rw [tcells_len], .inr ⟨b, ca, _, by rw [List.length_set], hg, h2, by rw [List.length_set]; exact a, b', by simpa using c, ?_⟩⟩
    rw [List.length_set, ← tcells_set, ← d]
    simp [List.take_set]
/-- The types of a clock: the program's. -/
structure C where
  now : Nat
  nx : Int
/-- At block b lies a clock, its timers the list v. -/
structure At (w : World) (b : Nat) (c : C) (v : Value) (l : List Tm) : Prop where
  box : w.heap[b]? = some (.cells #[.float .f64 c.now, .int .i64 c.nx, v] 56 (0, 0))
  row : Tms w v l
def Own (b : Nat) (v : Value) : Nat → Prop := fun k => k = b ∨ v.ownBlock = some k
theorem At.but {Y : Nat → Prop} {A B : World} {b : Nat} {c : C} {v : Value} {l : List Tm} (h : At A b c v l) (hb : But Y A B) (hx : ∀ k, Own b v k → ¬ Y k) : At B b c v l :=
  ⟨hb.at h.box (hx b (.inl rfl)), h.row.but hb fun k hk => hx k (.inr hk)⟩
theorem At.below {A B : World} {b : Nat} {c : C} {v : Value} {l : List Tm} (h : At A b c v l) (hb : Below A.heap.size A B) : At B b c v l := h.but (But.of_below hb fun _ => False) fun _ _ c => c
theorem At.lt {w : World} {b : Nat} {c : C} {v : Value} {l : List Tm} (h : At w b c v l) : ∀ k, Own b v k → k < w.heap.size := by
  rintro k (rfl | hk)
  · exact heap_lt h.box
  · exact h.row.lt k hk
theorem At.cells {w : World} {b : Nat} {c : C} {v : Value} {l : List Tm} (h : At w b c v l) : w.cell? ⟨b, 0, none⟩ = some (.float .f64 c.now) ∧ w.cell? ⟨b, 1, none⟩ = some (.int .i64 c.nx) ∧ w.cell? ⟨b, 2, none⟩ = some v := by
  have := h.box
  simp [World.cell?, this]
theorem At.frozen {w : World} {b : Nat} {c : C} {v : Value} {l : List Tm} (h : At w b c v l) : w.frozen? ⟨b, 0, none⟩ = false ∧ w.frozen? ⟨b, 1, none⟩ = false ∧ w.frozen? ⟨b, 2, none⟩ = false := by
  have := h.box
  simp [World.frozen?, this]
theorem At.ap {w : World} {b : Nat} {c : C} {v : Value} {l : List Tm} (h : At w b c v l) : v.ownBlock ≠ some b := h.row.no h.box (by decide)
theorem At.setV {w : World} {b : Nat} {c : C} {v v' : Value} {l l' : List Tm} (h : At w b c v l) (hv : Tms w v' l') : At (w.setCell ⟨b, 2, none⟩ v') b c v' l' := by
  refine ⟨?_, ?_⟩
  · rw [heap_setCell_same w b 2 _ _ _ h.box]; simp
  · have g1 : But (fun k => k = b) w (w.setCell ⟨b, 2, none⟩ v') := But.of_grownBy (grown_setCell _ _ _ _) fun k e => by cases e; rfl
    exact hv.but g1 fun k hk e => hv.no h.box (by decide) (by rw [← e]; exact hk)
theorem At.setNow {w : World} {b : Nat} {c : C} {v : Value} {l : List Tm} (h : At w b c v l) (n : Nat) : At (w.setCell ⟨b, 0, none⟩ (.float .f64 n)) b ⟨n, c.nx⟩ v l := by
  refine ⟨?_, ?_⟩
  · rw [heap_setCell_same w b 0 _ _ _ h.box]; simp
  · have g1 : But (fun k => k = b) w (w.setCell ⟨b, 0, none⟩ (.float .f64 n)) := But.of_grownBy (grown_setCell _ _ _ _) fun k e => by cases e; rfl
    exact h.row.but g1 fun k hk e => h.row.no h.box (by decide) (by rw [← e]; exact hk)
theorem At.setNx {w : World} {b : Nat} {c : C} {v : Value} {l : List Tm} (h : At w b c v l) (n : Int) : At (w.setCell ⟨b, 1, none⟩ (.int .i64 n)) b ⟨c.now, n⟩ v l := by
  refine ⟨?_, ?_⟩
  · rw [heap_setCell_same w b 1 _ _ _ h.box]; simp
  · have g1 : But (fun k => k = b) w (w.setCell ⟨b, 1, none⟩ (.int .i64 n)) := But.of_grownBy (grown_setCell _ _ _ _) fun k e => by cases e; rfl
    exact h.row.but g1 fun k hk e => h.row.no h.box (by decide) (by rw [← e]; exact hk)
theorem but_set (w : World) (b j : Nat) (x v : Value) : But (Own b v) w (w.setCell ⟨b, j, none⟩ x) := But.of_grownBy (grown_setCell w b j x) fun k e => by cases e; exact .inl rfl
/-- How a method is found: its row of the type. -/
theorem methodsOf {P : Program} {t : TypeId} {nm : String} {f : FuncId} {pr : Bool} (h : (P.info? t).map (fun i => (i.methods.find? (·.name == nm)).map (fun m => (m.path.toList.isEmpty, m.func))) = some (some (true, some (f, pr)))) (q : World) :
    ∃ i m, (typeInfo t).run P q = .ok i q ∧ i.methods.find? (·.name == nm) = some m ∧ m.path = #[] ∧ m.func = some (f, pr) := by
  cases hi : P.info? t with
  | none => rw [hi] at h; simp at h
  | some i =>
    rw [hi] at h
    simp only [Option.map_some, Option.some.injEq] at h
    cases hm : i.methods.find? (·.name == nm) with
    | none => rw [hm] at h; simp at h
    | some m =>
      rw [hm] at h
      simp at h
      exact ⟨i, m, by unfold typeInfo; simp [go_sem, hi], hm, h.1, h.2⟩
theorem wrap_some (ts : Array TypeId) (t : TypeId) (a : Addr) (x y : String) : Builtin.ssaWrapNilChk_ ts t #[.pointer (some a), strVal x, strVal y] = pure (.pointer (some a)) := rfl
/-- A method of the value, found by a pointer: it is handed what lies there. -/
theorem meth_at {q : World} {a : Addr} {v : Value} {nm : String} {f : FuncId} (n : Nat) (hf : (Try.prog.info? 72).map (fun i => (i.methods.find? (·.name == nm)).map (fun m => (m.path.toList.isEmpty, m.func))) = some (some (true, some (f, false)))) (h : q.cell? a = some v) : (method (n + 1) 72 (.pointer (some a)) nm).run Try.prog q = .ok (f, v) q := by
  unfold method
  obtain ⟨i, m, hi, hm, hp, hf⟩ := methodsOf hf q
  have hu : (underlying 72).run Try.prog q = .ok (.pointer 54) q := by kernel_rfl
  simp [go_sem, hi, hm, hp, hf, follow, receiverAt, hu, Place.get, wrap_some, asAddr, h]
/-- A method of the pointer. -/
theorem meth_ptr {q : World} {a : Addr} {nm : String} {f : FuncId} (n : Nat) (hf : (Try.prog.info? 72).map (fun i => (i.methods.find? (·.name == nm)).map (fun m => (m.path.toList.isEmpty, m.func))) = some (some (true, some (f, true)))) : (method (n + 1) 72 (.pointer (some a)) nm).run Try.prog q = .ok (f, .pointer (some a)) q := by
  unfold method
  obtain ⟨i, m, hi, hm, hp, hf⟩ := methodsOf hf q
  have hu : (underlying 72).run Try.prog q = .ok (.pointer 54) q := by kernel_rfl
  simp [go_sem, hi, hm, hp, hf, follow, receiverAt, hu, Place.get]
/-- The heap's own handle on the timers of the clock at block b. -/
def hI (b : Nat) : Value := .iface 72 (.pointer (some ⟨b, 2, none⟩))
theorem meth_len {q : World} {b : Nat} {v : Value} (h : q.cell? ⟨b, 2, none⟩ = some v) : (method 240 72 (.pointer (some ⟨b, 2, none⟩)) "Len").run Try.prog q = .ok (95, v) q := meth_at _ (by kernel_rfl) h
theorem meth_less {q : World} {b : Nat} {v : Value} (h : q.cell? ⟨b, 2, none⟩ = some v) : (method 240 72 (.pointer (some ⟨b, 2, none⟩)) "Less").run Try.prog q = .ok (96, v) q := meth_at _ (by kernel_rfl) h
theorem meth_swap {q : World} {b : Nat} {v : Value} (h : q.cell? ⟨b, 2, none⟩ = some v) : (method 240 72 (.pointer (some ⟨b, 2, none⟩)) "Swap").run Try.prog q = .ok (97, v) q := meth_at _ (by kernel_rfl) h
theorem meth_push (q : World) (b : Nat) : (method 240 72 (.pointer (some ⟨b, 2, none⟩)) "Push").run Try.prog q = .ok (99, .pointer (some ⟨b, 2, none⟩)) q := meth_ptr _ (by kernel_rfl)
theorem meth_pop (q : World) (b : Nat) : (method 240 72 (.pointer (some ⟨b, 2, none⟩)) "Pop").run Try.prog q = .ok (98, .pointer (some ⟨b, 2, none⟩)) q := meth_ptr _ (by kernel_rfl)
end Go.Proofs.Ytjplkffghfikgaa.Ck

/-
  A region that draws its order, whose last call turns what the loads read: S is asked behind every operation but that one, for which all loads wait no more. (After the law of regions that hold loads beside calls: the same proof, but for the one operation.)
-/
namespace Go.Proofs.Ytjplkffghfikgaa.Ix
open Go
variable {P : Program} {ops : Array Oper} {Q : Exit → Act → World → Prop} {md : Region.Mode} {S : World → Prop} {d : Nat}
/-- m waits for p, the next for m, and so on. -/
def pathB (md : Region.Mode) (ops : Array Oper) : Nat → List Nat → Bool
  | _, [] => true
  | p, m :: r => (match ops[m]? with | some o => o.after.any fun e => Region.binds md e && e.on == p | none => false) && pathB md ops m r
theorem not_ready {listed : Array Bool} : ∀ (ms : List Nat) (p : Nat), pathB md ops p ms = true → listed.getD p false = false → (∀ m ∈ ms, listed.getD m true = false) → ∀ m ∈ ms, m ∉ Region.ready md ops listed := by
  intro ms
  induction ms with
  | nil => intro p _ _ _ m hm; cases hm
  | cons a r ih =>
    intro p hp hl hu m hm
    rw [pathB, Bool.and_eq_true] at hp
    obtain ⟨h1, h2⟩ := hp
    have ha : a ∉ Region.ready md ops listed := fun hr => by
      obtain ⟨_, o, ho, hall⟩ := mem_ready.1 hr
      rw [ho] at h1
      simp only [Array.any_eq_true] at h1
      obtain ⟨i, hi, he⟩ := h1
      rw [Bool.and_eq_true] at he
      have := hall _ (Array.getElem_mem hi) he.1
      rw [show (o.after[i]).on = p by simpa using he.2, hl] at this
      cases this
    rcases List.mem_cons.1 hm with rfl | hm
    · exact ha
    · have hla : listed.getD a false = false := by
        have := hu a (by simp)
        by_cases hs : a < listed.size
        · simp [Array.getD, hs] at this ⊢; exact this
        · simp [Array.getD, hs]
      exact ih a h2 hla (fun m hm => hu m (by simp [hm])) m hm
/-- Whatever order is picked from here on, and S holds behind every operation that is carried out, but behind d. -/
def wpAnyT (P : Program) (md : Region.Mode) (ops : Array Oper) (Q : Exit → Act → World → Prop) (S : World → Prop) (d : Nat) : Nat → Array Bool → Act → World → Prop
  | 0, listed, a, w => Region.ready md ops listed = [] ∧ Q .normal a w
  | fuel + 1, listed, a, w =>
    (Region.ready md ops listed = [] → Q .normal a w) ∧
    ∀ i ∈ Region.ready md ops listed, wpOp P ops Q i (fun a' w' => ((listed.setIfInBounds i true).getD d false = false → S w') ∧ wpAnyT P md ops Q S d fuel (listed.setIfInBounds i true) a' w') a w
theorem wpAny_of_T : ∀ (fuel : Nat) (listed : Array Bool) (a : Act) (w : World), wpAnyT P md ops Q S d fuel listed a w → wpAny P md ops Q fuel listed a w
  | 0, _, _, _, h => h
  | fuel + 1, _, _, _, h => ⟨h.1, fun i hi => wpOp_mono (fun a' w' h' => wpAny_of_T fuel _ a' w' h'.2) (h.2 i hi)⟩
theorem getD_false {listed : Array Bool} {m : Nat} (h : listed.getD m true = false) : listed.getD m false = false := by
  by_cases hs : m < listed.size
  · simp [Array.getD, hs] at h ⊢; exact h
  · simp [Array.getD, hs]
theorem vac {b : Bool} {p : Prop} (hb : b = true) : b = false → p := fun h => by rw [hb] at h; cases h
theorem getD_unlisted {listed : Array Bool} {j m : Nat} (h : listed.getD m true = false) (hne : j ≠ m) : (listed.setIfInBounds j true).getD m true = false := by
  rw [getD_set_ne true hne]; exact h
theorem wpAnyT_first {i : Nat} {oi : Oper} {v : Value} {ms : List Nat} (hi : ops[i]? = some oi) (hsel : ∀ (j : Nat) (o : Oper) cs b, ops[j]? = some o → o.op ≠ .select cs b)
    (hQ : ∀ c a w, Q (.panic c) (a.put oi.dst v) w → Q (.panic c) a w) (hpath : pathB md ops i ms = true) (hdm : d ∈ ms) :
    ∀ (fuel : Nat) (listed : Array Bool) (a : Act) (w : World),
      (∀ j oj, ops[j]? = some oj → j ≠ i → listed.getD j true = false → (∀ e ∈ oj.after, Region.binds md e = true → e.on ≠ i) → oi.apart ops oj = true) →
      i ∈ Region.ready md ops listed → (∀ m ∈ ms, listed.getD m true = false) → YieldsIf P ops S oi v a → S w →
      wpAnyT P md ops Q S d fuel (listed.setIfInBounds i true) (a.put oi.dst v) w → wpAnyT P md ops Q S d (fuel + 1) listed a w := by
  intro fuel
  induction fuel with
  | zero =>
    intro listed a w _ hr _ hy hS H
    refine ⟨fun h => (by rw [h] at hr; cases hr), fun j hj => ?_⟩
    by_cases hji : j = i
    · subst hji; exact hy.wpOp hi hS ⟨fun _ => hS, H⟩
    · have := ready_mono hj hji
      rw [H.1] at this
      cases this
  | succ fuel ih =>
    intro listed a w hfree hr hms hy hS H
    refine ⟨fun h => (by rw [h] at hr; cases hr), fun j hj => ?_⟩
    by_cases hji : j = i
    · subst hji; exact hy.wpOp hi hS ⟨fun _ => hS, H⟩
    · have hil : listed.getD i false = false := by
        have := (mem_ready.1 hr).1
        by_cases hs : i < listed.size
        · simp [Array.getD, hs] at this ⊢; exact this
        · simp [Array.getD, hs]
      have hnm : j ∉ ms := fun h => not_ready ms i hpath hil hms j h hj
      have hjd : j ≠ d := fun e => hnm (by rw [e]; exact hdm)
      have hid : i ≠ d := fun e => not_ready ms i hpath hil hms d hdm (by rw [← e]; exact hr)
      have hdj : ((listed.setIfInBounds i true).setIfInBounds j true).getD d false = false := getD_false (getD_unlisted (getD_unlisted (hms d hdm) hid) hjd)
      have h1 := H.2 j (ready_mono hj hji)
      obtain ⟨hjun, oj, hoj, hall⟩ := mem_ready.1 hj
      have hnot : ∀ e ∈ oj.after, Region.binds md e = true → e.on ≠ i := fun e he hb heq => by
        have h1 := hall e he hb
        rw [heq, hil] at h1
        cases h1
      have h2 := wpOp_putIf hoj (hfree j oj hoj hji hjun hnot) (fun cs b => hsel i oi cs b hi) (fun cs b => hsel j oj cs b hoj) hQ hy h1
      have hfree' : ∀ k ok, ops[k]? = some ok → k ≠ i → (listed.setIfInBounds j true).getD k true = false →
          (∀ e ∈ ok.after, Region.binds md e = true → e.on ≠ i) → oi.apart ops ok = true := fun k ok hk hki hun hno => by
        refine hfree k ok hk hki ?_ hno
        by_cases hjk : j = k
        · subst hjk; exact hjun
        · rw [getD_set_ne true hjk] at hun; exact hun
      refine wpOp_mono (fun a' w' h3 => ⟨fun _ => h3.2.1 hdj, ih (listed.setIfInBounds j true) a' w' hfree' (ready_mono hr (Ne.symm hji)) (fun m hm => getD_unlisted (hms m hm) (fun e => hnm (by rw [e]; exact hm))) h3.1 (h3.2.1 hdj) ?_⟩) h2
      rw [Array.setIfInBounds_comm _ _ hji]
      exact h3.2.2
theorem wpAnyT_take {i : Nat} {oi : Oper} {v : Value} (ms : List Nat) {fuel : Nat} {listed : Array Bool} {a : Act} {w : World} (hi : ops[i]? = some oi)
    (hs : Region.noSelect ops = true) (hf : Region.free md ops listed i = true) (hr : (Region.ready md ops listed).contains i = true)
    (hp : (pathB md ops i ms && ms.contains d && ms.all fun m => listed.getD m true == false) = true)
    (hQ : ∀ c a w, Q (.panic c) (a.put oi.dst v) w → Q (.panic c) a w) (hy : YieldsIf P ops S oi v a) (hS : S w)
    (h : wpAnyT P md ops Q S d fuel (listed.setIfInBounds i true) (a.put oi.dst v) w) : wpAnyT P md ops Q S d (fuel + 1) listed a w := by
  simp only [Bool.and_eq_true, List.all_eq_true] at hp
  exact wpAnyT_first hi (Region.noSelect_spec hs) hQ hp.1.1 (by simpa using hp.1.2) fuel listed a w (Region.free_spec hi hf) (by simpa using hr) (fun m hm => by simpa using hp.2 m hm) hy hS h
/-- Only one may come up. -/
theorem wpAnyT_one {i : Nat} {o : Oper} {fuel : Nat} {listed : Array Bool} {a : Act} {w : World} (hr : Region.ready md ops listed = [i]) (ho : ops[i]? = some o)
    (h : ∀ K' : Act → World → Prop, Shut (∀ a w, ((listed.setIfInBounds i true).getD d false = false → S w) → wpAnyT P md ops Q S d fuel (listed.setIfInBounds i true) a w → K' a w) → if Region.wanted o (yielded ops a.tmps) = true then Oper.wp P o a w K' Q else K' (a.put o.dst undef) w) :
    wpAnyT P md ops Q S d (fuel + 1) listed a w := by
  refine ⟨fun h0 => (by rw [h0] at hr; cases hr), fun j hj => ?_⟩
  rw [hr, List.mem_singleton] at hj
  subst hj
  exact wpOp_step ho (fun K' hK => h K' (fun a w hS hW => hK a w ⟨hS, hW⟩))
theorem wpAnyT_done {listed : Array Bool} {a : Act} {w : World} (hr : Region.ready md ops listed = []) (h : Q .normal a w) : ∀ fuel, wpAnyT P md ops Q S d fuel listed a w
  | 0 => ⟨hr, h⟩
  | _ + 1 => ⟨fun _ => h, by rw [hr]; simp⟩
theorem wp_region_T {id : Nat} {a : Act} {w : World} (S : World → Prop) (d : Nat) (hm : P.follows .mixedOrders = true)
    (h : wpAnyT P .any ops Q S d ops.size (Array.replicate ops.size false) a w.drew) : (Code.region id ops true).wp P Q a w :=
  wp_region_any hm (wpAny_of_T _ _ _ _ h)
end Go.Proofs.Ytjplkffghfikgaa.Ix

/-
  Which of two timers goes off first: the program's answer; Len, Less, Swap of its timers.
-/
namespace Go.Proofs.Ytjplkffghfikgaa.Ck
open Go.RowKit Rl
def tcmp (x y : Tm) : Int := if cmpB x.b y.b ≠ 0 then cmpB x.b y.b else cmpZ x.id y.id
theorem tcmp_lt (x y : Tm) : tcmp x y < 0 ↔ Lt x y := by
  unfold tcmp Lt cmpB cmpZ
  by_cases h1 : (keyB x.b : Int) < keyB y.b
  · simp [h1]; omega
  · by_cases h2 : (keyB y.b : Int) < keyB x.b
    · simp [h1, h2]; omega
    · have : keyB x.b = keyB y.b := by omega
      by_cases h3 : x.id < y.id
      · simp [this, h3]
      · by_cases h4 : y.id < x.id <;> simp [this, h3, h4]
theorem isNaNi_any (w : World) (x : Int) : Calls Try.prog 60 #[.int .i64 x] w fun e w' => e = .returned (.bool false) ∧ w' = w := by
  go_enter Try.func60, Try.ntmps60
  go_wp2
  go_ret
  exact ⟨rfl, rfl⟩
theorem cmpi_any (w : World) (x y : Int) : Calls Try.prog 53 #[.int .i64 x, .int .i64 y] w fun e w' => e = .returned (.int .i64 (cmpZ x y)) ∧ w' = w := by
  go_enter Try.func53, Try.ntmps53
  by_cases h1 : x < y
  · go_wp2_with (go_at_call 60; refine (isNaNi_any _ _).mono ?_; rintro e w' ⟨rfl, rfl⟩)
    go_ret
    exact ⟨by simp [cmpZ, h1], rfl⟩
  · by_cases h2 : y < x
    · go_wp2_with (go_at_call 60; refine (isNaNi_any _ _).mono ?_; rintro e w' ⟨rfl, rfl⟩)
      go_ret
      exact ⟨by simp [cmpZ, h1, h2], rfl⟩
    · go_wp2_with (go_at_call 60; refine (isNaNi_any _ _).mono ?_; rintro e w' ⟨rfl, rfl⟩)
      go_ret
      exact ⟨by unfold cmpZ; rw [if_neg (by omega), if_neg (by omega)]; rfl, rfl⟩
/-- cmp.Or of two numbers. -/
theorem or_any (w : World) (b : Nat) (x y : Int) (h0 : w.cell? ⟨b, 0, none⟩ = some (.int .i64 x)) (h1 : w.cell? ⟨b, 1, none⟩ = some (.int .i64 y)) :
    Calls Try.prog 51 #[.slice (some ⟨b, 0, none⟩) 2 2] w fun e w' => e = .returned (.int .i64 (if x ≠ 0 then x else y)) ∧ w' = w := by
  go_enter Try.func51, Try.ntmps51
  go_wp2_with fail
  go_loopw [8] (fun i wr => wr = w ∧ ∃ k : Nat, i = .int .i64 k ∧ k ≤ 2 ∧ (1 ≤ k → x = 0) ∧ (2 ≤ k → y = 0)) (fun i _ => 2 - (intOf i).toNat)
  case atStart => exact ⟨rfl, 0, rfl, by omega, by omega, by omega⟩
  case round =>
    obtain ⟨rfl, k, rfl, hk, g1, g2⟩ := hrel
    match k, hk with
    | 0, _ =>
      by_cases hx : x = 0
      · subst hx
        go_wp2_with fail
        go_roundw
        case rel => exact ⟨trivial, 1, by go_num, by omega, fun _ => trivial, by omega⟩
        case measure => simp [intOf]
      · go_wp2_with fail
        go_ret
        exact ⟨rfl, rfl⟩
    | 1, _ =>
      have hx := g1 (by omega)
      by_cases hy : y = 0
      · subst hy
        go_wp2_with fail
        go_roundw
        case rel => exact ⟨trivial, 2, by go_num, by omega, fun _ => hx, fun _ => trivial⟩
        case measure => simp [intOf]
      · go_wp2_with fail
        go_ret
        exact ⟨rfl, rfl⟩
    | 2, _ =>
      have hx := g1 (by omega)
      have hy := g2 (by omega)
      go_wp2_with fail
      go_ret
      exact ⟨rfl, rfl⟩
end Go.Proofs.Ytjplkffghfikgaa.Ck

/-
  byTime. (gen_CkD.py)
-/
namespace Go.Proofs.Ytjplkffghfikgaa.Ck
open Go.RowKit Rl
open Ix (wp_region_T wpAnyT wpAnyT_take wpAnyT_one wpAnyT_done vac)
set_option linter.unusedVariables false
theorem prc {w : World} {b : Nat} {x y : Value} {T : TypeId} {z : Nat × Nat} (h : w.heap[b]? = some (.cells #[x, y] T z)) : w.cell? ⟨b, 0, none⟩ = some x ∧ w.cell? ⟨b, 1, none⟩ = some y := ⟨by simp [World.cell?, h], by simp [World.cell?, h]⟩
/-- A timer in a block of its own. -/
def Tw (w : World) (b : Nat) (t : Tm) : Prop := w.heap[b]? = some (.cells #[.int .i64 t.id, .float .f64 t.b] 70 (0, 0))
theorem tw {w : World} {a b : Nat} {x y : Tm} (h : Tw w a x ∧ Tw w b y) : w.cell? ⟨a, 0, none⟩ = some (.int .i64 x.id) ∧ w.cell? ⟨a, 1, none⟩ = some (.float .f64 x.b) ∧ w.cell? ⟨b, 0, none⟩ = some (.int .i64 y.id) ∧ w.cell? ⟨b, 1, none⟩ = some (.float .f64 y.b) := by
  obtain ⟨h1, h2⟩ := h
  unfold Tw at h1 h2
  refine ⟨by simp [World.cell?, h1], by simp [World.cell?, h1], by simp [World.cell?, h2], by simp [World.cell?, h2]⟩
theorem Tw.below {w w' : World} {b : Nat} {t : Tm} (h : Tw w b t) (hb : Below w.heap.size w w') : Tw w' b t := (hb.block b (heap_lt h)).trans h
theorem Tw.two {w w' : World} {a b : Nat} {x y : Tm} (h : Tw w a x ∧ Tw w b y) (hb : Below w.heap.size w w') : Tw w' a x ∧ Tw w' b y := ⟨h.1.below hb, h.2.below hb⟩
set_option maxHeartbeats 2000000 in
theorem byTime_any (w : World) (x y : Tm) (hx : x.b < 18446744073709551616) (hy : y.b < 18446744073709551616) :
    Calls Try.prog 42 #[.agg #[.int .i64 x.id, .float .f64 x.b], .agg #[.int .i64 y.id, .float .f64 y.b]] w fun e w' => e = .returned (.int .i64 (tcmp x y)) ∧ Below w.heap.size w w' := by
  have B1 := box_below w (.cells #[.int .i64 x.id, .float .f64 x.b] 70)
  have N1 := heap_alloc_new w (.cells #[.int .i64 x.id, .float .f64 x.b] 70)
  have B2 := box_below (w.alloc (.cells #[.int .i64 x.id, .float .f64 x.b] 70)) (.cells #[.int .i64 y.id, .float .f64 y.b] 70)
  have N2 := heap_alloc_new (w.alloc (.cells #[.int .i64 x.id, .float .f64 x.b] 70)) (.cells #[.int .i64 y.id, .float .f64 y.b] 70)
  obtain ⟨w2, hw2⟩ : ∃ w2, Hid ((w.alloc (.cells #[.int .i64 x.id, .float .f64 x.b] 70)).alloc (.cells #[.int .i64 y.id, .float .f64 y.b] 70) = w2) := ⟨_, rfl⟩
  obtain ⟨g1, hg1⟩ : ∃ g1, Hid (w.heap.size = g1) := ⟨_, rfl⟩
  obtain ⟨g2, hg2⟩ : ∃ g2, Hid (g1 + 1 = g2) := ⟨_, rfl⟩
  have KP : Hid (Tw w2.drew g1 x ∧ Tw w2.drew g2 y) := by
    rw [← hw2.out, ← hg2.out, ← hg1.out]
    refine ⟨(B2.block _ (by simp)).trans N1, ?_⟩
    rw [World.size_alloc] at N2
    exact N2
  have KQ : Hid (Below w.heap.size w w2.drew) := by rw [← hw2.out]; exact (B1.trans (B2.mono B1.size)).drew
  clear B1 B2 N1 N2
  have hT : Hid ((if cmpB x.b y.b ≠ 0 then cmpB x.b y.b else cmpZ x.id y.id) = tcmp x y) := rfl
  go_enter Try.func42, Try.ntmps42
  go_upto_region 1 with fail
  rw [hw2.out, hg1.out, hg2.out]
  refine wp_region_T (fun q => Tw q g1 x ∧ Tw q g2 y) 12 (by kernel_rfl) ?_
  generalize w2.drew = q at *
  refine wpAnyT_take (i := 0) (oi := { dst := some 5, op := Op.fieldAddr 70 (Operand.tmp 2) 1, type := 0, pos := "timers.go:12", after := #[], guard := none }) (v := .pointer (some ⟨g1, 1, none⟩)) [1, 4, 10, 11, 12] rfl (by kernel_rfl) (by kernel_rfl) (by kernel_rfl) (by kernel_rfl) (fun _ _ _ h => h) (Or.inl ⟨by rfl, ?_⟩) KP.out ?_
  · intro wq hSw
    obtain ⟨y0, y1, y2, y3⟩ := tw hSw
    go_simp
  (try simp only [Act.put, List.setIfInBounds_toArray, List.set_cons_zero, List.set_cons_succ])
  refine wpAnyT_take (i := 1) (oi := { dst := some 6, op := Op.load 29 (Operand.tmp 5), type := 29, pos := "timers.go:12", after := #[{ on := 0, ground := Ground.data }], guard := none }) (v := .float .f64 x.b) [4, 10, 11, 12] rfl (by kernel_rfl) (by kernel_rfl) (by kernel_rfl) (by kernel_rfl) (fun _ _ _ h => h) (Or.inl ⟨by rfl, ?_⟩) KP.out ?_
  · intro wq hSw
    obtain ⟨y0, y1, y2, y3⟩ := tw hSw
    go_simp
  (try simp only [Act.put, List.setIfInBounds_toArray, List.set_cons_zero, List.set_cons_succ])
  refine wpAnyT_take (i := 2) (oi := { dst := some 7, op := Op.fieldAddr 70 (Operand.tmp 3) 1, type := 0, pos := "timers.go:12", after := #[], guard := none }) (v := .pointer (some ⟨g2, 1, none⟩)) [3, 4, 10, 11, 12] rfl (by kernel_rfl) (by kernel_rfl) (by kernel_rfl) (by kernel_rfl) (fun _ _ _ h => h) (Or.inl ⟨by rfl, ?_⟩) KP.out ?_
  · intro wq hSw
    obtain ⟨y0, y1, y2, y3⟩ := tw hSw
    go_simp
  (try simp only [Act.put, List.setIfInBounds_toArray, List.set_cons_zero, List.set_cons_succ])
  refine wpAnyT_take (i := 3) (oi := { dst := some 8, op := Op.load 29 (Operand.tmp 7), type := 29, pos := "timers.go:12", after := #[{ on := 2, ground := Ground.data }], guard := none }) (v := .float .f64 y.b) [4, 10, 11, 12] rfl (by kernel_rfl) (by kernel_rfl) (by kernel_rfl) (by kernel_rfl) (fun _ _ _ h => h) (Or.inl ⟨by rfl, ?_⟩) KP.out ?_
  · intro wq hSw
    obtain ⟨y0, y1, y2, y3⟩ := tw hSw
    go_simp
  (try simp only [Act.put, List.setIfInBounds_toArray, List.set_cons_zero, List.set_cons_succ])
  refine wpAnyT_take (i := 5) (oi := { dst := some 10, op := Op.fieldAddr 70 (Operand.tmp 2) 0, type := 0, pos := "timers.go:12", after := #[], guard := none }) (v := .pointer (some ⟨g1, 0, none⟩)) [6, 9, 10, 11, 12] rfl (by kernel_rfl) (by kernel_rfl) (by kernel_rfl) (by kernel_rfl) (fun _ _ _ h => h) (Or.inl ⟨by rfl, ?_⟩) KP.out ?_
  · intro wq hSw
    obtain ⟨y0, y1, y2, y3⟩ := tw hSw
    go_simp
  (try simp only [Act.put, List.setIfInBounds_toArray, List.set_cons_zero, List.set_cons_succ])
  refine wpAnyT_take (i := 6) (oi := { dst := some 11, op := Op.load 3 (Operand.tmp 10), type := 3, pos := "timers.go:12", after := #[{ on := 5, ground := Ground.data }], guard := none }) (v := .int .i64 x.id) [9, 10, 11, 12] rfl (by kernel_rfl) (by kernel_rfl) (by kernel_rfl) (by kernel_rfl) (fun _ _ _ h => h) (Or.inl ⟨by rfl, ?_⟩) KP.out ?_
  · intro wq hSw
    obtain ⟨y0, y1, y2, y3⟩ := tw hSw
    go_simp
  (try simp only [Act.put, List.setIfInBounds_toArray, List.set_cons_zero, List.set_cons_succ])
  refine wpAnyT_take (i := 7) (oi := { dst := some 12, op := Op.fieldAddr 70 (Operand.tmp 3) 0, type := 0, pos := "timers.go:12", after := #[], guard := none }) (v := .pointer (some ⟨g2, 0, none⟩)) [8, 9, 10, 11, 12] rfl (by kernel_rfl) (by kernel_rfl) (by kernel_rfl) (by kernel_rfl) (fun _ _ _ h => h) (Or.inl ⟨by rfl, ?_⟩) KP.out ?_
  · intro wq hSw
    obtain ⟨y0, y1, y2, y3⟩ := tw hSw
    go_simp
  (try simp only [Act.put, List.setIfInBounds_toArray, List.set_cons_zero, List.set_cons_succ])
  refine wpAnyT_take (i := 8) (oi := { dst := some 13, op := Op.load 3 (Operand.tmp 12), type := 3, pos := "timers.go:12", after := #[{ on := 7, ground := Ground.data }], guard := none }) (v := .int .i64 y.id) [9, 10, 11, 12] rfl (by kernel_rfl) (by kernel_rfl) (by kernel_rfl) (by kernel_rfl) (fun _ _ _ h => h) (Or.inl ⟨by rfl, ?_⟩) KP.out ?_
  · intro wq hSw
    obtain ⟨y0, y1, y2, y3⟩ := tw hSw
    go_simp
  (try simp only [Act.put, List.setIfInBounds_toArray, List.set_cons_zero, List.set_cons_succ])
  refine wpAnyT_one (i := 4) (o := { dst := some 9, op := Op.call { callee := Callee.value (Operand.func 52), args := #[Operand.tmp 6, Operand.tmp 8], argTypes := #[29, 29] }, type := 3, pos := "timers.go:12", after := #[{ on := 1, ground := Ground.data }, { on := 3, ground := Ground.data }], guard := none }) (by kernel_rfl) rfl (fun K hK => ?_)
  go_simp
  go_at_call 52
  refine (compare_any _ _ _ hx hy).mono ?_
  rintro e w3 ⟨rfl, hw3⟩
  rw [hw3]
  clear hw3 w3
  (try go_simp)
  refine hK.out _ _ (fun _ => KP.out) ?_
  clear hK K
  (try simp only [Act.put, List.setIfInBounds_toArray, List.set_cons_zero, List.set_cons_succ])
  refine wpAnyT_one (i := 9) (o := { dst := some 14, op := Op.call { callee := Callee.value (Operand.func 53), args := #[Operand.tmp 11, Operand.tmp 13], argTypes := #[3, 3] }, type := 3, pos := "timers.go:12", after := #[{ on := 6, ground := Ground.data }, { on := 8, ground := Ground.data }, { on := 4, ground := Ground.chain }], guard := none }) (by kernel_rfl) rfl (fun K hK => ?_)
  go_simp
  go_at_call 53
  refine (cmpi_any _ _ _).mono ?_
  rintro e w3 ⟨rfl, hw3⟩
  rw [hw3]
  clear hw3 w3
  (try go_simp)
  refine hK.out _ _ (fun _ => KP.out) ?_
  clear hK K
  (try simp only [Act.put, List.setIfInBounds_toArray, List.set_cons_zero, List.set_cons_succ])
  refine wpAnyT_one (i := 10) (o := { dst := some 15, op := Op.buildSlice 42 2 #[(0, Operand.tmp 9), (1, Operand.tmp 14)], type := 42, pos := "timers.go:12", after := #[{ on := 4, ground := Ground.data }, { on := 9, ground := Ground.data }], guard := none }) (by kernel_rfl) rfl (fun K hK => ?_)
  go_simp
  refine hK.out _ _ (fun _ => Tw.two KP.out (box_below _ _)) ?_
  clear hK K
  (try simp only [Act.put, List.setIfInBounds_toArray, List.set_cons_zero, List.set_cons_succ])
  have B3 := hide (box_below q (.cells #[.int .i64 (cmpB x.b y.b), .int .i64 (cmpZ x.id y.id)] 3))
  have O3 := hide (heap_alloc_new q (.cells #[.int .i64 (cmpB x.b y.b), .int .i64 (cmpZ x.id y.id)] 3))
  have Z3 := hide (KQ.out.trans (B3.out.mono KQ.out.size))
  have K3 := hide (Tw.two KP.out B3.out)
  obtain ⟨o0, o1⟩ := prc O3.out
  clear B3 O3
  generalize q.alloc (.cells #[.int .i64 (cmpB x.b y.b), .int .i64 (cmpZ x.id y.id)] 3) = w3 at *
  generalize q.heap.size = g3 at *
  refine wpAnyT_one (i := 11) (o := { dst := some 16, op := Op.call { callee := Callee.value (Operand.func 51), args := #[Operand.tmp 15], argTypes := #[42] }, type := 3, pos := "timers.go:12", after := #[{ on := 10, ground := Ground.data }, { on := 9, ground := Ground.chain }], guard := none }) (by kernel_rfl) rfl (fun K hK => ?_)
  go_simp
  go_at_call 51
  refine (or_any _ _ _ _ o0 o1).mono ?_
  rintro e w4 ⟨he, hw4⟩
  rw [hT.out] at he
  subst he
  rw [hw4]
  clear hw4 w4
  (try go_simp)
  refine hK.out _ _ (fun _ => K3.out) ?_
  clear hK K
  (try simp only [Act.put, List.setIfInBounds_toArray, List.set_cons_zero, List.set_cons_succ])
  refine wpAnyT_one (i := 12) (o := { dst := some 4, op := Op.assign (Operand.tmp 16), type := 3, pos := "timers.go:12", after := #[{ on := 11, ground := Ground.data }, { on := 11, ground := Ground.chain }, { on := 0, ground := Ground.phase }, { on := 1, ground := Ground.phase }, { on := 2, ground := Ground.phase }, { on := 3, ground := Ground.phase }, { on := 4, ground := Ground.phase }, { on := 5, ground := Ground.phase }, { on := 6, ground := Ground.phase }, { on := 7, ground := Ground.phase }, { on := 8, ground := Ground.phase }, { on := 9, ground := Ground.phase }, { on := 10, ground := Ground.phase }, { on := 11, ground := Ground.phase }], guard := none }) (by kernel_rfl) rfl (fun K hK => ?_)
  go_simp
  refine hK.out _ _ (vac (by kernel_rfl)) ?_
  clear hK K
  (try simp only [Act.put, List.setIfInBounds_toArray, List.set_cons_zero, List.set_cons_succ])
  refine wpAnyT_done (by kernel_rfl) ?_ _
  go_wp2_with fail
  go_ret
  exact ⟨rfl, Z3.out⟩
end Go.Proofs.Ytjplkffghfikgaa.Ck

/-
  byTime, telling the world behind it: blocks alone are laid; it as what sorting asks of a comparison. (gen_CkX.py)
-/
namespace Go.Proofs.Ytjplkffghfikgaa.Ck
open Go.RowKit Rl Go.Sort Go.Shelf
open Ix (wp_region_T wpAnyT wpAnyT_take wpAnyT_one wpAnyT_done vac)
set_option linter.unusedVariables false
/-- Draws and blocks alone. -/
def Grw (w w' : World) : Prop := ∃ q os, w' = grow (w.drewN q) os
theorem Grw.refl (w : World) : Grw w w := ⟨0, #[], by rw [grow_empty]; rfl⟩
theorem Grw.alloc {w w' : World} (h : Grw w w') (o : Obj) : Grw w (w'.alloc o) := by
  obtain ⟨q, os, rfl⟩ := h
  exact ⟨q, os ++ #[o], by rw [alloc_eq_grow, grow_grow]⟩
theorem Grw.drew {w w' : World} (h : Grw w w') : Grw w w'.drew := by
  obtain ⟨q, os, rfl⟩ := h
  exact ⟨q + 1, os, rfl⟩
set_option maxHeartbeats 2000000 in
theorem byTime_grow (w : World) (x y : Tm) (hx : x.b < 18446744073709551616) (hy : y.b < 18446744073709551616) :
    Calls Try.prog 42 #[.agg #[.int .i64 x.id, .float .f64 x.b], .agg #[.int .i64 y.id, .float .f64 y.b]] w fun e w' => e = .returned (.int .i64 (tcmp x y)) ∧ Grw w w' := by
  have B1 := box_below w (.cells #[.int .i64 x.id, .float .f64 x.b] 70)
  have N1 := heap_alloc_new w (.cells #[.int .i64 x.id, .float .f64 x.b] 70)
  have B2 := box_below (w.alloc (.cells #[.int .i64 x.id, .float .f64 x.b] 70)) (.cells #[.int .i64 y.id, .float .f64 y.b] 70)
  have N2 := heap_alloc_new (w.alloc (.cells #[.int .i64 x.id, .float .f64 x.b] 70)) (.cells #[.int .i64 y.id, .float .f64 y.b] 70)
  obtain ⟨w2, hw2⟩ : ∃ w2, Hid ((w.alloc (.cells #[.int .i64 x.id, .float .f64 x.b] 70)).alloc (.cells #[.int .i64 y.id, .float .f64 y.b] 70) = w2) := ⟨_, rfl⟩
  obtain ⟨g1, hg1⟩ : ∃ g1, Hid (w.heap.size = g1) := ⟨_, rfl⟩
  obtain ⟨g2, hg2⟩ : ∃ g2, Hid (g1 + 1 = g2) := ⟨_, rfl⟩
  have KP : Hid (Tw w2.drew g1 x ∧ Tw w2.drew g2 y) := by
    rw [← hw2.out, ← hg2.out, ← hg1.out]
    refine ⟨(B2.block _ (by simp)).trans N1, ?_⟩
    rw [World.size_alloc] at N2
    exact N2
  have KQ : Hid (Grw w w2.drew) := by rw [← hw2.out]; exact (((Grw.refl w).alloc _).alloc _).drew
  clear B1 B2 N1 N2
  have hT : Hid ((if cmpB x.b y.b ≠ 0 then cmpB x.b y.b else cmpZ x.id y.id) = tcmp x y) := rfl
  go_enter Try.func42, Try.ntmps42
  go_upto_region 1 with fail
  rw [hw2.out, hg1.out, hg2.out]
  refine wp_region_T (fun q => Tw q g1 x ∧ Tw q g2 y) 12 (by kernel_rfl) ?_
  generalize w2.drew = q at *
  refine wpAnyT_take (i := 0) (oi := { dst := some 5, op := Op.fieldAddr 70 (Operand.tmp 2) 1, type := 0, pos := "timers.go:12", after := #[], guard := none }) (v := .pointer (some ⟨g1, 1, none⟩)) [1, 4, 10, 11, 12] rfl (by kernel_rfl) (by kernel_rfl) (by kernel_rfl) (by kernel_rfl) (fun _ _ _ h => h) (Or.inl ⟨by rfl, ?_⟩) KP.out ?_
  · intro wq hSw
    obtain ⟨y0, y1, y2, y3⟩ := tw hSw
    go_simp
  (try simp only [Act.put, List.setIfInBounds_toArray, List.set_cons_zero, List.set_cons_succ])
  refine wpAnyT_take (i := 1) (oi := { dst := some 6, op := Op.load 29 (Operand.tmp 5), type := 29, pos := "timers.go:12", after := #[{ on := 0, ground := Ground.data }], guard := none }) (v := .float .f64 x.b) [4, 10, 11, 12] rfl (by kernel_rfl) (by kernel_rfl) (by kernel_rfl) (by kernel_rfl) (fun _ _ _ h => h) (Or.inl ⟨by rfl, ?_⟩) KP.out ?_
  · intro wq hSw
    obtain ⟨y0, y1, y2, y3⟩ := tw hSw
    go_simp
  (try simp only [Act.put, List.setIfInBounds_toArray, List.set_cons_zero, List.set_cons_succ])
  refine wpAnyT_take (i := 2) (oi := { dst := some 7, op := Op.fieldAddr 70 (Operand.tmp 3) 1, type := 0, pos := "timers.go:12", after := #[], guard := none }) (v := .pointer (some ⟨g2, 1, none⟩)) [3, 4, 10, 11, 12] rfl (by kernel_rfl) (by kernel_rfl) (by kernel_rfl) (by kernel_rfl) (fun _ _ _ h => h) (Or.inl ⟨by rfl, ?_⟩) KP.out ?_
  · intro wq hSw
    obtain ⟨y0, y1, y2, y3⟩ := tw hSw
    go_simp
  (try simp only [Act.put, List.setIfInBounds_toArray, List.set_cons_zero, List.set_cons_succ])
  refine wpAnyT_take (i := 3) (oi := { dst := some 8, op := Op.load 29 (Operand.tmp 7), type := 29, pos := "timers.go:12", after := #[{ on := 2, ground := Ground.data }], guard := none }) (v := .float .f64 y.b) [4, 10, 11, 12] rfl (by kernel_rfl) (by kernel_rfl) (by kernel_rfl) (by kernel_rfl) (fun _ _ _ h => h) (Or.inl ⟨by rfl, ?_⟩) KP.out ?_
  · intro wq hSw
    obtain ⟨y0, y1, y2, y3⟩ := tw hSw
    go_simp
  (try simp only [Act.put, List.setIfInBounds_toArray, List.set_cons_zero, List.set_cons_succ])
  refine wpAnyT_take (i := 5) (oi := { dst := some 10, op := Op.fieldAddr 70 (Operand.tmp 2) 0, type := 0, pos := "timers.go:12", after := #[], guard := none }) (v := .pointer (some ⟨g1, 0, none⟩)) [6, 9, 10, 11, 12] rfl (by kernel_rfl) (by kernel_rfl) (by kernel_rfl) (by kernel_rfl) (fun _ _ _ h => h) (Or.inl ⟨by rfl, ?_⟩) KP.out ?_
  · intro wq hSw
    obtain ⟨y0, y1, y2, y3⟩ := tw hSw
    go_simp
  (try simp only [Act.put, List.setIfInBounds_toArray, List.set_cons_zero, List.set_cons_succ])
  refine wpAnyT_take (i := 6) (oi := { dst := some 11, op := Op.load 3 (Operand.tmp 10), type := 3, pos := "timers.go:12", after := #[{ on := 5, ground := Ground.data }], guard := none }) (v := .int .i64 x.id) [9, 10, 11, 12] rfl (by kernel_rfl) (by kernel_rfl) (by kernel_rfl) (by kernel_rfl) (fun _ _ _ h => h) (Or.inl ⟨by rfl, ?_⟩) KP.out ?_
  · intro wq hSw
    obtain ⟨y0, y1, y2, y3⟩ := tw hSw
    go_simp
  (try simp only [Act.put, List.setIfInBounds_toArray, List.set_cons_zero, List.set_cons_succ])
  refine wpAnyT_take (i := 7) (oi := { dst := some 12, op := Op.fieldAddr 70 (Operand.tmp 3) 0, type := 0, pos := "timers.go:12", after := #[], guard := none }) (v := .pointer (some ⟨g2, 0, none⟩)) [8, 9, 10, 11, 12] rfl (by kernel_rfl) (by kernel_rfl) (by kernel_rfl) (by kernel_rfl) (fun _ _ _ h => h) (Or.inl ⟨by rfl, ?_⟩) KP.out ?_
  · intro wq hSw
    obtain ⟨y0, y1, y2, y3⟩ := tw hSw
    go_simp
  (try simp only [Act.put, List.setIfInBounds_toArray, List.set_cons_zero, List.set_cons_succ])
  refine wpAnyT_take (i := 8) (oi := { dst := some 13, op := Op.load 3 (Operand.tmp 12), type := 3, pos := "timers.go:12", after := #[{ on := 7, ground := Ground.data }], guard := none }) (v := .int .i64 y.id) [9, 10, 11, 12] rfl (by kernel_rfl) (by kernel_rfl) (by kernel_rfl) (by kernel_rfl) (fun _ _ _ h => h) (Or.inl ⟨by rfl, ?_⟩) KP.out ?_
  · intro wq hSw
    obtain ⟨y0, y1, y2, y3⟩ := tw hSw
    go_simp
  (try simp only [Act.put, List.setIfInBounds_toArray, List.set_cons_zero, List.set_cons_succ])
  refine wpAnyT_one (i := 4) (o := { dst := some 9, op := Op.call { callee := Callee.value (Operand.func 52), args := #[Operand.tmp 6, Operand.tmp 8], argTypes := #[29, 29] }, type := 3, pos := "timers.go:12", after := #[{ on := 1, ground := Ground.data }, { on := 3, ground := Ground.data }], guard := none }) (by kernel_rfl) rfl (fun K hK => ?_)
  go_simp
  go_at_call 52
  refine (compare_any _ _ _ hx hy).mono ?_
  rintro e w3 ⟨rfl, hw3⟩
  rw [hw3]
  clear hw3 w3
  (try go_simp)
  refine hK.out _ _ (fun _ => KP.out) ?_
  clear hK K
  (try simp only [Act.put, List.setIfInBounds_toArray, List.set_cons_zero, List.set_cons_succ])
  refine wpAnyT_one (i := 9) (o := { dst := some 14, op := Op.call { callee := Callee.value (Operand.func 53), args := #[Operand.tmp 11, Operand.tmp 13], argTypes := #[3, 3] }, type := 3, pos := "timers.go:12", after := #[{ on := 6, ground := Ground.data }, { on := 8, ground := Ground.data }, { on := 4, ground := Ground.chain }], guard := none }) (by kernel_rfl) rfl (fun K hK => ?_)
  go_simp
  go_at_call 53
  refine (cmpi_any _ _ _).mono ?_
  rintro e w3 ⟨rfl, hw3⟩
  rw [hw3]
  clear hw3 w3
  (try go_simp)
  refine hK.out _ _ (fun _ => KP.out) ?_
  clear hK K
  (try simp only [Act.put, List.setIfInBounds_toArray, List.set_cons_zero, List.set_cons_succ])
  refine wpAnyT_one (i := 10) (o := { dst := some 15, op := Op.buildSlice 42 2 #[(0, Operand.tmp 9), (1, Operand.tmp 14)], type := 42, pos := "timers.go:12", after := #[{ on := 4, ground := Ground.data }, { on := 9, ground := Ground.data }], guard := none }) (by kernel_rfl) rfl (fun K hK => ?_)
  go_simp
  refine hK.out _ _ (fun _ => Tw.two KP.out (box_below _ _)) ?_
  clear hK K
  (try simp only [Act.put, List.setIfInBounds_toArray, List.set_cons_zero, List.set_cons_succ])
  have B3 := hide (box_below q (.cells #[.int .i64 (cmpB x.b y.b), .int .i64 (cmpZ x.id y.id)] 3))
  have O3 := hide (heap_alloc_new q (.cells #[.int .i64 (cmpB x.b y.b), .int .i64 (cmpZ x.id y.id)] 3))
  have Z3 := hide (KQ.out.alloc (.cells #[.int .i64 (cmpB x.b y.b), .int .i64 (cmpZ x.id y.id)] 3))
  have K3 := hide (Tw.two KP.out B3.out)
  obtain ⟨o0, o1⟩ := prc O3.out
  clear B3 O3
  generalize q.alloc (.cells #[.int .i64 (cmpB x.b y.b), .int .i64 (cmpZ x.id y.id)] 3) = w3 at *
  generalize q.heap.size = g3 at *
  refine wpAnyT_one (i := 11) (o := { dst := some 16, op := Op.call { callee := Callee.value (Operand.func 51), args := #[Operand.tmp 15], argTypes := #[42] }, type := 3, pos := "timers.go:12", after := #[{ on := 10, ground := Ground.data }, { on := 9, ground := Ground.chain }], guard := none }) (by kernel_rfl) rfl (fun K hK => ?_)
  go_simp
  go_at_call 51
  refine (or_any _ _ _ _ o0 o1).mono ?_
  rintro e w4 ⟨he, hw4⟩
  rw [hT.out] at he
  subst he
  rw [hw4]
  clear hw4 w4
  (try go_simp)
  refine hK.out _ _ (fun _ => K3.out) ?_
  clear hK K
  (try simp only [Act.put, List.setIfInBounds_toArray, List.set_cons_zero, List.set_cons_succ])
  refine wpAnyT_one (i := 12) (o := { dst := some 4, op := Op.assign (Operand.tmp 16), type := 3, pos := "timers.go:12", after := #[{ on := 11, ground := Ground.data }, { on := 11, ground := Ground.chain }, { on := 0, ground := Ground.phase }, { on := 1, ground := Ground.phase }, { on := 2, ground := Ground.phase }, { on := 3, ground := Ground.phase }, { on := 4, ground := Ground.phase }, { on := 5, ground := Ground.phase }, { on := 6, ground := Ground.phase }, { on := 7, ground := Ground.phase }, { on := 8, ground := Ground.phase }, { on := 9, ground := Ground.phase }, { on := 10, ground := Ground.phase }, { on := 11, ground := Ground.phase }], guard := none }) (by kernel_rfl) rfl (fun K hK => ?_)
  go_simp
  refine hK.out _ _ (vac (by kernel_rfl)) ?_
  clear hK K
  (try simp only [Act.put, List.setIfInBounds_toArray, List.set_cons_zero, List.set_cons_succ])
  refine wpAnyT_done (by kernel_rfl) ?_ _
  go_wp2_with fail
  go_ret
  exact ⟨rfl, Z3.out⟩
/-- Timers whose times are 64 bits. -/
abbrev T6 := { t : Tm // t.b < 18446744073709551616 }
instance : Inhabited T6 := ⟨⟨⟨0, 0⟩, by show 0 < _; omega⟩⟩
def enc6 (t : T6) : List Value := [.int .i64 t.1.id, .float .f64 t.1.b]
def cf6 (x y : T6) : Int := tcmp x.1 y.1
theorem lt6 (x y : T6) : ltOf cf6 x y = decide (Lt x.1 y.1) := by
  unfold ltOf cf6
  rw [decide_eq_decide]
  exact tcmp_lt _ _
theorem swo6 : SWO (ltOf cf6) where
  irrefl x := by rw [lt6]; exact decide_eq_false (Lt.irr _)
  trans x y z h1 h2 := by rw [lt6] at *; exact decide_eq_true (Lt.trans (of_decide_eq_true h1) (of_decide_eq_true h2))
  ntrans x y z h1 h2 := by rw [lt6] at *; exact decide_eq_false (Lt.ntrans (of_decide_eq_false h1) (of_decide_eq_false h2))
theorem cmp6 (blk off size : Nat) (w : World) : CmpLays Try.prog 42 #[] enc6 2 cf6 blk off size w :=
  fun _ _ _ _ x y => byTime_grow _ x.1 y.1 x.2 y.2
end Go.Proofs.Ytjplkffghfikgaa.Ck

/-
  Swap of the timers.
-/
namespace Go.Proofs.Ytjplkffghfikgaa.Ck
open Go.RowKit Rl
theorem len_any (w : World) (ao : Option Addr) (n ca : Nat) : Calls Try.prog 95 #[.slice ao n ca] w fun e w' => e = .returned (.int .i64 (n : Int)) ∧ w' = w := by
  go_enter Try.func95, Try.ntmps95
  go_wp2
  go_ret
  exact ⟨rfl, rfl⟩
theorem Tms.frozen {w : World} {b n ca : Nat} {l : List Tm} (h : Tms w (.slice (some ⟨b, 0, none⟩) n ca) l) (i : Nat) : w.frozen? ⟨b, i, none⟩ = false := by
  rcases h.2 with ⟨e, _⟩ | ⟨g', cap, cur, e, hg, hh, a, b', c, d⟩
  · simp at e
  · simp at e
    obtain ⟨rfl, rfl, rfl⟩ := e
    simp [World.frozen?, hh]
theorem _root_.Go.Proofs.Ytjplkffghfikgaa.But.drewB {X : Nat → Prop} {A B : World} (h : But X A B) : But X A B.drew := ⟨h.os, h.tape, h.output, h.size, h.block⟩
/-- What Swap leaves. -/
def swW (w : World) (b i j : Nat) (x y : Tm) : World := (((w.setCell ⟨b, i * 2, none⟩ (.int .i64 y.id)).setCell ⟨b, i * 2 + 1, none⟩ (.float .f64 y.b)).setCell ⟨b, j * 2, none⟩ (.int .i64 x.id)).setCell ⟨b, j * 2 + 1, none⟩ (.float .f64 x.b)
/-- A block of n cells that may be written. -/
def Wr (w : World) (b n : Nat) : Prop := ∃ cs T, w.heap[b]? = some (.cells cs T (0, 0)) ∧ cs.size = n
theorem Wr.put {w : World} {b n : Nat} (h : Wr w b n) (o : Nat) (v : Value) : Wr (w.setCell ⟨b, o, none⟩ v) b n := by
  obtain ⟨cs, T, h1, h2⟩ := h
  exact ⟨_, T, heap_setCell_same w b o _ _ _ h1, by simpa using h2⟩
theorem Wr.cell {w : World} {b n : Nat} (h : Wr w b n) (o : Nat) (ho : o < n) : ∃ v, w.cell? ⟨b, o, none⟩ = some v := by
  obtain ⟨cs, T, h1, rfl⟩ := h
  exact ⟨cs[o], by rw [cell_of h1]; simp [ho]⟩
theorem Wr.frozen {w : World} {b n : Nat} (h : Wr w b n) (o : Nat) : w.frozen? ⟨b, o, none⟩ = false := by
  obtain ⟨cs, T, h1, _⟩ := h
  simp [World.frozen?, h1]
theorem Tms.wr {w : World} {b n ca : Nat} {l : List Tm} (h : Tms w (.slice (some ⟨b, 0, none⟩) n ca) l) (hl : l ≠ []) : Wr w b (ca * 2) ∧ l.length ≤ ca := by
  obtain ⟨b', ca', cs, e, hh, hs, _, hle, _⟩ := h.at hl
  simp at e
  obtain ⟨rfl, _, rfl⟩ := e
  exact ⟨⟨cs, _, hh, hs⟩, hle⟩
set_option maxHeartbeats 4000000 in
set_option maxRecDepth 100000 in
theorem swap_any (w : World) (b n ca i j : Nat) (l : List Tm) (h : Tms w (.slice (some ⟨b, 0, none⟩) n ca) l) (hn : n = l.length) (hi : i < n) (hj : j < n) :
    Calls Try.prog 97 #[.slice (some ⟨b, 0, none⟩) n ca, .int .i64 (i : Int), .int .i64 (j : Int)] w fun e w' => e = .returned (.tuple #[]) ∧ Tms w' (.slice (some ⟨b, 0, none⟩) n ca) (sw l i j) ∧ But (fun k => k = b) w w' := by
  have hil : i < l.length := by omega
  have hjl : j < l.length := by omega
  obtain ⟨c0, c1⟩ := h.read i hil
  obtain ⟨d0, d1⟩ := h.read j hjl
  have i0 : (0 : Int) ≤ (i : Int) := by omega
  have i1 : (i : Int) < (n : Int) := by omega
  have j0 : (0 : Int) ≤ (j : Int) := by omega
  have j1 : (j : Int) < (n : Int) := by omega
  obtain ⟨W0, hca⟩ := h.wr (fun c => by rw [c] at hil; simp at hil)
  have W1 := W0.put (i * 2) (.int .i64 (g l j).id)
  have W2 := W1.put (i * 2 + 1) (.float .f64 (g l j).b)
  have W3 := W2.put (j * 2) (.int .i64 (g l i).id)
  obtain ⟨x1, p1⟩ := W1.cell (i * 2 + 1) (by omega)
  obtain ⟨x2, p2⟩ := W2.cell (j * 2) (by omega)
  obtain ⟨x3, p3⟩ := W3.cell (j * 2 + 1) (by omega)
  have f0 := W0.frozen (i * 2)
  have f1 := W1.frozen (i * 2 + 1)
  have f2 := W2.frozen (j * 2)
  have f3 := W3.frozen (j * 2 + 1)
  have R1 := (h.set i (g l j)).set j (g l i)
  have R2 : But (fun k => k = b) w (swW w b i j (g l i) (g l j)) := (((But.of_grownBy (grown_setCell w b (i * 2) (.int .i64 (g l j).id)) fun k e => by cases e; rfl).trans (But.of_grownBy (grown_setCell _ b (i * 2 + 1) (.float .f64 (g l j).b)) fun k e => by cases e; rfl)).trans (But.of_grownBy (grown_setCell _ b (j * 2) (.int .i64 (g l i).id)) fun k e => by cases e; rfl)).trans (But.of_grownBy (grown_setCell _ b (j * 2 + 1) (.float .f64 (g l i).b)) fun k e => by cases e; rfl)
  have HR := hide (And.intro R1 R2)
  clear h R1 R2 W0 W1 W2 W3 hca hn hi hj hil hjl
  have sf : ∀ (W : World) (a : Addr) (x : Nat), (store a (.float .f64 x)).run Try.prog W = stored Try.prog W a (.float .f64 x) .plain := fun W a x => run_store _ W a _ _ rfl
  go_enter Try.func97, Try.ntmps97
  go_region
  all_goals
    go_end0
    exact ⟨rfl, HR.out.1, HR.out.2.drewB⟩
end Go.Proofs.Ytjplkffghfikgaa.Ck

